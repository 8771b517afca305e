import PyProof.Rows.All
import Wide.All
import OpenK.AllK
import Wide.FinOn
import Lean
import PyProof.EqAt
import PyProof.EqKinds
import PyProof.TupleCall
import PySem.SetOps
import PyProof.TupleKey
import PyProof.SetKind
import PyProof.IsRules
import PyProof.Rows.SetFrom
import PyProof.DictWalks
import PyProof.CollectWalk
import PyProof.Rows.SortWalk
import PyProof.Rows.SortShell
import PyProof.NeKinds
import KE.KEqDict
import PyProof.SetRoads
import PyProof.AutoListH
import PyProof.DictValues
import PyProof.DictItems
import PyProof.DictItemsLoops
import KE.RegKIsAll
import KE.RegKTryMore
import PySem.Challenge.RW_nohalfway_k36_two_runs
set_option bootstrap.genMatcherCode false
set_option genSizeOf false
set_option compiler.extract_closed false
open PySem.Str renaming ofString -> AL, ofString -> So
open List renaming getElem?_eq_getElem -> CT, getElem?_cons_zero -> Da, getD_eq_getElem?_getD -> Ef, getElem?_cons_succ -> ES, length_map -> Ch, size_toArray -> DU, length_cons -> DV, length_append -> EM, getElem?_map -> E7, getElem?_append_left -> GR, append_assoc -> ET, map_cons -> DC, prefix_append -> Ez, range -> Cn, mem_cons_of_mem -> Gy, length_nil -> FK, mem_append_right -> IA, mem_cons_self -> Hg, mem_append_left -> J2, replicate -> Gd, cons_append -> HT, getElem?_eq_none -> Jl, getElem?_set_self -> L3, mem_append -> I0, getElem?_append_right -> NJ, map_append -> IE, mem_of_getElem? -> Lk, getElem_mem -> Jm, mem_cons -> IF, getElem?_set_ne -> MR, map_nil -> I1, mem_singleton -> Ll, append_nil -> L2, set_cons_zero -> NH, take_append_drop -> P_, not_mem_nil -> NI, nil_append -> NF, length_take -> OD, replicate_succ -> R2, flatten_cons -> Pd, mapM_cons -> NL, set_cons_succ -> R4, all_eq_true -> Pg, filterMap_cons -> Sn, map_congr_left -> Sj, getElem?_range -> Sk, take_of_length_le -> Uz, nodup_iff_pairwise_ne -> Yl, filter_cons -> Qw, length_replicate -> V0, take_succ_eq_append_getElem -> hV, find?_cons -> Qz, pairwise_map -> Sl, all_map -> OI, getElem?_replicate -> Yh, getElem_of_mem -> Uy, length_eraseIdx_of_lt -> h_, mem_of_mem_drop -> Z5, nodup_nil -> Ss, drop_eq_getElem_cons -> hb, mergeSort_perm -> Yu, mem_singleton_self -> hW, prefix_rfl -> V6, length_pos_of_mem -> hY, lookup -> R9, reverse_cons -> Yz, eraseIdxIfInBounds_toArray -> tE, take_add_one -> Yt, eraseIdx_eq_take_drop_succ -> tB, findSome?_append -> hv, singleton_append -> hx, getElem_inj -> ZD, length_drop -> ZE, lookup_cons -> ZF, eq_nil_of_length_eq_zero -> tS, mem_of_mem_take -> hy, getElem?_of_mem -> i0, all_cons -> VJ, map_take -> VL, range_succ -> Z8, lookup_append -> hr, mem_map -> VH, length_mapIdx -> hs, mem_of_find?_eq_some -> tP, length_erase_of_mem -> tI, nodup_append -> hk, ext_getElem? -> ht, length_range -> iA, length -> VP, eraseIdx_cons_succ -> tu, take_length -> iF, of_mem_zip -> i4, length_singleton -> tZ, getElem?_toArray -> td, dropLast_eq_take -> tg, zipWith_map_left -> tj, set_append_right -> tk, filterMap_append -> tl, mem_erase_of_ne -> tm, range_eq_range' -> tn, set_append_left -> tW, forall_mem_cons -> tX, any_cons -> iO, map_drop -> iV, mapM_nil -> iW, map_map -> iL
open PySem.W renaming Frag -> At, kia_one -> JO, findIn -> Ji, keepIn -> KL, nsIn -> JN, emptyDict -> OG, fnOf -> KM, codeIn -> NK, instObj -> Pi, plainGet -> Sh, methodCall_KW -> Z2, hasDictIn -> VC, mg_of -> RB, callWith_K -> Yv, plainOver -> Yy, exmOne -> V5, excIn -> VI, hideAll -> ZG, plainGet_of -> i1, isFn -> VG, lookIn -> Z9, kitOne -> ZA, methodObj -> hc, cellsFrom_some -> tx, takerIn -> iG, makesIn -> i3, OpenLaw -> i6, hideAll_get -> tY, of_hideAll -> u4, kitx_tuple -> u5, WalkO -> iQ, kitx_none -> u9, kitx_bool -> uA, kitx_list -> uB, kitx_dict -> uC
open PySem renaming wpAny_bind -> Ad, Value -> A9, Shared -> AS, wpAny_pure -> B_, Addr -> A7, starEach -> C8, sizeLine -> CO, wpAny -> An, Program -> C9, model -> B4, mainGlobals -> Ff, World -> Bl, Expr -> Ah, wpAny_newObj_type -> Lm, compareOp -> GS, tupleKeyHash -> Ic, attributeBase -> JM, mem_of_lookup -> NG, Around -> DE, wpAny_truthy_bool -> MQ, wpAny_mono -> Hh, foldedSetIterable -> OF, keywordEach -> Jh, wpAny_callSpecial?_slot -> Sc, Heap -> BF, Stmt -> BG, wpAny_call_entry -> OE, cellsFrom -> IB, eval -> BM, strIterType -> KN, behindInMarks -> MT, wpAny_holding -> MU, wpAny_typeNameOfWhole_keyiter -> Yq, backTo -> F8, FuncData -> I2, sysModules -> KO, sizeLine_eq -> Ln, wpAny_field -> MS, wpAny_seqItems -> Pc, cLine -> E8, SetTable -> J3, assignEach -> Lo, wpAny_passesOwn -> Qy, wpAny_typeNameOf_keyiter -> Yp, bootBuiltins -> OH, DictEntry -> L5, binaryOp -> Jn, backToKw -> Jp, wpAny_Call_Name_kw -> V8, tupleKind_room_in1 -> V9, wpAny_setField_rec -> VA, wpAny_execs_nil -> Sq, codeAny_builtin -> Sr, wpAny_setState_of -> VF, NameKind -> L6, Scope -> FS, holding -> JQ, codeAny_mono -> R7, call_meets -> ON, IsTupleKey -> OO, Keyword -> Jo, sliceBounds -> RA, wpAny_Call_method -> Z0, ofAClassStatement -> Z1, carriedByValue -> V4, swapsWith -> OJ, getMethod -> OK, call_meetsIn -> Sp, letOwnedTupleGo -> ZH, evalArgs_none -> hp, relabel -> Lp, step -> Do, standAt -> MX, codeAny -> MY, wpAny_setField -> ZB, firstArgMember -> ZC, wpAny_pyIter_list -> hl, wpAny_dictEntries -> hn, callWith -> Po, plainId_quiet -> ZN, wpAny_execs_cons -> iB, assign -> L7, wpAny_isInstance -> iC, wpAny_forIn_list -> iE, wpAny_typeOf -> ZL, seqIndex? -> Su, wpAny_specialOf -> i5, wpAny_dictEpoch -> i7, newFunctionEnv -> i2, getItem -> Pk, subscripted -> ZJ, valueAt -> Pl, callerA -> Pm, notedBy -> Pn, hashByValue -> ZM, KeyKind -> iN, rawInt -> NN, IsPair -> NO, call -> ZP, Within -> iH, pyNext -> OQ
open PySem.Heap renaming get?_push_of_some -> Cy, get?_push_size -> Fe, lt_size -> Dk, size_push -> Li, SameBut -> L1, get?_update_self -> Sm, get?_update_other -> Yj
open Nat renaming le_refl -> C1, lt_of_lt_of_le -> GG, ne_of_lt -> F7, reduceAdd -> HU, le_trans -> IG, zero_le -> IC, lt_irrefl -> Jj, lt_of_le_of_lt -> R3, lt_succ_self -> Pf, le_add_right -> Ph, add_le_add_left -> Ux, lt_of_lt_of_eq -> VB, le_of_lt -> Pj, le_succ -> OP, lt_succ_of_lt -> VE, ne_of_gt -> R6, reduceLT -> R8, reduceSub -> VK, le_of_lt_succ -> hj, le_of_eq -> ZK, le_of_ble_eq_true -> ta, min_eq_left -> i9, mod_lt -> VN, lt_trans -> iK
open PySem.Value renaming ref -> Cv, none -> JP, type -> OL, bool -> RC, int -> Sv, str -> Sw, float -> iM
open Option.some renaming inj -> Gc
open Array renaming getElem?_eq_getElem -> Lj, getD_eq_getD_getElem? -> Se, length_toList -> R1, getElem?_toList -> Z3, append_assoc -> hq
open Bool renaming and_eq_true -> Hz, false_ne_true -> L4, false_eq_true -> MP, and_false -> V3, eq_iff_iff -> Z6, false_or -> iP, not_true -> iS, true_and -> iT, and_true -> iU
open PyProof.Rows renaming callWith_type1 -> Qv, IsTup -> Yx, slot_tuple_getitem -> tD, kindOf -> KP, AllBare -> NM, Call_ -> u7, IntsAre -> RD, envOfC -> OR
open PySem.NameKind renaming free -> Jk
open False renaming elim -> Hi
open True renaming intro -> ID
open PySem.Builtin.SmallTypes renaming nextOf -> Sf, ownedTupleHandOut -> tF, ownedTupleIsFree -> tC
open PySem.F renaming plainAttrs_list -> Sd, slot_dict_keyiterator_next -> Yr, slot_tuple_iterator_next -> Yk, plainAttrs_dict -> Yi, slot_dict_get -> hZ, args_dict_keyiterator_next_1 -> tQ, entry_dict_keyiterator_next -> tR, slot_dict_itemiterator_iter -> tT, args_tuple_iterator_next_1 -> tU, entry_tuple_iterator_next -> tJ, slot_dict_delitem -> tO, args_tuple_add_2 -> tH, entry_tuple_add -> tr, args_dict_get_2 -> tv, slot_tuple_add -> u0, entry_dict_get -> u1, slot_dict_pop -> t_, slot_list_pop -> th, type_list_pop -> ti
open PySem.Calls renaming callWith_builtin -> Sg, spliced_cons -> V7, spliced_nil -> VD, evalArgs_plain -> Z4, Name_function_global -> tL
open Function renaming comp_def -> Pe, comp -> Pa
open Classical renaming byContradiction -> V2
open Int renaming toNat_natCast -> R5, fdiv_eq_ediv_of_nonneg -> tM
open ForInStep renaming yield -> Pb
open PySem.Heap.SameBut renaming update -> Si
open Option renaming getD_some -> Qx, map_some -> R0, isNone_iff_eq_none -> tG, isSome_map -> hg, bind_some -> iD, isSome_some -> u6
open PySem.Builtin.Slice renaming slicePlaces -> Ym, sliceAdjust -> ha, sliceApplied -> tN
open PySem.Around renaming under_plainId -> V1, under -> iI
open PySem.Builtin.Tuple renaming tupleExact -> Yn
open PySem.Builtin.List renaming listTooLong -> Yo, listExtendWith -> tK, listSameRef -> tp
open PySem.Obj renaming mapSeq -> OM, data_mapFields -> Yw, isFreed_of_fields -> tc
open PyProof.Rows.F renaming plain_set_update_loop -> hX, entry_set_update_loop -> tw
open PySem.SetTable renaming insertAt -> Ys, leap -> iR, sizeAbove -> u8
open List.Perm renaming append_left -> hu
open PySem.Builtin.Dict_items renaming ownsTuple -> tV
open Sum.inl renaming injEq -> VM
open Ne renaming symm -> Lq
open PySem.PassesOwn renaming never -> Z7
open Sum renaming inl -> MV, inr -> MW
open PySem.Builtin.Range renaming rangeSize -> tq
open PySem.SeqAt renaming ne_of_list_tuple -> u2, RcAt -> VO, EqAt -> ZO
open PySem.Data renaming cell -> Sx, fields -> ZI
open PySem.Builtin.Dict renaming showsAll -> tf
open List.cons renaming injEq -> i8
open List.Pairwise renaming nil -> u3
open PySem.Code renaming isFrame -> iJ
set_option Elab.async false
set_option linter.all false
set_option maxRecDepth 100000
noncomputable section
set_option hygiene false in
local macro_rules|`(π)=>`((I 0))|`(ς)=>`(↥(.int (a:Int)))|`(τ)=>`((pu (.int 2)))|`(υ)=>`((A0 (I 1) A2))|`(χ)=>`(↥(.ref ⇑h))|`(ψ)=>`(↥(.int (j:Int)))|`(ω)=>`((A0 (I 2) A2))|`(Γ)=>`((A0 π A2))|`(Δ)=>`((EW S.done d.1:Nat))|`(Θ)=>`((A1 A8 π (pu (.str (AL "letters")))))|`(Ξ)=>`(↥(.ref n))|`(Φ)=>`((As true))|`(Ψ)=>`((I 1))|`(Ω)=>`((B4 prog w))|`(ac)=>`((I 2))|`(Cl)=>`((I 3))|`(Fr)=>`((A1 A8 π (pu (.str (AL "done")))))|`(Tm)=>`((.AN true,h))|`(Ty)=>`((pu (.non)))|`(XL)=>`((I 4))|`(ST)=>`((B7 (pu (.AN false))))|`(KK)=>`(↥(.ref P.q))
set_option hygiene false in
local macro_rules|`(γ)=>`(by simp)|`(δ)=>`(by lia)|`(ε)=>`(by decide)|`(ζ)=>`((pu (.int 1)))|`(η)=>`((pu (.int 0)))|`(ο)=>`(⟨_,rfl⟩)|`(θ)=>`(Inv X A4 σ H s)|`(ι)=>`(↥(.ref C.r))|`(μ)=>`(↑(A7×Obj))|`(ν)=>`(↑(Ae×Ae))|`(ξ)=>`((B4 X.prog X.w))
set_option hygiene false in
local macro_rules|`(($e :))=>`(by simpa using $e)
set_option hygiene false in
local macro_rules|`(tactic|erw [$[$a:term],*])=>`(tactic|simp only [$[$a:term],*])|`(tactic|erw [$[$a:term],*]$l:location)=>`(tactic|simp only [$[$a:term],*]$l:location)
set_option hygiene false in
local macro_rules|`(tactic|ac_nf)=>`(tactic|(unfold CL;intros;ac_rfl))
set_option hygiene false in
local macro_rules|`(tactic|exists $a)=>`(tactic|have:=$a P w base T)|`(tactic|exists $k,$m,$a,$b)=>`(tactic|(have h:=Ey (P:=P) (w:=w) (base:=base) (k:=$k) (m:=$m) $a $b;refine h ?_;have:=$b))
set_option hygiene false in
local macro_rules|`(tactic|nofun)=>`(tactic|(intro X Di hw A_ AI i A4 s σ H E J hf st Am;subst Di hw A_))
set_option hygiene false in
local macro_rules|`(⇑$x)=>`(($x).length)|`(↥$x)=>`(some $x)|`(↑$x)=>`(List $x)
set_option hygiene false in
local macro_rules| `(tactic|ac_rfl)=> `(tactic|repeat' first
 |(show Ab _ _ _ _;first|refine aic ?_|(show Ab _ _ (.Name _ _) _;first|exact aik _|exact PY (Dl.Vr ‹_›)|exact PY (Dl.T2 ‹_›)|exact PY (Dl.T3 ‹_›)|exact PY (Dl.Vs ‹_›)|exact PY (Dl.T4 ‹_›)|exact PY (Dl.RJ ‹_›)|exact PY (Dl.T5 ‹_›)|exact PY (Dl.Mh ‹_›)|exact PY (Dl.PK ‹_›))|(show Ab _ _ (.Constant _ _ _) _;first|exact aha|exact ahs|exact aid|exact ajI)|(show Ab _ _ (.BinOp _ _ _ _) _;first|refine ahn ?_ ?_|refine aif ?_ ?_|refine ajC ?_ ?_|refine ahV ?_ ?_|refine ajB ?_ ?_|refine ajP ?_ ?_|refine ai_ ?_ ?_|refine ahq ?_ ?_)|(show Ab _ _ (.Compare _ _ _ _) _;first|refine ahU (DD.units ‹_›) ?_|refine ajE (DD.units ‹_›) ?_|refine ahT (DD.units ‹_›) ?_ ?_|refine ajD (DD.units ‹_›) ?_ ?_|refine aj7 ?_ ?_|refine aj1 ?_ ?_|refine ahX ?_ ?_|refine ahW ?_ ?_|refine ai1 ?_ ?_|refine ajK ?_ ?_|refine ahZ (DD.units ‹_›) ?_ ?_|refine ajH (DD.units ‹_›) ?_ ?_|refine sT Qg Qg Tq Tq ?_ ?_ ?_|refine sT Qg be Tq o2 ?_ ?_ ?_)|(show Ab _ _ (.BoolOp _ _ _) _;first|refine ahp ?_ ?_|refine ajM ?_ ?_|refine ajL ?_)|(show Ab _ _ (.UnaryOp _ _ _) _;first|refine ajJ ?_|refine ajF ?_)|(show Ab _ _ (.IfExp _ _ _ _) _;first|refine ahY ?_ ?_ ?_)|(show Ab _ _ (.Attribute _ _ _) _;first|refine gr (Dl.md ‹_›) ?_|refine gr (Dl.me ‹_›) ?_|refine gr (Dl.mh ‹_›) ?_)|(show Ab _ _ (.Subscript _ _ _) _;first|refine aj0 (DD.units ‹_›) ?_ ?_ g0|refine aia ?_ ?_ ?_)|(show Ab _ _ (.Tuple _ _ _) _;first|refine aii ?_)|(show Ab _ _ (.List _ _) _;first|refine aj6 ?_)|(show Ab _ _ (.Dict _ _ _) _;first|refine ai0 ?_|exact ahy|exact ahz)|(show Ab _ _ (.ListComp _ _ _ _) _;first|refine ahw _ _ (by rfl) ?_ ?_ ?_ (λ_ _ _ _ _ _ _=>?_)|refine ahv _ _ (by rfl) ?_ ?_ ?_ (λ_ _ _ _ _ _ _=>?_))|(show Ab _ _ (.Call (.Name _ _) _ _ _) _;first|refine aht ‹_› (DD.mono ‹_› ε) ?_|refine aj8 ‹_› (DD.mono ‹_› ε) ?_|refine aho ‹_› (Dl.uh ‹_›) ?_|refine Xq (Wz _ ε) (Dl.Vn ‹_›) (Dl.ui ‹_›) (by kernel_rfl) ?_|refine aih (Dl.jh ‹_›) ?_|refine Xq (Wz _ ε) (Dl.Vn ‹_›) (Dl.jh ‹_›) (by kernel_rfl) ?_|refine aj3 ‹_› (Dl.j4 ‹_›) (Dl.uk ‹_›) ?_|refine aj2 (Dl.j4 ‹_›) ?_|refine aj5 (Dl.cZ ‹_›) (Dl.d5 ‹_›) ?_|refine aj4 (Dl.cZ ‹_›) ?_|refine Xq (Wz _ ε) (Dl.Vn ‹_›) (Dl.cZ ‹_›) (by kernel_rfl) ?_|refine aib (Dl.ul ‹_›) ?_|refine aie (Dl.j5 ‹_›) ?_|refine Xq (Wz _ ε) (Dl.Vn ‹_›) (Dl.j5 ‹_›) (by kernel_rfl) ?_|refine aij (Dl.j7 ‹_›) ?_|refine Xq (Wz _ ε) (Dl.Vn ‹_›) (Dl.j7 ‹_›) (by kernel_rfl) ?_)|(show Ab _ _ (.Call (.Attribute _ _ _) _ _ _) _;first|refine ajA ‹_› (DD.mono ‹_› ε) ?_|refine aj9 ‹_› (DD.mono ‹_› ε) ?_ ?_|refine ahr ?_ ?_|refine ahu ?_|refine aiZ ?_|refine ah_ ?_ ?_ ?_|refine ahx (DD.units ‹_›) ?_ ?_|refine ahS ?_ ?_|refine ajN ?_|refine ajO ?_ ?_))
 |(show G4 _ _ _ _;first|refine akB ?_|(show G4 _ _ (.Compare _ _ _ _) _;first|refine ajz (DD.units ‹_›) ?_|refine ak7 (DD.units ‹_›) ?_|refine ajy (DD.units ‹_›) ?_ ?_|refine ak6 (DD.units ‹_›) ?_ ?_|refine ak5 ?_ ?_|refine ak4 ?_ ?_|refine ak1 ?_ ?_|refine ak0 ?_ ?_|refine ak3 ?_ ?_|refine akA ?_ ?_|refine ak2 (DD.units ‹_›) ?_ ?_|refine ak8 (DD.units ‹_›) ?_ ?_|refine sV Qg Qg Tq Tq ?_ ?_ ?_|refine sV Qg be Tq o2 ?_ ?_ ?_)|refine ak9 ?_|refine akC ?_|refine ajQ ?_)
 |(show Ku _ _ _ _;first|exact ahm|exact ajn|refine ajo ?_|refine aiS ?_ ?_)
 |(show GK _ _ _ _;first|(show GK _ _ (.Expr _ _) _;first|exact aiT|refine aiV ?_)|(show GK _ _ (.Return _ _) _;first|exact ajs|refine ajr ?_)|(show GK _ _ (.Assign _ _ _) _;first|refine aju ?_|refine aiR _ _ _ (CA.Bz ‹_›) (by rfl) ?_ ?_ ?_ (λ_ _ _ _ _ _ _=>?_)|refine ajt _ (CA.Bz ‹_›) ?_|refine aiP ?_ ?_|refine aiU (DD.units ‹_›) ?_ ?_ ?_|refine ajq ?_ ?_ ?_|refine gu (Dl.md ‹_›) ?_ ?_|refine gu (Dl.me ‹_›) ?_ ?_|refine gu (Dl.mh ‹_›) ?_ ?_)|(show GK _ _ (.For _ _ _ _ _) _;first|refine aiW ?_ ?_ ?_|refine aiX ?_ ?_ ?_|refine aiY ?_ ?_ ?_)|exact aiQ|exact ajp|refine aiz ?_ ?_ ?_|exact Y7 (Dl.ahg ‹_›)|exact Y7 (Dl.ahh ‹_›)|exact Y7 (Dl.ahi ‹_›)|exact Y7 (Dl.ahj ‹_›)|refine ajv _ (CA.Bz ‹_›) (Dl.agw ‹_›) ?_ (λ_=>?_)|refine ajw ?_ ?_)
 |refine ajV ‹_› (DD.mono ‹_› ε) (λ_=>?_) (λ_=>?_)
 |exact aix
 |refine aiw ?_ ?_
 |exact ahl
 |refine ahk ?_ ?_
 |refine ajR ?_ ?_
 |refine ajT ?_ ?_
 |refine ajS ?_
 |refine ajU ?_
 |exact aiu
 |refine aiv ?_
 |exact uv _ (hN:=of_decide_eq_true ( by kernel_rfl ))
 |exact uu _ (hN:=of_decide_eq_true ( by kernel_rfl ))
 |exact uw _ _ (hN:=of_decide_eq_true ( by kernel_rfl ))
 |exact vE
 |refine vD (λ_ _ _ _ _ _ _=>?_)
 |exact aim _ (CA.Bz ‹_›)
 |refine aio ?_
 |exact ain
 |refine ail ?_ ?_
 |refine aiq (Dl.uj ‹_›) ?_
 |refine air (Dl.d5 ‹_›) ?_
 |refine ais (Dl.d5 ‹_›) ?_
 |refine ait (Dl.um ‹_›) ?_
 |refine aip ?_
 )
namespace B3
end B3
namespace Bq
end Bq
open PySem PySem.Spec B3 Bq
namespace B3
open PyProof.Rows
abbrev Key:=Sum Int Str
noncomputable def Rr:Key->A9->Bool
 |.inl k,v=>Value.isInt k v
 |.inr x,v=>Value.isStrOf x v
noncomputable def aaq(w:Bl):Key->Int
 |.inl k=>hashInt k
 |.inr x=>hashStr w x
def Lx:∀{k:Key}{v:A9},Rr k v=true->(∃i t,k=MV i/\v=Sv i t)\/(∃x t,k=MW x/\v=Sw x t)
 |.inl i,v,h=>by obtain⟨t,e⟩:=Value.isInt_shape (k:=i) (v:=v) h;exact .inl ⟨i,t,rfl,e⟩
 |.inr x,v,h=>by obtain⟨t,e⟩:=Value.isStrOf_shape (x:=x) (v:=v) h;exact .inr ⟨x,t,rfl,e⟩
def aar(i:Int)(t:Tok):Rr (.inl i) (.int i t)=true:=by simp[Rr,Value.isInt]
def aas(x:Str)(t:Tok):Rr (.inr x) (.str x t)=true:=by simp[Rr,Value.isStrOf]
def aat(a b:Int):decide ((MV a:Key)=MV b)=(a==b):=by
 by_cases e:a=b
 .subst e;simp
 .have h:¬(MV a:Key)=MV b:=λq=>e (Sum.inl.inj q);rw[decide_eq_false h];exact(beq_eq_false_iff_ne.mpr e).symm
def aax(a b:Str):decide ((MW a:Key)=MW b)=decide (a=b):=by
 by_cases e:a=b
 .subst e;simp
 .have h:¬(MW a:Key)=MW b:=λq=>e (Sum.inr.inj q);rw[decide_eq_false h,decide_eq_false e]
def aau(a:Int)(b:Str):decide ((MV a:Key)=MW b)=false:=decide_eq_false (λq=>nomatch q)
def aaw(a:Str)(b:Int):decide ((MW a:Key)=MV b)=false:=decide_eq_false (λq=>nomatch q)
def Gm(prog:C9)(w:Bl):iN prog w Key where
 is:=Rr
 hash:=aaq w
 inj:=λv a b AG A5=>by
  rcases Lx AG with⟨i,t,rfl,rfl⟩|⟨x,t,rfl,rfl⟩
  .rcases Lx A5 with⟨j,u,rfl,e⟩|⟨y,u,rfl,e⟩
   .injection e with AD _;rw[AD]
   .exact nomatch e
  .rcases Lx A5 with⟨j,u,rfl,e⟩|⟨y,u,rfl,e⟩
   .exact nomatch e
   .injection e with AD _;rw[AD]
 byValue:=λk v h=>by rcases Lx h with⟨i,t,rfl,rfl⟩|⟨x,t,rfl,rfl⟩<;>rfl
 pyHash:=λBg h=>by
  rcases Lx Bg with⟨i,t,rfl,rfl⟩|⟨x,t,rfl,rfl⟩
  .exact wpAny_pyHash_int h
  .exact wpAny_pyHash_str h
 eqBool:=λBR Bg h=>by
  rcases Lx BR with⟨i,t,rfl,rfl⟩|⟨x,t,rfl,rfl⟩
  .rcases Lx Bg with⟨j,u,rfl,rfl⟩|⟨y,u,rfl,rfl⟩
   .rw[aat]at h;exact wpAny_eqBool_int h
   .rw[aau]at h;exact SeqAt.EqAt.int_str i t y u _ _ _ _ h
  .rcases Lx Bg with⟨j,u,rfl,rfl⟩|⟨y,u,rfl,rfl⟩
   .rw[aaw]at h;exact SeqAt.EqAt.str_int x t j u _ _ _ _ h
   .rw[aax]at h;exact wpAny_eqBool_str h
 «strs»:=λk x t v h=>by
  rcases Lx h with⟨i,u,rfl,e⟩|⟨y,u,rfl,e⟩
  .exact nomatch e
  .injection e with AD _;subst AD;cases v<;>rfl
def gK(prog:C9)(w:Bl)(k:Key)(v:A9):(Gm prog w).is k v=Rr k v:=rfl
def acj(prog:C9)(w:Bl)(i:Int)(t:Tok):(Gm prog w).is (.inl i) (.int i t)=true:=aar i t
def ack(prog:C9)(w:Bl)(x:Str)(t:Tok):(Gm prog w).is (.inr x) (.str x t)=true:=aas x t
abbrev FC:=↑Key
inductive V where
 |non|AN (b:Bool)|int (i:Int)|str (x:Str)|QD (b:Array UInt8)|SL (b:UInt64)|ref (a:A7)|ty (n:String)
 deriving DecidableEq
def RelV:V->A9->Prop
 |.non,u=>u=JP
 |.AN b,u=>u=RC b
 |.int i,u=>∃t,u=Sv i t
 |.str x,u=>∃t,u=Sw x t
 |.QD b,u=>∃t,u=Value.bytes b t
 |.SL b,u=>∃t,u=iM b t
 |.ref a,u=>u=Cv a
 |.ty n,u=>u=OL n
abbrev Vals:↑V->↑A9->Prop:=Paired RelV
theorem Vals.length{xs:↑V}{us:↑A9}(r:Vals xs us):⇑xs=⇑us:=Paired.length r
theorem Vals.get:∀{xs:↑V}{us:↑A9}{i:Nat}{x:V},Vals xs us->xs[i]?=↥x->∃u,us[i]?=↥u/\RelV x u
 |_,_,_,_,.nil,e=>by simp at e
 |_,_,0,_,.cons r _,e=>by simp at e;subst e;exact⟨_,rfl,r⟩
 |_,_,i+1,x,.cons _ t,e=>by obtain⟨u,h1,h2⟩:=Vals.get (i:=i) (x:=x) t (e:);exact⟨u,(h1:),h2⟩
theorem Vals.set{x:V}{u:A9}(r:RelV x u):∀{xs:↑V}{us:↑A9}(i:Nat),Vals xs us->Vals (xs.set i x) (us.set i u)
 |_,_,_,.nil=>.nil
 |_,_,0,.cons _ t=>.cons r t
 |_,_,i+1,.cons q t=>.cons q (Vals.set r i t)
theorem Vals.append:∀{xs ys:↑V}{us ws:↑A9},Vals xs us->Vals ys ws->Vals (xs++ys) (us++ws)
 |_,_,_,_,.nil,s=>s
 |_,_,_,_,.cons r t,s=>.cons r (Vals.append t s)
theorem Vals.take:∀{xs:↑V}{us:↑A9}(n:Nat),Vals xs us->Vals (xs.take n) (us.take n)
 |_,_,0,_=>.nil
 |_,_,_+1,.nil=>.nil
 |_,_,n+1,.cons r t=>.cons r (Vals.take n t)
theorem Vals.drop:∀{xs:↑V}{us:↑A9}(n:Nat),Vals xs us->Vals (xs.drop n) (us.drop n)
 |_,_,0,r=>r
 |_,_,_+1,.nil=>.nil
 |_,_,n+1,.cons _ t=>Vals.drop n t
def IL:Option V->Option A9->Prop
 |some v,↥u=>RelV v u
 |none,none=>True
 |_,_=>False
def Em{Bt:Type}:↑(Bt×V)->↑(Bt×A9)->Prop:=Paired λ(p:Bt×V)(q:Bt×A9)=>p.1=q.1/\RelV p.2 q.2
def Cj:Key->V
 |.inl i=>.int i
 |.inr x=>.str x
inductive FR where
 |lst (xs:↑V)
 |tup (xs:↑V)
 |Al (AA:↑(Key×V))|ED (AA:↑(FC×V))
 |set (S:Int->Bool) (n:Nat)
 |ins (C Bo:A7) (BA:↑(Str×V))
 |own (x:A7)
 |Rp (BA:↑(Str×V))
 |met (f x:A7)
 |YJ (lo hi:Int)
 |D7 (o:Obj) (u:FR)
 |PT (ps:Array A9)
 |ext (φ:BF->Prop)
abbrev AE:=A7->Option FR
noncomputable def upd(H:AE)(a:A7)(o:FR):AE:=λb=>if b=a then↥o else H b
def EA{H:AE}{a:A7}{o:FR}:upd H a o a=↥o:=by unfold upd;rw[if_pos rfl]
def DJ{H:AE}{a b:A7}{o:FR}(h:b≠a):upd H a o b=H b:=by unfold upd;rw[if_neg h]
def acS{H:AE}{a b:A7}{o u:FR}(h:H a=↥o)(h':H b=↥u)(d:o≠u):a≠b:=by intro e;subst e;rw[h]at h';exact d (Gc h')
def LK{H:AE}{a b:A7}{o:FR}(h:H a=↥o)(h':H b=none):a≠b:=by intro e;subst e;rw[h]at h';cases h'
def PE(H:AE)(k:FC)(a:A7):Prop:=H a=↥(.tup (k.map Cj))
section
variable(P:C9)(w:Bl)(K:At)
def Dp(H:AE)(h:BF)(a:A7):FR->Prop
 |.lst xs=>⇑xs<=CO/\∃(its:↑A9)(n:Nat),Vals xs its/\h.get? a=some { cls:=.type "list",data:=.seq its.toArray n }
 |.tup xs=>⇑xs<=CO/\∃its:↑A9,Vals xs its/\IsTup h a its.toArray
 |.Al AA=>⇑AA<=CO/\(a==KO)=false/\∃vs,Em AA vs/\h.DictOf (Gm P w) a vs
 |.ED AA=>⇑AA<=CO/\(a==KO)=false/\∃xs:↑(FC×A7×A9),
     Paired (λ(p:FC×V)(q:FC×A7×A9)=>p.1=q.1/\PE H p.1 q.2.1/\RelV p.2 q.2.2) AA xs/\
     ∃o es Ao,h.get? a=↥o/\o.ExactDict/\o.data=.dict es Ao/\es.toList=xs.map (entryOfKey (tupleKind (Gm P w)))/\(xs.map (·.1)).Nodup
 |.set S n=>h.SetOf (intKind P w) a S n
 |.ins C Bo BA=>H Bo=↥(.own a)/\ ⇑BA<=1000/\Bo≠a/\h.get? a=↥(Pi C Bo)/\
     ∃EV,h.Ns1 Bo EV/\(∀f,IL (BA.lookup f) (EV f))/\iH EV (BA.map (·.1))
 |.own _=>∃o,h.get? a=↥o
 |.Rp BA=>∃EV,h.Ns1 a EV/\∀f,IL (BA.lookup f) (EV f)
 |.YJ lo hi=>∃t u v,h.get? a=some { cls:=.type "range",data:=.fields #[.int lo t,.int hi u,.int 1 v] }
 |.D7 o u=>h.get? a=↥o/\Dp H h a u
 |.PT ps=>h.get? a=some { cls:=.none,data:=.fields ps }
 |.met f x=>h.get? a=↥(hc (.ref f) (.ref x))
 |.ext φ=>φ h/\(∃o,h.get? a=↥o)/\∀h1 h2:BF,φ h1->(∀o,h1.get? a=↥o->h2.get? a=↥o)->φ h2
def FA(H:AE)(h:BF):Prop:=∀a o,H a=↥o->Dp P w H h a o
end
section
variable{P:C9}{w:Bl}{K:At}{H AB:AE}{h h':BF}{a:A7}{o:FR}
theorem Dp.lt(x:Dp P w H h a o):a<h.objs.size:=by
 cases o with
 |lst xs=>obtain⟨_,_,_,_,e⟩:=x;exact Dk e
 |tup xs=>obtain⟨_,_,_,p⟩:=x;exact p.lt
 |Al AA=>obtain⟨_,_,_,_,o,_,_,e,_⟩:=x;exact Dk e
 |ED AA=>obtain⟨_,_,_,_,o,_,_,e,_⟩:=x;exact Dk e
 |set S n=>obtain⟨o,_,_,_,e,_⟩:=x;exact Dk e
 |ins C Bo BA=>obtain⟨_,_,_,e,_⟩:=x;exact Dk e
 |own y=>obtain⟨_,e⟩:=x;exact Dk e
 |Rp BA=>obtain⟨_,⟨_,_,_,e,_⟩,_⟩:=x;exact Dk e
 |YJ lo hi=>obtain⟨_,_,_,e⟩:=x;exact Dk e
 |D7 BD u=>obtain⟨e,_⟩:=x;exact Dk e
 |PT ps=>exact Dk (show h.get? a=↥_ from x)
 |met f y=>exact Dk (show h.get? a=↥_ from x)
 |ext φ=>obtain⟨_,⟨_,e⟩,_⟩:=x;exact Dk e
theorem Paired.ef{α β:Type}{F G:α->β->Prop}:∀{l₁:↑α}{l₂:↑β},Paired F l₁ l₂->(∀a b,F a b->G a b)->Paired G l₁ l₂
 |_,_,.nil,_=>.nil
 |_,_,.cons r t,f=>.cons (f _ _ r) (Paired.ef t f)
def Dp.NR(x:Dp P w H h a o)(k:∀b u,(b=a\/H b=↥(.own a))->h.get? b=↥u->h'.get? b=↥u)(ho:∀b,H b=↥(.own a)->AB b=↥(.own a))(Bc:∀b xs,H b=↥(.tup xs)->AB b=↥(.tup xs)):Dp P w AB h' a o:=by
 induction o with
 |lst xs=>obtain⟨z,its,n,r,e⟩:=x;exact⟨z,its,n,r,k _ _ (.inl rfl) e⟩
 |tup xs=>obtain⟨z,its,r,BD,e,c⟩:=x;exact⟨z,its,r,BD,k _ _ (.inl rfl) e,c⟩
 |Al AA=>obtain⟨z,y,vs,r,BD,es,Ao,e,c⟩:=x;exact⟨z,y,vs,r,BD,es,Ao,k _ _ (.inl rfl) e,c⟩
 |ED AA=>obtain⟨z,y,xs,r,BD,es,Ao,e,c⟩:=x;exact⟨z,y,xs,Paired.ef r λp q z=>⟨z.1,Bc _ _ z.2.1,z.2.2⟩,BD,es,Ao,k _ _ (.inl rfl) e,c⟩
 |set S n=>obtain⟨BD,es,Ao,t,e,c⟩:=x;exact⟨BD,es,Ao,t,k _ _ (.inl rfl) e,c⟩
 |ins C Bo BA=>obtain⟨d,z,ne,e,EV,⟨E9,es,Ao,AH,c⟩,r⟩:=x;exact⟨ho _ d,z,ne,k _ _ (.inl rfl) e,EV,⟨E9,es,Ao,k _ _ (.inr d) AH,c⟩,r⟩
 |own y=>obtain⟨BD,e⟩:=x;exact⟨BD,k _ _ (.inl rfl) e⟩
 |Rp BA=>obtain⟨EV,⟨E9,es,Ao,e,c⟩,r⟩:=x;exact⟨EV,⟨E9,es,Ao,k _ _ (.inl rfl) e,c⟩,r⟩
 |YJ lo hi=>obtain⟨t,u,v,e⟩:=x;exact⟨t,u,v,k _ _ (.inl rfl) e⟩
 |D7 BD u CI=>obtain⟨e,q⟩:=x;exact⟨k _ _ (.inl rfl) e,CI q⟩
 |PT ps=>have e:h.get? a=some { cls:=.none,data:=.fields ps }:=x;show h'.get? a=some { cls:=.none,data:=.fields ps };exact k a _ (.inl rfl) e
 |met f y=>have e:h.get? a=↥(hc (.ref f) (.ref y)):=x;show h'.get? a=↥(hc (.ref f) (.ref y));exact k a _ (.inl rfl) e
 |ext φ=>obtain⟨p,⟨o,e⟩,st⟩:=x;exact⟨st _ _ p λo q=>k _ _ (.inl rfl) q,⟨o,k _ _ (.inl rfl) e⟩,st⟩
theorem FA.lt(x:FA P w H h)(e:H a=↥o):a<h.objs.size:=(x a o e).lt
def FA.fresh(x:FA P w H h)(e:h.objs.size<=a):H a=none:=by
 cases q:H a with
 |none=>rfl
 |some u=>exact absurd (GG (x.lt q) e) (Jj _)
def FA.kept(x:FA P w H h)(k:∀b u,h.get? b=↥u->h'.get? b=↥u):FA P w H h':=λa o e=>
 (x a o e).NR (λb u _ q=>k b u q) (λ_ q=>q) λ_ _ q=>q
def FA.laid(x:FA P w H h)(k:∀b u,h.get? b=↥u->h'.get? b=↥u)(AV:h.objs.size<=a)(new:Dp P w (upd H a o) h' a o):FA P w (upd H a o) h':=λb u e=>by
 have AM:=x.fresh AV;by_cases A5:b=a
 .subst A5;rw[EA]at e;cases e;exact new
 .rw[DJ A5]at e;exact(x b u e).NR (λc v _ q=>k c v q) (λc q=>by rw[DJ (LK q AM)];exact q) λc xs q=>by rw[DJ (LK q AM)];exact q
end
def Kr(H:AE)(a:A7)(u:FR):Prop:=H a=↥u\/∃o,H a=↥(.D7 o u)
def Kr.ok{P:C9}{w:Bl}{H:AE}{h:BF}{a:A7}{u:FR}(r:Kr H a u)(x:FA P w H h):Dp P w H h a u:=by
 rcases r with r|⟨o,r⟩
 .exact x a u r
 .obtain⟨_,q⟩:=x a _ r;exact q
def Ve:Option FR->Prop
 |some (.lst _)=>True
 |some (.Al _)=>True
 |some (.ED _)=>True
 |some (.set _ _)=>True
 |some (.ins _ _ _)=>True
 |some (.ext _)=>True
 |_=>False
section
variable{P:C9}{w:Bl}{K:At}{H:AE}{h h':BF}{x e:A7}{o':FR}
def FA.write(ok:FA P w H h)(KZ:Ve (H x))(he:e=x\/H e=↥(.own x))(k:∀b u,b≠e->h.get? b=↥u->h'.get? b=↥u)(UM:∃u,h'.get? e=↥u)(new:Dp P w (upd H x o') h' x o'):FA P w (upd H x o') h':=λb u q=>by
 have nk:∀c y,H c=↥(.own y)->c≠x:=λc y r z=>by subst z;rw[r]at KZ;exact KZ
 have aeA:∀c xs,H c=↥(.tup xs)->c≠x:=λc xs r z=>by subst z;rw[r]at KZ;exact KZ
 by_cases A5:b=x
 .subst A5;rw[EA]at q;cases q;exact new
 .rw[DJ A5]at q;by_cases SS:b=e
  .have Cm:H b=↥(.own x):=by
     rcases he with z|z
     .exact absurd (SS.trans z) A5
     .rw[SS];exact z
   rw[q]at Cm;cases Cm;obtain⟨v,Bg⟩:=UM;exact⟨v,by rw[SS];exact Bg⟩
  .refine(ok b u q).NR (λc v AI r=>k c v ?_ r) (λc r=>by rw[DJ (nk c b r)];exact r) λc xs r=>by rw[DJ (aeA c xs r)];exact r
   rcases AI with rfl|AI
   .exact SS
   .rintro rfl;rcases he with z|z
    .exact nk c b AI z
    .rw[AI]at z;cases z;exact A5 rfl
end
structure GJ(BA ex:↑A7)(H AB:AE)(h h':BF):Prop where
 keep:∀b o,h.get? b=↥o->H b=none->b∉BA->b∉ex->h'.get? b=↥o
 slot:∀b o,h.get? b=↥o->H b=none->b∈BA->b∉ex->∃Bm,h'.get? b=some { o with slots:=Bm }
 free:∀b o,h.get? b=↥o->H b=none->b∉ex->AB b=none
 there:∀b o,h.get? b=↥o->b∉ex->∃o',h'.get? b=↥o'
 JI:∀b xs,H b=↥(.tup xs)->AB b=↥(.tup xs)
 Hr:∀b o u,H b=↥(.D7 o u)->AB b=↥(.D7 o u)
 JH:∀b ps,H b=↥(.PT ps)->∃more,AB b=↥(.PT (ps++more))
section
variable{BA Na ex al6:↑A7}{H H1 AU:AE}{h h1 h2 h':BF}{a x e:A7}{o:FR}
def GJ.any(u:GJ BA ex H H1 h h1){b:A7}{BD:Obj}(q:h.get? b=↥BD)(n:H b=none)(AJ:b∉ex):∃Bm,h1.get? b=some { BD with slots:=Bm }:=by
 by_cases A5:b∈BA
 .exact u.slot b BD q n A5 AJ
 .exact⟨BD.slots,u.keep b BD q n A5 AJ⟩
def GJ.trans(a:GJ BA ex H H1 h h1)(b:GJ BA ex H1 AU h1 h2):GJ BA ex H AU h h2 where
 keep:=λc BD q n AI AJ=>b.keep c BD (a.keep c BD q n AI AJ) (a.free c BD q n AJ) AI AJ
 slot:=λc BD q n AI AJ=>by obtain⟨Bm,AD⟩:=a.slot c BD q n AI AJ;obtain⟨gJ,AH⟩:=b.slot c _ AD (a.free c BD q n AJ) AI AJ;exact⟨gJ,AH⟩
 free:=λc BD q n AJ=>by obtain⟨o',AD⟩:=a.there c BD q AJ;exact b.free c o' AD (a.free c BD q n AJ) AJ
 there:=λc BD q AJ=>by obtain⟨o',AD⟩:=a.there c BD q AJ;exact b.there c o' AD AJ
 JI:=λc xs q=>b.JI c xs (a.JI c xs q)
 Hr:=λc BD xs q=>b.Hr c BD xs (a.Hr c BD xs q)
 JH:=λc ps q=>by obtain⟨GX,AD⟩:=a.JH c ps q;obtain⟨GY,AH⟩:=b.JH c _ AD;exact⟨GX++GY,by rw[AH,hq]⟩
def GJ.kept(k:∀b u,h.get? b=↥u->h'.get? b=↥u):GJ BA ex H H h h':=
 ⟨λb BD q _ _ _=>k b BD q,λb BD q _ _ _=>⟨BD.slots,k b BD q⟩,λ_ _ _ n _=>n,λb BD q _=>⟨BD,k b BD q⟩,λ_ _ q=>q,λ_ _ _ q=>q,λ_ ps q=>⟨#[],by rw[q];simp⟩⟩
def GJ.refl:GJ BA ex H H h h:=GJ.kept λ_ _ q=>q
def GJ.laid(k:∀b u,h.get? b=↥u->h'.get? b=↥u)(AV:h.objs.size<=a)(AM:H a=none):GJ BA ex H (upd H a o) h h' where
 keep:=λb u q _ _ _=>k b u q
 slot:=λb u q _ _ _=>⟨u.slots,k b u q⟩
 free:=λb u q n _=>by rw[DJ (F7 (GG (Dk q) AV))];exact n
 there:=λb u q _=>⟨u,k b u q⟩
 JI:=λb xs q=>by rw[DJ (LK q AM)];exact q
 Hr:=λb u xs q=>by rw[DJ (LK q AM)];exact q
 JH:=λb ps q=>⟨#[],by rw[DJ (LK q AM),q];simp⟩
def GJ.write(KZ:Ve (H x))(he:e=x\/H e=↥(.own x))(k:∀b u,b≠e->h.get? b=↥u->h'.get? b=↥u)(UM:∃u,h'.get? e=↥u):GJ BA ex H (upd H x o) h h':=by
 have AJ:∀b,H b=none->b≠x:=λb n z=>by subst z;rw[n]at KZ;exact KZ
 have A5:∀b,H b=none->b≠e:=λb n z=>by
  subst z;rcases he with r|r
  .exact AJ b n r
  .rw[n]at r;cases r
 have hm:∀b u,H b=↥u->¬Ve ↥u->b≠x:=λb u q nm z=>by subst z;rw[q]at KZ;exact nm KZ
 refine⟨λb u q n _ _=>k b u (A5 b n) q,λb u q n _ _=>⟨u.slots,k b u (A5 b n) q⟩,λb u q n _=>by rw[DJ (AJ b n)];exact n,λb u q _=>?_,
  λb xs q=>by rw[DJ (hm b _ q λz=>z)];exact q,λb u xs q=>by rw[DJ (hm b _ q λz=>z)];exact q,λb ps q=>⟨#[],by rw[DJ (hm b _ q λz=>z),q];simp⟩⟩
 by_cases SS:b=e
 .subst SS;exact UM
 .exact⟨u,k b u SS q⟩
end
noncomputable def Yg(h:BF)(H:AE):↑A7:=(Cn h.objs.size).filter λa=>(H a).isSome
def On(h:BF)(H:AE):BF:=ZG h (Yg h H)
def z4(h:BF)(H:AE):(On h H).objs.size=h.objs.size:=PySem.W.hideAll_size _ _
def z3{h:BF}{H:AE}{b:A7}{o:Obj}(e:h.get? b=↥o)(n:H b=none):(On h H).get? b=↥o:=
 tY _ e λhm=>by have q:(H b).isSome=true:=(List.mem_filter.mp hm).2;rw[n]at q;simp at q
def aeL{h:BF}{H:AE}{b:A7}{o:Obj}(e:(On h H).get? b=↥o):h.get? b=↥o/\H b=none:=by
 have Bb:h.get? b=↥o:=u4 (Yg h H) e;refine⟨Bb,?_⟩;cases q:H b with
 |none=>rfl
 |some x=>have hm:b∈Yg h H:=List.mem_filter.mpr ⟨List.mem_range.mpr (Dk Bb),by simp[q]⟩;have z:(On h H).get? b=none:=PySem.W.hideAll_none (Yg h H) hm;rw[z]at e;cases e
noncomputable def vV(g h:BF)(L:A7):μ:=(Cn h.objs.size).filterMap λa=>if a=L\/(g.get? a).isSome=true then none else(h.get? a).map λo=>(a,o)
def rest(g h:BF)(L d:A7):μ:=(vV g h L).filter λp=>decide (p.1≠d)
structure Mod(K:At)(mg:Str->Option A9)(base:BF):Prop where
 Ru:K.In base
 glob:base.Ns Ff mg
 blt:∃Gs,base.Ns builtinsNs Gs/\∀x:Str,x≠"__name__"->Gs x=OH x
 nolimit:base.NoLimit
structure Aq where
 prog:C9
 w:Bl
 K:At
 mg:Str->Option A9
 base:BF
 A:DE
 N:↑Str
 G_:AS
 LB:AE
 env:Env
 outer:↑Env
 stack:↑Env
 ex:↑A7
 fn:Str->Bool
 calm:Bool
 C7:μ
 DB:A9->AS->Prop
def FF(l:↑Env):↑A7:=l.filterMap (·.frame)
abbrev Aq.BA(X:Aq):↑A7:=FF X.outer
def Zm(sc:FS)(x:Str):Prop:=sc.names.lookup x=↥.local\/sc.names.lookup x=↥.cell\/sc.names.lookup x=↥.free
def Loc(sc:FS)(x:Str):Prop:=sc.names.lookup x=↥.local\/sc.names.lookup x=↥.cell
def Look(env:Env)(h:BF)(m:Str->Option A9)(x:Str)(u:A9):Prop:=
 (env.kindOf x=↥.local/\m x=↥u)\/((env.kindOf x=↥.cell\/env.kindOf x=↥.free)/\∃c,env.cells.lookup x=↥c/\h.IsCell c ↥u)
structure Aq.Ok(X:Aq):Prop where
 mod:Mod X.K X.mg X.base
 kind:X.env.scope.kind=.function
 glob:X.env.globals=Ff
 blt:X.env.builtins=builtinsNs
 above:X.G_.heap.objs.size<=X.env.locals
 inj:∀x y c,X.env.cells.lookup x=↥c->X.env.cells.lookup y=↥c->x=y
 has:∀x,(X.env.kindOf x=↥.cell\/X.env.kindOf x=↥.free)->∃c,X.env.cells.lookup x=↥c
 T6:∀x c,X.fn x=true->X.env.cells.lookup x=↥c->X.G_.heap.objs.size<=c
 hd:X.calm=true->X.A.handled=none
 frames:X.A.frames=↥X.stack
 Ws:X.stack=X.outer\/(X.stack=X.env::X.outer/\X.env.frame=↥X.env.locals)
 dv:∀b∈X.ex,b≠X.env.locals/\∀x c,X.env.cells.lookup x=↥c->c≠b
 bs:∀b o,X.base.get? b=↥o->X.G_.heap.get? b=↥o/\X.LB b=none
 PJ:X.base.objs.size<=X.G_.heap.objs.size
 To:∀b o,X.base.get? b=↥o->b∉X.ex
 VY:∀b∈X.ex,b∉X.BA
 K8:X.G_.heap.FunFrames X.base X.outer
 QK:∀b∈X.BA,X.LB b=none
structure Inv(X:Aq)(A4:μ)(σ :↑(Option V))(H:AE)(s:AS):Prop where
 ok:X.Ok
 os:s.os=X.G_.os
 bare:NM s.gens
 base:GJ X.BA X.ex X.LB H X.G_.heap s.heap
 loc:∃m,s.heap.Ns X.env.locals m/\∀(i:Nat)(x:Str)(v:V),X.N[i]?=↥x-> σ[i]?=↥↥v->Zm X.env.scope x->∃u,RelV v u/\Look X.env s.heap m x u
 cell:∀x c,X.env.cells.lookup x=↥c->∃v,s.heap.IsCell c v
 free:H X.env.locals=none
 KQ:∀x c,X.env.cells.lookup x=↥c->H c=none
 pin:∀p∈X.C7++A4,s.heap.get? p.1=↥p.2/\H p.1=none/\p.1≠X.env.locals/\p.1∉X.BA/\∀v,p.2.data≠.cell v
 Az:FA X.prog X.w H s.heap
 len:⇑σ =⇑X.N
section
variable{X:Aq}{A4:μ}{σ :↑(Option V)}{H AB:AE}{s:AS}{h':BF}
def Aq.Ok.aca(ok:X.Ok){b:A7}{o:Obj}(e:X.base.get? b=↥o):b∉X.BA:=λA5=>by have:=(ok.K8.mem A5).1;rw[e]at this;cases this
theorem Inv.bs(J:θ):∀b o,X.base.get? b=↥o->s.heap.get? b=↥o/\H b=none:=λb o e=>
 ⟨J.base.keep b o (J.ok.bs b o e).1 (J.ok.bs b o e).2 (J.ok.aca e) (J.ok.To b o e),J.base.free b o (J.ok.bs b o e).1 (J.ok.bs b o e).2 (J.ok.To b o e)⟩
def Inv.Ba(J:θ):∀b o,X.base.get? b=↥o->s.heap.get? b=↥o:=λb o e=>(J.bs b o e).1
theorem Inv.mod(J:θ):Mod X.K X.mg X.base:=J.ok.mod
def Inv.FP(J:θ):X.K.In s.heap:=J.ok.mod.Ru.keeps J.Ba
theorem Inv.lt(J:θ):X.env.locals<s.heap.objs.size:=let⟨_,AM,_⟩:=J.loc;AM.lt
def Inv.Qt(J:θ):X.G_.heap.objs.size<=s.heap.objs.size:=IG J.ok.above (Pj J.lt)
def Inv.ae7(J:θ){a:A7}(h:s.heap.objs.size<=a):a∉X.BA:=λA5=>by obtain⟨_,o,ho,_⟩:=J.ok.K8.mem A5;exact absurd (GG (Dk ho) (IG J.Qt h)) (Jj _)
def Inv.RK(J:θ):∀x c,X.env.cells.lookup x=↥c->c≠X.env.locals:=λx c e z=>by obtain⟨v,o,ho,hd⟩:=J.cell x c e;obtain⟨m,⟨o',es,Ao,IR,db,_⟩,_⟩:=J.loc;rw[z,IR]at ho;cases ho;rw[db]at hd;cases hd
theorem Inv.K8(J:θ):s.heap.FunFrames X.base X.outer:=by
 have all:∀(l:↑Env),(∀b∈FF l,b∈X.BA)->X.G_.heap.FunFrames X.base l->s.heap.FunFrames X.base l:=by
  intro l;induction l with
  |nil=>intro _ _;trivial
  |cons env r CI=>intro AQ AF;obtain⟨AR,⟨L,o,hf,AM,ho,hd⟩,B6⟩:=AF;have Gq:L∈X.BA:=AQ L (by unfold FF;rw[Sn,hf];exact Hg);obtain⟨Bm,e⟩:=J.base.slot L o ho (J.ok.QK L Gq) Gq λz=>J.ok.VY L z Gq;exact⟨AR,⟨L,_,hf,AM,e,hd⟩,CI (λb A5=>AQ b (by unfold FF;rw[Sn,hf];exact Gy _ A5)) B6⟩
 exact all X.outer (λ_ A5=>A5) J.ok.K8
theorem Inv.stack(J:θ):s.heap.FunFrames X.base X.stack:=by
 rcases J.ok.Ws with e|⟨e,hf⟩
 .rw[e];exact J.K8
 .rw[e];obtain⟨m,AM,_⟩:=J.loc;refine .cons (by rw[J.ok.kind];decide) hf AM ?_ J.K8;exact Heap.get?_none_of_le (IG J.ok.PJ J.ok.above)
def Inv.YR(J:θ):∀b∈FF X.stack,b∈X.env.locals::X.BA:=λb A5=>by
 rcases J.ok.Ws with e|⟨e,hf⟩
 .rw[e]at A5;exact Gy _ A5
 .rw[e]at A5;unfold FF at A5;rw[Sn,hf]at A5;exact A5
def Inv.hB(J:θ):∀b∈FF X.stack,H b=none:=λb A5=>by
 rcases List.mem_cons.mp (J.YR b A5)with e|A5
 .rw[e];exact J.free
 .obtain⟨_,o,ho,_⟩:=J.ok.K8.mem A5;exact J.base.free b o ho (J.ok.QK b A5) λz=>J.ok.VY b z A5
def Inv.step{g':Array GenState}{t':Nat}{d':Drawn}{ch:↑A7}(J:θ)(Nd:∀b∈ch,(b∈X.ex\/X.G_.heap.objs.size<=b)/\b≠X.env.locals/\(∀x c,X.env.cells.lookup x=↥c->c≠b)/\∀p∈X.C7++A4,p.1≠b)(keep:∀b o,b≠X.env.locals->b∉X.BA->b∉ch->s.heap.get? b=↥o->H b=none->h'.get? b=↥o)(slot:∀b o,b≠X.env.locals->b∈X.BA->b∉ch->s.heap.get? b=↥o->H b=none->∃Bm,h'.get? b=some { o with slots:=Bm })(free:∀b o,b∉ch->s.heap.get? b=↥o->H b=none->AB b=none)(there:∀b o,b∉ch->s.heap.get? b=↥o->∃o',h'.get? b=↥o')(JI:∀b xs,H b=↥(.tup xs)->AB b=↥(.tup xs))(Hr:∀b o u,H b=↥(.D7 o u)->AB b=↥(.D7 o u))(JH:∀b ps,H b=↥(.PT ps)->∃more,AB b=↥(.PT (ps++more)))(ns:∀m,s.heap.Ns X.env.locals m->h'.Ns X.env.locals m)(Az:FA X.prog X.w AB h')(Am:NM g') :
  Inv X A4 σ AB { s with heap:=h',gens:=g',drawn:=d',toks:=t' }:=by
 have m6:∀b o,X.G_.heap.get? b=↥o->b≠X.env.locals:=λb o e=>F7 (GG (Dk e) J.ok.above);have bO:∀b o,X.G_.heap.get? b=↥o->b∉X.ex->b∉ch:=λb o e AJ A5=>by
  rcases(Nd b A5).1 with z|z
  .exact AJ z
  .exact absurd (GG (Dk e) z) (Jj _)
 have cellK:∀x c,X.env.cells.lookup x=↥c->∀v,s.heap.IsCell c v->h'.IsCell c v:=λx c e v⟨o,ho,hd⟩=>by
  have Xb:c∉ch:=λz=>(Nd c z).2.2.1 x c e rfl;by_cases AI:c∈X.BA
  .obtain⟨Bm,q⟩:=slot c o (J.RK x c e) AI Xb ho (J.KQ x c e);exact⟨_,q,hd⟩
  .exact⟨o,keep c o (J.RK x c e) AI Xb ho (J.KQ x c e),hd⟩
 refine⟨J.ok,J.os,Am,⟨λb o e n A5 AJ=>?_,λb o e n A5 AJ=>?_,λb o e n AJ=>?_,λb o e AJ=>?_,λb xs e=>JI b xs (J.base.JI b xs e),λb o xs e=>Hr b o xs (J.base.Hr b o xs e),λb ps e=>?_⟩,?_,λx c e=>?_,?_,λx c e=>?_,λp AV=>?_,Az,J.len⟩
 .exact keep b o (m6 b o e) A5 (bO b o e AJ) (J.base.keep b o e n A5 AJ) (J.base.free b o e n AJ)
 .obtain⟨Bm,AD⟩:=J.base.slot b o e n A5 AJ;obtain⟨gJ,AH⟩:=slot b _ (m6 b o e) A5 (bO b o e AJ) AD (J.base.free b o e n AJ);exact⟨gJ,AH⟩
 .obtain⟨o',AD⟩:=J.base.there b o e AJ;exact free b o' (bO b o e AJ) AD (J.base.free b o e n AJ)
 .obtain⟨o',AD⟩:=J.base.there b o e AJ;exact there b o' (bO b o e AJ) AD
 .obtain⟨GX,AD⟩:=J.base.JH b ps e;obtain⟨GY,AH⟩:=JH b _ AD;exact⟨GX++GY,by rw[AH,hq]⟩
 .obtain⟨m,AM,AF⟩:=J.loc;refine⟨m,ns m AM,λi x v AD AH DT=>?_⟩;obtain⟨u,r,l⟩:=AF i x v AD AH DT;refine⟨u,r,?_⟩;rcases l with l|⟨k,c,e,z⟩
  .exact .inl l
  .exact .inr ⟨k,c,e,cellK x c e _ z⟩
 .obtain⟨v,z⟩:=J.cell x c e;exact⟨v,cellK x c e v z⟩
 .obtain⟨m,⟨o,_,_,ho,_⟩,_⟩:=J.loc;exact free _ o (λz=>(Nd _ z).2.1 rfl) ho J.free
 .obtain⟨v,o,ho,hd⟩:=J.cell x c e;exact free c o (λz=>(Nd c z).2.2.1 x c e rfl) ho (J.KQ x c e)
 .obtain⟨e,n,ne,Fs,d⟩:=J.pin p AV;have Xb:p.1∉ch:=λz=>(Nd p.1 z).2.2.2 p AV rfl;exact⟨keep p.1 p.2 ne Fs Xb e n,free p.1 p.2 Xb e n,ne,Fs,d⟩
def Inv.un{t':Nat}(J:θ)(u:GJ X.BA [] H AB s.heap h')(Az:FA X.prog X.w AB h'):Inv X A4 σ AB { s with heap:=h',toks:=t' }:=by
 obtain⟨m,⟨o,es,Ao,ho,r⟩,_⟩:=id J.loc;obtain⟨Bm,Gq⟩:=u.any ho J.free γ;exact J.step (g':=s.gens) (d':=s.drawn) (ch:=[]) (λ_ z=>nomatch z) (λb o _ A5 _ e n=>u.keep b o e n A5 γ) (λb o _ A5 _ e n=>u.slot b o e n A5 γ) (λb o _ e n=>u.free b o e n γ) (λb o _ e=>u.there b o e γ) u.JI u.Hr u.JH (λEJ hm=>by obtain⟨o',es',N_,IR,Bd⟩:=hm;rw[ho]at IR;cases IR;exact⟨_,es',N_,Gq,Bd⟩) Az J.bare
def Inv.call{g':Array GenState}{t':Nat}{d':Drawn}{ch:↑A7}(J:θ)(u:GJ (FF X.stack) ch H AB s.heap h')(Az:FA X.prog X.w AB h')(Am:NM g')(Nd:∀b∈ch,(b∈X.ex\/X.G_.heap.objs.size<=b)/\b≠X.env.locals/\(∀x c,X.env.cells.lookup x=↥c->c≠b)/\∀p∈X.C7++A4,p.1≠b) :
  Inv X A4 σ AB { s with heap:=h',gens:=g',drawn:=d',toks:=t' }:=by
 obtain⟨m,⟨o,es,Ao,ho,r⟩,_⟩:=id J.loc;obtain⟨Bm,Gq⟩:=u.any ho J.free λz=>(Nd _ z).2.1 rfl;exact J.step (ch:=ch) Nd (λb o Gq A5 AI e n=>u.keep b o e n (λz=>(List.mem_cons.mp (J.YR b z)).elim Gq A5) AI) (λb o _ _ AI e n=>u.any e n AI) (λb o AI e n=>u.free b o e n AI) (λb o AI e=>u.there b o e AI) u.JI u.Hr u.JH (λEJ hm=>by obtain⟨o',es',N_,IR,Bd⟩:=hm;rw[ho]at IR;cases IR;exact⟨_,es',N_,Gq,Bd⟩) Az Am
def Inv.turned{t':Nat}{it:A7}(J:θ)(k:∀b o,b≠it->s.heap.get? b=↥o->h'.get? b=↥o)(AM:H it=none)(Gq:it≠X.env.locals)(h1:it∈X.ex\/X.G_.heap.objs.size<=it)(h2:∀x c,X.env.cells.lookup x=↥c->c≠it)(BO:∀p∈X.C7++A4,p.1≠it):Inv X A4 σ H { s with heap:=h',toks:=t' }:=by
 have Qe:∀b u,H b=↥u->b≠it:=λb u e z=>by rw[z,AM]at e;cases e
 refine J.step (g':=s.gens) (d':=s.drawn) (ch:=[it]) (λb A5=>?_) (λb o _ _ AI e _=>k b o (λz=>AI (by simp[z])) e) (λb o _ _ AI e _=>⟨o.slots,k b o (λz=>AI (by simp[z])) e⟩) (λ_ _ _ _ n=>n)
  (λb o AI e=>⟨o,k b o (λz=>AI (by simp[z])) e⟩) (λ_ _ e=>e) (λ_ _ _ e=>e) (λb ps e=>⟨#[],by rw[e];simp⟩) (λm hm=>?_) (λb u e=>?_) J.bare
 .have e:b=it:=by simpa using A5
  subst e;exact⟨h1,Gq,h2,BO⟩
 .obtain⟨o,es,Ao,ho,r⟩:=hm;exact⟨o,es,Ao,k _ o (Lq Gq) ho,r⟩
 .refine(J.Az b u e).NR (λc v AI q=>k c v ?_ q) (λ_ q=>q) λ_ _ q=>q;rcases AI with z|z
  .rw[z];exact Qe b u e
  .exact Qe c _ z
def Inv.tok(J:θ)(t:Nat):Inv X A4 σ H { s with toks:=t }:=J.un (h':=s.heap) (t':=t) GJ.refl J.Az
theorem Inv.kept{t':Nat}(J:θ)(k:∀b u,s.heap.get? b=↥u->h'.get? b=↥u):Inv X A4 σ H { s with heap:=h',toks:=t' }:=J.un (GJ.kept k) (J.Az.kept k)
theorem Inv.laid{a:A7}{o:FR}{t':Nat}(J:θ)(k:∀b u,s.heap.get? b=↥u->h'.get? b=↥u)(AV:s.heap.objs.size<=a)(new:Dp X.prog X.w (upd H a o) h' a o) :
  Inv X A4 σ (upd H a o) { s with heap:=h',toks:=t' }:=J.un (GJ.laid k AV (J.Az.fresh AV)) (J.Az.laid k AV new)
theorem Inv.write{x e:A7}{o:FR}{t':Nat}(J:θ)(KZ:Ve (H x))(he:e=x\/H e=↥(.own x))(k:∀b u,b≠e->s.heap.get? b=↥u->h'.get? b=↥u)(UM:∃u,h'.get? e=↥u)(new:Dp X.prog X.w (upd H x o) h' x o):Inv X A4 σ (upd H x o) { s with heap:=h',toks:=t' }:=J.un (GJ.write KZ he k UM) (J.Az.write KZ he k UM new)
def Inv.nX{nd:μ}(J:θ)(h:∀p∈nd,s.heap.get? p.1=↥p.2/\H p.1=none/\p.1≠X.env.locals/\p.1∉X.BA/\∀v,p.2.data≠.cell v):Inv X nd σ H s:=
 ⟨J.ok,J.os,J.bare,J.base,J.loc,J.cell,J.free,J.KQ,λp AV=>(List.mem_append.mp AV).elim (λz=>J.pin p (J2 _ z)) (h p),J.Az,J.len⟩
def nh{N:↑Str}(hN:N.Nodup){i j:Nat}{x:Str}(a:N[i]?=↥x)(b:N[j]?=↥x):i=j:=by obtain⟨h1,AD⟩:=List.getElem?_eq_some_iff.mp a;obtain⟨h2,AH⟩:=List.getElem?_eq_some_iff.mp b;exact(ZD hN).mp (AD.trans AH.symm)
def sI{M:Model}{A:DE}{E:A9->AS->Prop}{i:Nat}{x:Str}{v:V}{u:A9}{Q:Unit->AS->Prop}(J:θ)(hN:X.N.Nodup)(hi:X.N[i]?=↥x)(AJ:Loc X.env.scope x)(r:RelV v u)(h:∀s',Inv X A4 (σ.set i ↥v) H s'->(∃a,L1 a s.heap s'.heap/\(a=X.env.locals\/X.env.cells.lookup x=↥a))->Q () s')(hf:X.fn x=true\/X.env.scope.names.lookup x=↥.local:=by first|exact .inl rfl|exact .inr rfl|assumption):An M A (storeName X.env x u) Q E s:=by
 obtain⟨m,AM,AF⟩:=id J.loc;have yr:(X.env.scope.kind==.class||(X.env.scope.kind==.module&&X.env.locals !=X.env.globals))=false:=by rw[J.ok.kind];rfl
 have hiσ :i< ⇑σ :=by rw[J.len];exact(List.getElem?_eq_some_iff.mp hi).1
 have RK:=J.RK;have tracked:∀{a:A7}{h':BF},(∃o,s.heap.get? a=↥o/\H a=none)->L1 a s.heap h'->FA X.prog X.w H h':=λ{a h'} AG AQ b BD e=>by
  obtain⟨_,_,aX⟩:=AG;refine(J.Az b BD e).NR (λc C_ AI q=>(AQ.2 c ?_).trans q) (λ_ q=>q) λ_ _ q=>q;rintro rfl;rcases AI with rfl|AI
  .rw[aX]at e;cases e
  .rw[aX]at AI;cases AI
 rcases AJ with AR|AR
 .refine wpAny_storeName_local AR AM (λh' fO AQ=>?_) yr;obtain⟨aeF,_,_,aaA,_⟩:=id AM;refine h _ ⟨J.ok,J.os,J.bare,⟨λb o e n A5 AJ=>?_,λb o e n A5 AJ=>?_,J.base.free,λb o e AJ=>?_,J.base.JI,J.base.Hr,J.base.JH⟩,⟨_,fO,λj y JJ AD AH DT=>?_⟩,λy c e=>?_,J.free,J.KQ,λp AV=>?_,tracked ⟨aeF,aaA,J.free⟩ AQ,(J.len:)⟩ ⟨_,AQ,.inl rfl⟩
  .exact(AQ.2 b (F7 (GG (Dk e) J.ok.above))).trans (J.base.keep b o e n A5 AJ)
  .obtain⟨Bm,AD⟩:=J.base.slot b o e n A5 AJ;exact⟨Bm,(AQ.2 b (F7 (GG (Dk e) J.ok.above))).trans AD⟩
  .obtain⟨o',AD⟩:=J.base.there b o e AJ;exact⟨o',(AQ.2 b (F7 (GG (Dk e) J.ok.above))).trans AD⟩
  .by_cases Ar:j=i
   .subst Ar;rw[hi]at AD;cases AD;rw[L3 hiσ]at AH;cases AH;exact⟨u,r,.inl ⟨AR,γ⟩⟩
   .rw[MR (Lq Ar)]at AH;obtain⟨Jg,Bd,q⟩:=AF j y JJ AD AH DT;refine⟨Jg,Bd,?_⟩;rcases q with⟨k,e⟩|⟨k,c,e,z⟩
    .refine .inl ⟨k,?_⟩;have:y≠x:=λe=>Ar (nh hN AD (e▸hi));simp[this,e]
    .exact .inr ⟨k,c,e,z.sameBut AQ (RK y c e)⟩
  .obtain⟨C_,z⟩:=J.cell y c e;exact⟨C_,z.sameBut AQ (RK y c e)⟩
  .obtain⟨e,n,ne,Fs,d⟩:=J.pin p AV;exact⟨(AQ.2 p.1 ne).trans e,n,ne,Fs,d⟩
 .have de:X.fn x=true:=by
    rcases hf with z|z
    .exact z
    .rw[z]at AR;cases AR
  obtain⟨c,AI⟩:=J.ok.has x (.inl AR);obtain⟨C_,z⟩:=J.cell x c AI;refine wpAny_storeName_cell J.ok.kind AR AI z (λh' Jq AQ=>?_);obtain⟨Gn,l7,aaD⟩:=id z;refine h { s with heap:=h' } ⟨J.ok,J.os,J.bare,⟨λb o e n A5 AJ=>?_,λb o e n A5 AJ=>?_,J.base.free,λb o e AJ=>?_,J.base.JI,J.base.Hr,J.base.JH⟩,⟨m,AM.sameBut AQ (Lq (RK x c AI)),λj y JJ AD AH DT=>?_⟩,λy Dq e=>?_,J.free,J.KQ,λp AV=>?_,tracked ⟨Gn,l7,J.KQ x c AI⟩ AQ,(J.len:)⟩ ⟨c,AQ,.inr AI⟩
  .exact(AQ.2 b (F7 (GG (Dk e) (J.ok.T6 x c de AI)))).trans (J.base.keep b o e n A5 AJ)
  .obtain⟨Bm,AD⟩:=J.base.slot b o e n A5 AJ;exact⟨Bm,(AQ.2 b (F7 (GG (Dk e) (J.ok.T6 x c de AI)))).trans AD⟩
  .obtain⟨o',AD⟩:=J.base.there b o e AJ;exact⟨o',(AQ.2 b (F7 (GG (Dk e) (J.ok.T6 x c de AI)))).trans AD⟩
  .by_cases Ar:j=i
   .subst Ar;rw[hi]at AD;cases AD;rw[L3 hiσ]at AH;cases AH;exact⟨u,r,.inr ⟨.inl AR,c,AI,Jq⟩⟩
   .rw[MR (Lq Ar)]at AH;obtain⟨Jg,Bd,q⟩:=AF j y JJ AD AH DT;refine⟨Jg,Bd,?_⟩;rcases q with q|⟨k,Dq,e,Fh⟩
    .exact .inl q
    .refine .inr ⟨k,Dq,e,Fh.sameBut AQ ?_⟩;rintro rfl;exact Ar (nh hN AD (J.ok.inj _ _ _ e AI▸hi))
  .by_cases lY:Dq=c
   .subst lY;exact⟨_,Jq⟩
   .obtain⟨Gh,F6⟩:=J.cell y Dq e;exact⟨Gh,F6.sameBut AQ lY⟩
  .obtain⟨e,n,ne,Fs,d⟩:=J.pin p AV;refine⟨(AQ.2 p.1 ?_).trans e,n,ne,Fs,d⟩;intro q;rw[q,l7]at e;have Cm:Gn=p.2:=Gc e;exact d C_ (by rw[<-Cm];exact aaD)
def hC{M:Model}{A:DE}{E:A9->AS->Prop}{i:Nat}{x:Str}{v:V}{u:A9}{Q:Unit->AS->Prop}(J:θ)(hN:X.N.Nodup)(hi:X.N[i]?=↥x)(AJ:Loc X.env.scope x)(r:RelV v u)(h:∀s',Inv X A4 (σ.set i ↥v) H s'->Q () s')(hf:X.fn x=true\/X.env.scope.names.lookup x=↥.local:=by first|exact .inl rfl|exact .inr rfl|assumption):An M A (storeName X.env x u) Q E s:=
 sI J hN hi AJ r (λs' FW _=>h s' FW) hf
def Inv.iq{s':AS}{ch:↑A7}(J:θ)(ho:s'.os=s.os)(u:GJ (FF X.stack) ch H AB s.heap s'.heap)(Az:FA X.prog X.w AB s'.heap)(Am:NM s'.gens)(Nd:∀b∈ch,(b∈X.ex\/X.G_.heap.objs.size<=b)/\b≠X.env.locals/\(∀x c,X.env.cells.lookup x=↥c->c≠b)/\∀p∈X.C7++A4,p.1≠b):Inv X A4 σ AB s':=by obtain⟨h',g',d',t',o'⟩:=s';have e:o'=s.os:=ho;subst e;exact J.call (g':=g') (t':=t') (d':=d') u Az Am Nd
end
abbrev FE:=A9->Option A7->AE->Prop
abbrev St:=↑(Option V)
abbrev CQ:=V->AE->Prop
abbrev TE:=St->AE->CQ->Prop
abbrev TT:=St->AE->(Bool->AE->Prop)->Prop
abbrev Fu:=St->AE->(↑V->AE->Prop)->Prop
structure Ends where
 AT:St->AE->Prop
 EX:CQ
 Ba:St->AE->Prop:=λ_ _=>False
 DS:St->AE->Prop:=λ_ _=>False
abbrev FL:=Ends->St->AE->Prop
def HD(X:Aq)(A4:μ)(σ :St)(Q:CQ)(u:A9)(s':AS):Prop:=∃v AB,Inv X A4 σ AB s'/\RelV v u/\Q v AB
def Zl(X:Aq)(A4:μ)(σ :St)(Q:Bool->AE->Prop)(b:Bool)(s':AS):Prop:=∃AB,Inv X A4 σ AB s'/\Q b AB
def uM(X:Aq)(A4:μ)(σ :St)(Q:↑V->AE->Prop)(us:↑A9)(s':AS):Prop:=∃vs AB,Inv X A4 σ AB s'/\Vals vs us/\Q vs AB
def Q6(X:Aq)(A4:μ)(D:Ends)(f:Flow)(s':AS):Prop:=
 match f with
 |.next=>∃ σ' AB,Inv X A4 σ' AB s'/\D.AT σ' AB
 |.brk=>∃ σ' AB,Inv X A4 σ' AB s'/\D.Ba σ' AB
 |.cont=>∃ σ' AB,Inv X A4 σ' AB s'/\D.DS σ' AB
 |.ret u=>∃v σ' AB,Inv X A4 σ' AB s'/\RelV v u/\D.EX v AB
def Af(X:Aq)(e:Ah)(t:TE):Prop:=
 ∀(A4:μ)(s:AS)(σ :St)(H:AE)(Q:CQ),θ->t σ H Q->An ξ X.A (BM e X.env) (HD X A4 σ Q) X.DB s
def El(X:Aq)(e:Ah)(t:TT):Prop:=
 ∀(A4:μ)(s:AS)(σ :St)(H:AE)(Q:Bool->AE->Prop),θ->t σ H Q->An ξ X.A (isTrue e X.env (BM e X.env)) (Zl X A4 σ Q) X.DB s
def K4(X:Aq)(e:Ah)(t:TT):Prop:=
 ∀(whole:Sem A9)(A4:μ)(s:AS)(σ :St)(H:AE)(Q:Bool->AE->Prop),θ->t σ H Q->An ξ X.A (isTrue e X.env whole) (Zl X A4 σ Q) X.DB s
def K4.pt{X:Aq}{e:Ah}{t:TT}(h:K4 X e t):El X e t:=h _
def HG(X:Aq)(es:↑Ah)(t:Fu):Prop:=
 ∀(pos:Pos)(A4:μ)(s:AS)(σ :St)(H:AE)(Q:↑V->AE->Prop),θ->t σ H Q->An ξ X.A (spliced (F8 pos (C8 es X.env))) (uM X A4 σ Q) X.DB s
def Df(X:Aq)(st:BG)(t:FL):Prop:=
 ∀(A4:μ)(s:AS)(σ :St)(H:AE)(D:Ends),θ->t D σ H->An ξ X.A (exec st X.env) (Q6 X A4 D) X.DB s
def Hc(X:Aq)(st:↑BG)(t:FL):Prop:=
 ∀(A4:μ)(s:AS)(σ :St)(H:AE)(D:Ends),θ->t D σ H->An ξ X.A (execs st X.env) (Q6 X A4 D) X.DB s
def BV{α:Type}{t:Sem α}{Q Hl:α->AS->Prop}{M:Model}{A:DE}{E:A9->AS->Prop}{s:AS}(h:An M A t Q E s)(Fo:∀a s,Q a s->Hl a s):An M A t Hl E s:=Hh h Fo λ_ _ x=>x
section
variable{X:Aq}
def bin{a b:Ah}{Bx tb:TE}(AG:Af X a Bx)(A5:Af X b tb){A4:μ}{s:AS}{σ :St}{H:AE}{R:V->V->AE->Prop}(J:θ)(h:Bx σ H λx H1=>tb σ H1 λy AU=>R x y AU){α:Type}{Q:α->AS->Prop}{f:A9->A9->Sem α}(hf:∀v u s2 x y AU,Inv X A4 σ AU s2->RelV x v->RelV y u->R x y AU->An ξ X.A (f v u) Q X.DB s2) :
  An ξ X.A (BM a X.env) (λv D3=>An ξ X.A (BM b X.env) (λu Jf=>An ξ X.A (f v u) Q X.DB Jf) X.DB D3) X.DB s:=by
 refine BV (AG A4 s σ H _ J h) λv s1⟨x,H1,Ac,Ax,q1⟩=>?_;refine BV (A5 A4 s1 σ H1 _ Ac q1) λu s2⟨y,AU,BW,BK,q2⟩=>?_;exact hf v u s2 x y AU BW Ax BK q2
def ry(i:Nat):TE:=λσ H Q=>∃v,σ[i]?=↥↥v/\Q v H
def PS(v:V):TE:=λ_ H Q=>Q v H
def afW{i:Nat}{x:Str}{pos:Pos}(hN:X.N[i]?=↥x)(Bg:Zm X.env.scope x)(hd:(x==("__debug__" :Str))=false:=by decide)(Ld:(x==("__classdict__" :Str))=false:=by decide):Af X (.Name x pos) (ry i):=by
 intro A4 s σ H Q J h;obtain⟨v,e,h⟩:=h;obtain⟨m,AM,AF⟩:=J.loc;obtain⟨u,r,l⟩:=AF i x v hN e Bg;have fin:HD X A4 σ Q u s:=⟨v,H,J,r,h⟩;rcases l with⟨AR,hm⟩|⟨AR,c,AI,lZ⟩
 .exact wpAny_Name (wpAny_loadName_local J.ok.kind AR AM hm fin) hd
 .rcases AR with AR|AR
  .exact wpAny_Name (wpAny_loadName_cell J.ok.kind AR AI lZ fin) hd
  .exact wpAny_Name (wpAny_loadName_free J.ok.kind AR AI lZ fin Ld) hd
def afH{i j pos}:Af X (.Constant (.int i) j pos) (PS (.int i)):=λ_ _ _ H _ J h=>wpAny_Constant_int ⟨.int i,H,J.tok _,⟨_,rfl⟩,h⟩
def adf{b j pos}:Af X (.Constant (.bool b) j pos) (PS (.AN b)):=λ_ _ _ H _ J h=>Constant_bool ⟨.AN b,H,J,rfl,h⟩
def afO{j pos}:Af X (.Constant .none j pos) (PS .non):=λ_ _ _ H _ J h=>Constant_none ⟨.non,H,J,rfl,h⟩
def gi{x j pos}:Af X (.Constant (.str x) j pos) (PS (.str x)):=λ_ _ _ H _ J h=>Calls.Constant_str ⟨.str x,H,J.tok _,⟨_,rfl⟩,h⟩
def Ek(X:Aq)(x:Str):Prop:=X.env.kindOf x=↥.globalImplicit
def WJ{E:A9->AS->Prop}{A4:μ}{s:AS}{σ :St}{H:AE}{x:Str}{u:A9}{pos:Pos}{Q:A9->AS->Prop}(J:θ)(Am:Ek X x)(hm:X.mg x=↥u)(h:Q u s)(hd:(x==("__debug__" :Str))=false:=by decide):An ξ X.A (BM (.Name x pos) X.env) Q E s:=
 tL J.ok.kind Am (Calls.loadGlobal_global (by rw[J.ok.glob];exact J.mod.glob.keeps J.Ba) hm h) hd
def Oy{E:A9->AS->Prop}{A4:μ}{s:AS}{σ :St}{H:AE}{x:Str}{u:A9}{pos:Pos}{Q:A9->AS->Prop}(J:θ)(Am:Ek X x)(hm:X.mg x=none)(Bg:OH x=↥u)(h:Q u s)(AM:x≠"__name__":=by decide)(hd:(x==("__debug__" :Str))=false:=by decide):An ξ X.A (BM (.Name x pos) X.env) Q E s:=by obtain⟨Gs,h1,h2⟩:=J.mod.blt;exact tL J.ok.kind Am (Calls.loadGlobal_builtin (by rw[J.ok.glob];exact J.mod.glob.keeps J.Ba) hm (by rw[J.ok.blt];exact h1.keeps J.Ba) ((h2 x AM).trans Bg) h) hd
def afF{x:Str}{v:V}{u:A9}{pos:Pos}(Am:Ek X x)(hm:X.mg x=↥u)(r:RelV v u)(hd:(x==("__debug__" :Str))=false:=by decide):Af X (.Name x pos) (PS v):=
 λ_ _ _ H _ J h=>WJ J Am hm ⟨v,H,J,r,h⟩ hd
def ae6{x:Str}{v:V}{u:A9}{pos:Pos}(Am:Ek X x)(hm:X.mg x=none)(Bg:OH x=↥u)(r:RelV v u)(AM:x≠"__name__":=by decide)(hd:(x==("__debug__" :Str))=false:=by decide):Af X (.Name x pos) (PS v):=
 λ_ _ _ H _ J h=>Oy J Am hm Bg ⟨v,H,J,r,h⟩ AM hd
variable{a b:Ah}{Bx tb:TE}{pos:Pos}
def uX(X:Aq)(op:CmpOp)(a b:Ah)(t:TE):Prop:=
 ∀(A4:μ)(s:AS)(σ :St)(H:AE)(Q:CQ),θ->t σ H Q->
  An ξ X.A (BM a X.env) (λv D3=>An ξ X.A (BM b X.env) (λu Jf=>An ξ X.A (GS op v u) (HD X A4 σ Q) X.DB Jf) X.DB D3) X.DB s
def ac_(b:Ah){op:CmpOp}(h:op≠.In)(h2:op≠.NotIn):MT op b=false:=by
 have AD:(op==CmpOp.In)=false:=by cases op<;>first|rfl|exact absurd rfl h
 have AH:(op==CmpOp.NotIn)=false:=by cases op<;>first|rfl|exact absurd rfl h2
 cases b<;>simp[MT,AD,AH]
noncomputable def hH(t:TE):TT:=λσ H Q=>t σ H λx H1=>∃c,x=.AN c/\Q c H1
def alQ{op:CmpOp}{t:TE}(h:uX X op a b t)(h1:MT op b=false:=by first|exact ac_ _ ε ε|rfl):El X (.Compare a [op] [b] pos) (hH t):=by intro A4 s σ H Q J hw;refine wpAny_isTrue_Compare1 (BV (h A4 s σ H _ J hw) λv s1 h1=>BV h1 λu s2 h2=>BV h2 λc s3⟨x,H1,Ac,Ax,q1⟩=>?_) h1;obtain⟨d,rfl,q⟩:=q1;cases Ax;exact MQ ⟨H1,Ac,q⟩
def agK{e:Ah}{t:TE}(h:Af X e t)(he:∀whole,isTrue e X.env whole=(do let v <-whole;MX e.pos;JQ [v] (truthy v)):=by intro _;rfl):El X e (hH t):=by intro A4 s σ H Q J hw;refine isTrue_plain (BV (h A4 s σ H _ J hw) λv s1⟨x,H1,Ac,Ax,q1⟩=>?_) (he _);obtain⟨d,rfl,q⟩:=q1;cases Ax;exact MQ ⟨H1,Ac,q⟩
variable{Gw YW:TT}{rest:↑Ah}
noncomputable def sM(t u:TT):TT:=λσ H Q=>t σ H λc H1=>if c=true then u σ H1 Q else Q false H1
noncomputable def rl(t u:TT):TT:=λσ H Q=>t σ H λc H1=>if c=true then Q true H1 else u σ H1 Q
noncomputable def rj(t:TT):TT:=λσ H Q=>t σ H λc H1=>Q (!c) H1
def agQ(AG:El X a Gw):K4 X (.BoolOp .And [a] pos) Gw:=by
 intro PX A4 s σ H Q J h;refine isTrue_and (BV (AG A4 s σ H Q J h) λc s1 e=>?_);cases c with
 |true=>exact isTrue_and_nil e
 |false=>exact e
def agS(AG:El X a Gw):K4 X (.BoolOp .Or [a] pos) Gw:=by
 intro PX A4 s σ H Q J h;refine isTrue_or (BV (AG A4 s σ H Q J h) λc s1 e=>?_);cases c with
 |false=>exact isTrue_or_nil e
 |true=>exact e
def agP(AG:El X a Gw)(A5:K4 X (.BoolOp .And (b::rest) pos) YW):K4 X (.BoolOp .And (a::b::rest) pos) (sM Gw YW):=by
 intro PX A4 s σ H Q J h;refine isTrue_and (BV (AG A4 s σ H _ J h) λc s1⟨H1,Ac,q1⟩=>?_);cases c with
 |true=>exact A5 PX A4 s1 σ H1 Q Ac q1
 |false=>exact⟨H1,Ac,q1⟩
def agR(AG:El X a Gw)(A5:K4 X (.BoolOp .Or (b::rest) pos) YW):K4 X (.BoolOp .Or (a::b::rest) pos) (rl Gw YW):=by
 intro PX A4 s σ H Q J h;refine isTrue_or (BV (AG A4 s σ H _ J h) λc s1⟨H1,Ac,q1⟩=>?_);cases c with
 |true=>exact⟨H1,Ac,q1⟩
 |false=>exact A5 PX A4 s1 σ H1 Q Ac q1
def agJ(AG:El X a Gw):El X (.UnaryOp .Not a pos) (rj Gw):=by intro A4 s σ H Q J h;exact isTrue_not (AG A4 s σ H (λc H1=>Q (!c) H1) J h)
noncomputable def sN(Bx tb:TE):TE:=λσ H Q=>Bx σ H λx H1=>∃c,x=.AN c/\if c=true then tb σ H1 Q else Q (.AN false) H1
noncomputable def rm(Bx tb:TE):TE:=λσ H Q=>Bx σ H λx H1=>∃c,x=.AN c/\if c=true then Q (.AN true) H1 else tb σ H1 Q
noncomputable def rk(Bx:TE):TE:=λσ H Q=>Bx σ H λx H1=>∃c,x=.AN c/\Q (.AN (!c)) H1
def afQ{op}{t:TE}(h:Af X a t):Af X (.BoolOp op [a] pos) t:=λA4 s σ H Q J hw=>BoolOp_one (h A4 s σ H Q J hw)
def ade(AG:Af X a Bx)(A5:Af X (.BoolOp .And (b::rest) pos) tb):Af X (.BoolOp .And (a::b::rest) pos) (sN Bx tb):=by
 intro A4 s σ H Q J h;refine BoolOp_and (BV (AG A4 s σ H _ J h) λv s1⟨x,H1,Ac,Ax,q1⟩=>?_);obtain⟨c,rfl,q1⟩:=q1;cases Ax;refine MQ ?_;cases c with
 |true=>exact A5 A4 s1 σ H1 Q Ac q1
 |false=>exact⟨.AN false,H1,Ac,rfl,q1⟩
def afR(AG:Af X a Bx)(A5:Af X (.BoolOp .Or (b::rest) pos) tb):Af X (.BoolOp .Or (a::b::rest) pos) (rm Bx tb):=by
 intro A4 s σ H Q J h;refine BoolOp_or (BV (AG A4 s σ H _ J h) λv s1⟨x,H1,Ac,Ax,q1⟩=>?_);obtain⟨c,rfl,q1⟩:=q1;cases Ax;refine MQ ?_;cases c with
 |false=>exact A5 A4 s1 σ H1 Q Ac q1
 |true=>exact⟨.AN true,H1,Ac,rfl,q1⟩
def afP(AG:Af X a Bx):Af X (.UnaryOp .Not a pos) (rk Bx):=by intro A4 s σ H Q J h;refine UnaryOp_ (BV (AG A4 s σ H _ J h) λv s1⟨x,H1,Ac,Ax,q1⟩=>?_);obtain⟨c,rfl,q1⟩:=q1;cases Ax;exact not_of (MQ ⟨.AN (!c),H1,Ac,rfl,q1⟩)
noncomputable def rd(t:TT)(Bx tb:TE):TE:=λσ H Q=>t σ H λc H1=>if c=true then Bx σ H1 Q else tb σ H1 Q
def afG{c:Ah}(AI:El X c Gw)(AG:Af X a Bx)(A5:Af X b tb):Af X (.IfExp c a b pos) (rd Gw Bx tb):=by
 intro A4 s σ H Q J h;refine wpAny_IfExp (BV (AI A4 s σ H _ J h) λd s1⟨H1,Ac,q1⟩=>?_);cases d with
 |true=>exact AG A4 s1 σ H1 Q Ac q1
 |false=>exact A5 A4 s1 σ H1 Q Ac q1
end
def Es(K:At)(H:AE)(a:A7)(xs:↑V):Prop:=
 Kr H a (.lst xs)\/
  ∃(o:Obj)(its:Array A9)(n:Nat),K.lookup a=↥o/\o.cls=.type "list"/\o.dict=none/\o.data=.seq its n/\its.size<=CO/\Vals xs its.toList
def Et(K:At)(H:AE)(a:A7)(xs:↑V):Prop:=
 Kr H a (.tup xs)\/
  ∃(o:Obj)(its:Array A9)(n:Nat),K.lookup a=↥o/\o.cls=.type "tuple"/\o.data=.seq its n/\its.size<=CO/\Vals xs its.toList
noncomputable def vN:A9->Option V
 |.none=>↥.non
 |.bool b=>↥(.AN b)
 |.int i _=>↥(.int i)
 |.str x _=>↥(.str x)
 |.bytes b _=>↥(.QD b)
 |.float b _=>↥(.SL b)
 |.ref a=>↥(.ref a)
 |.type n=>↥(.ty n)
 |_=>none
def RelV.abs{x:V}{u:A9}(r:RelV x u):vN u=↥x:=by
 cases x with
 |non=>cases r;rfl
 |AN _=>cases r;rfl
 |int _=>obtain⟨t,rfl⟩:=r;rfl
 |str _=>obtain⟨t,rfl⟩:=r;rfl
 |QD _=>obtain⟨t,rfl⟩:=r;rfl
 |SL _=>obtain⟨t,rfl⟩:=r;rfl
 |ref _=>cases r;rfl
 |ty _=>cases r;rfl
def RelV.inj{x y:V}{u:A9}(r:RelV x u)(q:RelV y u):x=y:=Gc (r.abs.symm.trans q.abs)
theorem Vals.inj:∀{xs ys:↑V}{us:↑A9},Vals xs us->Vals ys us->xs=ys
 |_,_,_,.nil,.nil=>rfl
 |_,_,_,.cons r t,.cons Bd t'=>by rw[r.inj Bd,Vals.inj t t']
section
variable{X:Aq}{A4:μ}{σ :St}{H:AE}{s:AS}{a:A7}{xs ys:↑V}
def Inv.list(J:θ)(h:Es X.K H a xs):∃its:↑A9,Vals xs its/\PlainL s.heap a its.toArray/\ ⇑xs<=CO:=by
 rcases h with h|⟨o,its,n,AR,AI,hd,AQ,hz,r⟩
 .obtain⟨z,its,n,r,e⟩:=h.ok J.Az;exact⟨its,r,⟨_,n,e,rfl,rfl,rfl⟩,z⟩
 .refine⟨its.toList,r,⟨o,n,J.FP a o AR,AI,hd,(AQ:)⟩,?_⟩;have e:=⇑r;erw[R1]at e;lia
def Inv.tuple(J:θ)(h:Et X.K H a xs):∃its:↑A9,Vals xs its/\IsTup s.heap a its.toArray/\ ⇑xs<=CO:=by
 rcases h with h|⟨o,its,n,AR,AI,AQ,hz,r⟩
 .obtain⟨z,its,r,p⟩:=h.ok J.Az;exact⟨its,r,p,z⟩
 .refine⟨its.toList,r,⟨o,J.FP a o AR,AI,n,(AQ:)⟩,?_⟩;have e:=⇑r;erw[R1]at e;lia
def Inv.fE(J:θ)(h:Es X.K H a xs)(h':Es X.K H a ys):xs=ys:=by
 obtain⟨its,r,⟨o,n,e,_,_,d⟩,_⟩:=J.list h;obtain⟨its',Bd,⟨o',X_,Bb,_,_,d'⟩,_⟩:=J.list h';rw[e]at Bb;cases Bb;rw[d]at d';injection d' with d1 _;have:its=its':=(congrArg Array.toList d1:)
 subst this;exact r.inj Bd
def Inv.hO(J:θ)(h:Et X.K H a xs)(h':Et X.K H a ys):xs=ys:=by
 obtain⟨its,r,⟨o,e,_,n,d⟩,_⟩:=J.tuple h;obtain⟨its',Bd,⟨o',Bb,_,X_,d'⟩,_⟩:=J.tuple h';rw[e]at Bb;cases Bb;rw[d]at d';injection d' with d1 _;have:its=its':=(congrArg Array.toList d1:)
 subst this;exact r.inj Bd
end
abbrev Aq.Kl(X:Aq)(E:A9->AS->Prop):Aq:={ X with DB:=E }
abbrev Aq.GD(X:Aq):Aq:=X.Kl λ_ _=>False
theorem Aq.Ok.Kl{X:Aq}(ok:X.Ok)(E:A9->AS->Prop):(X.Kl E).Ok:=
 ⟨ok.mod,ok.kind,ok.glob,ok.blt,ok.above,ok.inj,ok.has,ok.T6,ok.hd,ok.frames,ok.Ws,ok.dv,ok.bs,ok.PJ,ok.To,ok.VY,ok.K8,ok.QK⟩
def Aq.Ok.Kk{X:Aq}{E:A9->AS->Prop}(ok:(X.Kl E).Ok):X.Ok:=
 ⟨ok.mod,ok.kind,ok.glob,ok.blt,ok.above,ok.inj,ok.has,ok.T6,ok.hd,ok.frames,ok.Ws,ok.dv,ok.bs,ok.PJ,ok.To,ok.VY,ok.K8,ok.QK⟩
section
variable{X:Aq}{A4:μ}{σ :St}{H:AE}{s:AS}{E:A9->AS->Prop}
theorem Inv.Kl(J:θ)(E:A9->AS->Prop):Inv (X.Kl E) A4 σ H s:=⟨J.ok.Kl E,J.os,J.bare,J.base,J.loc,J.cell,J.free,J.KQ,J.pin,J.Az,J.len⟩
theorem Inv.Kk(J:Inv (X.Kl E) A4 σ H s):θ:=⟨J.ok.Kk,J.os,J.bare,J.base,J.loc,J.cell,J.free,J.KQ,J.pin,J.Az,J.len⟩
theorem Q6.Kk{D:Ends}{f:Flow}{s':AS}(h:Q6 (X.Kl E) A4 D f s'):Q6 X A4 D f s':=by
 cases f with
 |next=>obtain⟨σ',AB,J,q⟩:=h;exact⟨σ',AB,J.Kk,q⟩
 |brk=>obtain⟨σ',AB,J,q⟩:=h;exact⟨σ',AB,J.Kk,q⟩
 |cont=>obtain⟨σ',AB,J,q⟩:=h;exact⟨σ',AB,J.Kk,q⟩
 |ret u=>obtain⟨v,σ',AB,J,r,q⟩:=h;exact⟨v,σ',AB,J.Kk,r,q⟩
theorem Af.GD{e:Ah}{t:TE}(h:Af X.GD e t):Af X e t:=λA4 s σ H Q J hw=>
 Hh (h A4 s σ H Q (J.Kl _) hw) (λ_ _⟨v,AB,FW,r,q⟩=>⟨v,AB,FW.Kk,r,q⟩) λ_ _ z=>Hi z
theorem El.GD{e:Ah}{t:TT}(h:El X.GD e t):El X e t:=λA4 s σ H Q J hw=>
 Hh (h A4 s σ H Q (J.Kl _) hw) (λ_ _⟨AB,FW,q⟩=>⟨AB,FW.Kk,q⟩) λ_ _ z=>Hi z
theorem Hc.GD{st:↑BG}{t:FL}(h:Hc X.GD st t):Hc X st t:=λA4 s σ H D J hw=>
 Hh (h A4 s σ H D (J.Kl _) hw) (λ_ _ q=>q.Kk) λ_ _ z=>Hi z
end
section
variable{X:Aq}{st:BG}{rest:↑BG}{t u:FL}{e:Ah}{te:TE}{pos:Pos}
def Y_:FL:=λD σ H=>D.AT σ H
noncomputable def rr(t u:FL):FL:=λD σ H=>t { D with AT:=u D } σ H
def agG:Hc X [] Y_:=λ_ _ σ H _ J h=>Sq ⟨σ,H,J,h⟩
def agE(h1:Df X st t)(h2:Hc X rest u):Hc X (st::rest) (rr t u):=by
 intro A4 s σ H D J h;refine iB (BV (h1 A4 s σ H { D with AT:=u D } J h) λf s1 q=>?_);cases f with
 |next=>obtain⟨σ',AB,FW,q⟩:=q;exact h2 A4 s1 σ' AB D FW q
 |ret v=>exact q
 |brk=>exact q
 |cont=>exact q
def agH(h1:Df X st t):Hc X [st] t:=by
 intro A4 s σ H D J h;refine iB (BV (h1 A4 s σ H D J h) λf s1 q=>?_);cases f with
 |next=>exact Sq q
 |ret v=>exact q
 |brk=>exact q
 |cont=>exact q
def ag7:Df X (.Pass pos) Y_:=λ_ _ σ H _ J h=>wpAny_Pass ⟨σ,H,J,h⟩
def Inv.quiet{A4:μ}{σ :St}{H:AE}{s:AS}(J:θ):interactive X.env=false:=by simp[interactive,J.ok.kind]
def aeb{x j pos pos'}:Df X (.Expr (.Constant (.str x) j pos) pos') Y_:=λ_ s σ H _ J h=>wpAny_Expr (Calls.Constant_str (show Q6 X _ _ .next { s with toks:=s.toks+1 }from⟨σ,H,J.tok _,h⟩)) J.quiet
noncomputable def ra(te:TE):FL:=λD σ H=>te σ H λ_ H1=>D.AT σ H1
def aed(he:Af X e te)(AQ:OJ e none pos.line X.env=pure false:=by rfl):Df X (.Expr e pos) (ra te):=by intro A4 s σ H D J h;exact wpAny_Expr_any (BV (he A4 s σ H _ J h) λv s1⟨x,H1,Ac,Ax,q1⟩=>⟨σ,H1,Ac,q1⟩) J.quiet AQ
def rp(te:TE):FL:=λD σ H=>te σ H D.EX
def ag9(he:Af X e te):Df X (.Return ↥e pos) (rp te):=by intro A4 s σ H D J h;exact wpAny_Return_some (BV (he A4 s σ H _ J h) λv s1⟨x,H1,Ac,Ax,q1⟩=>⟨x,σ,H1,Ac,Ax,q1⟩)
def rq:FL:=λD _ H=>D.EX .non H
def agA:Df X (.Return none pos) rq:=λ_ _ σ H _ J h=>wpAny_Return_none ⟨.non,σ,H,J,rfl,h⟩
noncomputable def re(c:TT)(t u:FL):FL:=λD σ H=>c σ H λb H1=>if b=true then t D σ H1 else u D σ H1
def aef{c:Ah}{a b:↑BG}{HP:TT}(AI:El X c HP)(AG:Hc X a t)(A5:Hc X b u):Df X (.If c a b pos) (re HP t u):=by
 intro A4 s σ H D J h;refine wpAny_If (BV (AI A4 s σ H _ J h) λd s1⟨H1,Ac,q1⟩=>?_);cases d with
 |true=>exact AG A4 s1 σ H1 D Ac q1
 |false=>exact A5 A4 s1 σ H1 D Ac q1
def rh:FL:=λ_ _ _=>False
def af6:Df X st rh:=λ_ _ _ _ _ _ h=>h.elim
def agF{Qs:↑BG}:Hc X Qs rh:=λ_ _ _ _ _ _ h=>h.elim
end
abbrev K5:=V->St->AE->(St->AE->Prop)->Prop
abbrev PD:=↑V->St->AE->(St->AE->Prop)->Prop
def Hb(X:Aq)(target:Ah)(t:K5):Prop:=
 ∀(A4:μ)(s:AS)(σ :St)(H:AE)(v:V)(u:A9)(Q:St->AE->Prop),θ->RelV v u->t v σ H Q->
  An ξ X.A (L7 target X.env u) (λ_ s'=>∃ σ' AB,Inv X A4 σ' AB s'/\Q σ' AB) X.DB s
def LW(X:Aq)(ts:↑Ah)(t:PD):Prop:=
 ∀(A4:μ)(s:AS)(σ :St)(H:AE)(vs:↑V)(us:↑A9)(Q:St->AE->Prop),θ->Vals vs us->t vs σ H Q->
  An ξ X.A (assignInOrder ((Lo ts X.env).map (·.2)) us) (λ_ s'=>∃ σ' AB,Inv X A4 σ' AB s'/\Q σ' AB) X.DB s
abbrev dQ:=V->V->V->AE->(AE->Prop)->Prop
def ip(X:Aq)(t:dQ):Prop:=
 ∀(A4:μ)(s:AS)(σ :St)(H:AE)(o i v:V)(CN HJ u:A9)(Q:AE->Prop),θ->RelV o CN->RelV i HJ->RelV v u->t o i v H Q->
  An ξ X.A (setItem CN HJ u) (λ_ s'=>∃AB,Inv X A4 σ AB s'/\Q AB) X.DB s
section
variable{X:Aq}{pos:Pos}
def aR(i:Nat):K5:=λv σ H Q=>Q (σ.set i ↥v) H
def XD{i:Nat}{x:Str}(hN:X.N.Nodup)(hi:X.N[i]?=↥x)(AJ:Loc X.env.scope x)(hf:X.fn x=true\/X.env.scope.names.lookup x=↥.local:=by first|exact .inl rfl|exact .inr rfl|assumption):Hb X (.Name x pos) (aR i):=by intro A4 s σ H v u Q J r h;exact wpAny_assign_Name (hC J hN hi AJ r (λs' FW=>⟨_,H,FW,h⟩) hf)
def kM:PD:=λvs σ H Q=>vs=[]/\Q σ H
noncomputable def kL(t:K5)(u:PD):PD:=λvs σ H Q=>∃v r,vs=v::r/\t v σ H λσ' AB=>u r σ' AB Q
def nV:LW X [] kM:=by intro A4 s σ H vs us Q J r h;obtain⟨e,h⟩:=h;subst e;cases r;exact assignInOrder_nil ⟨σ,H,J,h⟩
def fp{e:Ah}{es:↑Ah}{t:K5}{u:PD}(h1:Hb X e t)(h2:LW X es u)(AQ:(Lo (e::es) X.env).map (·.2)=L7 e X.env::(Lo es X.env).map (·.2):=by rfl):LW X (e::es) (kL t u):=by
 intro A4 s σ H vs us Q J r h;obtain⟨v,sy,AD,h⟩:=h;subst AD;cases r with
 |cons r Kd=>rw[AQ];refine assignInOrder_cons (BV (h1 A4 s σ H _ _ _ J r h) λ_ s1⟨σ1,H1,Ac,q1⟩=>?_);exact h2 A4 s1 σ1 H1 _ _ Q Ac Kd q1
noncomputable def kO(K:At)(n:Nat)(t:PD):K5:=λv σ H Q=>∃a xs,v=.ref a/\Et K H a xs/\ ⇑xs=n/\t xs σ H Q
def nU{es:↑Ah}{k:Nat}{t:PD}{n:Nat}(AI:X.calm=true)(h:LW X es t)(AM:⇑(Lo es X.env)=n:=by rfl)(GA:(Lo es X.env).findIdx? (·.1)=none:=by rfl):Hb X (.Tuple es k pos) (kO X.K n t):=by intro A4 s σ H v u Q J r hw;obtain⟨a,xs,AD,AW,AF,hw⟩:=hw;subst AD;cases r;obtain⟨its,Bw,Bc,hz⟩:=J.tuple AW;refine assign_Tuple_tuple (J.ok.hd AI) Bc (by simp[AM,<-AF,⇑Bw]) GA λh' AJ=>?_;have Ac:Inv X A4 σ H { s with heap:=h' }:=J.kept (t':=s.toks) λb o e=>AJ b o (F7 (Dk e)) e;exact h A4 _ σ H xs _ Q Ac (Bw:) hw
noncomputable def kN(to Ye:TE)(t:dQ):K5:=λv σ H Q=>to σ H λo H1=>Ye σ H1 λi AU=>t o i v AU λC4=>Q σ C4
def aei {o i:Ah} {to Ye:TE} {t:dQ} (ho:Af X o to) (hi:Af X i Ye) (AQ:ip X t)(AG:∀v,L7 (.Subscript o i pos) X.env v=(do
    let CN <-JQ [v] (BM o X.env)
    let HJ <-JQ [v,CN] (BM i X.env)
    MX pos
    JQ [v,CN,HJ] (setItem CN HJ v)
    release [v,CN,HJ] []):=by intro _;rfl):Hb X (.Subscript o i pos) (kN to Ye t):=by
 intro A4 s σ H v u Q J r h;rw[AG];refine Ad (MU (BV (ho A4 s σ H _ J h) λCN s1⟨x,H1,Ac,Ax,q1⟩=>?_));refine Ad (MU (BV (hi A4 s1 σ H1 _ Ac q1) λHJ s2⟨y,AU,BW,BK,q2⟩=>?_));refine Ad (wpAny_standAt (Ad (MU (BV (AQ A4 s2 σ AU x y v CN HJ u _ BW Ax BK r q2) λ_ s3⟨C4,D4,F4⟩=>?_))));exact wpAny_release ⟨σ,C4,D4,F4⟩
noncomputable def hG(te:TE)(g:K5):FL:=λD σ H=>te σ H λx H1=>g x σ H1 D.AT
def nB{CE e:Ah}{te:TE}{g:K5}(he:Af X e te)(Am:Hb X CE g)(AQ:swapsWithSole [CE] e pos.line X.env=pure false:=by rfl)(hw:swappedStores [CE] e X.env=pure none:=by rfl)(h1:(Lo [CE] X.env).map (·.2)=[L7 CE X.env]:=by rfl):Df X (.Assign [CE] e pos) (hG te g):=by intro A4 s σ H D J h;refine wpAny_Assign_stores (BV (he A4 s σ H _ J h) λv s1⟨x,H1,Ac,Ax,q1⟩=>?_) AQ hw;rw[h1];exact BV (Am A4 s1 σ H1 x v _ Ac Ax q1) λ_ s2 q=>q
def agB{i:Nat}{x:Str}{e:Ah}{te:TE}{pos':Pos}(hN:X.N.Nodup)(hi:X.N[i]?=↥x)(AJ:Loc X.env.scope x)(he:Af X e te)(AQ:OJ e ↥(.Name x pos') pos.line X.env=pure false:=by rfl)(hf:X.fn x=true\/X.env.scope.names.lookup x=↥.local:=by first|exact .inl rfl|exact .inr rfl|assumption) :
  Df X (.Assign [.Name x pos'] e pos) (hG te (aR i)):=by
 intro A4 s σ H D J h;refine wpAny_Assign_Name (BV (he A4 s σ H _ J h) λv s1⟨y,H1,Ac,Ax,q1⟩=>?_) AQ;exact hC Ac hN hi AJ Ax (λs2 BW=>⟨_,H1,BW,q1⟩) hf
end
section
variable{X:Aq}{pos:Pos}
noncomputable def rO(c:TT)(tb:FL):FL:=λD σ H=>∃W:Nat->St->AE->Prop,(∃m,W m σ H)/\∀m σ H,W m σ H->
 c σ H λb H1=>if b=true then ∃N:St->AE->Prop,(∀ σ' AB,N σ' AB->∃EJ,EJ<m/\W EJ σ' AB)/\tb { D with AT:=N,DS:=N,Ba:=D.AT } σ H1 else D.AT σ H1
def agD{c:Ah}{body:↑BG}{HP:TT}{tb:FL}(AV:PassesOwn ξ X.A X.env X.DB)(AI:El X c HP)(A5:Hc X body tb):Df X (.While c body [] pos) (rO HP tb):=by
 intro A4 s σ H D J h;obtain⟨W,⟨m0,KG⟩,turn⟩:=h;refine wpAny_While (codeAny_whileLoop (λn s'=>∃ σ' AB,Inv X A4 σ' AB s'/\W n σ' AB) ?_ m0 ⟨σ,H,J,KG⟩);rintro n s1 ⟨σ1,H1,Ac,GF⟩;refine Qy AV (BV (AI A4 s1 σ1 H1 _ Ac (turn n σ1 H1 GF)) λb s2⟨AU,BW,q2⟩=>?_);cases b with
 |true=>
  obtain⟨N,hN,q2⟩:=q2;rw[if_pos rfl];refine Qy AV (BV (A5 A4 s2 σ1 AU _ BW q2) λf s3 F4=>?_);cases f with
  |next=>obtain⟨σ3,C4,D4,S9⟩:=F4;obtain⟨EJ,hm,Rl⟩:=hN σ3 C4 S9;exact⟨EJ,hm,σ3,C4,D4,Rl⟩
  |cont=>obtain⟨σ3,C4,D4,S9⟩:=F4;obtain⟨EJ,hm,Rl⟩:=hN σ3 C4 S9;exact⟨EJ,hm,σ3,C4,D4,Rl⟩
  |brk=>exact F4
  |ret v=>exact F4
 |false=>rw[if_neg L4];exact Sq ⟨σ1,AU,BW,q2⟩
end
structure It where
 go:Nat->AE->Prop
 Xt:Nat->AE->V->AE->Prop
 stop:Nat->AE->Prop
def Kn(X:Aq)(A4:μ)(H:AE)(b:A7):Prop:=
 H b=none/\b≠X.env.locals/\b∉X.BA/\(b∈X.ex\/X.G_.heap.objs.size<=b)/\(∀x c,X.env.cells.lookup x=↥c->c≠b)/\∀p∈X.C7++A4,p.1≠b
def Inv.Mo{X:Aq}{A4:μ}{σ :St}{H AB:AE}{s:AS}{b:A7}(J:θ)(A5:s.heap.objs.size<=b)(AM:AB b=none):Kn X A4 AB b:=by
 refine⟨AM,R6 (GG J.lt A5),J.ae7 A5,.inr (IG J.Qt A5),λx c e z=>?_,λp AV z=>?_⟩
 .obtain⟨v,q⟩:=J.cell x c e;exact absurd (GG q.lt (by rw[z];exact A5)) (Jj _)
 .exact absurd (GG (Dk (J.pin p AV).1) (by rw[z];exact A5)) (Jj _)
structure Turn(P:C9)(w:Bl)(K:At)(CE:Ah)(BH:It)(BP:↑A7)(it:A7)(Hw:Nat->BF->Prop):Prop where
 mem:it∈BP
 obj:∀i h,Hw i h->∀b∈BP,∃o,h.get? b=↥o/\∀v,o.data≠.cell v
 keep:∀i h h',Hw i h->(∀b∈BP,∀o,h.get? b=↥o->h'.get? b=↥o)->Hw i h'
 item:∀(X:Aq),X.prog=P->X.w=w->X.K=K->X.calm=true->∀(i:Nat)(A4:μ)(s:AS)(σ :St)(H:AE)(E:A9->AS->Prop),θ->(∀b∈BP,Kn X A4 H b)->Hw i s.heap->BH.go i H->
  An (B4 P w) X.A (OQ (.ref it)) (λr s1=>∃u,r=↥u/\
   An (B4 P w) X.A (ZH CE (.ref it) u) (λ_ s2=>∃x AB,Inv X A4 σ AB s2/\RelV x u/\BH.Xt i H x AB/\Hw (i+1) s2.heap/\∀b∈BP,AB b=none) E s1) E s
 done:∀(X:Aq),X.prog=P->X.w=w->X.K=K->X.calm=true->∀(i:Nat)(A4:μ)(s:AS)(σ :St)(H:AE)(E:A9->AS->Prop),θ->(∀b∈BP,Kn X A4 H b)->Hw i s.heap->BH.stop i H->
  An (B4 P w) X.A (OQ (.ref it)) (λr s1=>r=none/\Inv X A4 σ H s1) E s
 self:∀(A:DE)(i:Nat)(s:AS)(Q:A9->AS->Prop)(E:A9->AS->Prop),Hw i s.heap->Q (.ref it) s->An (B4 P w) A (pyIter (.ref it)) Q E s
abbrev TI:=St->AE->(It->AE->Prop)->Prop
def ig(X:Aq)(A4:μ)(σ :St)(CE:Ah)(R:It->AE->Prop)(bt:A9)(s2:AS):Prop:=
 ∃(it:A7)(BP:↑A7)(Hw:Nat->BF->Prop)(BH:It)(AB:AE),bt=.ref it/\Inv X A4 σ AB s2/\Turn X.prog X.w X.K CE BH BP it Hw/\Hw 0 s2.heap/\(∀b∈BP,Kn X A4 AB b)/\R BH AB
def Hk(X:Aq)(CE iter:Ah)(J1:TI):Prop:=
 ∀(A4:μ)(s:AS)(σ :St)(H:AE)(R:It->AE->Prop),θ->J1 σ H R->
  An ξ X.A (BM iter X.env) (λv s1=>An ξ X.A (pyIter v) (ig X A4 σ CE R) X.DB s1) X.DB s
def TO{M:Model}{A:DE}{E:A9->AS->Prop}{s:AS}{CE:Ah}{it:A7}{u:A9}{o:Obj}{n:String}{vs:Array A9}{Q:Unit->AS->Prop}(ho:s.heap.get? it=↥o)(AI:o.cls=.type n)(hd:o.data=.fields vs)(AM:["enumerate","zip","dict_itemiterator","dict_reverseitemiterator","odict_iterator","itertools.zip_longest","itertools.pairwise"].contains n=false)(Fo:Q () s):An M A (ZH CE (.ref it) u) Q E s:=by
 unfold ZH
 cases CE<;>first
  |exact B_ Fo
  |(cases u<;>first
      |exact B_ Fo
      |(refine Ad (wpAny_load ho ?_)
        rw[AI,hd];show An M A (if(["enumerate","zip","dict_itemiterator","dict_reverseitemiterator","odict_iterator","itertools.zip_longest","itertools.pairwise"].contains n&&vs[0]?==↥(NN _))=true then _ else _) Q E s;rw[if_neg (by intro h;rw[AM,Bool.false_and]at h;cases h)];exact B_ Fo))
noncomputable def d8(K:At)(a:A7):It:=
 ⟨λi H=>∃xs x,Es K H a xs/\xs[i]?=↥x,λi H x AB=>AB=H/\∀xs,Es K H a xs->xs[i]?=↥x,λi H=>∃xs,Es K H a xs/\ ⇑xs<=i⟩
noncomputable def dB(K:At)(a:A7):It:=
 ⟨λi H=>∃xs x,Et K H a xs/\xs[i]?=↥x,λi H x AB=>AB=H/\∀xs,Et K H a xs->xs[i]?=↥x,λi H=>∃xs,Et K H a xs/\ ⇑xs<=i⟩
noncomputable def Vb(lo:Int)(n:Nat):It:=⟨λi _=>i<n,λi H x AB=>AB=H/\x=.int (lo+i),λi _=>n<=i⟩
def ag_{P:C9}{w:Bl}{K:At}{CE:Ah}(a it:A7):Turn P w K CE (d8 K a) [it] it (λi h=>h.IsListIter it a i) where
 mem:=γ
 obj:=λi h st b A5=>by
  have e:b=it:=(A5:)
  subst e;obtain⟨o,e,c,d⟩:=st;exact⟨o,e,λv z=>by rw[d]at z;cases z⟩
 keep:=λi h h' st k=>st.at λo e=>k it γ o e
 item:=by nofun;obtain⟨xs,x,AW,AJ⟩:=Am;obtain⟨its,Bw,p,hz⟩:=J.list AW;obtain⟨u,BR,Fb⟩:=Bw.get AJ;obtain⟨f0,f1,f2,Ev,f4,GU⟩:=hf it γ;refine wpAny_pyNext_list_item st p.isList (x:=u) (BR:) λh' HA Fc=>?_;have Ac:Inv X A4 σ H { s with heap:=h' }:=J.turned (t':=s.toks) (λb o A5 e=>(Fc.2 b A5).trans e) f0 f1 Ev f4 GU;obtain⟨o,e,c,d⟩:=id HA;exact⟨u,rfl,TO (s:={ s with heap:=h' }) e c d ε ⟨x,H,Ac,Fb,⟨rfl,λys AP=>by rw[J.fE AP AW];exact AJ⟩,HA,λb A5=>(hf b A5).1⟩⟩
 done:=by nofun;obtain⟨xs,AW,AJ⟩:=Am;obtain⟨its,Bw,p,hz⟩:=J.list AW;obtain⟨f0,f1,f2,Ev,f4,GU⟩:=hf it γ;have AF:=⇑Bw;exact wpAny_pyNext_list_end (J.ok.hd AI) st p.isList (by simp;lia) λh' BE=>⟨rfl,J.turned (t':=s.toks) (λb o A5 e=>BE b o A5 e) f0 f1 Ev f4 GU⟩
 self:=λ_ _ _ _ _ st h=>wpAny_pyIter_listiter st h
def agd{P:C9}{w:Bl}{K:At}{CE:Ah}(a it:A7):Turn P w K CE (dB K a) [it] it (λi h=>h.IsTupleIter it a i) where
 mem:=γ
 obj:=λi h st b A5=>by
  have e:b=it:=(A5:)
  subst e;obtain⟨o,e,c,d⟩:=st;exact⟨o,e,λv z=>by rw[d]at z;cases z⟩
 keep:=λi h h' st k=>st.at λo e=>k it γ o e
 item:=by nofun;obtain⟨xs,x,AW,AJ⟩:=Am;obtain⟨its,Bw,p,hz⟩:=J.tuple AW;obtain⟨u,BR,Fb⟩:=Bw.get AJ;obtain⟨f0,f1,f2,Ev,f4,GU⟩:=hf it γ;refine wpAny_pyNext_tuple_item st (show s.heap.IsTuple a its.toArray from p) (x:=u) (BR:) λh' HA Fc=>?_;have Ac:Inv X A4 σ H { s with heap:=h' }:=J.turned (t':=s.toks) (λb o A5 e=>(Fc.2 b A5).trans e) f0 f1 Ev f4 GU;obtain⟨o,e,c,d⟩:=id HA;exact⟨u,rfl,TO (s:={ s with heap:=h' }) e c d ε ⟨x,H,Ac,Fb,⟨rfl,λys AP=>by rw[J.hO AP AW];exact AJ⟩,HA,λb A5=>(hf b A5).1⟩⟩
 done:=by nofun;obtain⟨xs,AW,AJ⟩:=Am;obtain⟨its,Bw,p,hz⟩:=J.tuple AW;obtain⟨f0,f1,f2,Ev,f4,GU⟩:=hf it γ;have AF:=⇑Bw;exact wpAny_pyNext_tuple_end (J.ok.hd AI) st (show s.heap.IsTuple a its.toArray from p) (by simp;lia) λh' BE=>⟨rfl,J.turned (t':=s.toks) (λb o A5 e=>BE b o A5 e) f0 f1 Ev f4 GU⟩
 self:=λ_ _ _ _ _ st h=>wpAny_pyIter_tupleiter st h
def agb{P:C9}{w:Bl}{K:At}{CE:Ah}(it:A7)(lo:Int)(n:Nat):Turn P w K CE (Vb lo n) [it] it (λi h=>IsRangeIter h it (lo+(i:Nat)*1) ((n:Int)-(i:Nat)) 1) where
 mem:=γ
 obj:=λi h st b A5=>by
  have e:b=it:=(A5:)
  subst e;exact⟨_,st,λv z=>by have Fh:ZI _=Sx v:=z;cases Fh⟩
 keep:=λi h h' st k=>k it γ _ st
 item:=by nofun;obtain⟨f0,f1,f2,Ev,f4,GU⟩:=hf it γ;have W:=Walks.range (prog:=X.prog) (w:=X.w) (J.ok.hd AI) it lo 1 n;refine W.item i s _ _ Am st λv h' Ce Bg HA FG=>?_;obtain⟨t,rfl⟩:=Bg;have Ac:Inv X A4 σ H { s with heap:=h',toks:=Ce }:=J.turned (λb o A5 e=>FG b o (A5:) e) f0 f1 Ev f4 GU;refine⟨_,rfl,TO (s:={ s with heap:=h',toks:=Ce }) (n:="range_iterator") HA rfl rfl ε ⟨.int (lo+i),H,Ac,⟨t,?_⟩,⟨rfl,rfl⟩,HA,λb A5=>(hf b A5).1⟩⟩;rw[Int.mul_one]
 done:=by nofun;obtain⟨f0,f1,f2,Ev,f4,GU⟩:=hf it γ;exact wpAny_pyNext_range_end (J.ok.hd AI) st (by have:n<=i:=Am;lia) λh' BE=>⟨rfl,J.turned (t':=s.toks) (λb o A5 e=>BE b o A5 e) f0 f1 Ev f4 GU⟩
 self:=λ_ _ _ _ _ st h=>wpAny_pyIter_rangeiter st h
section
variable{X:Aq}{CE:Ah}
def pH{A4:μ}{σ :St}{H:AE}{s:AS}{R:It->AE->Prop}{E:A9->AS->Prop}{lo hi:Int}{t u v:Tok}{Ce:Nat}(J:θ)(h1: -(2^62)<=lo)(h2:lo<2^62)(BO: -(2^62)<=hi)(D5:hi<2^62)(q:R (Vb lo (hi-lo).toNat) H):An ξ X.A (pyIter (.ref s.heap.objs.size)) (ig X A4 σ CE R) E { s with heap:=s.heap.push { cls:=.type "range",data:=.fields #[.int lo t,.int hi u,.int 1 v] },toks:=Ce }:=by
 refine wpAny_pyIter_range (IsRange.new ..) (small_one h1 h2 BO D5) ?_;have Ac:Inv X A4 σ H { s with heap:=s.heap.push { cls:=.type "range",data:=.fields #[.int lo t,.int hi u,.int 1 v] },toks:=Ce }:=J.kept λb o e=>Cy _ e
 refine⟨(s.heap.push { cls:=.type "range",data:=.fields #[.int lo t,.int hi u,.int 1 v] }).objs.size,[(s.heap.push { cls:=.type "range",data:=.fields #[.int lo t,.int hi u,.int 1 v] }).objs.size],_,_,H,rfl,
  Ac.kept (t':=Ce) λb o e=>Cy _ e,agb _ lo (hi-lo).toNat,?_,λb A5=>?_,q⟩
 .have AD:lo+((0:Nat):Int)*1=lo:=γ
  have AH:(((hi-lo).toNat:Nat):Int)-((0:Nat):Int)=tq lo hi 1:=by rw[rangeSize_one];split<;>lia
  show IsRangeIter _ _ (lo+((0:Nat):Int)*1) ((((hi-lo).toNat:Nat):Int)-((0:Nat):Int)) 1;rw[AD,AH];exact Fe _ rfl
 .have e:b=(s.heap.push { cls:=.type "range",data:=.fields #[.int lo t,.int hi u,.int 1 v] }).objs.size:=by simpa using A5
  subst e;exact Ac.Mo (C1 _) (Ac.Az.fresh (C1 _))
def zo(Bx:Fu):TI:=λσ H R=>Bx σ H λvs H1=>∃j:Int,vs=[.int j]/\-(2^62)<=j/\j<2^62/\R (Vb 0 j.toNat) H1
def zp(Bx:Fu):TI:=λσ H R=>Bx σ H λvs H1=>∃i j:Int,vs=[.int i,.int j]/\(-(2^62)<=i/\i<2^62/\-(2^62)<=j/\j<2^62)/\R (Vb i (j-i).toNat) H1
def aen{a:Ah}{Bx:Fu}{p pos:Pos}(Am:Ek X "range")(hm:X.mg "range"=none)(AG:HG X [a] Bx)(AQ:C8 [a] X.env=[(false,BM a X.env)]:=by rfl):Hk X CE (.Call (.Name "range" p) [a] [] pos) (zo Bx):=by
 intro A4 s σ H R J h;refine Call_ (Oy J Am hm boot_range (Qv (BV (AG pos A4 s σ H _ J h) λus s1⟨vs,H1,Ac,Ax,q1⟩=>?_) AQ rfl));obtain⟨j,e,q1,q2,q⟩:=q1;subst e;cases Ax with
 |cons r Kd=>cases Kd;obtain⟨t,rfl⟩:=r;exact call_range_1 (pH Ac δ δ q1 q2 (q:))
def aeo{a b:Ah}{Bx:Fu}{p pos:Pos}(Am:Ek X "range")(hm:X.mg "range"=none)(AG:HG X [a,b] Bx)(AQ:C8 [a,b] X.env=[(false,BM a X.env),(false,BM b X.env)]:=by rfl)(I8:C8 [b] X.env=[(false,BM b X.env)]:=by rfl) :
  Hk X CE (.Call (.Name "range" p) [a,b] [] pos) (zp Bx):=by
 intro A4 s σ H R J h;refine Call_ (Oy J Am hm boot_range (Qv (BV (AG pos A4 s σ H _ J h) λus s1⟨vs,H1,Ac,Ax,q1⟩=>?_) (by rw[AQ,I8]) (by rw[I8];rfl)));obtain⟨i,j,e,⟨q1,q2,F4,Ma⟩,q⟩:=q1;subst e;cases Ax with
 |cons r Kd=>
  cases Kd with
  |cons Bd Kd=>cases Kd;obtain⟨t,rfl⟩:=r;obtain⟨t',rfl⟩:=Bd;exact call_range_2 (pH Ac q1 q2 F4 Ma q)
noncomputable def YY(J1:TI)(g:K5)(tb:FL):FL:=λD σ H=>J1 σ H λBH H1=>∃W:Nat->Nat->St->AE->Prop,(∃m,W 0 m σ H1)/\∀i m σ H,W i m σ H->
 (BH.stop i H/\D.AT σ H)\/(BH.go i H/\∃N:St->AE->Prop,(∀ σ' AB,N σ' AB->∃EJ,EJ<m/\W (i+1) EJ σ' AB)/\∀x AB,BH.Xt i H x AB->g x σ AB λσ2 AU=>tb { D with AT:=N,DS:=N,Ba:=D.AT } σ2 AU)
noncomputable def XE(BP:↑A7)(h:BF):μ:=BP.filterMap λb=>(h.get? b).map λo=>(b,o)
def bL{BP:↑A7}{h:BF}{b:A7}{o:Obj}(A5:b∈BP)(e:h.get? b=↥o):(b,o)∈XE BP h:=List.mem_filterMap.mpr ⟨b,A5,by rw[e];rfl⟩
def aeM{BP:↑A7}{h:BF}{p:A7×Obj}(AV:p∈XE BP h):p.1∈BP/\h.get? p.1=↥p.2:=by
 obtain⟨b,A5,e⟩:=List.mem_filterMap.mp AV;cases q:h.get? b with
 |none=>rw[q]at e;cases e
 |some o=>rw[q]at e;have Bb:(b,o)=p:=Gc e;subst Bb;exact⟨A5,q⟩
def Inv.pinned{A4:μ}{σ :St}{H:AE}{s:AS}{BP:↑A7}(J:θ)(hf:∀b∈BP,Kn X A4 H b)(ho:∀b∈BP,∃o,s.heap.get? b=↥o/\∀v,o.data≠.cell v):Inv X (A4++XE BP s.heap) σ H s:=
 J.nX λp AV=>(List.mem_append.mp AV).elim (λz=>J.pin p (IA _ z)) λz=>by obtain⟨A5,e⟩:=aeM z;obtain⟨f0,f1,f2,_⟩:=hf p.1 A5;obtain⟨o,Bb,d⟩:=ho p.1 A5;rw[e]at Bb;cases Bb;exact⟨e,f0,f1,f2,d⟩
def Inv.Xz{A4 pl:μ}{σ :St}{H:AE}{s:AS}(J:Inv X (A4++pl) σ H s):θ:=J.nX λp AV=>J.pin p (IA _ (J2 _ AV))
def fx{iter:Ah}{body:↑BG}{J1:TI}{g:K5}{tb:FL}{pos:Pos}(AV:PassesOwn ξ X.A X.env X.DB)(AI:X.calm=true)(hi:Hk X CE iter J1)(Am:Hb X CE g)(A5:Hc X body tb)(AQ:∀x,OF iter X.env x=pure x:=by intro _;rfl):Df X (.For CE iter body [] pos) (YY J1 g tb):=by
 intro A4 s σ H D J h;refine wpAny_For (BV (hi A4 s σ H _ J h) λv s1 h1=>BV h1 λbt s2 h2=>?_) AQ;obtain⟨it,BP,Hw,BH,AU,e,BW,T,KC,f2,W,⟨m0,KG⟩,turn⟩:=h2;subst e;have stat:∀{AB:AE},(∀b∈BP,AB b=none)->∀b∈BP,Kn X A4 AB b:=λAM b A5=>⟨AM b A5,(f2 b A5).2⟩;refine codeAny_forLoop_any (λn s'=>∃i σ' AB,Inv X A4 σ' AB s'/\Hw i s'.heap/\(∀b∈BP,AB b=none)/\W i n σ' AB) ?_ m0 ⟨0,σ,AU,BW,KC,λb A5=>(f2 b A5).1,KG⟩;rintro n s3 ⟨i,σ3,C4,D4,sF,kI,Rl⟩;rcases turn i n σ3 C4 Rl with⟨stop,qn⟩|⟨go,N,hN,Do⟩
 .refine Qy AV (BV (T.done X rfl rfl rfl AI i A4 s3 σ3 C4 X.DB D4 (stat kI) sF stop) λr s4⟨B6,M6⟩=>?_);subst B6;exact Sq ⟨σ3,C4,M6,qn⟩
 .refine Qy AV (BV (T.item X rfl rfl rfl AI i A4 s3 σ3 C4 X.DB D4 (stat kI) sF go) λr s4⟨u,B6,D5⟩=>?_);subst B6;refine Qy AV (BV D5 λ_ s5⟨x,EN,P7,SC,gv,Uj,aQ⟩=>?_);have uE:=P7.pinned (stat aQ) (T.obj _ _ Uj);refine Qy AV (BV (Am _ s5 σ3 EN x u _ uE SC (Do x EN gv)) λ_ s6⟨σ6,Fj,RS,Ql⟩=>?_);refine Qy AV (BV (A5 _ s6 σ6 Fj _ RS Ql) λf s7 LP=>?_);have again:∀{σ7:St}{CZ:AE},Inv X (A4++XE BP s5.heap) σ7 CZ s7->N σ7 CZ->∃m,m<n/\∃i σ' AB,Inv X A4 σ' AB s7/\Hw i s7.heap/\(∀b∈BP,AB b=none)/\W i m σ' AB:=λ{σ7 CZ} LC Xa=>by
   obtain⟨EJ,hm,aiL⟩:=hN σ7 CZ Xa;refine⟨EJ,hm,i+1,σ7,CZ,LC.Xz,T.keep _ _ _ Uj λb A5 o e=>(LC.pin (b,o) (IA _ (IA _ (bL A5 e)))).1,λb A5=>?_,aiL⟩;obtain⟨o,e,d⟩:=T.obj _ _ Uj b A5;exact(LC.pin (b,o) (IA _ (IA _ (bL A5 e)))).2.1
  cases f with
  |next=>obtain⟨σ7,CZ,LC,Xa⟩:=LP;exact again LC Xa
  |cont=>obtain⟨σ7,CZ,LC,Xa⟩:=LP;exact again LC Xa
  |brk=>obtain⟨σ7,CZ,LC,LP⟩:=LP;exact⟨σ7,CZ,LC.Xz,LP⟩
  |ret v=>obtain⟨Ut,σ7,CZ,LC,SD,LP⟩:=LP;exact⟨Ut,σ7,CZ,LC.Xz,SD,LP⟩
end
abbrev F0:=V->V->AE->CQ->Prop
def Dt(X:Aq)(f:A9->A9->Sem A9)(r:F0):Prop:=
 ∀(A4:μ)(s:AS)(σ :St)(H:AE)(x y:V)(v u:A9)(Q:CQ),θ->RelV x v->RelV y u->r x y H Q->
  An ξ X.A (f v u) (HD X A4 σ Q) X.DB s
def dU(X:Aq)(f:A9->Sem A9)(r:V->AE->CQ->Prop):Prop:=
 ∀(A4:μ)(s:AS)(σ :St)(H:AE)(x:V)(v:A9)(Q:CQ),θ->RelV x v->r x H Q->
  An ξ X.A (f v) (HD X A4 σ Q) X.DB s
def JR(X:Aq)(f:A9)(r:↑V->AE->CQ->Prop):Prop:=
 ∀(A4:μ)(s:AS)(σ :St)(H:AE)(xs:↑V)(us:↑A9)(Q:CQ),θ->Vals xs us->r xs H Q->
  An ξ X.A (call f us) (HD X A4 σ Q) X.DB s
def vK(X:Aq)(r:V->AE->(Bool->AE->Prop)->Prop):Prop:=
 ∀(A4:μ)(s:AS)(σ :St)(H:AE)(x:V)(v:A9)(Q:Bool->AE->Prop),θ->RelV x v->r x H Q->
  An ξ X.A (truthy v) (Zl X A4 σ Q) X.DB s
noncomputable def Un(r:F0)(Bx tb:TE):TE:=λσ H Q=>Bx σ H λx H1=>tb σ H1 λy AU=>r x y AU Q
noncomputable def rx(r:V->AE->CQ->Prop)(Bx:TE):TE:=λσ H Q=>Bx σ H λx H1=>r x H1 Q
noncomputable def Ix(C:Int->Int->Prop)(g:Int->Int->V):F0:=λx y H Q=>∃i j,x=.int i/\y=.int j/\C i j/\Q (g i j) H
noncomputable def LQ(g:Int->Int->V):F0:=λx y H Q=>∃i j,x=.int i/\y=.int j/\Q (g i j) H
def pG(g:Int->V):V->AE->CQ->Prop:=λx H Q=>∃i,x=.int i/\Q (g i) H
section
variable{X:Aq}{a b c:Ah}{Bx tb HP:TE}{pos:Pos}
def eD(AG:Af X a Bx)(A5:Af X b tb){A4:μ}{s:AS}{σ :St}{H:AE}{R:V->V->AE->Prop}(J:θ)(h:Bx σ H λx H1=>tb σ H1 λy AU=>R x y AU){Q:A9->AS->Prop}{f:A9->A9->Sem A9}(hf:∀v u s2 x y AU,Inv X A4 σ AU s2->RelV x v->RelV y u->R x y AU->An ξ X.A (f v u) Q X.DB s2) :
  An ξ X.A (BM a X.env) (λv D3=>An ξ X.A (BM b X.env) (λu Jf=>An ξ X.A (f v u) Q X.DB Jf) X.DB D3) X.DB s:=by
 refine BV (AG A4 s σ H _ J h) λv s1⟨x,H1,Ac,Ax,q1⟩=>?_;refine BV (A5 A4 s1 σ H1 _ Ac q1) λu s2⟨y,AU,BW,BK,q2⟩=>?_;exact hf v u s2 x y AU BW Ax BK q2
def Qk{op:Operator}{r:F0}(ho:Dt X (Jn op) r)(AG:Af X a Bx)(A5:Af X b tb):Af X (.BinOp a op b pos) (Un r Bx tb):=by intro A4 s σ H Q J h;exact wpAny_BinOp (eD AG A5 J h λv u s2 x y AU BW Av Bh q=>ho A4 s2 σ AU x y v u Q BW Av Bh q)
def afV{op:UnaryOp}{r:V->AE->CQ->Prop}(ho:dU X (unaryOp op) r)(AG:Af X a Bx):Af X (.UnaryOp op a pos) (rx r Bx):=by intro A4 s σ H Q J h;exact UnaryOp_ (BV (AG A4 s σ H _ J h) λv s1⟨x,H1,Ac,Ax,q1⟩=>ho A4 s1 σ H1 x v Q Ac Ax q1)
def X2{f:A9->A9->Sem A9}{C:Int->Int->Prop}{g:Int->Int->Int}(rule:∀(i j:Int)(t u:Tok)(s:AS)(Q:A9->AS->Prop)(E:A9->AS->Prop),C i j->Q (.int (g i j) s.toks) { s with toks:=s.toks+1 }->An ξ X.A (f (.int i t) (.int j u)) Q E s) :
  Dt X f (Ix C λi j=>.int (g i j)):=by
 intro A4 s σ H x y v u Q J Av Bh h;obtain⟨i,j,rfl,rfl,AI,q⟩:=h;obtain⟨t,rfl⟩:=Av;obtain⟨t',rfl⟩:=Bh;exact rule i j t t' s _ _ AI ⟨.int (g i j),H,J.tok _,⟨_,rfl⟩,q⟩
def gX{f:A9->A9->Sem A9}{g:Int->Int->Int}(rule:∀(i j:Int)(t u:Tok)(s:AS)(Q:A9->AS->Prop)(E:A9->AS->Prop),Q (.int (g i j) s.toks) { s with toks:=s.toks+1 }->An ξ X.A (f (.int i t) (.int j u)) Q E s) :
  Dt X f (LQ λi j=>.int (g i j)):=by
 intro A4 s σ H x y v u Q J Av Bh h;obtain⟨i,j,rfl,rfl,q⟩:=h;obtain⟨t,rfl⟩:=Av;obtain⟨t',rfl⟩:=Bh;exact rule i j t t' s _ _ ⟨.int (g i j),H,J.tok _,⟨_,rfl⟩,q⟩
def bZ{f:A9->A9->Sem A9}{g:Int->Int->Bool}(rule:∀(i j:Int)(t u:Tok)(s:AS)(Q:A9->AS->Prop)(E:A9->AS->Prop),Q (.bool (g i j)) s->An ξ X.A (f (.int i t) (.int j u)) Q E s) :
  Dt X f (LQ λi j=>.AN (g i j)):=by
 intro A4 s σ H x y v u Q J Av Bh h;obtain⟨i,j,rfl,rfl,q⟩:=h;obtain⟨t,rfl⟩:=Av;obtain⟨t',rfl⟩:=Bh;exact rule i j t t' s _ _ ⟨.AN (g i j),H,J,rfl,q⟩
def TR(i j:Int):Prop:=0<j/\j<1073741824
def OS(i j:Int):Prop:=0<=j/\j<=1000000/\i.natAbs<2^64
def LG(i j:Int):Prop:=(-(2^64)<i/\i<2^64)\/(-(2^64)<j/\j<2^64)
def LG.ok{i j:Int}(h:LG i j):IntMulOk i j:=by
 rcases h with⟨h1,h2⟩|⟨h1,h2⟩
 .exact .of_left (intBits_le_64 h1 h2)
 .exact .of_right (intBits_le_64 h1 h2)
def ai4(k:Nat):(0:Int)<=2^k:=by rw[two_pow_cast];exact Int.natCast_nonneg _
def adv:Dt X (Jn .Add) (LQ λi j=>.int (i+j)):=gX λ_ _ _ _ _ _ _ q=>add_int q
def adW:Dt X (Jn .Sub) (LQ λi j=>.int (i-j)):=gX λ_ _ _ _ _ _ _ q=>sub_int q
def ae3:Dt X (Jn .Mult) (Ix LG λi j=>.int (i*j)):=X2 λ_ _ _ _ _ _ _ AI q=>mul_int q AI.ok
def ae1:Dt X (Jn .FloorDiv) (Ix TR λi j=>.int (i/j)):=X2 λi j _ _ _ _ _ AI q=>by have h1:(0:Int)<j:=AI.1;have h2:j<1073741824:=AI.2;exact floordiv_int δ (by rw[tM i δ];exact q) (.inl (PyProof.noPylong_small δ))
def ae2:Dt X (Jn .Mod) (Ix (λ_ j=>0<j) λi j=>.int (i%j)):=X2 λi j _ _ _ _ _ AI q=>by have h1:(0:Int)<j:=AI;exact mod_int' δ (by rw[Int.fmod_eq_emod_of_nonneg i δ];exact q)
def ae4:Dt X (Jn .Pow) (Ix OS λi j=>.int (i^j.toNat)):=X2 λ_ _ _ _ _ _ _ AI q=>pow_int_small AI.1 AI.2.1 AI.2.2 q
def adV:Dt X (Jn .RShift) (Ix (λ_ j=>0<=j) λi j=>.int (i/2^j.toNat)):=X2 λi j _ _ _ _ _ AI q=>
 rshift_int AI (by rw[tM i (ai4 _)];exact q)
def ady:Dt X (Jn .BitAnd) (LQ λi j=>.int (Builtin.bitAnd i j)):=gX λ_ _ _ _ _ _ _ q=>and_int q
def ai9{f:A9->Sem A9}{g:Int->Int}(rule:∀(i:Int)(t:Tok)(s:AS)(Q:A9->AS->Prop)(E:A9->AS->Prop),Q (.int (g i) s.toks) { s with toks:=s.toks+1 }->An ξ X.A (f (.int i t)) Q E s) :
  dU X f (pG λi=>.int (g i)):=by
 intro A4 s σ H x v Q J Av h;obtain⟨i,rfl,q⟩:=h;obtain⟨t,rfl⟩:=Av;exact rule i t s _ _ ⟨.int (g i),H,J.tok _,⟨_,rfl⟩,q⟩
def aiA:dU X (unaryOp .USub) (pG λi=>.int (-i)):=ai9 λ_ _ _ _ _ q=>neg_int q
end
section
variable{X:Aq}{a b c:Ah}{Bx tb HP:TE}{pos:Pos}
def kC{A4:μ}{σ :St}{H:AE}{s:AS}{Q:CQ}{k k':Bool}(J:θ)(q:Q (.AN k) H)(e:k=k'):HD X A4 σ Q (.bool k') s:=by subst e;exact⟨.AN k,H,J,rfl,q⟩
def be:Dt X (GS .Lt) (LQ λi j=>.AN (decide (i<j))):=bZ λ_ _ _ _ _ _ _ q=>lt_int q
def Qg:Dt X (GS .LtE) (LQ λi j=>.AN (decide (i<=j))):=bZ λ_ _ _ _ _ _ _ q=>le_int q
def o8:Dt X (GS .Gt) (LQ λi j=>.AN (decide (j<i))):=bZ λ_ _ _ _ _ _ _ q=>gt_int q
def o7:Dt X (GS .GtE) (LQ λi j=>.AN (decide (j<=i))):=bZ λ_ _ _ _ _ _ _ q=>ge_int q
def o9:Dt X (GS .Is) (λx y H Q=>y=.non/\Q (.AN (decide (x=.non))) H):=by
 intro A4 s σ H x y v u Q J Av Bh h;obtain⟨rfl,q⟩:=h;cases Bh;refine is_none_gen (kC J q ?_)
 cases x<;>first
  |(cases Av;rfl)
  |(obtain⟨t,rfl⟩:=Av;rfl)
def oB:Dt X (GS .IsNot) (λx y H Q=>y=.non/\Q (.AN (!decide (x=.non))) H):=by
 intro A4 s σ H x y v u Q J Av Bh h;obtain⟨rfl,q⟩:=h;cases Bh;refine isnot_none_gen (kC J q ?_)
 cases x<;>first
  |(cases Av;rfl)
  |(obtain⟨t,rfl⟩:=Av;rfl)
def Dt.or{f:A9->A9->Sem A9}{r Bd:F0}(h:Dt X f r)(h':Dt X f Bd):Dt X f (λx y H Q=>r x y H Q\/Bd x y H Q):=by
 intro A4 s σ H x y v u Q J Av Bh q;rcases q with q|q
 .exact h A4 s σ H x y v u Q J Av Bh q
 .exact h' A4 s σ H x y v u Q J Av Bh q
def I9(b:Ah){op:CmpOp}(h:op≠.In:=by decide)(h2:op≠.NotIn:=by decide):MT op b=false:=by
 have AD:(op==CmpOp.In)=false:=by cases op<;>first|rfl|exact absurd rfl h
 have AH:(op==CmpOp.NotIn)=false:=by cases op<;>first|rfl|exact absurd rfl h2
 cases b<;>simp[MT,AD,AH]
def MH{op:CmpOp}{r:F0}(ho:Dt X (GS op) r)(AG:Af X a Bx)(A5:Af X b tb)(hm:MT op b=false):Af X (.Compare a [op] [b] pos) (Un r Bx tb):=by intro A4 s σ H Q J h;exact wpAny_Compare1 (eD AG A5 J h λv u s2 x y AU BW Av Bh q=>ho A4 s2 σ AU x y v u Q BW Av Bh q) hm
noncomputable def ru(t:TE):TT:=λσ H Q=>t σ H λx AB=>∃k,x=.AN k/\Q k AB
def MI{op:CmpOp}{r:F0}(ho:Dt X (GS op) r)(AG:Af X a Bx)(A5:Af X b tb)(hm:MT op b=false):El X (.Compare a [op] [b] pos) (ru (Un r Bx tb)):=by
 intro A4 s σ H Q J h;refine wpAny_isTrue_Compare1 (BV (AG A4 s σ H _ J h) λv s1⟨x,H1,Ac,Ax,q1⟩=>BV (A5 A4 s1 σ H1 _ Ac q1) λu s2⟨y,AU,BW,BK,q2⟩=>
  BV (ho A4 s2 σ AU x y v u _ BW Ax BK q2) λc s3⟨z,C4,D4,G2,k,e,F4⟩=>?_) hm
 subst e;cases G2;exact MQ ⟨C4,D4,F4⟩
noncomputable def hI(r Bd:F0)(Bx tb HP:TE):TE:=λσ H Q=>Bx σ H λx H1=>tb σ H1 λy AU=>r x y AU λz C4=>∃k,z=.AN k/\
 (if k=true then HP σ C4 λC_ Dd=>Bd y C_ Dd Q else Q (.AN false) C4)
def af8{op Jy:CmpOp}{r Bd:F0}(ho:Dt X (GS op) r)(IR:Dt X (GS Jy) Bd)(AG:Af X a Bx)(A5:Af X b tb)(AI:Af X c HP)(hm:lastMarks [op,Jy] [b,c]=false:=by with_unfolding_all rfl):Af X (.Compare a [op,Jy] [b,c] pos) (hI r Bd Bx tb HP):=by
 intro A4 s σ H Q J h;refine Compare_chain (BV (AG A4 s σ H _ J h) λv s1⟨x,H1,Ac,Ax,q1⟩=>chain_link (BV (A5 A4 s1 σ H1 _ Ac q1) λu s2⟨y,AU,BW,BK,q2⟩=>
  BV (ho A4 s2 σ AU x y v u _ BW Ax BK q2) λd s3⟨z,C4,D4,G2,k,e,F4⟩=>?_)) hm
 subst e;cases G2;refine MQ ?_;cases k with
 |false=>exact ite_ff ⟨.AN false,C4,D4,rfl,F4⟩
 |true=>exact ite_tt (chain_last (BV (AI A4 s3 σ C4 _ D4 F4) λC_ s4⟨Fh,Dd,M6,Nx,Ma⟩=>IR A4 s4 σ Dd y Fh u C_ Q M6 BK Nx Ma))
def agI{op Jy:CmpOp}{r Bd:F0}(ho:Dt X (GS op) r)(IR:Dt X (GS Jy) Bd)(AG:Af X a Bx)(A5:Af X b tb)(AI:Af X c HP)(hm:lastMarks [op,Jy] [b,c]=false:=by with_unfolding_all rfl):El X (.Compare a [op,Jy] [b,c] pos) (ru (hI r Bd Bx tb HP)):=by
 intro A4 s σ H Q J h;refine isTrue_chain (BV (AG A4 s σ H _ J h) λv s1⟨x,H1,Ac,Ax,q1⟩=>test_link (BV (A5 A4 s1 σ H1 _ Ac q1) λu s2⟨y,AU,BW,BK,q2⟩=>
  BV (ho A4 s2 σ AU x y v u _ BW Ax BK q2) λd s3⟨z,C4,D4,G2,k,e,F4⟩=>?_)) hm
 subst e;cases G2;refine MQ ?_;cases k with
 |false=>obtain⟨k',Bb,Cm⟩:=F4;cases Bb;exact ite_ff ⟨C4,D4,Cm⟩
 |true=>refine ite_tt (test_last (BV (AI A4 s3 σ C4 _ D4 F4) λC_ s4⟨Fh,Dd,M6,Nx,Ma⟩=>BV (IR A4 s4 σ Dd y Fh u C_ _ M6 BK Nx Ma) λd' s5⟨F6,EN,P7,SC,k2,AH,Ud⟩=>?_));subst AH;cases SC;exact MQ ⟨EN,P7,Ud⟩
def vL(K:At)(x:V)(H:AE)(k:Bool):Prop:=
 match x with
 |.non=>k=false
 |.AN b=>k=b
 |.int i=>k=(i !=0)
 |.str y=>⇑y<=CO/\k=((⇑y:Int) !=0)
 |.QD y=>y.size<=CO/\k=((y.size:Int) !=0)
 |.ref p=>(∃xs,Es K H p xs/\k=!xs.isEmpty)\/(∃xs,Et K H p xs/\k=!xs.isEmpty)\/∃AA,H p=↥(.Al AA)/\k=!AA.isEmpty
 |_=>False
def abN{Bt:Type}{AA:↑(Bt×V)}{vs:↑(Bt×A9)}(r:Em AA vs):(!vs.isEmpty)=!AA.isEmpty:=by cases r<;>rfl
def ku{xs:↑V}{its:↑A9}(r:Vals xs its):(!its.toArray.isEmpty)=!xs.isEmpty:=by cases r<;>simp
def Uc:(CO:Nat)<2^63:=by rw[Ln];decide
def alX:vK X (λx H Q=>∃k,vL X.K x H k/\Q k H):=by
 intro A4 s σ H x v Q J Av h;obtain⟨k,e,q⟩:=h;have AF:=Uc;have AQ:CO=16777216:=Ln;cases x with
 |non=>cases Av;have Bb:k=false:=e;subst Bb;exact truthy_none ⟨H,J,q⟩
 |AN b=>cases Av;have Bb:k=b:=e;subst Bb;exact MQ ⟨H,J,q⟩
 |int i=>obtain⟨t,rfl⟩:=Av;have Bb:k=(i !=0):=e;subst Bb;exact PySem.P.truthy_int ⟨H,J,q⟩
 |str y=>obtain⟨t,rfl⟩:=Av;obtain⟨AP,Bb⟩:⇑y<=CO/\k=((⇑y:Int) !=0):=e;subst Bb;exact PySem.P.truthy_str δ ⟨H,J.tok _,q⟩
 |QD y=>obtain⟨t,rfl⟩:=Av;obtain⟨AP,Bb⟩:y.size<=CO/\k=((y.size:Int) !=0):=e;subst Bb;exact PySem.W.truthy_bytes δ ⟨H,J.tok _,q⟩
 |ref p=>
  cases Av;have Bb:(∃xs,Es X.K H p xs/\k=!xs.isEmpty)\/(∃xs,Et X.K H p xs/\k=!xs.isEmpty)\/∃AA,H p=↥(.Al AA)/\k=!AA.isEmpty:=e;rcases Bb with⟨xs,AJ,Bb⟩|⟨xs,AJ,Bb⟩|⟨AA,AJ,Bb⟩
  .subst Bb;obtain⟨its,r,pl,hz⟩:=J.list AJ;have hlen:=⇑r;exact wpAny_truthy_list pl.isList (by erw[DU];lia) ⟨H,J.tok _,by rw[ku r];exact q⟩
  .subst Bb;obtain⟨its,r,pl,hz⟩:=J.tuple AJ;have hlen:=⇑r;exact truthy_tuple pl (by erw[DU];lia) ⟨H,J.tok _,by rw[ku r];exact q⟩
  .subst Bb;obtain⟨hz,Mq,vs,r,m⟩:⇑AA<=CO/\(p==KO)=false/\∃vs,Em AA vs/\s.heap.DictOf (Gm X.prog X.w) p vs:=J.Az p _ AJ;have hlen:⇑AA=⇑vs:=Paired.length r;exact wpAny_truthy_dict Mq m δ ⟨H,J.tok _,by rw[abN r];exact q⟩
 |_=>exact(show False from e).elim
def adx:Dt X (Jn .Add) (λx y H Q=>∃i j,x=.str i/\y=.str j/\ ⇑i+⇑j<=CO/\Q (.str (i++j)) H):=by intro A4 s σ H x y v u Q J Av Bh h;obtain⟨i,j,rfl,rfl,hz,q⟩:=h;obtain⟨t,rfl⟩:=Av;obtain⟨t',rfl⟩:=Bh;exact add_str (λt' Ce=>⟨.str (i++j),H,J.tok _,⟨_,rfl⟩,q⟩) hz
def vals1{x:V}{us:↑A9}(r:Vals [x] us):∃u,us=[u]/\RelV x u:=by
 cases r with
 |cons Ax BK=>cases BK;exact⟨_,rfl,Ax⟩
def vals2{x y:V}{us:↑A9}(r:Vals [x,y] us):∃u C_,us=[u,C_]/\RelV x u/\RelV y C_:=by
 cases r with
 |cons Ax BK=>
  cases BK with
  |cons G2 Nx=>cases Nx;exact⟨_,_,rfl,Ax,G2⟩
def ud:JR X (.type "int") (λxs H Q=>(∃i,xs=[.int i]/\Q (.int i) H)\/∃k,xs=[.AN k]/\Q (.int (if k then 1 else 0)) H):=by
 intro A4 s σ H xs us Q J r h;rcases h with⟨i,rfl,q⟩|⟨k,rfl,q⟩
 .obtain⟨u,rfl,t,rfl⟩:=vals1 r;exact call_int_int ⟨.int i,H,J,⟨_,rfl⟩,q⟩
 .obtain⟨u,rfl,Ax⟩:=vals1 r;cases Ax;exact call_int_bool ⟨.int (if k then 1 else 0),H,J.tok _,⟨_,rfl⟩,q⟩
def wM:JR X (.type "str") (λxs H Q=>∃i,xs=[.int i]/\i.natAbs.log2<1920/\Q (.str (toString i)) H):=by intro A4 s σ H xs us Q J r h;obtain⟨i,rfl,hz,q⟩:=h;obtain⟨u,rfl,t,rfl⟩:=vals1 r;exact PySem.P.str_of_int hz ⟨.str _,H,J.tok _,⟨_,rfl⟩,q⟩
def ic(K:At)(x:V)(H:AE)(n:Nat):Prop:=
 match x with
 |.str y=>⇑y<=CO/\n=⇑y
 |.QD y=>y.size<=CO/\n=y.size
 |.ref p=>(∃xs,Es K H p xs/\n=⇑xs)\/∃xs,Et K H p xs/\n=⇑xs
 |_=>False
def uf:JR X (.builtin "len") (λxs H Q=>∃x n,xs=[x]/\ic X.K x H n/\Q (.int n) H):=by
 intro A4 s σ H xs us Q J r h;obtain⟨x,n,rfl,e,q⟩:=h;obtain⟨u,rfl,Av⟩:=vals1 r;have AF:=Uc;have AQ:CO=16777216:=Ln;cases x with
 |str y=>obtain⟨t,rfl⟩:=Av;obtain⟨AP,Bb⟩:⇑y<=CO/\n=⇑y:=e;subst Bb;exact len_str δ ⟨.int _,H,J.tok _,⟨_,rfl⟩,q⟩
 |QD y=>obtain⟨t,rfl⟩:=Av;obtain⟨AP,Bb⟩:y.size<=CO/\n=y.size:=e;subst Bb;exact PySem.W.len_bytes δ ⟨.int _,H,J.tok _,⟨_,rfl⟩,q⟩
 |ref p=>
  cases Av;have Bb:(∃xs,Es X.K H p xs/\n=⇑xs)\/∃xs,Et X.K H p xs/\n=⇑xs:=e;rcases Bb with⟨xs,AJ,Bb⟩|⟨xs,AJ,Bb⟩
  .subst Bb;obtain⟨its,Bd,pl,hz⟩:=J.list AJ;have hlen:=⇑Bd;exact Calls.call_len_list pl.isList (by erw[DU];lia) ⟨.int ⇑xs,H,J.tok _,⟨_,by erw[DU];rw[hlen]⟩,q⟩
  .subst Bb;obtain⟨its,Bd,pl,hz⟩:=J.tuple AJ;have hlen:=⇑Bd;exact len_tuple pl (by erw[DU];lia) ⟨.int ⇑xs,H,J.tok _,⟨_,by erw[DU];rw[hlen]⟩,q⟩
 |_=>exact(show False from e).elim
end
structure Rb(h:BF)(x Bo C:A7)(EV:Str->Option A9):Prop where
 obj:h.get? x=↥(Pi C Bo)
 ns:h.Ns1 Bo EV
 ne:Bo≠x
def adD{h:BF}{Bo:A7}{EV:Str->Option A9}(n:h.Ns1 Bo EV):∃E9,h.get? Bo=↥E9/\∀name,Z9 name E9=↥(EV name):=by
 obtain⟨o,es,Ao,ho,hd,AR,_,hm⟩:=n;refine⟨o,ho,λname=>?_⟩;have e:=hm name;unfold nsFind findBy at e;rw[<-Array.find?_toList]at e;unfold Z9;rw[hd];dsimp only
 split
 .rename_i y q;rw[q]at e;exact congrArg some e
 .rename_i q;rw[q]at e;have a:es.toList.any (·.refKey)=false:=by
   rw[List.any_eq_false];intro y AP;obtain⟨z,t,aY⟩:=AR y (Array.mem_toList_iff.mp AP);simp[DictEntry.refKey,aY]
  have GL:¬es.toList.any (·.refKey)=true:=by rw[a];exact L4
  rw[if_neg GL];exact congrArg some e
def Rb.look{h:BF}{x Bo C:A7}{EV:Str->Option A9}(J:Rb h x Bo C EV):∃E9,PySem.W.InstAt h x (Pi C Bo) C ↥E9/\∀name,Z9 name E9=↥(EV name):=
 let⟨E9,ho,AF⟩:=adD J.ns
 ⟨E9,⟨J.obj,rfl,rfl,ho⟩,AF⟩
section
variable{prog:C9}{w:Bl}{A:DE}{E:A9->AS->Prop}{s:AS}{K:At}{x Bo C f:A7}{EV:Str->Option A9}{name:Str}{v:A9}
def get_map{expr:Bool}{Q:A9->AS->Prop}(X:K.In s.heap)(J:Rb s.heap x Bo C EV)(Am:Sh K C name=true)(hh:VC K C=true)(AG:Ji K (.ref C) name=↥none)(Bg:EV name=↥v)(aB:PySem.W.handedIn v=true)(h:Q v { s with toks:=s.toks+1 }) :
  An Ω A (getAttr (.ref x) name expr) Q E s:=by
 obtain⟨E9,BH,AF⟩:=J.look;exact PySem.W.get_value X BH (i1 Am).1 (PySem.W.findObj_own hh AG rfl (by rw[AF,Bg])) aB h
def zF{pl:Sem Bool}{Q:A9×↑A9->AS->Prop}(X:K.In s.heap)(J:Rb s.heap x Bo C EV)(Am:Sh K C name=true)(hf:Ji K (.ref C) name=↥↥(.ref f))(Bc:VG K (.ref f)=true)(Bg:EV name=none)(h:Q (.ref f,[.ref x]) s) :
  An Ω A (OK (.ref x) name pl) Q E s:=by
 obtain⟨E9,BH,AF⟩:=J.look;exact PySem.W.method_fn X BH (i1 Am).1 (i1 Am).2 hf (beq_iff_eq.mp Bc) (by show(Z9 name E9).map (·.isSome)=↥false;rw[AF,Bg];rfl) h
def ah6{ns:↑Str}{Q:Unit->AS->Prop}(X:K.In s.heap)(J:Rb s.heap x Bo C EV)(AQ:Ji K (.ref C) "__setattr__"=↥↥(.builtin "object.__setattr__"))(AV:Yy K C=true)(Bc:iG K C name=↥none)(hh:VC K C=true)(hw:iH EV ns)(hsz:⇑ns<=CO)(h:∀h',Rb h' x Bo C (λy=>if y=name then↥v else EV y)->L1 Bo s.heap h'->Q () { s with heap:=h',toks:=s.toks+2 }) :
  An Ω A (setAttr (.ref x) name v) Q E s:=by
 obtain⟨E9,BH,AF⟩:=J.look;refine PySem.W.set_plain X BH AQ (PySem.W.osa_open (s:={ s with toks:=s.toks+1 }) (r:=none) X BH AV Bc λb=>?_);obtain⟨cd,AI,db⟩:=PySem.W.any_some hh;have AJ:s.heap.get? x=↥⟨.ref C,↥Bo,.plain,#[]⟩:=J.obj;refine Ad (B_ (Ad (Ad (wpAny_loadPart AJ (Ad (PySem.W.Looks.here (s:={ s with toks:=s.toks+1 }) (PySem.W.looks_clsIn X AI) ?_))))));rw[db];refine B_ (a:=↥Bo) (Ad (B_ (Ad ?_)));refine wpAny_nsSet1 (s:={ s with toks:=s.toks+1 }) J.ns λh' af I8=>?_;obtain⟨aky,al5,al4,aa9,Om,yp⟩:=af.count (PySem.Within.cons name v hw);refine Ad (wpAny_lookBehind aa9 (by rw[Om];exact pastItsLine_dict (IG yp (by rw[DV];lia))) ?_);exact B_ (h _ ⟨(I8.2 _ (Lq J.ne)).trans J.obj,af,J.ne⟩ I8)
def acb {R:Result->AS->Prop} {vs:↑A9} {kw:↑(Str×A9)} (X:K.In s.heap) (hm:i3 K C=true)(hi:Ji K (.ref C) "__init__"=↥↥(.ref f)) (hf:PySem.W.typeIn K (.ref f)=↥(.type "function"))(h:MY Ω (A.under (.builtin "type.__call__" ⟨.ref C::vs,kw⟩)) (.call (.ref f) ⟨.ref (s.heap.objs.size+1)::vs,kw⟩) (PySem.W.InitBack (s.heap.objs.size+1) R)
    { s with heap:=(s.heap.push OG).push (Pi C s.heap.objs.size) }) :
  MY Ω A (.call (.ref C) ⟨vs,kw⟩) R s:=by
 obtain⟨hh,g,d,t,os⟩:=s;exact PySem.W.make_core (PySem.W.makes_of X hm) (PySem.W.looks_findIn X hi) (λself=>PySem.W.bind_fn X self hf) (.inl rfl) h
end
noncomputable def Hu(f:Str)(v:V):↑(Str×V)->↑(Str×V)
 |[]=>[(f,v)]
 |(g,x)::r=>if g=f then(g,v)::r else(g,x)::Hu f v r
theorem mC(f g:Str)(v:V):∀BA:↑(Str×V),(Hu f v BA).lookup g=if g=f then↥v else BA.lookup g
 |[]=>by
  show R9 g [(f,v)]=_;by_cases h:g=f
  .have A5:(g==f)=true:=beq_iff_eq.mpr h;erw[R9,A5,if_pos h]
  .have A5:(g==f)=false:=beq_eq_false_iff_ne.mpr h;erw[R9,A5,if_neg h]
 |(k,x)::r=>by
  have CI:=mC f g v r;rw[show Hu f v ((k,x)::r)=(if k=f then(k,v)::r else(k,x)::Hu f v r)from rfl];by_cases AR:k=f
  .rw[if_pos AR];by_cases h:g=k
   .have A5:(g==k)=true:=beq_iff_eq.mpr h;erw[R9,A5,if_pos (h.trans AR)]
   .have A5:(g==k)=false:=beq_eq_false_iff_ne.mpr h;erw[R9,A5,if_neg (λe:g=f=>h (e.trans AR.symm))]
  .rw[if_neg AR];by_cases h:g=k
   .have A5:(g==k)=true:=beq_iff_eq.mpr h;erw[R9,A5,if_neg (λe:g=f=>AR (h.symm.trans e))]
   .have A5:(g==k)=false:=beq_eq_false_iff_ne.mpr h;erw[R9,A5];exact CI
theorem f3(f:Str)(v:V):∀BA:↑(Str×V),f∈(Hu f v BA).map (·.1)/\∀g,g∈BA.map (·.1)->g∈(Hu f v BA).map (·.1)
 |[]=>⟨by simp[Hu],λg h=>by simp at h⟩
 |(k,x)::r=>by
  obtain⟨Cb,FO⟩:=f3 f v r;rw[show Hu f v ((k,x)::r)=(if k=f then(k,v)::r else(k,x)::Hu f v r)from rfl];by_cases AR:k=f
  .rw[if_pos AR];subst AR;exact⟨γ,λg h=>(h:)⟩
  .rw[if_neg AR];refine⟨?_,λg h=>?_⟩
   .rw[DC];exact Gy _ Cb
   .rw[DC]at h |-;rcases List.mem_cons.mp h with e|e
    .exact List.mem_cons.mpr (.inl e)
    .exact Gy _ (FO g e)
theorem m8(f:Str)(v:V):∀BA:↑(Str×V),⇑(Hu f v BA)<=⇑BA+1
 |[]=>by simp[Hu]
 |(k,x)::r=>by
  have CI:=m8 f v r;rw[show Hu f v ((k,x)::r)=(if k=f then(k,v)::r else(k,x)::Hu f v r)from rfl];by_cases AR:k=f
  .rw[if_pos AR,DV,DV];lia
  .rw[if_neg AR,DV,DV];lia
def IL.some_of{v:V}{o:Option A9}(r:IL ↥v o):∃u,o=↥u/\RelV v u:=by
 cases o with
 |none=>exact(show False from r).elim
 |some u=>exact⟨u,rfl,r⟩
def IL.none_of{o:Option A9}(r:IL none o):o=none:=by
 cases o with
 |none=>rfl
 |some u=>exact(show False from r).elim
def ym{v:V}{u:A9}(r:RelV v u):PySem.W.handedIn u=true:=by
 cases v with
 |non=>cases(show u=JP from r);rfl
 |AN b=>cases(show u=RC b from r);rfl
 |int i=>obtain⟨t,e⟩:=(show ∃t,u=Sv i t from r);cases e;rfl
 |str x=>obtain⟨t,e⟩:=(show ∃t,u=Sw x t from r);cases e;rfl
 |QD b=>obtain⟨t,e⟩:=(show ∃t,u=Value.bytes b t from r);cases e;rfl
 |SL b=>obtain⟨t,e⟩:=(show ∃t,u=iM b t from r);cases e;rfl
 |ref a=>cases(show u=Cv a from r);rfl
 |ty n=>cases(show u=OL n from r);rfl
section
variable{P:C9}{w:Bl}{K:At}{H AB:AE}{h h':BF}{a C Bo:A7}{BA Na:↑(Str×V)}
def bo(Az:FA P w H h)(e:H a=↥(.ins C Bo BA)):∃EV,Rb h a Bo C EV/\(∀f,IL (BA.lookup f) (EV f))/\iH EV (BA.map (·.1))/\ ⇑BA<=1000/\H Bo=↥(.own a):=by obtain⟨d,z,ne,BD,EV,n,r,q⟩:=(show Dp P w H h a (.ins C Bo BA)from Az a _ e);exact⟨EV,⟨BD,n,ne⟩,r,q,z,d⟩
end
structure K1(K:At)(C:A7):Prop where
 aeh:Sh K C Str.empty=true
 hd:VC K C=true
 po:Yy K C=true
 PP:Ji K (.ref C) "__setattr__"=↥↥(.builtin "object.__setattr__")
def K1.get{K:At}{C:A7}(c:K1 K C)(f:Str):Sh K C f=true:=c.aeh
def R_(K:At)(C:A7)(f:Str):Prop:=Ji K (.ref C) f=↥none
def R_.agy{K:At}{C:A7}{f:Str}(n:R_ K C f):iG K C f=↥none:=by unfold iG;rw[show Ji K (.ref C) f=↥none from n];rfl
structure Meth(K:At)(C:A7)(m:Str)(f:A7):Prop where
 at_:Ji K (.ref C) m=↥↥(.ref f)
 fn:VG K (.ref f)=true
 Bf:KL K (.ref f)=true
section
variable{X:Aq}{A4:μ}{σ :St}{H:AE}{s:AS}{a C Bo:A7}{BA:↑(Str×V)}{f:Str}{v:V}{A:DE}{E:A9->AS->Prop}
def zG{b:Bool}{Q:A9->AS->Prop}(J:θ)(e:H a=↥(.ins C Bo BA))(c:K1 X.K C)(n:R_ X.K C f)(l:BA.lookup f=↥v)(h:∀u s',Inv X A4 σ H s'->RelV v u->Q u s'):An ξ A (getAttr (.ref a) f b) Q E s:=by obtain⟨EV,O,r,_,_,_⟩:=bo J.Az e;obtain⟨u,BR,Fb⟩:=IL.some_of (v:=v) (o:=EV f) (by rw[<-l];exact r f);exact get_map J.FP O (c.get f) c.hd n BR (ym Fb) (h u _ (J.tok _) Fb)
def aT{m:Str}{g:A7}{pl:Sem Bool}{Q:A9×↑A9->AS->Prop}(J:θ)(e:H a=↥(.ins C Bo BA))(c:K1 X.K C)(k:Meth X.K C m g)(l:BA.lookup m=none)(h:Q (.ref g,[.ref a]) s):An ξ A (OK (.ref a) m pl) Q E s:=by obtain⟨EV,O,r,_,_,_⟩:=bo J.Az e;have AM:EV m=none:=IL.none_of (by rw[<-l];exact r m);exact zF J.FP O (c.get m) k.at_ k.fn AM h
def ah8{y:V}{u:A9}{Q:Unit->AS->Prop}(J:θ)(e:H a=↥(.ins C Bo BA))(c:K1 X.K C)(n:R_ X.K C f)(AF:⇑BA<1000)(Bh:RelV y u)(h:∀s',Inv X A4 σ (upd H a (.ins C Bo (Hu f y BA))) s'->Q () s'):An ξ A (setAttr (.ref a) f u) Q E s:=by
 obtain⟨EV,O,r,J1,_,ho⟩:=bo J.Az e;have hz:⇑(BA.map (·.1))<=CO:=by rw[Ch,Ln];lia
 refine ah6 J.FP O c.PP c.po n.agy c.hd J1 hz λh' dK Fc=>h _ ?_;have hd:∃o,h'.get? Bo=↥o:=let⟨o,_,_,Bb,_⟩:=dK.ns;⟨o,Bb⟩
 refine J.write (x:=a) (e:=Bo) (by rw[e];exact ID) (.inr ho) (λb q A5 z=>(Fc.2 b A5).trans z) hd ?_;refine⟨by rw[DJ O.ne];exact ho,?_,O.ne,dK.obj,_,dK.ns,λg=>?_,λg Am=>?_⟩
 .have:=m8 f y BA;lia
 .show IL ((Hu f y BA).lookup g) (if g=f then↥u else EV g);rw[mC];by_cases q:g=f
  .rw[if_pos q,if_pos q];exact Bh
  .rw[if_neg q,if_neg q];exact r g
 .by_cases q:g=f
  .rw[q];exact(f3 f y BA).1
  .refine(f3 f y BA).2 g (J1 g λz=>Am ?_);show(if g=f then↥u else EV g)=none;rw[if_neg q];exact z
def Inv.made(J:θ):Inv X A4 σ (upd (upd H s.heap.objs.size (.own (s.heap.objs.size+1))) (s.heap.objs.size+1) (.ins C s.heap.objs.size []))
  { s with heap:=(s.heap.push OG).push (Pi C s.heap.objs.size) }:=by
 have AD:(s.heap.push OG).get? s.heap.objs.size=↥OG:=Fe s.heap rfl;have AH:((s.heap.push OG).push (Pi C s.heap.objs.size)).get? (s.heap.objs.size+1)=↥(Pi C s.heap.objs.size):=by
  have:=Fe (s.heap.push OG) (o:=Pi C s.heap.objs.size) rfl
  rwa [Li]at this
 have DT:(s.heap.push OG).Ns s.heap.objs.size (λ_=>none):=⟨OG,#[],_,AD,rfl,(λe he=>absurd he γ),λ_=>rfl⟩;have Ac:=J.laid (a:=s.heap.objs.size) (o:=.own (s.heap.objs.size+1)) (h':=s.heap.push OG) (t':=s.toks) (λb u q=>Cy _ q) (C1 _) ⟨_,AD⟩;refine Ac.laid (a:=s.heap.objs.size+1) (o:=.ins C s.heap.objs.size []) (t':=s.toks) (λb u q=>Cy _ q) (ZK (Li _ _)) ?_;have ne:s.heap.objs.size≠s.heap.objs.size+1:=F7 (Pf _);refine⟨by rw[DJ ne,EA],IC _,ne,AH,λ_=>none,(Heap.Ns1.of_empty DT).at λo q=>Cy _ q,λ_=>ID,λy AP=>absurd rfl AP⟩
def ve{prog:C9}{w:Bl}{env:Env}{e:Ah}{f:Str}{pos:Pos}{s:AS}{Q:A9->AS->Prop}(A5:JM e f env (BM e env)=BM e env)(h:An Ω A (BM e env) (λo D3=>An Ω A (getAttr o f true) Q E D3) E s):An Ω A (BM (.Attribute e f pos) env) Q E s:=
 Attribute_any_ h (by rw[arm_eval_Attribute,A5])
end
noncomputable def rc(K:At)(Bx:TE)(f:Str):TE:=λσ H Q=>Bx σ H λx H1=>∃a C Bo BA v,x=.ref a/\H1 a=↥(.ins C Bo BA)/\K1 K C/\R_ K C f/\BA.lookup f=↥v/\Q v H1
def od(K:At)(Bx Kj:TE)(f:Str):FL:=λD σ H=>Kj σ H λy H1=>Bx σ H1 λx AU=>∃a C Bo BA,x=.ref a/\AU a=↥(.ins C Bo BA)/\K1 K C/\R_ K C f/\ ⇑BA<1000/\
 D.AT σ (upd AU a (.ins C Bo (Hu f y BA)))
section
variable{X:Aq}{o e value:Ah}{f:Str}{pos pos' NW:Pos}{Bx Kj:TE}
def afE(he:Af X e Bx)(A5:JM e f X.env (BM e X.env)=BM e X.env):Af X (.Attribute e f pos) (rc X.K Bx f):=by intro A4 s σ H Q J h;refine ve A5 (BV (he A4 s σ H _ J h) λu s1⟨x,H1,Ac,Av,a,C,Bo,BA,v,ex,BS,c,n,l,q⟩=>?_);subst ex;obtain rfl:u=Cv a:=Av;exact zG Ac BS c n l λJg s2 BW Fb=>⟨v,H1,BW,Fb,q⟩
def aee(AG:Af X o Bx)(Bg:Af X value Kj)(AQ:OJ value ↥(.Attribute o f pos') pos.line X.env=pure false):Df X (.Assign [.Attribute o f pos'] value pos) (od X.K Bx Kj f):=by intro A4 s σ H D J h;refine plainObj_wpAny_Assign_Attribute (BV (Bg A4 s σ H _ J h) λu s1⟨y,H1,Ac,Bh,q⟩=>BV (AG A4 s1 σ H1 _ Ac q) λCN s2⟨x,AU,BW,Av,a,C,Bo,BA,ex,BS,c,n,l,q2⟩=>?_) AQ;subst ex;obtain rfl:CN=Cv a:=Av;exact ah8 BW BS c n l Bh λs3 D4=>⟨σ,_,D4,q2⟩
def akf {pl:Sem Bool} {m:Str} {apos:Pos} {args:↑Ah} {A4:μ} {s:AS} {σ :St} {H:AE} {Q:A9->AS->Prop} {te:TE} (he:Af X e te) (J:θ)(h:te σ H λx H1=>∃a C Bo BA g,x=.ref a/\H1 a=↥(.ins C Bo BA)/\K1 X.K C/\Meth X.K C m g/\BA.lookup m=none/\
    ∀s1,Inv X A4 σ H1 s1->An ξ X.A (Po pos (.ref g) [.ref a] (F8 pos (C8 args X.env)) (Jp pos (Jh [] X.env))) Q X.DB s1)
  (Bc:BM (.Call (.Attribute e m apos) args [] pos) X.env=(do
    let CN <-BM e X.env
    MX apos.atName
    let(f,first) <-JQ [CN] (OK CN m pl)
    Po pos f first (F8 pos (C8 args X.env)) (Jp pos (Jh [] X.env)))) :
  An ξ X.A (BM (.Call (.Attribute e m apos) args [] pos) X.env) Q X.DB s:=by
 refine Z2 (pl:=pl) (BV (he A4 s σ H _ J h) λu s1⟨x,H1,Ac,Av,a,C,Bo,BA,g,ex,BS,c,k,l,q⟩=>?_) Bc;subst ex;obtain rfl:u=Cv a:=Av;exact aT Ac BS c k l (q s1 Ac)
end
section
variable{X:Aq}{A4:μ}{σ :St}{H:AE}{s:AS}{A:DE}{E:A9->AS->Prop}{Q:A9->AS->Prop}{c:A9}{b:Bool}
inductive MA(K:At)(H:AE):V->A9->Prop where
 |non:MA K H .non (.type "NoneType")
 |AN (x:Bool):MA K H (.AN x) (.type "bool")
 |int (i:Int):MA K H (.int i) (.type "int")
 |str (x:Str):MA K H (.str x) (.type "str")
 |SL (x:UInt64):MA K H (.SL x) (.type "float")
 |lst {a:A7} {xs:↑V} (e:H a=↥(.lst xs)):MA K H (.ref a) (.type "list")
 |D7 {a:A7} {o:Obj} {xs:↑V} (e:H a=↥(.D7 o (.lst xs))):MA K H (.ref a) (.type "list")
 |tup {a:A7} {xs:↑V} (e:H a=↥(.tup xs)):MA K H (.ref a) (.type "tuple")
 |Al {a:A7} {AA:↑(Key×V)} (e:H a=↥(.Al AA)):MA K H (.ref a) (.type "dict")
 |ED {a:A7} {AA:↑(FC×V)} (e:H a=↥(.ED AA)):MA K H (.ref a) (.type "dict")
 |ins {a C Bo:A7} {BA:↑(Str×V)} (e:H a=↥(.ins C Bo BA)) (cl:K1 K C) (AG:Ji K (.ref C) "__class__"=↥↥(.builtin "object.__class__"))
    (AM:PySem.W.specialIn K (.builtin "object.__class__") "__get__"=↥↥(.builtin "getset_descriptor.__get__")) (aA:PySem.W.takesIn K (.builtin "object.__class__")=↥true)
    (hm:PySem.W.mroIn K C (.type "object")=↥true):MA K H (.ref a) (.ref C)
def er{x:V}{u t:A9}(J:θ)(Av:RelV x u)(ty:MA X.K H x t)(e:ZA X.K t c=↥b)(h:∀Ce,Q (.bool b) { s with toks:=Ce }) :
  An ξ A (call (.builtin "isinstance") [u,c]) Q E s:=by
 cases ty with
 |non=>cases(show u=JP from Av);exact JO u9 J.FP ID e (λz=>nomatch z) h
 |AN y=>cases(show u=RC y from Av);exact JO uA J.FP ID e (λz=>nomatch z) h
 |int i=>obtain⟨t,q⟩:=(show ∃t,u=Sv i t from Av);cases q;exact JO PySem.W.kitx_int J.FP ID e (λz=>nomatch z) h
 |str y=>obtain⟨t,q⟩:=(show ∃t,u=Sw y t from Av);cases q;exact JO PySem.W.kitx_str J.FP ID e (λz=>nomatch z) h
 |SL y=>obtain⟨t,q⟩:=(show ∃t,u=iM y t from Av);cases q;exact JO PySem.W.kitx_float J.FP ID e (λz=>nomatch z) h
 | @lst a xs BS=>cases(show u=Cv a from Av);obtain⟨_,_,n,_,h1⟩:=(show Dp X.prog X.w H s.heap a (.lst xs)from J.Az a _ BS);exact JO uB J.FP ⟨_,h1,rfl⟩ e (λz=>nomatch z) h
 | @D7 a BD xs BS=>cases(show u=Cv a from Av);obtain⟨_,_,_,n,_,h1⟩:=(show Dp X.prog X.w H s.heap a (.D7 BD (.lst xs))from J.Az a _ BS);exact JO uB J.FP ⟨_,h1,rfl⟩ e (λz=>nomatch z) h
 | @tup a xs BS=>cases(show u=Cv a from Av);obtain⟨_,_,_,p⟩:=(show Dp X.prog X.w H s.heap a (.tup xs)from J.Az a _ BS);obtain⟨o,h1,h2,_⟩:=p;exact JO u5 J.FP ⟨o,h1,h2⟩ e (λz=>nomatch z) h
 | @Al a AA BS=>cases(show u=Cv a from Av);obtain⟨_,_,vs,_,p⟩:=(show Dp X.prog X.w H s.heap a (.Al AA)from J.Az a _ BS);obtain⟨o,es,Ao,h1,h2,_⟩:=p;exact JO uC J.FP ⟨o,h1,h2.1⟩ e (λz=>nomatch z) h
 | @ED a AA BS=>cases(show u=Cv a from Av);obtain⟨_,_,xs,_,o,es,Ao,h1,h2,_⟩:=(show Dp X.prog X.w H s.heap a (.ED AA)from J.Az a _ BS);exact JO uC J.FP ⟨o,h1,h2.1⟩ e (λz=>nomatch z) h
 | @ins a C Bo BA BS cl AG AM aA hm=>cases(show u=Cv a from Av);obtain⟨EV,O,_⟩:=bo J.Az BS;obtain⟨E9,BH,_⟩:=O.look;exact JO (PySem.W.kitx_own (cl.get _) cl.hd AG AM aA hm) J.FP BH e (λz=>nomatch z) h
end
structure DD(k:Nat)(A:DE):Prop where
 hd:A.handled=none
 Du:A.depth+3*k+5<recursionLimit
 un:A.units+16*k+200<E8
def DD.mono{j k:Nat}{A:DE}(r:DD k A)(h:j<=k):DD j A:=⟨r.hd,by have:=r.Du;lia,by have:=r.un;lia⟩
theorem DD.deeper{k:Nat}{A:DE}(r:DD (k+1) A)(env:Env):DD k (A.deeper env):=
 ⟨r.hd,by have:=r.Du;show A.depth+1+3*k+5<_;lia,by have:=r.un;show A.units+3+16*k+200<_;lia⟩
def adU{A:DE}{C:A7}{us:↑A9}{kw:↑(Str×A9)}:(A.under (.builtin "type.__call__" ⟨.ref C::us,kw⟩)).depth=A.depth+1:=by
 first|rfl|simp[iI,Code.weight,Code.isCreation,Code.isGuard,Code.isCaller,Code.frames,iJ,guardIds]
def acd{A:DE}{C:A7}{us:↑A9}{kw:↑(Str×A9)}:(A.under (.builtin "type.__call__" ⟨.ref C::us,kw⟩)).units=A.units+1:=by
 first|rfl|simp[iI,Code.cUnits,Code.frames,iJ]
def DD.make{k:Nat}{A:DE}(r:DD (k+1) A)(C:A7)(us:↑A9)(kw:↑(Str×A9)):DD k (A.under (.builtin "type.__call__" ⟨.ref C::us,kw⟩)):=
 ⟨r.hd,by have:=r.Du;rw[adU];lia,by have:=r.un;rw[acd];lia⟩
theorem DD.depth{k:Nat}{A:DE}(r:DD k A):A.depth<recursionLimit:=by have:=r.Du;lia
theorem DD.units{k:Nat}{A:DE}(r:DD k A):A.units+64<E8:=by have:=r.un;lia
def Ya:Fu:=λ_ H Q=>Q [] H
noncomputable def YX(Bx:TE)(ah3:Fu):Fu:=λσ H Q=>Bx σ H λx H1=>ah3 σ H1 λxs AU=>Q (x::xs) AU
section
variable{X:Aq}{e:Ah}{es:↑Ah}{te:TE}{t:Fu}{pos:Pos}
def Tr:HG X [] Ya:=λ_ _ _ _ H Q J h=>VD ⟨[],H,J,.nil,h⟩
def Qj(AG:Af X e te)(B6:HG X es t)(AQ:C8 (e::es) X.env=(false,BM e X.env)::C8 es X.env:=by rfl):HG X (e::es) (YX te t):=by intro pos A4 s σ H Q J h;rw[AQ];show An _ _ (spliced ((false,BM e X.env)::F8 pos (C8 es X.env))) _ _ s;refine V7 (BV (AG A4 s σ H _ J h) λu s1⟨x,H1,Ac,Ax,q1⟩=>?_);exact BV (B6 pos A4 s1 σ H1 _ Ac q1) λus s2⟨xs,AU,BW,BK,q2⟩=>⟨x::xs,AU,BW,.cons Ax BK,q2⟩
def rv(t:Fu):TE:=λσ H Q=>t σ H λxs H1=>⇑xs<=CO/\∀p,H1 p=none->Q (.ref p) (upd H1 p (.tup xs))
def rf(t:Fu):TE:=λσ H Q=>t σ H λxs H1=>⇑xs<=CO/\∀p,H1 p=none->Q (.ref p) (upd H1 p (.lst xs))
def afU{Cu}(h:HG X es t):Af X (.Tuple es Cu pos) (rv t):=by intro A4 s σ H Q J AW;refine wpAny_Tuple_spliced (BV (h pos A4 s σ H _ J AW) λus s1⟨xs,H1,Ac,r,z,q⟩=>⟨by rw[<- ⇑r];exact z,?_⟩);have hf:H1 s1.heap.objs.size=none:=Ac.Az.fresh (C1 _);refine⟨.ref s1.heap.objs.size,upd H1 s1.heap.objs.size (.tup xs),Ac.laid (t':=s1.toks) (λb u e=>Cy _ e) (C1 _) ?_,rfl,q _ hf⟩;exact⟨z,us,r,⟨_,Fe _ rfl,rfl,_,rfl⟩⟩
def afK(h:HG X es t):Af X (.List es pos) (rf t):=by intro A4 s σ H Q J AW;refine wpAny_List_spliced (BV (h pos A4 s σ H _ J AW) λus s1⟨xs,H1,Ac,r,z,q⟩=>⟨by rw[<- ⇑r];exact z,?_⟩);have hf:H1 s1.heap.objs.size=none:=Ac.Az.fresh (C1 _);refine⟨.ref s1.heap.objs.size,upd H1 s1.heap.objs.size (.lst xs),Ac.laid (t':=s1.toks) (λb u e=>Cy _ e) (C1 _) ?_,rfl,q _ hf⟩;exact⟨z,us,0,r,Fe _ rfl⟩
end
abbrev Co:=↑V->AE->CQ->FE->Prop
abbrev L8:=↑Env->AE->AS->FE->A9->AS->Prop
structure RQ(P:C9)(w:Bl)(K:At)(mg:Str->Option A9)(base:BF)(A:DE)(outer:↑Env)(s:AS)(H:AE):Prop where
 frames:A.frames=↥outer
 mod:Mod K mg base
 bs:∀b o,base.get? b=↥o->s.heap.get? b=↥o/\H b=none
 PJ:base.objs.size<=s.heap.objs.size
 K8:s.heap.FunFrames base outer
 QK:∀b∈FF outer,H b=none
 Az:FA P w H s.heap
 bare:NM s.gens
def cE(outer:↑Env)(P:C9)(w:Bl)(K:At)(H:AE)(s:AS)(Q:CQ)(u:A9)(s':AS):Prop:=
 ∃v AB,s'.os=s.os/\NM s'.gens/\GJ (FF outer) [] H AB s.heap s'.heap/\FA P w AB s'.heap/\RelV v u/\Q v AB
def uS(CX:L8)(outer:↑Env)(P:C9)(w:Bl)(K:At)(H:AE)(s:AS)(Q:CQ)(E:FE)(r:Result)(s':AS):Prop:=
 match r with
 |.ok (.ret u)=>cE outer P w K H s Q u s'
 |.ok _=>False
 |.error e=>CX outer H s E e s'
structure Ie(P:C9)(w:Bl)(K:At)(mg:Str->Option A9)(base:BF)(CX:L8)(k:Nat)(f:A7)(fd:I2)(ps:↑Str)(sp:Co):Prop where
 len:∀vs H Q E,sp vs H Q E->⇑vs=⇑ps
 run:∀(A:DE)(outer:↑Env)(s:AS)(H:AE)(args:Args)(us:↑A9)(vs:↑V)(Q:CQ)(E:FE),DD k A->RQ P w K mg base A outer s H->BindsTo s fd args (ps.zip us)->Vals vs us->sp vs H Q E->
  MY (B4 P w) A (.call (.ref f) args) (uS CX outer P w K H s Q E) s
def Ie.imp{P:C9}{w:Bl}{K:At}{mg:Str->Option A9}{base:BF}{CX:L8}{k:Nat}{f:A7}{fd:I2}{ps:↑Str}{sp s9:Co}(F:Ie P w K mg base CX k f fd ps sp)(h:∀vs H Q E,s9 vs H Q E->sp vs H Q E):Ie P w K mg base CX k f fd ps s9:=
 ⟨λvs H Q E q=>F.len vs H Q E (h _ _ _ _ q),λA outer s H args us vs Q E B6 he A5 Bg AQ=>F.run A outer s H args us vs Q E B6 he A5 Bg (h _ _ _ _ AQ)⟩
def RQ.make{P:C9}{w:Bl}{K:At}{mg:Str->Option A9}{base:BF}{A:DE}{outer:↑Env}{s:AS}{H:AE}(e:RQ P w K mg base A outer s H)(C:A7)(us:↑A9)(kw:↑(Str×A9)) :
  RQ P w K mg base (A.under (.builtin "type.__call__" ⟨.ref C::us,kw⟩)) outer s H:=⟨by first|exact e.frames|(simpa[iI,Code.envs,iJ,pushEnvs]using e.frames),e.mod,e.bs,e.PJ,e.K8,e.QK,e.Az,e.bare⟩
section
variable{X:Aq}{A4:μ}{σ :St}{H:AE}{s s':AS}
def Inv.dm(J:θ):RQ X.prog X.w X.K X.mg X.base X.A X.stack s H:=
 ⟨J.ok.frames,J.ok.mod,J.bs,IG J.ok.PJ J.Qt,J.stack,J.hB,J.Az,J.bare⟩
def Inv.after{Q:CQ}{u:A9}(J:θ)(h:cE X.stack X.prog X.w X.K H s Q u s'):HD X A4 σ Q u s':=by obtain⟨v,AB,os,bare,un,Az,r,q⟩:=h;obtain⟨hh,g,d,t,gY⟩:=s';obtain rfl:gY=s.os:=os;exact⟨v,AB,J.call (h':=hh) (g':=g) (d':=d) (t':=t) (ch:=[]) un Az bare (λb z=>absurd z γ),r,q⟩
end
noncomputable def sQ(sp:Co)(Hp:↑V)(E:FE)(t:Fu):TE:=λσ H Q=>t σ H λvs H1=>sp (vs++Hp) H1 Q E
noncomputable def YZ(C:A7)(m:Str)(sp:Co)(Hp:↑V)(E:FE)(Bx:TE)(t:Fu):TE:=λσ H Q=>Bx σ H λx H1=>∃a Bo BA,x=.ref a/\H1 a=↥(.ins C Bo BA)/\BA.lookup m=none/\
 t σ H1 λvs AU=>sp (x::(vs++Hp)) AU Q E
def rg(C:A7)(sp:Co)(Hp:↑V)(E:FE)(t:Fu):TE:=λσ H Q=>t σ H λvs H1=>∀x Bo,H1 x=none->H1 Bo=none->Bo≠x->
 sp (.ref x::(vs++Hp)) (upd (upd H1 Bo (.own x)) x (.ins C Bo [])) (λv AU=>v=.non/\Q (.ref x) AU) E
def Binds(K:At)(fd:I2)(ps:↑Str)(ds:↑A9):Prop:=
 ∀(s:AS)(us:↑A9),K.In s.heap->⇑(us++ds)=⇑ps->BindsTo s fd ⟨us,[]⟩ (ps.zip (us++ds))
def Binds.all{K:At}{fd:I2}{ps:↑Str}(h:∀us:↑A9,⇑us=⇑ps->bindArgs fd ⟨us,[]⟩=pure (ps.zip us)):Binds K fd ps []:=λs us _ AF=>by rw[L2]at AF |-;exact .of_eq (h us AF)
def Passes(CX:L8)(X:Aq)(E:FE):Prop:=∀(A4:μ)(σ :St)(H:AE)(s:AS)(e:A9)(s':AS),θ->CX X.stack H s E e s'->X.DB e s'
section
variable{X:Aq}{CX:L8}{k:Nat}{f C:A7}{fd:I2}{ps:↑Str}{sp:Co}{Hp:↑V}{ds:↑A9}{E:FE}{x m:Str}{p pos apos:Pos}{e o:Ah}{es:↑Ah}{Bx:TE}{t:Fu}
def ff{A4:μ}{σ :St}{H:AE}{s:AS}{Q:CQ}{us:↑A9}{vs:↑V}(F:Ie X.prog X.w X.K X.mg X.base CX k f fd ps sp)(B6:DD k X.A)(A5:Binds X.K fd ps ds)(hd:Vals Hp ds)(AJ:Passes CX X E)(J:θ)(r:Vals vs us)(h:sp (vs++Hp) H Q E):An ξ X.A (call (.ref f) us) (HD X A4 σ Q) X.DB s:=by
 have BK:Vals (vs++Hp) (us++ds):=r.append hd;have AF:⇑(us++ds)=⇑ps:=by rw[<- ⇑BK];exact F.len _ _ _ _ h
 refine wpAny_call (R7 (F.run X.A X.stack s H ⟨us,[]⟩ (us++ds) (vs++Hp) Q E B6 J.dm (A5 s us J.FP AF) BK h) λr s' AW=>?_);cases r with
 |error e=>exact AJ A4 σ H s e s' J AW
 |ok Dv=>
  cases Dv with
  |ret u=>exact J.after AW
  |next=>exact Hi AW
  |brk=>exact Hi AW
  |cont=>exact Hi AW
def af7(F:Ie X.prog X.w X.K X.mg X.base CX k f fd ps sp)(B6:DD k X.A)(Am:Ek X x)(hm:X.mg x=↥(.ref f))(AR:KL X.K (.ref f)=true)(A5:Binds X.K fd ps ds)(hd:Vals Hp ds)(AJ:Passes CX X E)(AG:HG X (e::es) t)(Mr:(x==("__debug__" :Str))=false:=by decide)(he:C8 (e::es) X.env=(false,BM e X.env)::C8 es X.env:=by rfl)(GW:(F8 pos (C8 es X.env)).any (·.1)=false:=by rfl) :
  Af X (.Call (.Name x p) (e::es) [] pos) (sQ sp Hp E t):=by
 intro A4 s σ H Q J h;refine V8 (WJ J Am hm ?_ Mr);refine Yv (h₀:=X.base) J.ok.mod.Ru AR (BV (AG pos A4 s σ H _ J h) λus s1⟨vs,H1,Ac,r,q⟩=>⟨Ac.FP,?_⟩) he GW;exact ff F B6 A5 hd AJ Ac r q
def afM {pl:Sem Bool} (he:Af X o Bx) (c:K1 X.K C) (hm:Meth X.K C m f) (F:Ie X.prog X.w X.K X.mg X.base CX k f fd ps sp) (B6:DD k X.A) (A5:Binds X.K fd ps ds) (hd:Vals Hp ds) (AJ:Passes CX X E) (AG:HG X (e::es) t)(GA:C8 (e::es) X.env=(false,BM e X.env)::C8 es X.env:=by rfl) (GW:(F8 pos (C8 es X.env)).any (·.1)=false:=by rfl)(Bc:BM (.Call (.Attribute o m apos) (e::es) [] pos) X.env=(do
    let CN <-BM o X.env
    MX apos.atName
    let(f,first) <-JQ [CN] (OK CN m pl)
    Po pos f first (F8 pos (C8 (e::es) X.env)) (Jp pos (Jh [] X.env))):=by rfl) :
  Af X (.Call (.Attribute o m apos) (e::es) [] pos) (YZ C m sp Hp E Bx t):=by
 intro A4 s σ H Q J h;refine Z2 (pl:=pl) (BV (he A4 s σ H _ J h) λu s1⟨x,H1,Ac,Av,a,Bo,BA,ex,BS,l,q⟩=>?_) Bc;subst ex;obtain rfl:u=Cv a:=Av;refine aT Ac BS c hm l ?_;refine Yv (first:=[.ref a]) (h₀:=X.base) J.ok.mod.Ru hm.Bf (BV (AG pos A4 s1 σ H1 _ Ac q) λus s2⟨vs,AU,BW,r,q2⟩=>⟨BW.FP,?_⟩) GA GW;exact ff (us:=.ref a::us) (vs:=.ref a::vs) F B6 A5 hd AJ BW (.cons rfl r) q2
def afN {pl:Sem Bool} (he:Af X o Bx) (c:K1 X.K C) (hm:Meth X.K C m f) (F:Ie X.prog X.w X.K X.mg X.base CX k f fd ps sp) (B6:DD k X.A) (A5:Binds X.K fd ps ds) (hd:Vals Hp ds) (AJ:Passes CX X E)(Bc:BM (.Call (.Attribute o m apos) [] [] pos) X.env=(do
    let CN <-BM o X.env
    MX apos.atName
    let(f,first) <-JQ [CN] (OK CN m pl)
    Po pos f first (F8 pos (C8 [] X.env)) (Jp pos (Jh [] X.env))):=by rfl) :
  Af X (.Call (.Attribute o m apos) [] [] pos) (YZ C m sp Hp E Bx Ya):=by
 intro A4 s σ H Q J h;refine Z2 (pl:=pl) (BV (he A4 s σ H _ J h) λu s1⟨x,H1,Ac,Av,a,Bo,BA,ex,BS,l,q⟩=>?_) Bc;subst ex;obtain rfl:u=Cv a:=Av;refine aT Ac BS c hm l ?_;exact PySem.W.callWith_K0 (first:=[.ref a]) Ac.FP hm.Bf (ff (us:=[.ref a]) (vs:=[.ref a]) F B6 A5 hd AJ Ac (.cons rfl .nil) q)
structure Zi(K:At)(C f:A7):Prop where
 makes:i3 K C=true
 init:Ji K (.ref C) "__init__"=↥↥(.ref f)
 fn:VG K (.ref f)=true
 Bf:KL K (.ref C)=true
def afa{A4:μ}{σ :St}{H:AE}{s:AS}{Q:CQ}{us:↑A9}{vs:↑V}(M:Zi X.K C f)(F:Ie X.prog X.w X.K X.mg X.base CX k f fd ps sp)(B6:DD (k+1) X.A)(A5:Binds X.K fd ps ds)(hd:Vals Hp ds)(AJ:Passes CX X E)(J:θ)(r:Vals vs us)(h:∀x Bo,H x=none->H Bo=none->Bo≠x->sp (.ref x::(vs++Hp)) (upd (upd H Bo (.own x)) x (.ins C Bo [])) (λv AU=>v=.non/\Q (.ref x) AU) E) :
  An ξ X.A (call (.ref C) us) (HD X A4 σ Q) X.DB s:=by
 have AW:=h (s.heap.objs.size+1) s.heap.objs.size (J.Az.fresh (OP _)) (J.Az.fresh (C1 _)) (F7 (Pf _));have BW:=Inv.made (C:=C) J;have BK:Vals (V.ref (s.heap.objs.size+1)::(vs++Hp)) (Cv (s.heap.objs.size+1)::(us++ds)):=.cons rfl (r.append hd);have AF:⇑(Cv (s.heap.objs.size+1)::us++ds)=⇑ps:=by have e:=⇑BK;rw[F.len _ _ _ _ AW]at e;exact e.symm
 refine wpAny_call (acb (f:=f) J.FP M.makes M.init (beq_iff_eq.mp M.fn) (R7 (F.run _ X.stack _ _ ⟨Cv (s.heap.objs.size+1)::us,[]⟩ (Cv (s.heap.objs.size+1)::(us++ds)) _ _ E (B6.make C us [])
  (BW.dm.make C us []) (A5 _ (Cv (s.heap.objs.size+1)::us) BW.FP AF) BK AW) λr s' Wk=>?_))
 cases r with
 |error e=>exact AJ A4 σ _ _ e s' BW Wk
 |ok Dv=>
  cases Dv with
  |ret u=>obtain⟨v,AB,D4,Bw,ev,F4⟩:=BW.after Wk;subst ev;exact⟨Bw,⟨V.ref (s.heap.objs.size+1),AB,D4,rfl,F4⟩⟩
  |next=>exact Hi Wk
  |brk=>exact Hi Wk
  |cont=>exact Hi Wk
def afL(M:Zi X.K C f)(F:Ie X.prog X.w X.K X.mg X.base CX k f fd ps sp)(B6:DD (k+1) X.A)(Am:Ek X x)(hm:X.mg x=↥(.ref C))(A5:Binds X.K fd ps ds)(hd:Vals Hp ds)(AJ:Passes CX X E)(AG:HG X (e::es) t)(Mr:(x==("__debug__" :Str))=false:=by decide)(he:C8 (e::es) X.env=(false,BM e X.env)::C8 es X.env:=by rfl)(GW:(F8 pos (C8 es X.env)).any (·.1)=false:=by rfl) :
  Af X (.Call (.Name x p) (e::es) [] pos) (rg C sp Hp E t):=by
 intro A4 s σ H Q J h;refine V8 (WJ J Am hm ?_ Mr);refine Yv (h₀:=X.base) J.ok.mod.Ru M.Bf (BV (AG pos A4 s σ H _ J h) λus s1⟨vs,H1,Ac,r,q⟩=>⟨Ac.FP,?_⟩) he GW;exact afa M F B6 A5 hd AJ Ac r q
end
section
variable{X:Aq}{CX:L8}{k:Nat}{f C:A7}{fd:I2}{ps AK:↑Str}{sp:Co}{E:FE}{x m:Str}{p pos apos alL:Pos}{e o:Ah}{es:↑Ah}{alN:↑Jo}{te Bx:TE}{t Ce:Fu}{nm:Option Str}
variable{g:↑A9->↑A9->↑A9}{al8:↑V->↑V->↑V}
end
structure CA(N P:↑Str)(sc:FS):Prop where
 kind:sc.kind=.function
 co:sc.isCoroutine=false
 gen:sc.isGenerator=false
 Bz:N.Nodup
 pre:N.take ⇑P=P
 par:∀x∈P,sc.names.lookup x=↥.local\/sc.names.lookup x=↥.cell
 ad4:∀y∈sc.names,y.2≠.free
theorem jG{KP:Str->Option L6}{x:Str}:∀{binds:↑(Str×A9)}{m:Str->Option A9},(∀v,(x,v)∉binds)->bindL KP binds m x=m x
 |[],_,_=>rfl
 |(n,v)::r,m,h=>by
  unfold bindL;rw[jG λw hw=>h w (Gy _ hw)]
  split
  .have:x≠n:=by rintro rfl;exact h v Hg
   simp[this]
  .rfl
theorem jE{KP:Str->Option L6}{x:Str}:∀{binds:↑(Str×A9)}{m:Str->Option A9},(∀v,(x,v)∉binds)->bindC KP binds m x=m x
 |[],_,_=>rfl
 |(n,v)::r,m,h=>by
  unfold bindC;rw[jE λw hw=>h w (Gy _ hw)]
  split
  .rfl
  .have:x≠n:=by rintro rfl;exact h v Hg
   simp[this]
theorem jF{KP:Str->Option L6}{x:Str}{v:A9}:∀{P:↑Str}{vs:↑A9}{i:Nat}{m:Str->Option A9},P.Nodup->P[i]?=↥x->vs[i]?=↥v->KP x=↥.local->
  bindL KP (P.zip vs) m x=↥v
 |[],_,_,_,_,h,_,_=>by simp at h
 |_::_,[],_,_,_,_,h,_=>by simp at h
 |p::P,w::vs,0,m,Bz,h1,h2,AR=>by simp at h1 h2;subst h1;subst h2;show bindL KP ((p,w)::P.zip vs) m p=_;unfold bindL;rw[jG λv Bg=>(List.nodup_cons.mp Bz).1 (i4 Bg).1,if_pos AR];simp
 |p::P,w::vs,i+1,m,Bz,h1,h2,AR=>by show bindL KP ((p,w)::P.zip vs) m x=_;unfold bindL;exact jF (i:=i) (List.nodup_cons.mp Bz).2 (h1:) (h2:) AR
theorem jD{KP:Str->Option L6}{x:Str}{v:A9}:∀{P:↑Str}{vs:↑A9}{i:Nat}{m:Str->Option A9},P.Nodup->P[i]?=↥x->vs[i]?=↥v->KP x≠↥.local->
  bindC KP (P.zip vs) m x=↥v
 |[],_,_,_,_,h,_,_=>by simp at h
 |_::_,[],_,_,_,_,h,_=>by simp at h
 |p::P,w::vs,0,m,Bz,h1,h2,AR=>by simp at h1 h2;subst h1;subst h2;show bindC KP ((p,w)::P.zip vs) m p=_;unfold bindC;rw[jE λv Bg=>(List.nodup_cons.mp Bz).1 (i4 Bg).1,if_neg AR];simp
 |p::P,w::vs,i+1,m,Bz,h1,h2,AR=>by show bindC KP ((p,w)::P.zip vs) m x=_;unfold bindC;exact jD (i:=i) (List.nodup_cons.mp Bz).2 (h1:) (h2:) AR
noncomputable def start(N:↑Str)(vs:↑V):St:=vs.map some++Gd (⇑N- ⇑vs) none
noncomputable def Kz(CX:L8)(P:C9)(w:Bl)(K:At)(mg:Str->Option A9)(base:BF)(N:↑Str)(qual:Str)(scope:FS)(f:A7)(cd:A9)(A:DE)(outer:↑Env)(s:AS)(H:AE)(E:FE):Aq where
 prog:=P
 w:=w
 K:=K
 mg:=mg
 base:=base
 A:=A.deeper (OR qual scope s.heap.objs.size f cd)
 N:=N
 G_:=s
 LB:=H
 env:=OR qual scope s.heap.objs.size f cd
 outer:=outer
 stack:=OR qual scope s.heap.objs.size f cd::outer
 ex:=[]
 calm:=true
 fn:=λ_=>true
 C7:=[]
 DB:=λe s'=>An (B4 P w) (A.deeper (OR qual scope s.heap.objs.size f cd)) (leaving (OR qual scope s.heap.objs.size f cd) e) (λ_ K9=>CX outer H s E e K9) (λBb K9=>CX outer H s E Bb K9) s'
def eH{sc:FS}{n:Nat}{x:Str}(h:sc.names.lookup x=↥.cell):∃c,(IB n sc.names []).lookup x=↥c:=by have q:=tx sc.names n [] (.inl h);exact Option.isSome_iff_exists.mp q
def abL{CX:L8}{P:C9}{w:Bl}{K:At}{mg:Str->Option A9}{base:BF}{N ps:↑Str}{qual:Str}{scope:FS}{f:A7}{cd:A9}{A:DE}{outer:↑Env}{s s1:AS}{H:AE}{E:FE}{us:↑A9}{vs:↑V}(S:CA N ps scope)(hd:A.handled=none)(FY:RQ P w K mg base A outer s H)(AF:⇑vs=⇑ps)(r:Vals vs us)(x:InCallC s s.heap.objs.size (bindL (OR qual scope s.heap.objs.size f cd).kindOf (ps.zip us) λ_=>none) (IB (s.heap.objs.size+1) scope.names []) (bindC (OR qual scope s.heap.objs.size f cd).kindOf (ps.zip us) λ_=>none) s1) :
  Inv (Kz CX P w K mg base N qual scope f cd A outer s H E) [] (start N vs) H s1:=by
 have GW:⇑ps<=⇑N:=by have:=congrArg VP S.pre;rw[OD]at this;lia
 obtain⟨h1,Ce,rfl,AR⟩:=x.done;have Xe:∀b:A7,b∉(Kz CX P w K mg base N qual scope f cd A outer s H E).ex:=λb z=>absurd (show b∈([]:↑A7)from z) γ
 refine⟨⟨FY.mod,S.kind,rfl,rfl,C1 _,λy z c h1 h2=>?_,λy AP=>?_,λy c _ h=>?_,λ_=>hd,Around.frames_deeper FY.frames,.inr ⟨rfl,rfl⟩,λb z=>absurd z (Xe b),FY.bs,FY.PJ,λb _ _=>Xe b,λb z=>absurd z (Xe b),FY.K8,FY.QK⟩,
  rfl,FY.bare,GJ.kept AR,⟨_,x.toInCall.ns,λi y v h1 h2 BO=>?_⟩,λy c h=>⟨_,x.cell y c h⟩,FY.Az.fresh (C1 _),λy c h=>?_,λp AV=>absurd (show p∈([]:μ)from AV) γ,FY.Az.kept AR,?_⟩
 .exact name_of_addr x.apart (NG h1) (NG h2)
 .have AP:scope.names.lookup y=↥.cell\/scope.names.lookup y=↥.free:=AP;rcases AP with AP|AP
  .exact eH AP
  .exact absurd rfl (S.ad4 _ (NG AP))
 .exact Pj (x.above y c (NG h))
 .have hi:i< ⇑vs:=by
    unfold start at h2;by_cases hi:i< ⇑vs
    .exact hi
    .rw[NJ (hi:)]at h2;rw[Yh]at h2
     split at h2<;>cases h2
  have AG:vs[i]?=↥v:=by
   unfold start at h2;rw[GR (hi:),E7]at h2;cases e:vs[i]? with
   |none=>rw[e]at h2;cases h2
   |some a=>rw[e]at h2;cases h2;rfl
  obtain⟨u,BR,Bw⟩:=r.get AG;have AV:ps[i]?=↥y:=by rw[<-S.pre,List.getElem?_take_of_lt δ];exact h1
  have m5:ps.Nodup:=by rw[<-S.pre];exact S.Bz.sublist (List.take_sublist _ _)
  refine⟨u,Bw,?_⟩;rcases S.par y (Lk AV)with k|k
  .exact .inl ⟨k,jF m5 AV BR k⟩
  .obtain⟨c,e⟩:=eH (n:=s.heap.objs.size+1) k;refine .inr ⟨.inl k,c,e,?_⟩;have q:=x.cell y c e;rw[jD m5 AV BR (by show scope.names.lookup y≠_;rw[k];decide)]at q;exact q
 .exact FY.Az.fresh (Pj (x.above y c (NG h)))
 .unfold start;show _=⇑N;rw[EM,Ch,V0];lia
def kF {CX:L8} {P:C9} {w:Bl} {K:At} {mg:Str->Option A9} {base:BF} {k:Nat} {f:A7} {name qual:Str} {params:Arguments} {body:↑BG} {scope:FS} {b4 Cj doc pm Fm DS Gn:A9} {an E9:Option A7}{Oa:Array (Option A9)} {N ps:↑Str} {sp:Co} (lk:K.lookup f=↥⟨Gn,E9,.func (KM name qual params body scope b4 Cj doc pm an Fm DS),Oa⟩) (Ld:NK K Fm qual=true) (S:CA N ps scope)(len:∀vs H Q E,sp vs H Q E->⇑vs=⇑ps)(d_:∀(A:DE)(outer:↑Env)(s:AS)(H:AE)(vs:↑V)(Q:CQ)(E:FE),DD k (A.deeper (OR qual scope s.heap.objs.size f Fm))->sp vs H Q E->
    ∃t,Hc (Kz CX P w K mg base N qual scope f Fm A outer s H E) body t/\t { AT:=λ_ AB=>Q .non AB,EX:=Q } (start N vs) H) :
  Ie P w K mg base CX (k+1) f (KM name qual params body scope b4 Cj doc pm an Fm DS) ps sp:=by
 refine⟨len,λA outer s H args us vs Q E B6 FY A5 r Lu=>?_⟩;have AF:=len _ _ _ _ Lu;have IJ:K.In s.heap:=FY.mod.Ru.keeps λb o e=>(FY.bs b o e).1;have lim:s.heap.NoLimit:=FY.mod.nolimit.keeps λb o e=>(FY.bs b o e).1;have yX:∀y∈ps.zip us,scope.names.lookup y.1=↥.local\/(scope.names.lookup y.1=↥.cell/\((IB (s.heap.objs.size+1) scope.names []).lookup y.1).isSome=true):=λ⟨n,v⟩ AP=>by
  rcases S.par n (i4 AP).1 with q|q
  .exact .inl q
  .exact .inr ⟨q,tx _ _ _ (.inl q)⟩
 refine codeAny_call_function B6.depth (IJ _ _ lk) rfl S.co S.gen rfl (PySem.W.codeRec_of IJ Ld) (A5 _ _ _ _ ?_);refine wpAny_newFunctionEnv_cells S.kind yX λenv he s1 x=>?_;subst he;refine⟨lim.keeps x.toInCall.keep,codeAny_func ?_⟩;obtain⟨t,Bc,AW⟩:=d_ A outer s H vs Q E (B6.deeper _) Lu;have J:Inv (Kz CX P w K mg base N qual scope f Fm A outer s H E) [] (start N vs) H s1:=abL S B6.hd FY AF r x;refine Hh (Bc [] s1 (start N vs) H _ J AW) (λDv s' AQ=>?_) λe s' AQ=>AQ;have fin:∀{σ' :St}{AB:AE}{v:V}{u:A9},Inv (Kz CX P w K mg base N qual scope f Fm A outer s H E) [] σ' AB s'->RelV v u->Q v AB->cE outer P w K H s Q u s':=
  λ{σ' AB v u} BH Bw q=>⟨v,AB,BH.os,BH.bare,BH.base,BH.Az,Bw,q⟩
 cases Dv with
 |ret u=>obtain⟨v,σ',AB,BH,Bw,q⟩:=AQ;exact fin BH Bw q
 |next=>obtain⟨σ',AB,BH,q⟩:=AQ;exact fin (v:=V.non) (u:=JP) BH rfl q
 |brk=>obtain⟨_,_,_,q⟩:=AQ;exact Hi q
 |cont=>obtain⟨_,_,_,q⟩:=AQ;exact Hi q
section
variable{X:Aq}{x:Str}{p pos:Pos}{e:Ah}{es:↑Ah}{t:Fu}{id T:String}{r:↑V->AE->CQ->Prop}
noncomputable def Wu(r:↑V->AE->CQ->Prop)(t:Fu):TE:=λσ H Q=>t σ H λvs H1=>r vs H1 Q
def XA(AI:JR X (.builtin id) r)(Am:Ek X x)(hm:X.mg x=none)(Bg:OH x=↥(.builtin id))(AG:HG X (e::es) t)(AM:x≠"__name__":=by decide)(Mr:(x==("__debug__" :Str))=false:=by decide)(he:C8 (e::es) X.env=(false,BM e X.env)::C8 es X.env:=by rfl)(GW:(F8 pos (C8 es X.env)).any (·.1)=false:=by rfl):Af X (.Call (.Name x p) (e::es) [] pos) (Wu r t):=by intro A4 s σ H Q J h;refine V8 (Oy J Am hm Bg ?_ AM Mr);exact PyProof.Rows.callWith_builtin1 (BV (AG pos A4 s σ H _ J h) λus s1⟨vs,H1,Ac,Ax,q1⟩=>AI A4 s1 σ H1 vs us Q Ac Ax q1) he GW
def XB(AI:JR X (.type T) r)(Am:Ek X x)(hm:X.mg x=none)(Bg:OH x=↥(.type T))(AG:HG X (e::es) t)(AM:x≠"__name__":=by decide)(Mr:(x==("__debug__" :Str))=false:=by decide)(he:C8 (e::es) X.env=(false,BM e X.env)::C8 es X.env:=by rfl)(GW:(F8 pos (C8 es X.env)).any (·.1)=false:=by rfl):Af X (.Call (.Name x p) (e::es) [] pos) (Wu r t):=by intro A4 s σ H Q J h;refine V8 (Oy J Am hm Bg ?_ AM Mr);exact Qv (BV (AG pos A4 s σ H _ J h) λus s1⟨vs,H1,Ac,Ax,q1⟩=>AI A4 s1 σ H1 vs us Q Ac Ax q1) he GW
end
end B3
namespace EU
open PyProof.Rows
section
open PySem.SeqAt
open PySem.AutoSeq1 (wpAny_loadPart')
open PySem.MeetsSeq PySem.MeetsSeq2 PySem.MeetsSeq3
end
section
variable{prog:C9}{w:Bl}{A:DE}{E:A9->AS->Prop}{s:AS}
def wQ{t b:A7}{vs ws:↑A9}{Q:A9->AS->Prop}(Bc:IsTup s.heap t vs.toArray)(A5:IsTup s.heap b ws.toArray)(Bg:vs≠[])(h1:ws=[]->Q (.ref t) s)(h2:ws≠[]->Q (.ref s.heap.objs.size) { s with heap:=s.heap.push { cls:=.type "tuple",data:=.seq (vs++ws).toArray } })(hsz:⇑vs+⇑ws<=CO):An Ω A (Jn .Add (.ref t) (.ref b)) Q E s:=by
 obtain⟨⟨cls,dd,data,Bm⟩,ho,AI,n,hd⟩:=id Bc;obtain⟨⟨akM,T9,data2,Qp⟩,ah,lX,FQ,hd2⟩:=id A5;simp only at AI hd lX hd2;subst AI hd lX hd2;have e:vs.toArray++ws.toArray=(vs++ws).toArray:=γ
 by_cases hw:ws=[]
 .exact concat_meets ⟨_,ho,rfl⟩ ⟨_,ah,rfl⟩ noFill_tuple_add seq_tuple_add u0 tr (tH _ _)
    (tuple_addW1 t b vs.toArray ws.toArray n FQ dd T9 Bm Qp (Bg:) (by simp[hw])) ⟨ho,ah,h1 hw⟩
 .refine concat_meets ⟨_,ho,rfl⟩ ⟨_,ah,rfl⟩ noFill_tuple_add seq_tuple_add u0 tr (tH _ _)
    (tuple_addW2 t b vs.toArray ws.toArray n FQ dd T9 Bm Qp (Bg:) (hw:) (by rw[DU,DU];exact hsz)) ⟨ho,ah,?_⟩
  rw[e];exact h2 hw
noncomputable def Ct(n d:Nat):Option Int->Nat
 |none=>d
 |some v=>if v<0 then(v+(n:Int)).toNat else min v.toNat n
def YK(n d:Nat):Ct n d none=d:=rfl
def Ug(n d k:Nat):Ct n d ↥(k:Int)=min k n:=by show(if(k:Int)<0 then((k:Int)+(n:Int)).toNat else min (k:Int).toNat n)=min k n;rw[if_neg δ,R5]
def afd(n d:Nat)(hd:d<=n)(o:Option Int):Ct n d o<=n:=by
 cases o with
 |none=>exact hd
 |some v=>
  show(if v<0 then(v+(n:Int)).toNat else min v.toNat n)<=n;by_cases Bg:v<0
  .rw[if_pos Bg];lia
  .rw[if_neg Bg];exact Nat.min_le_right _ _
def iw(v:Int)(n d:Nat):(if v<0 then max (v+(n:Int)) 0 else min v (n:Int))=((Ct n d ↥v:Nat):Int):=by
 show(if v<0 then max (v+(n:Int)) 0 else min v (n:Int))=(((if v<0 then(v+(n:Int)).toNat else min v.toNat n):Nat):Int);by_cases Bg:v<0
 .erw[if_pos Bg];lia
 .erw[if_neg Bg];lia
def vQ(lo hi:Option Int)(n:Nat):ha lo hi 1 (n:Int)=(((Ct n 0 lo:Nat):Int),((Ct n n hi:Nat):Int)):=by
 have h1:¬((1:Int)<0):=δ
 unfold ha;erw[h1,if_false];refine Prod.ext ?_ ?_
 .cases lo with
  |none=>rfl
  |some v=>exact iw v n 0
 .cases hi with
  |none=>rfl
  |some v=>exact iw v n n
def aex(i j:Nat):Ym (i:Int) (j:Int) 1=j-i:=by
 unfold Ym;have h1:(1:Int)>0:=δ
 erw[h1,if_true,Int.ediv_one]
 split<;>lia
def r0{v:A9}{o:Option Int}{Q:Option Int->AS->Prop}(p:IsPart v o)(h:Q o s):An Ω A (Builtin.Slice.slicePartIndex v) Q E s:=by
 cases p with
 |none=>exact slicePart_none h
 |int i t=>exact slicePart_int h
def ahI{Bm:A7}{Dy Ib:A9}{lo hi:Option Int}{n:Nat}{Q:Int×Int×Nat->AS->Prop}(AQ:s.heap.IsSliceOf Bm Dy Ib .none)(pl:IsPart Dy lo)(pu:IsPart Ib hi)(h:Q (((Ct n 0 lo:Nat):Int),1,Ct n n hi-Ct n 0 lo) s):An Ω A (tN (.ref Bm) (pure (n:Int))) Q E s:=by obtain⟨os,SY,l_,aW⟩:=id AQ;unfold tN Builtin.Slice.sliceFields;refine Ad (Ad (MS SY aW (x:=Dy) rfl (Ad (MS SY aW (x:=Ib) rfl (Ad (MS SY aW (x:=.none) rfl (B_ ?_)))))));refine Ad (slicePart_none ?_);show An _ _ (if((1:Int)==0)=true then _ else _) _ _ s;rw[if_neg ε];refine Ad (r0 pl (Ad (r0 pu (Ad (B_ ?_)))));show An _ _ (match ha lo hi 1 (n:Int)with|(lo,hi)=>pure (lo,(1:Int),Ym lo hi 1)) _ _ s;rw[vQ lo hi n];show An _ _ (pure (((Ct n 0 lo:Nat):Int),(1:Int),Ym ((Ct n 0 lo:Nat):Int) ((Ct n n hi:Nat):Int) 1)) _ _ s;rw[aex];exact B_ h
def aew(xs:Array A9)(i k:Nat):((Cn k).filterMap λ(m:Nat)=>xs[((i:Int)+(m:Int)*1).toNat]?).toArray=((xs.toList.drop i).take k).toArray:=by
 have e:(λ(m:Nat)=>xs[((i:Int)+(m:Int)*1).toNat]?)=λm=>xs[i+m]?:=by
  funext m
  have:((i:Int)+(m:Int)*1).toNat=i+m:=δ
  rw[this]
 rw[e];have:=pick_run xs i k;rw[List.filterMap_map]at this;have AH:((λx=>xs[x]?)∘λx=>i+x)=λm=>xs[i+m]?:=rfl;rw[AH]at this;rw[this]
def zE{t Bm:A7}{items:Array A9}{Dy Ib:A9}{lo hi:Option Int}{Q:A9->AS->Prop}(Bc:IsTup s.heap t items)(AQ:s.heap.IsSliceOf Bm Dy Ib .none)(pl:IsPart Dy lo)(pu:IsPart Ib hi)(hw:¬(Ct items.size 0 lo=0/\Ct items.size items.size hi=items.size))(h:Q (.ref s.heap.objs.size) { s with heap:=s.heap.push { cls:=.type "tuple",data:=.seq ((items.toList.drop (Ct items.size 0 lo)).take (Ct items.size items.size hi-Ct items.size 0 lo)).toArray } })(hsz:items.size<=CO):An Ω A (Pk (.ref t) (.ref Bm)) Q E s:=by
 have a9:sizeOk (.seq ((items.toList.drop (Ct items.size 0 lo)).take (Ct items.size items.size hi-Ct items.size 0 lo)).toArray):=by show((items.toList.drop (Ct items.size 0 lo)).take (Ct items.size items.size hi-Ct items.size 0 lo)).toArray.size<=CO;rw[DU,OD,ZE,R1];lia
 have Ar:Ct items.size items.size hi<=items.size:=afd _ _ (C1 _) hi;obtain⟨os,SY,l_,aW⟩:=id AQ;have yf:s.TypeIs (.ref Bm) "slice":=⟨os,SY,l_⟩;unfold Pk
 try with_reducible refine MU ?_
 first|refine Ad (B_ ?_)|skip
 refine Ad (wpAny_sequenceKey Bc.typeIs ε ?_)
 refine Ad (Sc (name:=So "__getitem__") Bc.typeIs tD
  (OE tD Bc.typeIs entry_tuple_getitem ?_ (args_tuple_getitem _ _)))
 show An _ _ (Builtin.Tuple.tupleItemsOf (.ref t)>>=_) _ _ s;refine Ad (tupleItemsOf_ Bc ?_);refine Ad (ZL yf ?_);rw[if_pos ε];refine Ad (ahI AQ pl pu ?_);have aa8:¬((((Ct items.size 0 lo:Nat):Int)==0&&(1:Int)==1&&(Ct items.size items.size hi-Ct items.size 0 lo)==items.size)=true):=by intro q;rw[Hz,Hz]at q;have q1:((Ct items.size 0 lo:Nat):Int)=0:=eq_of_beq q.1.1;have q2:Ct items.size items.size hi-Ct items.size 0 lo=items.size:=eq_of_beq q.2;exact hw ⟨δ,δ⟩
 show An _ _ (if(((Ct items.size 0 lo:Nat):Int)==0&&(1:Int)==1&&(Ct items.size items.size hi-Ct items.size 0 lo)==items.size)=true then _ else _) _ _ s;rw[if_neg aa8,aew]
 first
  |exact Ad (m:=Yn _) (Lm (B_ ⟨_,rfl,B_ h⟩) a9)
  |exact Ad (m:=Yn _) (Lm (Ad (B_ (B_ ⟨_,rfl,B_ h⟩))) a9)
  |exact Ad (Ad (m:=Yn _) (Lm (B_ (B_ ⟨_,rfl,B_ h⟩)) a9))
  |exact Ad (Ad (m:=Yn _) (Lm (B_ ⟨_,rfl,B_ h⟩) a9))
end
end EU
namespace B3
open PyProof.Rows
abbrev Ta:=St->AE->(Option Int->AE->Prop)->Prop
def Vf(X:Aq)(e:Option Ah)(t:Ta):Prop:=
 ∀(A4:μ)(s:AS)(σ :St)(H:AE)(Q:Option Int->AE->Prop),θ->t σ H Q->
  An ξ X.A (evalPart e X.env) (λu s'=>∃o AB,Inv X A4 σ AB s'/\IsPart u o/\Q o AB) X.DB s
def ri:Ta:=λ_ H Q=>Q none H
noncomputable def rn(t:TE):Ta:=λσ H Q=>t σ H λx H1=>∃i,x=.int i/\Q ↥i H1
section
variable{X:Aq}{e:Ah}{te:TE}{lo hi:Option Ah}{KF Yc:Ta}{pos D2:Pos}
def af3:Vf X none ri:=by intro A4 s σ H Q J h;rw[evalPart_none];exact B_ ⟨none,H,J,.none,h⟩
def af4(h:Af X e te):Vf X ↥e (rn te):=by intro A4 s σ H Q J hw;rw[evalPart_some];refine BV (h A4 s σ H _ J hw) λu s1⟨x,H1,Ac,Ax,q1⟩=>?_;obtain⟨i,rfl,q⟩:=q1;obtain⟨t,rfl⟩:=Ax;exact⟨↥i,H1,Ac,.int i t,q⟩
def Re(X:Aq)(r:V->Option Int->Option Int->AE->CQ->Prop):Prop:=
 ∀(A4:μ)(s:AS)(σ :St)(H:AE)(x:V)(v Dy Ib:A9)(lo hi:Option Int)(Bm:A7)(Q:CQ),θ->RelV x v->s.heap.IsSliceOf Bm Dy Ib .none->IsPart Dy lo->IsPart Ib hi->r x lo hi H Q->
  ∃T id,typeLookup (.type T) "__getitem__"=pure ↥(.builtin id)/\s.TypeIs v T/\An ξ X.A (Pk v (.ref Bm)) (HD X A4 σ Q) X.DB s
def Re.or{r Bd:V->Option Int->Option Int->AE->CQ->Prop}(h:Re X r)(h':Re X Bd):Re X (λx lo hi H Q=>r x lo hi H Q\/Bd x lo hi H Q):=by
 intro A4 s σ H x v Dy Ib lo hi Bm Q J Av AQ pl pu q;rcases q with q|q
 .exact h A4 s σ H x v Dy Ib lo hi Bm Q J Av AQ pl pu q
 .exact h' A4 s σ H x v Dy Ib lo hi Bm Q J Av AQ pl pu q
noncomputable def rt(r:V->Option Int->Option Int->AE->CQ->Prop)(te:TE)(KF Yc:Ta):TE:=λσ H Q=>te σ H λx H1=>KF σ H1 λl AU=>Yc σ AU λu C4=>r x l u C4 Q
def afS{r:V->Option Int->Option Int->AE->CQ->Prop}(B6:Re X r)(he:Af X e te)(AF:Vf X lo KF)(BR:Vf X hi Yc):Af X (.Subscript e (.Slice lo hi none D2) pos) (rt r te KF Yc):=by intro A4 s σ H Q J h;refine Subscript_ (BV (he A4 s σ H _ J h) λv s1⟨x,H1,Ac,Ax,q1⟩=>?_);refine wpAny_Slice (BV (AF A4 s1 σ H1 _ Ac q1) λDy s2⟨l,AU,BW,pl,q2⟩=>BV (BR A4 s2 σ AU _ BW q2) λIb s3⟨u,C4,D4,pu,F4⟩=>?_);rw[evalPart_none];refine B_ ?_;have M6:Inv X A4 σ C4 { s3 with heap:=s3.heap.push { cls:=.type "slice",data:=.fields #[Dy,Ib,.none] } }:=D4.kept (t':=s3.toks) λb BD q=>Cy _ q;obtain⟨T,id,Dj,Bc,Am⟩:=B6 A4 { s3 with heap:=s3.heap.push { cls:=.type "slice",data:=.fields #[Dy,Ib,.none] } } σ C4 x v Dy Ib l u s3.heap.objs.size Q M6 Ax (Heap.IsSliceOf.new ..) pl pu F4;show An ξ X.A (subscriptTail e (.Slice lo hi none D2) v (.ref s3.heap.objs.size)) (HD X A4 σ Q) X.DB { s3 with heap:=s3.heap.push { cls:=.type "slice",data:=.fields #[Dy,Ib,.none] } };exact tail_any (ops:=[.ref s3.heap.objs.size,v]) Bc Dj Am (by with_unfolding_all rfl)
noncomputable def QE(xs:↑V)(lo hi:Option Int):↑V:=(xs.drop (EU.Ct ⇑xs 0 lo)).take (EU.Ct ⇑xs ⇑xs hi-EU.Ct ⇑xs 0 lo)
def kU(xs:↑V)(lo hi:Option Int):⇑(QE xs lo hi)<=⇑xs:=by unfold QE;rw[OD,ZE];lia
def pE(K:At):V->Option Int->Option Int->AE->CQ->Prop:=λx lo hi H Q=>∃a xs,x=.ref a/\Et K H a xs/\
 ¬(EU.Ct ⇑xs 0 lo=0/\EU.Ct ⇑xs ⇑xs hi=⇑xs)/\∀p,H p=none->Q (.ref p) (upd H p (.tup (QE xs lo hi)))
def ahH:Re X (pE X.K):=by
 intro A4 s σ H x v Dy Ib lo hi Bm Q J Av AQ pl pu h;obtain⟨a,xs,rfl,AJ,hw,q⟩:=h;cases Av;obtain⟨its,r,Bc,hz⟩:=J.tuple AJ;have hlen:its.toArray.size=⇑xs:=by rw[DU];exact r.length.symm
 refine⟨"tuple",_,PyProof.Rows.slot_tuple_getitem.lookup,Bc.typeIs,?_⟩;refine EU.zE Bc AQ pl pu (by rw[hlen];exact hw) ?_ (by rw[hlen];exact hz);rw[hlen];refine⟨.ref s.heap.objs.size,_,J.laid (t':=s.toks) (o:=.tup (QE xs lo hi)) (λb BD q=>Cy _ q) (C1 _) ?_,rfl,q _ (J.Az.fresh (C1 _))⟩;exact⟨IG (kU xs lo hi) hz,_,(r.drop (EU.Ct ⇑xs 0 lo)).take (EU.Ct ⇑xs ⇑xs hi-EU.Ct ⇑xs 0 lo),IsTup.new _ _⟩
def oz(K:At):F0:=λx y H Q=>∃a b xs ys,x=.ref a/\y=.ref b/\Et K H a xs/\Et K H b ys/\xs≠[]/\ ⇑xs+⇑ys<=CO/\
 (ys=[]->Q (.ref a) H)/\(ys≠[]->∀p,H p=none->Q (.ref p) (upd H p (.tup (xs++ys))))
def Vals.gP{xs:↑V}{us:↑A9}(r:Vals xs us):us=[]↔xs=[]:=by
 cases r with
 |nil=>simp
 |cons _ _=>simp
def ae0:Dt X (Jn .Add) (oz X.K):=by intro A4 s σ H x y v u Q J Av Bh h;obtain⟨a,b,xs,ys,rfl,rfl,AG,A5,AJ,hz,q1,q2⟩:=h;cases Av;cases Bh;obtain⟨its,Ax,Ec,_⟩:=J.tuple AG;obtain⟨HI,BK,D2,_⟩:=J.tuple A5;refine EU.wQ Ec D2 (λz=>AJ (Ax.gP.mp z)) (λz=>⟨.ref a,H,J,rfl,q1 (BK.gP.mp z)⟩) (λz=>?_) (by rw[<- ⇑Ax,<- ⇑BK];exact hz);refine⟨.ref s.heap.objs.size,_,J.laid (t':=s.toks) (o:=.tup (xs++ys)) (λb BD q=>Cy _ q) (C1 _) ?_,rfl,q2 (λw=>z (BK.gP.mpr w)) _ (J.Az.fresh (C1 _))⟩;exact⟨by rw[EM];exact hz,_,Ax.append BK,IsTup.new _ _⟩
end
noncomputable def Lv(n:Nat)(i:Int):Option Nat:=if 0<=i then(if i<n then↥i.toNat else none)else if-(n:Int)<=i then↥(i+n).toNat else none
def JT{α:Type}(xs:↑α)(i:Int):Option α:=(Lv ⇑xs i).bind λj=>xs[j]?
def l0{n:Nat}{i:Int}{j:Nat}(h:Lv n i=↥j):Su i n=↥j/\j<n/\-(n:Int)<=i/\i<n:=by
 unfold Lv at h;by_cases h0:0<=i
 .rw[if_pos h0]at h;by_cases h1:i<n
  .rw[if_pos h1]at h;have e:i.toNat=j:=Gc h;exact⟨by rw[seqIndex_of h0 h1,e],δ,δ,h1⟩
  .rw[if_neg h1]at h;cases h
 .rw[if_neg h0]at h;by_cases h1: -(n:Int)<=i
  .rw[if_pos h1]at h;have e:(i+n).toNat=j:=Gc h;exact⟨by rw[seqIndex_neg δ h1,e],δ,h1,δ⟩
  .rw[if_neg h1]at h;cases h
def cg{α:Type}{xs:↑α}{i:Int}{v:α}(h:JT xs i=↥v):∃j,Su i ⇑xs=↥j/\xs[j]?=↥v/\j< ⇑xs/\-(⇑xs:Int)<=i/\i< ⇑xs:=by
 unfold JT at h;cases e:Lv ⇑xs i with
 |none=>rw[e]at h;cases h
 |some j=>rw[e]at h;obtain⟨h1,h2,BO,D5⟩:=l0 e;exact⟨j,h1,h,h2,BO,D5⟩
def dN(b:Ah):Prop:=∀o i,ZJ b false o i=operate [o,i] (Pk o i)
def O1(X:Aq)(r:F0):Prop:=
 ∀(value slice:Ah)(A4:μ)(s:AS)(σ :St)(H:AE)(x y:V)(v u:A9)(Q:CQ),θ->RelV x v->RelV y u->r x y H Q->
  ZJ slice false v u=operate [v,u] (Pk v u)->An ξ X.A (subscriptTail value slice v u) (HD X A4 σ Q) X.DB s
def Q2(X:Aq)(id:String)(r:V->↑V->AE->CQ->Prop):Prop:=
 ∀(A4:μ)(s:AS)(σ :St)(H:AE)(x:V)(xs:↑V)(v:A9)(us:↑A9)(Q:CQ),θ->RelV x v->Vals xs us->r x xs H Q->
  An ξ X.A (call (.builtin id) (v::us)) (HD X A4 σ Q) X.DB s
section
variable{X:Aq}{a b:Ah}{Bx tb:TE}{pos:Pos}
def O1.or{r Bd:F0}(h:O1 X r)(h':O1 X Bd):O1 X (λx y H Q=>r x y H Q\/Bd x y H Q):=by
 intro value slice A4 s σ H x y v u Q J Av Bh q AQ;rcases q with q|q
 .exact h value slice A4 s σ H x y v u Q J Av Bh q AQ
 .exact h' value slice A4 s σ H x y v u Q J Av Bh q AQ
def Q2.or{id:String}{r Bd:V->↑V->AE->CQ->Prop}(h:Q2 X id r)(h':Q2 X id Bd):Q2 X id (λx xs H Q=>r x xs H Q\/Bd x xs H Q):=by
 intro A4 s σ H x xs v us Q J Av rs q;rcases q with q|q
 .exact h A4 s σ H x xs v us Q J Av rs q
 .exact h' A4 s σ H x xs v us Q J Av rs q
def afI{r:F0}(B6:O1 X r)(AG:Af X a Bx)(A5:Af X b tb)(AQ:dN b):Af X (.Subscript a b pos) (Un r Bx tb):=by intro A4 s σ H Q J h;exact Subscript_ (eD AG A5 J h λv u s2 x y AU BW Av Bh q=>B6 a b A4 s2 σ AU x y v u Q BW Av Bh q (AQ _ _))
def p4(K:At):F0:=λx y H Q=>∃p xs i v,x=.ref p/\y=.int i/\Es K H p xs/\JT xs i=↥v/\Q v H
def p6(K:At):F0:=λx y H Q=>∃p xs i v,x=.ref p/\y=.int i/\Et K H p xs/\JT xs i=↥v/\Q v H
def p5:F0:=λx y H Q=>∃z i c,x=.str z/\y=.int i/\ ⇑z<=CO/\JT z.cps.toList i=↥c/\Q (.str ⟨#[c]⟩) H
def aah:O1 X (p4 X.K):=by
 intro value slice A4 s σ H x y v u Q J Av Bh h AQ;obtain⟨p,xs,i,z,rfl,rfl,AW,he,q⟩:=h;cases Av;obtain⟨t,rfl⟩:=Bh;obtain⟨its,r,pl,hz⟩:=J.list AW;obtain⟨j,h1,h2,BO,D5,FN⟩:=cg he;obtain⟨w,D0,IX⟩:=r.get h2;have AF:=⇑r;have AM:=Uc;have fin:HD X A4 σ Q w s:=⟨z,H,J,IX,q⟩;by_cases h0:0<=i
 .have Ar:i.toNat=j:=by
    rw[seqIndex_of h0 FN]at h1;exact Gc h1
  exact item_listR pl.isList h0 δ (by rw[Ar];simpa using D0) fin AQ
 .have Ar:(i+(its.toArray.size:Int)).toNat=j:=by
    rw[seqIndex_neg δ D5]at h1;rw[DU,<-AF];exact Gc h1
  exact subscriptTail_builtinR (x:=w) pl.isList.typeIs slot_list_getitem.lookup
   (wpAny_getItem_list_neg (Q:=λr s'=>r=w/\HD X A4 σ Q r s') pl.isList δ (by rw[DU]<;>lia) δ (by rw[Ar];simpa using D0) ⟨rfl,fin⟩) AQ
def Sb:O1 X (p6 X.K):=by
 intro value slice A4 s σ H x y v u Q J Av Bh h AQ;obtain⟨p,xs,i,z,rfl,rfl,AW,he,q⟩:=h;cases Av;obtain⟨t,rfl⟩:=Bh;obtain⟨its,r,pl,hz⟩:=J.tuple AW;obtain⟨j,h1,h2,BO,D5,FN⟩:=cg he;obtain⟨w,D0,IX⟩:=r.get h2;have AF:=⇑r;have AM:=Uc;have fin:HD X A4 σ Q w s:=⟨z,H,J,IX,q⟩
 exact subscriptTail_builtinR (x:=w) pl.typeIs slot_tuple_getitem.lookup
  (getItem_tuple (j:=j) (Q:=λr s'=>r=w/\HD X A4 σ Q r s') pl δ δ (by rw[DU,<-AF];exact h1) (D0:) ⟨rfl,fin⟩) AQ
def aaj:O1 X p5:=by
 intro value slice A4 s σ H x y v u Q J Av Bh h AQ;obtain⟨z,i,c,rfl,rfl,hz,he,q⟩:=h;obtain⟨t,rfl⟩:=Av;obtain⟨t',rfl⟩:=Bh;obtain⟨j,h1,h2,BO,D5,FN⟩:=cg he;have AF:⇑z.cps.toList=⇑z:=by simp[Str.length]
 rw[AF]at h1 D5 FN;have AM:=Uc;exact tail_any (typeIs_str s z t) slot_str_getitem.lookup (getItem_str (c:=c) (by have AD:decide (i< -(2^63:Int))=false:=decide_eq_false δ;have AH:decide (i≥2^63)=false:=decide_eq_false δ;rw[AD,AH,Bool.or_false]) (by rw[h1];simpa using h2) ⟨.str ⟨#[c]⟩,H,J.tok _,⟨_,rfl⟩,q⟩) AQ
def g9(K:At):F0:=λx y H Q=>p4 K x y H Q\/p6 K x y H Q\/p5 x y H Q
def aai:O1 X (g9 X.K):=aah.or (Sb.or aaj)
def ace(its:↑A9)(n j:Nat)(u:A9):OM (·.setIfInBounds j u) { cls:=.type "list",data:=.seq its.toArray n }={ cls:=.type "list",data:=.seq (its.set j u).toArray n }:=by simp[OM]
theorem Inv.lst{A4:μ}{σ :St}{H:AE}{s:AS}{p:A7}{xs:↑V}(J:θ)(h:H p=↥(.lst xs)) :
  ∃(its:↑A9)(n:Nat),Vals xs its/\s.heap.get? p=some { cls:=.type "list",data:=.seq its.toArray n }/\ ⇑xs<=CO:=by
 obtain⟨z,its,n,r,e⟩:=J.Az p _ h;exact⟨its,n,r,e,z⟩
def Inv.adM{A4:μ}{σ :St}{H:AE}{s:AS}{p:A7}{xs ys:↑V}{its its':↑A9}{n X_:Nat}{f:Obj->Obj}(J:θ)(h:H p=↥(.lst xs))(ho:s.heap.get? p=some { cls:=.type "list",data:=.seq its.toArray n })(hf:f { cls:=.type "list",data:=.seq its.toArray n }={ cls:=.type "list",data:=.seq its'.toArray X_ })(r:Vals ys its')(hz:⇑ys<=CO)(t:Nat) :
  Inv X A4 σ (upd H p (.lst ys)) { s with heap:=s.heap.update p f,toks:=t }:=by
 have e:(s.heap.update p f).get? p=some { cls:=.type "list",data:=.seq its'.toArray X_ }:=by rw[Sm f ho (by rw[hf]<;>rfl),hf]
 refine J.write (x:=p) (e:=p) (by rw[h];trivial) (.inl rfl) (λb u A5 q=>(Yj _ _ (Lq A5)).trans q) ⟨_,e⟩ ?_;exact⟨hz,its',X_,r,e⟩
def pC:V->V->V->AE->(AE->Prop)->Prop:=λo i v H Q=>∃p xs k j,o=.ref p/\i=.int k/\H p=↥(.lst xs)/\Lv ⇑xs k=↥j/\Q (upd H p (.lst (xs.set j v)))
def set_list:ip X pC:=by
 intro A4 s σ H o i v CN HJ u Q J F5 ag1 Bw h;obtain⟨p,xs,k,j,rfl,rfl,AV,Ar,q⟩:=h;cases F5;obtain⟨t,rfl⟩:=ag1;obtain⟨its,n,r,ho,hz⟩:=J.lst AV;obtain⟨h1,h2,BO,D5⟩:=l0 Ar;have AF:=⇑r;have AM:=Uc;have FW:Inv X A4 σ (upd H p (.lst (xs.set j v))) { s with heap:=s.heap.update p (OM (·.setIfInBounds j u)) }:=
  J.adM AV ho (ace its n j u) (r.set Bw j) (by rw[List.length_set];exact hz) s.toks
 by_cases h0:0<=k
 .have AR:k.toNat=j:=by
    rw[seqIndex_of h0 D5]at h1;exact Gc h1
  exact PySem.W.ki_setAt ho h0 δ (by rw[DU,<-AF];exact D5) (by rw[AR];exact⟨_,FW,q⟩)
 .have AR:(k+(its.toArray.size:Int)).toNat=j:=by
    rw[seqIndex_neg δ BO]at h1;rw[DU,<-AF];exact Gc h1
  exact PySem.W.ki_setBack ho δ (by rw[DU,<-AF];exact BO) δ (by rw[AR];exact⟨_,FW,q⟩)
def ahK(lo hi:Option Int)(n:Nat):(RA lo hi none n).1=((EU.Ct n 0 lo:Nat):Int)/\(RA lo hi none n).2.1=((EU.Ct n n hi:Nat):Int)/\(RA lo hi none n).2.2=1:=by
 refine⟨?_,?_,rfl⟩
 .cases lo with
  |none=>simp[RA,EU.Ct]
  |some i=>
   erw[RA,EU.Ct,Option.getD_none,show(1:Int)>0 by decide,if_true];by_cases h:i<0
   .erw[h,if_true]<;>lia
   .erw[h,if_false]<;>lia
 .cases hi with
  |none=>simp[RA,EU.Ct]
  |some i=>
   erw[RA,EU.Ct,Option.getD_none,show(1:Int)>0 by decide,if_true];by_cases h:i<0
   .erw[h,if_true]<;>lia
   .erw[h,if_false]<;>lia
def ahJ(its:↑A9)(lo hi:Option Int):slicePick its.toArray lo hi none=((its.drop (EU.Ct ⇑its 0 lo)).take (EU.Ct ⇑its ⇑its hi-EU.Ct ⇑its 0 lo)).toArray:=by obtain⟨h1,h2,BO⟩:=ahK lo hi its.toArray.size;unfold slicePick;rw[h1,h2,BO];erw[sliceRange_one,pick_run,DU]<;>rfl
def pD(K:At):V->Option Int->Option Int->AE->CQ->Prop:=λx lo hi H Q=>∃a xs,x=.ref a/\Es K H a xs/\∀p,H p=none->Q (.ref p) (upd H p (.lst (QE xs lo hi)))
def ahG:Re X (pD X.K):=by intro A4 s σ H x v Dy Ib lo hi Bm Q J Av AQ pl pu h;obtain⟨a,xs,rfl,AJ,q⟩:=h;cases Av;obtain⟨its,r,Bc,hz⟩:=J.list AJ;have hlen:=⇑r;refine⟨"list",_,slot_list_getitem.lookup,Bc.isList.typeIs,?_⟩;refine wpAny_getItem_list_slice Bc.isList AQ pl pu .none γ ?_ (by rw[DU]<;>lia);rw[ahJ,<-hlen];refine⟨.ref s.heap.objs.size,_,J.laid (t':=s.toks) (o:=.lst (QE xs lo hi)) (λb BD q=>Cy _ q) (C1 _) ?_,rfl,q _ (J.Az.fresh (C1 _))⟩;exact⟨IG (kU xs lo hi) hz,_,0,(r.drop (EU.Ct ⇑xs 0 lo)).take (EU.Ct ⇑xs ⇑xs hi-EU.Ct ⇑xs 0 lo),Fe _ rfl⟩
def JR.or{f:A9}{r Bd:↑V->AE->CQ->Prop}(h:JR X f r)(h':JR X f Bd):JR X f (λxs H Q=>r xs H Q\/Bd xs H Q):=by
 intro A4 s σ H xs us Q J rs q;rcases q with q|q
 .exact h A4 s σ H xs us Q J rs q
 .exact h' A4 s σ H xs us Q J rs q
def vF:JR X (.type "list") (λxs H Q=>∃p ys,xs=[.ref p]/\(Es X.K H p ys\/Et X.K H p ys)/\∀l,H l=none->Q (.ref l) (upd H l (.lst ys))):=by
 intro A4 s σ H xs us Q J r h;obtain⟨p,ys,rfl,AW,q⟩:=h;obtain⟨u,rfl,Av⟩:=vals1 r;cases Av
 have fin:∀(its:↑A9),Vals ys its->⇑ys<=CO->∀(h':BF)(Dq:Nat),(∀b o',s.heap.get? b=↥o'->h'.get? b=↥o')->
   h'.get? s.heap.objs.size=some { cls:=.type "list",dict:=none,data:=.seq its.toArray Dq,slots:= #[] }->HD X A4 σ Q (.ref s.heap.objs.size) { s with heap:=h' }:=λits Bd hz h' Dq Bf e=>
  ⟨.ref s.heap.objs.size,_,J.laid (t':=s.toks) Bf (C1 _) (show Dp X.prog X.w _ h' _ (.lst ys)from⟨hz,its,Dq,Bd,e⟩),rfl,q _ (J.Az.fresh (C1 _))⟩
 rcases AW with AW|AW
 .obtain⟨its,Bd,pl,hz⟩:=J.list AW;have hlen:=⇑Bd;obtain⟨o,ho,AI,n,hd⟩:=pl.isList;exact call_list_seq p (.inl rfl) ho AI hd (λh' Dq Bf e=>fin its Bd hz h' Dq Bf e) (by erw[DU]<;>lia)
 .obtain⟨its,Bd,pl,hz⟩:=J.tuple AW;have hlen:=⇑Bd;obtain⟨o,ho,AI,n,hd⟩:=pl;exact call_list_seq p (.inr rfl) ho AI hd (λh' Dq Bf e=>fin its Bd hz h' Dq Bf e) (by erw[DU]<;>lia)
def wN:JR X (.type "tuple") (λxs H Q=>∃p ys,xs=[.ref p]/\((Es X.K H p ys/\∀l,H l=none->Q (.ref l) (upd H l (.tup ys)))\/(Et X.K H p ys/\Q (.ref p) H))):=by
 intro A4 s σ H xs us Q J r h;obtain⟨p,ys,rfl,h⟩:=h;obtain⟨u,rfl,Av⟩:=vals1 r;cases Av;rcases h with⟨AW,q⟩|⟨AW,q⟩
 .obtain⟨its,Bd,pl,hz⟩:=J.list AW;have hlen:=⇑Bd;refine call_tuple_list pl.isList (λh' Bf=>?_) (by erw[DU]<;>lia);have Ac:Inv X A4 σ H { s with heap:=h' }:=J.kept (t':=s.toks) Bf;have BW:Inv X A4 σ (upd H h'.objs.size (.tup ys)) { s with heap:=h'.push { cls:=.type "tuple",data:=.seq its.toArray } }:=
   Ac.laid (t':=s.toks) (λb o e=>Cy _ e) (C1 _) (show Dp X.prog X.w _ _ _ (.tup ys)from⟨hz,its,Bd,IsTup.new _ _⟩)
  exact⟨.ref h'.objs.size,_,BW,rfl,q _ (Ac.Az.fresh (C1 _))⟩
 .obtain⟨its,Bd,pl,hz⟩:=J.tuple AW;exact call_tuple_same pl ⟨.ref p,H,J,rfl,q⟩
def hQ(K:At)(T:String)(x:V)(H:AE):Prop:=match x with
 |.str _=>T="str"
 |.int _=>T="int"
 |.ref p=>(T="list"/\∃xs,Es K H p xs)\/(T="tuple"/\∃o,K.lookup p=↥o/\o.cls=.type "tuple"/\o.dict=none)\/
     (T="dict"/\((∃AA,H p=↥(.Al AA))\/∃AA,H p=↥(.ED AA)))\/(T="set"/\∃S n,H p=↥(.set S n))
 |_=>False
def rT{A4:μ}{σ :St}{H:AE}{s:AS}{T:String}{x:V}{v:A9}(J:θ)(r:RelV x v)(ty:hQ X.K T x H) :
  s.TypeIs v T/\∀a,v=.ref a->∃BD,s.heap.get? a=↥BD/\BD.dict=none:=by
 cases x with
 |str z=>obtain⟨t,rfl⟩:=r;cases(show T="str" from ty);exact⟨typeIs_str s z t,λ_ e=>nomatch e⟩
 |int i=>obtain⟨t,rfl⟩:=r;cases(show T="int" from ty);exact⟨typeIs_int s i t,λ_ e=>nomatch e⟩
 |ref p=>
  cases r;rcases ty with⟨rfl,xs,AW⟩|⟨rfl,o,AR,AI,hd⟩|⟨rfl,AR⟩|⟨rfl,S,n,AR⟩
  .obtain⟨its,_,pl,_⟩:=J.list AW;refine⟨pl.isList.typeIs,λa e=>?_⟩;cases e;obtain⟨o,n,e,c,hd,_⟩:=pl;exact⟨o,e,hd⟩
  .refine⟨⟨o,J.FP p o AR,AI⟩,λa e=>?_⟩;cases e;exact⟨o,J.FP _ o AR,hd⟩
  .have z:∃o,s.heap.get? p=↥o/\o.ExactDict:=by
     rcases AR with⟨AA,AR⟩|⟨AA,AR⟩
     .obtain⟨_,_,_,_,o,_,_,e,ex,_⟩:=J.Az p _ AR;exact⟨o,e,ex⟩
     .obtain⟨_,_,_,_,o,_,_,e,ex,_⟩:=J.Az p _ AR;exact⟨o,e,ex⟩
   obtain⟨o,e,ex⟩:=z;refine⟨⟨o,e,ex.1⟩,λa AH=>?_⟩;cases AH;exact⟨o,e,ex.2.1⟩
  .obtain⟨o,_,_,_,e,ex,_⟩:=J.Az p _ AR;refine⟨⟨o,e,ex.1⟩,λa AH=>?_⟩;cases AH;exact⟨o,e,ex.2.1⟩
 |_=>exact Hi ty
noncomputable def sP(K:At)(T:String)(r:V->↑V->AE->CQ->Prop)(to:TE):TE:=λσ H Q=>to σ H λx H1=>hQ K T x H1/\r x [] H1 Q
noncomputable def sO(K:At)(T:String)(r:V->↑V->AE->CQ->Prop)(to:TE)(t:Fu):TE:=λσ H Q=>to σ H λx H1=>hQ K T x H1/\t σ H1 λxs AU=>r x xs AU Q
variable{o e:Ah}{es:↑Ah}{to:TE}{t:Fu}{name:Str}{apos Cg:Pos}{T id:String}{r:V->↑V->AE->CQ->Prop}
def gh(X9:PlainAttrs T)(slot:Slot T name id)(fV:typeOf (.builtin id)=pure (.type "method_descriptor"))(hm:Q2 X id r)(ho:Af X o to)(dZ:JM o name X.env (BM o X.env)=BM o X.env:=by rfl)(fK:(apos.endLine==Cg.line)=true:=by rfl):Af X (.Call (.Attribute o name apos) [] [] Cg) (sP X.K T r to):=by intro A4 s σ H Q J h;refine wpAny_Call_method0_late dZ fK (BV (ho A4 s σ H _ J h) λv s1⟨x,H1,Ac,Ax,ty,q1⟩=>?_);obtain⟨h1,h2⟩:=rT Ac Ax ty;exact⟨T,id,X9,slot,fV,h1,h2,Sg rfl (hp (hm A4 s1 σ H1 x [] v [] Q Ac Ax .nil q1))⟩
def gg (X9:PlainAttrs T) (slot:Slot T name id) (fV:typeOf (.builtin id)=pure (.type "method_descriptor")) (hm:Q2 X id r) (ho:Af X o to) (AG:HG X (e::es) t)(dZ:JM o name X.env (BM o X.env)=BM o X.env:=by rfl)(yz:((F8 Cg (C8 (e::es) X.env)).all (λx=>!x.1)&&(Jp Cg (Jh [] X.env)).all (λx=>x.1.isSome)
    &&decide (⇑(e::es)+⇑([]:↑Jo)+(if([]:↑Jo).isEmpty then 0 else 1)<30))=true:=by rfl)
  (fK:(apos.endLine==Cg.line)=true:=by rfl) (AQ:C8 (e::es) X.env=(false,BM e X.env)::C8 es X.env:=by rfl) (aaJ:(F8 Cg (C8 es X.env)).any (·.1)=false:=by rfl) :
  Af X (.Call (.Attribute o name apos) (e::es) [] Cg) (sO X.K T r to t):=by
 intro A4 s σ H Q J h;refine wpAny_Call_method_late dZ yz fK rfl (BV (ho A4 s σ H _ J h) λv s1⟨x,H1,Ac,Ax,ty,q1⟩=>?_);obtain⟨h1,h2⟩:=rT Ac Ax ty;refine⟨T,id,X9,slot,fV,h1,h2,?_⟩;have H6:=AG Cg A4 s1 σ H1 _ Ac q1;rw[AQ]at H6 |-;refine Sg (by show(false||(F8 Cg (C8 es X.env)).any (·.1))=false;rw[aaJ]<;>rfl) (Z4 ?_);exact BV H6 λus s2⟨vs,AU,BW,BK,q2⟩=>hm A4 s2 σ AU x vs v us Q BW Ax BK q2
end
def RY(X:Aq)(id:String)(r:V->↑V->AE->CQ->Prop):Prop:=
 ∀(A4:μ)(s:AS)(σ :St)(H:AE)(x:V)(xs:↑V)(v:A9)(us:↑A9)(Q:CQ),θ->RelV x v->Vals xs us->r x xs H Q->
  An ξ X.A (call (.builtin id) (v::us)) (HD X A4 σ Q) X.DB s
def Vals.one:∀{x:V}{us:↑A9},Vals [x] us->∃u,us=[u]/\RelV x u
 |_,_,.cons r .nil=>⟨_,rfl,r⟩
def Vals.two:∀{x y:V}{us:↑A9},Vals [x,y] us->∃u v,us=[u,v]/\RelV x u/\RelV y v
 |_,_,_,.cons r (.cons q .nil)=>⟨_,_,rfl,r,q⟩
def Vals.zero:∀{us:↑A9},Vals [] us->us=[]
 |_,.nil=>rfl
theorem Vals.dropLast{xs:↑V}{us:↑A9}(h:Vals xs us):Vals xs.dropLast us.dropLast:=by
 induction h with
 |nil=>exact .nil
 |cons r t CI=>
  cases t with
  |nil=>exact .nil
  |cons q t'=>exact .cons r CI
theorem Vals.eraseIdx:∀{xs:↑V}{us:↑A9}(i:Nat),Vals xs us->Vals (xs.eraseIdx i) (us.eraseIdx i)
 |_,_,_,.nil=>.nil
 |_,_,0,.cons _ t=>t
 |_,_,i+1,.cons r t=>.cons r (Vals.eraseIdx i t)
theorem Vals.reverse{xs:↑V}{us:↑A9}(h:Vals xs us):Vals xs.reverse us.reverse:=by
 induction h with
 |nil=>exact .nil
 |cons r t CI=>rw[Yz,Yz];exact Vals.append CI (.cons r .nil)
theorem Vals.rep{xs:↑V}{us:↑A9}(h:Vals xs us):∀k:Nat,Vals (Gd k xs).flatten (Gd k us).flatten
 |0=>.nil
 |k+1=>by rw[R2,R2,Pd,Pd];exact Vals.append h (Vals.rep h k)
def xV{α:Type}(l:↑α):l.eraseIdx (⇑l-1)=l.dropLast:=by
 induction l with
 |nil=>rfl
 |cons a r CI=>
  cases r with
  |nil=>rfl
  |cons b r=>
   have e:⇑(a::b::r)-1=(⇑(b::r)-1)+1:=by have h1:⇑(a::b::r)=⇑r+2:=rfl;have h2:⇑(b::r)=⇑r+1:=rfl;lia
   rw[e,tu,CI]
   all_goals rfl
theorem n8{α:Type}:∀(l:↑α)(i:Nat),⇑(l.eraseIdx i)<=⇑l
 |[],_=>C1 _
 |_::_,0=>OP _
 |_::r,i+1=>Nat.succ_le_succ (n8 r i)
theorem foldl_rep(its:↑A9):∀(k:Nat)(acc:↑A9),
  List.foldl (λCu Ca=>Cu++Ca) acc.toArray (Gd k its.toArray)=(acc++(Gd k its).flatten).toArray
 |0,acc=>γ
 |k+1,acc=>by
  have e:acc.toArray++its.toArray=(acc++its).toArray:=γ
  have AH:(acc++its)++(Gd k its).flatten=acc++(Gd (k+1) its).flatten:=by rw[R2,Pd,ET]
  rw[<-AH,<-foldl_rep its k (acc++its),<-e,R2,List.foldl_cons]
section
variable{X:Aq}{A4:μ}{σ :St}{H:AE}{s:AS}{l b:A7}{xs ys zs:↑V}
def Inv.Rx{its its':↑A9}{n:Nat}{f:Array A9->Array A9}{t':Nat}(J:θ)(GM:H l=↥(.lst xs))(e:s.heap.get? l=some { cls:=.type "list",data:=.seq its.toArray n })(hf:f its.toArray=its'.toArray)(Bg:Vals ys its')(hz:⇑ys<=CO) :
  Inv X A4 σ (upd H l (.lst ys)) { s with heap:=s.heap.update l (OM f),toks:=t' }:=by
 have q:=PySem.IsL.update e f;rw[hf]at q;refine J.write (x:=l) (e:=l) (by rw[GM];exact trivial) (.inl rfl) (λHm u A5 BR=>(Yj s.heap (OM f) (Lq A5)).trans BR) ⟨_,q⟩ ?_;exact⟨hz,its',_,Bg,q⟩
def Inv.eX{its:↑A9}{t':Nat}(J:θ)(Bg:Vals ys its)(hz:⇑ys<=CO) :
  Inv X A4 σ (upd H s.heap.objs.size (.lst ys)) { s with heap:=s.heap.push { cls:=.type "list",data:=.seq its.toArray },toks:=t' }:=
 J.laid (λ_ _ q=>Cy _ q) (C1 _) ⟨hz,its,0,Bg,Fe _ rfl⟩
theorem Inv.fresh(J:θ):H s.heap.objs.size=none:=J.Az.fresh (C1 _)
def Inv.My(J:θ)(GM:H l=↥(.lst xs)):⇑xs<=CO/\∃(its:↑A9)(n:Nat),Vals xs its/\ ⇑xs=⇑its/\s.heap.get? l=some { cls:=.type "list",data:=.seq its.toArray n }:=by obtain⟨z,its,n,r,e⟩:=J.Az l _ GM;exact⟨z,its,n,r,⇑r,e⟩
def nj{n:Nat}(h:n<=CO):Yo n=false:=by unfold Yo;exact decide_eq_false δ
end
section
variable{X:Aq}
def ow:V->List V->AE->CQ->Prop:=λx vs H Q=>∃l xs y,x=.ref l/\vs=[y]/\H l=some (.lst xs)/\ ⇑xs<CO/\Q .non (upd H l (.lst (xs++[y])))
theorem mV:RY X "list.append" ow:=by intro A4 s σ H x vs v us Q J Av Bw h;obtain⟨l,xs,y,rfl,rfl,GM,hz,q⟩:=h;cases Av;obtain⟨u,rfl,Fb⟩:=Bw.one;obtain⟨z,its,n,r,AF,e⟩:=J.My GM;refine ON F.slot_list_append ⟨_,e,rfl⟩ F.entry_list_append (F.args_list_append_2 _ _) (PySem.list_append l its.toArray n u (by rw[DU];lia)) ⟨e,?_⟩;refine⟨.non,_,J.Rx (its':=its++[u]) GM e γ (r.append (.cons Fb .nil)) ?_,rfl,q⟩;rw[EM,tZ];lia
def afm:V->List V->AE->CQ->Prop:=λx vs H Q=>∃l b xs zs,x=.ref l/\vs=[.ref b]/\H l=some (.lst xs)/\H b=some (.lst zs)/\ ⇑xs+⇑zs<=CO/\Q .non (upd H l (.lst (xs++zs)))
theorem akg:RY X "list.extend" afm:=by
 intro A4 s σ H x vs v us Q J Av Bw h;obtain⟨l,b,xs,zs,rfl,rfl,GM,GV,hz,q⟩:=h;cases Av;obtain⟨u,rfl,Fb⟩:=Bw.one;cases Fb;obtain⟨z,its,n,r,AF,e⟩:=J.My GM;obtain⟨F6,HI,FQ,BK,QN,AH⟩:=J.My GV;have hsz:its.toArray.size+HI.toArray.size<=CO:=by rw[DU,DU];lia
 have fL:¬(!its.toArray.isEmpty&&Yo (its.toArray.size+HI.toArray.size))=true:=by rw[nj hsz,V3];exact L4
 refine ON F.slot_list_extend ⟨_,e,rfl⟩ F.entry_list_extend (F.args_list_extend_2 _ _)
  (AutoSeq1.list_extend_list_list_0 l its.toArray n b HI.toArray FQ fL (by rw[DU];lia) δ) ⟨e,AH,?_⟩
 refine⟨.non,_,J.Rx (its':=its++HI) GM e γ (r.append BK) ?_,rfl,q⟩;rw[EM];lia
def p8:V->↑V->AE->CQ->Prop:=λx vs H Q=>∃l xs y,x=.ref l/\vs=[]/\H l=↥(.lst xs)/\xs[⇑xs-1]?=↥y/\Q y (upd H l (.lst xs.dropLast))
theorem mW:RY X "list.pop" p8:=by
 intro A4 s σ H x vs v us Q J Av Bw h;obtain⟨l,xs,y,rfl,rfl,GM,AP,q⟩:=h;cases Av;have Wm:=Bw.zero;subst Wm;obtain⟨z,its,n,r,AF,e⟩:=J.My GM;obtain⟨u,BR,Fb⟩:=r.get AP;have Mt:its.toArray[its.toArray.size-1]?=↥u:=by show its.toArray[⇑its-1]?=↥u;rw[<-Z3,<-AF];exact BR
 refine ON F.slot_list_pop ⟨_,e,rfl⟩ F.entry_list_pop (F.args_list_pop_1 _) (MeetsSeq.list_pop_last l its.toArray n u Mt (by rw[DU];lia)) ⟨e,?_⟩;refine⟨y,_,J.Rx (its':=its.dropLast) GM e ?_ r.dropLast ?_,Fb,q⟩
 .show its.toArray.eraseIdxIfInBounds (its.toArray.size-1)=its.dropLast.toArray;rw[DU,tE,xV]
 .rw[List.length_dropLast];lia
def p9:V->↑V->AE->CQ->Prop:=λx vs H Q=>∃l xs i k y,x=.ref l/\vs=[.int i]/\H l=↥(.lst xs)/\-(2^63)<=i/\i<2^63/\Su i ⇑xs=↥k/\xs[k]?=↥y/\Q y (upd H l (.lst (xs.eraseIdx k)))
theorem lu:RY X "list.pop" p9:=by
 intro A4 s σ H x vs v us Q J Av Bw h;obtain⟨l,xs,i,k,y,rfl,rfl,GM,h1,h2,AR,AP,q⟩:=h;cases Av;obtain⟨u,rfl,Fb⟩:=Bw.one;obtain⟨t,rfl⟩:=Fb;obtain⟨z,its,n,r,AF,e⟩:=J.My GM;obtain⟨w,hw,IX⟩:=r.get AP
 refine ON F.slot_list_pop ⟨_,e,rfl⟩ F.entry_list_pop (F.args_list_pop_2 _ _)
  (MeetsSeq.list_pop_at l its.toArray n i t k w (fitsIndex_both h1 h2) (by rw[DU,<-AF];exact AR) (by rw[<-Z3];exact hw) (by rw[DU];lia)) ⟨e,?_⟩
 refine⟨y,_,J.Rx (its':=its.eraseIdx k) GM e ?_ (r.eraseIdx k) ?_,IX,q⟩
 .show its.toArray.eraseIdxIfInBounds k=(its.eraseIdx k).toArray;rw[tE]
 .have:=n8 xs k;lia
def pB:V->↑V->AE->CQ->Prop:=λx vs H Q=>∃l xs,x=.ref l/\vs=[]/\H l=↥(.lst xs)/\Q .non (upd H l (.lst xs.reverse))
theorem acs:RY X "list.reverse" pB:=by intro A4 s σ H x vs v us Q J Av Bw h;obtain⟨l,xs,rfl,rfl,GM,q⟩:=h;cases Av;have Wm:=Bw.zero;subst Wm;obtain⟨z,its,n,r,AF,e⟩:=J.My GM;refine ON F.slot_list_reverse ⟨_,e,rfl⟩ F.entry_list_reverse (F.args_list_reverse_1 _) (AutoSeq1.list_reverse_list_0 l its.toArray n (by rw[DU];lia)) ⟨e,?_⟩;refine⟨.non,_,J.Rx (its':=its.reverse) GM e γ r.reverse ?_,rfl,q⟩;rw[List.length_reverse];lia
def p0:V->↑V->AE->CQ->Prop:=λx vs H Q=>∃l xs,x=.ref l/\vs=[]/\H l=↥(.lst xs)/\Q .non (upd H l (.lst []))
theorem acq:RY X "list.clear" p0:=by intro A4 s σ H x vs v us Q J Av Bw h;obtain⟨l,xs,rfl,rfl,GM,q⟩:=h;cases Av;have Wm:=Bw.zero;subst Wm;obtain⟨z,its,n,r,AF,e⟩:=J.My GM;refine ON F.slot_list_clear ⟨_,e,rfl⟩ F.entry_list_clear (F.args_list_clear_1 _) (AutoSeq1.list_clear_list_0 l its.toArray n (by rw[DU];lia)) ⟨e,?_⟩;exact⟨.non,_,J.Rx (its':=[]) (ys:=[]) GM e rfl .nil (IC _),rfl,q⟩
def oy:F0:=λx y H Q=>∃l b xs zs,x=.ref l/\y=.ref b/\H l=↥(.lst xs)/\H b=↥(.lst zs)/\ ⇑xs+⇑zs<=CO/\∀p,H p=none->Q (.ref p) (upd H p (.lst (xs++zs)))
def adz:Dt X (Jn .Add) oy:=by
 intro A4 s σ H x y v u Q J Av Bh h;obtain⟨l,b,xs,zs,rfl,rfl,GM,GV,hz,q⟩:=h;cases Av;cases Bh;obtain⟨z,its,n,r,AF,e⟩:=J.My GM;obtain⟨F6,HI,FQ,BK,QN,AH⟩:=J.My GV;refine PySem.P.add_list e AH ?_ (by rw[DU,DU];lia);have BS:its.toArray++HI.toArray=(its++HI).toArray:=γ
 rw[BS];exact⟨.ref _,_,J.eX (t':=s.toks) (r.append BK) (by rw[EM];lia),rfl,q _ J.fresh⟩
def pA:F0:=λx y H Q=>∃l k xs,x=.ref l/\y=.int k/\H l=↥(.lst xs)/\-(2^63)<=k/\k<2^63/\ ⇑xs*k.toNat<=CO/\
 ∀p,H p=none->Q (.ref p) (upd H p (.lst (Gd k.toNat xs).flatten))
def len_rep{α:Type}(xs:↑α)(k:Nat):(Gd k xs).flatten.length=k*⇑xs:=by
 induction k with
 |zero=>simp
 |succ k CI=>rw[R2,Pd,EM,CI,Nat.succ_mul,Nat.add_comm]
theorem ae5:Dt X (Jn .Mult) pA:=by
 intro A4 s σ H x y v u Q J Av Bh h;obtain⟨l,k,xs,rfl,rfl,GM,h1,h2,hz,q⟩:=h;cases Av;obtain⟨t,rfl⟩:=Bh;obtain⟨z,its,n,r,AF,e⟩:=J.My GM;have hlen:its.toArray.size*k.toNat<=CO:=by rw[DU,<-AF];exact hz
 have yq:¬its.toArray.size*k.toNat>(2^63-1)/8:=by
  have:(CO:Nat)<=(2^63-1)/8:=ε
  lia
 have z0:¬(!Builtin.List.listFitsIndex k)=true:=by rw[fitsIndex_both h1 h2];exact L4
 have fL:¬Yo (its.toArray.size*k.toNat)=true:=by rw[nj hlen];exact L4
 have aa7:List.foldl (λCu Ca=>Cu++Ca) #[] (Gd (if its.toArray.isEmpty=true then 0 else k.toNat) its.toArray)=(Gd k.toNat its).flatten.toArray:=by
  have f0:∀m:Nat,List.foldl (λCu Ca=>Cu++Ca) #[] (Gd m its.toArray)=(Gd m its).flatten.toArray:=λm=>by have:=foldl_rep its m [];rw[NF]at this;exact this
  rw[f0];cases its with
  |nil=>simp
  |cons a Bd=>rw[if_neg γ]
 refine wpAny_binaryOp_repeat_ref (T:="list") (U:="int") ε ⟨_,e,rfl⟩ (λs'=>typeIs_int s' k t) noFill_list_mul F.fills_int_mul F.slot_int_rmul repeat_list F.slot_int_index.lookup
  (ON F.slot_int_rmul (typeIs_int s k t) F.entry_int_rmul (F.args_int_rmul_2 _ _) (int___rmul___int_list k t l its.toArray n)
    ⟨e,rfl,⟨_,e,rfl⟩,ON F.slot_list_mul ⟨_,e,rfl⟩ F.entry_list_mul (F.args_list_mul_2 _ _) (AutoListH.list___mul___list_int_3 l its.toArray n k t z0 yq fL) ⟨e,?_⟩⟩)
 rw[aa7];exact⟨.ref _,_,J.eX (t':=s.toks) (r.rep k.toNat) (by rw[len_rep,Nat.mul_comm];exact hz),rfl,q _ J.fresh⟩
end
section
variable{prog:C9}{w:Bl}{A:DE}{E:A9->AS->Prop}{s:AS}
end
section
variable{X:Aq}
end
section
variable{Bt:Type}[DecidableEq Bt]
noncomputable def Hy(AA:↑(Bt×V))(k:Bt):Option V:=(AA.find? λBv=>decide (Bv.1=k)).map (·.2)
noncomputable def putK(AA:↑(Bt×V))(k:Bt)(v:V):↑(Bt×V):=
 if(AA.any λBv=>decide (Bv.1=k))=true then AA.map (λBv=>if Bv.1=k then(Bv.1,v)else Bv)else AA++[(k,v)]
noncomputable def Mk(AA:↑(Bt×V))(k:Bt):↑(Bt×V):=AA.filter λBv=>decide (Bv.1≠k)
def aiI{k:Bt}:Hy ([]:↑(Bt×V)) k=none:=rfl
def Xl{p:Bt×V}{r:↑(Bt×V)}{k:Bt}(e:p.1=k):Hy (p::r) k=↥p.2:=by simp[Hy,Qz,e]
def Xk{p:Bt×V}{r:↑(Bt×V)}{k:Bt}(e:¬p.1=k):Hy (p::r) k=Hy r k:=by simp[Hy,Qz,e]
theorem sr(k:Bt):∀AA:↑(Bt×V),(AA.any λBv=>decide (Bv.1=k))=(Hy AA k).isSome
 |[]=>rfl
 |p::r=>by
  rw[iO];by_cases e:p.1=k
  .erw[Xl e,decide_eq_true e,Bool.true_or,u6]
  .rw[Xk e,decide_eq_false e,iP];exact sr k r
def fC(AA:↑(Bt×V))(k:Bt)(v:V):⇑(putK AA k v)<=⇑AA+1:=by
 unfold putK
 split
 .rw[Ch];lia
 .rw[EM,DV,FK];lia
def IL.UY{o:Option V}{u:Option A9}(r:IL o u):o.isSome=u.isSome:=by
 cases o with
 |none=>cases u with
  |none=>rfl
  |some _=>exact(show False from r).elim
 |some _=>cases u with
  |none=>exact(show False from r).elim
  |some _=>rfl
theorem IL.getD{o:Option V}{u:Option A9}{d:V}{d':A9}(r:IL o u)(IW:RelV d d'):RelV (o.getD d) (u.getD d'):=by
 cases o with
 |none=>cases u with
  |none=>exact IW
  |some _=>exact(show False from r).elim
 |some _=>cases u with
  |none=>exact(show False from r).elim
  |some _=>exact r
def Em.val{AA:↑(Bt×V)}{vs:↑(Bt×A9)}(r:Em AA vs)(k:Bt):IL (Hy AA k) (Pl vs k):=by
 unfold Em at r;induction r with
 |nil=>exact ID
 | @cons p q ps Cr h t CI=>
   obtain⟨h1,h2⟩:=h;by_cases e:p.1=k
   .have Bb:q.1=k:=h1.symm.trans e;have b:Pl (q::Cr) k=↥q.2:=by simp[Pl,Qz,Bb]
    rw[Xl e,b];exact h2
   .have Bb:¬q.1=k:=λz=>e (h1.trans z);have b:Pl (q::Cr) k=Pl Cr k:=by simp[Pl,Qz,Bb]
    rw[Xk e,b];exact CI
theorem Em.any{AA:↑(Bt×V)}{vs:↑(Bt×A9)}(r:Em AA vs)(k:Bt):(AA.any λBv=>decide (Bv.1=k))=vs.any λBv=>decide (Bv.1=k):=by
 unfold Em at r;induction r with
 |nil=>rfl
 |cons h t CI=>rw[iO,iO,CI,h.1]
def Em.gD{AA:↑(Bt×V)}{vs:↑(Bt×A9)}(r:Em AA vs)(k:Bt){y:V}{u:A9}(Bh:RelV y u) :
  Em (AA.map λBv=>if Bv.1=k then(Bv.1,y)else Bv) (vs.map λBv=>if Bv.1=k then(Bv.1,u)else Bv):=by
 unfold Em at r |-;induction r with
 |nil=>exact .nil
 | @cons p q ps Cr h t CI=>
   rw[DC,DC];refine .cons ?_ CI;obtain⟨h1,h2⟩:=h;by_cases e:p.1=k
   .rw[if_pos e,if_pos (h1.symm.trans e)];exact⟨h1,Bh⟩
   .rw[if_neg e,if_neg (λz=>e (h1.trans z))];exact⟨h1,h2⟩
def Em.put{AA:↑(Bt×V)}{vs:↑(Bt×A9)}(r:Em AA vs)(k:Bt){y:V}{u:A9}(Bh:RelV y u):Em (putK AA k y) (stored vs k u):=by
 unfold putK stored;rw[r.any k];by_cases e:(vs.any λBv=>decide (Bv.1=k))=true
 .rw[if_pos e,if_pos e];exact r.gD k Bh
 .rw[if_neg e,if_neg e];exact Paired.snoc r ⟨rfl,Bh⟩
def Em.drop{AA:↑(Bt×V)}{vs:↑(Bt×A9)}(r:Em AA vs)(k:Bt):Em (Mk AA k) (without vs k):=by
 unfold Em at r |-;unfold Mk without;induction r with
 |nil=>exact .nil
 | @cons p q ps Cr h t CI=>
   obtain⟨h1,h2⟩:=h;rw[Qw,Qw];by_cases e:p.1=k
   .have a:¬decide (p.1≠k)=true:=by simp[e]
    have b:¬decide (q.1≠k)=true:=by simp[h1.symm.trans e]
    rw[if_neg a,if_neg b];exact CI
   .have Bb:¬q.1=k:=λz=>e (h1.trans z);have a:decide (p.1≠k)=true:=by simp[e]
    have b:decide (q.1≠k)=true:=by simp[Bb]
    rw[if_pos a,if_pos b];exact .cons ⟨h1,h2⟩ CI
theorem Em.length{AA:↑(Bt×V)}{vs:↑(Bt×A9)}(r:Em AA vs):⇑AA=⇑vs:=Paired.length r
def km(AA:↑(Bt×V))(k:Bt):⇑(Mk AA k)<=⇑AA:=List.length_filter_le _ _
end
def Ow{P:C9}{w:Bl}{k:Key}{u:A9}(r:RelV (Cj k) u):(Gm P w).is k u=true:=by
 cases k with
 |inl i=>obtain⟨t,e⟩:=(show ∃t,u=Sv i t from r);subst e;exact acj P w i t
 |inr x=>obtain⟨t,e⟩:=(show ∃t,u=Sw x t from r);subst e;exact ack P w x t
theorem kx{P:C9}{w:Bl}:∀{AK:↑Key}{us:↑A9},Vals (AK.map Cj) us->ItemsAre (Gm P w) AK us
 |[],_,r=>by rw[I1]at r;cases r;exact .nil
 |k::AK,_,r=>by
  rw[DC]at r;cases r with
  |cons h t=>exact .cons (Ow h) (kx t)
abbrev KT(H:AE):↑(FC×V)->↑(FC×A7×A9)->Prop:=Paired λp q=>p.1=q.1/\PE H p.1 q.2.1/\RelV p.2 q.2.2
def KT.val{H:AE}{AA:↑(FC×V)}{xs:↑(FC×A7×A9)}(r:KT H AA xs)(k:FC):IL (Hy AA k) ((atKey xs k).map (·.2)):=by
 induction r with
 |nil=>exact ID
 | @cons p q ps Cr h t CI=>
   obtain⟨h1,_,h2⟩:=h;by_cases e:p.1=k
   .have Bb:q.1=k:=h1.symm.trans e;have b:atKey (q::Cr) k=↥q.2:=by simp[atKey,Qz,Bb]
    rw[Xl e,b];exact h2
   .have Bb:¬q.1=k:=λz=>e (h1.trans z);have b:atKey (q::Cr) k=atKey Cr k:=by simp[atKey,Qz,Bb]
    rw[Xk e,b];exact CI
def KT.gD{H:AE}{AA:↑(FC×V)}{xs:↑(FC×A7×A9)}(r:KT H AA xs)(k:FC){y:V}{u:A9}(Bh:RelV y u) :
  KT H (AA.map λBv=>if Bv.1=k then(Bv.1,y)else Bv) (xs.map (putAt k u)):=by
 induction r with
 |nil=>exact .nil
 | @cons p q ps Cr h t CI=>
   rw[DC,DC];refine .cons ?_ CI;obtain⟨h1,h2,BO⟩:=h;unfold putAt;by_cases e:p.1=k
   .rw[if_pos e,if_pos (h1.symm.trans e)];exact⟨h1,h2,Bh⟩
   .rw[if_neg e,if_neg (λz=>e (h1.trans z))];exact⟨h1,h2,BO⟩
def KT.put{H:AE}{AA:↑(FC×V)}{xs:↑(FC×A7×A9)}(r:KT H AA xs)(k:FC){b:A7}{y:V}{u:A9}(A5:PE H k b)(Bh:RelV y u) :
  KT H (putK AA k y) (storedH xs k b u):=by
 have e:(AA.any λBv=>decide (Bv.1=k))=(atKey xs k).isSome:=by rw[sr,(r.val k).UY,hg]
 unfold putK storedH;rw[e];by_cases q:(atKey xs k).isSome=true
 .rw[if_pos q,if_pos q];exact r.gD k Bh
 .rw[if_neg q,if_neg q];exact Paired.snoc r ⟨rfl,A5,Bh⟩
def KT.keeps{H AB:AE}{AA:↑(FC×V)}{xs:↑(FC×A7×A9)}(r:KT H AA xs)(Bc:∀b ys,H b=↥(.tup ys)->AB b=↥(.tup ys)):KT AB AA xs:=
 Paired.ef r λ_ _ z=>⟨z.1,Bc _ _ z.2.1,z.2.2⟩
section
variable{P:C9}{w:Bl}{K:At}{H:AE}{h:BF}{a:A7}
def oS{u:FR}(ok:FA P w H h)(e:Kr H a u):Dp P w H h a u:=e.ok ok
def O7{AA:↑(Key×V)}(ok:FA P w H h)(e:Kr H a (.Al AA)):⇑AA<=CO/\(a==KO)=false/\∃vs,Em AA vs/\h.DictOf (Gm P w) a vs:=
 show Dp P w H h a (.Al AA)from oS ok e
def Ob{AA:↑(Key×V)}(ok:FA P w H h)(e:H a=↥(.Al AA)):⇑AA<=CO/\(a==KO)=false/\∃vs,Em AA vs/\h.DictOf (Gm P w) a vs:=O7 ok (.inl e)
def Rs{AK:↑Key}(ok:FA P w H h)(e:H a=↥(.tup (AK.map Cj))):(tupleKind (Gm P w)).is h AK a:=by obtain⟨_,its,r,o,h1,h2,n,BO⟩:=(show Dp P w H h a (.tup (AK.map Cj))from ok a _ e);exact⟨o,its.toArray,n,h1,h2,BO,(kx r:)⟩
def RL{AA:↑(FC×V)}(ok:FA P w H h)(e:Kr H a (.ED AA)):⇑AA<=CO/\(a==KO)=false/\
  ∃xs,KT H AA xs/\h.DictOfH (tupleKind (Gm P w)) a xs:=by
 obtain⟨z,y,xs,r,o,es,Ao,h1,h2,BO,D5,FN⟩:=(show Dp P w H h a (.ED AA)from oS ok e);refine⟨z,y,xs,r,o,es,Ao,h1,h2,BO,D5,λx AJ=>?_,FN⟩;have all:∀{l:↑(FC×V)}{m:↑(FC×A7×A9)},KT H l m->∀x∈m,OO (Gm P w) h x.1 x.2.1:=by
  intro l m q;induction q with
  |nil=>intro x AJ;exact nomatch AJ
  | @cons p q ps Cr AW t CI=>
    intro x AJ;rcases List.mem_cons.mp AJ with e|AJ
    .subst e;exact Rs ok (by rw[<-AW.1];exact AW.2.1)
    .exact CI x AJ
 exact all r x AJ
end
def JS(H:AE)(a:A7)(y:V)(r:Option V):Prop:=
 (∃AA k,Kr H a (.Al AA)/\y=Cj k/\r=Hy AA k)\/∃AA k b,Kr H a (.ED AA)/\y=.ref b/\PE H k b/\r=Hy AA k
def Q0(H:AE)(a:A7)(y v:V)(AB:AE):Prop:=
 (∃AA k,H a=↥(.Al AA)/\y=Cj k/\ ⇑AA<CO/\AB=upd H a (.Al (putK AA k v)))\/
 ∃AA k b,H a=↥(.ED AA)/\y=.ref b/\PE H k b/\ ⇑AA<CO/\AB=upd H a (.ED (putK AA k v))
theorem JS.k{H:AE}{a:A7}{AA:↑(Key×V)}{k:Key}(e:H a=↥(.Al AA)):JS H a (Cj k) (Hy AA k):=.inl ⟨AA,k,.inl e,rfl,rfl⟩
def JS.t{H:AE}{a b:A7}{AA:↑(FC×V)}{k:FC}(e:H a=↥(.ED AA))(BE:PE H k b):JS H a (.ref b) (Hy AA k):=.inr ⟨AA,k,b,.inl e,rfl,BE,rfl⟩
theorem Q0.k{H:AE}{a:A7}{AA:↑(Key×V)}{k:Key}{v:V}(e:H a=↥(.Al AA))(AF:⇑AA<CO):Q0 H a (Cj k) v (upd H a (.Al (putK AA k v))):=.inl ⟨AA,k,e,rfl,AF,rfl⟩
def Q0.t{H:AE}{a b:A7}{AA:↑(FC×V)}{k:FC}{v:V}(e:H a=↥(.ED AA))(BE:PE H k b)(AF:⇑AA<CO) :
  Q0 H a (.ref b) v (upd H a (.ED (putK AA k v))):=.inr ⟨AA,k,b,e,rfl,BE,AF,rfl⟩
section
variable{X:Aq}{A4:μ}{σ :St}{H:AE}{s:AS}{a:A7}{y v:V}{u r:A9}{o:Option V}{A:DE}{E:A9->AS->Prop}
def Inv.big(J:θ):KO<s.heap.objs.size:=by have h:Ff<s.heap.objs.size:=(J.mod.glob.keeps J.Ba).lt;exact iK ε h
def ka{Q:A9->AS->Prop}(BR:A.units+16<E8)(J:θ)(g:JS H a y ↥v)(Bh:RelV y u)(h:∀C_ s',Inv X A4 σ H s'->RelV v C_->Q C_ s') :
  An ξ A (Pk (.ref a) u) Q E s:=by
 rcases g with⟨AA,k,e,DG,l⟩|⟨AA,k,b,e,DG,BE,l⟩
 .subst DG;obtain⟨z,hd,vs,rel,dd⟩:=O7 J.Az e;obtain⟨C_,hw,IX⟩:=IL.some_of (v:=v) (o:=Pl vs k) (by rw[l];exact rel.val k);exact wpAny_getItem_of (Ow Bh) dd.mapOf hw (h C_ _ (J.tok _) IX)
 .subst DG;cases(show u=Cv b from Bh);obtain⟨z,hd,xs,rel,dd⟩:=RL J.Az e;obtain⟨C_,hw,IX⟩:=IL.some_of (v:=v) (o:=(atKey xs k).map (·.2)) (by rw[l];exact rel.val k);obtain⟨p,AV,fR⟩:=Option.map_eq_some_iff.mp hw;refine wpAny_getItem_heap (V9 (R3 (Ux (by decide:1<=16) _) BR)) (Rs J.Az BE) dd AV ?_;rw[fR];exact h C_ _ (J.tok _) IX
def vv{Q:A9->AS->Prop}(BR:A.units+16<E8)(J:θ)(g:JS H a y o)(Bh:RelV y u)(h:∀s',Inv X A4 σ H s'->Q (.bool o.isSome) s') :
  An ξ A (GS .In u (.ref a)) Q E s:=by
 rcases g with⟨AA,k,e,DG,l⟩|⟨AA,k,b,e,DG,BE,l⟩
 .subst DG;obtain⟨z,hd,vs,rel,dd⟩:=O7 J.Az e;refine wpAny_in_of (Ow Bh) hd dd.mapOf ?_;rw[<-(rel.val k).UY,<-l];exact h _ (J.tok _)
 .subst DG;cases(show u=Cv b from Bh);obtain⟨z,hd,xs,rel,dd⟩:=RL J.Az e;refine wpAny_in_heap (V9 (R3 (Ux (by decide:1<=16) _) BR)) (Rs J.Az BE) hd dd ?_;have q:=(rel.val k).UY;rw[hg]at q;rw[<-q,<-l];exact h _ (J.tok _)
def vw{Q:A9->AS->Prop}(BR:A.units+16<E8)(J:θ)(g:JS H a y o)(Bh:RelV y u)(h:∀s',Inv X A4 σ H s'->Q (.bool (!o.isSome)) s') :
  An ξ A (GS .NotIn u (.ref a)) Q E s:=by
 rcases g with⟨AA,k,e,DG,l⟩|⟨AA,k,b,e,DG,BE,l⟩
 .subst DG;obtain⟨z,hd,vs,rel,dd⟩:=O7 J.Az e;refine wpAny_notIn_of (Ow Bh) hd dd.mapOf ?_;rw[<-(rel.val k).UY,<-l];exact h _ (J.tok _)
 .subst DG;cases(show u=Cv b from Bh);obtain⟨z,hd,xs,rel,dd⟩:=RL J.Az e;refine wpAny_notIn_heap (V9 (R3 (Ux (by decide:1<=16) _) BR)) (Rs J.Az BE) hd dd ?_;have q:=(rel.val k).UY;rw[hg]at q;rw[<-q,<-l];exact h _ (J.tok _)
def VR{h':BF}{t':Nat}{BD:FR}(J:θ)(KZ:Ve (H a))(AQ:L1 a s.heap h')(he:∃q,h'.get? a=↥q)(new:Dp X.prog X.w (upd H a BD) h' a BD) :
  Inv X A4 σ (upd H a BD) { s with heap:=h',toks:=t' }:=
 J.write (x:=a) (e:=a) KZ (.inl rfl) (λb q A5 z=>(AQ.2 b A5).trans z) he new
def b7{P:C9}{w:Bl}{AB:AE}{h':BF}{AA:↑(Key×V)}{vs:↑(Key×A9)}(z:⇑AA<=CO)(hd:(a==KO)=false)(rel:Em AA vs)(dd:h'.DictOf (Gm P w) a vs) :
  Dp P w AB h' a (.Al AA):=⟨z,hd,vs,rel,dd⟩
def vy{AB:AE}{Q:Unit->AS->Prop}(BR:A.units+16<E8)(J:θ)(g:Q0 H a y v AB)(Bh:RelV y u)(Bw:RelV v r)(h:∀s',Inv X A4 σ AB s'->Q () s') :
  An ξ A (setItem (.ref a) u r) Q E s:=by
 rcases g with⟨AA,k,e,DG,l,CG⟩|⟨AA,k,b,e,DG,BE,l,CG⟩
 .subst DG CG;obtain⟨z,hd,vs,rel,dd⟩:=Ob J.Az e;have hz:⇑vs<=CO:=by rw[<- ⇑rel];exact z
  have AF:⇑(putK AA k v)<=CO:=by have:=fC AA k v;lia
  refine wpAny_setItem_pairs (hsz:=hz) (Ow Bh) dd λh' LZ AQ=>h _ ?_;have he:∃q,h'.get? a=↥q:=let⟨q,_,_,AW,_⟩:=LZ;⟨q,AW⟩
  exact VR J (by rw[e];exact ID) AQ he (b7 AF hd (rel.put k Bw) LZ)
 .subst DG CG;cases(show u=Cv b from Bh);obtain⟨z,hd,xs,rel,dd⟩:=RL J.Az (.inl e);have hz:⇑xs<=CO:=by rw[<-Paired.length rel];exact z
  have AF:⇑(putK AA k v)<=CO:=by have:=fC AA k v;lia
  refine wpAny_setItem_heap (hsz:=hz) (V9 (R3 (Ux (by decide:1<=16) _) BR)) (Rs J.Az BE) dd λh' LZ AQ=>h _ ?_;obtain⟨q,es,Ao,AW,h2,BO,D5,_,FN⟩:=LZ;refine VR J (by rw[e];exact ID) AQ ⟨q,AW⟩ ⟨AF,hd,_,(rel.put k BE Bw).keeps λc ys ec=>?_,q,es,Ao,AW,h2,BO,D5,FN⟩;rw[DJ (acS ec e (λz=>nomatch z))];exact ec
end
section
variable{X:Aq}{A4:μ}{σ :St}{H:AE}{s:AS}{a:A7}{AA:↑(Key×V)}{k:Key}{u:A9}{A:DE}{E:A9->AS->Prop}
def akP{Q:Unit->AS->Prop}(J:θ)(e:H a=↥(.Al AA))(Bh:RelV (Cj k) u)(l:(Hy AA k).isSome=true)(h:∀s',Inv X A4 σ (upd H a (.Al (Mk AA k))) s'->Q () s') :
  An ξ A (delItem (.ref a) u) Q E s:=by
 obtain⟨z,hd,vs,rel,dd⟩:=Ob J.Az e
 refine wpAny_delItem_slot dd.typeIs ε tO
  (Sp tO dd.typeIs PySem.F.entry_dict_delitem (PySem.F.args_dict_delitem_2 _ _) (meets_dict_delitem_pairs (Gm X.prog X.w) a (Ow Bh)) ⟨vs,dd,by rw[<- ⇑rel];exact z,by rw[<-(rel.val k).UY];exact l,λh' LZ AQ=>h _ ?_⟩)
 have he:∃q,h'.get? a=↥q:=let⟨q,_,_,AW,_⟩:=LZ;⟨q,AW⟩
 exact VR J (by rw[e];exact ID) AQ he (b7 (IG (km AA k) z) hd (rel.drop k) LZ)
def vx{v:V}{more:↑A9}{Q:A9->AS->Prop}(J:θ)(e:H a=↥(.Al AA))(Bh:RelV (Cj k) u)(l:Hy AA k=↥v)(hm:more=[]\/∃x,more=[x])(h:∀C_ s',Inv X A4 σ (upd H a (.Al (Mk AA k))) s'->RelV v C_->Q C_ s'):An ξ A (call (.builtin "dict.pop") (.ref a::u::more)) Q E s:=by
 obtain⟨z,hd,vs,rel,dd⟩:=Ob J.Az e;obtain⟨C_,hw,IX⟩:=IL.some_of (v:=v) (o:=Pl vs k) (by rw[<-l];exact rel.val k);have AV:(keyPart u).isSome=true:=by
  cases k with
  |inl i=>obtain⟨t,q⟩:=(show ∃t,u=Sv i t from Bh);subst q;rfl
  |inr x=>obtain⟨t,q⟩:=(show ∃t,u=Sw x t from Bh);subst q;rfl
 have AG:argsOk "dict.pop" ⟨.ref a::u::more,[]⟩:=by
  rcases hm with q|⟨x,q⟩
  .subst q;exact PySem.F.args_dict_pop_2 _ _
  .subst q;exact PySem.F.args_dict_pop_3 _ _ _
 refine Sp t_ dd.typeIs PySem.F.entry_dict_pop AG (meets_dict_pop_there (Gm X.prog X.w) a (Ow Bh) more hm AV)
  ⟨vs,C_,dd,by rw[<- ⇑rel];exact z,hw,λh' LZ AQ=>h C_ _ ?_ IX⟩
 have he:∃q,h'.get? a=↥q:=let⟨q,_,_,AW,_⟩:=LZ;⟨q,AW⟩
 exact VR J (by rw[e];exact ID) AQ he (b7 (IG (km AA k) z) hd (rel.drop k) LZ)
end
def dJ(i:Ah):Prop:=∀CN HJ,ZJ i false CN HJ=operate [CN,HJ] (Pk CN HJ)
def agr{prog:C9}{w:Bl}{A:DE}{E:A9->AS->Prop}{s:AS}{env:Env}{value slice:Ah}{pos:Pos}{T id:String}{Q:A9->AS->Prop}(AF:typeLookup (.type T) "__getitem__"=pure ↥(.builtin id))(AQ:dJ slice)(h:An Ω A (BM value env) (λo D3=>An Ω A (BM slice env) (λi Jf=>Jf.TypeIs o T/\An Ω A (Pk o i) Q E Jf) E D3) E s) :
  An Ω A (BM (.Subscript value slice pos) env) Q E s:=by
 refine Subscript_ (Hh h (λo D3 Ng=>Hh Ng (λi Jf Ot=>?_) λ_ _ x=>x) λ_ _ x=>x);obtain⟨Dj,Ot⟩:=Ot;unfold subscriptTail;refine Ad ?_;rw[getitemInPython_of_ne Dj.not_modules];refine Ad (i5 Dj AF ?_);have fin:An Ω A (ZJ slice false o i) (λr Qu=>An Ω A (letTemporaryGo value o r>>=λ_=>pure r) Q E Qu) E Jf:=by rw[AQ o i];exact wpAny_operating (Hh Ot (λr Qu Ou=>Ad (wpAny_letTemporaryGo (B_ Ou))) λ_ _ x=>x)
 first
  |exact B_ (Ad fin)
  |exact Ad (B_ (Ad fin))
  |exact Ad fin
def kb{X:Aq}{A4:μ}{σ :St}{H:AE}{s:AS}{a:A7}{y:V}{o:Option V}(J:θ)(g:JS H a y o):s.TypeIs (.ref a) "dict":=by
 rcases g with⟨AA,k,e,_,_⟩|⟨AA,k,b,e,_,_,_⟩
 .obtain⟨_,_,vs,_,dd⟩:=O7 J.Az e;exact dd.typeIs
 .obtain⟨_,_,xs,_,dd⟩:=RL J.Az e;exact dd.typeIs
noncomputable def sR(HQ ty:TE):TE:=λσ H Q=>HQ σ H λx H1=>ty σ H1 λy AU=>∃a v,x=.ref a/\JS AU a y ↥v/\Q v AU
noncomputable def oc(HQ ty Kj:TE):FL:=λD σ H=>Kj σ H λv H1=>HQ σ H1 λx AU=>ty σ AU λy C4=>∃a Dd,x=.ref a/\Q0 C4 a y v Dd/\D.AT σ Dd
section
variable{X:Aq}{o i e value:Ah}{pos pos' NW:Pos}{HQ ty Kj:TE}
def af9(BR:X.A.units+16<E8)(ho:Af X o HQ)(hi:Af X i ty)(AQ:dJ i):Af X (.Subscript o i pos) (sR HQ ty):=by intro A4 s σ H Q J h;refine agr PySem.F.slot_dict_getitem.lookup AQ (BV (ho A4 s σ H _ J h) λu s1⟨x,H1,Ac,Av,q1⟩=>BV (hi A4 s1 σ H1 _ Ac q1) λHJ s2⟨y,AU,BW,Bh,a,v,ex,g,q2⟩=>?_);subst ex;obtain rfl:u=Cv a:=Av;exact⟨kb BW g,ka BR BW g Bh λC_ s3 D4 IX=>⟨v,AU,D4,IX,q2⟩⟩
def aec(BR:X.A.units+16<E8)(ho:Af X o HQ)(hi:Af X i ty)(Bg:Af X value Kj)(AQ:OJ value ↥(.Subscript o i pos') pos.line X.env=pure false) :
  Df X (.Assign [.Subscript o i pos'] value pos) (oc HQ ty Kj):=by
 intro A4 s σ H D J h;refine wpAny_Assign_Subscript (BV (Bg A4 s σ H _ J h) λr s1⟨v,H1,Ac,Bw,q1⟩=>BV (ho A4 s1 σ H1 _ Ac q1) λu s2⟨x,AU,BW,Av,q2⟩=>BV (hi A4 s2 σ AU _ BW q2) λHJ s3⟨y,C4,D4,Bh,a,Dd,ex,g,F4⟩=>?_) AQ;subst ex;obtain rfl:u=Cv a:=Av;exact vy BR D4 g Bh Bw λs4 M6=>⟨σ,Dd,M6,F4⟩
end
def kd{P:C9}{w:Bl}{H:AE}(h:BF)(A5:KO<h.objs.size):Dp P w H (h.push { cls:=.type "dict",data:=.dict #[] }) h.objs.size (.Al []):=
 ⟨IC _,beq_eq_false_iff_ne.mpr (Lq (F7 A5)),[],.nil,Heap.DictOf.new h⟩
def wE{P:C9}{w:Bl}{H:AE}(h:BF)(A5:KO<h.objs.size):Dp P w H (h.push { cls:=.type "dict",data:=.dict #[] }) h.objs.size (.ED []):=
 ⟨IC _,beq_eq_false_iff_ne.mpr (Lq (F7 A5)),[],.nil,_,#[],0,Fe _ rfl,⟨rfl,rfl,rfl⟩,rfl,rfl,Ss⟩
def hJ:TE:=λ_ H Q=>∀p,H p=none->Q (.ref p) (upd H p (.Al []))
def rY:TE:=λ_ H Q=>∀p,H p=none->Q (.ref p) (upd H p (.ED []))
section
variable{X:Aq}{pos:Pos}
def XC:Af X (.Dict [] [] pos) hJ:=λA4 s σ H Q J h=>
 wpAny_Dict_empty ⟨.ref s.heap.objs.size,_,J.laid (a:=s.heap.objs.size) (o:=.Al []) (t':=s.toks) (λ_ _ q=>Cy _ q) (C1 _) (kd s.heap J.big),rfl,h _ (J.Az.fresh (C1 _))⟩
def afC:Af X (.Dict [] [] pos) rY:=λA4 s σ H Q J h=>
 wpAny_Dict_empty ⟨.ref s.heap.objs.size,_,J.laid (a:=s.heap.objs.size) (o:=.ED []) (t':=s.toks) (λ_ _ q=>Cy _ q) (C1 _) (wE s.heap J.big),rfl,h _ (J.Az.fresh (C1 _))⟩
end
def Yb:↑(TE×TE)->St->AE->(↑(V×V)->AE->Prop)->Prop
 |[],_,H,Q=>Q [] H
 |(Ce,Kj)::r,σ,H,Q=>Ce σ H λx H1=>Kj σ H1 λy AU=>Yb r σ AU λps C4=>Q ((x,y)::ps) C4
abbrev jV:↑(V×V)->↑(A9×A9)->Prop:=Paired λp q=>RelV p.1 q.1/\RelV p.2 q.2
def Vg(X:Aq)(pos:Pos)(keys:↑(Option Ah))(values:↑Ah)(Ki:↑(TE×TE)):Prop:=
 ∀(A4:μ)(s:AS)(σ :St)(H:AE)(Q:↑(V×V)->AE->Prop),θ->Yb Ki σ H Q->
  An ξ X.A (evalPairs (pairTrees keys values X.env pos)) (λvs s'=>∃ps AB,Inv X A4 σ AB s'/\jV ps vs/\Q ps AB) X.DB s
def aeZ{X:Aq}{pos:Pos}:Vg X pos [] [] []:=λA4 s σ H Q J h=>pairTrees_nil_walk ⟨[],H,J,.nil,h⟩
def aeY{X:Aq}{pos:Pos}{k v:Ah}{AK:↑(Option Ah)}{vs:↑Ah}{Ce Kj:TE}{Ki:↑(TE×TE)}(AR:Af X k Ce)(Bg:Af X v Kj)(B6:Vg X pos AK vs Ki) :
  Vg X pos (↥k::AK) (v::vs) ((Ce,Kj)::Ki):=λA4 s σ H Q J h=>
 pairTrees_cons_walk (BV (AR A4 s σ H _ J h) λu s1⟨x,H1,Ac,Av,q1⟩=>BV (Bg A4 s1 σ H1 _ Ac q1) λGh s2⟨y,AU,BW,Bh,q2⟩=>
  BV (B6 A4 s2 σ AU _ BW q2) λws s3⟨ps,C4,D4,rel,F4⟩=>⟨(x,y)::ps,C4,D4,.cons ⟨Av,Bh⟩ rel,F4⟩)
def Qd(AA more:↑(Key×V)):↑(Key×V):=more.foldl (λacc Bv=>putK acc Bv.1 Bv.2) AA
def Em.merge:∀{more:↑(Key×V)}{rs:↑(Key×A9)}{AA:↑(Key×V)}{vs:↑(Key×A9)},Em more rs->Em AA vs->Em (Qd AA more) (merged vs rs):=by
 intro more rs AA vs r;unfold Em at r;induction r generalizing AA vs with
 |nil=>intro q;exact q
 | @cons p q ps Cr h t CI=>
   intro Qn;have e:Em (putK AA p.1 p.2) (stored vs q.1 q.2):=by have:=Qn.put p.1 h.2;rw[<-h.1];exact this
   exact CI e
theorem m7:∀(more AA:↑(Key×V)),⇑(Qd AA more)<=⇑AA+⇑more
 |[],AA=>by show⇑AA<=⇑AA+0;lia
 |p::r,AA=>by have h1:=m7 r (putK AA p.1 p.2);have h2:=fC AA p.1 p.2;show⇑(Qd (putK AA p.1 p.2) r)<=_;rw[DV];lia
theorem ir{P:C9}{w:Bl}:∀{AA:↑(Key×V)}{ws:↑(A9×A9)},jV (AA.map λBv=>(Cj Bv.1,Bv.2)) ws->∃rs,Carries (Gm P w) ws rs/\Em AA rs
 |[],_,r=>by rw[I1]at r;cases r;exact⟨[],ID,.nil⟩
 |p::AA,_,r=>by
  rw[DC]at r;cases r with
  | @cons a b as bs h t=>obtain⟨rs,c,q⟩:=ir (P:=P) (w:=w) t;obtain⟨Cw,Fv⟩:=b;exact⟨(p.1,Fv)::rs,⟨Ow h.1,rfl,c⟩,.cons ⟨rfl,h.2⟩ q⟩
def r_(Ki:↑(TE×TE)):TE:=λσ H Q=>∀p,H p=none->Yb Ki σ (upd H p (.Al [])) λps AU=>AU p=↥(.Al [])/\∃AA:↑(Key×V),ps=AA.map (λBv=>(Cj Bv.1,Bv.2))/\ ⇑AA<=15/\Q (.ref p) (upd AU p (.Al (Qd [] AA)))
def afB{X:Aq}{pos:Pos}{keys:↑(Option Ah)}{values:↑Ah}{Ki:↑(TE×TE)}(h:Vg X pos keys values Ki)(We:keys.all (·.isSome)=true)(AF:⇑keys=⇑values)(h0:keys≠[])(zL:⇑keys<=15):Af X (.Dict keys values pos) (r_ Ki):=by
 intro A4 s σ H Q J q;have AM:=J.Az.fresh (C1 s.heap.objs.size);have Ac:=J.laid (a:=s.heap.objs.size) (o:=.Al []) (h':=s.heap.push { cls:=.type "dict",data:=.dict #[] }) (t':=s.toks) (λ_ _ q=>Cy _ q) (C1 _) (kd s.heap J.big);refine wpAny_Dict_walk (knd:=Gm X.prog X.w) We AF h0 zL (BV (h A4 _ σ _ _ Ac (q _ AM)) λws s2⟨ps,AU,BW,rel,e,AA,Ao,lk,q2⟩=>?_);subst Ao;obtain⟨rs,c,gF⟩:=ir (P:=X.prog) (w:=X.w) rel;obtain⟨z,hd,alj,Qn,dd⟩:=Ob BW.Az e;cases Qn;refine⟨rs,c,dd,λh' LZ AQ=>⟨.ref s.heap.objs.size,_,?_,rfl,q2⟩⟩;have hz:⇑(Qd [] AA)<=CO:=by have h1:=m7 AA [];rw[FK]at h1;rw[Ln];lia
 have he:∃q,h'.get? s.heap.objs.size=↥q:=let⟨q,_,_,AW,_⟩:=LZ;⟨q,AW⟩
 exact VR BW (by rw[e];exact ID) AQ he (b7 hz hd (gF.merge .nil) LZ)
structure RW(X:Aq)(o:Ah)(m:Str)(apos:Pos)(e:Ah)(Cg:Pos):Prop where
 base:JM o m X.env (BM o X.env)=BM o X.env
 few:((F8 Cg (C8 [e] X.env)).all (λx=>!x.1)&&(Jp Cg (Jh [] X.env)).all (λx=>x.1.isSome)
  &&decide (⇑([e]:↑Ah)+⇑([]:↑Jo)+(if([]:↑Jo).isEmpty then 0 else 1)<30))=true
 line:(apos.endLine==Cg.line)=true
 trees:F8 Cg (C8 [e] X.env)=[(false,BM e X.env)]
structure M2(X:Aq)(o:Ah)(m:Str)(apos:Pos)(e f:Ah)(Cg:Pos):Prop where
 base:JM o m X.env (BM o X.env)=BM o X.env
 few:((F8 Cg (C8 [e,f] X.env)).all (λx=>!x.1)&&(Jp Cg (Jh [] X.env)).all (λx=>x.1.isSome)
  &&decide (⇑([e,f]:↑Ah)+⇑([]:↑Jo)+(if([]:↑Jo).isEmpty then 0 else 1)<30))=true
 line:(apos.endLine==Cg.line)=true
 trees:F8 Cg (C8 [e,f] X.env)=[(false,BM e X.env),(false,BM f X.env)]
def Ze(H:AE)(a:A7):Prop:=(∃AA,Kr H a (.Al AA))\/∃AA,Kr H a (.ED AA)
def bq{X:Aq}{A4:μ}{σ :St}{H:AE}{s:AS}{a:A7}(J:θ)(d:Ze H a) :
  s.TypeIs (.ref a) "dict"/\(∀b,Cv a=.ref b->∃BD,s.heap.get? b=↥BD/\BD.dict=none)/\(a==KO)=false:=by
 rcases d with⟨AA,e⟩|⟨AA,e⟩
 .obtain⟨_,hd,vs,_,dd⟩:=O7 J.Az e;refine⟨dd.typeIs,λb q=>?_,hd⟩;cases q;obtain⟨BD,_,_,h1,h2,_⟩:=dd;exact⟨BD,h1,h2.2.1⟩
 .obtain⟨_,hd,xs,_,dd⟩:=RL J.Az e;refine⟨dd.typeIs,λb q=>?_,hd⟩;cases q;obtain⟨BD,_,_,h1,h2,_⟩:=dd;exact⟨BD,h1,h2.2.1⟩
section
variable{X:Aq}{A4:μ}{σ :St}{H:AE}{s:AS}{a:A7}{y d:V}{u r:A9}{o:Option V}{A:DE}{E:A9->AS->Prop}
def vu{Q:A9->AS->Prop}(BR:A.units+16<E8)(J:θ)(g:JS H a y o)(Bh:RelV y u)(h:∀C_ s',Inv X A4 σ H s'->RelV (o.getD .non) C_->Q C_ s') :
  An ξ A (call (.builtin "dict.get") [.ref a,u]) Q E s:=by
 rcases g with⟨AA,k,e,DG,l⟩|⟨AA,k,b,e,DG,BE,l⟩
 .subst DG;obtain⟨z,hd,vs,rel,dd⟩:=O7 J.Az e;refine Sp hZ dd.typeIs u1 (tv _ _) (meets_dict_get (Gm X.prog X.w) a (Ow Bh) hd) ⟨_,dd.mapOf,h _ _ (J.tok _) ?_⟩;rw[l];exact(rel.val k).getD rfl
 .subst DG;cases(show u=Cv b from Bh);obtain⟨z,hd,xs,rel,dd⟩:=RL J.Az e;refine Sp hZ dd.typeIs u1 (tv _ _) (meetsH_dict_get (tupleKind (Gm X.prog X.w)) a b hd) ⟨V9 (R3 (Ux (by decide:1<=16) _) BR),k,xs,Rs J.Az BE,dd,h _ _ (J.tok _) ?_⟩;rw[l];exact(rel.val k).getD rfl
end
noncomputable def sS(HQ ty:TE):TE:=λσ H Q=>HQ σ H λx H1=>∃a,x=.ref a/\Ze H1 a/\ty σ H1 λy AU=>∃o,JS AU a y o/\Q (o.getD .non) AU
def rZ(HQ ty:TE):TE:=λσ H Q=>HQ σ H λx H1=>∃a,x=.ref a/\Ze H1 a/\ty σ H1 λy AU=>∃AA k v,AU a=↥(.Al AA)/\y=Cj k/\Hy AA k=↥v/\Q v (upd AU a (.Al (Mk AA k)))
section
variable{X:Aq}{o e f:Ah}{apos Cg:Pos}{HQ ty alY:TE}
def afA(BR:X.A.units+16<E8)(ho:Af X o HQ)(he:Af X e ty)(m:RW X o "get" apos e Cg):Af X (.Call (.Attribute o "get" apos) [e] [] Cg) (sS HQ ty):=by intro A4 s σ H Q J h;refine Z0 m.base m.few m.line Yi hZ PySem.F.type_dict_get (BV (ho A4 s σ H _ J h) λu s1⟨x,H1,Ac,Av,a,ex,d,q1⟩=>?_);subst ex;obtain rfl:u=Cv a:=Av;obtain⟨t1,CK,_⟩:=bq Ac d;refine⟨t1,CK,?_⟩;rw[m.trees];refine Sg rfl (Z4 (V7 (BV (he A4 s1 σ H1 _ Ac q1) λHJ s2⟨y,AU,BW,Bh,CN,g,q2⟩=>VD ?_)));exact vu BR BW g Bh λC_ s3 D4 IX=>⟨_,AU,D4,IX,q2⟩
def afD(ho:Af X o HQ)(he:Af X e ty)(m:RW X o "pop" apos e Cg):Af X (.Call (.Attribute o "pop" apos) [e] [] Cg) (rZ HQ ty):=by intro A4 s σ H Q J h;refine Z0 m.base m.few m.line Yi t_ PySem.F.type_dict_pop (BV (ho A4 s σ H _ J h) λu s1⟨x,H1,Ac,Av,a,ex,d,q1⟩=>?_);subst ex;obtain rfl:u=Cv a:=Av;obtain⟨t1,CK,_⟩:=bq Ac d;refine⟨t1,CK,?_⟩;rw[m.trees];refine Sg rfl (Z4 (V7 (BV (he A4 s1 σ H1 _ Ac q1) λHJ s2⟨y,AU,BW,Bh,AA,k,v,BS,DG,l,q2⟩=>VD ?_)));subst DG;exact vx BW BS Bh l (.inl rfl) λC_ s3 D4 IX=>⟨v,_,D4,IX,q2⟩
end
section
variable{X:Aq}{A4:μ}{σ :St}{H:AE}{s:AS}{a:A7}{AA:↑(Key×V)}{A:DE}{E:A9->AS->Prop}
end
section
variable{X:Aq}{A4:μ}{σ :St}{H:AE}{s:AS}{a:A7}{y:V}{u:A9}{A:DE}{E:A9->AS->Prop}
end
end B3
namespace ii
open PySem PySem.W PySem.Calls PyProof.Rows
def abJ{P:Params}{h:BF}:∀(ns:↑Int)(vs:↑A9),WellAll P h vs (ns.map WData.int)->RD vs ns:=by
 intro ns;induction ns with
 |nil=>intro vs w;rw[I1]at w;cases w;exact .nil
 |cons n ns CI=>
  intro vs w;rw[DC]at w;cases w with
  |cons a b=>cases a;exact .cons _ _ (CI _ b)
def ag6{l:OpenLaw}{n:Nat}(AM:l.most=↥n){P:Params}{h:BF}{args:↑WData}{vals:↑A9}(ai:l.row.toRowW.claim.pre args=true)(fX:WellAll P h vals args) :
  ∃a vs ns,vals=[Cv a]/\args=[WData.list (ns.map WData.int)]/\h.get? a=some { cls:=.type "list",data:=.seq vs.toArray }/\RD vs ns/\ ⇑ns<=n:=by
 have aaN:WShape.hasAll [] args [.list .int]=true:=(pre_splitW ai).1;have AI:l.pre.holds [] { args:=args }=true:=(pre_splitW ai).2;obtain⟨d,r,rfl,h1,h2⟩:=hasAllW_cons aaN;obtain rfl:=hasAllW_nil h2;obtain⟨xs,rfl,BO⟩:=hasW_list h1;obtain⟨ns,rfl⟩:=items_int BO;have hlen:⇑ns<=n:=by
  unfold OpenLaw.pre at AI;have D5:(WTm.not (.lt (.lit (.int (n:Int))) (.len (.arg 0)))).holds [] { args:=[.list (ns.map .int)] }=true:=by have D5:=(holds_andW AI).1;rw[AM]at D5;exact D5
  have FN:=condW_of D5 (w_not (w_lt w_lit (w_len_list (w_arg rfl))));rw[Ch]at FN;refine Nat.le_of_not_lt λq=>?_;have Cm:(n:Int)<((⇑ns:Nat):Int):=δ
  first
   |(rw[decide_eq_true Cm]at FN;exact absurd FN ε)
   |(simp at FN;lia)
 cases fX with
 |cons GF Gh=>
  cases Gh;cases GF with
  |list ho We=>exact⟨_,_,ns,rfl,rfl,ho,abJ ns _ We,hlen⟩
def af5(l:OpenLaw)(args:↑WData):l.row.toRowW.claim.post args (.bool true) args=true:=
 postW_of (r:=l.row.toRowW) (X:=(true==true))
  (show WShape.has [] (.bool true) .bool=true by first|rfl|decide|simp[WShape.has,WShape.arms,WShape.armsAll])
  (show(WTm.eq .res (.lit (.bool true))).value [] { args:=args,res:=↥(.bool true),after:=args }=↥(.bool (true==true))from w_eq_bool (w_res rfl) w_lit) rfl
def vd {l:OpenLaw} {n:Nat} {q:C9} {loose:↑Str} {LY:(Str->Option A9)->BF->Prop} {N9:Bl->BF->Prop} {d:DefRec}(AM:l.most=↥n) (SV:d.params.defaults=[])(call:∀(w:Bl)(G_ D3:AS)(mg Gs:Str->Option A9)(K7:A7)(o:Obj)(pm cd doc:A9)(a:A7)(vs:↑A9)(ns:↑Int),
    Ground q loose [] LY w G_ mg Gs D3.heap->N9 w D3.heap->
    D3.heap.get? K7=↥o->o.data=.func (docDef d.name d.params d.body d.scope pm cd doc)->D3.heap.CodeRec cd d.name->mg d.name=↥(.ref K7)->
    D3.heap.get? a=some { cls:=.type "list",data:=.seq vs.toArray }->RD vs ns->⇑ns<=n->D3.gens= #[]->
    MY (B4 l.prog w) Pm (.call (.ref K7) ⟨[.ref a],[]⟩) (λr s'=>r=.ok (.ret (.bool true))/\OldK D3.heap s'.heap/\s'.os=D3.os/\NM s'.gens) D3) :
  WalkO q loose LY N9 l.row.toRowW d [] (λf vs=>ZP f vs):=by
 intro w G_ D3 mg Gs G Y K7 o pm cd doc b4 Cj ho hd Ld jp fN Am args vals as ai alD alH fX alE;obtain rfl:b4=.none:=Dflts.none jp SV;obtain rfl:Cj=.none:=Dflts.noKw jp;obtain⟨a,vs,ns,rfl,rfl,fP,hints,hlen⟩:=ag6 AM ai fX;refine enter_call (R7 (call w G_ D3 mg Gs K7 o pm cd doc a vs ns G Y ho (fd_plain hd) Ld fN fP hints hlen Am) λr s' AW=>?_);obtain⟨rfl,h2,BO,D5⟩:=AW;exact⟨.inl ⟨.bool true,.bool true,[],rfl,λ_=>rfl,.bool true,af5 l _,λ_=>⟨u3,λ_ hm=>(nomatch hm)⟩⟩,h2,BO,D5⟩
section
variable{prog:C9}{w:Bl}{A:DE}{E:A9->AS->Prop}{s:AS}{K:Frag}
end
end ii
namespace B3
open PyProof.Rows
theorem su:∀{vs:↑A9}{ns:↑Int},RD vs ns->Vals (ns.map V.int) vs
 |_,_,.nil=>.nil
 |_,_,.cons n t h=>.cons ⟨t,rfl⟩ (su h)
def dL(H:AE):Prop:=∀b,H b=none\/∃o xs,H b=↥(.D7 o (.lst xs))
def abS{P:C9}{w:Bl}{K:At}{mg Gs:Str->Option A9}{CX:L8}{k:Nat}{K7 a:A7}{fd:I2}{x:Str}{sp:Co}{D3:AS}{vs:↑A9}{ns:↑Int}(IJ:K.In D3.heap)(l5:D3.heap.Ns Ff mg)(A5:D3.heap.Ns builtinsNs Gs)(yn:∀x:Str,x≠"__name__"->Gs x=OH x)(yZ:D3.heap.NoLimit)(Am:D3.gens= #[])(AG:D3.heap.get? a=some { cls:=.type "list",data:=.seq vs.toArray })(hi:RD vs ns)(AF:⇑ns<=CO)(B6:DD k Pm)(F:∀base:BF,K.In base->base.Ns Ff mg->Ie P w K mg base CX k K7 fd [x] sp)(yo:∀(s:AS)(u:A9),BindsTo s fd ⟨[u],[]⟩ [(x,u)])(Lu:∀H:AE,dL H->Es K H a (ns.map V.int)->sp [.ref a] H (λv _=>v=.AN true) λ_ _ _=>False)(e6:∀H e s',CX [] H D3 (λ_ _ _=>False) e s'->False) :
  MY (B4 P w) Pm (.call (.ref K7) ⟨[.ref a],[]⟩) (λr s'=>r=.ok (.ret (.bool true))/\OldK D3.heap s'.heap/\s'.os=D3.os/\NM s'.gens) D3:=by
 have Bw:=su hi;have ac1:=⇑hi
 have core:∀H:AE,dL H->Es K H a (ns.map V.int)->FA P w H D3.heap->(∀b,H b≠none->b=a)->(H a≠none->K.lookup a=none)->
   MY (B4 P w) Pm (.call (.ref K7) ⟨[.ref a],[]⟩) (λr s'=>r=.ok (.ret (.bool true))/\OldK D3.heap s'.heap/\s'.os=D3.os/\NM s'.gens) D3:=by
  intro H TP Mq Az H6 A_;have j8:∀{b:A7}{o:Obj},D3.heap.get? b=↥o->H b=none->(On D3.heap H).get? b=↥o:=λe n=>z3 e n;have Xe:∀{b:A7}{o:Obj}{es:Array L5}{Ao:Nat},D3.heap.get? b=↥o->o.data=.dict es Ao->H b=none:=λ{b o es Ao} e d=>by
   cases q:H b with
   |none=>rfl
   |some u=>have Bb:b=a:=H6 b (by rw[q];simp);subst Bb;rw[AG]at e;cases e;have d':Data.seq vs.toArray _=Data.dict es Ao:=d;cases d'
  have bP:∀{b:A7}{m:Str->Option A9},D3.heap.Ns b m->(On D3.heap H).Ns b m:=λ{b m}⟨o,es,Ao,e,d,r⟩=>⟨o,es,Ao,j8 e (Xe e d),d,r⟩;have jr:K.In (On D3.heap H):=λb o e=>j8 (IJ b o e) (by
   cases q:H b with
   |none=>rfl
   |some u=>have Bb:b=a:=H6 b (by rw[q];simp);subst Bb;rw[A_ (by rw[q];simp)]at e;cases e)
  have SR:Mod K mg (On D3.heap H):=⟨jr,bP l5,⟨Gs,bP A5,yn⟩,let⟨XX,h1,h2⟩:=yZ;⟨XX,bP h1,h2⟩⟩;have FY:RQ P w K mg (On D3.heap H) Pm [] D3 H:=⟨rfl,SR,λb o e=>aeL e,ZK (z4 _ _),trivial,λb A5=>absurd (show b∈([]:↑A7)from A5) γ,Az,.of_eq Am⟩;refine R7 ((F _ jr (bP l5)).run Pm [] D3 H ⟨[.ref a],[]⟩ [.ref a] [.ref a] _ _ B6 FY (yo D3 (.ref a)) (.cons rfl .nil) (Lu H TP Mq)) λr s' h=>?_;cases r with
  |error e=>exact(e6 H e s' h).elim
  |ok Dv=>
   cases Dv with
   |next=>exact Hi h
   |brk=>exact Hi h
   |cont=>exact Hi h
   |ret u=>
    obtain⟨v,AB,os,bare,un,aaE,Bd,q⟩:=h;have Cm:v=.AN true:=q;subst Cm;obtain rfl:u=RC true:=Bd;refine⟨rfl,OldK.of_keep λb o e=>?_,os,bare⟩;cases q:H b with
    |none=>exact un.keep b o e q (by intro z;exact absurd (show b∈([]:↑A7)from z) γ) γ
    |some u=>
     rcases TP b with z|⟨BD,xs,z⟩
     .rw[q]at z;cases z
     .have F6:=un.Hr b BD _ z;obtain⟨AD,_⟩:=Az b _ z;obtain⟨AH,_⟩:=aaE b _ F6;rw[e]at AD;cases AD;exact AH
 cases AR:K.lookup a with
 |some o=>have e:=IJ a o AR;rw[AG]at e;cases e;refine core (λ_=>none) (λ_=>.inl rfl) (.inr ⟨_,vs.toArray,_,AR,rfl,rfl,rfl,by rw[DU,ac1];exact AF,(Bw:)⟩) (λb u z=>by have Fh:(none:Option FR)=↥u:=z;cases Fh) (λb z=>absurd rfl z) λz=>absurd rfl z
 |none=>
  refine core (λb=>if b=a then↥(.D7 { cls:=.type "list",data:=.seq vs.toArray } (.lst (ns.map V.int)))else none) (λb=>?_) (.inl (.inr ⟨{ cls:=.type "list",data:=.seq vs.toArray },if_pos rfl⟩)) (λb u z=>?_) (λb z=>?_) λ_=>AR
  .by_cases A5:b=a
   .exact .inr ⟨_,_,if_pos A5⟩
   .exact .inl (if_neg A5)
  .by_cases A5:b=a
   .have Fh:=(if_pos A5).symm.trans z;cases Fh;subst A5;exact⟨AG,by rw[Ch];exact AF,vs,_,Bw,AG⟩
   .have Fh:=(if_neg A5).symm.trans z;cases Fh
  .by_cases A5:b=a
   .exact A5
   .exact absurd (if_neg A5) z
def ahb {l:i6} {n k:Nat} {q:C9} {loose:↑Str} {LY:(Str->Option A9)->BF->Prop} {N9:Bl->BF->Prop} {d:DefRec} {K:Params->At} {CX:Bl->L8} {sp:Bl->Co} {x:Str}(AM:l.most=↥n) (af:n<=CO) (SV:d.params.defaults=[]) (B6:DD k Pm)(Wc:∀(w:Bl)(h:BF),N9 w h->(K w.params).In h)(F:∀(w:Bl)(mg:Str->Option A9)(K7:A7)(h:BF),(K w.params).In h->h.Ns Ff mg->mg d.name=↥(.ref K7)->
    ∃fd:I2,(∀(s:AS)(u:A9),BindsTo s fd ⟨[u],[]⟩ [(x,u)])/\
     ∀base:BF,(K w.params).In base->base.Ns Ff mg->Ie l.prog w (K w.params) mg base (CX w) k K7 fd [x] (sp w))
  (Lu:∀(w:Bl)(H:AE)(a:A7)(ns:↑Int),⇑ns<=n->dL H->Es (K w.params) H a (ns.map V.int)->sp w [.ref a] H (λv _=>v=.AN true) λ_ _ _=>False)
  (e6:∀(w:Bl)(H:AE)(s:AS)(e:A9)(s':AS),CX w [] H s (λ_ _ _=>False) e s'->False) :
  iQ q loose LY N9 l.row.toRowW d [] (λf vs=>ZP f vs):=by
 refine ii.vd AM SV λw G_ D3 mg Gs K7 o pm cd doc a vs ns G Y ho hd Ld fN fP hints hlen Am=>?_;have IJ:=Wc w _ Y;obtain⟨fd,A5,jq⟩:=F w mg K7 _ IJ G.T.g fN;exact abS IJ G.T.g G.T.b G.T.builtins G.T.nolimit Am fP hints (IG hlen af) B6 jq A5 (λH TP Mq=>Lu w H a ns hlen TP Mq) λH e s'=>e6 w H D3 e s'
noncomputable def inClass(s:BG)(j:Nat):BG:=match s with
 |.ClassDef _ _ _ body _ _ _ _ _ _ _=>body.getD j (.Pass ⟨0,0,0,0⟩)
 |_=>.Pass ⟨0,0,0,0⟩
noncomputable def Lr(s:BG):Arguments:=match s with
 |.FunctionDef _ a _ _ _ _ _ _ _ _=>a
 |_=>{ posonlyargs:=[],args:=[],vararg:=none,kwonlyargs:=[],kw_defaults:=[],kwarg:=none,defaults:=[] }
noncomputable def L0(s:BG):↑BG:=match s with
 |.FunctionDef _ _ b _ _ _ _ _ _ _=>b
 |_=>[]
noncomputable def Bu(s:BG):FS:=match s with
 |.FunctionDef _ _ _ _ _ _ sc _ _ _=>sc
 |_=>{ kind:=.function,names:=[],isGenerator:=false,isCoroutine:=false }
abbrev iX:L8:=λ_ _ _ _ _ _=>False
abbrev cH:FE:=λ_ _ _=>False
structure P5(K:At)(x qual:Str)(st:BG)(f:A7)(fd:I2):Prop where
 ex:∃(Gn:A9)(E9:Option A7)(Cj doc pm:A9)(an:Option A7)(Fm DS:A9)(Oa:Array (Option A9)),
  fd=KM x qual (Lr st) (L0 st) (Bu st) .none Cj doc pm an Fm DS/\K.lookup f=↥⟨Gn,E9,.func fd,Oa⟩/\NK K Fm qual=true
 Bf:KL K (.ref f)=true
section
variable{P:C9}{w:Bl}{K:At}{mg:Str->Option A9}{base:BF}
def P5.ok {x qual:Str} {st:BG} {f:A7} {fd:I2} {N ps:↑Str} {k:Nat} {sp:Co} (F:P5 K x qual st f fd) (S:CA N ps (Bu st)) (len:∀vs H Q E,sp vs H Q E->⇑vs=⇑ps)(d_:∀(Fm:A9)(A:DE)(outer:↑Env)(s:AS)(H:AE)(vs:↑V)(Q:CQ)(E:FE),DD k (A.deeper (OR qual (Bu st) s.heap.objs.size f Fm))->sp vs H Q E->
    ∃t,Hc (Kz iX P w K mg base N qual (Bu st) f Fm A outer s H E).GD (L0 st) t/\t { AT:=λ_ AB=>Q .non AB,EX:=Q } (start N vs) H):Ie P w K mg base iX (k+1) f fd ps sp:=by
 obtain⟨Gn,E9,Cj,doc,pm,an,Fm,DS,Oa,rfl,lk,Ld⟩:=F.ex;refine kF lk Ld S len λA outer s H vs Q E B6 Lu=>?_;obtain⟨t,h,q⟩:=d_ Fm A outer s H vs Q E B6 Lu;exact⟨t,h.GD,q⟩
def P5.binds{x qual:Str}{st:BG}{f:A7}{fd:I2}{ps:↑Str}(F:P5 K x qual st f fd)(h:∀(Cj doc pm:A9)(an:Option A7)(Fm DS:A9)(us:↑A9),⇑us=⇑ps->bindArgs (KM x qual (Lr st) (L0 st) (Bu st) .none Cj doc pm an Fm DS) ⟨us,[]⟩=pure (ps.zip us)):Binds K fd ps []:=by obtain⟨Gn,E9,Cj,doc,pm,an,Fm,DS,Oa,rfl,lk,Ld⟩:=F.ex;exact .all (h Cj doc pm an Fm DS)
def SP{x qual:Str}{st:BG}{f:A7}{Gn:A9}{E9 an:Option A7}{Oa:Array (Option A9)}{Cj doc pm Fm DS:A9}(l:K.lookup f=↥⟨Gn,E9,.func (KM x qual (Lr st) (L0 st) (Bu st) .none Cj doc pm an Fm DS),Oa⟩)(c:NK K Fm qual=true)(k:KL K (.ref f)=true):P5 K x qual st f (KM x qual (Lr st) (L0 st) (Bu st) .none Cj doc pm an Fm DS):=⟨⟨Gn,E9,Cj,doc,pm,an,Fm,DS,Oa,rfl,l,c⟩,k⟩
end
section
variable{X:Aq}
end
def Q7(H AB:AE):Prop:=∀b o,H b=↥o->AB b=↥o
def Q7.refl(H:AE):Q7 H H:=λ_ _ h=>h
def Q7.trans{H H1 AU:AE}(a:Q7 H H1)(b:Q7 H1 AU):Q7 H AU:=λc o h=>b c o (a c o h)
def Q7.free{H AB:AE}(e:Q7 H AB){l:A7}(h:AB l=Option.none):H l=Option.none:=by
 cases q:H l with
 |none=>rfl
 |some o=>rw[e l o q]at h;cases h
section
variable{X:Aq}
end
section
variable{Bt:Type}[DecidableEq Bt]
end
noncomputable def I6(env:Env):↑(Str×L6)->↑(Str×A7)->↑(Str×A7)
 |[],cs=>cs
 |(x,k)::r,cs=>I6 env r (if k==.free then(x,(env.cells.lookup x).getD 0)::cs else cs)
theorem iz{env:Env}:∀(names:↑(Str×L6))(cs:↑(Str×A7)),(∀p∈names,p.2=.free->∃c,env.cells.lookup p.1=↥c)->
 (forIn (m:=Sem) names cs λ(x:Str×L6) cs=>if(x.2==Jk)=true then do
   let a <-cellOf env x.1
   pure (Pb ((x.1,a)::cs))else pure (Pb cs))=pure (I6 env names cs)
 |[],cs,_=>rfl
 |(x,k)::r,cs,h=>by
  rw[List.forIn_cons];have CI:=iz (env:=env) r;by_cases AR:k=.free
  .subst AR;obtain⟨c,AI⟩:=h (x,.free) Hg rfl;have AD:cellOf env x=pure c:=by unfold cellOf;rw[AI]
   erw[beq_self_eq_true,if_true,I6,AD,AI,Qx,pure_bind];exact CI _ λp AV=>h p (Gy _ AV)
  .have A5:(k==Jk)=false:=by simpa using AR
   erw[A5,MP,if_false,I6,pure_bind];exact CI _ λp AV=>h p (Gy _ AV)
def iy{env:Env}{scope:FS}(h:∀p∈scope.names,p.2=.free->∃c,env.cells.lookup p.1=↥c):closureFor scope env=pure (I6 env scope.names []):=by
 have e:=iz (env:=env) scope.names [] h;unfold closureFor
 refine Eq.trans (b:=(forIn (m:=Sem) scope.names [] λ(x:Str×L6) cs=>if(x.2==Jk)=true then do
   let a <-cellOf env x.1
   pure (Pb ((x.1,a)::cs))else pure (Pb cs))>>=pure) rfl ?_
 rw[e];rfl
theorem ix{env:Env}{x:Str}:∀(names:↑(Str×L6))(cs:↑(Str×A7)),(∀p∈names,p.2=.free->∃c,env.cells.lookup p.1=↥c)->
  (I6 env names cs).lookup x=if(x,Jk)∈names then env.cells.lookup x else cs.lookup x
 |[],cs,_=>by simp[I6]
 |(y,k)::r,cs,h=>by
  rw[I6,ix r _ λp AV=>h p (Gy _ AV)];by_cases hm:(x,Jk)∈r
  .rw[if_pos hm,if_pos (Gy _ hm)]
  .rw[if_neg hm];by_cases AR:k=.free
   .subst AR;obtain⟨c,AI⟩:=h (y,.free) Hg rfl;by_cases AJ:x=y
    .subst AJ;rw[if_pos Hg];simp[ZF,AI]
    .have nm:¬(x,Jk)∈(y,Jk)::r:=λz=>by
       rcases List.mem_cons.mp z with e|e
       .exact AJ (by injection e)
       .exact hm e
     rw[if_neg nm];have A5:(x==y)=false:=(AJ:)
     simp[ZF,A5]
   .have A5:(k==Jk)=false:=by simpa using AR
    have nm:¬(x,Jk)∈(y,k)::r:=λz=>by
     rcases List.mem_cons.mp z with e|e
     .exact AR (by injection e with _ AH;exact AH.symm)
     .exact hm e
    rw[if_neg nm];simp[A5]
def wW {prog:C9} {w:Bl} {A:DE} {R:Result->AS->Prop} {s:AS} {elt target iter:Ah} {ifs:↑Ah} {scope:FS} {pos:Pos} {it acc:A9} {env:Env} (J:Nat->AS->Prop)(turn:∀n s,J n s->An Ω A (OQ it) (λr D3=>match r with
    |none=>R (.ok .next) D3
    |some v=>An (B4 prog w) A (ZH target it v) (λ_ sK=>An (B4 prog w) A (L7 target env v) (λ_ Jf=>
       An Ω A (forIn ifs true λc r=>if r=true then do let ok <-isTrue c env (BM c env);pure (Pb ok)else pure (Pb r)) (λok Qu=>
        if ok=true then An Ω A (BM elt env) (λx YV=>
         An Ω A (call (.builtin "list.append") [acc,x]) (λ_ sL=>∃m,m<n/\J m sL) (Pn Ω A env λe s'=>R (.error e) s') YV) (Pn Ω A env λe s'=>R (.error e) s') Qu
        else ∃m,m<n/\J m Qu) (Pn Ω A env λe s'=>R (.error e) s') Jf) (Pn Ω A env λe s'=>R (.error e) s') sK) (Pn Ω A env λe s'=>R (.error e) s') D3) (Pn Ω A env λe s'=>R (.error e) s') s)
  (n:Nat) (h:J n s):MY Ω A (.compLoop (.ListComp elt [⟨target,iter,ifs,0⟩] scope pos) 0 it acc env) R s:=by
 refine codeAny_loop rfl J (λn s QL=>?_) n h;show An _ A ((compTurn (.ListComp elt [⟨target,iter,ifs,0⟩] scope pos) 0 it acc env).onRaise (λx=>do noteFrame x env;theTreesLotGoes x)) _ _ s;refine wpAny_noted ?_;rw[compTurn_list];refine Ad (wpAny_standAt (Ad (Hh (turn n s QL) (λr D3 Ng=>?_) λ_ _ h'=>h')));cases r with
 |none=>exact B_ Ng
 |some v=>
  refine Ad (Hh Ng (λ_ sK zf=>?_) λ_ _ h'=>h');refine Ad (Hh zf (λ_ Jf Ot=>Ad (Hh Ot (λok Qu Ou=>?_) λ_ _ h'=>h')) λ_ _ h'=>h');cases ok with
  |false=>exact B_ ⟨rfl,Ou⟩
  |true=>exact Ad (Ad (Hh Ou (λx YV US=>Ad (Hh US (λ_ sL Io=>B_ (B_ ⟨rfl,Io⟩)) λ_ _ h'=>h')) λ_ _ h'=>h'))
abbrev Gp(X:Aq)(scope:FS)(N:↑Str)(cl:↑(Str×A7))(C:A7)(s:AS)(H:AE)(BP:↑A7):Aq where
 prog:=X.prog
 w:=X.w
 K:=X.K
 mg:=X.mg
 base:=X.base
 A:=X.A
 N:=N
 G_:=s
 LB:=H
 env:=compEnvC scope cl C X.env
 outer:=X.stack
 stack:=X.stack
 ex:=BP
 calm:=X.calm
 fn:=λx=>scope.names.lookup x==↥.cell
 C7:=[]
 DB:=λ_ _=>False
noncomputable def O5(nl:Nat)(caps:↑Nat)(σ :St):St:=Gd nl none++caps.map λj=> σ.getD j none
noncomputable def bp:Option L6->Bool
 |some .cell=>true
 |some .free=>true
 |_=>false
structure M3(sc:FS)(O2:↑Str)(scope:FS)(N:↑Str)(nl:Nat)(caps:↑Nat):Prop where
 kind:scope.kind=.function
 uniq:∀x∈scope.names,scope.names.lookup x.1=↥x.2
 free:∀x∈scope.names,x.2=.free->bp (sc.names.lookup x.1)=true
 len:⇑N=nl+⇑caps
 wP:∀k j,caps[k]?=↥j->∃x,O2[j]?=↥x/\N[nl+k]?=↥x/\scope.names.lookup x=↥.free/\bp (sc.names.lookup x)=true
def Vv(sc:FS)(O2:↑Str)(scope:FS)(N:↑Str)(nl:Nat)(caps:↑Nat):Bool:=
 (scope.kind==.function)&&scope.names.all (λx=>scope.names.lookup x.1==↥x.2&&(x.2 !=.free||bp (sc.names.lookup x.1)))&&
 (⇑N==nl+⇑caps)&&(caps.zipIdx.all λl2=>match O2[l2.1]? with
   |none=>false
   |some x=>N[nl+l2.2]?==↥x&&scope.names.lookup x==↥.free&&bp (sc.names.lookup x))
def M3.of{sc:FS}{O2:↑Str}{scope:FS}{N:↑Str}{nl:Nat}{caps:↑Nat}(h:Vv sc O2 scope N nl caps=true):M3 sc O2 scope N nl caps:=by
 unfold Vv at h;rw[Hz,Hz,Hz]at h;obtain⟨⟨⟨h1,h2⟩,BO⟩,D5⟩:=h;rw[Pg]at h2 D5;refine⟨eq_of_beq h1,λx AJ=>?_,λx AJ e=>?_,eq_of_beq BO,λk j e=>?_⟩
 .have:=h2 x AJ;rw[Hz]at this;exact eq_of_beq this.1
 .have:=h2 x AJ;rw[Hz]at this;have q:=this.2;rw[e]at q;simpa using q
 .have m:(j,k)∈caps.zipIdx:=by
    rw[List.mem_zipIdx_iff_getElem?];exact e
  have q:=D5 _ m;dsimp only at q
  split at q
  .cases q
  .rename_i x ex;rw[Hz,Hz]at q;exact⟨x,ex,eq_of_beq q.1.1,eq_of_beq q.1.2,q.2⟩
def M3.locs{sc:FS}{O2:↑Str}{scope:FS}{N:↑Str}{nl:Nat}{caps:↑Nat}(S:M3 sc O2 scope N nl caps):∀x∈scope.names,x.2=.local->scope.names.lookup x.1=↥.local:=λx AJ e=>e▸S.uniq x AJ
theorem eI:∀(ns:↑(Str×L6))(n:Nat)(a b:↑(Str×A7)),IB n ns (a++b)=IB n ns a++b
 |[],_,_,_=>rfl
 |(x,k)::r,n,a,b=>by
  unfold IB
  split
  .exact eI r (n+1) ((x,n)::a) b
  .exact eI r n a b
theorem b2{x:Str}{c:A7}:∀(ns:↑(Str×L6))(n:Nat)(a:↑(Str×A7)),(x,c)∈IB n ns a->(x,NameKind.cell)∈ns\/(x,c)∈a
 |[],_,_,h=>.inr h
 |(y,k)::r,n,a,h=>by
  unfold IB at h
  split at h
  .rename_i AR;rcases b2 r _ _ h with z|z
   .exact .inl (Gy _ z)
   .rcases List.mem_cons.mp z with e|z
    .injection e with AD AH;subst AD;rw[eq_of_beq AR];exact .inl Hg
    .exact .inr z
  .rcases b2 r _ _ h with z|z
   .exact .inl (Gy _ z)
   .exact .inr z
def acV{M:Model}{A:DE}{E:A9->AS->Prop}{s:AS}{scope:FS}{globals:A7}{cl:↑(Str×A7)}{qual:Str}{env:Env}{Q:Env->AS->Prop}(Fo:Q { scope:=scope,locals:=s.heap.objs.size,globals:=globals,cells:=IB (s.heap.objs.size+1) scope.names cl,qual:=qual,func:=none,code:=env.code,frame:=env.frame,builtins:=env.builtins } { s with heap:=pushCells (s.heap.push { cls:=.type "dict",data:=.dict #[] }) scope.names }) :
  An M A (i2 scope globals cl [] qual none .none ↥env) Q E s:=by
 erw[i2,u6,if_true];refine Ad (wpAny_alloc ?_);refine Ad (wpAny_layCells _ (λname kind cells=>by cases yW:kind==NameKind.cell<;>simp[yW]) _ _ _ _ ?_);rw[show({ s with heap:=s.heap.push { cls:=.type "dict",data:=.dict #[] } }:AS).heap.objs.size=s.heap.objs.size+1 from Li ..];exact Ad (B_ (B_ Fo))
def gC{scope:FS}{env:Env}{x:Str}{k:L6}(h:(Lp scope env).names.lookup x=↥k):(x,k)∈scope.names\/(k=.cell/\(x,Jk)∈scope.names):=by
 have m:=NG h;obtain⟨⟨y,q⟩,AP,e⟩:=List.mem_map.mp m;dsimp only at e
 split at e
 .rename_i AI;injection e with AD AH;subst AD;have hf:q=.free:=by
   rw[Hz,Hz]at AI;exact eq_of_beq AI.1.1
  subst hf;exact .inr ⟨AH.symm,AP⟩
 .injection e with AD AH;subst AD;subst AH;exact .inl AP
def Wv(J1:TI)(g:K5)(HP:TT)(te:TE)(nl:Nat)(caps:↑Nat):TE:=λσ H Q=>
 J1 σ H λBH H1=>∀acc,H1 acc=none->∃W:Nat->Nat->St->AE->Prop,(∃m,W 0 m (O5 nl caps σ) (upd H1 acc (.lst [])))/\
  ∀i m σ' AB,W i m σ' AB->(BH.stop i AB/\Q (.ref acc) AB)\/
   (BH.go i AB/\∀x AU,BH.Xt i AB x AU->g x σ' AU λσ2 C4=>HP σ2 C4 λb Dd=>
      if b=true then te σ2 Dd λy EN=>∃ys,EN acc=↥(.lst ys)/\ ⇑ys<CO/\∃EJ,EJ<m/\W (i+1) EJ σ2 (upd EN acc (.lst (ys++[y])))
      else ∃EJ,EJ<m/\W (i+1) EJ σ2 Dd)
section
variable{X:Aq}{elt target iter:Ah}{ifs:↑Ah}{scope:FS}{pos:Pos}{N:↑Str}{nl:Nat}{caps:↑Nat}{J1:TI}{g:K5}{HP:TT}{te:TE}
def Q4(X:Aq)(ifs:↑Ah)(t:TT):Prop:=
 ∀(A4:μ)(s:AS)(σ :St)(H:AE)(Q:Bool->AE->Prop),θ->t σ H Q->
  An ξ X.A (forIn ifs true λc r=>if r=true then do let ok <-isTrue c X.env (BM c X.env);pure (Pb ok)else pure (Pb r)) (Zl X A4 σ Q) X.DB s
def agv:TT:=λ_ H Q=>Q true H
def agM:Q4 X [] agv:=λ_ _ _ H _ J h=>wpAny_tests_nil ⟨H,J,h⟩
def agN{c:Ah}{t:TT}(h:El X c t):Q4 X [c] t:=λA4 s σ H Q J hw=>wpAny_tests_one (h A4 s σ H Q J hw)
def abK{A4:μ}{σ :St}{H:AE}{s s4:AS}{cl:↑(Str×A7)}{BP:↑A7}(S:M3 X.env.scope X.N scope N nl caps)(J:θ)(k1:∀x c,cl.lookup x=↥c->X.env.cells.lookup x=↥c\/(scope.names.lookup x=↥.cell/\s.heap.objs.size<c/\s4.heap.IsCell c none))(k2:∀x,(x,Jk)∈scope.names->cl.lookup x=X.env.cells.lookup x)(k3:∀x,scope.names.lookup x=↥.cell->∃c,cl.lookup x=↥c/\s.heap.objs.size<c)(bu:∀x y c,cl.lookup x=↥c->cl.lookup y=↥c->x=y)(hf:∀b∈BP,Kn X A4 H b)(DH:∀b∈BP,b<s.heap.objs.size)(SY:s4.os=s.os)(Am:s4.gens=s.gens)(AM:∃m,s4.heap.Ns s.heap.objs.size m)(AR:∀b o,s.heap.get? b=↥o->s4.heap.get? b=↥o) :
  Inv (Gp X scope N cl s.heap.objs.size s H BP) [] (O5 nl caps σ) H s4:=by
 refine⟨⟨J.ok.mod,?_,J.ok.glob,J.ok.blt,C1 _,bu,λx AJ=>?_,λx c z e=>?_,J.ok.hd,J.ok.frames,.inl rfl,λb A5=>⟨F7 (DH b A5),λx c e=>(k1 x c e).elim (λe=>(hf b A5).2.2.2.2.1 x c e) λe=>R6 (iK (DH b A5) e.2.1)⟩,J.bs,IG J.ok.PJ J.Qt,λb o e A5=>?_,λb A5 AQ=>?_,J.stack,J.hB⟩,
  SY,?_,GJ.kept AR,?_,λx c e=>?_,J.Az.fresh (C1 _),λx c e=>(k1 x c e).elim (J.KQ x c) λe=>J.Az.fresh (Pj e.2.1),λp AV=>absurd (show p∈([]:μ)from AV) γ,J.Az.kept AR,?_⟩
 .show(Lp scope X.env).kind=.function;exact S.kind
 .have AJ:(Lp scope X.env).names.lookup x=↥.cell\/(Lp scope X.env).names.lookup x=↥.free:=AJ;have hm:(x,Jk)∈scope.names\/scope.names.lookup x=↥.cell:=by
   rcases AJ with h|h
   .rcases gC h with m|⟨_,m⟩
    .exact .inr (S.uniq _ m)
    .exact .inl m
   .rcases gC h with m|⟨e,_⟩
    .exact .inl m
    .cases e
  rcases hm with hm|hm
  rotate_left
  .obtain⟨c,e,_⟩:=k3 x hm;exact⟨c,e⟩
  have AW:=S.free _ hm rfl;have AI:∃c,X.env.cells.lookup x=↥c:=by
   apply J.ok.has x;show X.env.scope.names.lookup x=↥.cell\/X.env.scope.names.lookup x=↥.free;cases e:X.env.scope.names.lookup x with
   |none=>rw[e]at AW;cases AW
   |some k=>
    rw[e]at AW
    cases k<;>first
     |exact .inl rfl
     |exact .inr rfl
     |cases AW
  obtain⟨c,e⟩:=AI;exact⟨c,by show cl.lookup x=↥c;rw[k2 x hm];exact e⟩
 .obtain⟨Dq,Bb,q⟩:=k3 x (eq_of_beq z);rw[show cl.lookup x=↥c from e]at Bb;cases Bb;exact Pj q
 .rcases(hf b A5).2.2.2.1 with z|z
  .exact J.ok.To b o e z
  .exact absurd (GG (Dk (J.ok.bs b o e).1) z) (Jj _)
 .rcases List.mem_cons.mp (J.YR b AQ)with z|z
  .exact(hf b A5).2.1 z
  .exact(hf b A5).2.2.1 z
 .rw[Am];exact J.bare
 .obtain⟨m,AM⟩:=AM;refine⟨m,AM,λi x v h1 h2 BO=>?_⟩;have hN:N[i]?=↥x:=h1;unfold O5 at h2;by_cases hi:i<nl
  .rw[GR (hi:),Yh,if_pos hi]at h2;cases h2
  .rw[NJ (hi:),V0,E7]at h2;cases e:caps[i-nl]? with
   |none=>rw[e]at h2;cases h2
   |some j=>
    rw[e]at h2;have h2: σ.getD j none=↥v:=Gc h2;obtain⟨y,AD,AH,eU,Oe⟩:=S.wP _ _ e;have DT:(y,Jk)∈scope.names:=NG eU;have Od:Zm X.env.scope y:=by
     cases q:X.env.scope.names.lookup y with
     |none=>rw[q]at Oe;cases Oe
     |some k=>
      rw[q]at Oe
      cases k<;>first
       |exact .inr (.inl q)
       |exact .inr (.inr q)
       |cases Oe
    have Gj:nl+(i-nl)=i:=δ
    rw[Gj,hN]at AH;cases AH;have AQ: σ[j]?=↥↥v:=by
     rw[Ef]at h2;cases q: σ[j]? with
     |none=>rw[q]at h2;cases h2
     |some o=>rw[q]at h2;exact congrArg some h2
    obtain⟨m0,_,AF⟩:=J.loc;obtain⟨u,r,l⟩:=AF j x v AD AQ Od;refine⟨u,r,.inr ⟨?_,?_⟩⟩
    .show(Lp scope X.env).names.lookup x=↥.cell\/(Lp scope X.env).names.lookup x=↥.free;rcases BO with BO|BO|BO
     .have BO:(Lp scope X.env).names.lookup x=↥.local:=BO;rcases gC BO with z|⟨z,_⟩
      .have F6:scope.names.lookup x=↥.local:=S.locs _ z rfl;rw[F6]at eU;cases eU
      .cases z
     .exact .inl BO
     .exact .inr BO
    .have AW:X.env.scope.names.lookup x≠↥.local:=λz=>by rw[z]at Oe;cases Oe
     rcases l with⟨z,_⟩|⟨_,c,Fi,F6⟩
     .exact absurd z AW
     .refine⟨c,?_,F6.keeps AR⟩;show cl.lookup x=↥c;rw[k2 x DT];exact Fi
 .rcases k1 x c e with e|e
  .obtain⟨v,z⟩:=J.cell x c e;exact⟨v,z.keeps AR⟩
  .exact⟨_,e.2.2⟩
 .show⇑(O5 nl caps σ)=⇑N;unfold O5;rw[EM,V0,Ch,S.len]
def abM{A4:μ}{σ σ' :St}{H AB:AE}{s s':AS}{cl:↑(Str×A7)}{BP:↑A7}{h':BF}(J:θ)(hf:∀b∈BP,Kn X A4 H b)(BH:Inv (Gp X scope N cl s.heap.objs.size s H BP) [] σ' AB s')(AQ:L1 s.heap.objs.size s'.heap h'):Inv X A4 σ AB { s' with heap:=h' }:=by
 have ne:∀b o,s.heap.get? b=↥o->b≠s.heap.objs.size:=λb o e=>F7 (Dk e);have u:GJ (FF X.stack) BP H AB s.heap s'.heap:=BH.base;have fr:AB s.heap.objs.size=none:=BH.free;refine J.iq (ch:=BP) (s':={ s' with heap:=h' }) BH.os ⟨λb o e n A5 AJ=>(AQ.2 b (ne b o e)).trans (u.keep b o e n A5 AJ),λb o e n A5 AJ=>?_,u.free,λb o e AJ=>?_,u.JI,u.Hr,u.JH⟩ (λb o e=>?_) BH.bare λb A5=>?_
 .obtain⟨Bm,q⟩:=u.slot b o e n A5 AJ;exact⟨Bm,(AQ.2 b (ne b o e)).trans q⟩
 .obtain⟨o',q⟩:=u.there b o e AJ;exact⟨o',(AQ.2 b (ne b o e)).trans q⟩
 .refine(BH.Az b o e).NR (λc v AI q=>(AQ.2 c ?_).trans q) (λ_ q=>q) λ_ _ q=>q;rintro rfl;rcases AI with z|z
  .rw[<-z,fr]at e;cases e
  .rw[fr]at z;cases z
 .obtain⟨_,f1,_,Ev,f4,GU⟩:=hf b A5;exact⟨Ev,f1,f4,GU⟩
def jP {A4:μ} {σ :St} {s2:AS} {AU:AE} {it:A7} {BP:↑A7} {Hw:Nat->BF->Prop} {BH:It} {E:A9->AS->Prop} {Q:AE->Prop} {W:Nat->Nat->St->AE->Prop} {m0:Nat}(S:M3 X.env.scope X.N scope N nl caps) (AI:X.calm=true) (BW:Inv X A4 σ AU s2) (T:Turn X.prog X.w X.K target BH BP it Hw) (KC:Hw 0 s2.heap) (f2:∀b∈BP,Kn X A4 AU b)(Am:∀cl C s H BP,Hb (Gp X scope N cl C s H BP) target g) (Bc:∀cl C s H BP,Q4 (Gp X scope N cl C s H BP) ifs HP) (he:∀cl C s H BP,Af (Gp X scope N cl C s H BP) elt te)(KG:W 0 m0 (O5 nl caps σ) (upd AU s2.heap.objs.size (.lst [])))(turn:∀i m σ' AB,W i m σ' AB->(BH.stop i AB/\Q AB)\/
    (BH.go i AB/\∀x C4,BH.Xt i AB x C4->g x σ' C4 λσ2 Dd=>HP σ2 Dd λb EN=>
       if b=true then te σ2 EN λy Fj=>∃ys,Fj s2.heap.objs.size=↥(.lst ys)/\ ⇑ys<CO/\∃EJ,EJ<m/\W (i+1) EJ σ2 (upd Fj s2.heap.objs.size (.lst (ys++[y])))
       else ∃EJ,EJ<m/\W (i+1) EJ σ2 EN))
  (Vi:A9->A7->Result->AS->Prop)
  (zS:∀(C:A7) s' AB,(∃m,s'.heap.Ns C m)->Kn X A4 AB C->(∀h',L1 C s'.heap h'->Inv X A4 σ AB { s' with heap:=h' })->Q AB->Vi (.ref s2.heap.objs.size) C (.ok .next) s') :
  An ξ X.A (newList []) (λacc Qu=>An ξ X.A (i2 scope X.env.globals (I6 X.env scope.names []) [] X.env.qual none .none ↥X.env) (λiv YV=>
   MY ξ X.A (.compStart (.ListComp elt [⟨target,iter,ifs,0⟩] scope pos) 0 (.ref it) acc { iv with scope:=Lp scope X.env }) (Vi acc iv.locals) YV) E Qu) E s2:=by
 have aX:∀p∈scope.names,p.2=.free->∃c,X.env.cells.lookup p.1=↥c:=λp AV e=>by
  have q:=S.free p AV e;apply BW.ok.has p.1;show X.env.scope.names.lookup p.1=↥.cell\/X.env.scope.names.lookup p.1=↥.free;cases AH:X.env.scope.names.lookup p.1 with
  |none=>rw[AH]at q;cases q
  |some k=>
   rw[AH]at q
   cases k<;>first
    |exact .inl rfl
    |exact .inr rfl
    |cases q
 have SU:∀x,(I6 X.env scope.names []).lookup x=if(x,Jk)∈scope.names then X.env.cells.lookup x else none:=λx=>ix scope.names [] aX
 have lV:AU s2.heap.objs.size=none:=BW.Az.fresh (C1 _);refine Lm (acV ?_);dsimp only;have D4:Inv X A4 σ (upd AU s2.heap.objs.size (.lst [])) { s2 with heap:=s2.heap.push { cls:=.type "list",dict:=none,data:=.seq ([]:↑A9).toArray } }:=BW.eX (its:=[]) (ys:=[]) (t':=s2.toks) .nil (IC _);generalize fU:({ s2 with heap:=s2.heap.push { cls:=.type "list",dict:=none,data:=.seq ([]:↑A9).toArray } }:AS)=s3 at D4;have df:s2.heap.push { cls:=.type "list",dict:=none,data:=.seq ([]:↑A9).toArray }=s3.heap:=by rw[<-fU]
 rw[df];have o5:∀b o,s2.heap.get? b=↥o->s3.heap.get? b=↥o:=λb o e=>by rw[<-df];exact Cy _ e
 have ahF:s3.heap.objs.size=s2.heap.objs.size+1:=by rw[<-df,Li]
 have kc:=eI scope.names (s3.heap.objs.size+1) [] (I6 X.env scope.names []);have ok:=cellsFrom_ok scope.names (s3.heap.push { cls:=.type "dict",data:=.dict #[] }) (s3.heap.objs.size+1) [] ⟨λ_ _ hm=>(nomatch hm),u3⟩ (by rw[Li];exact C1 _);have l6:=(Heap.Ns.new s3.heap (.type "dict")).keeps (pushCells_keeps scope.names _);have bz:∀b o,s3.heap.get? b=↥o->(pushCells (s3.heap.push { cls:=.type "dict",data:=.dict #[] }) scope.names).get? b=↥o:=λb o e=>pushCells_keeps _ _ b o (Cy _ e);rw[Li]at ok;rw[NF]at kc;rw[kc];generalize pushCells (s3.heap.push { cls:=.type "dict",data:=.dict #[] }) scope.names=Ng at l6 bz ok |-;have old:∀x c,X.env.cells.lookup x=↥c->c<s3.heap.objs.size:=λx c e=>by obtain⟨v,z⟩:=D4.cell x c e;exact z.lt
 have k0:∀x c,(IB (s3.heap.objs.size+1) scope.names []++I6 X.env scope.names []).lookup x=↥c->((x,c)∈IB (s3.heap.objs.size+1) scope.names []/\scope.names.lookup x=↥.cell/\s3.heap.objs.size<c/\Ng.IsCell c none)\/X.env.cells.lookup x=↥c:=λx c e=>by
  rw[hr]at e;cases AD:(IB (s3.heap.objs.size+1) scope.names []).lookup x with
  |some Dq=>
   rw[AD]at e;have e:Dq=c:=Gc e;subst e;have m:=NG AD;rcases b2 _ _ _ m with z|z
   .exact .inl ⟨m,S.uniq _ z,(ok.empty _ _ m).2,(ok.empty _ _ m).1⟩
   .cases z
  |none=>
   rw[AD]at e;have e:(I6 X.env scope.names []).lookup x=↥c:=e;rw[SU]at e
   split at e
   .exact .inr e
   .cases e
 have k2:∀x,(x,Jk)∈scope.names->(IB (s3.heap.objs.size+1) scope.names []++I6 X.env scope.names []).lookup x=X.env.cells.lookup x:=λx AJ=>by
  rw[hr];cases AD:(IB (s3.heap.objs.size+1) scope.names []).lookup x with
  |some Dq=>
   rcases b2 _ _ _ (NG AD)with z|z
   .have q1:=S.uniq _ z;have q2:=S.uniq _ AJ;dsimp only at q1 q2;rw[q1]at q2;cases q2
   .cases z
  |none=>show(I6 X.env scope.names []).lookup x=_;rw[SU,if_pos AJ]
 have k3:∀x,scope.names.lookup x=↥.cell->∃c,(IB (s3.heap.objs.size+1) scope.names []++I6 X.env scope.names []).lookup x=↥c/\s3.heap.objs.size<c:=λx AJ=>by obtain⟨c,e⟩:=eH (n:=s3.heap.objs.size+1) AJ;exact⟨c,by rw[hr,e];rfl,(ok.empty _ _ (NG e)).2⟩
 have bu:∀x y c,(IB (s3.heap.objs.size+1) scope.names []++I6 X.env scope.names []).lookup x=↥c->(IB (s3.heap.objs.size+1) scope.names []++I6 X.env scope.names []).lookup y=↥c->x=y:=λx y c h1 h2=>by
  rcases k0 x c h1 with Fi|Fi<;>rcases k0 y c h2 with F6|F6
  .exact name_of_addr ok.apart Fi.1 F6.1
  .exact absurd (old y c F6) (Nat.not_lt_of_gt Fi.2.2.1)
  .exact absurd (old x c Fi) (Nat.not_lt_of_gt F6.2.2.1)
  .exact D4.ok.inj x y c Fi F6
 have k1:∀x c,(IB (s3.heap.objs.size+1) scope.names []++I6 X.env scope.names []).lookup x=↥c->X.env.cells.lookup x=↥c\/(scope.names.lookup x=↥.cell/\s3.heap.objs.size<c/\Ng.IsCell c none):=λx c e=>(k0 x c e).elim (λz=>.inr z.2) .inl;generalize IB (s3.heap.objs.size+1) scope.names []++I6 X.env scope.names []=cl at k0 k1 k2 k3 bu |-;have l4:∀b∈BP,b<s2.heap.objs.size:=λb A5=>by obtain⟨o,e,_⟩:=T.obj 0 _ KC b A5;exact Dk e
 have Ev:∀b∈BP,Kn X A4 (upd AU s2.heap.objs.size (.lst [])) b:=λb A5=>by obtain⟨H3,a1⟩:=f2 b A5;exact⟨by rw[DJ (F7 (l4 b A5))];exact H3,a1⟩
 have fM:∀b∈BP,b<s3.heap.objs.size:=λb A5=>by rw[ahF];exact VE (l4 b A5)
 have loop:∀s4:AS,s4={ s3 with heap:=Ng }->
   MY ξ X.A (.compLoop (.ListComp elt [⟨target,iter,ifs,0⟩] scope pos) 0 (.ref it) (.ref s2.heap.objs.size) (compEnvC scope cl s3.heap.objs.size X.env))
    (Vi (.ref s2.heap.objs.size) s3.heap.objs.size) s4:=by
  intro s4 UR;have M6:Inv (Gp X scope N cl s3.heap.objs.size s3 (upd AU s2.heap.objs.size (.lst [])) BP) [] (O5 nl caps σ) (upd AU s2.heap.objs.size (.lst [])) s4:=
   abK S D4 (by rw[UR];exact k1) k2 k3 bu Ev fM (by rw[UR]) (by rw[UR]) ⟨_,by rw[UR];exact l6⟩ (by rw[UR];exact bz)
  have agg:Hw 0 s4.heap:=T.keep 0 _ _ KC λb A5 o e=>by rw[UR];exact bz b o (o5 b o e)
  generalize Ls:Gp X scope N cl s3.heap.objs.size s3 (upd AU s2.heap.objs.size (.lst [])) BP=B at M6;have stat:∀{AB:AE},(∀b∈BP,AB b=none)->∀b∈BP,Kn B [] AB b:=λ{AB} AM b A5=>by
   subst Ls;obtain⟨H3,a1,a2,CF,PH,O3⟩:=Ev b A5;refine⟨AM b A5,F7 (fM b A5),λz=>?_,.inl A5,λx c e=>?_,λp AV=>absurd (show p∈([]:μ)from AV) γ⟩
   .rcases List.mem_cons.mp (D4.YR b z)with q|q
    .exact a1 q
    .exact a2 q
   .rcases k1 x c e with e|e
    .exact PH x c e
    .exact R6 (iK (fM b A5) e.2.1)
  have z1:Hb B target g:=by subst Ls;exact Am _ _ _ _ _
  have aaQ:Q4 B ifs HP:=by subst Ls;exact Bc _ _ _ _ _
  have yx:Af B elt te:=by subst Ls;exact he _ _ _ _ _
  have VV:B.prog=X.prog:=by subst Ls;rfl
  have D0:B.w=X.w:=by subst Ls;rfl
  have QH:B.K=X.K:=by subst Ls;rfl
  have L_:B.A=X.A:=by subst Ls;rfl
  have VU:B.env=compEnvC scope cl s3.heap.objs.size X.env:=by subst Ls;rfl
  have kq:B.calm=true:=by subst Ls;exact AI
  have xZ:B.DB=λ_ _=>False:=by subst Ls;rfl
  rw[<-VV,<-D0,<-L_,<-VU];refine wW (λn s'=>∃i σ' AB,Inv B [] σ' AB s'/\Hw i s'.heap/\(∀b∈BP,AB b=none)/\W i n σ' AB) ?_ m0 ⟨0,_,_,M6,agg,λb A5=>(Ev b A5).1,KG⟩;rintro n s5 ⟨i,σ5,EN,P7,Uj,aQ,Y5⟩;have away:∀{α:Type}{t:Sem α}{jR:α->AS->Prop}{uU:A9->AS->Prop}{PP:AS},An (B4 B.prog B.w) B.A t jR B.DB PP->An (B4 B.prog B.w) B.A t jR uU PP:=λh=>Hh h (λ_ _ q=>q) λe s' z=>by rw[xZ]at z;cases z
  rcases turn i n σ5 EN Y5 with⟨stop,q⟩|⟨go,Do⟩
  .have d:=T.done B VV D0 QH kq i [] s5 σ5 EN (Pn (B4 B.prog B.w) B.A B.env λe s'=>Vi (.ref s2.heap.objs.size) s3.heap.objs.size (.error e) s') P7 (stat aQ) Uj stop;rw[<-VV,<-D0]at d;refine BV d λr s6⟨B6,RS⟩=>?_;subst B6;refine zS _ s6 EN ?_ (D4.Mo (C1 _) ?_) (λh' Lf=>?_) q
   .obtain⟨m,AM,_⟩:=RS.loc;rw[VU]at AM;exact⟨m,AM⟩
   .have z:=RS.free;rw[VU]at z;exact z
   .subst Ls;exact abM D4 Ev RS Lf
  .have d:=T.item B VV D0 QH kq i [] s5 σ5 EN (Pn (B4 B.prog B.w) B.A B.env λe s'=>Vi (.ref s2.heap.objs.size) s3.heap.objs.size (.error e) s') P7 (stat aQ) Uj go;rw[<-VV,<-D0]at d;refine BV d λr s6⟨u,B6,Fa⟩=>?_;subst B6;refine BV Fa λ_ s7⟨x,CZ,LC,SD,gw,h8,xf⟩=>?_;have uF:=LC.pinned (stat xf) (T.obj _ _ h8);refine away (BV (z1 _ s7 σ5 CZ x u _ uF SD (Do x CZ gw)) λ_ HO⟨σ8,FV,uG,Qm⟩=>?_);refine away (BV (aaQ _ HO σ8 FV _ uG Qm) λb Gf⟨HE,iZ,oq⟩=>?_);have again:∀{σa:St}{P6:AE}{PP:AS},Inv B ([]++XE BP s7.heap) σa P6 PP->(∃EJ,EJ<n/\W (i+1) EJ σa P6)->∃m,m<n/\∃i σ' AB,Inv B [] σ' AB PP/\Hw i PP.heap/\(∀b∈BP,AB b=none)/\W i m σ' AB:=λ{σa P6 PP} cN⟨EJ,hm,aiM⟩=>by
    refine⟨EJ,hm,i+1,σa,P6,cN.Xz,T.keep _ _ _ h8 λb A5 o e=>(cN.pin (b,o) (IA _ (IA _ (bL A5 e)))).1,λb A5=>?_,aiM⟩;obtain⟨o,e,d⟩:=T.obj _ _ h8 b A5;exact(cN.pin (b,o) (IA _ (IA _ (bL A5 e)))).2.1
   cases b with
   |false=>exact again iZ oq
   |true=>show An _ _ (BM elt B.env) _ _ Gf;refine away (BV (yx _ Gf σ8 HE _ iZ oq) λaja afc⟨y,F9,uW,Bh,ys,AG,hz,agT⟩=>?_);refine away (BV (mV _ afc σ8 F9 (.ref s2.heap.objs.size) [y] (.ref s2.heap.objs.size) [aja] (λ_ iY=>iY=upd F9 s2.heap.objs.size (.lst (ys++[y]))) uW rfl (.cons Bh .nil) ⟨_,ys,y,rfl,rfl,AG,hz,rfl⟩) λ_ s11⟨z,iY,uD,_,wG⟩=>?_);subst wG;exact again uD agT
 exact codeAny_compStart_list (loop _ (by rw[<-fU])) (T.self X.A 0 _ _ _ (T.keep 0 _ _ KC λb A5 o e=>bz b o (o5 b o e)) (loop _ (by rw[<-fU])))
def li{A4:μ}{σ :St}{s:AS}{H:AE}(S:M3 X.env.scope X.N scope N nl caps)(J:θ):∀p∈scope.names,p.2=.free->∃c,X.env.cells.lookup p.1=↥c:=λp AV e=>by
 have q:=S.free p AV e;apply J.ok.has p.1;show X.env.scope.names.lookup p.1=↥.cell\/X.env.scope.names.lookup p.1=↥.free;cases AH:X.env.scope.names.lookup p.1 with
 |none=>rw[AH]at q;cases q
 |some k=>
  rw[AH]at q
  cases k<;>first
   |exact .inl rfl
   |exact .inr rfl
   |cases q
def nT(S:M3 X.env.scope X.N scope N nl caps)(AI:X.calm=true)(hi:Hk X target iter J1)(Am:∀cl C s H BP,Hb (Gp X scope N cl C s H BP) target g)(Bc:∀cl C s H BP,Q4 (Gp X scope N cl C s H BP) ifs HP)(he:∀cl C s H BP,Af (Gp X scope N cl C s H BP) elt te)(AQ:∀x,OF iter X.env x=pure x:=by intro _;rfl):Af X (.ListComp elt [⟨target,iter,ifs,0⟩] scope pos) (Wv J1 g HP te nl caps):=by intro A4 s σ H Q J h;rw[eval_ListComp];refine wpAny_comprehension_free (use:=none) rfl AQ (iy (li S J)) S.kind S.locs ?_;refine BV (hi A4 s σ H _ J h) λv s1 h1=>BV h1 λbt s2 h2=>?_;obtain⟨it,BP,Hw,BH,AU,e,BW,T,KC,f2,k⟩:=h2;subst e;obtain⟨W,⟨m0,KG⟩,turn⟩:=k s2.heap.objs.size (BW.Az.fresh (C1 _));refine jP (Q:=λAB=>Q (.ref s2.heap.objs.size) AB) S AI BW T KC f2 Am Bc he KG turn (λacc C=>compPost ξ X.A X.DB none (HD X A4 σ Q) acc C) ?_;intro C s' AB AM _ QL q;obtain⟨m,AM⟩:=AM;exact⟨m,AM,λh' Lf=>⟨.ref s2.heap.objs.size,AB,QL h' Lf,rfl,q⟩⟩
def aea{i:Nat}{y:Str}{py sC:Pos}(S:M3 X.env.scope X.N scope N nl caps)(AI:X.calm=true)(hN:X.N.Nodup)(AP:X.N[i]?=↥y)(AF:X.env.kindOf y=↥.local)(hi:Hk X target iter J1)(Am:∀cl C s H BP,Hb (Gp X scope N cl C s H BP) target g)(Bc:∀cl C s H BP,Q4 (Gp X scope N cl C s H BP) ifs HP)(he:∀cl C s H BP,Af (Gp X scope N cl C s H BP) elt te)(SZ:OJ (.ListComp elt [⟨target,iter,ifs,0⟩] scope pos) ↥(.Name y py) sC.line X.env=pure true:=by rfl)(AQ:∀x,OF iter X.env x=pure x:=by intro _;rfl):Df X (.Assign [.Name y py] (.ListComp elt [⟨target,iter,ifs,0⟩] scope pos) sC) (hG (Wv J1 g HP te nl caps) (aR i)):=by
 intro A4 s σ H De J h;rw[exec_Assign_Name_used _ _ _ _ SZ];refine Ad (wpAny_standAt (Ad ?_));show An _ X.A (do let _ <-comprehension (.ListComp elt [⟨target,iter,ifs,0⟩] scope pos) scope X.env _ (newList []) false (BM iter X.env) ↥(L7 (.Name y py) X.env)) _ _ s;refine Ad (Hh (wpAny_comprehension_free (use:=↥(L7 (.Name y py) X.env)) (Q:=λ_ s'=>Q6 X A4 De .next s') rfl AQ (iy (li S J)) S.kind S.locs ?_) (λ_ s' AW=>B_ (B_ AW)) λ_ _ e=>e);refine BV (hi A4 s σ H _ J h) λv s1 h1=>BV h1 λbt s2 h2=>?_;obtain⟨it,BP,Hw,BH,AU,e,BW,T,KC,f2,k⟩:=h2;subst e;obtain⟨W,⟨m0,KG⟩,turn⟩:=k s2.heap.objs.size (BW.Az.fresh (C1 _));refine jP (Q:=λAB=>De.AT (σ.set i ↥(.ref s2.heap.objs.size)) AB) S AI BW T KC f2 Am Bc he KG turn (λacc C=>compPost ξ X.A X.DB ↥(L7 (.Name y py) X.env) (λ_ s'=>Q6 X A4 De .next s') acc C) ?_;intro C s' AB AM JX QL q;obtain⟨m,AM⟩:=AM;show An _ X.A (L7 (.Name y py) X.env (.ref s2.heap.objs.size)) _ _ s';have FW:Inv X A4 σ AB s':=QL s'.heap (Heap.SameBut.refl _ _);refine wpAny_assign_Name (sI (v:=.ref s2.heap.objs.size) FW hN AP (.inl AF) (show RelV (V.ref _) _ from rfl) (λK9 uV aaM=>?_) (.inr AF));obtain⟨a,aaL,AG⟩:=aaM;obtain⟨NB,By,Cz,G7,ME,Vq⟩:=JX;have acu:C≠a:=by
  rcases AG with z|z
  .rw[z];exact By
  .exact λw=>ME y a z w.symm
 refine⟨m,AM.sameBut aaL acu,λh' Lf=>?_⟩;exact⟨_,AB,uV.turned (t':=K9.toks) (it:=C) (λb o A5 e=>(Lf.2 b A5).trans e) NB By G7 ME Vq,q⟩
end
structure TX(P:C9)(w:Bl)(outer:↑Env)(H AB:AE)(s:AS)(a:A7)(C H3:A9)(B:BF)(s':AS):Prop where
 os:s'.os=s.os
 bare:NM s'.gens
 un:GJ (FF outer) [] H AB s.heap s'.heap
 SM:Heap.FlyingW B outer a C H3 s'.heap
 old:∀b o,s.heap.get? b=↥o->H b=none->b∉FF outer->B.get? b=↥o
 Yd:∀b o,s.heap.get? b=↥o->b∉FF outer->∃o',B.get? b=↥o'
 Az:FA P w AB B
 AG:AB a=none
noncomputable def Iq(P:C9)(w:Bl):L8:=λouter H s E e s'=>∃(a:A7)(C H3:A9)(B:BF)(AB:AE),e=.ref a/\TX P w outer H AB s a C H3 B s'/\E C ↥a AB
section
variable{X:Aq}{A4:μ}{σ :St}{H AB:AE}{s s':AS}{a:A7}{C H3:A9}{B:BF}
def FA.part(x:FA X.prog X.w H s.heap)(k:∀b u,(H b).isSome=true->s.heap.get? b=↥u->B.get? b=↥u):FA X.prog X.w H B:=λb o e=>
 (x b o e).NR (λc u AI q=>k c u (by rcases AI with rfl|AI<;>simp[*]) q) (λ_ q=>q) λ_ _ q=>q
def kK{env:Env}{outer:↑Env}{L:A7}(h:env.frame=↥L){b:A7}(A5:b∈FF (env::outer)):b=L\/b∈FF outer:=by unfold FF at A5;rw[Sn,h]at A5;exact List.mem_cons.mp A5
def Inv.ab_{M:Model}{A:DE}{E:A9->AS->Prop}{h':BF}{vs:↑A9}{Q:Unit->AS->Prop}(J:θ)(GA:X.stack=X.env::X.outer)(Nf:X.env.frame=↥X.env.locals)(hex:X.ex=[])(H6:A.frames=↥X.stack)(AJ:Heap.MadeExcOf s.heap h' a C vs)(Fo:∀H3 B K9,TX X.prog X.w X.outer X.LB H X.G_ a C H3 B K9->Q () K9):An M A (leaving X.env (.ref a)) Q E { s with heap:=h' }:=by
 have yU:∀env∈X.stack,∀b,env.frame=↥b->b∈FF X.stack:=λenv he b A5=>List.mem_filterMap.mpr ⟨env,he,A5⟩;have GV:∀b o,s.heap.get? b=↥o->b∉FF X.stack->(ZG s.heap (FF X.stack)).get? b=↥o:=λb o q n=>tY _ q n;have Op:∀b o,X.G_.heap.get? b=↥o->b∉FF X.outer->b∉FF X.stack:=λb o q n z=>by
  rw[GA]at z;rcases kK Nf z with r|r
  .subst r;exact absurd (GG (Dk q) J.ok.above) (Jj _)
  .exact n r
 have J6:∀b,b∉X.ex:=λb z=>by rw[hex]at z;cases z
 refine PySem.wpAny_leaves_madeW (base:=ZG s.heap (FF X.stack)) (h:=s.heap) (by rw[H6,GA]) Nf (λb o q=>u4 _ q) (by have:=PySem.W.funFrames_hide (as:=FF X.stack) J.stack yU;rw[GA]at this |-;exact this) AJ λSQ t Cu Ca Ed Rn=>?_;refine Fo (.ref t) (ZG s.heap (FF X.stack)) _ ⟨J.os,J.bare,⟨?_,?_,?_,?_,J.base.JI,J.base.Hr,J.base.JH⟩,Cu,?_,?_,?_,?_⟩
 .exact λb o q n A5 _=>Cu.1 b o (GV b o (J.base.keep b o q n A5 (J6 b)) (Op b o q A5))
 .intro b o q n A5 _;obtain⟨Bm,q1⟩:=J.base.slot b o q n A5 (J6 b);obtain⟨_,o',Cm,Fs⟩:=J.ok.K8.mem A5;rw[q]at Cm;cases Cm;obtain⟨Qp,q2⟩:=Rn b _ (AJ.keeps b _ q1) Fs;exact⟨Qp,q2⟩
 .exact λb o q n _=>J.base.free b o q n (J6 b)
 .intro b o q _;by_cases A5:b∈FF X.outer
  .obtain⟨_,o',Cm,_⟩:=Cu.2.2.1.mem A5;exact⟨o',Cm⟩
  .obtain⟨o',Cm⟩:=J.base.there b o q (J6 b);exact⟨o',Cu.1 b o' (GV b o' Cm (Op b o q A5))⟩
 .exact λb o q n A5=>GV b o (J.base.keep b o q n A5 (J6 b)) (Op b o q A5)
 .intro b o q A5;obtain⟨o',Cm⟩:=J.base.there b o q (J6 b);exact⟨o',GV b o' Cm (Op b o q A5)⟩
 .exact FA.part (X:=X) (s:=s) J.Az λb u AQ q=>GV b u q λz=>by rw[J.hB b z]at AQ;cases AQ
 .cases q:H a with
  |none=>rfl
  |some o=>
   have k:∀o:FR,Dp X.prog X.w H s.heap a o->∃u,s.heap.get? a=↥u:=λo x=>by
    induction o with
    |lst xs=>obtain⟨_,_,_,_,e⟩:=x;exact⟨_,e⟩
    |tup xs=>obtain⟨_,_,_,_,e,_⟩:=x;exact⟨_,e⟩
    |Al AA=>obtain⟨_,_,_,_,o,_,_,e,_⟩:=x;exact⟨_,e⟩
    |ED AA=>obtain⟨_,_,_,_,o,_,_,e,_⟩:=x;exact⟨_,e⟩
    |set S n=>obtain⟨o,_,_,_,e,_⟩:=x;exact⟨_,e⟩
    |ins C Bo BA=>obtain⟨_,_,_,e,_⟩:=x;exact⟨_,e⟩
    |own y=>obtain⟨_,e⟩:=x;exact⟨_,e⟩
    |Rp BA=>obtain⟨_,⟨_,_,_,e,_⟩,_⟩:=x;exact⟨_,e⟩
    |YJ lo hi=>obtain⟨_,_,_,e⟩:=x;exact⟨_,e⟩
    |D7 BD u=>obtain⟨e,_⟩:=x;exact⟨_,e⟩
    |PT ps=>exact⟨_,(show s.heap.get? a=↥_ from x)⟩
    |met f y=>exact⟨_,(show s.heap.get? a=↥_ from x)⟩
    |ext φ=>obtain⟨_,⟨_,e⟩,_⟩:=x;exact⟨_,e⟩
   obtain⟨u,e⟩:=k o (J.Az a o q);rw[AJ.new]at e;cases e
def Inv.aba{M:Model}{A:DE}{E:A9->AS->Prop}{Q:Unit->AS->Prop}(J:θ)(GA:X.stack=X.env::X.outer)(Nf:X.env.frame=↥X.env.locals)(hex:X.ex=[])(H6:A.frames=↥X.stack)(f:TX X.prog X.w X.stack H AB s a C H3 B s')(Fo:∀K9,TX X.prog X.w X.outer X.LB AB X.G_ a C H3 B K9->Q () K9):An M A (leaving X.env (.ref a)) Q E s':=by
 have Op:∀b o,X.G_.heap.get? b=↥o->b∉FF X.outer->b∉FF X.stack:=λb o q n z=>by
  rw[GA]at z;rcases kK Nf z with r|r
  .subst r;exact absurd (GG (Dk q) J.ok.above) (Jj _)
  .exact n r
 have aaG:∀b,b∈FF X.outer->b∈FF X.stack:=λb z=>by rw[GA];unfold FF;rw[Sn,Nf];exact Gy _ z
 have J6:∀b,b∉X.ex:=λb z=>by rw[hex]at z;cases z
 have no:∀b:A7,b∉([]:↑A7):=λb z=>by cases z
 obtain⟨os,bare,un,SM,old,Yd,Az,AG⟩:=f;rw[GA]at SM;refine PySem.wpAny_leaves_onW (by rw[H6,GA]) Nf SM λSQ Cu Ca=>?_;refine Fo _ ⟨os.trans J.os,bare,⟨?_,?_,?_,?_,λb xs q=>un.JI b xs (J.base.JI b xs q),λb o u q=>un.Hr b o u (J.base.Hr b o u q),?_⟩,Cu,?_,?_,Az,AG⟩
 .exact λb o q n A5 _=>Cu.1 b o (old b o (J.base.keep b o q n A5 (J6 b)) (J.base.free b o q n (J6 b)) (Op b o q A5))
 .intro b o q n A5 _;obtain⟨Bm,q1⟩:=J.base.slot b o q n A5 (J6 b);obtain⟨_,o',Cm,Fs⟩:=J.ok.K8.mem A5;rw[q]at Cm;cases Cm;obtain⟨SE,q2⟩:=un.slot b _ q1 (J.base.free b o q n (J6 b)) (aaG b A5) (no b);obtain⟨Qp,F4⟩:=Ca b _ q2 Fs;exact⟨Qp,F4⟩
 .intro b o q n _;obtain⟨o',Cm⟩:=J.base.there b o q (J6 b);exact un.free b o' Cm (J.base.free b o q n (J6 b)) (no b)
 .intro b o q _;by_cases A5:b∈FF X.outer
  .obtain⟨_,o',Cm,_⟩:=Cu.2.2.1.mem A5;exact⟨o',Cm⟩
  .obtain⟨o',Cm⟩:=J.base.there b o q (J6 b);obtain⟨EG,q2⟩:=Yd b o' Cm (Op b o q A5);exact⟨EG,Cu.1 b EG q2⟩
 .intro b ps q;obtain⟨GX,AD⟩:=J.base.JH b ps q;obtain⟨GY,AH⟩:=un.JH b _ AD;exact⟨GX++GY,by rw[AH,hq]⟩
 .exact λb o q n A5=>old b o (J.base.keep b o q n A5 (J6 b)) (J.base.free b o q n (J6 b)) (Op b o q A5)
 .intro b o q A5;obtain⟨o',Cm⟩:=J.base.there b o q (J6 b);exact Yd b o' Cm (Op b o q A5)
end
def xY{K:At}{h:BF}{C:A7}{Vp:↑A9}{newId:String}(X:K.In h)(q:VI K C Vp newId=true) :
  ∃bm N nm q bs hdct sn sub ab col dd k0 k1 k2 k3 k5 mN,h.get? C=↥(excClassObj nm q C N bs bm hdct sn sub ab col dd k0 k1 k2 k3 k5 newId)/\h.Ns N mN/\mN "__init__"=none/\OwnTail h Vp bm:=by
 unfold VI at q
 split at q
 .rename_i dd cd Bm ho
  split at q
  .rename_i Br bm k0 k1 k2 k3 n k5 hm AQ;erw[Hz,beq_iff_eq,Bool.not_eq_true']at q;obtain⟨⟨⟨⟨⟨rfl,rfl⟩,lb⟩,Bc⟩,Az⟩,ag⟩:=q;obtain⟨nm,bs,mro,ns,qn,hd,sn,sub,ab,col,del⟩:=cd;dsimp only at hm lb Az ag;subst hm lb;have aaO:Bm= #[k0,k1,k2,k3,↥(.builtin n),k5]:=by
    obtain⟨l⟩:=Bm;simp only at AQ;rw[AQ]
   subst aaO;exact⟨bm,ns,nm,qn,bs,hd,sn,sub,ab,col,dd,k0,k1,k2,k3,k5,_,X _ _ ho,.of_isNs (PySem.W.isNs_of_in X Az),PySem.W.nsMap_none_of_in X Az ag,PySem.W.tail_of_in X Bc⟩
  .cases q
 .cases q
noncomputable def ro(X:Aq)(C:A7):FL:=λ_ σ H=>∀A4 s h' a vs,θ->Heap.MadeExcOf s.heap h' a (.ref C) vs->X.DB (.ref a) { s with heap:=h' }
section
variable{X:Aq}{x:Str}{np Cg pos T7:Pos}{C:A7}{Vp:↑A9}{B newId abH:String}{m:Str}{j:Nat}
def ag8(FB:ExcBaseFacts B newId abH Vp)(q:VI X.K C Vp newId=true)(hm:X.mg x=↥(.ref C))(AI:X.calm=true:=by rfl)(Am:Ek X x:=by rfl)(hd:(x==("__debug__" :Str))=false:=by decide) :
  Df X (.Raise ↥(.Call (.Name x np) [.Constant (.str m) j T7] [] Cg) none pos) (ro X C):=by
 intro A4 s σ H D J h;obtain⟨bm,N,nm,qn,bs,hdct,sn,sub,ab,col,dd,k0,k1,k2,k3,k5,mN,JX,hN,ag,jU⟩:=xY J.mod.Ru q;refine wpAny_Raise_call_subT (mN:=mN) (C:=C) (nm:=nm) (q:=qn) (N:=N) (bs:=bs) (bm:=bm) (hdct:=hdct) (sn:=sn) (sub:=sub) (ab:=ab) (col:=col) (dd:=dd) (k0:=k0) (k1:=k1) (k2:=k2) (k3:=k3) (k5:=k5) FB (jU.hasType FB.hasBase) (J.ok.hd AI) rfl ag (WJ J Am hm ⟨rfl,?_⟩ hd);refine Z4 (V7 (BV (gi (X:=X) (x:=m) (j:=j) (pos:=T7) A4 s σ H (λ_ H1=>H1=H) J rfl) λu s1⟨v,H1,Ac,Ax,AD⟩=>?_));subst AD;refine VD ⟨rfl,ta rfl,Ac.Ba _ _ JX,hN.keeps Ac.Ba,jU.keeps Ac.Ba,λh' a AJ=>h A4 s1 h' a _ Ac AJ⟩
def ajG{P:C9}{w:Bl}{K:At}{mg:Str->Option A9}{base:BF}{N:↑Str}{qual:Str}{scope:FS}{f:A7}{cd:A9}{A:DE}{outer:↑Env}{s0:AS}{C3:AE}{E:FE}{σ :St}{H:AE}{De:Ends}(h:∀a,H a=none->E (.ref C) ↥a H):ro (Kz (Iq P w) P w K mg base N qual scope f cd A outer s0 C3 E) C De σ H:=λA4 s h' a vs J AJ=>
 J.ab_ (C:=.ref C) rfl rfl rfl J.ok.frames AJ λH3 B K9 Dv=>⟨a,.ref C,H3,B,H,rfl,Dv,h a Dv.AG⟩
def adb{P:C9}{w:Bl}{K:At}{mg:Str->Option A9}{base:BF}{N:↑Str}{qual:Str}{scope:FS}{f:A7}{cd:A9}{A:DE}{outer:↑Env}{s0:AS}{C3:AE}{E:FE} :
  Passes (Iq P w) (Kz (Iq P w) P w K mg base N qual scope f cd A outer s0 C3 E) E:=λA4 σ H s e s' J AJ=>by
 obtain⟨a,C,H3,B,AB,rfl,Dv,Nc⟩:=AJ;exact J.aba (X:=Kz (Iq P w) P w K mg base N qual scope f cd A outer s0 C3 E) rfl rfl rfl J.ok.frames Dv λK9 y6=>⟨a,C,H3,B,AB,rfl,y6,Nc⟩
end
abbrev xX(a:A7)(C:A9):FR:=.ext λh=>∃BD,h.get? a=↥BD/\BD.cls=C
section
variable{X:Aq}{A4:μ}{σ :St}{H AB:AE}{s s':AS}{a:A7}{C H3:A9}{B:BF}{SQ:BF}
def TX.inv(f:TX X.prog X.w X.stack H AB s a C H3 B s')(J:θ)(st:B.StaysIn SQ)(SK:SQ.FunFrames B X.stack)(up:s'.heap.UpToSlots SQ):Inv X A4 σ AB { s' with heap:=SQ }:=by
 have no:∀b:A7,b∉([]:↑A7):=λb z=>by cases z
 refine J.iq (s':={ s' with heap:=SQ }) (ch:=[]) f.os ⟨λb o q n A5 _=>st b o (f.old b o q n A5),λb o q n A5 _=>?_,f.un.free,λb o q _=>?_,f.un.JI,f.un.Hr,f.un.JH⟩ (f.Az.kept λb u q=>st b u q) f.bare (λb A5=>nomatch A5)
 .obtain⟨Bm,q1⟩:=f.un.slot b o q n A5 (no b);obtain⟨_,o',Cm,Fs⟩:=J.stack.mem A5;rw[q]at Cm;cases Cm;obtain⟨Qp,q2⟩:=up b _ q1 Fs;exact⟨Qp,q2⟩
 .by_cases A5:b∈FF X.stack
  .obtain⟨_,o',Cm,_⟩:=SK.mem A5;exact⟨o',Cm⟩
  .obtain⟨o',Cm⟩:=f.Yd b o q A5;exact⟨o',st b o' Cm⟩
end
def dM(X:Aq)(e:Ah)(t:TE)(E:FE):Prop:=∀(A4:μ)(s:AS)(σ :St)(H:AE)(Q:CQ),θ->t σ H Q->
 An ξ X.A (BM e X.env) (HD X A4 σ Q) (λx s'=>∃H1 s1,Inv X A4 σ H1 s1/\Iq X.prog X.w X.stack H1 s1 E x s') s
section
variable{X:Aq}{k:Nat}{f C:A7}{fd:I2}{ps:↑Str}{sp:Co}{E:FE}{x:Str}{p pos:Pos}{e:Ah}{es:↑Ah}{t:Fu}
end
abbrev Aq.marked(X:Aq)(a:A7):Aq:={ X with A:=X.A.mark ↥(.ref a),calm:=false,DB:=λ_ _=>False }
section
variable{X:Aq}{A4:μ}{σ :St}{H AB:AE}{s s':AS}{a:A7}
theorem Aq.Ok.marked(ok:X.Ok)(a:A7):(X.marked a).Ok:=
 ⟨ok.mod,ok.kind,ok.glob,ok.blt,ok.above,ok.inj,ok.has,ok.T6,(λz=>Bool.noConfusion z),ok.frames,ok.Ws,ok.dv,ok.bs,ok.PJ,ok.To,ok.VY,ok.K8,ok.QK⟩
theorem Inv.marked(J:θ)(a:A7):Inv (X.marked a) A4 σ H s:=⟨J.ok.marked a,J.os,J.bare,J.base,J.loc,J.cell,J.free,J.KQ,J.pin,J.Az,J.len⟩
def Inv.unmarked(ok:X.Ok)(J:Inv (X.marked a) A4 σ H s):θ:=⟨ok,J.os,J.bare,J.base,J.loc,J.cell,J.free,J.KQ,J.pin,J.Az,J.len⟩
end
section
variable{X:Aq}{i:Nat}{x n:Str}{W:A7}{e:Ah}{te:TE}{E:FE}{T1:BG}{Uk:↑BG}{ts:FL}{Ts np AV pos:Pos}
end
section
variable{prog:C9}{w:Bl}{A:DE}{E:A9->AS->Prop}{s:AS}
def acX{it t:A7}{i:Nat}{items:Array A9}{x:A9}{Q:A9->AS->Prop}(hit:s.heap.IsTupleIter it t i)(Bc:s.heap.IsTuple t items)(AJ:items[i]?=↥x)(Fo:∀h',h'.IsTupleIter it t (i+1)->L1 it s.heap h'->Q x { s with heap:=h' }):An Ω A (Sf (.ref it)) Q E s:=by
 obtain⟨o,ho,AI,hd⟩:=id hit;obtain⟨ol,UP,_,nl,UL⟩:=Bc;unfold Sf
 refine Ad (Sc (name:=So "__next__") hit.typeIs Yk
  (OE Yk hit.typeIs tJ ?_ (tU _)))
 show An _ _ (field (.ref it) 0>>=_) _ _ s;refine Ad (MS ho hd (x:=.ref t) rfl ?_);show An _ _ (if(Cv t==JP)=true then _ else _) _ _ s;rw[if_neg (show¬((Cv t==JP)=true)from L4)];show An _ _ (field (.ref it) 1>>=_) _ _ s;refine Ad (MS ho hd (x:=.int i 0) rfl ?_);show An _ _ (seqItems? (.ref t)>>=_) _ _ s;refine Ad (Pc UP UL ?_);erw[R5,AJ];refine Ad (ZB ho hd γ (B_ ⟨x,rfl,B_ (Fo _ ?_ (Si ..))⟩));exact⟨_,Sm _ ho (tc (Yw hd _)),(Obj.cls_mapFields ..).trans AI,by
  rw[Yw hd];simp[NN]⟩
def acW{it t:A7}{i:Nat}{items:Array A9}{Q:A9->AS->Prop}(hh:A.handled=none)(hit:s.heap.IsTupleIter it t i)(Bc:s.heap.IsTuple t items)(AJ:items[i]?=none)(Nc:∀h' e,Heap.ExtBut it s.heap h'->(∃o,h'.get? e=↥o/\o.cls=.type "StopIteration")->E (.ref e) { s with heap:=h' }):An Ω A (Sf (.ref it)) Q E s:=by
 obtain⟨o,ho,AI,hd⟩:=id hit;obtain⟨ol,UP,_,nl,UL⟩:=Bc;unfold Sf
 refine Ad (Sc (name:=So "__next__") hit.typeIs Yk
  (OE Yk hit.typeIs tJ ?_ (tU _)))
 show An _ _ (field (.ref it) 0>>=_) _ _ s;refine Ad (MS ho hd (x:=.ref t) rfl ?_);show An _ _ (if(Cv t==JP)=true then _ else _) _ _ s;rw[if_neg (show¬((Cv t==JP)=true)from L4)];show An _ _ (field (.ref it) 1>>=_) _ _ s;refine Ad (MS ho hd (x:=.int i 0) rfl ?_);show An _ _ (seqItems? (.ref t)>>=_) _ _ s;refine Ad (Pc UP UL ?_);erw[R5,AJ];refine Ad (wpAny_rule (Ad (ZB ho hd γ ?_)));show An _ _ (newExc (.type "StopIteration") []>>=_) _ _ _;refine Ad ?_;erw[newExc,newTuple];refine Ad (Lm ?_ (by size_fits));refine Ad (m:=ZC _ _) (wpAny_of_eq (a:=JP) (by first|rfl|(erw[ZC];rfl)) ?_);refine Lm ?_ (by size_fits);erw[raiseNew];refine Ad (wpAny_handled ?_)
 first|rw[show A.in1.handled=none from hh]|rw[hh]
 refine Ad (B_ (wpAny_throw ?_));exact Nc _ _ (((Si ..).extBut.push _).push _) ⟨_,Fe _ rfl,rfl⟩
def wA(hh:A.handled=none)(it l:A7)(J7:l≠it)(items:Array A9) :
  Draws prog w A it [it,l] items.size (λi v=>items[i]?=↥v) (λi h=>h.IsTupleIter it l i/\h.IsTuple l items) where
 live:=λ_ _ st=>let⟨o,ho,_⟩:=st.1;⟨o,ho⟩
 frame:=λ_ _ _ st AR=>⟨st.1.at λo e=>AR it γ o e,st.2.at λo e=>AR l γ o e⟩
 item:=λi s Q E hi st Fo=>by refine acX st.1 st.2 (x:=items[i]) (by simp[hi]) λh' UN Lf=>?_;exact Fo _ h' s.toks (by simp[hi]) ⟨UN,st.2.extBut Lf.extBut J7⟩ Lf
 done:=λs Q E st Nc=>acW hh st.1 st.2 γ Nc
end
def Inv.X0{X:Aq}{A4:μ}{σ :St}{H:AE}{s:AS}{h':BF}{t':Nat}{ch:↑A7}(J:θ)(k:∀b o,b∉ch->s.heap.get? b=↥o->h'.get? b=↥o)(hf:∀b∈ch,Kn X A4 H b):Inv X A4 σ H { s with heap:=h',toks:=t' }:=by
 have Qe:∀b u,H b=↥u->b∉ch:=λb u e z=>by rw[(hf b z).1]at e;cases e
 refine J.step (g':=s.gens) (d':=s.drawn) (ch:=ch) (λb A5=>?_) (λb o _ _ AI e _=>k b o AI e) (λb o _ _ AI e _=>⟨o.slots,k b o AI e⟩) (λ_ _ _ _ n=>n)
  (λb o AI e=>⟨o,k b o AI e⟩) (λ_ _ e=>e) (λ_ _ _ e=>e) (λb ps e=>⟨#[],by rw[e];simp⟩) (λm hm=>?_) (λb u e=>?_) J.bare
 .obtain⟨_,f1,_,Ev,f4,GU⟩:=hf b A5;exact⟨Ev,f1,f4,GU⟩
 .obtain⟨o,es,Ao,ho,r⟩:=hm;exact⟨o,es,Ao,k _ o (λz=>(hf _ z).2.1 rfl) ho,r⟩
 .refine(J.Az b u e).NR (λc v AI q=>k c v ?_ q) (λ_ q=>q) λ_ _ q=>q;rcases AI with z|z
  .rw[z];exact Qe b u e
  .exact Qe c _ z
def Inv.hP{X:Aq}{A4:μ}{σ :St}{H:AE}{s:AS}{h':BF}{t':Nat}{ch:↑A7}{T:A7}{xs:↑V}{its:↑A9}(J:θ)(k:∀b o,b∉ch->s.heap.get? b=↥o->h'.get? b=↥o)(hf:∀b∈ch,Kn X A4 H b)(Dj:s.heap.objs.size<=T)(Bc:Yx h' T its.toArray)(Bw:Vals xs its)(hz:⇑xs<=CO):Inv X A4 σ (upd H T (.tup xs)) { s with heap:=h',toks:=t' }:=by
 have Qe:∀b u,H b=↥u->b∉ch:=λb u e z=>by rw[(hf b z).1]at e;cases e
 have AM:H T=none:=J.Az.fresh Dj;have neT:∀b o,s.heap.get? b=↥o->b≠T:=λb o e=>F7 (GG (Dk e) Dj)
 refine J.step (g':=s.gens) (d':=s.drawn) (ch:=ch) (λb A5=>?_) (λb o _ _ AI e _=>k b o AI e) (λb o _ _ AI e _=>⟨o.slots,k b o AI e⟩) (λb o _ e n=>by rw[DJ (neT b o e)];exact n)
  (λb o AI e=>⟨o,k b o AI e⟩) (λb ys e=>by rw[DJ (LK e AM)];exact e) (λb _ _ e=>by rw[DJ (LK e AM)];exact e) (λb ps e=>⟨#[],by rw[DJ (LK e AM),e];simp⟩) (λm hm=>?_) (λb u e=>?_) J.bare
 .obtain⟨_,f1,_,Ev,f4,GU⟩:=hf b A5;exact⟨Ev,f1,f4,GU⟩
 .obtain⟨o,es,Ao,ho,r⟩:=hm;exact⟨o,es,Ao,k _ o (λz=>(hf _ z).2.1 rfl) ho,r⟩
 .by_cases A5:b=T
  .subst A5;rw[EA]at e;cases e;exact⟨hz,its,Bw,Bc⟩
  .rw[DJ A5]at e;refine(J.Az b u e).NR (λc v AI q=>k c v ?_ q) (λc q=>by rw[DJ (LK q AM)];exact q) λc ys q=>by rw[DJ (LK q AM)];exact q
   rcases AI with z|z
   .rw[z];exact Qe b u e
   .exact Qe c _ z
noncomputable def dA(x:Str):It:=⟨λi _=>i<x.cps.size,λi H v AB=>AB=H/\∃c,x.cps[i]?=↥c/\v=.str ⟨#[c]⟩,λi _=>i=x.cps.size⟩
def t2{prog:C9}{w:Bl}{A:DE}(hh:A.handled=none)(J:A7)(x:Str)(t:Tok):Walks prog w A J [J] [J] x.cps.size (SignAt x) (λi h=>h.IsStrIter J (KN x) x t i):=by
 unfold KN;cases AG:x.cps.all (· <128)
 .rw[if_neg L4];exact Walks.strWide hh J x t
 .rw[if_pos rfl];exact Walks.strAscii hh J x t
def w9{prog:C9}{w:Bl}{A:DE}(hh:A.handled=none)(J:A7)(x:Str)(t:Tok):Draws prog w A J [J] x.cps.size (λi v=>∃c u,x.cps[i]?=↥c/\v=.str ⟨#[c]⟩ u) (λi h=>h.IsStrIter J (KN x) x t i):=by
 unfold KN;cases AG:x.cps.all (· <128)
 .rw[if_neg L4];exact Draws.strWide hh J x t
 .rw[if_pos rfl];exact Draws.strAscii hh J x t
def agn(x:Str):["enumerate","zip","dict_itemiterator","dict_reverseitemiterator","odict_iterator","itertools.zip_longest","itertools.pairwise"].contains (KN x)=false:=by
 unfold KN
 split<;>decide
def agc{P:C9}{w:Bl}{K:At}{CE:Ah}(it:A7)(x:Str)(t:Tok):Turn P w K CE (dA x) [it] it (λi h=>h.IsStrIter it (KN x) x t i) where
 mem:=γ
 obj:=λi h st b A5=>by
  have e:b=it:=(A5:)
  subst e;obtain⟨o,e,c,d⟩:=st;exact⟨o,e,λv z=>by rw[d]at z;cases z⟩
 keep:=λi h h' st k=>by obtain⟨o,e,r⟩:=st;exact⟨o,k it γ o e,r⟩
 item:=by nofun;have W:=t2 (prog:=X.prog) (w:=X.w) (A:=X.A) (J.ok.hd AI) it x t;refine W.item i s _ _ Am st λv h' Ce Bg HA FG=>?_;obtain⟨c,u,Jq,rfl⟩:=Bg;have Ac:Inv X A4 σ H { s with heap:=h',toks:=Ce }:=J.X0 (ch:=[it]) FG hf;obtain⟨o,e,By,d1⟩:=id HA;exact⟨_,rfl,TO (s:={ s with heap:=h',toks:=Ce }) e By d1 (agn x) ⟨.str ⟨#[c]⟩,H,Ac,⟨u,rfl⟩,⟨rfl,c,Jq,rfl⟩,HA,λb A5=>(hf b A5).1⟩⟩
 done:=by nofun;have W:=t2 (prog:=X.prog) (w:=X.w) (A:=X.A) (J.ok.hd AI) it x t;have hi:i=x.cps.size:=Am;subst hi;exact W.done s _ _ st λh' Ce FG=>⟨rfl,J.X0 (ch:=[it]) FG hf⟩
 self:=λA i s Q E st h=>by
  unfold KN at st;cases AG:x.cps.all (· <128)
  .rw[AG,if_neg L4]at st;exact wpAny_pyIter_striter_wide st h
  .rw[AG,if_pos rfl]at st;exact wpAny_pyIter_striter_ascii st h
section
variable{X:Aq}{CE:Ah}
end
def d6(K:At)(l:A7):It:=⟨λi H=>∃xs x,Es K H l xs/\xs[i]?=↥x,λi H v AB=>∃p x,H p=none/\AB=upd H p (.tup [.int (i:Int),x])/\v=.ref p/\∀xs,Es K H l xs->xs[i]?=↥x,λi H=>∃xs,Es K H l xs/\ ⇑xs=i⟩
def agY{P:C9}{w:Bl}{K:At}{elts:↑Ah}{FG:Nat}{pos:Pos}(e it l:A7)(lg:e≠it) :
  Turn P w K (.Tuple elts FG pos) (d6 K l) [e,it] e (λi h=>(∃old,IsEnum h e it i old)/\h.IsListIter it l i) where
 mem:=γ
 obj:=λi h st b A5=>by
  obtain⟨⟨old,he⟩,o,AD,c,d⟩:=st;rcases List.mem_cons.mp A5 with z|z
  .subst z;exact⟨_,he,λv z=>by have Fh:ZI _=Sx v:=z;cases Fh⟩
  .have z:b=it:=by simpa using z
   subst z;exact⟨o,AD,λv z=>by rw[d]at z;cases z⟩
 keep:=λi h h' st k=>by obtain⟨⟨old,he⟩,hit⟩:=st;exact⟨⟨old,k e γ _ he⟩,hit.at λo x=>k it γ o x⟩
 item:=by
  nofun;obtain⟨xs,x,AW,AJ⟩:=Am;obtain⟨its,Bw,pl,hz⟩:=J.list AW;obtain⟨⟨old,he⟩,hit⟩:=st;have Gq:=pl.isList;have hle:l≠e:=λz=>by subst z;obtain⟨o,ho,Jr,_⟩:=Gq;rw[he]at ho;cases ho;have Jr:OL "enumerate"=OL "list":=Jr;injection Jr with Jr;exact absurd Jr ε
  have aZ:l≠it:=λz=>by subst z;obtain⟨o,ho,Jr,_⟩:=Gq;obtain⟨o',IR,Ol,_⟩:=hit;rw[IR]at ho;cases ho;rw[Jr]at Ol;injection Ol with Ol;exact absurd Ol ε
  have W:=WalksT.enumerate (prog:=X.prog) (w:=X.w) (A:=X.A) (J.ok.hd AI) e it l lg hle aZ its.toArray;have hlen:=⇑Bw;have lp:i< ⇑xs:=(List.getElem?_eq_some_iff.mp AJ).1;refine W.item i s _ _ (by rw[DU,<-hlen];exact lp) ⟨⟨old,he⟩,hit,Gq⟩ λT vals h' Ce Di Dj yg SR AR=>?_;obtain⟨t,u,BR,rfl⟩:=Di;obtain⟨Jg,fW,Fb⟩:=Bw.get AJ;have FZ:Jg=u:=by rw[td]at BR;rw[fW]at BR;exact Gc BR
  subst FZ;refine⟨_,rfl,?_⟩;refine W.go elts FG pos i T { s with heap:=h',toks:=Ce } _ _ SR λh2 KC Oo=>?_;have lT:T∉[e,it]:=W.apart i T h' SR;have keep:∀b o,b∉[e,it]->s.heap.get? b=↥o->h2.get? b=↥o:=λb o A5 q=>Oo b o A5 (AR b o A5 q);have Wl:Yx h2 T (#[.int i t,Jg]:Array A9):=by obtain⟨o,ho,r⟩:=yg;exact⟨o,Oo T o lT ho,r⟩
  have AM:H T=none:=J.Az.fresh Dj;have BW:Inv X A4 σ (upd H T (.tup [.int (i:Int),x])) { s with heap:=h2,toks:=Ce }:=J.hP (its:=[.int i t,Jg]) (ch:=[e,it]) keep hf Dj Wl (.cons ⟨t,rfl⟩ (.cons Fb .nil)) (by show 2<=CO;decide);refine⟨.ref T,upd H T (.tup [.int (i:Int),x]),BW,rfl,⟨T,x,AM,rfl,rfl,λys AP=>by rw[J.fE AP AW];exact AJ⟩,⟨KC.1,KC.2.1⟩,λb A5=>?_⟩;have nb:b≠T:=λz=>lT (z▸A5);rw[DJ nb];exact(hf b A5).1
 done:=by
  nofun;obtain⟨xs,AW,AJ⟩:=Am;obtain⟨its,Bw,pl,hz⟩:=J.list AW;obtain⟨⟨old,he⟩,hit⟩:=st;have Gq:=pl.isList;have hle:l≠e:=λz=>by subst z;obtain⟨o,ho,Jr,_⟩:=Gq;rw[he]at ho;cases ho;have Jr:OL "enumerate"=OL "list":=Jr;injection Jr with Jr;exact absurd Jr ε
  have aZ:l≠it:=λz=>by subst z;obtain⟨o,ho,Jr,_⟩:=Gq;obtain⟨o',IR,Ol,_⟩:=hit;rw[IR]at ho;cases ho;rw[Jr]at Ol;injection Ol with Ol;exact absurd Ol ε
  have W:=WalksT.enumerate (prog:=X.prog) (w:=X.w) (A:=X.A) (J.ok.hd AI) e it l lg hle aZ its.toArray;have Gj:i=its.toArray.size:=by rw[DU,<- ⇑Bw];exact AJ.symm
  subst Gj;exact W.done s _ _ ⟨⟨old,he⟩,hit,Gq⟩ λh' Ce FG=>⟨rfl,J.X0 (ch:=[e,it]) FG hf⟩
 self:=λA i s Q E st h=>by obtain⟨⟨old,he⟩,_⟩:=st;exact wpAny_pyIter_enum he h
section
variable{X:Aq}{elts:↑Ah}{FG:Nat}{NW:Pos}
def zn(K:At)(Bx:Fu):TI:=λσ H R=>Bx σ H λvs H1=>∃l,vs=[.ref l]/\(∃xs,Es K H1 l xs)/\R (d6 K l) H1
def aek{a:Ah}{Bx:Fu}{p pos:Pos}(Am:Ek X "enumerate")(hm:X.mg "enumerate"=none)(AG:HG X [a] Bx)(AQ:C8 [a] X.env=[(false,BM a X.env)]:=by rfl):Hk X (.Tuple elts FG NW) (.Call (.Name "enumerate" p) [a] [] pos) (zn X.K Bx):=by
 have A5:OH "enumerate"=↥(.type "enumerate"):=by kernel_rfl
 intro A4 s σ H R J h;refine u7 (Oy J Am hm A5 (Qv (BV (AG pos A4 s σ H _ J h) λus s1⟨vs,H1,Ac,Ax,q1⟩=>?_) AQ rfl));obtain⟨l,e,⟨xs,AW⟩,q⟩:=q1;subst e;obtain⟨u,rfl,Fb⟩:=vals1 Ax;cases Fb;obtain⟨its,Bw,pl,hz⟩:=Ac.list AW;refine call_enumerate_list pl.isList λh' he hit hsz AR=>?_;have BW:Inv X A4 σ H1 { s1 with heap:=h' }:=Ac.kept (t':=s1.toks) AR;refine wpAny_pyIter_enum he ?_;refine⟨s1.heap.objs.size+1,[s1.heap.objs.size+1,s1.heap.objs.size],_,_,H1,rfl,BW,agY _ _ l (Nat.succ_ne_self _),⟨⟨_,he⟩,hit⟩,λb A5=>?_,q⟩;have A5:b=s1.heap.objs.size+1\/b=s1.heap.objs.size:=(A5:)
 rcases A5 with z|z
 .subst z;exact Ac.Mo (OP _) (Ac.Az.fresh (OP _))
 .subst z;exact Ac.Mo (C1 _) (Ac.Az.fresh (C1 _))
end
abbrev YC(h:BF)(x:Str)(t:Tok):BF:=h.push { cls:=.type (KN x),data:=.fields #[.str x t,.int 0 0] }
abbrev YD(h:BF)(x:Str)(t:Tok)(l:A7):BF:=(YC h x t).push { cls:=.type "tuple_iterator",data:=.fields #[.ref l,.int 0 0] }
abbrev YE(h:BF)(x:Str)(t:Tok)(l:A7):BF:=(YD h x t l).push { cls:=.type "tuple",data:=.seq #[.ref h.objs.size,.ref (YC h x t).objs.size] }
abbrev YF(h:BF)(x:Str)(t:Tok)(l:A7):BF:=(YE h x t l).push { cls:=.type "tuple",data:=.seq #[.none,.none] }
abbrev SG(h:BF)(x:Str)(t:Tok)(l:A7):BF:=(YF h x t l).push { cls:=.type "zip",data:=.fields #[.none,.bool false,.bool false,.ref (YD h x t l).objs.size,.ref (YE h x t l).objs.size] }
set_option maxHeartbeats 4000000 in
def acg(x:Str)(t:Tok)(Ck:A7)(ys:Array A9) :
  Meets (Builtin.«zip.__new__» ⟨[.type "zip",.str x t,.ref Ck],[]⟩) (λ_ R s=>s.heap.IsTuple Ck ys/\R (.ok (.ret (.ref (YF s.heap x t Ck).objs.size))) { s with heap:=SG s.heap x t Ck }):=
 .of_wp λprog w A R s h=>by
   obtain⟨AV,g,d,Ce,os⟩:=s;obtain⟨QN,h⟩:=h;have QO:=sub_zip;have zQ:Heap.IsTuple (Shared.heap ⟨AV.push { cls:=.type (KN x),data:=.fields #[.str x t,.int 0 0] },g,d,Ce,os⟩) Ck ys:=Heap.IsTuple.push QN _
   wp_walk using wpAny_pyIter_strU,wpAny_pyIter_tuple zQ
   exact⟨_,rfl,h⟩
theorem wO {prog:C9} {w:Bl} {A:DE} {E:A9->AS->Prop} {s:AS} {x:Str} {t:Tok} {Ck:A7} {ys:Array A9} {Q:A9->AS->Prop} (QN:s.heap.IsTuple Ck ys)(h:∀h',IsZip h' (s.heap.objs.size+4) (s.heap.objs.size+2) (s.heap.objs.size+3) .none->NO h' (s.heap.objs.size+2) (.ref s.heap.objs.size) (.ref (s.heap.objs.size+1))->
    NO h' (s.heap.objs.size+3) .none .none->h'.IsStrIter s.heap.objs.size (KN x) x t 0->h'.IsTupleIter (s.heap.objs.size+1) Ck 0->h'.objs.size=s.heap.objs.size+5->
    (∀c o,s.heap.get? c=↥o->h'.get? c=↥o)->Q (.ref (s.heap.objs.size+4)) { s with heap:=h' }) :
  An Ω A (call (.type "zip") [.str x t,.ref Ck]) Q E s:=by
 refine callType_new F.called_zip ε (F.typeCall_zip_2 _ _) (F.newCall_zip_2 _ _) (λobj=>F.args_object_init_3 obj _ _) F.entry_zip_new (acg x t Ck ys) ⟨QN,?_⟩;have Fi:(YC s.heap x t).objs.size=s.heap.objs.size+1:=Li ..;have F6:(YD s.heap x t Ck).objs.size=s.heap.objs.size+2:=by rw[Li,Fi]
 have gy:(YE s.heap x t Ck).objs.size=s.heap.objs.size+3:=by rw[Li,F6]
 have Xv:(YF s.heap x t Ck).objs.size=s.heap.objs.size+4:=by rw[Li,gy]
 have ajd:(SG s.heap x t Ck).objs.size=s.heap.objs.size+5:=by rw[Li,Xv]
 have KR:(SG s.heap x t Ck).get? (YF s.heap x t Ck).objs.size=↥_:=Fe _ rfl;have g4:(SG s.heap x t Ck).get? (YE s.heap x t Ck).objs.size=↥_:=Cy _ (Fe _ rfl);have g3:(SG s.heap x t Ck).get? (YD s.heap x t Ck).objs.size=↥_:=Cy _ (Cy _ (Fe _ rfl));have g2:(SG s.heap x t Ck).get? (YC s.heap x t).objs.size=↥_:=Cy _ (Cy _ (Cy _ (Fe _ rfl)));have g1:(SG s.heap x t Ck).get? s.heap.objs.size=↥_:=Cy _ (Cy _ (Cy _ (Cy _ (Fe _ rfl))));show _/\_;rw[F6,gy,Xv]at KR;rw[Fi,F6]at g3;rw[gy]at g4;rw[Fi]at g2;rw[Xv];exact⟨⟨_,KR,rfl⟩,h _ KR g3 g4 ⟨_,g1,rfl,rfl⟩ ⟨_,g2,rfl,rfl⟩ ajd λc o x=>
  Cy _ (Cy _ (Cy _ (Cy _ (Cy _ x))))⟩
def i_(K:At)(x:Str)(l:A7):It:=⟨λi H=>i<x.cps.size/\∃ys y,Et K H l ys/\ys[i]?=↥y,
 λi H v AB=>∃p c y,x.cps[i]?=↥c/\H p=none/\AB=upd H p (.tup [.str ⟨#[c]⟩,y])/\v=.ref p/\∀ys,Et K H l ys->ys[i]?=↥y,
 λi H=>∃ys,Et K H l ys/\i=min x.cps.size ⇑ys⟩
section
variable{prog:C9}{w:Bl}{A:DE}{E:A9->AS->Prop}{s:AS}
def na{n a b:Nat}(h:a≠b):n+a≠n+b:=λe=>h (Nat.add_left_cancel e)
def SA{n a:Nat}:n≠n+(a+1):=F7 (Nat.lt_add_of_pos_right (Nat.succ_pos a))
def sJ{n b:Nat}(h:b∈[n,n+1,n+3,n+4]):b∈[n,n+1,n+2,n+3,n+4]:=by erw[IF]at h |-;rcases h with h|h|h|h|h<;>simp[h]
def c_(h:BF)(n:A7)(f0:A9)(x:Str)(t:Tok)(l:A7)(i:Nat):Prop:=IsZip h (n+4) (n+2) (n+3) f0/\NO h (n+2) (.ref n) (.ref (n+1))/\(∃a b,NO h (n+3) a b)/\h.IsStrIter n (KN x) x t i/\h.IsTupleIter (n+1) l i
theorem nf {n l:A7} {x:Str} {t:Tok} {i:Nat} {ys:Array A9} {Q:Option A9->AS->Prop} (hh:A.in1.handled=none) (ln:l<n) (Bc:s.heap.IsTuple l ys) (st:c_ s.heap n .none x t l i) (Cb:i<=x.cps.size) (FO:i<=ys.size)(Fo:∀c y u h' Ce,x.cps[i]?=↥c->ys[i]?=↥y->c_ h' n (NN s.heap.objs.size) x t l (i+1)->NO h' s.heap.objs.size (.str ⟨#[c]⟩ u) y->
    (∀b o,b∉[n,n+1,n+3,n+4]->s.heap.get? b=↥o->h'.get? b=↥o)->Q ↥(.ref s.heap.objs.size) { s with heap:=h',toks:=Ce })
  (Nc:i=x.cps.size\/i=ys.size->∀h' Ce,(∀b o,b∉[n,n+1,n+3,n+4]->s.heap.get? b=↥o->h'.get? b=↥o)->Q none { s with heap:=h',toks:=Ce }) :
  An Ω A (OQ (.ref (n+4))) Q E s:=by
 obtain⟨hz,Sz,⟨a,b,Wb⟩,h1,h2⟩:=st;have a6:=w9 (prog:=prog) (w:=w) (A:=A.in1) hh n x t;have Pz:=wA (prog:=prog) (w:=w) (A:=A.in1) hh (n+1) l (F7 (VE ln)) ys;have E4:∀{b:A7},b∉[n,n+1,n+3,n+4]->b≠n/\b≠n+1/\b≠n+3/\b≠n+4:=λh=>(h:)
 have f1:∀{b:Nat}{h h':BF}{i:Nat},L1 (n+(b+1)) h h'->h.IsStrIter n (KN x) x t i->h'.IsStrIter n (KN x) x t i:=λAQ st=>a6.frame _ _ _ st λc AI o e=>AQ.extBut c o (by rw[List.mem_singleton.mp AI];exact SA) e;have f2:∀{b:A7}{h h':BF}{i:Nat},L1 b h h'->n+1≠b->n<=b->h.IsTupleIter (n+1) l i/\h.IsTuple l ys->h'.IsTupleIter (n+1) l i/\h'.IsTuple l ys:=λAQ E4 nb st=>Pz.frame _ _ _ st λc AI o e=>AQ.extBut c o (by
  rcases List.mem_cons.mp AI with rfl|AI
  .exact E4
  .rw[List.mem_singleton.mp AI];exact F7 (GG ln nb)) e
 have Dj:s.TypeIs (.ref (n+4)) "zip":=⟨_,hz,rfl⟩;unfold OQ
 have fin:∀h' e Ce,(∀b o,b∉[n,n+1,n+3,n+4]->s.heap.get? b=↥o->h'.get? b=↥o)->(i=x.cps.size\/i=ys.size)->(∃o,h'.get? e=↥o/\o.cls=.type "StopIteration")->An Ω A (do
   if<-isInstance (.ref e) (.type "StopIteration")then pure none else throw (.ref e)) Q E { s with heap:=h',toks:=Ce }:=λh' e Ce AR he⟨o,ho,AI⟩=>Ad (iC (T:="StopIteration") (b:=true) ⟨o,ho,AI⟩ isSubtype_stop (B_ (Nc he h' Ce AR)))
 refine Ad (wpAny_attempt (Sc (name:=So "__next__") Dj F.slot_zip_next (OE F.slot_zip_next Dj F.entry_zip_next ?_ (F.args_zip_next_1 _))));show An _ _ (field (.ref (n+4)) 2>>=_) _ _ _;refine Ad (MS hz rfl (x:=.bool false) rfl ?_);show An _ _ (field (.ref (n+4)) 3>>=_) _ _ _;refine Ad (MS hz rfl (x:=.ref (n+2)) rfl ?_);refine Ad (Pc Sz rfl ?_);show An _ _ (tC (.ref (n+4))>>=_) _ _ _;refine Ad ?_;unfold tC;refine Ad (MS hz rfl (x:=.none) rfl (B_ ?_));erw[if_true];refine Ad (wpAny_rule ?_);refine Ad (MS hz rfl (x:=.ref (n+3)) rfl ?_);refine Ad (VA hz γ λNg aC S_=>?_);replace aC:IsZip Ng (n+4) (n+2) (n+3) .ellipsis:=aC;refine Ad ?_;erw[List.zipIdx_cons,List.zipIdx_nil,List.forIn_cons,List.forIn_nil];refine Ad (Ad (wpAny_onRaise ?_));show An _ _ (Sf (.ref n)>>=_) _ _ _;have NQ:=f1 S_ h1;by_cases Cp:i<x.cps.size
 .refine Ad (a6.item i _ _ _ Cp NQ λv Ot alZ AJ agp Oq=>B_ ?_);obtain⟨c,u,AJ,rfl⟩:=AJ;have lR:NO Ot (n+3) a b:=Oq.extBut _ _ SA.symm (S_.extBut _ _ (na ε) Wb);refine Ad (Pc lR rfl ?_);refine Ad (wpAny_updateSeq_pair lR λOu dX Os=>?_);replace dX:NO Ou (n+3) (.str ⟨#[c]⟩ u) b:=dX;refine Ad (wpAny_letGo (B_ ?_));refine Ad (Ad (wpAny_onRaise ?_));show An _ _ (Sf (.ref (n+1))>>=_) _ _ _;have sE:=f2 Os (na ε) (Ph _ _) (f2 Oq SA.symm (C1 _) (f2 S_ (na ε) (Ph _ _) ⟨h2,Bc⟩));have lD:IsZip Ou (n+4) (n+2) (n+3) .ellipsis:=Os.extBut _ _ (na ε) (Oq.extBut _ _ SA.symm aC);by_cases Ck:i<ys.size
  .refine Ad (Pz.item i _ _ _ Ck sE λy US al_ AP agq Pp=>B_ ?_);have lS:NO US (n+3) (.str ⟨#[c]⟩ u) b:=Pp.extBut _ _ (na ε) dX;refine Ad (Pc lS rfl ?_);refine Ad (wpAny_updateSeq_pair lS λIo aU Pq=>?_);replace aU:NO Io (n+3) (.str ⟨#[c]⟩ u) y:=aU;refine Ad (wpAny_letGo (B_ (B_ ?_)));refine Ad (Pc aU rfl ?_);refine Ad (wpAny_newTuple ?_);have hsz:Io.objs.size=s.heap.objs.size:=by rw[Pq.1,Pp.1,Os.1,Oq.1,S_.1]
   have lF:IsZip Io (n+4) (n+2) (n+3) .ellipsis:=Pq.extBut _ _ (na ε) (Pp.extBut _ _ (na ε) lD);have lr:∀b o,b∉[n,n+1,n+3,n+4]->s.heap.get? b=↥o->Io.get? b=↥o:=λb o A5 e=>
    let⟨By,Cz,G7,ME⟩:=E4 A5
    Pq.extBut _ _ G7 (Pp.extBut _ _ Cz (Os.extBut _ _ G7 (Oq.extBut _ _ By (S_.extBut _ _ ME e))))
   have lB:n+4<Io.objs.size:=Dk lF;show An _ _ (tF (.ref (n+4)) (.ref Io.objs.size)>>=_) _ _ _;refine Ad ?_;unfold tF;have aaV:IsZip (Io.push { cls:=.type "tuple",data:=.seq #[.str ⟨#[c]⟩ u,y] }) (n+4) (n+2) (n+3) .ellipsis:=Cy _ lF;refine Ad (VA aaV γ λzh fY l8=>?_);replace fY:IsZip zh (n+4) (n+2) (n+3) (NN Io.objs.size):=fY;refine VA fY γ λaE aD l9=>?_;replace aD:IsZip aE (n+4) (n+2) (n+3) (NN Io.objs.size):=aD;have up:∀c o,c≠n+4->Io.get? c=↥o->aE.get? c=↥o:=λc o By e=>l9.extBut _ _ By (l8.extBut _ _ By (Cy _ e));have lU:NO aE Io.objs.size (.str ⟨#[c]⟩ u) y:=l9.extBut _ _ (R6 lB) (l8.extBut _ _ (R6 lB) (Fe _ rfl));refine B_ ⟨_,rfl,?_⟩;rw[hsz]at aD lU |-;refine B_ (Fo c y u aE _ AJ AP ⟨aD,up _ _ (na ε) (lr _ _ γ Sz),⟨_,_,up _ _ (na ε) aU⟩,?_,?_⟩ lU λb o A5 e=>up b o (E4 A5).2.2.2 (lr b o A5 e))
   .exact a6.frame _ _ _ (f1 Pq (f1 Pp (f1 Os agp))) λc AI o e=>up c o (by rw[List.mem_singleton.mp AI];exact SA) e
   .exact(Pz.frame _ _ _ (f2 Pq (na ε) (Ph _ _) agq) λc AI o e=>up c o (by
      rcases List.mem_cons.mp AI with rfl|AI
      .exact na ε
      .rw[List.mem_singleton.mp AI];exact F7 (GG ln (Ph _ _))) e).1
  .obtain rfl:i=ys.size:=δ
   refine Ad (Pz.done _ _ _ sE λUS e Pp he=>?_);obtain⟨gW,SX,Wg⟩:=he;have lE:IsZip US (n+4) (n+2) (n+3) .ellipsis:=Pp _ _ (na ε) lD;have dc:e≠n+4:=λx=>by subst x;rw[lE]at SX;cases SX;simp at Wg
   exact VA lE γ λIo _ Pq=>fin Io e _ (λb o A5 x=>
    let⟨By,Cz,G7,ME⟩:=E4 A5
    Pq.extBut _ _ ME (Pp _ _ Cz (Os.extBut _ _ G7 (Oq.extBut _ _ By (S_.extBut _ _ ME x))))) (.inr rfl) ⟨gW,Pq.extBut _ _ dc SX,Wg⟩
 .obtain rfl:i=x.cps.size:=δ
  refine Ad (a6.done _ _ _ NQ λOt e Oq he=>?_);obtain⟨gW,SX,Wg⟩:=he;have lC:IsZip Ot (n+4) (n+2) (n+3) .ellipsis:=Oq _ _ SA.symm aC;have dc:e≠n+4:=λx=>by subst x;rw[lC]at SX;cases SX;simp at Wg
  exact VA lC γ λOu _ Os=>fin Ou e _ (λb o A5 x=>
   let⟨By,Cz,G7,ME⟩:=E4 A5
   Os.extBut _ _ ME (Oq _ _ By (S_.extBut _ _ ME x))) (.inl rfl) ⟨gW,Os.extBut _ _ dc SX,Wg⟩
end
def ai2{P:C9}{w:Bl}{K:At}{elts:↑Ah}{FG:Nat}{pos:Pos}(x:Str)(t:Tok){l n:A7}(ln:l<n) :
  Turn P w K (.Tuple elts FG pos) (i_ K x l) [n,n+1,n+2,n+3,n+4] (n+4) (λi h=>c_ h n .none x t l i) where
 mem:=γ
 obj:=λi h st b A5=>by
  obtain⟨hz,Sz,⟨a,Hm,Wb⟩,⟨D1,AD,By,d1⟩,EG,AH,Cz,Eh⟩:=st;have A5:b=n\/b=n+1\/b=n+2\/b=n+3\/b=n+4:=(A5:)
  rcases A5 with q|q|q|q|q<;>subst q
  .exact⟨D1,AD,λv z=>by rw[d1]at z;cases z⟩
  .exact⟨EG,AH,λv z=>by rw[Eh]at z;cases z⟩
  .exact⟨_,Sz,λv z=>by have Fh:Data.seq _ _=Sx v:=z;cases Fh⟩
  .exact⟨_,Wb,λv z=>by have Fh:Data.seq _ _=Sx v:=z;cases Fh⟩
  .exact⟨_,hz,λv z=>by have Fh:ZI _=Sx v:=z;cases Fh⟩
 keep:=λi h h' st k=>by obtain⟨hz,Sz,⟨a,Hm,Wb⟩,⟨D1,AD,Ax⟩,EG,AH,BK⟩:=st;exact⟨k _ γ _ hz,k _ γ _ Sz,⟨a,Hm,k _ γ _ Wb⟩,⟨D1,k _ γ _ AD,Ax⟩,EG,k _ γ _ AH,BK⟩
 item:=by
  nofun;obtain⟨hi,ys,y,AW,AP⟩:=Am;obtain⟨its,Bw,Bc,aaS⟩:=J.tuple AW;have hlen:=⇑Bw;have lp:i< ⇑ys:=(List.getElem?_eq_some_iff.mp AP).1;refine nf (J.ok.hd AI) ln Bc st (Pj hi) (by rw[DU];lia) (λc N6 u h' Ce da D2 HA O3 AR=>?_) λh=>h.elim (λh=>absurd h (F7 hi)) λh=>absurd h (by rw[DU];lia);obtain⟨Jg,fW,Fb⟩:=Bw.get AP;obtain rfl:Jg=N6:=by rw[td,fW]at D2;exact Gc D2
  obtain⟨a1,a2,CF,PH,jY⟩:=HA;refine⟨_,rfl,wpAny_letOwnedTupleGo_zip a1 λh2 aaT UQ=>?_⟩;have Qt:n+4<s.heap.objs.size:=Dk st.1;have acx:∀b∈[n,n+1,n+2,n+3,n+4],b≠s.heap.objs.size:=λb A5=>by
   have A5:b=n\/b=n+1\/b=n+2\/b=n+3\/b=n+4:=(A5:)
   change(n:Nat)+4<s.heap.objs.size at Qt;have:(b:Nat)<=n+4:=by rcases A5 with q|q|q|q|q<;>subst q<;>simp
   exact F7 (R3 this Qt)
  have Wl:Yx h2 s.heap.objs.size ([.str ⟨#[c]⟩ u,Jg]:↑A9).toArray:=⟨_,UQ.extBut _ _ (R6 Qt) O3,rfl,_,rfl⟩;have AM:H s.heap.objs.size=none:=J.Az.fresh (C1 _);have BW:Inv X A4 σ (upd H s.heap.objs.size (.tup [.str ⟨#[c]⟩,y])) { s with heap:=h2,toks:=Ce }:=J.hP (its:=[.str ⟨#[c]⟩ u,Jg]) (ch:=[n,n+1,n+3,n+4]) (λb o A5 q=>UQ.extBut b o (λz=>A5 (by simp[z])) (AR b o A5 q)) (λb A5=>hf b (sJ A5)) (C1 _) Wl (.cons ⟨u,rfl⟩ (.cons Fb .nil)) (by show 2<=CO;decide);refine⟨.ref s.heap.objs.size,_,BW,rfl,⟨s.heap.objs.size,c,y,da,AM,rfl,rfl,λzs aaU=>by rw[J.hO aaU AW];exact AP⟩,⟨aaT,UQ.extBut _ _ (na ε) a2,?_,?_,?_⟩,λb A5=>?_⟩
  .obtain⟨a,b,CF⟩:=CF;exact⟨a,b,UQ.extBut _ _ (na ε) CF⟩
  .obtain⟨D1,AD,Ax⟩:=PH;exact⟨D1,UQ.extBut _ _ SA AD,Ax⟩
  .obtain⟨EG,AH,BK⟩:=jY;exact⟨EG,UQ.extBut _ _ (na ε) AH,BK⟩
  .rw[DJ (acx b A5)];exact(hf b A5).1
 done:=by
  nofun;obtain⟨ys,AW,hi⟩:=Am;obtain⟨its,Bw,Bc,aaS⟩:=J.tuple AW;have hlen:=⇑Bw;have z:its.toArray.size=⇑ys:=by rw[DU,hlen]
  refine nf (J.ok.hd AI) ln Bc st δ δ (λc N6 u h' Ce da D2 _ _ _=>?_) λ_ h' Ce FG=>⟨rfl,J.X0 (ch:=[n,n+1,n+3,n+4]) FG λb A5=>hf b (sJ A5)⟩;have:=(Array.getElem?_eq_some_iff.mp da).1;have:=(Array.getElem?_eq_some_iff.mp D2).1;lia
 self:=λA i s Q E st h=>wpAny_pyIter_zip st.1 h
section
variable{X:Aq}{elts:↑Ah}{FG:Nat}{NW:Pos}
def zq(K:At)(Bx:Fu):TI:=λσ H R=>Bx σ H λvs H1=>∃x l,vs=[.str x,.ref l]/\(∃ys,Et K H1 l ys)/\R (i_ K x l) H1
def aeq{a b:Ah}{Bx:Fu}{p pos:Pos}(Am:Ek X "zip")(hm:X.mg "zip"=none)(AG:HG X [a,b] Bx)(AQ:C8 [a,b] X.env=[(false,BM a X.env),(false,BM b X.env)]:=by rfl)(I8:C8 [b] X.env=[(false,BM b X.env)]:=by rfl) :
  Hk X (.Tuple elts FG NW) (.Call (.Name "zip" p) [a,b] [] pos) (zq X.K Bx):=by
 have A5:OH "zip"=↥(.type "zip"):=by kernel_rfl
 intro A4 s σ H R J h;refine u7 (Oy J Am hm A5 (Qv (BV (AG pos A4 s σ H _ J h) λus s1⟨vs,H1,Ac,Ax,q1⟩=>?_) (by rw[AQ,I8]) (by rw[I8];rfl)));obtain⟨x,l,e,⟨ys,AW⟩,q⟩:=q1;subst e;obtain⟨u,N6,rfl,⟨t,rfl⟩,Fb⟩:=vals2 Ax;cases Fb;obtain⟨its,Bw,Bc,hz⟩:=Ac.tuple AW;have Ea:l<s1.heap.objs.size:=let⟨_,e,_⟩:=Bc;Dk e
 refine wO (show s1.heap.IsTuple l its.toArray from Bc) λh' a1 a2 CF PH O3 jY AR=>?_;have BW:Inv X A4 σ H1 { s1 with heap:=h' }:=Ac.kept (t':=s1.toks) AR;refine wpAny_pyIter_zip a1 ?_;refine⟨s1.heap.objs.size+4,[s1.heap.objs.size,s1.heap.objs.size+1,s1.heap.objs.size+2,s1.heap.objs.size+3,s1.heap.objs.size+4],_,_,H1,rfl,BW,ai2 x t Ea,⟨a1,a2,⟨_,_,CF⟩,PH,O3⟩,λb A5=>?_,q⟩;have A5:s1.heap.objs.size<=b:=by erw[IF,NI,or_false]at A5;rcases A5 with q|q|q|q|q<;>rw[q]<;>first|exact C1 _|exact Ph _ _
 exact Ac.Mo A5 (Ac.Az.fresh A5)
end
end B3
namespace ZQ
open PySem PySem.SetTable
theorem eB(xs:Array Nat)(j:Nat)(AQ:xs.toList.Pairwise (· <·)):∀fuel lo hi,hi<=lo+fuel->lo<=hi->hi<=xs.size->(∀k,k<lo->xs.getD k j<j)->(∀k,hi<=k->k<xs.size->j<=xs.getD k j)->
  below.go xs j fuel lo hi<=xs.size/\(∀k,k<below.go xs j fuel lo hi->xs.getD k j<j)/\(∀k,below.go xs j fuel lo hi<=k->k<xs.size->j<=xs.getD k j)
 |0,lo,hi,h1,h2,BO,D5,FN=>by
  have e:lo=hi:=δ
  subst e;exact⟨BO,D5,FN⟩
 |fuel+1,lo,hi,h1,h2,BO,D5,FN=>by
  have mono:∀a b,a<=b->b<xs.size->xs.getD a j<=xs.getD b j:=by
   intro a b Wd A5;rcases Nat.eq_or_lt_of_le Wd with rfl|Wd
   .exact C1 _
   have:=List.pairwise_iff_getElem.mp AQ a b (by simp;lia) (A5:) Wd;erw[Array.getElem_toList]at this;rw[Se,Se,Lj δ,Lj A5];exact Pj this
  unfold below.go;by_cases h:lo<hi
  .rw[if_pos h];dsimp only;by_cases q:xs.getD ((lo+hi)/2) j<j
   .rw[if_pos q];refine eB xs j AQ fuel _ hi δ δ BO (λk AR=>?_) FN;exact R3 (mono k ((lo+hi)/2) δ δ) q
   .rw[if_neg q];refine eB xs j AQ fuel lo _ δ δ δ D5 λk AR Lf=>?_;exact IG (Nat.not_lt.mp q) (mono _ k AR Lf)
  .rw[if_neg h];have e:lo=hi:=δ
   subst e;exact⟨BO,D5,FN⟩
def jB{xs:Array Nat}(AQ:xs.toList.Pairwise (· <·))(j:Nat):below xs j<=xs.size/\(∀y∈xs.toList.take (below xs j),y<j)/\(∀y∈xs.toList.drop (below xs j),j<=y):=by
 obtain⟨a,b,c⟩:=eB xs j AQ xs.size 0 xs.size δ δ (C1 _) (λk AR=>absurd AR (Nat.not_lt_zero _)) (λk h1 h2=>absurd h2 δ);refine⟨a,λy AP=>?_,λy AP=>?_⟩
 .obtain⟨k,AR,rfl⟩:=Uy AP;have SW:k<below xs j/\k<xs.size:=by simpa[OD,Nat.lt_min]using AR
  have:=b k SW.1;rw[Se,Lj SW.2]at this;simpa using this
 .obtain⟨k,AR,rfl⟩:=Uy AP;have SW:below xs j+k<xs.size:=by simp at AR;lia
  have:=c (below xs j+k) (Ph _ _) SW;rw[Se,Lj SW]at this;simpa using this
def ej{α:Type}(xs:Array α)(p:Nat)(x:α):(insertAt xs p x).toList=xs.toList.take p++x::xs.toList.drop p:=by unfold insertAt;simp[Array.toList_extract,List.extract_eq_take_drop];exact Uz γ
structure Tab(t:J3)(n:Nat):Prop where
 TA:t.dummies= #[]
 Md:t.place.size=n
 Uf:t.place.toList.Pairwise (· <·)
 le:∀j∈t.place.toList,j<=t.mask
def slot_of{t:J3}{n:Nat}(T:Tab t n)(j:Nat):(∃i,t.slot j=.live i/\t.place.toList[i]?=↥j)\/(t.slot j=.empty/\j∉t.place.toList):=by
 obtain⟨a,b,c⟩:=jB T.Uf j;unfold slot;dsimp only;by_cases h:t.place[below t.place j]?=↥j
 .left
  refine⟨below t.place j,?_,(h:)⟩;rw[h];simp
 .right
  constructor
  .have:(t.place[below t.place j]?==↥j)=false:=by simpa using h
   rw[this,T.TA];simp[has]
  .intro m;have EJ:=m;rw[<-P_ (below t.place j) t.place.toList]at EJ;rcases List.mem_append.mp EJ with EJ|EJ
   .exact absurd (b j EJ) (Jj _)
   .cases hd:t.place.toList.drop (below t.place j)with
    |nil=>rw[hd]at EJ;cases EJ
    |cons y r=>
     have AP:t.place[below t.place j]?=↥y:=by
      have:(t.place.toList.drop (below t.place j))[0]?=↥y:=by rw[hd];rfl
      rw[List.getElem?_drop]at this;simpa using this
     have B6:=T.Uf;rw[<-P_ (below t.place j) t.place.toList,hd]at B6;have B6:=(List.pairwise_append.mp B6).2.1;rw[hd]at EJ;rcases List.mem_cons.mp EJ with rfl|EJ
     .exact h AP
     .have h1:=(List.pairwise_cons.mp B6).1 j EJ;have h2:=c y (by rw[hd];simp);lia
def ahM{t:J3}{n:Nat}(T:Tab t n){j:Nat}(m:j∈t.place.toList):∃i,t.slot j=.live i/\t.place.toList[i]?=↥j:=by
 rcases slot_of T j with h|h
 .exact h
 .exact absurd m h.2
def ahL{t:J3}{n:Nat}(T:Tab t n){j:Nat}(m:j∉t.place.toList):t.slot j=.empty:=by
 rcases slot_of T j with⟨i,h,e⟩|h
 .exact absurd (Lk e) m
 .exact h.1
def agO{t:J3}{n:Nat}(T:Tab t n){j:Nat}(m:j∉t.place.toList)(Ar:j<=t.mask):∃p,(t.put j).2=p/\p<=n/\Tab (t.put j).1 (n+1)/\(t.put j).1.place.toList=t.place.toList.take p++j::t.place.toList.drop p/\(t.put j).1={ t with place:=(t.put j).1.place }:=by
 obtain⟨a,b,c⟩:=jB T.Uf j;have e:(t.put j).1.place.toList=t.place.toList.take (below t.place j)++j::t.place.toList.drop (below t.place j):=by unfold put;exact ej _ _ _
 have CM:(t.put j).1.dummies= #[]:=by unfold put;simp[has,T.TA]
 have em:(t.put j).1.mask=t.mask:=rfl;refine⟨below t.place j,rfl,T.Md▸a,⟨CM,?_,?_,?_⟩,e,?_⟩
 .have:(t.put j).1.place.toList.length=n+1:=by
    rw[e,EM,DV,OD,ZE];have:=T.Md;erw[R1];lia
  simpa using this
 .rw[e];have B6:=T.Uf;rw[<-P_ (below t.place j) t.place.toList]at B6;obtain⟨Ax,BK,G2⟩:=List.pairwise_append.mp B6;refine List.pairwise_append.mpr ⟨Ax,List.pairwise_cons.mpr ⟨λy AP=>?_,BK⟩,λx AJ y AP=>?_⟩
  .rcases Nat.eq_or_lt_of_le (c y AP)with q|q
   .exact absurd (q▸Z5 AP) m
   .exact q
  .rcases List.mem_cons.mp AP with rfl|AP
   .exact b x AJ
   .exact G2 x AJ y AP
 .intro y AP;rw[em];rw[e]at AP;rcases List.mem_append.mp AP with AP|AP
  .exact T.le y (hy AP)
  .rcases List.mem_cons.mp AP with rfl|AP
   .exact Ar
   .exact T.le y (Z5 AP)
 .have b9:(t.put j).1.dummies=t.dummies:=CM.trans T.TA.symm;show(t.put j).1=_;have:(t.put j).1={ t with place:=(t.put j).1.place,dummies:=(t.put j).1.dummies }:=rfl;rw[this,b9]
noncomputable def MB(mask:Nat)(p:Probe):Probe:=
 if p.more>0 then{ p with j:=p.j+1,more:=p.more-1 }else
 { p with j:=(leap mask p.i p.perturb).1,more:=runEnd mask (leap mask p.i p.perturb).1-(leap mask p.i p.perturb).1,i:=(leap mask p.i p.perturb).1,perturb:=(leap mask p.i p.perturb).2 }
def j_(t:J3)(p:Probe):t.advance p=MB t.mask p:=rfl
noncomputable def nD(mask:Nat)(i q:Nat):Probe:={ j:=i,more:=runEnd mask i-i,i,perturb:=q,dummy:=none }
def Ep(mask:Nat)(h:Int):Nat->Probe
 |0=>nD mask (bits h%(mask+1)) (bits h)
 |n+1=>MB mask (Ep mask h n)
noncomputable def B1(mask:Nat)(h:Int):Nat->Nat×Nat
 |0=>(bits h%(mask+1),bits h)
 |n+1=>leap mask (B1 mask h n).1 (B1 mask h n).2
def I3(mask i:Nat):Nat:=runEnd mask i-i
def Fg(mask:Nat)(h:Int):Nat->Nat
 |0=>0
 |n+1=>Fg mask h n+I3 mask (B1 mask h n).1+1
def ag3(mask i:Nat):I3 mask i<=9:=by unfold I3 runEnd;split<;>lia
def gI(mask i:Nat):i<=runEnd mask i:=by unfold runEnd;split<;>lia
theorem q_(mask:Nat)(h:Int):∀n,Fg mask h n<=10*n
 |0=>C1 _
 |n+1=>by have:=q_ mask h n;have:=ag3 mask (B1 mask h n).1;unfold Fg;lia
def vR{mask i q r:Nat}(B6:r<I3 mask i):MB mask { j:=i+r,more:=I3 mask i-r,i:=i,perturb:=q,dummy:=none }={ j:=i+(r+1),more:=I3 mask i-(r+1),i:=i,perturb:=q,dummy:=none }:=by unfold MB;rw[if_pos (by show I3 mask i-r>0;lia)];erw[Probe.mk.injEq];refine⟨δ,δ,trivial,trivial,trivial⟩
def vS{mask i q:Nat}:MB mask { j:=i+I3 mask i,more:=I3 mask i-I3 mask i,i:=i,perturb:=q,dummy:=none }=nD mask (leap mask i q).1 (leap mask i q).2:=by unfold MB;rw[if_neg (by show¬(I3 mask i-I3 mask i>0);lia)];rfl
theorem fz(mask:Nat)(h:Int):∀L r,r<=I3 mask (B1 mask h L).1->Ep mask h (Fg mask h L+r)={ j:=(B1 mask h L).1+r,more:=I3 mask (B1 mask h L).1-r,i:=(B1 mask h L).1,perturb:=(B1 mask h L).2,dummy:=none }
 |0,0,_=>rfl
 |L,r+1,B6=>by have:=fz mask h L r δ;show MB mask (Ep mask h (Fg mask h L+r))=_;rw[this];exact vR δ
 |L+1,0,_=>by have:=fz mask h L (I3 mask (B1 mask h L).1) (C1 _);show MB mask (Ep mask h (Fg mask h L+I3 mask (B1 mask h L).1))=_;rw[this,vS];rfl
def ux(h:Int):bits h<2^64:=by unfold bits;have:=Int.emod_lt_of_pos h (b:=2^64) ε;have:=Int.emod_nonneg h (b:=2^64) ε;lia
theorem mF(mask:Nat)(h:Int):∀n,(B1 mask h n).2=bits h/32^n
 |0=>by simp[B1]
 |n+1=>by show(B1 mask h n).2/32=_;rw[mF mask h n,Nat.div_div_eq_div_mul,Nat.pow_succ]
def adG(mask:Nat)(h:Int)(n:Nat)(AM:13<=n):(B1 mask h n).2=0:=by
 rw[mF];apply Nat.div_eq_of_lt;have h1:=ux h;have h2:32^13<=32^n:=Nat.pow_le_pow_right ε AM;have BO:(2:Nat)^64<32^13:=ε
 lia
noncomputable def Lh(mask:Nat):Nat->Nat->Nat
 |0,i=>i
 |n+1,i=>(Lh mask n i*5+1)%(mask+1)
theorem mE(mask:Nat)(h:Int):∀m,(B1 mask h (13+m)).1=Lh mask m (B1 mask h 13).1
 |0=>rfl
 |m+1=>by have e:(B1 mask h (13+(m+1))).2=0:=adG mask h _ δ;have AH:(B1 mask h (13+m)).2/32=0:=e;show((B1 mask h (13+m)).1*5+1+(B1 mask h (13+m)).2/32)%(mask+1)=_;rw[AH,mE mask h m];rfl
theorem c4(mask:Nat)(a:Nat):∀b i,Lh mask (a+b) i=Lh mask b (Lh mask a i)
 |0,_=>rfl
 |b+1,i=>by show(Lh mask (a+b) i*5+1)%(mask+1)=_;rw[c4 mask a b i];rfl
noncomputable def bf(mask:Nat):Nat->Nat->↑Nat
 |0,_=>[]
 |n+1,i=>i::bf mask n ((i*5+1)%(mask+1))
theorem n7(mask i:Nat):∀n,Lh mask n ((i*5+1)%(mask+1))=Lh mask (n+1) i
 |0=>rfl
 |n+1=>by show(Lh mask n _*5+1)%_=_;rw[n7 mask i n];rfl
theorem fH(mask:Nat):∀n i j,j∈bf mask n i->∃m,m<n/\Lh mask m i=j
 |0,_,_,h=>by cases h
 |n+1,i,j,h=>by
  rcases List.mem_cons.mp h with rfl|h
  .exact⟨0,δ,rfl⟩
  .obtain⟨m,h1,h2⟩:=fH mask n _ j h;exact⟨m+1,δ,by rw[<-n7];exact h2⟩
structure II(mask:Nat):Prop where
 all:∀j,j<=mask->j∈bf mask (mask+1) 0
 back:Lh mask (mask+1) 0=0
def II.reach{mask:Nat}(C:II mask){i j:Nat}(hi:i<=mask)(Ar:j<=mask):∃m,m<=mask/\Lh mask m i=j:=by
 obtain⟨a,a1,a2⟩:=fH _ _ _ _ (C.all i hi);obtain⟨b,Cw,Fv⟩:=fH _ _ _ _ (C.all j Ar);by_cases h:a<=b
 .refine⟨b-a,δ,?_⟩;rw[<-a2,<-c4,show a+(b-a)=b by lia,Fv]
 .refine⟨mask+1-a+b,δ,?_⟩;rw[<-a2,<-c4,show a+(mask+1-a+b)=(mask+1)+b by lia,c4,C.back,Fv]
def eO{mask:Nat}(h:(Cn (mask+1)).all (λj=>(bf mask (mask+1) 0).contains j)=true)(b:Lh mask (mask+1) 0=0):II mask:=
 ⟨λj Ar=>by have:=List.all_eq_true.mp h j (List.mem_range.mpr δ);exact List.contains_iff_mem.mp this,b⟩
def k_:II 7:=eO (by decide+kernel) (by decide+kernel)
def kZ:II 31:=eO (by decide+kernel) (by decide+kernel)
def kY:II 127:=eO (by decide+kernel) (by decide+kernel)
def eZ(mask:Nat)(h:Int):∀n,(B1 mask h n).1<=mask
 |0=>hj (VN _ δ)
 |n+1=>hj (VN _ δ)
def II.leap{mask:Nat}(C:II mask)(h:Int){j:Nat}(Ar:j<=mask):∃L,L<mask+15/\(B1 mask h L).1=j:=by obtain⟨m,h1,h2⟩:=C.reach (eZ mask h 13) Ar;exact⟨13+m,δ,by rw[mE];exact h2⟩
def II.cover{mask:Nat}(C:II mask)(h:Int){j:Nat}(Ar:j<=mask):∃n,n<10*turns mask/\(Ep mask h n).j=j:=by
 obtain⟨L,h1,h2⟩:=C.leap h Ar;refine⟨Fg mask h L,?_,?_⟩
 .have:=q_ mask h L;unfold turns;lia
 .have:=fz mask h L 0 (IC _);erw[Nat.add_zero]at this;rw[this];exact h2
def xj{P:↑Nat}{mask:Nat}(AQ:P.Pairwise (· <·))(AM:⇑P<=mask):∃j,j<=mask/\j∉P:=by
 apply V2;intro no;have all:∀j,j<=mask->j∈P:=λj Ar=>V2 λz=>no ⟨j,Ar,z⟩;have Bz:(Cn (mask+1)).Nodup:=List.nodup_range;have sub:∀x∈Cn (mask+1),x∈P:=λx AJ=>all x (by have:=List.mem_range.mp AJ;lia);have key:∀(l:↑Nat),l.Nodup->∀(P:↑Nat),(∀x∈l,x∈P)->⇑l<=⇑P:=by
  intro l;induction l with
  |nil=>intro _ P _;simp
  |cons a r CI=>intro Bz P sub;obtain⟨E4,FQ⟩:=List.nodup_cons.mp Bz;have AG:=sub a γ;have:=CI FQ (P.erase a) (λx AJ=>(tm (by intro e;subst e;exact E4 AJ)).mpr (sub x (by simp[AJ])));rw[tI AG]at this;have:0< ⇑P:=hY AG;simp;lia
 have:=key _ Bz P sub;simp at this;lia
def least(p:Nat->Prop):(∃n,p n)->∃n,p n/\∀m,m<n->¬p m:=by
 rintro⟨n,h⟩;induction n using Nat.strongRecOn with
 |_ n CI=>
  by_cases q:∃m,m<n/\p m
  .obtain⟨m,GX,GY⟩:=q;exact CI m GX GY
  .exact⟨n,h,λm hm AV=>q ⟨m,hm,AV⟩⟩
def II.first{mask:Nat}(C:II mask){P:↑Nat}(AQ:P.Pairwise (· <·))(AM:⇑P<=mask)(h:Int):∃N,N<10*turns mask/\(Ep mask h N).j∉P/\∀m,m<N->(Ep mask h m).j∈P:=by obtain⟨j,J8,JY⟩:=xj AQ AM;obtain⟨n,E4,FQ⟩:=C.cover h J8;obtain⟨N,Zj,Zk⟩:=least (λn=>(Ep mask h n).j∉P) ⟨n,by rw[FQ];exact JY⟩;refine⟨N,?_,Zj,λm hm=>V2 (Zk m hm)⟩;have:¬n<N:=λz=>Zk n z (by rw[FQ];exact JY);lia
theorem mD(mask:Nat)(h:Int):∀n,(Ep mask h n).dummy=none
 |0=>rfl
 |n+1=>by
  show(MB mask (Ep mask h n)).dummy=none;unfold MB
  split<;>exact mD mask h n
def fe{mask i:Nat}(hi:i<=mask):runEnd mask i<=mask:=by unfold runEnd;split<;>lia
structure ih(mask:Nat)(p:Probe):Prop where
 i:p.i<=mask
 j:p.j+p.more<=mask
theorem nI(mask:Nat)(h:Int):∀n,ih mask (Ep mask h n)
 |0=>by have:=eZ mask h 0;have h2:=fe this;have BO:=gI mask (B1 mask h 0).1;exact⟨this,by show(B1 mask h 0).1+(runEnd mask (B1 mask h 0).1-(B1 mask h 0).1)<=mask;lia⟩
 |n+1=>by
  obtain⟨a,b⟩:=nI mask h n;show ih mask (MB mask (Ep mask h n));unfold MB
  split
  .rename_i q;refine⟨a,?_⟩;show(Ep mask h n).j+1+((Ep mask h n).more-1)<=mask;lia
  .have h1:(iR mask (Ep mask h n).i (Ep mask h n).perturb).1<=mask:=hj (VN _ δ);have h2:=fe h1;have BO:=gI mask (iR mask (Ep mask h n).i (Ep mask h n).perturb).1;refine⟨h1,?_⟩;show(iR mask (Ep mask h n).i (Ep mask h n).perturb).1+(runEnd mask _-_)<=mask;lia
def agL(mask:Nat)(h:Int)(n:Nat):(Ep mask h n).j<=mask:=by have:=(nI mask h n).j;lia
section
variable{α:Type}
structure Kt(t:J3)(es:Array (Int×α)):Prop where
 tab:Tab t es.size
 vr:II t.mask
 room:es.size<=t.mask
def Kt.len{t:J3}{es:Array (Int×α)}(J:Kt t es):⇑t.place.toList=es.size:=(J.tab.Md:)
theorem Kt.first{t:J3}{es:Array (Int×α)}(J:Kt t es)(h:Int):∃N,N<10*turns t.mask/\(Ep t.mask h N).j∉t.place.toList/\∀m,m<N->(Ep t.mask h m).j∈t.place.toList:=
 J.vr.first J.tab.Uf (by rw[J.len];exact J.room) h
theorem Kt.fits{t:J3}{es:Array (Int×α)}(J:Kt t es):t.fits es.size=true:=by unfold SetTable.fits SetTable.fill;rw[J.tab.TA,J.tab.Md];have:=J.room;simp;lia
theorem nA{t:J3}{es:Array (Int×α)}(J:Kt t es)(f:Nat->Int)(h:Int){N:Nat}(h1:(Ep t.mask h N).j∉t.place.toList)(h2:∀m,m<N->(Ep t.mask h m).j∈t.place.toList) :
  ∀fuel n,n<=N->N-n<fuel->
  probe.go t f h fuel (Ep t.mask h n)=↥(.empty (Ep t.mask h N).j none)\/
  ∃m i e,n<=m/\m<N/\t.slot (Ep t.mask h m).j=.live i/\es[i]?=↥e/\probe.go t f h fuel (Ep t.mask h n)=↥(.candidate (Ep t.mask h m).j i (Ep t.mask h (m+1)))
 |0,n,_,alB=>δ
 |fuel+1,n,AM,jq=>by
  unfold probe.go;by_cases q:n=N
  .subst q;rw[ahL J.tab h1];exact .inl (by dsimp only;rw[mD])
  .obtain⟨i,s1,s2⟩:=ahM J.tab (h2 n δ);have hi:i<es.size:=by rw[<-J.len];exact(List.getElem?_eq_some_iff.mp s2).1
   by_cases w:f i=h
   .exact .inr ⟨n,i,_,C1 _,δ,s1,Lj hi,by rw[s1];dsimp only;rw[if_pos (w:),j_];rfl⟩
   .rw[s1];dsimp only;rw[if_neg (w:),j_];exact(nA J f h h1 h2 fuel (n+1) δ δ).imp_right λ⟨m,lG,e,a1,a⟩=>⟨m,lG,e,δ,a⟩
def abI{es:Array α}{p:Nat}{e:α}(AV:p<=es.size):(insertAt es p e).size=es.size+1:=by
 have:(insertAt es p e).toList.length=es.size+1:=by rw[ej,EM,DV,OD,ZE,R1];lia
 simpa using this
def mR{es:Array α}{p:Nat}{x e:α}:e∈(insertAt es p x).toList↔e=x\/e∈es.toList:=by
 rw[ej]
 conv=>rhs;rw[<-P_ p es.toList]
 erw[I0,IF];exact⟨λh=>h.elim (λh=>.inr (.inl h)) λh=>h.imp_right .inr,λh=>h.elim (λh=>.inr (.inl h)) λh=>h.imp_right .inr⟩
end
structure Own(M:Nat)(owner:Array (Option Nat))(a:↑Nat):Prop where
 Md:owner.size=M+1
 Bz:a.Nodup
 le:∀j∈a,j<=M
 of:∀j k:Nat,owner[j]?=↥↥k↔a[k]?=↥j
def Own.free{M:Nat}{owner:Array (Option Nat)}{a:↑Nat}(O:Own M owner a){j:Nat}(Ar:j<=M):(owner.getD j ↥0).isNone=true↔j∉a:=by
 have AQ:j<owner.size:=by have:=O.Md;lia
 rw[Se,Lj AQ,Qx];constructor
 .intro h m;obtain⟨k,AR,rfl⟩:=Uy m;have:=(O.of _ k).mpr (CT AR);rw[Lj AQ]at this;rw[Gc this]at h;cases h
 .intro h;cases e:owner[j]with
  |none=>rfl
  |some k=>exact absurd (Lk ((O.of j k).mp (by rw[Lj AQ,e]))) h
theorem kJ{M:Nat}{owner:Array (Option Nat)}{a:↑Nat}(O:Own M owner a)(h:Int):∀fuel L,(∃LH,L<=LH/\LH<L+fuel/\(B1 M h LH).1∉a)->
  ∃j,layClean.free M owner fuel (B1 M h L).1 (B1 M h L).2=↥j/\j<=M/\j∉a
 |0,L,⟨LH,h1,h2,_⟩=>δ
 |fuel+1,L,⟨LH,h1,h2,BO⟩=>by
  unfold layClean.free;have hle:=eZ M h L;have alI:=fe hle;have alC:=gI M (B1 M h L).1;cases hf:(Cn (runEnd M (B1 M h L).1+1-(B1 M h L).1)).find? λk=>(owner.getD ((B1 M h L).1+k) ↥0).isNone with
  |some k=>have AR:=List.mem_range.mp (tP hf);exact⟨_,rfl,δ,(O.free δ).mp (by have:=List.find?_some hf;exact this)⟩
  |none=>
   have ne:L≠LH:=by rintro rfl;exact List.find?_eq_none.mp hf 0 (List.mem_range.mpr δ) ((O.free δ).mpr BO)
   exact kJ O h fuel (L+1) ⟨LH,δ,δ,BO⟩
def gT{l P:↑Nat}(Bz:l.Nodup)(sub:∀x∈l,x∈P):⇑l<=⇑P:=by
 induction l generalizing P with
 |nil=>simp
 |cons a r CI=>obtain⟨E4,FQ⟩:=List.nodup_cons.mp Bz;have AG:=sub a γ;have:=CI FQ (P:=P.erase a) (λx AJ=>(tm (by intro e;subst e;exact E4 AJ)).mpr (sub x (by simp[AJ])));rw[tI AG]at this;have:0< ⇑P:=hY AG;simp;lia
def xk{M:Nat}(C:II M){owner:Array (Option Nat)}{a:↑Nat}(O:Own M owner a)(AF:⇑a<=M)(h:Int):∃j,layClean.free M owner (turns M) (bits h%(M+1)) (bits h)=↥j/\j<=M/\j∉a:=by
 obtain⟨j,J8,JY⟩:∃j,j<=M/\j∉a:=by apply V2;intro no;have:=gT (List.nodup_range (n:=M+1)) (P:=a) λx AJ=>V2 λz=>no ⟨x,by have:=List.mem_range.mp AJ;lia,z⟩;simp at this;lia
 obtain⟨LH,Cp,Ck⟩:=C.leap h J8;exact kJ O h (turns M) 0 ⟨LH,IC _,by unfold turns;lia,by rw[Ck];exact JY⟩
noncomputable def YQ(M:Nat)(acc:Option (Array (Option Nat)×Nat))(h:Int):Option (Array (Option Nat)×Nat):=do
 let(owner,k) <-acc
 let j <-layClean.free M owner (turns M) (bits h%(M+1)) (bits h)
 pure (owner.setIfInBounds j ↥k,k+1)
def abU(M:Nat)(AQ:Array Int):layClean M AQ=(AQ.toList.foldl (YQ M) ↥(Array.replicate (M+1) none,0)).map (·.1):=by unfold layClean;rw[<-Array.foldl_toList];rfl
def Own.add{M:Nat}{owner:Array (Option Nat)}{a:↑Nat}(O:Own M owner a){j:Nat}(Ar:j<=M)(AM:j∉a):Own M (owner.setIfInBounds j (some ⇑a)) (a++[j]):=by
 have AQ:j<owner.size:=by have:=O.Md;lia
 refine⟨by simp[O.Md],?_,?_,λi k=>?_⟩
 .refine List.nodup_append.mpr ⟨O.Bz,γ,λx AJ y AP=>?_⟩;simp at AP;subst AP;intro e;subst e;exact AM AJ
 .intro i hi;rcases List.mem_append.mp hi with hi|hi
  .exact O.le i hi
  .simp at hi;lia
 .rw[Array.getElem?_setIfInBounds,List.getElem?_append];by_cases q:j=i
  .subst q;rw[if_pos rfl,if_pos AQ];constructor
   .intro e;have e:=Gc (Gc e);subst e;rw[if_neg (Jj _)];simp
   .intro e
    split at e
    .exact absurd (Lk e) AM
    .have:k- ⇑a<1:=(List.getElem?_eq_some_iff.mp e).1;rw[show k=⇑a by lia]
  .rw[if_neg q,O.of i k]
   split
   .rfl
   .rw[Jl δ];refine⟨(λe=>nomatch e),λe=>?_⟩;obtain⟨l,e⟩:=List.getElem?_eq_some_iff.mp e;simp at l e;exact absurd e q
theorem kG{M:Nat}(C:II M):∀(AQ:↑Int)(owner:Array (Option Nat))(a:↑Nat),Own M owner a->⇑a+⇑AQ<=M->
  ∃bg GL,AQ.foldl (YQ M) ↥(owner,⇑a)=↥(bg,⇑GL)/\Own M bg GL/\ ⇑GL=⇑a+⇑AQ
 |[],owner,a,O,_=>⟨owner,a,rfl,O,rfl⟩
 |h::AQ,owner,a,O,AF=>by
  erw[DV]at AF;obtain⟨j,f1,f2,Ev⟩:=xk C O δ h;obtain⟨bg,GL,Ax,BK,G2⟩:=kG C AQ _ _ (O.add f2 Ev) (by simp;lia);refine⟨bg,GL,?_,BK,by simp at G2 |-;lia⟩;have Do:YQ M ↥(owner,⇑a) h=↥(owner.setIfInBounds j (some ⇑a),⇑(a++[j])):=by unfold YQ;erw[Option.bind_eq_bind,iD,f1];simp
  rw[List.foldl_cons,Do];exact Ax
section
variable{α:Type}
theorem kB{es:↑α}:∀{l:↑Nat},(∀k∈l,k< ⇑es)->⇑(l.filterMap (es[·]?))=⇑l
 |[],_=>rfl
 |k::l,AR=>by rw[Sn,CT (AR k γ)];simp[kB (es:=es) (l:=l) λx AJ=>AR x (by simp[AJ])]
def ac0{M:Nat}(C:II M){es:Array (Int×α)}(AF:es.size<=M)(finger moves:Nat)(led plain:Bool) :
  ∃t' order,laid M finger moves led plain (es.map (·.1))=↥(t',order)/\t'.mask=M/\
   (order.filterMap (es[·]?)).size=es.size/\Kt t' (order.filterMap (es[·]?))/\∀e,e∈(order.filterMap (es[·]?)).toList↔e∈es.toList:=by
 obtain⟨owner,a,By,O,fF⟩:=kG C (es.map (·.1)).toList (Array.replicate (M+1) none) [] ⟨γ,γ,γ,λj k=>by
  rw[Array.getElem?_replicate]
  split<;>simp⟩ (AF:)
 have fF:⇑a=es.size:=(fF:)
 have By:layClean M (es.map (·.1))=↥owner:=by rw[abU];rw[show(VP ([]:↑Nat))=0 from rfl]at By;rw[By];rfl
 obtain⟨live,dg⟩:∃live,live=(Cn (M+1)).filterMap λj=>(owner.getD j none).map (j,·):=ο;have mem:∀j k,(j,k)∈live↔a[k]?=↥j:=by
  intro j k;rw[dg,List.mem_filterMap,<-O.of j k];erw[Se,List.mem_range,Option.map_eq_some_iff,Prod.mk.injEq];constructor
  .rintro⟨i,hi,y,e,rfl,rfl⟩;cases q:owner[i]? with
   |none=>rw[q]at e;cases e
   |some x=>rw[q]at e;exact congrArg some e
  .intro e;have:=(Array.getElem?_eq_some_iff.mp e).1;exact⟨j,by have:=O.Md;lia,k,by rw[e];rfl,rfl,rfl⟩
 have rise:(live.map (·.1)).Pairwise (· <·):=by rw[dg,Sl];refine List.Pairwise.filterMap _ (R:=(· <·)) ?_ (List.pairwise_lt_range:);intro i lG z5 b A5 Hm dY;obtain⟨_,_,rfl⟩:=Option.map_eq_some_iff.mp A5;obtain⟨_,_,rfl⟩:=Option.map_eq_some_iff.mp dY;exact z5
 have J_:⇑live=es.size:=by
  apply Nat.le_antisymm
  .have:=gT (rise.imp λh=>F7 h) (P:=a) (λx AJ=>by
     obtain⟨p,Ec,rfl⟩:=List.mem_map.mp AJ;exact Lk ((mem p.1 p.2).mp Ec))
   simp at this;lia
  .have:=gT O.Bz (P:=live.map (·.1)) (λx AJ=>by
     obtain⟨k,AR,rfl⟩:=Uy AJ;exact List.mem_map.mpr ⟨(a[k],k),(mem _ _).mpr (CT AR),rfl⟩)
   simp at this;lia
 have adX:∀k∈live.map (·.2),k< ⇑es.toList:=λk AR=>by obtain⟨p,Ec,rfl⟩:=List.mem_map.mp AR;have:=(List.getElem?_eq_some_iff.mp ((mem p.1 p.2).mp Ec)).1;simp;lia
 have aO:((live.map (·.2)).toArray.filterMap (es[·]?)).toList=(live.map (·.2)).filterMap (es.toList[·]?):=by rw[Array.toList_filterMap];simp
 have hsz:((live.map (·.2)).toArray.filterMap (es[·]?)).size=es.size:=by
  have:((live.map (·.2)).toArray.filterMap (es[·]?)).toList.length=es.size:=by rw[aO,kB adX];simp[J_]
  simpa using this
 refine⟨_,_,by
  unfold laid;rw[By];show↥_=_;rw[<-dg],rfl,hsz,⟨⟨rfl,?_,?_,?_⟩,C,by rw[hsz];exact AF⟩,λe=>?_⟩
 .rw[hsz];simp[J_]
 .simpa using rise
 .intro j Ar;have Ar:j∈live.map (·.1):=by simpa using Ar
  obtain⟨p,Ec,rfl⟩:=List.mem_map.mp Ar;exact O.le _ (Lk ((mem p.1 p.2).mp Ec))
 .rw[aO,List.mem_filterMap];constructor
  .rintro⟨k,_,q⟩;exact Lk q
  .intro q;obtain⟨k,AR,rfl⟩:=Uy q;have yV:k< ⇑a:=by rw[fF];simpa using AR
   exact⟨k,List.mem_map.mpr ⟨(a[k],k),(mem _ _).mpr (CT yV),rfl⟩,CT AR⟩
end
section
variable{prog:C9}{w:Bl}{A:DE}{E:A9->AS->Prop}{s:AS}{K:Type}[DecidableEq K]{knd:KeyKind prog w K}
def ni{AK:↑K}{a:A7}{n:Nat}{Q:Bool->AS->Prop}(AR:OO knd s.heap AK a)(h:Q false s):An Ω A (Z1 (n+1) (.ref a)) Q E s:=by
 have Dj:=AR.typeIs;obtain⟨o,items,m,ho,_,hd,hi⟩:=AR;unfold Z1;refine Ad (ZL Dj ?_);dsimp only;rw[if_pos (by rfl)];refine Ad (B_ ?_);erw[iS,MP,if_false];refine Ad (Pc ho hd ?_);refine Ad ?_;rw[<-Array.forIn_toList];refine iE _ (λrest r s'=>r.1=none/\s'=s/\∀v∈rest,V4 v=true) _ ?_ ?_ _ _ ⟨rfl,rfl,hi.byValue⟩
 .rintro v rest r s' ⟨B6,rfl,al⟩;have e:Z1 n v=pure false:=by
   have:=al v Hg;cases v<;>first|(simp[V4]at this;done)|(unfold Z1;rfl)
  rw[e];exact Ad (B_ (B_ ⟨rfl,rfl,λu BR=>al u (Gy _ BR)⟩))
 .rintro⟨Ax,BK⟩ s' ⟨B6,rfl,_⟩;simp only at B6;subst B6;exact B_ h
theorem uY{AK:↑K}{a:A7}{Q:Bool->AS->Prop}(AR:OO knd s.heap AK a)(h:∀b,Q b s):An Ω A (ZM 8 (.ref a)) Q E s:=by
 have Dj:=AR.typeIs;obtain⟨o,items,m,ho,_,hd,hi⟩:=AR;unfold ZM;refine Ad (i5 Dj F.slot_tuple_hash.lookup ?_);refine Ad (Pc ho hd ?_);erw[Qx];refine Ad ?_;rw[<-Array.forIn_toList];refine iE _ (λrest r s'=>r.1=none/\s'=s/\∀v∈rest,V4 v=true) _ ?_ ?_ _ _ ⟨rfl,rfl,hi.byValue⟩
 .rintro v rest r s' ⟨B6,rfl,al⟩;have e:∃b,ZM 7 v=pure b:=by
   have:=al v Hg;cases v<;>first|(simp[V4]at this;done)|(unfold ZM;exact⟨_,rfl⟩)
  obtain⟨b,e⟩:=e;rw[e];refine Ad (B_ ?_);cases b with
  |true=>exact B_ ⟨rfl,rfl,λu BR=>al u (Gy _ BR)⟩
  |false=>exact B_ (B_ (h _))
 .rintro⟨Ax,BK⟩ s' ⟨B6,rfl,_⟩;simp only at B6;subst B6;exact B_ (h _)
def P9(knd:KeyKind prog w K)(ok:A7->Prop)(h:BF)(S:↑↑K)(v:A9):Prop:=∃AK b,v=.ref b/\OO knd h AK b/\AK∈S/\ok b
def P9.to{ok o1:A7->Prop}{h h':BF}{S F1:↑↑K}{v:A9}(x:P9 knd ok h S v)(m:∀b o,ok b->h.get? b=↥o->h'.get? b=↥o)(s:∀AK∈S,AK∈F1)(k:∀b,ok b->o1 b):P9 knd o1 h' F1 v:=
 let⟨AK,b,e,⟨o,i,n,ho,r⟩,q,z⟩:=x;⟨AK,b,e,⟨o,i,n,m b o z ho,r⟩,s AK q,k b z⟩
def ae8{AK:↑K}{x:A7}{ok:A7->Prop}{S:↑↑K}(AJ:OO knd s.heap AK x):∀(l:↑A9),(∀y∈l,P9 knd ok s.heap S y)->∀{Q:Bool->AS->Prop},Q false s->An Ω A (searchCouldBeSeen (.ref x) l) Q E s:=by
 intro l AF Q h;unfold searchCouldBeSeen;refine Ad ?_;refine iE _ (λrest r s'=>r.1=none/\s'=s/\∀y∈rest,P9 knd ok s.heap S y) _ ?_ ?_ _ _ ⟨rfl,rfl,AF⟩
 .rintro v rest r s' ⟨B6,rfl,al⟩;obtain⟨Nj,b,rfl,A5,_⟩:=al v Hg;have ja:=λu(BR:u∈rest)=>al u (Gy _ BR);dsimp only;by_cases q:(x==b)=true
  .rw[if_pos (by simp[q])];exact B_ ⟨rfl,rfl,ja⟩
  .rw[if_neg (by simp[V4];simpa using q)];exact Ad (wpAny_eqIsQuiet_tuple AJ (Ad (wpAny_eqIsQuiet_tuple A5 (Ad (ni AJ (Ad (ni A5 (B_ ⟨rfl,rfl,ja⟩))))))))
 .rintro⟨Ax,BK⟩ s' ⟨B6,rfl,_⟩;simp only at B6;subst B6;exact B_ h
def ah5{α:Type}{c:Bool}{m:Sem Bool}{U R:Sem α}{Q:α->AS->Prop}(hm:∀{Q:Bool->AS->Prop},Q false s->An Ω A m Q E s)(h:An Ω A R Q E s) :
  An Ω A (if c=true then m>>=λb=>if b=true then U else R else R) Q E s:=by
 split
 .exact Ad (hm (by rw[if_neg γ];exact h))
 .exact h
theorem qY{a x:A7}{o:Obj}{Ao:Nat}{t:J3}{es:Array (Int×A9)}{AK:↑K}{ok:A7->Prop}{S:↑↑K}(BR:A.units<E8)(ho:s.heap.get? a=↥o)(hd:o.data=.set es Ao t)(J:Kt t es)(X:∀e∈es.toList,P9 knd ok s.heap S e.2)(AJ:OO knd s.heap AK x)(no:AK∉S)(bY:t.mask%2=1){N:Nat}(hN:N<10*turns t.mask)(h1:(Ep t.mask (Ic knd AK) N).j∉t.place.toList)(h2:∀m,m<N->(Ep t.mask (Ic knd AK) m).j∈t.place.toList){Q:SetFound->AS->Prop}(q:Q (.free (Ep t.mask (Ic knd AK) N).j false) s) :
  ∀(fuel n:Nat)(st:Option Probe),n<=N->N-n<fuel->st.getD (t.probeStart (Ic knd AK))=Ep t.mask (Ic knd AK) n->
   An Ω A (setSearchFrom a (.ref x) (Ic knd AK) true fuel st) Q E s
 |0,n,_,_,z,_=>δ
 |fuel+1,n,st,AM,hf,GA=>by
  unfold setSearchFrom;refine Ad (VF ho hd J.fits ?_);dsimp only;rw[if_neg (by unfold SetTable.gaveWay;simp[bY]),GA];unfold SetTable.probe;have G:=nA J (λi=>(es[i]?.map (·.1)).getD 0) (Ic knd AK) h1 h2 (10*turns t.mask) n AM δ;generalize hz:probe.go t _ (Ic knd AK) (10*turns t.mask) (Ep t.mask (Ic knd AK) n)=z;rcases G with g|⟨m,i,e,GX,GY,Bm,Gj,g⟩
  .have g:=hz.symm.trans g;subst g;exact B_ q
  .have g:=hz.symm.trans g;subst g;dsimp only;obtain⟨Nj,b,BE,Ub,ms,_⟩:=X e (by rw[<-Z3]at Gj;exact Lk Gj);have Gj:es[i]?=↥(e.1,.ref b):=by rw[Gj,<-BE]
   refine ah5 (λh=>ae8 (S:=S) (ok:=ok) AJ _ (λy AP=>?_) h) ?_
   .obtain⟨e,he,rfl⟩:=List.mem_map.mp AP;exact X e (by simp at he;simpa using he.1)
   .rw[Gj];refine Ad (MU (wpAny_eqBool_tuple BR Ub AJ ?_));refine Ad (VF ho hd J.fits ?_);have ne:decide (Nj=AK)=false:=decide_eq_false λz=>no (z▸ms);rw[ne];dsimp only;rw[if_neg γ,show t.sameMemory t.moves t.mask=↥true by unfold SetTable.sameMemory;simp];dsimp only;rw[if_pos rfl,Bm];dsimp only;rw[Gj];refine Ad (wpAny_isSame_ref_self ?_);rw[if_pos rfl];refine Ad (B_ ?_);dsimp only;rw[if_neg γ];exact qY BR ho hd J X AJ no bY hN h1 h2 q fuel (m+1) _ δ δ rfl
def PC(knd:KeyKind prog w K)(ok:A7->Prop)(h:BF)(a:A7)(S:↑↑K):Prop:=
 ∃o es Ao t,h.get? a=↥o/\o.ExactSet/\o.data=.set es Ao t/\Kt t es/\(∀e∈es.toList,P9 knd ok h S e.2)/\es.size=⇑S/\((t.mask=7/\es.size<5)\/(t.mask=31/\es.size<19)\/(t.mask=127/\es.size<77))
end
section
variable{prog:C9}{w:Bl}{A:DE}{E:A9->AS->Prop}{s:AS}{K:Type}[DecidableEq K]{knd:KeyKind prog w K}
def jo{h:BF}{a:A7}{o:Obj}{es es':Array (Int×A9)}{Ao:Nat}{t t':J3}(ho:h.get? a=↥o)(AJ:o.ExactSet)(hd:o.data=.set es Ao t):∃o',(h.update a (Obj.putSet es' t')).get? a=↥o'/\o'.ExactSet/\o'.data=.set es' (Ao+1) t':=by
 refine⟨_,Sm _ ho (by rw[putSet_of es' t' hd];rfl),?_,?_⟩
 .rw[putSet_of es' t' hd];exact AJ
 .rw[putSet_of es' t' hd]
def afz{a:A7}{o:Obj}{Ao:Nat}{t:J3}{es:Array (Int×A9)}{M wanted:Nat}{Q:Unit->AS->Prop}(ho:s.heap.get? a=↥o)(AJ:o.ExactSet)(hd:o.data=.set es Ao t)(J:Kt t es)(C:II M)(AF:es.size<=M)(SR:u8 wanted=M+1)(hm:M<=127)(h:∀es' t' o' h',L1 a s.heap h'->h'.get? a=↥o'->o'.ExactSet->o'.data=.set es' (Ao+1) t'->t'.mask=M->Kt t' es'->es'.size=es.size->(∀e,e∈es'.toList↔e∈es.toList)->Q () { s with heap:=h' }) :
  An Ω A (setRelay a wanted) Q E s:=by
 unfold setRelay;refine Ad (VF ho hd J.fits ?_);dsimp only;rw[if_neg (by rw[SR];show¬(M+1>CO);rw[Ln];lia)];obtain⟨t',order,Ax,BK,SD,afh,afl⟩:=ac0 C AF t.finger (t.movedTo M) t.led t.plain;have e:t.relaid (es.map (·.1)) wanted=↥(t',order):=by unfold SetTable.relaid;rw[SR];exact Ax
 rw[e];have Do:An Ω A (if((order.filterMap (es[·]?)).size !=es.size)=true then(do unsupported "internal:set-table-lost-an-element";pure (order.filterMap (es[·]?),t'))else pure (order.filterMap (es[·]?),t')) (λr s'=>An Ω A (storeSet a r.1 r.2) Q E s') E s:=by rw[if_neg (by rw[SD];simp)];refine B_ ?_;obtain⟨o',g1,g2,g3⟩:=jo (es':=order.filterMap (es[·]?)) (t':=t') ho AJ hd;exact wpAny_storeSet_of ho hd (h _ t' o' _ (Si _ _ _) g1 g2 g3 BK afh SD afl) (by rw[SD,Ln];lia)
 exact Ad Do
def vO{ok:A7->Prop}{a x:A7}{S:↑↑K}{AK:↑K}{Q:Bool->AS->Prop}(BR:A.units<E8)(T:PC knd ok s.heap a S)(AJ:OO knd s.heap AK x)(Az:ok x)(na:∀b,ok b->b≠a)(no:AK∉S)(Mq:⇑S<76)(h:∀b h',L1 a s.heap h'->PC knd ok h' a (S++[AK])->Q b { s with heap:=h' }) :
  An Ω A (setAddHashed a (.ref x) (Ic knd AK)) Q E s:=by
 obtain⟨o,es,Ao,t,ho,hex,hd,J,X,AM,B6⟩:=T;obtain⟨C,bY⟩:II t.mask/\t.mask%2=1:=by
  rcases B6 with⟨e,_⟩|⟨e,_⟩|⟨e,_⟩<;>rw[e]
  .exact⟨k_,rfl⟩
  .exact⟨kZ,rfl⟩
  .exact⟨kY,rfl⟩
 obtain⟨N,uJ,Zj,Zk⟩:=J.first (Ic knd AK);unfold setAddHashed setAddHashedIn;refine MU (Ad (VF ho hd J.fits ?_));dsimp only;rw[if_neg (by simp[byScan,Value.scannable])];unfold setSearch;refine Ad (qY BR ho hd J X AJ no bY uJ Zj Zk ?_ 100000 0 none (IC _) (by
  have:turns t.mask<=142:=by unfold turns;lia
  lia) rfl)
 dsimp only;refine Ad (VF ho hd J.fits ?_);dsimp only;obtain⟨p,Ec,D2,T_,-,IP⟩:=agO J.tab Zj (agL _ _ _);generalize Ar:(Ep t.mask (Ic knd AK) N).j=j at*;have Ht:=abI (e:=(Ic knd AK,Cv x)) D2
 have fin:∀pl:Bool,An Ω A (do
       storeSet a (Ys es (t.put j).2 (Ic knd AK,Cv x)) { (t.put j).1 with plain:=pl }
       if(!false&&({ (t.put j).1 with plain:=pl }:J3).tooFull)=true then do
          setRelay a (SetTable.grown (es.size+1))
          pure true
        else pure true) Q E s:=by
  intro pl;have IP:(t.put j).1.mask=t.mask:=by rw[IP]
  have Ac:Kt { (t.put j).1 with plain:=pl } (Ys es (t.put j).2 (Ic knd AK,Cv x)):=⟨⟨T_.TA,by rw[Ec,Ht];exact T_.Md,T_.Uf,T_.le⟩,by rw[<-IP]at C;exact C,by rw[Ec,Ht];show es.size+1<=(t.put j).1.mask;lia⟩;rw[Ec]at Ac |-;obtain⟨D1,g1,g2,g3⟩:=jo (es':=Ys es p (Ic knd AK,Cv x)) (t':={ (t.put j).1 with plain:=pl }) ho hex hd;have pq:=Si s.heap a (Obj.putSet (Ys es p (Ic knd AK,Cv x)) { (t.put j).1 with plain:=pl });have done:∀(h':BF)(es':Array (Int×A9))(t':J3)(o':Obj)(N_:Nat),L1 a s.heap h'->h'.get? a=↥o'->o'.ExactSet->o'.data=.set es' N_ t'->Kt t' es'->es'.size=es.size+1->(∀e,e∈es'.toList↔e=(Ic knd AK,Cv x)\/e∈es.toList)->((t'.mask=7/\es'.size<5)\/(t'.mask=31/\es'.size<19)\/(t'.mask=127/\es'.size<77))->Q true { s with heap:=h' }:=by
   intro h' es' t' o' N_ Fc q1 q2 F4 Ma Ud Ql LP;have m:∀b o,ok b->s.heap.get? b=↥o->h'.get? b=↥o:=λb o z e=>(Fc.2 b (na b z)).trans e;refine h true h' Fc ⟨o',es',N_,t',q1,q2,F4,Ma,λe he=>?_,by rw[Ud,AM];simp,LP⟩;rcases(Ql e).mp he with rfl|he
   .exact P9.to (S:=[AK]) ⟨AK,x,rfl,AJ,hW _,Az⟩ m (λk AR=>IA _ AR) λ_ z=>z
   .exact(X e he).to m (λk AR=>J2 _ AR) λ_ z=>z
  refine Ad (wpAny_storeSet_of ho hd ?_ (by rw[Ht,Ln];lia));have agz:({ (t.put j).1 with plain:=pl }:J3).tooFull=decide ((es.size+1)*5≥t.mask*3):=by unfold SetTable.tooFull SetTable.fill;rw[Ac.tab.Md,Ac.tab.TA,Ht];show decide ((es.size+1+0)*5≥(t.put j).1.mask*3)=_;rw[IP]
  rw[agz];by_cases full:(es.size+1)*5≥t.mask*3
  .rw[if_pos (full:)];obtain⟨M,By,Cz,G7,ME,Vq⟩:∃M,II M/\u8 (SetTable.grown (es.size+1))=M+1/\M<=127/\es.size+1<=M/\((M=7/\es.size+1<5)\/(M=31/\es.size+1<19)\/(M=127/\es.size+1<77)):=by
    rcases B6 with⟨e,l⟩|⟨e,l⟩|⟨e,l⟩
    .rw[show es.size=4 by lia];exact⟨31,kZ,by decide+kernel,ε⟩
    .rw[show es.size=18 by lia];exact⟨127,kY,by decide+kernel,ε⟩
    .lia
   refine Ad (afz g1 g2 g3 Ac By (by rw[Ht];exact ME) Cz G7 λes' t' o' h' Fc q1 q2 F4 Ma Ud Ql LP=>B_ ?_);exact done h' es' t' o' _ (pq.trans Fc) q1 q2 F4 Ud (by rw[Ql,Ht]) (λe=>by rw[LP e,mR]) (by rw[Ma,Ql,Ht];exact Vq)
  .rw[if_neg (full:)];refine B_ (done _ _ _ D1 _ pq g1 g2 g3 Ac Ht (λe=>mR) ?_);rw[Ht];show((t.put j).1.mask=7/\_)\/((t.put j).1.mask=31/\_)\/((t.put j).1.mask=127/\_);lia
 split
 .exact Ad (uY AJ λb=>by cases b<;>exact fin _)
 .exact Ad (B_ (fin _))
end
open PyProof.Rows
section
variable{prog:C9}{w:Bl}{A:DE}{E:A9->AS->Prop}{s:AS}{K:Type}[DecidableEq K]{knd:iN prog w K}
section
variable{R:Result->AS->Prop}{J:A7}{BP wr:↑A7}{G:Array GenState->Array GenState->Prop}{n:Nat}{P:Nat->A9->Prop}{St:Nat->AS->Prop}
def Keyed(knd:iN prog w K)(keys:↑↑K)(P:Nat->A9->Prop)(no:↑A7)(h:BF):Prop:=∀i v,P i v->∃AK,keys[i]?=↥AK/\P9 knd (· ∉no) h [AK] v
def PC.moved{ok:A7->Prop}{h h':BF}{S:A7}{L:↑↑K}(T:PC knd ok h S L)(adT:∀o,h.get? S=↥o->h'.get? S=↥o)(m:∀b o,ok b->h.get? b=↥o->h'.get? b=↥o):PC knd ok h' S L:=
 let⟨o,es,Ao,t,ho,hex,hd,J,X,r⟩:=T
 ⟨o,es,Ao,t,adT o ho,hex,hd,J,λe he=>(X e he).to m (λ_ z=>z) λ_ z=>z,r⟩
def adE(W:WalksS prog w A.in1 J BP wr G n P St)(S:A7)(Wa:S∉BP)(keys:↑↑K)(AM:⇑keys=n)(Bz:keys.Nodup)(A5:n<77)(BR:A.in1.units<E8) :
  ∀(k i:Nat)(s:AS),n-i=k->i<=n->St i s->Keyed knd keys P (S::wr) s.heap->PC knd (· ∉S::wr) s.heap S (keys.take i)->
   (∀s',Moved (S::wr) G s s'->PC knd (· ∉S::wr) s'.heap S keys->R (.ok (.ret .none)) s')->
   MY Ω A (.builtin "set.update.loop" ⟨[.ref S,.ref J],[]⟩) R s:=by
 have zV:S∉wr:=λh=>Wa (W.sub _ h);have QO:∀b∈wr,b∈S::wr:=λb A5=>Gy _ A5;have keep:∀{s s':AS}{L:↑↑K},Moved wr G s s'->PC knd (· ∉S::wr) s.heap S L->PC knd (· ∉S::wr) s'.heap S L:=λm T=>
  T.moved (λo e=>m.heap S o zV e) λb o nb e=>m.heap b o (λz=>nb (QO b z)) e
 intro k;induction k with
 |zero=>
  intro i s AR hi GA WF T Sy;obtain rfl:i=n:=δ
  refine Sr tw ?_;rw[V1 hX _];refine Ad (W.done s _ _ GA λs' hm=>?_);rw[<-AM,iF]at T;exact B_ (Sy s' (hm.mono QO) (keep hm T))
 |succ k CI=>
  intro i s AR hi GA WF T Sy;have DH:i<n:=δ
  refine Sr tw ?_;rw[V1 hX _];refine Ad (W.item i s _ _ DH GA λv s' Di aaP hm=>?_);have T_:=keep hm T;obtain⟨AK,DN,Nj,b,rfl,Ub,yY,nb⟩:=WF i v Di;obtain rfl:=List.mem_singleton.mp yY;have Ub:OO knd s'.heap Nj b:=let⟨o,it,c,ho,r⟩:=Ub;⟨o,it,c,hm.heap b o (λz=>nb (QO b z)) ho,r⟩
  show An _ A.in1 (JQ [Cv b] (setAdd S (.ref b))>>=_) _ _ s';refine Ad (MU ?_);unfold setAdd;refine MU (Ad (wpAny_pyHash_tuple BR Ub ?_));have AD:keys.take (i+1)=keys.take i++[Nj]:=by rw[Yt,DN];rfl
  have no:Nj∉keys.take i:=λz=>by have:=Bz.sublist (List.take_sublist (i+1) keys);rw[AD,hk]at this;exact this.2.2 _ z _ (hW _) rfl
  refine vO (s:={ s' with toks:=s'.toks+(⇑Nj+1) }) BR T_ Ub nb (λb z e=>z (e▸Hg)) no (by rw[OD];lia) λc h' Fc vJ=>?_;have Vy:∀Hm o,Hm∉S::wr->s'.heap.get? Hm=↥o->h'.get? Hm=↥o:=λHm o acy e=>by rw[Fc.2 Hm (λz=>acy (by rw[z];exact Hg))];exact e
  refine B_ ⟨ZN hX _,CI (i+1) _ δ DH (W.frame _ s' _ _ aaP (Ph _ _) λHm dY o e=>?_) (λj v p=>?_) (by rw[AD];exact vJ) λK9 yb zT=>?_⟩
  .rw[Fc.2 Hm (λh:Hm=S=>Wa (by rw[<-h];exact dY))];exact e
  .obtain⟨AK,e,x⟩:=WF j v p;exact⟨AK,e,x.to (λb o nb e=>Vy b o nb (hm.heap b o (λz=>nb (QO b z)) e)) (λ_ z=>z) λ_ z=>z⟩
  .exact Sy K9 (Moved.trans W.gtrans ((hm.mono QO).then_heap (Ph _ _) Vy) yb) zT
end
noncomputable def Mc(led:Bool):Obj:={ cls:=.type "set",dict:=none,data:=.set #[] 0 (.fresh 0 0 led) }
theorem ah7(a:A9){Q₁:A9->AS->Prop}(h:Q₁ (.ref s.heap.objs.size) { s with heap:=s.heap.push (Mc (!w.params.followText "set-order")) }):MY Ω A (.call (.builtin "set.__new__") { pos:=[.type "set",a] }) (wants Q₁ E) s:=by
 have QO:=sub_set_self;refine codeAny_of_tree ?_;refine Ad (wpAny_of_eq (F.newCall_set_1 a) (B_ ⟨ZN F.plain_set_new _,Sr F.entry_set_new ?_⟩));rw[V1 F.plain_set_new _];obtain⟨AV,g,d,Ce,os⟩:=s;have nn:∀{A:DE}{Q:A9->AS->Prop}{E:A9->AS->Prop},Q (.ref AV.objs.size) ⟨AV.push (Mc (!w.params.followText "set-order")),g,d,Ce,os⟩->An Ω A (newSet (.type "set")) Q E ⟨AV,g,d,Ce,os⟩:=λ{A Q E} AW=>by unfold newSet setsByText;exact Ad (Ad (wpAny_askSetting (B_ (Lm AW))))
 unfold Builtin.«set.__new__»;generalize hN:newSet=akI at nn |-
 wp_walk
 exact nn (B_ h)
set_option maxHeartbeats 3200000 in
theorem wK{l:A7}{items:Array A9}{keys:↑↑K}{Q:A9->AS->Prop}(hh:A.handled=none)(BR:A.units+64<E8)(AF:s.heap.IsList l items)(AR:⇑keys=items.size)(Bz:keys.Nodup)(A5:items.size<77)(hi:∀(i:Nat) v,items[i]?=↥v->∃b AK,v=.ref b/\keys[i]?=↥AK/\OO knd s.heap AK b)(h:∀(h':BF)(Ce:Nat),(∃o es Ao t,h'.get? s.heap.objs.size=↥o/\o.ExactSet/\o.data=.set es Ao t/\t.fits es.size=true/\es.size=⇑keys)->(∀b o,s.heap.get? b=↥o->h'.get? b=↥o)->Q (.ref s.heap.objs.size) { s with heap:=h',toks:=Ce }) :
  An Ω A (call (.type "set") [.ref l]) Q E s:=by
 obtain⟨c,KF,alG⟩:=F.called_set.mro;have alF:=F.called_set.made;have QO:=F.called_set.sub;refine wpAny_call (codeAny_of_tree ?_);show An _ _ (callAny (.type "set") _) _ _ _;refine B_ ⟨Code.quiet_builtin _ (by decide+kernel),Sr F.entry_type_call ?_⟩;rw[Around.under_plain (weight_type_call_type "set" [.ref l] []) rfl];have h1:=F.called_set.notType;have h2:=F.called_set.canCreate;have alA:=F.typeCall_set_1 (.ref l)
 repeat (any_goals (first|assumption|wp_step))
 refine R7 (ah7 (.ref l) (E:=E) (Q₁:=λobj D3=>∃led:Bool,obj=.ref s.heap.objs.size/\D3={ s with heap:=s.heap.push (Mc led) }) ⟨_,rfl,rfl⟩) λr D3 B6=>?_;rcases r with e|Dv
 .exact B6
 .cases Dv with
  |ret obj=>
   obtain⟨led,rfl,rfl⟩:=B6;have Mq:(s.heap.push (Mc led)).get? s.heap.objs.size=↥(Mc led):=Fe _ rfl;have Dj:Shared.TypeIs { s with heap:=s.heap.push (Mc led) } (.ref s.heap.objs.size) "set":=⟨_,Mq,rfl⟩;have aZ:=F.called_set.init.lookup;have aV:=F.called_set.init.bind (.ref s.heap.objs.size)
   repeat (any_goals (first|assumption|wp_step))
   refine R7 (codeAny_call_builtin (R:=wants (λr Jf=>r=.none/\Q (.ref s.heap.objs.size) Jf) E) F.called_set.init.plain F.entry_set_init (check_set_init_1 Dj ?_)) λafb Jf fT=>?_
   .obtain⟨ol,UP,SU,nl,UL⟩:=AF;obtain⟨akU,aeK,akV,adY⟩:=ol;simp only at SU UL;subst SU;subst UL;have aaF:(s.heap.push (Mc led)).get? l=some { cls:=.type "list",dict:=aeK,data:=.seq items nl,slots:=adY }:=Cy _ UP;have alK:=F.sub_list_set;have alJ:=F.sub_list_frozenset;have J7:(OL "list"==OL "dict")=false:=ε
    have fJ:(s.heap.push (Mc led)).IsList l items:=⟨_,aaF,rfl,nl,rfl⟩;unfold Builtin.«set.__init__» noKeywords Builtin.Frozenset.updateFrom;generalize zR:pyIter=Hk
    wp_walk
    subst zR;refine hl fJ ?_;refine Ad (wpAny_runValue ?_);have l3:l<s.heap.objs.size:=Dk UP;have du:(s.heap.push (Mc led)).objs.size=s.heap.objs.size+1:=Li _ _;have kP:∀b o,s.heap.get? b=↥o->((s.heap.push (Mc led)).push { cls:=.type "list_iterator",data:=.fields #[.ref l,.int 0 0] }).get? b=↥o:=λb o e=>Cy _ (Cy _ e);have Vy:∀b o,s.heap.get? b=↥o->b∉s.heap.objs.size::[(s.heap.push (Mc led)).objs.size]:=λb o e=>by have:=Dk e;rw[du];erw[IF,NI,or_false,not_or];exact⟨F7 this,F7 (VE this)⟩
    refine adE (knd:=knd) ((Walks.list (by simp[hh]) _ l (by rw[du];exact F7 (VE l3)) items).toS) s.heap.objs.size (by
     rw[du];erw[IF,NI,or_false,not_or];exact⟨F7 (Pf _),R6 l3⟩) keys AR Bz A5 (by erw[Around.in1_units];lia) (items.size-0) 0 _ δ (IC _)
     ⟨⟨_,Fe _ rfl,rfl,rfl⟩,(fJ.push _)⟩ (λi v p=>?_) ⟨_,#[],0,_,Cy _ Mq,⟨rfl,rfl,rfl⟩,rfl,⟨⟨rfl,rfl,by simp[SetTable.fresh],by simp[SetTable.fresh]⟩,k_,IC _⟩,λe he=>(by simp at he),rfl,.inl ⟨rfl,ε⟩⟩ λs' hm T=>?_
    .obtain⟨b,AK,rfl,q,o,it,c,ho,r⟩:=hi i v p;exact⟨AK,q,AK,b,rfl,⟨o,it,c,kP b o ho,r⟩,hW _,Vy b o ho⟩
    .obtain⟨h',g',d',ah2,gY⟩:=s';obtain rfl:g'=s.gens:=hm.gens;obtain rfl:d'=s.drawn:=hm.drawn;obtain rfl:gY=s.os:=hm.os;obtain⟨o,es,Ao,t,q1,q2,F4,Ma,Ud,Ql,LP⟩:=T;exact B_ (B_ ⟨rfl,h h' ah2 ⟨o,es,Ao,t,q1,q2,F4,Ma.fits,Ql⟩ λb o e=>hm.heap b o (Vy b o e) (kP b o e)⟩)
   .rcases afb with e|xe
    .exact fT
    .cases xe with
     |ret r=>
      obtain⟨rfl,AW⟩:=fT
      repeat (any_goals (first|assumption|wp_step))
     |_=>cases fT
  |_=>cases B6
end
end ZQ
namespace LT
open PyProof.Rows
def L9(h:BF)(d:A7)(es:Array L5)(Ao:Nat):Prop:=∃o,h.get? d=↥o/\o.ExactDict/\o.data=.dict es Ao
def L9.at{h h':BF}{d:A7}{es:Array L5}{Ao:Nat}(x:L9 h d es Ao)(e:∀o,h.get? d=↥o->h'.get? d=↥o):L9 h' d es Ao:=let⟨o,ho,r⟩:=x;⟨o,e _ ho,r⟩
def L9.typeIs{s:AS}{d:A7}{es:Array L5}{Ao:Nat}(x:L9 s.heap d es Ao):s.TypeIs (.ref d) "dict":=let⟨o,ho,c,_⟩:=x;⟨o,ho,c.1⟩
def Nl(a b:Int):Bool:=decide (a<=b)
def KB(AK:↑Int):↑Int:=AK.mergeSort Nl
def abY(a b c:Int)(h1:Nl a b=true)(h2:Nl b c=true):Nl a c=true:=by unfold Nl at*;have h1:=of_decide_eq_true h1;have h2:=of_decide_eq_true h2;exact decide_eq_true δ
def abX(a b:Int):(Nl a b||Nl b a)=true:=by
 unfold Nl;by_cases h:a<=b
 .simp[h]
 .have:b<=a:=δ
  simp[this]
def ahR{AK l:↑Int}(p:l.Perm AK)(h:l.Pairwise λa b=>Nl a b=true):l=KB AK:=
 List.Perm.eq_of_pairwise (le:=λa b=>Nl a b=true) (λa b _ _ h1 h2=>by
  have h1:=of_decide_eq_true h1;have h2:=of_decide_eq_true h2
  lia) h (List.pairwise_mergeSort abY abX AK) (p.trans (Yu _ _).symm)
theorem ek:∀{vs:↑A9}{ns:↑Int},RD vs ns->vs.map numOf=ns/\∀v∈vs,∃k t,v=.int k t
 |_,_,.nil=>⟨rfl,λ_ h=>nomatch h⟩
 |_,_,.cons n t h=>⟨by rw[DC,(ek h).1];rfl,λv Bg=>by
  rcases List.mem_cons.mp Bg with rfl|Bg
  .exact⟨n,t,rfl⟩
  .exact(ek h).2 v Bg⟩
def sD{us:↑A9}{out:Array A9}{ns:↑Int}(a:RD out.toList ns)(p:ns.Perm (us.map numOf))(h:ns.Pairwise (· <=·)):⇑out.toList=⇑us/\(∀v∈out.toList,∃k t,v=.int k t)/\out.toList.map numOf=KB (us.map numOf):=by obtain⟨e,g⟩:=ek a;have Cp:=congrArg VP e;have Ck:=p.length_eq;rw[Ch]at Cp Ck;exact⟨Cp.trans Ck,g,e.trans (ahR p (h.imp decide_eq_true))⟩
section
variable{prog:C9}{w:Bl}{A:DE}{E:A9->AS->Prop}{s:AS}{es:Array L5}
theorem oP{d:A7}{Ao:Nat}{Q:A9->AS->Prop}(hd:(d==KO)=false)(hm:L9 s.heap d es Ao)(Fo:Q (.ref s.heap.objs.size) { s with heap:=s.heap.push { cls:=.type "dict_keyiterator",data:=.fields #[.ref d,.int 0 0,.int es.size 0,.int Ao 0] } }) :
  An Ω A (pyIter (.ref d)) Q E s:=by
 have Dj:s.TypeIs (.ref d) "dict":=hm.typeIs;obtain⟨o,ho,AI,la⟩:=hm;refine wpAny_pyIter_slot Dj F.slot_dict_iter (OE F.slot_dict_iter Dj F.entry_dict_iter ?_ (F.args_dict_iter_1 _));unfold Builtin.«dict.__iter__»;refine Ad ?_;unfold Builtin.Dict.dictSlotNone;refine Ad (wpAny_notOrdered_dict Dj ?_);show An _ _ (pure (Cv d)) _ _ s;refine B_ ?_;show An _ _ (tf d>>=_) _ _ s;unfold tf;rw[if_neg (by rw[hd];exact L4)];refine Ad (B_ ?_);refine Ad (hn ho la ?_);refine Ad (i7 ho la ?_);refine Ad (Lm (B_ ⟨_,rfl,"dict_keyiterator",_,⟨_,Fe _ rfl,rfl⟩,F.slot_dict_keyiterator_next.lookup,?_⟩));simpa[NN]using Fo
def oO{it d:A7}{i Ao:Nat}{Q:Option A9->AS->Prop}(hit:s.heap.IsKeyIter it d i es.size Ao)(hm:L9 s.heap d es Ao)(y_:i<es.size)(Fo:∀h',h'.IsKeyIter it d (i+1) es.size Ao->L1 it s.heap h'->Q (↥es[i].key) { s with heap:=h' }) :
  An Ω A (OQ (.ref it)) Q E s:=by
 obtain⟨o,ho,AI,hd⟩:=id hit;obtain⟨E9,Wj,Ld,Wh⟩:=id hm;unfold OQ
 refine Ad (wpAny_attempt (Sc (name:=So "__next__") hit.typeIs Yr
  (OE Yr hit.typeIs tR ?_ (tQ _))))
 refine Ad (B_ ?_);refine Ad ?_;refine Ad ?_
 first|refine Ad (Yq hit.typeIs (B_ ?_))|refine Ad (Yp hit.typeIs (B_ ?_))
 refine Ad (wpAny_fieldsOf ho hd ?_);have fQ:tV "dict_keyiterator"=false:=ε
 erw[fQ,MP,if_false];show An _ _ (if(Cv d==JP)=true then _ else _) _ _ s;rw[if_neg (show¬((Cv d==JP)=true)from L4)];refine Ad (B_ ?_);refine Ad (hn Wj Wh ?_);rw[if_neg γ];refine Ad (B_ ?_);refine Ad (i7 Wj Wh ?_);rw[if_neg γ];refine B_ ?_;erw[show¬((i:Int)<0)from δ,if_false,R5,Lj y_];refine Ad ?_
 first|refine Ad (Yq hit.typeIs (B_ ?_))|refine Ad (Yp hit.typeIs (B_ ?_))
 refine Ad (wpAny_isOneOf_keyiter hit.typeIs ?_);show An _ _ (setField (.ref it) 1 (NN ((i:Int)+1))>>=_) _ _ s;refine Ad (ZB ho hd γ ?_);have UN:(s.heap.update it (Obj.mapFields (·.setIfInBounds 1 (NN ((i:Int)+1))))).IsKeyIter it d (i+1) es.size Ao:=
  ⟨_,Sm _ ho (tc (Yw hd _)),(Obj.cls_mapFields ..).trans AI,by rw[Yw hd];simp[NN]⟩
 refine Ad (MU ?_);refine Ad (wpAny_isOneOf_keyiter (s:={ s with heap:=s.heap.update it (Obj.mapFields (·.setIfInBounds 1 (NN ((i:Int)+1)))) }) UN.typeIs ?_);show An _ _ (pure es[i].key) _ _ _;exact B_ (B_ ⟨_,rfl,B_ (Fo _ UN (Si ..))⟩)
def oN{it d:A7}{Ao:Nat}{Q:Option A9->AS->Prop}(hh:A.handled=none)(hit:s.heap.IsKeyIter it d es.size es.size Ao)(hm:L9 s.heap d es Ao)(Fo:∀h',Heap.ExtBut it s.heap h'->Q none { s with heap:=h' }):An Ω A (OQ (.ref it)) Q E s:=by
 obtain⟨o,ho,AI,hd⟩:=id hit;obtain⟨E9,Wj,Ld,Wh⟩:=id hm;unfold OQ
 refine Ad (wpAny_attempt (Sc (name:=So "__next__") hit.typeIs Yr
  (OE Yr hit.typeIs tR ?_ (tQ _))))
 refine Ad (B_ ?_);refine Ad ?_;refine Ad ?_
 first|refine Ad (Yq hit.typeIs (B_ ?_))|refine Ad (Yp hit.typeIs (B_ ?_))
 refine Ad (wpAny_fieldsOf ho hd ?_);have fQ:tV "dict_keyiterator"=false:=ε
 erw[fQ,MP,if_false];show An _ _ (if(Cv d==JP)=true then _ else _) _ _ s;rw[if_neg (show¬((Cv d==JP)=true)from L4)];refine Ad (B_ ?_);refine Ad (hn Wj Wh ?_);rw[if_neg γ];refine Ad (B_ ?_);refine Ad (i7 Wj Wh ?_);rw[if_neg γ];refine B_ ?_;erw[show¬((es.size:Int)<0)from δ,if_false,R5,Array.getElem?_eq_none (C1 es.size)];refine Ad ?_
 first|refine Ad (Yq hit.typeIs (B_ ?_))|refine Ad (Yp hit.typeIs (B_ ?_))
 show An _ _ (setField (.ref it) 0 .none>>=_) _ _ s;refine Ad (ZB ho hd γ ?_);show An _ _ (newExc (.type "StopIteration") []>>=_) _ _ _;refine Ad ?_;erw[newExc,newTuple];refine Ad (Lm ?_ (by size_fits));refine Ad (m:=ZC _ _) (wpAny_of_eq (a:=JP) (by first|rfl|(erw[ZC];rfl)) ?_);refine Lm ?_ (by size_fits);erw[raiseNew];refine Ad (wpAny_handled ?_);rw[show A.in1.handled=none from hh];refine Ad (B_ (wpAny_throw ?_));refine Ad (iC (T:="StopIteration") (b:=true) ⟨_,Fe _ rfl,rfl⟩ isSubtype_stop ?_);exact B_ (Fo _ (((Si ..).extBut.push _).push _))
def afv(hh:A.handled=none)(J d:A7)(J7:d≠J)(es:Array L5)(Ao:Nat) :
  Walks prog w A J [J,d] [J] es.size (λi v=>es[i]?.map (·.key)=↥v) (λi h=>h.IsKeyIter J d i es.size Ao/\L9 h d es Ao) where
 sub:=λb A5=>by simp at A5;simp[A5]
 frame:=λ_ _ _ st AR=>⟨st.1.at λo e=>AR J γ o e,st.2.at λo e=>AR d γ o e⟩
 item:=λi s Q E hi st Fo=>oO st.1 st.2 hi λh' UN Lf=>
  Fo _ h' s.toks (by rw[Lj hi];rfl) ⟨UN,st.2.at λo e=>Lf.extBut d o J7 e⟩ λb o A5 e=>Lf.extBut b o (λh=>A5 (by simp[h])) e
 done:=λs Q E st Fo=>oN hh st.1 st.2 λh' yw=>Fo h' s.toks λb o A5 e=>yw b o (λh=>A5 (by simp[h])) e
 self:=λ_ _ _ _ st Fo=>wpAny_pyIter_keyiter st.1 Fo
def w5:typeLookup (.type "dict") "__len__"=pure ↥(.builtin "dict.__len__"):=by rw[typeLookup_type,builtinLookup_eq_fast];kernel_rfl
def aay{acc:Array A9}{es:Array L5}(h:ItemsOf (λi v=>es[i]?.map (·.key)=↥v) acc es.size):acc.toList=es.toList.map (·.key):=by
 apply ht;intro i;have AD:acc.toList[i]?=acc[i]?:=γ
 rw[E7,AD];cases e:acc[i]? with
 |none=>
  have:acc.size<=i:=(e:)
  rw[h.1]at this;have AH:es.toList[i]?=none:=Jl (this:);rw[AH];rfl
 |some v=>have:=h.2 i v e;rw[<-this];simp
theorem wX{d:A7}{Ao:Nat}{Q:↑A9->AS->Prop}(hh:A.handled=none)(hd:(d==KO)=false)(hm:L9 s.heap d es Ao)(AM:es.size<=CO)(Fo:∀h' Ce,(∀b o,s.heap.get? b=↥o->h'.get? b=↥o)->s.heap.objs.size<h'.objs.size->Q (es.toList.map (·.key)) { s with heap:=h',toks:=Ce }):An Ω A (collect (.ref d)) Q E s:=by
 have DH:d<s.heap.objs.size:=by obtain⟨o,ho,_⟩:=hm;exact Dk ho
 have kQ:s.heap.objs.size≠d:=λe=>Jj _ (e▸DH);unfold collect;refine Ad (wpAny_runValue (Sr F.entry_proto_collect ?_));rw[V1 F.plain_proto_collect _];show An _ A.in1 (newList []>>=λl=>again (.builtin "list.__iadd__" ⟨[l,.ref d],[]⟩)) _ _ s;refine Ad (Lm ?_);refine B_ ⟨ZN F.plain_list_iadd _,Sr F.entry_list_iadd ?_⟩;rw[V1 F.plain_list_iadd _];have aa:L9 (s.heap.push { cls:=.type "list",data:=.seq ([]:↑A9).toArray }) d es Ao:=hm.at λo e=>Cy _ e;have jt:(s.heap.push { cls:=.type "list",data:=.seq ([]:↑A9).toArray }).get? s.heap.objs.size=some { cls:=.type "list",data:=.seq ([]:↑A9).toArray }:=Fe _ rfl;show An _ A.in1 (tK (.ref s.heap.objs.size) (.ref d) (.ref s.heap.objs.size)) _ _ { s with heap:=s.heap.push { cls:=.type "list",data:=.seq ([]:↑A9).toArray } };generalize C2:s.heap.push { cls:=.type "list",data:=.seq ([]:↑A9).toArray }=f1 at aa jt |-;unfold tK;refine Ad (ZL (s:={ s with heap:=f1 }) (aa.typeIs (s:={ s with heap:=f1 })) ?_);have h1:tp (.ref s.heap.objs.size) (.ref d)=false:=by simp[tp,kQ]
 rw[if_neg (by rw[h1];decide)];refine Ad (oP (s:={ s with heap:=f1 }) hd aa ?_);dsimp only;have QL:(f1.push { cls:=.type "dict_keyiterator",data:=.fields #[.ref d,.int 0 0,.int es.size 0,.int Ao 0] }).IsKeyIter f1.objs.size d 0 es.size Ao:=⟨_,Fe _ rfl,rfl,rfl⟩;have Ms:L9 (f1.push { cls:=.type "dict_keyiterator",data:=.fields #[.ref d,.int 0 0,.int es.size 0,.int Ao 0] }) d es Ao:=aa.at λo e=>Cy _ e;have dW:(f1.push { cls:=.type "dict_keyiterator",data:=.fields #[.ref d,.int 0 0,.int es.size 0,.int Ao 0] }).get? s.heap.objs.size=some { cls:=.type "list",data:=.seq ([]:↑A9).toArray }:=Cy _ jt;have Oo:∀b o,s.heap.get? b=↥o->(f1.push { cls:=.type "dict_keyiterator",data:=.fields #[.ref d,.int 0 0,.int es.size 0,.int Ao 0] }).get? b=↥o:=λb o e=>Cy _ (by rw[<-C2];exact Cy _ e);have hz:f1.objs.size=s.heap.objs.size+1:=by rw[<-C2];exact size_push' _ _
 generalize f1.push { cls:=.type "dict_keyiterator",data:=.fields #[.ref d,.int 0 0,.int es.size 0,.int Ao 0] }=f2 at QL Ms dW Oo |-;have acw:d≠f1.objs.size:=F7 (by rw[hz];exact VE DH);have W:=(afv (prog:=prog) (w:=w) (A:=A.in1) hh f1.objs.size d acw es Ao).toS;have Wa:s.heap.objs.size∉[f1.objs.size,d]:=λh=>by
  rcases List.mem_cons.mp h with e|h
  .lia
  .exact kQ (List.mem_singleton.mp h)
 refine Ad (MU ?_);unfold Builtin.List.listLengthHint;refine Ad (i5 (s:={ s with heap:=f2 }) (Ms.typeIs (s:={ s with heap:=f2 })) w5 ?_)
 (generalize e8:("dict.__len__" :String)=lN;(fail_if_success (clear e8 lN));wp_delta;rw[show splitId lN=↥("dict","__len__")from by subst e8;decide+kernel];subst e8)
 refine Ad (iC (b:=true) (Ms.typeIs (s:={ s with heap:=f2 })) (by rw[isSubtype_type];kernel_rfl) ?_);rw[if_neg γ];dsimp only;rw[if_pos (by decide+kernel)];refine Ad (ZL (Ms.typeIs (s:={ s with heap:=f2 })) ?_);refine B_ ?_;rw[if_pos (by decide+kernel)];refine Ad (wpAny_rule (Ad ?_));show An _ A.in1 (updateSeq s.heap.objs.size (·.push .none)>>=λ_=>updateSeq s.heap.objs.size (·.pop)) _ _ { s with heap:=f2 };refine Ad (wpAny_updateSeq (s:={ s with heap:=f2 }) dW rfl ?_);have ju:=Sm (OM (·.push JP)) dW rfl;refine wpAny_updateSeq ju rfl ?_;have zU:=Sm (OM (·.pop)) ju rfl
 have X3:∀b o,b≠s.heap.objs.size->f2.get? b=↥o->
   ((f2.update s.heap.objs.size (OM (·.push JP))).update s.heap.objs.size (OM (·.pop))).get? b=↥o:=
  λb o A5 e=>(Yj _ _ (Lq A5)).trans ((Yj _ _ (Lq A5)).trans e)
 refine B_ ⟨ZN F.plain_extend_loop _,codeAny_extend_loopS W AM _ Wa _ es.size 0 _ _ _ δ (IC _)
  (W.frame 0 ({ s with heap:=f2 }:AS) _ s.toks ⟨QL,Ms⟩ (C1 _) λb A5 o e=>X3 b o (λh=>Wa (h▸A5)) e) zU (ItemsOf.nil _) λs' Zp Dq ye js lV=>?_⟩
 show An _ A (load s.heap.objs.size>>=_) _ _ s';refine Ad (wpAny_load js ?_);refine B_ ?_;show Q Zp.toList s';rw[aay lV];obtain⟨GX,GY,c8,mJ,akd⟩:=ye;have Gq:=Dk js;obtain⟨a1,a2,CF,PH,O3⟩:=s';dsimp only at GX GY c8 mJ Gq;subst GY c8 mJ;refine Fo a1 PH (λb o e=>?_) Gq;have A5:=Dk e;exact GX b o (λz=>by
  rcases List.mem_cons.mp z with e|z
  .rw[e]at A5;exact Jj _ A5
  .rw[List.mem_singleton.mp z,hz]at A5;exact absurd A5 (Nat.not_lt.mpr (OP _))) (X3 b o (λz=>by rw[z]at A5;exact Jj _ A5) (Oo b o e))
def ahO{d:A7}{Ao:Nat}{us:↑A9}{Q:A9->AS->Prop}(hh:A.handled=none)(hd:(d==KO)=false)(hm:L9 s.heap d es Ao)(FZ:es.toList.map (·.key)=us)(AM:⇑us<64)(AR:∀v∈us,∃k t,v=.int k t)(h:∀(vs:↑A9)(l:A7)(h':BF) Ce e,⇑vs=⇑us->(∀v∈vs,∃k t,v=.int k t)->vs.map numOf=KB (us.map numOf)->s.heap.objs.size<=l->(∀b o,s.heap.get? b=↥o->h'.get? b=↥o)->h'.get? l=↥(seqObj "list" vs.toArray e)->Q (.ref l) { s with heap:=h',toks:=Ce }) :
  An Ω A (call (.builtin "sorted") [.ref d]) Q E s:=by
 have hz:es.size<=CO:=by have:=congrArg VP FZ;rw[Ch,R1]at this;rw[Ln];lia
 refine Calls.call_function_entry kind_sorted plain_sorted entry_sorted (args_sorted1 _) ?_;unfold Builtin.«sorted»;refine Ad (m:=checkCount "sorted" 1 1 _) (B_ (Ad (wX (A:=A.in1) hh hd hm hz λf Ce Bf hz=>?_)));rw[FZ];refine Ad (wpAny_newList (hsz:=by rw[Ln];lia) ?_);have g:(f.push (seqObj "list" us.toArray 0)).get? f.objs.size=↥(seqObj "list" us.toArray 0):=Fe _ rfl;have hz:=Pj hz;show An _ _ _ _ _ { s with heap:=f.push (seqObj "list" us.toArray 0),toks:=Ce };refine Ad (MU (OE slot_list_sort ⟨_,g,rfl⟩ entry_list_sort (list_sort_tree (s:={ s with heap:=f.push (seqObj "list" us.toArray 0),toks:=Ce }) g (intsAre_map us AR) AM λout ns' a1 a2 CF=>⟨_,rfl,?_⟩) (args_list_sort _)));obtain⟨e,ge⟩:=sortedHeap_at (out:=out) g;obtain⟨D1,EG,bS⟩:=sD (us:=us) a1 a2 CF;refine B_ ⟨_,rfl,h out.toList _ _ Ce e D1 EG bS hz (λb o q=>?_) ge⟩;have ot:=Cy (seqObj "list" us.toArray 0) (Bf b o q);exact(sortedHeap_old (λz:b=f.objs.size=>absurd (z▸Dk q) (Nat.not_lt.mpr hz)) (Dk ot)).trans ot
end
end LT
namespace Bq
open PySem B3
inductive W where
 |non|AN (b:Bool)|int (i:Int)|str (x:Str)|tup (ws:↑W)|IS (ws:↑W)|Dm (ws:↑W)|ref (n:Nat)|Oh (c:Str)
inductive Q1 where
 |lst|Al (AK:↑Key)|H5 (AK:↑Key)|ED (AK:↑FC)|ins (c:Str) (ns:↑Str)
 deriving DecidableEq
structure O where
 k:Q1
 ws:↑W
abbrev A6:=↑O
def Ir(K:At)(c:Str)(C:A7):Prop:=JN K Ff c=↥↥(.ref C)
def dP(K:At)(H:AE)(a:A7)(xs:↑V):Prop:=(∃o,H a=↥(.D7 o (.lst xs)))\/∃(o:Obj)(its:Array A9)(n:Nat),K.lookup a=↥o/\o.cls=.type "list"/\o.dict=none/\o.data=.seq its n/\its.size<=CO/\Vals xs its.toList
def dP.CW{K:At}{H:AE}{a:A7}{xs:↑V}(h:dP K H a xs):Es K H a xs:=h.elim (λ⟨o,e⟩=>.inl (.inr ⟨o,e⟩)) .inr
mutual
noncomputable def AX(K:At)(φ:↑A7)(H:AE):W->V->Prop
 |.non,v=>v=.non
 |.AN b,v=>v=.AN b
 |.int i,v=>v=.int i
 |.str x,v=>v=.str x
 |.tup ws,v=>∃a xs,v=.ref a/\H a=↥(.tup xs)/\Ai K φ H ws xs
 |.IS ws,v=>∃a xs,v=.ref a/\Et K H a xs/\Ai K φ H ws xs
 |.Dm ws,v=>∃a xs,v=.ref a/\dP K H a xs/\Ai K φ H ws xs
 |.ref n,v=>∃a,v=.ref a/\φ[n]?=↥a
 |.Oh c,v=>∃a C,v=.ref a/\Ir K c C/\H a=↥(xX a (.ref C))
noncomputable def Ai(K:At)(φ:↑A7)(H:AE):↑W->↑V->Prop
 |[],vs=>vs=[]
 |w::ws,vs=>∃v r,vs=v::r/\AX K φ H w v/\Ai K φ H ws r
end
def Still:FR->Prop
 |.tup _=>True
 |.D7 _ _=>True
 |.ext _=>True
 |_=>False
structure Ag(φ:↑A7)(H:AE)(BL:↑A7)(AB:AE):Prop where
 p:φ<+: BL
 t:∀b o,H b=↥o->Still o->AB b=↥o
section
variable{K:At}{φ BL CP:↑A7}{H AB AU:AE}
def Ag.refl(φ:↑A7)(H:AE):Ag φ H φ H:=⟨V6,λ_ _ e _=>e⟩
theorem Ag.trans(a:Ag φ H BL AB)(b:Ag BL AB CP AU):Ag φ H CP AU:=⟨a.p.trans b.p,λc o e s=>b.t c o (a.t c o e s) s⟩
def Cx{α:Type}{l Nk:↑α}(p:l<+: Nk){n:Nat}{a:α}(e:l[n]?=↥a):Nk[n]?=↥a:=by obtain⟨r,rfl⟩:=p;rw[GR (List.getElem?_eq_some_iff.mp e).1];exact e
def Et.ex(x:Ag φ H BL AB){a:A7}{xs:↑V}(h:Et K H a xs):Et K AB a xs:=by
 rcases h with(h|⟨o,h⟩)|h
 .exact .inl (.inl (x.t _ _ h trivial))
 .exact .inl (.inr ⟨o,x.t _ _ h trivial⟩)
 .exact .inr h
mutual
theorem AX.ex(x:Ag φ H BL AB):∀{w:W}{v:V},AX K φ H w v->AX K BL AB w v
 |.non,_,h|.AN _,_,h|.int _,_,h|.str _,_,h=>by simpa only[AX]using h
 |.tup _,_,h=>by erw[AX]at h |-;obtain⟨a,xs,e,q,r⟩:=h;exact⟨a,xs,e,x.t _ _ q trivial,Ai.ex x r⟩
 |.IS _,_,h=>by erw[AX]at h |-;obtain⟨a,xs,e,q,r⟩:=h;exact⟨a,xs,e,Et.ex x q,Ai.ex x r⟩
 |.Dm _,_,h=>by erw[AX]at h |-;obtain⟨a,xs,e,q,r⟩:=h;exact⟨a,xs,e,q.elim (λ⟨o,q⟩=>.inl ⟨o,x.t _ _ q trivial⟩) .inr,Ai.ex x r⟩
 |.ref _,_,h=>by erw[AX]at h |-;obtain⟨a,e,q⟩:=h;exact⟨a,e,Cx x.p q⟩
 |.Oh _,_,h=>by erw[AX]at h |-;obtain⟨a,C,e,c,q⟩:=h;exact⟨a,C,e,c,x.t _ _ q trivial⟩
theorem Ai.ex(x:Ag φ H BL AB):∀{ws:↑W}{vs:↑V},Ai K φ H ws vs->Ai K BL AB ws vs
 |[],_,h=>by simpa only[Ai]using h
 |_::_,_,h=>by erw[Ai]at h |-;obtain⟨v,r,e,q,t⟩:=h;exact⟨v,r,e,AX.ex x q,Ai.ex x t⟩
end
def Ai.nil:Ai K φ H [] []:=by erw[Ai]
def Ai.cons{w:W}{ws:↑W}{v:V}{vs:↑V}(a:AX K φ H w v)(b:Ai K φ H ws vs):Ai K φ H (w::ws) (v::vs):=by erw[Ai];exact⟨v,vs,rfl,a,b⟩
theorem Ai.length:∀{ws:↑W}{vs:↑V},Ai K φ H ws vs->⇑ws=⇑vs
 |[],_,h=>by erw[Ai]at h;subst h;rfl
 |_::_,_,h=>by erw[Ai]at h;obtain⟨v,r,rfl,_,t⟩:=h;simp[Ai.length t]
theorem Ai.get:∀{ws:↑W}{vs:↑V}{i:Nat}{w:W},Ai K φ H ws vs->ws[i]?=↥w->∃v,vs[i]?=↥v/\AX K φ H w v
 |[],_,_,_,_,e=>by simp at e
 |_::_,_,0,_,h,e=>by erw[Ai]at h;obtain⟨v,r,rfl,q,_⟩:=h;simp at e;subst e;exact⟨v,rfl,q⟩
 |_::_,_,i+1,w,h,e=>by erw[Ai]at h;obtain⟨v,r,rfl,_,t⟩:=h;obtain⟨u,h1,h2⟩:=Ai.get (i:=i) (w:=w) t (e:);exact⟨u,(h1:),h2⟩
theorem Ai.append:∀{ws us:↑W}{vs ys:↑V},Ai K φ H ws vs->Ai K φ H us ys->Ai K φ H (ws++us) (vs++ys)
 |[],_,_,_,h,t=>by erw[Ai]at h;subst h;exact t
 |_::_,_,_,_,h,t=>by erw[Ai]at h;obtain⟨v,r,rfl,q,s⟩:=h;exact .cons q (Ai.append s t)
theorem Ai.take:∀(n:Nat){ws:↑W}{vs:↑V},Ai K φ H ws vs->Ai K φ H (ws.take n) (vs.take n)
 |0,_,_,_=>(Ai.nil:)
 |_+1,[],_,h=>by erw[Ai]at h;subst h;simpa using Ai.nil
 |n+1,_::_,_,h=>by erw[Ai]at h;obtain⟨v,r,rfl,q,t⟩:=h;exact .cons q (Ai.take n t)
theorem Ai.drop:∀(n:Nat){ws:↑W}{vs:↑V},Ai K φ H ws vs->Ai K φ H (ws.drop n) (vs.drop n)
 |0,_,_,h=>h
 |_+1,[],_,h=>by erw[Ai]at h;subst h;simpa using Ai.nil
 |n+1,_::_,_,h=>by erw[Ai]at h;obtain⟨v,r,rfl,_,t⟩:=h;exact Ai.drop n t
theorem Ai.set{w:W}{v:V}(q:AX K φ H w v):∀(n:Nat){ws:↑W}{vs:↑V},Ai K φ H ws vs->Ai K φ H (ws.set n w) (vs.set n v)
 |_,[],_,h=>by erw[Ai]at h;subst h;simpa using Ai.nil
 |0,_::_,_,h=>by erw[Ai]at h;obtain⟨u,r,rfl,_,t⟩:=h;exact .cons q t
 |n+1,_::_,_,h=>by erw[Ai]at h;obtain⟨u,r,rfl,p,t⟩:=h;exact .cons p (Ai.set q n t)
end
def N8(K:At)(H:AE)(a:A7)(xs:↑V):Q1->Prop
 |.lst=>H a=↥(.lst xs)
 |.Al AK=>∃AA,H a=↥(.Al AA)/\AA.map (·.1)=AK/\AA.map (·.2)=xs
 |.H5 AK=>∃o AA,H a=↥(.D7 o (.Al AA))/\AA.map (·.1)=AK/\AA.map (·.2)=xs
 |.ED AK=>∃AA,H a=↥(.ED AA)/\AA.map (·.1)=AK/\AA.map (·.2)=xs
 |.ins c ns=>∃C Bo BA,Ir K c C/\H a=↥(.ins C Bo BA)/\BA.map (·.1)=ns/\BA.map (·.2)=xs
structure DL(K:At)(φ:↑A7)(h:A6)(H:AE):Prop where
 Bz:φ.Nodup
 len:⇑φ=⇑h
 BD:∀(n:Nat) o a,h[n]?=↥o->φ[n]?=↥a->∃xs,N8 K H a xs o.k/\Ai K φ H o.ws xs
abbrev BC:=↑(Option W)
structure D6 where
 K:At
 DQ:↑A7
 C3:AE
 N7:Str->AE->Prop
structure Rel(F:D6)(φ:↑A7)(h:A6)(H:AE)(σ :St)(ρ:BC):Prop where
 hd:DL F.K φ h H
 x0:Ag F.DQ F.C3 φ H
 len:⇑σ =⇑ρ
 Bm:∀(i:Nat) w,ρ[i]?=↥↥w->∃v,σ[i]?=↥↥v/\AX F.K φ H w v
inductive R(α:Type) where
 |ok (a:α)|exc (c:Str) (h:A6)|bad
noncomputable def R.bind{α β:Type}:R α->(α->R β)->R β
 |.ok a,k=>k a
 |.exc c h,_=>.exc c h
 |.bad,_=>.bad
abbrev M(α:Type):=BC->A6->R (α×A6)
def ey(F:D6)(φ:↑A7)(H:AE)(c:Str)(h':A6):Prop:=∀BL AB,Ag φ H BL AB->DL F.K BL h' AB->F.N7 c AB
def D8{α β:Type}(rel:At->↑A7->AE->α->β->Prop)(F:D6)(φ:↑A7)(H:AE)(σ :St)(ρ:BC)(Q:β->AE->Prop):R (α×A6)->Prop
 |.ok (a,h')=>∀b BL AB,Rel F BL h' AB σ ρ->Ag φ H BL AB->rel F.K BL AB a b->Q b AB
 |.exc c h'=>ey F φ H c h'
 |.bad=>False
def LU{α β:Type}(rel:At->↑A7->AE->α->β->Prop)(F:D6)(m:M α)(σ :St)(H:AE)(Q:β->AE->Prop):Prop:=∃φ ρ h,Rel F φ h H σ ρ/\D8 rel F φ H σ ρ Q (m ρ h)
def ox(_:At)(_:↑A7)(_:AE)(a b:Bool):Prop:=b=a
abbrev BB:=M W
abbrev DX:=M Bool
abbrev EY:=M ↑W
abbrev CB(F:D6)(m:BB):TE:=LU AX F m
abbrev Hv(F:D6)(m:DX):TT:=LU ox F m
abbrev Gw(F:D6)(m:EY):Fu:=LU Ai F m
noncomputable def bd{α β:Type}(m:M α)(k:α->M β):M β:=λρ h=>(m ρ h).bind λp=>k p.1 ρ p.2
section
variable{F:D6}{φ BL:↑A7}{H AB:AE}{σ :St}{ρ:BC}{h:A6}{α β KI h6:Type}{rel:At->↑A7->AE->α->β->Prop}{bK:At->↑A7->AE->KI->h6->Prop}
def D8.ex{Q:β->AE->Prop}(x:Ag φ H BL AB):∀{r:R (α×A6)},D8 rel F φ H σ ρ Q r->D8 rel F BL AB σ ρ Q r
 |.ok (_,_),k=>λb CP AU r y z=>k b CP AU r (x.trans y) z
 |.exc _ _,k=>λCP AU y d=>k CP AU (x.trans y) d
 |.bad,k=>k
def D8.imp{Q Hl:β->AE->Prop}(f:∀b H,Q b H->Hl b H):∀{r:R (α×A6)},D8 rel F φ H σ ρ Q r->D8 rel F φ H σ ρ Hl r
 |.ok (_,_),k=>λb CP AU r y z=>f _ _ (k b CP AU r y z)
 |.exc _ _,k=>k
 |.bad,k=>k
theorem D8.bd{m:M α}{k:α->M KI}{Q:h6->AE->Prop}{Hl:β->AE->Prop}(q:D8 bK F φ H σ ρ Q (bd m k ρ h))(f:∀a b C0 h1 H1,Rel F C0 h1 H1 σ ρ->Ag φ H C0 H1->rel F.K C0 H1 a b->D8 bK F C0 H1 σ ρ Q (k a ρ h1)->Hl b H1):D8 rel F φ H σ ρ Hl (m ρ h):=by
 unfold Bq.bd at q;cases e:m ρ h with
 |ok p=>rw[e]at q;obtain⟨a,h1⟩:=p;exact λb C0 H1 r x z=>f a b C0 h1 H1 r x z (D8.ex x q)
 |exc c h'=>rw[e]at q;exact q
 |bad=>rw[e]at q;cases q
theorem LU.bd{m:M α}{k:α->M KI}{Q:h6->AE->Prop}{Hl:β->AE->Prop}(q:LU bK F (bd m k) σ H Q)(f:∀a b C0 ρ h1 H1,Rel F C0 h1 H1 σ ρ->rel F.K C0 H1 a b->D8 bK F C0 H1 σ ρ Q (k a ρ h1)->Hl b H1):LU rel F m σ H Hl:=by obtain⟨φ,ρ,h,r,q⟩:=q;exact⟨φ,ρ,h,r,q.bd λa b C0 h1 H1 r x z q=>f a b C0 ρ h1 H1 r z q⟩
end
section
variable{K:At}{φ:↑A7}{h:A6}{H:AE}{F:D6}{σ :St}{ρ:BC}
def N8.is{a:A7}{xs:↑V}{k:Q1}(q:N8 K H a xs k):∃o,H a=↥o:=by
 cases k with
 |lst=>exact⟨_,q⟩
 |Al AK=>obtain⟨_,e,_⟩:=q;exact⟨_,e⟩
 |H5 AK=>obtain⟨_,_,e,_⟩:=q;exact⟨_,e⟩
 |ED AK=>obtain⟨_,e,_⟩:=q;exact⟨_,e⟩
 |ins c ns=>obtain⟨C,Bo,BA,_,e,_⟩:=q;exact⟨_,e⟩
def N8.same{AB:AE}{a:A7}{xs:↑V}{k:Q1}(q:N8 K H a xs k)(e:AB a=H a):N8 K AB a xs k:=by cases k<;>erw[N8]at q |-<;>rw[e]<;>exact q
def DL.has(d:DL K φ h H){a:A7}(m:a∈φ):∃o,H a=↥o:=by
 obtain⟨n,e⟩:=i0 m;have AM:n< ⇑h:=by rw[<-d.len];exact(List.getElem?_eq_some_iff.mp e).1
 obtain⟨xs,q,_⟩:=d.BD n _ a (CT AM) e;exact q.is
def DL.out(d:DL K φ h H){p:A7}(AV:H p=none):p∉φ:=λm=>by obtain⟨o,e⟩:=d.has m;rw[AV]at e;cases e
def Ag.lay{p:A7}{o:FR}(AV:H p=none):Ag φ H φ (upd H p o):=⟨V6,λb u e _=>by rw[DJ (LK e AV)];exact e⟩
def Ag.Px{p:A7}{o:FR}(AV:H p=none):Ag φ H (φ++[p]) (upd H p o):=⟨Ez _ _,(Ag.lay (φ:=φ) AV).t⟩
def Ag.put{p:A7}{o u:FR}(e:H p=↥u)(s:¬Still u):Ag φ H φ (upd H p o):=⟨V6,λb v q z=>by
 rw[DJ]
 .exact q
 .rintro rfl;rw[e]at q;cases q;exact s z⟩
def DL.over{AB:AE}(d:DL K φ h H)(x:Ag φ H φ AB)(k:∀a∈φ,AB a=H a):DL K φ h AB:=⟨d.Bz,d.len,λn o a AD AH=>by obtain⟨xs,q,r⟩:=d.BD n o a AD AH;exact⟨xs,q.same (k a (Lk AH)),r.ex x⟩⟩
theorem DL.lay{p:A7}{o:FR}(d:DL K φ h H)(AV:H p=none):DL K φ h (upd H p o):=d.over (Ag.lay AV) λa m=>DJ λz=>d.out AV (z▸m)
def DL.new{p:A7}{ho:FR}{k:Q1}{ws:↑W}{xs:↑V}(d:DL K φ h H)(AV:H p=none)(q:N8 K (upd H p ho) p xs k)(r:Ai K φ H ws xs):DL K (φ++[p]) (h++[⟨k,ws⟩]) (upd H p ho):=by
 have x:=Ag.Px (φ:=φ) (o:=ho) AV;refine⟨?_,by simp[d.len],λn o a AD AH=>?_⟩
 .rw[hk];exact⟨d.Bz,γ,λa AG b A5 z=>d.out AV (by rw[<-List.mem_singleton.mp A5,<-z];exact AG)⟩
 .by_cases AM:n< ⇑h
  .rw[GR AM]at AD;rw[GR (by rw[d.len];exact AM)]at AH;obtain⟨ys,Cm,Bd⟩:=d.BD n o a AD AH;exact⟨ys,Cm.same (DJ λz=>d.out AV (z▸Lk AH)),Bd.ex x⟩
  .have fO:n=⇑h:=by
     have:=(List.getElem?_eq_some_iff.mp AD).1;simp at this;lia
   subst fO;simp at AD;rw[<-d.len]at AH;simp at AH;subst AD AH;exact⟨xs,q,r.ex x⟩
theorem DL.put{n:Nat}{a:A7}{o o':O}{u ho:FR}{xs:↑V}(d:DL K φ h H)(Au:h[n]?=↥o)(BS:φ[n]?=↥a)(FZ:H a=↥u)(st:¬Still u)(q:N8 K (upd H a ho) a xs o'.k)(r:Ai K φ H o'.ws xs):DL K φ (h.set n o') (upd H a ho):=by
 have x:Ag φ H φ (upd H a ho):=Ag.put FZ st;refine⟨d.Bz,by simp[d.len],λm EG b AD AH=>?_⟩;by_cases hm:n=m
 .subst hm;rw[L3 (List.getElem?_eq_some_iff.mp Au).1]at AD;rw[BS]at AH;cases AD;cases AH;exact⟨xs,q,r.ex x⟩
 .rw[MR hm]at AD;obtain⟨ys,Cm,Bd⟩:=d.BD m EG b AD AH;refine⟨ys,Cm.same (DJ λz=>?_),Bd.ex x⟩;subst z;obtain⟨Cb,J8⟩:=List.getElem?_eq_some_iff.mp BS;obtain⟨FO,JY⟩:=List.getElem?_eq_some_iff.mp AH;exact hm ((ZD d.Bz).mp (J8.trans JY.symm))
theorem DL.at(d:DL K φ h H){n:Nat}{o:O}{v:V}(e:h[n]?=↥o)(q:AX K φ H (.ref n) v):∃a xs,v=.ref a/\φ[n]?=↥a/\N8 K H a xs o.k/\Ai K φ H o.ws xs:=by erw[AX]at q;obtain⟨a,rfl,BS⟩:=q;obtain⟨xs,q,r⟩:=d.BD n o a e BS;exact⟨a,xs,rfl,BS,q,r⟩
def Rel.to{BL:↑A7}{h':A6}{AB:AE}(r:Rel F φ h H σ ρ)(d:DL F.K BL h' AB)(x:Ag φ H BL AB):Rel F BL h' AB σ ρ:=⟨d,r.x0.trans x,r.len,λi w e=>by obtain⟨v,AD,q⟩:=r.Bm i w e;exact⟨v,AD,q.ex x⟩⟩
theorem Rel.set{i:Nat}{w:W}{v:V}(r:Rel F φ h H σ ρ)(hi:i< ⇑ρ)(q:AX F.K φ H w v):Rel F φ h H (σ.set i ↥v) (ρ.set i ↥w):=⟨r.hd,r.x0,by simp[r.len],λj C_ e=>by
 by_cases Ar:i=j
 .subst Ar;rw[L3 hi]at e;cases e;exact⟨v,L3 (by rw[r.len];exact hi),q⟩
 .rw[MR Ar]at e |-;exact r.Bm j C_ e⟩
def AX.Ge{n:Nat}{a:A7}(e:φ[n]?=↥a):AX K φ H (.ref n) (.ref a):=by erw[AX];exact⟨a,rfl,e⟩
def WI{p:A7}(d:DL K φ h H):(φ++[p])[⇑h]?=↥p:=by rw[<-d.len];simp
end
section
variable{F:D6}
abbrev Fk(t' t:TE):Prop:=∀ σ H Q,t' σ H Q->t σ H Q
abbrev RT(t' t:TT):Prop:=∀ σ H Q,t' σ H Q->t σ H Q
abbrev cP(t' t:Fu):Prop:=∀ σ H Q,t' σ H Q->t σ H Q
abbrev Ko(t' t:FL):Prop:=∀De σ H,t' De σ H->t De σ H
def pu{α:Type}(a:α):M α:=λ_ h=>.ok (a,h)
noncomputable def I(i:Nat):BB:=λρ h=>match ρ[i]? with
 |some ↥w=>.ok (w,h)
 |_=>.bad
def abE(i:Nat):Fk (CB F (I i)) (ry i):=by
 rintro σ H Q ⟨φ,ρ,h,r,q⟩;unfold I at q
 split at q
 .rename_i w e;obtain⟨v,AD,a⟩:=r.Bm i w e;exact⟨v,AD,q v φ H r (Ag.refl _ _) a⟩
 .exact q.elim
def Wo{w:W}{v:V}(a:∀φ H,AX F.K φ H w v):Fk (CB F (pu w)) (PS v):=by rintro σ H Q ⟨φ,ρ,h,r,q⟩;exact q v φ H r (Ag.refl _ _) (a _ _)
def A1(f:W->W->A6->R (W×A6))(a b:BB):BB:=bd a λx=>bd b λy _ h=>f x y h
def IK(F:D6)(r:F0)(f:W->W->A6->R (W×A6)):Prop:=∀ σ ρ φ h H x y GF Gh Q,Rel F φ h H σ ρ->AX F.K φ H GF x->AX F.K φ H Gh y->D8 AX F φ H σ ρ Q (f GF Gh h)->r x y H Q
def GB{r:F0}{f:W->W->A6->R (W×A6)}{a b:BB}(ho:IK F r f):Fk (CB F (A1 f a b)) (Un r (CB F a) (CB F b)):=λσ H Q q=>
 q.bd λx v φ ρ h H1 r EZ q=>⟨φ,ρ,h,r,q.bd λy u CP h2 AU BK Ca H4 q=>ho σ ρ CP h2 AU v u x y Q BK (EZ.ex Ca) H4 q⟩
def B0(f:W->A6->R (W×A6))(a:BB):BB:=bd a λx _ h=>f x h
def vM(F:D6)(r:V->AE->CQ->Prop)(f:W->A6->R (W×A6)):Prop:=∀ σ ρ φ h H x w Q,Rel F φ h H σ ρ->AX F.K φ H w x->D8 AX F φ H σ ρ Q (f w h)->r x H Q
def abD{r:V->AE->CQ->Prop}{f:W->A6->R (W×A6)}{a:BB}(ho:vM F r f):Fk (CB F (B0 f a)) (rx r (CB F a)):=λσ H Q q=>
 q.bd λx v φ ρ h H1 r EZ q=>ho σ ρ φ h H1 v x Q r EZ q
def A2:EY:=pu []
def A0(a:BB)(r:EY):EY:=bd a λx=>bd r λxs=>pu (x::xs)
def UU:cP (Gw F A2) Ya:=by rintro σ H Q ⟨φ,ρ,h,r,q⟩;exact q [] φ H r (Ag.refl _ _) .nil
def UT{a:BB}{m:EY}:cP (Gw F (A0 a m)) (YX (CB F a) (Gw F m)):=λσ H Q q=>
 q.bd λx v φ ρ h H1 r EZ q=>⟨φ,ρ,h,r,q.bd λxs vs CP h2 AU BK Ca as q=>q (v::vs) CP AU BK (Ag.refl _ _) (.cons (EZ.ex Ca) as)⟩
def Ay:Nat:=1000000
def BX(m:EY):BB:=bd m λxs=>if ⇑xs<=Ay then pu (.tup xs)else λ_ _=>.bad
def abC{m:EY}:Fk (CB F (BX m)) (rv (Gw F m)):=λσ H Q q=>
 q.bd λxs vs φ ρ h H1 r as q=>by
   by_cases AF:⇑xs<=Ay
   .rw[if_pos AF]at q;refine⟨by rw[<- ⇑as];exact IG AF ε,λp AV=>?_⟩;refine q (.ref p) φ _ (r.to (r.hd.lay AV) (Ag.lay AV)) (Ag.lay AV) ?_;erw[AX];exact⟨p,vs,rfl,EA,as.ex (Ag.lay AV)⟩
   .rw[if_neg AF]at q;cases q
noncomputable def nw(k:Q1)(ws:↑W)(h:A6):R (W×A6):=if ⇑ws<=Ay then .ok (.ref ⇑h,h++[⟨k,ws⟩])else .bad
def OZ{φ:↑A7}{h:A6}{H:AE}{σ :St}{ρ:BC}{Q:CQ}{k:Q1}{ws:↑W}{xs:↑V}{ho:FR}{p:A7}(r:Rel F φ h H σ ρ)(q:D8 AX F φ H σ ρ Q (nw k ws h))(AV:H p=none)(o:N8 F.K (upd H p ho) p xs k)(as:Ai F.K φ H ws xs):Q (.ref p) (upd H p ho):=by
 unfold nw at q
 split at q
 .exact q (.ref p) (φ++[p]) _ (r.to (r.hd.new AV o as) (Ag.Px AV)) (Ag.Px AV) (.Ge (WI r.hd))
 .exact q.elim
def gU{φ:↑A7}{h:A6}{H:AE}{σ :St}{ρ:BC}{Q:CQ}{k:Q1}{ws:↑W}(q:D8 AX F φ H σ ρ Q (nw k ws h)):⇑ws<=Ay:=by
 unfold nw at q
 split at q
 .assumption
 .exact q.elim
def BU(m:EY):BB:=bd m λxs _ h=>nw .lst xs h
def za{m:EY}:Fk (CB F (BU m)) (rf (Gw F m)):=λσ H Q q=>
 q.bd λxs vs φ ρ h H1 r as q=>⟨by rw[<- ⇑as];exact IG (gU q) ε,λp AV=>OZ r q AV EA as⟩
noncomputable def NA{α:Type}(k:Bool->M α):W->M α
 |.AN b=>k b
 |_=>λ_ _=>.bad
def Aa(m:BB):DX:=bd m (NA pu)
def Vl{α β:Type}{rel:At->↑A7->AE->α->β->Prop}{k:Bool->M α}{φ:↑A7}{h:A6}{H:AE}{σ :St}{ρ:BC}{Q:β->AE->Prop}{w:W}{v:V}(a:AX F.K φ H w v)(q:D8 rel F φ H σ ρ Q (NA k w ρ h)):∃c,v=.AN c/\D8 rel F φ H σ ρ Q (k c ρ h):=by cases w<;>first|exact q.elim|(erw[AX]at a;exact⟨_,a,q⟩)
def KU{m:BB}:RT (Hv F (Aa m)) (hH (CB F m)):=λσ H Q q=>
 q.bd λx v φ ρ h H1 r EZ q=>let⟨c,e,q⟩:=Vl EZ q;⟨c,e,q c φ H1 r (Ag.refl _ _) rfl⟩
def GN(a b:DX):DX:=bd a λc=>if c=true then b else pu false
def Fq(a b:DX):DX:=bd a λc=>if c=true then pu true else b
def Eb(a:DX):DX:=bd a λc=>pu (!c)
def zr{a b:DX}:RT (Hv F (GN a b)) (sM (Hv F a) (Hv F b)):=λσ H Q q=>
 q.bd λx c φ ρ h H1 r e q=>by
   cases e;cases x with
   |true=>exact⟨φ,ρ,h,r,q⟩
   |false=>exact q false φ H1 r (Ag.refl _ _) rfl
def aa5{a b:DX}:RT (Hv F (Fq a b)) (rl (Hv F a) (Hv F b)):=λσ H Q q=>
 q.bd λx c φ ρ h H1 r e q=>by
   cases e;cases x with
   |false=>exact⟨φ,ρ,h,r,q⟩
   |true=>exact q true φ H1 r (Ag.refl _ _) rfl
def zd{a:DX}:RT (Hv F (Eb a)) (rj (Hv F a)):=λσ H Q q=>
 q.bd λx c φ ρ h H1 r e q=>by cases e;exact q _ φ H1 r (Ag.refl _ _) rfl
def Iv(a b:BB):BB:=bd a (NA λc=>if c=true then b else pu (.AN false))
def WP(a b:BB):BB:=bd a (NA λc=>if c=true then pu (.AN true)else b)
def WO(a:BB):BB:=bd a (NA λc=>pu (.AN (!c)))
def Ny{K:At}{φ:↑A7}{H:AE}(b:Bool):AX K φ H (.AN b) (.AN b):=by erw[AX]
def zt{a b:BB}:Fk (CB F (Iv a b)) (sN (CB F a) (CB F b)):=λσ H Q q=>
 q.bd λx v φ ρ h H1 r EZ q=>by
   obtain⟨c,e,q⟩:=Vl EZ q;refine⟨c,e,?_⟩;cases c with
   |true=>exact⟨φ,ρ,h,r,q⟩
   |false=>exact q _ φ H1 r (Ag.refl _ _) (Ny _)
def ab3{a b:BB}:Fk (CB F (WP a b)) (rm (CB F a) (CB F b)):=λσ H Q q=>
 q.bd λx v φ ρ h H1 r EZ q=>by
   obtain⟨c,e,q⟩:=Vl EZ q;refine⟨c,e,?_⟩;cases c with
   |false=>exact⟨φ,ρ,h,r,q⟩
   |true=>exact q _ φ H1 r (Ag.refl _ _) (Ny _)
def ze{a:BB}:Fk (CB F (WO a)) (rk (CB F a)):=λσ H Q q=>
 q.bd λx v φ ρ h H1 r EZ q=>let⟨c,e,q⟩:=Vl EZ q;⟨c,e,q _ φ H1 r (Ag.refl _ _) (Ny _)⟩
def No{α:Type}(c:DX)(a b:M α):M α:=bd c λk=>if k=true then a else b
def zY{c:DX}{a b:BB}:Fk (CB F (No c a b)) (rd (Hv F c) (CB F a) (CB F b)):=λσ H Q q=>
 q.bd λx k φ ρ h H1 r e q=>by cases e;cases x<;>exact⟨φ,ρ,h,r,q⟩
inductive FU where
 |AT (ρ:BC)|EX (w:W)|Ba (ρ:BC)|DS (ρ:BC)
abbrev Ak:=M FU
def EQ(F:D6)(φ:↑A7)(H:AE)(De:Ends):R (FU×A6)->Prop
 |.ok (.AT Ee,h')=>∀ σ' BL AB,Rel F BL h' AB σ' Ee->Ag φ H BL AB->De.AT σ' AB
 |.ok (.Ba Ee,h')=>∀ σ' BL AB,Rel F BL h' AB σ' Ee->Ag φ H BL AB->De.Ba σ' AB
 |.ok (.DS Ee,h')=>∀ σ' BL AB,Rel F BL h' AB σ' Ee->Ag φ H BL AB->De.DS σ' AB
 |.ok (.EX w,h')=>∀v BL AB,DL F.K BL h' AB->Ag φ H BL AB->AX F.K BL AB w v->De.EX v AB
 |.exc c h'=>ey F φ H c h'
 |.bad=>False
noncomputable def Ga(F:D6)(m:Ak):FL:=λDe σ H=>∃φ ρ h,Rel F φ h H σ ρ/\EQ F φ H De (m ρ h)
def EQ.ex{φ BL:↑A7}{H AB:AE}{De:Ends}(x:Ag φ H BL AB):∀{r:R (FU×A6)},EQ F φ H De r->EQ F BL AB De r
 |.ok (.AT _,_),k|.ok (.Ba _,_),k|.ok (.DS _,_),k=>λσ' CP AU r y=>k σ' CP AU r (x.trans y)
 |.ok (.EX _,_),k=>λv CP AU d y a=>k v CP AU d (x.trans y) a
 |.exc _ _,k=>λCP AU y d=>k CP AU (x.trans y) d
 |.bad,k=>k
theorem EQ.bd{α β:Type}{rel:At->↑A7->AE->α->β->Prop}{m:M α}{k:α->Ak}{φ:↑A7}{h:A6}{H:AE}{σ :St}{ρ:BC}{De:Ends}{Hl:β->AE->Prop}(q:EQ F φ H De (bd m k ρ h))(f:∀a b C0 h1 H1,Rel F C0 h1 H1 σ ρ->Ag φ H C0 H1->rel F.K C0 H1 a b->EQ F C0 H1 De (k a ρ h1)->Hl b H1):D8 rel F φ H σ ρ Hl (m ρ h):=by
 unfold Bq.bd at q;cases e:m ρ h with
 |ok p=>rw[e]at q;obtain⟨a,h1⟩:=p;exact λb C0 H1 r x z=>f a b C0 h1 H1 r x z (EQ.ex x q)
 |exc c h'=>rw[e]at q;exact q
 |bad=>rw[e]at q;cases q
theorem Ga.bd{α β:Type}{rel:At->↑A7->AE->α->β->Prop}{m:M α}{k:α->Ak}{H:AE}{σ :St}{De:Ends}{Hl:β->AE->Prop}(q:Ga F (bd m k) De σ H)(f:∀a b C0 ρ h1 H1,Rel F C0 h1 H1 σ ρ->rel F.K C0 H1 a b->EQ F C0 H1 De (k a ρ h1)->Hl b H1):LU rel F m σ H Hl:=by obtain⟨φ,ρ,h,r,q⟩:=q;exact⟨φ,ρ,h,r,EQ.bd q λa b C0 h1 H1 r x z q=>f a b C0 ρ h1 H1 r z q⟩
def Bj:Ak:=λρ h=>.ok (.AT ρ,h)
noncomputable def AO(a b:Ak):Ak:=λρ h=>(a ρ h).bind λp=>match p with
 |(.AT Ee,h')=>b Ee h'
 |p=>.ok p
def fb:Ko (Ga F Bj) Y_:=by rintro De σ H ⟨φ,ρ,h,r,q⟩;exact q σ φ H r (Ag.refl _ _)
def ab8{a b:Ak}:Ko (Ga F (AO a b)) (rr (Ga F a) (Ga F b)):=by
 rintro De σ H ⟨φ,ρ,h,r,q⟩;refine⟨φ,ρ,h,r,?_⟩;unfold AO at q;cases e:a ρ h with
 |ok p=>
  rw[e]at q;obtain⟨f,h1⟩:=p;cases f with
  |AT Ee=>exact λσ' BL AB Bd x=>⟨BL,Ee,h1,Bd,EQ.ex x q⟩
  |_=>exact q
 |exc c h'=>rw[e]at q;exact q
 |bad=>rw[e]at q;cases q
def Fy(a:BB):Ak:=bd a λ_=>Bj
def aa3{a:BB}:Ko (Ga F (Fy a)) (ra (CB F a)):=λDe σ H q=>
 q.bd λx v φ ρ h H1 r EZ q=>q σ φ H1 r (Ag.refl _ _)
def B7(a:BB):Ak:=bd a λw _ h=>.ok (.EX w,h)
def ab6{a:BB}:Ko (Ga F (B7 a)) (rp (CB F a)):=λDe σ H q=>
 q.bd λx v φ ρ h H1 r EZ q=>q v φ H1 r.hd (Ag.refl _ _) EZ
def ab7:Ko (Ga F (B7 (pu .non))) rq:=by rintro De σ H ⟨φ,ρ,h,r,q⟩;exact q .non φ H r.hd (Ag.refl _ _) (by erw[AX])
def Bp(c:DX)(a b:Ak):Ak:=bd c λk=>if k=true then a else b
def zZ{c:DX}{a b:Ak}:Ko (Ga F (Bp c a b)) (re (Hv F c) (Ga F a) (Ga F b)):=λDe σ H q=>
 q.bd λx k φ ρ h H1 r e q=>by cases e;cases x<;>exact⟨φ,ρ,h,r,q⟩
abbrev DM:=W->Ak
noncomputable def AC(i:Nat):DM:=λw ρ h=>if i< ⇑ρ then .ok (.AT (ρ.set i ↥w),h)else .bad
noncomputable def MN(F:D6)(g:DM):K5:=λv σ H Q=>∃φ ρ h w,Rel F φ h H σ ρ/\AX F.K φ H w v/\EQ F φ H ⟨Q,λ_ _=>False,λ_ _=>False,λ_ _=>False⟩ (g w ρ h)
abbrev Zd(t' t:K5):Prop:=∀v σ H Q,t' v σ H Q->t v σ H Q
def Wp(i:Nat):Zd (MN F (AC i)) (aR i):=by
 rintro v σ H Q ⟨φ,ρ,h,w,r,a,q⟩;unfold AC at q
 split at q
 .rename_i hi;exact q _ φ H (r.set hi a) (Ag.refl _ _)
 .exact q.elim
def AZ(a:BB)(g:DM):Ak:=bd a g
end
end Bq
namespace Bq
inductive Ci where
 |non|AN (b:Bool)|int (i:Int)|str (x:Str)|CW (t:Bool) (ds:↑Ci)
mutual
noncomputable def Gz(K:At)(H:AE):Ci->V->Prop
 |.non,v=>v=.non
 |.AN b,v=>v=.AN b
 |.int i,v=>v=.int i
 |.str x,v=>v=.str x
 |.CW t ds,v=>∃a xs,v=.ref a/\(if t=true then Et K H a xs else Es K H a xs)/\IH K H ds xs
noncomputable def IH(K:At)(H:AE):↑Ci->↑V->Prop
 |[],vs=>vs=[]
 |d::ds,vs=>∃v r,vs=v::r/\Gz K H d v/\IH K H ds r
end
mutual
noncomputable def eqT:Ci->Ci->Bool
 |.non,d=>match d with
  |.non=>true
  |_=>false
 |.AN a,d=>match d with
  |.AN b=>a==b
  |.int b=>(if a then 1 else 0)==b
  |_=>false
 |.int a,d=>match d with
  |.AN b=>a==(if b then 1 else 0)
  |.int b=>a==b
  |_=>false
 |.str a,d=>match d with
  |.str b=>a==b
  |_=>false
 |.CW t xs,d=>match d with
  |.CW u ys=>t==u&&Gk xs ys
  |_=>false
noncomputable def Gk:↑Ci->↑Ci->Bool
 |[],ys=>ys.isEmpty
 |x::xs,ys=>match ys with
  |y::ys=>eqT x y&&Gk xs ys
  |[]=>false
end
noncomputable def Ex:Nat->Ci->Bool
 |0,.CW _ _=>false
 |n+1,.CW _ ds=>ds.all (Ex n)
 |_,_=>true
def O0(K:At)(H:AE)(d:Ci)(u:A9):Prop:=∃x,Gz K H d x/\RelV x u
section
variable{X:Aq}{A4:μ}{σ :St}{H:AE}{s:AS}{K:At}
theorem IH.length:∀{ds:↑Ci}{vs:↑V},IH K H ds vs->⇑ds=⇑vs
 |[],_,h=>by erw[IH]at h;subst h;rfl
 |_::_,_,h=>by erw[IH]at h;obtain⟨v,r,rfl,_,t⟩:=h;simp[IH.length t]
theorem IH.get:∀{ds:↑Ci}{vs:↑V}{i:Nat}{d:Ci},IH K H ds vs->ds[i]?=↥d->∃v,vs[i]?=↥v/\Gz K H d v
 |[],_,_,_,_,e=>by simp at e
 |_::_,_,0,_,h,e=>by erw[IH]at h;obtain⟨v,r,rfl,q,_⟩:=h;simp at e;subst e;exact⟨v,rfl,q⟩
 |_::_,_,i+1,d,h,e=>by erw[IH]at h;obtain⟨v,r,rfl,_,t⟩:=h;obtain⟨u,h1,h2⟩:=IH.get (i:=i) (d:=d) t (e:);exact⟨u,(h1:),h2⟩
def ky{ds:↑Ci}{xs:↑V}{its:↑A9}(q:IH K H ds xs)(r:Vals xs its):∀(i:Nat) d u,ds[i]?=↥d->its[i]?=↥u->O0 K H d u:=λi d u AD AH=>by obtain⟨v,DT,a⟩:=q.get AD;obtain⟨Jg,Od,Bw⟩:=r.get DT;rw[AH]at Od;cases Od;exact⟨v,a,Bw⟩
inductive Rd(s:AS)(P:Ci->A9->Prop):Ci->A9->Prop where
 |non:Rd s P .non .none
 |AN (b:Bool):Rd s P (.AN b) (.bool b)
 |int (i:Int) (t:Tok):Rd s P (.int i) (.int i t)
 |str (x:Str) (t:Tok):Rd s P (.str x) (.str x t)
 |tup (a:A7) (ds:↑Ci) (its:↑A9) (h:s.heap.IsTuple a its.toArray) (l:⇑ds=⇑its) (p:∀(i:Nat) d u,ds[i]?=↥d->its[i]?=↥u->P d u):Rd s P (.CW true ds) (.ref a)
 |lst (a:A7) (ds:↑Ci) (its:↑A9) (h:s.heap.IsList a its.toArray) (l:⇑ds=⇑its) (p:∀(i:Nat) d u,ds[i]?=↥d->its[i]?=↥u->P d u):Rd s P (.CW false ds) (.ref a)
def YM(J:θ){d:Ci}{u:A9}(h:O0 X.K H d u):Rd s (O0 X.K H) d u:=by
 obtain⟨x,a,r⟩:=h;cases d with
 |non=>erw[Gz]at a;subst a;cases r;exact .non
 |AN b=>erw[Gz]at a;subst a;cases r;exact .AN b
 |int i=>erw[Gz]at a;subst a;obtain⟨t,rfl⟩:=r;exact .int i t
 |str i=>erw[Gz]at a;subst a;obtain⟨t,rfl⟩:=r;exact .str i t
 |CW t ds=>
  erw[Gz]at a;obtain⟨p,xs,rfl,AW,al⟩:=a;cases r;cases t with
  |true=>obtain⟨its,Bw,Bc,_⟩:=J.tuple AW;exact .tup p ds its Bc (al.length.trans ⇑Bw) (ky al Bw)
  |false=>obtain⟨its,Bw,Bc,_⟩:=J.list AW;exact .lst p ds its Bc.isList (al.length.trans ⇑Bw) (ky al Bw)
theorem dr:∀{xs ys:↑Ci},⇑xs≠⇑ys->Gk xs ys=false
 |[],[],h=>absurd rfl h
 |[],_::_,_=>by erw[Gk];rfl
 |_::_,[],_=>by erw[Gk]
 |x::xs,y::ys,h=>by erw[Gk];rw[dr (λe=>h (by simp[e])),V3]
def Mu(xs ys:↑Ci)(j:Nat):Bool:=match xs[j]?,ys[j]? with
 |some x,↥y=>eqT x y
 |_,_=>true
def vX(f:Nat->Bool)(n:Nat):(Cn (n+1)).all f=(f 0&&(Cn n).all λj=>f (j+1)):=by rw[List.range_succ_eq_map,VJ,OI];rfl
theorem dt:∀{xs ys:↑Ci},⇑xs=⇑ys->(Cn ⇑xs).all (Mu xs ys)=Gk xs ys
 |[],[],_=>by simp[Gk]
 |[],_::_,h=>by simp at h
 |_::_,[],h=>by simp at h
 |x::xs,y::ys,h=>by
  rw[DV,vX];have e:(λj=>Mu (x::xs) (y::ys) (j+1))=Mu xs ys:=by funext j;simp[Mu]
  rw[e,dt (h:)];erw[Gk];rfl
def Zr{f:Ci->Bool}{ds:↑Ci}(h:ds.all f=true){i:Nat}{d:Ci}(e:ds[i]?=↥d):f d=true:=List.all_eq_true.mp h d (Lk e)
theorem dq:∀(n:Nat){d:Ci},Ex n d=true->eqT d d=true
 |_,.non,_|_,.AN _,_|_,.int _,_|_,.str _,_=>by simp[eqT]
 |0,.CW _ _,o=>by cases o
 |n+1,.CW t ds,o=>by
  erw[eqT,beq_self_eq_true,iT];have go:∀l:↑Ci,l.all (Ex n)=true->Gk l l=true:=λl=>by
   induction l with
   |nil=>intro _;simp[Gk]
   |cons x l CI=>intro h;rw[VJ,Hz]at h;erw[Gk];rw[dq n h.1,CI h.2];rfl
  exact go ds o
def jd(J:θ):∀(n:Nat){d1 Eh:Ci}{x:V},Ex n d1=true->Ex n Eh=true->Gz X.K H d1 x->Gz X.K H Eh x->d1=Eh:=by
 intro n;induction n with
 |zero=>
  intro d1 Eh x D1 EG a1 a2
  cases d1<;>cases Eh<;>erw[Gz]at a1 a2<;>first
   |(cases D1;done)
   |(cases EG;done)
   |(subst a1;cases a2;done)
   |(subst a1;cases a2;rfl)
 |succ n CI=>
  intro d1 Eh x D1 EG a1 a2
  cases d1<;>cases Eh<;>erw[Gz]at a1 a2<;>first
   |(subst a1;cases a2;done)
   |(subst a1;cases a2;rfl)
   |(obtain⟨_,_,e,_⟩:=a2;subst a1;cases e;done)
   |(obtain⟨_,_,e,_⟩:=a1;subst a2;cases e;done)
   |skip
  .rename_i t1 F2 CK G8;obtain⟨p,xs,rfl,h1,q1⟩:=a1;obtain⟨F3,ys,e,h2,q2⟩:=a2;cases e;have key:t1=CK/\xs=ys:=by
    cases t1<;>cases CK
    .exact⟨rfl,J.fE h1 h2⟩
    .obtain⟨_,_,Cp,_⟩:=J.list h1;obtain⟨_,_,Ck,_⟩:=J.tuple h2;exact absurd rfl (u2 Cp.isList Ck)
    .obtain⟨_,_,Cp,_⟩:=J.tuple h1;obtain⟨_,_,Ck,_⟩:=J.list h2;exact absurd rfl (u2 Ck.isList Cp)
    .exact⟨rfl,J.hO h1 h2⟩
   obtain⟨rfl,rfl⟩:=key;have:F2=G8:=by
    have AF:=q1.length.trans q2.length.symm;apply ht;intro i;by_cases hi:i< ⇑F2
    .have AD:=CT hi;have AH:=CT (l:=G8) (i:=i) δ;obtain⟨v,ev,EH⟩:=q1.get AD;obtain⟨JJ,k6,bv⟩:=q2.get AH;rw[ev]at k6;cases k6;rw[AD,AH,CI (Zr D1 AD) (Zr EG AH) EH bv]
    .rw[Jl δ,Jl δ]
   rw[this]
def jw(J:θ):∀(n:Nat){d1 Eh:Ci}{u v:A9}{A:DE},Ex n d1=true->Ex n Eh=true->O0 X.K H d1 u->O0 X.K H Eh v->A.units+n<E8->
  ZO A s u v (eqT d1 Eh)/\VO A s u v (eqT d1 Eh)/\SeqAt.RcNeAt A s u v (!eqT d1 Eh):=by
 intro n;induction n with
 |zero=>
  intro d1 Eh u v A D1 EG a1 a2 BR;have h1:=YM J a1;have h2:=YM J a2
  cases h1<;>cases h2<;>first
   |(cases D1;done)
   |(cases EG;done)
   |(erw[eqT,iS,Bool.not_false];refine⟨?_,?_,?_⟩<;>with_reducible first|exact .same _|exact .none_none|exact .none_bool _|exact .none_int _ _|exact .none_str _ _|exact .bool_none _|exact .bool_bool _ _|exact .bool_int _ _ _|exact .bool_str _ _ _|exact .int_none _ _|exact .int_bool _ _ _|exact .int_int _ _ _ _|exact .int_str _ _ _ _|exact .str_none _ _|exact .str_bool _ _ _|exact .str_int _ _ _ _|exact .str_str _ _ _ _)
 |succ n CI=>
  intro d1 Eh u v A D1 EG a1 a2 BR;have Gl:A.units<E8:=δ
  have h1:=YM J a1;have h2:=YM J a2
  have item:∀{F2 G8:↑Ci}{KW HI:↑A9},F2.all (Ex n)=true->G8.all (Ex n)=true->⇑F2=⇑KW->⇑G8=⇑HI->(∀(i:Nat) d u,F2[i]?=↥d->KW[i]?=↥u->O0 X.K H d u)->(∀(i:Nat) d u,G8[i]?=↥d->HI[i]?=↥u->O0 X.K H d u)->
    ∀j(h1:j<KW.toArray.size)(h2:j<HI.toArray.size),ZO A.in1 s KW.toArray[j] HI.toArray[j] (Mu F2 G8 j):=λ{F2 G8 KW HI} k1 k2 J_ Lz Ec D2 j h1 h2=>by
   have J8:j< ⇑F2:=by rw[J_];simpa using h1
   have JY:j< ⇑G8:=by rw[Lz];simpa using h2
   have:=(CI (A:=A.in1) (Zr k1 (CT J8)) (Zr k2 (CT JY)) (Ec j _ KW.toArray[j] (CT J8) (by simp at h1;simp[h1])) (D2 j _ HI.toArray[j] (CT JY) (by simp at h2;simp[h2])) (by show A.units+1+n<E8;lia)).1;unfold Mu;rw[CT J8,CT JY];exact this
  have same:∀{Ec D2:A7},u=.ref Ec->v=.ref D2->VO A s (.ref Ec) (.ref D2) (eqT d1 Eh)->ZO A s (.ref Ec) (.ref D2) (eqT d1 Eh):=λ{Ec D2} AD AH w=>by
   by_cases AV:Ec=D2
   .subst AV AD AH;obtain⟨Cu,Cw,Ax⟩:=id a1;obtain⟨Ca,Fv,BK⟩:=id a2;have:Cu=Ca:=RelV.inj Ax BK;subst this;rw[jd J (n+1) D1 EG Cw Fv,dq _ EG];exact SeqAt.EqAt.same _
   .exact SeqAt.EqAt.of_refs AV w
  cases h1<;>cases h2<;>first
   |(erw[eqT,iS,Bool.not_false];refine⟨?_,?_,?_⟩<;>with_reducible first|exact .same _|exact .none_none|exact .none_bool _|exact .none_int _ _|exact .none_str _ _|exact .bool_none _|exact .bool_bool _ _|exact .bool_int _ _ _|exact .bool_str _ _ _|exact .int_none _ _|exact .int_bool _ _ _|exact .int_int _ _ _ _|exact .int_str _ _ _ _|exact .str_none _ _|exact .str_bool _ _ _|exact .str_int _ _ _ _|exact .str_str _ _ _ _|exact .none_tuple ‹_› Gl|exact .none_list ‹_› Gl|exact .bool_tuple _ ‹_› Gl|exact .bool_list _ ‹_› Gl|exact .int_tuple _ _ ‹_› Gl|exact .int_list _ _ ‹_› Gl|exact .str_tuple _ _ ‹_› Gl|exact .str_list _ _ ‹_› Gl|exact .tuple_none ‹_› Gl|exact .list_none ‹_› Gl|exact .tuple_bool _ ‹_› Gl|exact .list_bool _ ‹_› Gl|exact .tuple_int _ _ ‹_› Gl|exact .list_int _ _ ‹_› Gl|exact .tuple_str _ _ ‹_› Gl|exact .list_str _ _ ‹_› Gl)
   |skip
  .rename_i Ec F2 KW t1 J_ q1 D2 G8 HI CK Lz q2;have By:=SeqAt.RcAt.tuples (e:=Mu F2 G8) t1 CK Gl (item D1 EG J_ Lz q1 q2);have Cz:=SeqAt.RcNeAt.tuples (e:=Mu F2 G8) t1 CK Gl (item D1 EG J_ Lz q1 q2);have eq:((Cn (min KW.toArray.size HI.toArray.size)).all (Mu F2 G8)&&KW.toArray.size==HI.toArray.size)=eqT (.CW true F2) (.CW true G8):=by
    rw[DU,DU,<-J_,<-Lz];erw[eqT,beq_self_eq_true,iT];by_cases AF:⇑F2=⇑G8
    .rw[<-AF,Nat.min_self,dt AF,beq_self_eq_true,iU]
    .rw[dr AF];have:(⇑F2==⇑G8)=false:=by simpa using AF
     rw[this,V3]
   rw[eq]at By Cz;exact⟨same rfl rfl By,By,Cz⟩
  .rename_i Ec F2 KW t1 J_ q1 D2 G8 HI CK Lz q2;have By:VO A s (.ref Ec) (.ref D2) (eqT (.CW true F2) (.CW false G8)):=by erw[eqT];exact SeqAt.RcAt.tuple_list t1 CK Gl
   exact⟨same rfl rfl By,By,by erw[eqT];exact SeqAt.RcNeAt.tuple_list t1 CK Gl⟩
  .rename_i Ec F2 KW t1 J_ q1 D2 G8 HI CK Lz q2;have By:VO A s (.ref Ec) (.ref D2) (eqT (.CW false F2) (.CW true G8)):=by erw[eqT];exact SeqAt.RcAt.list_tuple t1 CK Gl
   exact⟨same rfl rfl By,By,by erw[eqT];exact SeqAt.RcNeAt.list_tuple t1 CK Gl⟩
  .rename_i Ec F2 KW t1 J_ q1 D2 G8 HI CK Lz q2;have hsz:(KW.toArray.size=HI.toArray.size)=(⇑F2=⇑G8):=by rw[DU,DU,<-J_,<-Lz]
   by_cases AF:⇑F2=⇑G8
   .have By:=SeqAt.RcAt.lists (e:=Mu F2 G8) t1 CK (by rw[hsz];exact AF) Gl (item D1 EG J_ Lz q1 q2);have Cz:=SeqAt.RcNeAt.lists (e:=Mu F2 G8) t1 CK (by rw[hsz];exact AF) Gl (item D1 EG J_ Lz q1 q2);rw[DU,<-J_,dt AF]at By Cz;have e:Gk F2 G8=eqT (.CW false F2) (.CW false G8):=by simp[eqT]
    rw[e]at By Cz;exact⟨same rfl rfl By,By,Cz⟩
   .have hz:(KW.toArray.size !=HI.toArray.size)=true:=by
      rw[DU,DU,<-J_,<-Lz];simpa using AF
    have e:eqT (.CW false F2) (.CW false G8)=false:=by erw[eqT];rw[dr AF,V3]
    have By:VO A s (.ref Ec) (.ref D2) (eqT (.CW false F2) (.CW false G8)):=by rw[e];exact SeqAt.RcAt.lists_lengths t1 CK hz Gl
    exact⟨same rfl rfl By,By,by rw[e];exact SeqAt.RcNeAt.lists_lengths t1 CK hz Gl⟩
open Classical in
def O4(K:At)(H:AE)(d:Ci)(u:A9):Bool:=if h:∃d',Ex 7 d'=true/\O0 K H d' u then eqT (Classical.choose h) d else false
def vZ(J:θ){d d1:Ci}{u:A9}(o:Ex 7 d=true)(h:O0 X.K H d u):O4 X.K H d1 u=eqT d d1:=by have AJ:∃d',Ex 7 d'=true/\O0 X.K H d' u:=⟨d,o,h⟩;unfold O4;rw[dif_pos AJ];obtain⟨o',Fd,GL,Bd⟩:=Classical.choose_spec AJ;obtain⟨x,a,r⟩:=h;have:Fd=x:=Bd.inj r;subst this;rw[jd J 7 o' o GL a]
theorem cc(J:θ){d1:Ci}{x:V}{v:A9}{A:DE}(BR:A.units+8<E8)(D1:Ex 7 d1=true)(a1:Gz X.K H d1 x)(Av:RelV x v):∀{ds:↑Ci}{xs:↑V}{its:↑A9},IH X.K H ds xs->Vals xs its->ds.all (Ex 7)=true->
  (∀u∈its,ZO A s u v (O4 X.K H d1 u))/\its.map (O4 X.K H d1)=ds.map λy=>eqT y d1
 |[],_,_,q,r,_=>by erw[IH]at q;subst q;cases r;exact⟨(λu BR=>nomatch BR),rfl⟩
 |d::ds,_,_,q,r,o=>by
  erw[IH]at q;obtain⟨w,wr,rfl,EH,cf⟩:=q;cases r with
  |cons Ax BK=>
   rw[VJ,Hz]at o;obtain⟨h1,h2⟩:=cc J BR D1 a1 Av cf BK o.2;have e:=vZ J (d1:=d1) o.1 ⟨w,EH,Ax⟩;refine⟨λJg hm=>?_,by rw[DC,DC,e,h2]⟩;rcases List.mem_cons.mp hm with z|hm
   .subst z;rw[e];exact(jw J 7 (A:=A) o.1 D1 ⟨w,EH,Ax⟩ ⟨x,a1,Av⟩ δ).1
   .exact h1 Jg hm
theorem any_map{α:Type}(l:↑α)(f:α->Bool):l.any f=(l.map f).any id:=by simp[List.any_map]
def bF(K:At)(b:Bool):F0:=λx y H Q=>∃d1 t ds,Gz K H d1 x/\Gz K H (.CW t ds) y/\Ex 7 d1=true/\ds.all (Ex 7)=true/\Q (.AN (if b then ds.any (λy=>eqT y d1)else !ds.any λy=>eqT y d1)) H
def bc(BR:X.A.units+64<E8):Dt X (GS .In) (bF X.K true)/\Dt X (GS .NotIn) (bF X.K false):=by
 refine⟨?_,?_⟩<;>
 .intro A4 s σ H x y v u Q J Av Bh h;obtain⟨d1,t,ds,a1,a2,D1,EG,q⟩:=h;erw[Gz]at a2;obtain⟨p,xs,rfl,AW,al⟩:=a2;cases Bh;cases t with
  |true=>
   obtain⟨its,Bw,Bc,_⟩:=J.tuple AW;obtain⟨h1,h2⟩:=cc J (A:=X.A.in1) (d1:=d1) (by show X.A.units+1+8<E8;lia) D1 a1 Av al Bw EG;have e:its.any (O4 X.K H d1)=ds.any λy=>eqT y d1:=by rw[any_map,h2,<-any_map]
   erw[if_true,MP,if_false]at q;rw[<-e]at q
   first
    |exact SeqAt.in_tupleAt (O4 X.K H d1) Bc (λw hw=>h1 w (hw:)) ⟨.AN _,H,J,rfl,(q:)⟩
    |exact SeqAt.notIn_tupleAt (O4 X.K H d1) Bc (λw hw=>h1 w (hw:)) ⟨.AN _,H,J,rfl,(q:)⟩
  |false=>
   obtain⟨its,Bw,Bc,_⟩:=J.list AW;obtain⟨h1,h2⟩:=cc J (A:=X.A.in1) (d1:=d1) (by show X.A.units+1+8<E8;lia) D1 a1 Av al Bw EG;have e:its.any (O4 X.K H d1)=ds.any λy=>eqT y d1:=by rw[any_map,h2,<-any_map]
   erw[if_true,MP,if_false]at q;rw[<-e]at q
   first
    |exact SeqAt.in_listAt (O4 X.K H d1) Bc.isList (λw hw=>h1 w (hw:)) ⟨.AN _,H,J,rfl,(q:)⟩
    |exact SeqAt.notIn_listAt (O4 X.K H d1) Bc.isList (λw hw=>h1 w (hw:)) ⟨.AN _,H,J,rfl,(q:)⟩
def g7(K:At)(b:Bool):F0:=λx y H Q=>∃d1 Eh,Gz K H d1 x/\Gz K H Eh y/\Ex 8 d1=true/\Ex 8 Eh=true/\Q (.AN (if b then eqT d1 Eh else !eqT d1 Eh)) H
def bb(BR:X.A.units+64<E8):Dt X (GS .Eq) (g7 X.K true)/\Dt X (GS .NotEq) (g7 X.K false):=by
 refine⟨?_,?_⟩<;>
 .intro A4 s σ H x y v u Q J Av Bh h;obtain⟨d1,Eh,a1,a2,D1,EG,q⟩:=h;have z:=jw J 8 (A:=X.A) D1 EG ⟨x,a1,Av⟩ ⟨y,a2,Bh⟩ δ
  first
   |exact z.2.1 X.prog X.w X.DB _ ⟨.AN _,H,J,rfl,q⟩
   |exact z.2.2 X.prog X.w X.DB _ ⟨.AN _,H,J,rfl,q⟩
end
noncomputable def E5(h:A6):W->Option (Bool×↑W)
 |.tup ws=>↥(true,ws)
 |.IS ws=>↥(true,ws)
 |.Dm ws=>↥(false,ws)
 |.ref n=>match h[n]? with
  |some ⟨.lst,ws⟩=>↥(false,ws)
  |_=>none
 |_=>none
section
variable{K:At}{φ:↑A7}{h:A6}{H:AE}{F:D6}{σ :St}{ρ:BC}{X:Aq}
def JG(d:DL K φ h H){w:W}{v:V}{t:Bool}{ws:↑W}(a:AX K φ H w v)(e:E5 h w=↥(t,ws)):∃p xs,v=.ref p/\(if t=true then Et K H p xs else Es K H p xs)/\Ai K φ H ws xs:=by
 unfold E5 at e
 split at e
 .cases e;erw[AX]at a;obtain⟨p,xs,rfl,q,r⟩:=a;exact⟨p,xs,rfl,.inl (.inl q),r⟩
 .cases e;erw[AX]at a;obtain⟨p,xs,rfl,q,r⟩:=a;exact⟨p,xs,rfl,q,r⟩
 .cases e;erw[AX]at a;obtain⟨p,xs,rfl,q,r⟩:=a;exact⟨p,xs,rfl,q.CW,r⟩
 .rename_i n
  split at e
  .rename_i Au;cases e;obtain⟨p,xs,rfl,_,q,r⟩:=d.at Au a;exact⟨p,xs,rfl,.inl (.inl q),r⟩
  .cases e
 .cases e
def CD:Nat->A6->W->Option Ci
 |_,_,.non=>↥.non
 |_,_,.AN b=>↥(.AN b)
 |_,_,.int i=>↥(.int i)
 |_,_,.str x=>↥(.str x)
 |0,_,_=>none
 |n+1,h,w=>match E5 h w with
  |some (t,ws)=>(ws.mapM (CD n h)).map (.CW t)
  |none=>none
theorem oV{n:Nat}(CI:∀{w:W}{v:V}{d:Ci},CD n h w=↥d->AX K φ H w v->Gz K H d v/\Ex n d=true):∀{ws:↑W}{xs:↑V}{ds:↑Ci},ws.mapM (CD n h)=↥ds->Ai K φ H ws xs->IH K H ds xs/\ds.all (Ex n)=true
 |[],_,_,e,a=>by simp at e;subst e;erw[Ai]at a;subst a;simp[IH]
 |w::ws,_,_,e,a=>by
  erw[Ai]at a;obtain⟨v,r,rfl,a1,a2⟩:=a;rw[NL]at e;cases AD:CD n h w with
  |none=>rw[AD]at e;cases e
  |some d=>
   rw[AD]at e;cases AH:ws.mapM (CD n h)with
   |none=>rw[AH]at e;cases e
   |some ds=>rw[AH]at e;cases e;obtain⟨Cw,Fv⟩:=CI AD a1;obtain⟨By,Cz⟩:=oV CI AH a2;exact⟨by erw[IH];exact⟨v,r,rfl,Cw,By⟩,by rw[VJ,Fv,Cz];rfl⟩
def bI(d:DL K φ h H):∀(n:Nat){w:W}{v:V}{t:Ci},CD n h w=↥t->AX K φ H w v->Gz K H t v/\Ex n t=true:=by
 intro n;induction n with
 |zero=>
  intro w v t e a
  cases w<;>erw[CD]at e<;>first
   |(cases e;done)
   |(cases e;erw[AX]at a;exact⟨by erw[Gz];exact a,rfl⟩)
 |succ m CI=>
  intro w v t e a;have CW:∀w,(match E5 h w with|some (t,ws)=>(ws.mapM (CD m h)).map (Ci.CW t)|none=>none)=↥t->AX K φ H w v->Gz K H t v/\Ex (m+1) t=true:=λw e a=>by
   split at e
   .rename_i t' ws es;obtain⟨p,xs,rfl,q,r⟩:=JG d a es;cases AH:ws.mapM (CD m h)with
    |none=>rw[AH]at e;cases e
    |some ds=>rw[AH]at e;cases e;obtain⟨By,Cz⟩:=oV (λe a=>CI e a) AH r;exact⟨by erw[Gz];exact⟨p,xs,rfl,q,By⟩,Cz⟩
   .cases e
  cases w<;>erw[CD]at e<;>first
   |exact CW _ e a
   |(cases e;erw[AX]at a;exact⟨by erw[Gz];exact a,rfl⟩)
def Ai.one{w:W}{vs:↑V}(a:Ai K φ H [w] vs):∃v,vs=[v]/\AX K φ H w v:=by erw[Ai]at a;obtain⟨v,r,rfl,h,rfl⟩:=a;exact⟨v,rfl,h⟩
def Ai.two{w u:W}{vs:↑V}(a:Ai K φ H [w,u] vs):∃v JJ,vs=[v,JJ]/\AX K φ H w v/\AX K φ H u JJ:=by erw[Ai]at a;obtain⟨v,r,rfl,h,JJ,Bd,rfl,h',rfl⟩:=a;exact⟨v,JJ,rfl,h,h'⟩
abbrev H0:=W->W->A6->R (W×A6)
def As(b:Bool):H0:=λx y h=>match CD 8 h x,CD 8 h y with
 |some d,↥e=>.ok (.AN (if b then eqT d e else !eqT d e),h)
 |_,_=>.bad
def bU(A_:F.K=X.K)(b:Bool):IK F (g7 X.K b) (As b):=by
 intro σ ρ φ h H x y GF Gh Q r a1 a2 q;unfold As at q
 split at q
 .rename_i d e AD AH;obtain⟨Cw,By⟩:=bI r.hd 8 AD a1;obtain⟨Fv,Cz⟩:=bI r.hd 8 AH a2;rw[A_]at Cw Fv;exact⟨d,e,Cw,Fv,By,Cz,q _ φ H r (Ag.refl _ _) (Ny _)⟩
 .exact q.elim
def bn(b:Bool):H0:=λx y h=>match CD 7 h x,CD 8 h y with
 |some d,↥(.CW _ ds)=>.ok (.AN (if b then ds.any (λy=>eqT y d)else !ds.any λy=>eqT y d),h)
 |_,_=>.bad
def aeR(A_:F.K=X.K)(b:Bool):IK F (bF X.K b) (bn b):=by
 intro σ ρ φ h H x y GF Gh Q r a1 a2 q;unfold bn at q
 split at q
 .rename_i d t ds AD AH;obtain⟨Cw,By⟩:=bI r.hd 7 AD a1;obtain⟨Fv,Cz⟩:=bI r.hd 8 AH a2;rw[A_]at Cw Fv;exact⟨d,t,ds,Cw,Fv,By,Cz,q _ φ H r (Ag.refl _ _) (Ny _)⟩
 .exact q.elim
noncomputable def KV(f:Int->Int->Option W):H0:=λx y h=>match x,y with
 |.int i,.int j=>match f i j with
  |some w=>.ok (w,h)
  |none=>.bad
 |_,_=>.bad
def MG{g:Int->Int->V}{f:Int->Int->W}(e:∀i j K φ H,AX K φ H (f i j) (g i j)):IK F (LQ g) (KV λi j=>↥(f i j)):=by
 intro σ ρ φ h H x y GF Gh Q r a1 a2 q;unfold KV at q
 split at q
 .rename_i i j;erw[AX]at a1 a2;exact⟨i,j,a1,a2,q _ φ H r (Ag.refl _ _) (e _ _ _ _ _)⟩
 .exact q.elim
def bW{C:Int->Int->Prop}[∀i j,Decidable (C i j)]{g:Int->Int->V}{f:Int->Int->W}(e:∀i j K φ H,AX K φ H (f i j) (g i j)):IK F (Ix C g) (KV λi j=>if C i j then↥(f i j)else none):=by
 intro σ ρ φ h H x y GF Gh Q r a1 a2 q;unfold KV at q
 split at q
 .rename_i i j;erw[AX]at a1 a2;dsimp only at q
  split at q
  .rename_i w hw
   split at hw
   .rename_i AI;cases hw;exact⟨i,j,a1,a2,AI,q _ φ H r (Ag.refl _ _) (e _ _ _ _ _)⟩
   .cases hw
  .exact q.elim
 .exact q.elim
instance(i j:Int):Decidable (TR i j):=by unfold TR;infer_instance
instance(i j:Int):Decidable (LG i j):=by unfold LG;infer_instance
instance(i j:Int):Decidable (OS i j):=by unfold OS;infer_instance
def NS:=KV λi j=>↥(.int (i-j))
def Cq:=KV λi j=>if TR i j then↥(.int (i/j))else none
def BY:=KV λi j=>if 0<j then↥(.int (i%j))else none
def PM:=KV λi j=>if OS i j then↥(.int (i^j.toNat))else none
def Ja:=KV λi j=>↥(.AN (decide (i<j)))
def HV:=KV λi j=>↥(.AN (decide (i<=j)))
def KS:=KV λi j=>↥(.AN (decide (j<i)))
def e2:=KV λi j=>↥(.AN (decide (j<=i)))
def ahD:=KV λi j=>if 0<=j then↥(.int (i/2^j.toNat))else none
def vY:=KV λi j=>↥(.int (Builtin.bitAnd i j))
noncomputable def LI(h:A6):W->Option (Nat×↑W)
 |.ref n=>match h[n]? with
  |some ⟨.lst,ws⟩=>↥(n,ws)
  |_=>none
 |_=>none
def QX(d:DL K φ h H){w:W}{v:V}{n:Nat}{ws:↑W}(a:AX K φ H w v)(e:LI h w=↥(n,ws)):∃p xs,v=.ref p/\h[n]?=↥⟨.lst,ws⟩/\φ[n]?=↥p/\H p=↥(.lst xs)/\Ai K φ H ws xs:=by
 unfold LI at e
 split at e
 .split at e
  .rename_i Au;cases e;obtain⟨p,xs,rfl,BS,q,r⟩:=d.at Au a;exact⟨p,xs,rfl,Au,BS,q,r⟩
  .cases e
 .cases e
def addW:H0:=λx y h=>match x,y with
 |.int i,.int j=>.ok (.int (i+j),h)
 |.str a,.str b=>if ⇑a+⇑b<=Ay then .ok (.str (a++b),h)else .bad
 |.tup a,y=>match E5 h y with
  |some (true,b)=>if a≠[]/\ ⇑a+⇑b<=Ay then .ok (.tup (a++b),h)else .bad
  |_=>.bad
 |x,y=>match LI h x,LI h y with
  |some (_,a),↥(_,b)=>nw .lst (a++b) h
  |_,_=>.bad
def ov(K:At):F0:=λx y H Q=>LQ (λi j=>.int (i+j)) x y H Q\/(∃i j,x=.str i/\y=.str j/\ ⇑i+⇑j<=CO/\Q (.str (i++j)) H)\/oz K x y H Q\/oy x y H Q
def adw:Dt X (Jn .Add) (ov X.K):=adv.or (adx.or (ae0.or adz))
def big{n:Nat}(h:n<=Ay):n<=CO:=IG h ε
def aeO(A_:F.K=X.K):IK F (ov X.K) addW:=by
 intro σ ρ φ h H x y GF Gh Q r a1 a2 q;unfold addW at q
 split at q
 .rename_i i j;erw[AX]at a1 a2;exact .inl ⟨i,j,a1,a2,q _ φ H r (Ag.refl _ _) (by erw[AX])⟩
 .rename_i i j;erw[AX]at a1 a2
  split at q
  .rename_i AF;exact .inr (.inl ⟨i,j,a1,a2,big AF,q _ φ H r (Ag.refl _ _) (by erw[AX])⟩)
  .exact q.elim
 .rename_i ws;erw[AX]at a1;obtain⟨p,xs,rfl,AG,BN⟩:=a1
  split at q
  .rename_i b BE;obtain⟨D2,ys,rfl,A5,rb⟩:=JG r.hd a2 BE;rw[A_]at A5
   split at q
   .rename_i AF;refine .inr (.inr (.inl ⟨p,D2,xs,ys,rfl,rfl,.inl (.inl AG),A5,λz=>AF.1 ?_,by rw[<- ⇑BN,<- ⇑rb];exact big AF.2,λz=>?_,λ_ F3 AV=>?_⟩))
    .have:=⇑BN;rw[z]at this;exact tS this
    .subst z;have:=⇑rb;have:b=[]:=tS this;subst this;exact q _ φ H r (Ag.refl _ _) (by erw[AX,L2];exact⟨p,xs,rfl,AG,BN⟩)
    .exact q _ φ _ (r.to (r.hd.lay AV) (Ag.lay AV)) (Ag.lay AV) (by erw[AX];exact⟨F3,_,rfl,EA,(BN.append rb).ex (Ag.lay AV)⟩)
   .exact q.elim
  .exact q.elim
 .split at q
  .rename_i na a nb b AD AH;obtain⟨p,xs,rfl,_,_,AG,BN⟩:=QX r.hd a1 AD;obtain⟨D2,ys,rfl,_,_,A5,rb⟩:=QX r.hd a2 AH;have Ue:=BN.append rb;refine .inr (.inr (.inr ⟨p,D2,xs,ys,rfl,rfl,AG,A5,?_,λF3 AV=>OZ r q AV EA Ue⟩));have:=gU q;rw[⇑Ue,EM]at this;exact big this
  .exact q.elim
def K_:H0:=λx y h=>match x,y with
 |.int i,.int j=>if LG i j then .ok (.int (i*j),h)else .bad
 |x,.int k=>match LI h x with
  |some (_,a)=>if-(2^63)<=k/\k<2^63 then nw .lst (Gd k.toNat a).flatten h else .bad
  |none=>.bad
 |_,_=>.bad
theorem Ai.rep{ws:↑W}{xs:↑V}(a:Ai K φ H ws xs):∀k:Nat,Ai K φ H (Gd k ws).flatten (Gd k xs).flatten
 |0=>(Ai.nil:)
 |k+1=>by rw[R2,R2,Pd,Pd];exact a.append (a.rep k)
def adi:IK F (λx y H Q=>Ix LG (λi j=>.int (i*j)) x y H Q\/pA x y H Q) K_:=by
 intro σ ρ φ h H x y GF Gh Q r a1 a2 q;unfold K_ at q
 split at q
 .rename_i i j;erw[AX]at a1 a2
  split at q
  .rename_i AI;exact .inl ⟨i,j,a1,a2,AI,q _ φ H r (Ag.refl _ _) (by erw[AX])⟩
  .exact q.elim
 .rename_i k _;erw[AX]at a2
  split at q
  .rename_i a AD;obtain⟨p,xs,rfl,_,_,AG,BN⟩:=QX r.hd a1 AD
   split at q
   .rename_i AR;have Kd:=BN.rep k.toNat;refine .inr ⟨p,k,xs,rfl,a2,AG,AR.1,AR.2,?_,λF3 AV=>OZ r q AV EA Kd⟩;have:=gU q;rw[⇑Kd,len_rep]at this;rw[Nat.mul_comm];exact big this
   .exact q.elim
  .exact q.elim
 .exact q.elim
def Ni:W->Bool
 |.non=>true
 |_=>false
noncomputable def Ej(b:Bool):H0:=λx y h=>match y with
 |.non=>.ok (.AN (if b then Ni x else !Ni x),h)
 |_=>.bad
def abP{w:W}{x:V}(a:AX K φ H w x):Ni w=decide (x=.non):=by
 cases w<;>erw[AX,Ni]at a |-<;>first
  |(subst a;rfl)
  |(subst a;simp;done)
  |(obtain⟨_,_,rfl,_⟩:=a;simp;done)
  |(obtain⟨_,rfl,_⟩:=a;simp;done)
def bX(b:Bool):IK F (λx y H Q=>y=.non/\Q (.AN (if b then decide (x=.non)else !decide (x=.non))) H) (Ej b):=by
 intro σ ρ φ h H x y GF Gh Q r a1 a2 q;unfold Ej at q
 split at q
 .erw[AX]at a2;rw[abP a1]at q;exact⟨a2,q _ φ H r (Ag.refl _ _) (Ny _)⟩
 .exact q.elim
def Pt:H0:=λx y h=>match y with
 |.int i=>match x with
  |.str z=>if ⇑z<=Ay then match JT z.cps.toList i with
      |some c=>.ok (.str ⟨#[c]⟩,h)
      |none=>.bad
   else .bad
  |x=>match E5 h x with
   |some (_,ws)=>match JT ws i with
    |some w=>.ok (w,h)
    |none=>.bad
   |none=>.bad
 |_=>.bad
def vc{ws:↑W}{xs:↑V}{i:Int}{w:W}(a:Ai K φ H ws xs)(e:JT ws i=↥w):∃v,JT xs i=↥v/\AX K φ H w v:=by
 unfold JT at e |-;rw[<- ⇑a];cases Ar:Lv ⇑ws i with
 |none=>rw[Ar]at e;cases e
 |some j=>rw[Ar]at e;exact a.get e
def aeT(A_:F.K=X.K):IK F (g9 X.K) Pt:=by
 intro σ ρ φ h H x y GF Gh Q r a1 a2 q;unfold Pt at q
 split at q
 .rename_i i;erw[AX]at a2;subst a2
  split at q
  .rename_i z;erw[AX]at a1
   split at q
   .rename_i AF
    split at q
    .rename_i c ec;exact .inr (.inr ⟨z,i,c,a1,rfl,big AF,ec,q _ φ H r (Ag.refl _ _) (by erw[AX])⟩)
    .exact q.elim
   .exact q.elim
  .split at q
   .rename_i t ws es;obtain⟨p,xs,rfl,AW,BN⟩:=JG r.hd a1 es;rw[A_]at AW
    split at q
    .rename_i w D0;obtain⟨v,ev,EH⟩:=vc BN D0;have q:=q v φ H r (Ag.refl _ _) EH;cases t with
     |true=>exact .inr (.inl ⟨p,xs,i,v,rfl,rfl,AW,ev,q⟩)
     |false=>exact .inl ⟨p,xs,i,v,rfl,rfl,AW,ev,q⟩
    .exact q.elim
   .exact q.elim
 .exact q.elim
end
abbrev LA:=↑W->A6->R (W×A6)
def Aw(f:LA)(m:EY):BB:=bd m λws _ h=>f ws h
section
variable{K:At}{φ:↑A7}{h:A6}{H:AE}{F:D6}{σ :St}{ρ:BC}{X:Aq}{ma:EY}
def P4(F:D6)(r:↑V->AE->CQ->Prop)(f:LA):Prop:=∀ σ ρ φ h H xs ws Q,Rel F φ h H σ ρ->Ai F.K φ H ws xs->D8 AX F φ H σ ρ Q (f ws h)->r xs H Q
def Pr{r:↑V->AE->CQ->Prop}{f:LA}(hf:P4 F r f):Fk (CB F (Aw f ma)) (Wu r (Gw F ma)):=λσ H Q q=>
 q.bd λws xs φ ρ h H1 r as q=>hf σ ρ φ h H1 xs ws Q r as q
def BZ:LA:=λws h=>match ws with
 |[.str x]=>if ⇑x<=Ay then .ok (.int ⇑x,h)else .bad
 |[w]=>match E5 h w with
  |some (_,us)=>.ok (.int ⇑us,h)
  |none=>.bad
 |_=>.bad
def aeW(A_:F.K=X.K):P4 F (λxs H Q=>∃x n,xs=[x]/\ic X.K x H n/\Q (.int n) H) BZ:=by
 intro σ ρ φ h H xs ws Q r as q;unfold BZ at q
 split at q
 .rename_i x;obtain⟨v,rfl,a⟩:=as.one;erw[AX]at a;subst a
  split at q
  .rename_i AF;exact⟨_,⇑x,rfl,⟨big AF,rfl⟩,q _ φ H r (Ag.refl _ _) (by erw[AX])⟩
  .exact q.elim
 .obtain⟨v,rfl,a⟩:=as.one
  split at q
  .rename_i t us es;obtain⟨p,xs,rfl,AW,BN⟩:=JG r.hd a es;rw[A_]at AW;rw[⇑BN]at q;refine⟨_,⇑xs,rfl,?_,q _ φ H r (Ag.refl _ _) (by erw[AX])⟩;cases t with
   |true=>exact .inr ⟨xs,AW,rfl⟩
   |false=>exact .inl ⟨xs,AW,rfl⟩
  .exact q.elim
 .exact q.elim
def Dn:LA:=λws h=>match ws with
 |[w]=>match E5 h w with
  |some (_,us)=>nw .lst us h
  |none=>.bad
 |_=>.bad
def adg(A_:F.K=X.K):P4 F (λxs H Q=>∃p ys,xs=[.ref p]/\(Es X.K H p ys\/Et X.K H p ys)/\∀l,H l=none->Q (.ref l) (upd H l (.lst ys))) Dn:=by
 intro σ ρ φ h H xs ws Q r as q;unfold Dn at q
 split at q
 .obtain⟨v,rfl,a⟩:=as.one
  split at q
  .rename_i t us es;obtain⟨p,xs,rfl,AW,BN⟩:=JG r.hd a es;rw[A_]at AW;refine⟨p,xs,rfl,?_,λl AF=>OZ r q AF EA BN⟩;cases t with
   |true=>exact .inr AW
   |false=>exact .inl AW
  .exact q.elim
 .exact q.elim
def PU:LA:=λws h=>match ws with
 |[w]=>match E5 h w with
  |some (false,us)=>.ok (.tup us,h)
  |some (true,_)=>.ok (w,h)
  |none=>.bad
 |_=>.bad
def adp(A_:F.K=X.K):P4 F (λxs H Q=>∃p ys,xs=[.ref p]/\((Es X.K H p ys/\∀l,H l=none->Q (.ref l) (upd H l (.tup ys)))\/(Et X.K H p ys/\Q (.ref p) H))) PU:=by
 intro σ ρ φ h H xs ws Q r as q;unfold PU at q
 split at q
 .obtain⟨v,rfl,a⟩:=as.one
  split at q
  .rename_i us es;obtain⟨p,xs,rfl,AW,BN⟩:=JG r.hd a es;rw[A_]at AW;exact⟨p,xs,rfl,.inl ⟨AW,λl AF=>q _ φ _ (r.to (r.hd.lay AF) (Ag.lay AF)) (Ag.lay AF) (by erw[AX];exact⟨l,_,rfl,EA,BN.ex (Ag.lay AF)⟩)⟩⟩
  .rename_i us es;obtain⟨p,xs,rfl,AW,BN⟩:=JG r.hd a es;rw[A_]at AW;exact⟨p,xs,rfl,.inr ⟨AW,q _ φ H r (Ag.refl _ _) a⟩⟩
  .exact q.elim
 .exact q.elim
noncomputable def Qr:LA:=λws h=>match ws with
 |[.int i]=>if i.natAbs.log2<1920 then .ok (.str (toString i),h)else .bad
 |_=>.bad
def adn:P4 F (λxs H Q=>∃i,xs=[.int i]/\i.natAbs.log2<1920/\Q (.str (toString i)) H) Qr:=by
 intro σ ρ φ h H xs ws Q r as q;unfold Qr at q
 split at q
 .rename_i i;obtain⟨v,rfl,a⟩:=as.one;erw[AX]at a;subst a
  split at q
  .rename_i AF;exact⟨i,rfl,AF,q _ φ H r (Ag.refl _ _) (by erw[AX])⟩
  .exact q.elim
 .exact q.elim
noncomputable def Rg:LA:=λws h=>match ws with
 |[.int i]=>.ok (.int i,h)
 |[.AN b]=>.ok (.int (if b then 1 else 0),h)
 |_=>.bad
def ado:P4 F (λxs H Q=>(∃i,xs=[.int i]/\Q (.int i) H)\/∃k,xs=[.AN k]/\Q (.int (if k then 1 else 0)) H) Rg:=by
 intro σ ρ φ h H xs ws Q r as q;unfold Rg at q
 split at q
 .rename_i i;obtain⟨v,rfl,a⟩:=as.one;erw[AX]at a;subst a;exact .inl ⟨i,rfl,q _ φ H r (Ag.refl _ _) (by erw[AX])⟩
 .rename_i i;obtain⟨v,rfl,a⟩:=as.one;erw[AX]at a;subst a;exact .inr ⟨i,rfl,q _ φ H r (Ag.refl _ _) (by erw[AX])⟩
 .exact q.elim
noncomputable def Mg(h:A6):W->Option String
 |.non=>some "NoneType"
 |.AN _=>some "bool"
 |.int _=>some "int"
 |.str _=>some "str"
 |.tup _=>some "tuple"
 |.IS _=>some "tuple"
 |.ref n=>match h[n]? with
  |some ⟨.lst,_⟩=>some "list"
  |some ⟨.Al _,_⟩=>some "dict"
  |some ⟨.ED _,_⟩=>some "dict"
  |_=>none
 |_=>none
noncomputable def hD(T U:String):Bool:=T==U||(T=="bool"&&U=="int")
def dT(K:At)(U:String):Prop:=∀T,T="NoneType"\/T="bool"\/T="int"\/T="str"\/T="list"\/T="tuple"\/T="dict"->ZA K (.type T) (.type U)=↥(hD T U)
def Wz(K:At){U:String}(h:U="int"\/U="bool"\/U="str"\/U="list"\/U="tuple"\/U="dict"):dT K U:=λT t=>by rcases h with rfl|rfl|rfl|rfl|rfl|rfl<;>rcases t with rfl|rfl|rfl|rfl|rfl|rfl|rfl<;>kernel_rfl
def ai6{w:W}{T:String}(e:Mg h w=↥T):T="NoneType"\/T="bool"\/T="int"\/T="str"\/T="list"\/T="tuple"\/T="dict":=by
 unfold Mg at e
 split at e<;>first
  |(cases e;simp;done)
  |(split at e<;>first|(cases e;simp;done)|(cases e;done))
  |(cases e;done)
def abR{A4:μ}{s:AS}{Q:A9->AS->Prop}{E:A9->AS->Prop}{w:W}{x:V}{u:A9}{T U:String}{k:Bool}(J:θ)(d:DL X.K φ h H)(a:AX X.K φ H w x)(Av:RelV x u)(e:Mg h w=↥T)(tt:ZA X.K (.type T) (.type U)=↥k)(AW:∀Ce,Q (.bool k) { s with toks:=Ce }):An ξ X.A (call (.builtin "isinstance") [u,.type U]) Q E s:=by
 have QR:∀{p:A7}{xs:↑V},Et X.K H p xs->ZA X.K (.type "tuple") (.type U)=↥k->An ξ X.A (call (.builtin "isinstance") [.ref p,.type U]) Q E s:=λAQ tt=>by obtain⟨its,_,⟨o,AD,AH,_⟩,_⟩:=J.tuple AQ;exact JO u5 J.FP ⟨o,AD,AH⟩ tt (λz=>nomatch z) AW
 unfold Mg at e
 split at e
 .cases e;erw[AX]at a;subst a;cases Av;exact JO u9 J.FP ID tt (λz=>nomatch z) AW
 .cases e;erw[AX]at a;subst a;cases Av;exact JO uA J.FP ID tt (λz=>nomatch z) AW
 .cases e;erw[AX]at a;subst a;obtain⟨t,rfl⟩:=Av;exact JO PySem.W.kitx_int J.FP ID tt (λz=>nomatch z) AW
 .cases e;erw[AX]at a;subst a;obtain⟨t,rfl⟩:=Av;exact JO PySem.W.kitx_str J.FP ID tt (λz=>nomatch z) AW
 .cases e;erw[AX]at a;obtain⟨p,xs,rfl,AQ,_⟩:=a;cases Av;exact QR (.inl (.inl AQ)) tt
 .cases e;erw[AX]at a;obtain⟨p,xs,rfl,AQ,_⟩:=a;cases Av;exact QR AQ tt
 .split at e
  .rename_i Au;cases e;obtain⟨p,xs,rfl,_,AQ,_⟩:=d.at Au a;cases Av;exact er (x:=.ref p) J rfl (.lst AQ) tt AW
  .rename_i Au;cases e;obtain⟨p,xs,rfl,_,⟨AA,AQ,_⟩,_⟩:=d.at Au a;cases Av;exact er (x:=.ref p) J rfl (.Al AQ) tt AW
  .rename_i Au;cases e;obtain⟨p,xs,rfl,_,⟨AA,AQ,_⟩,_⟩:=d.at Au a;cases Av;exact er (x:=.ref p) J rfl (.ED AQ) tt AW
  .cases e
 .cases e
def p2(K:At)(U:String):↑V->AE->CQ->Prop:=λxs H Q=>∃φ h w x T,DL K φ h H/\xs=[x,.ty U]/\AX K φ H w x/\Mg h w=↥T/\Q (.AN (hD T U)) H
def ue{U:String}(tt:dT X.K U):JR X (.builtin "isinstance") (p2 X.K U):=by intro A4 s σ H xs us Q J r h;obtain⟨φ,hh,w,x,T,d,rfl,a,e,q⟩:=h;obtain⟨u,C_,rfl,Av,Fb⟩:=vals2 r;obtain rfl:C_=OL U:=Fb;exact abR J d a Av e (tt T (ai6 e)) λCe=>⟨.AN _,H,J.tok Ce,rfl,q⟩
def EF(U:String):W->A6->R (W×A6):=λw h=>match Mg h w with
 |some T=>.ok (.AN (hD T U),h)
 |none=>.bad
def z_{U:String}{m:BB}(A_:F.K=X.K):Fk (CB F (B0 (EF U) m)) (Wu (p2 X.K U) (YX (CB F m) (YX (PS (.ty U)) Ya))):=λσ H Q q=>
 q.bd λw v φ ρ h H1 r a q=>by
   unfold EF at q
   split at q
   .rename_i T vl;have GL:=a;have d:=r.hd;rw[A_]at GL d;exact⟨φ,h,w,v,T,d,rfl,GL,vl,q _ φ H1 r (Ag.refl _ _) (Ny _)⟩
   .exact q.elim
noncomputable def bools:↑W->Option ↑Bool
 |[]=>some []
 |.AN b::ws=>(bools ws).map (b::·)
 |_=>none
theorem jN:∀{ws:↑W}{xs:↑V}{bs:↑Bool},bools ws=↥bs->Ai K φ H ws xs->xs=bs.map V.AN
 |[],_,_,e,a=>by erw[bools]at e;cases e;erw[Ai]at a;exact a
 |w::ws,_,_,e,a=>by
  erw[Ai]at a;obtain⟨v,r,rfl,a1,a2⟩:=a;cases w<;>erw[bools]at e<;>try (cases e;done)
  rename_i b;cases AH:bools ws with
  |none=>rw[AH]at e;cases e
  |some bs=>rw[AH]at e;cases e;erw[AX]at a1;rw[a1,jN AH a2];rfl
def IV(all:Bool):LA:=λws h=>match ws with
 |[w]=>match E5 h w with
  |some (false,us)=>match bools us with
   |some bs=>.ok (.AN (if all then bs.all id else bs.any id),h)
   |none=>.bad
  |_=>.bad
 |_=>.bad
def adj(A_:F.K=X.K)(b:Bool):P4 F (λxs H Q=>∃(p:A7)(bs:↑Bool),xs=[.ref p]/\Es X.K H p (bs.map V.AN)/\Q (.AN (if b then bs.all id else bs.any id)) H) (IV b):=by
 intro σ ρ φ h H xs ws Q r as q;unfold IV at q
 split at q
 .obtain⟨v,rfl,a⟩:=as.one
  split at q
  .rename_i us es;obtain⟨p,xs,rfl,AW,BN⟩:=JG r.hd a es
   split at q
   .rename_i bs BE;have:=jN BE BN;subst this;rw[A_]at AW;exact⟨p,bs,rfl,AW,q _ φ H r (Ag.refl _ _) (Ny _)⟩
   .exact q.elim
  .exact q.elim
 .exact q.elim
abbrev RX:=M (Option Int)
def afo(_:At)(_:↑A7)(_:AE)(a b:Option Int):Prop:=b=a
abbrev Wx(F:D6)(m:RX):Ta:=LU afo F m
def CC(m:BB):RX:=bd m λw=>match w with
 |.int i=>pu ↥i
 |_=>λ_ _=>.bad
def zc:∀ σ H Q,Wx F (pu none) σ H Q->ri σ H Q:=λσ H Q q=>let⟨φ,ρ,h,r,q⟩:=q;q none φ H r (Ag.refl _ _) rfl
def ab4{m:BB}:∀ σ H Q,Wx F (CC m) σ H Q->rn (CB F m) σ H Q:=λσ H Q q=>
 q.bd λw v φ ρ h H1 r a q=>by
   cases w with
   |int i=>erw[AX]at a;exact⟨i,a,q _ φ H1 r (Ag.refl _ _) rfl⟩
   |_=>cases q
noncomputable def He(ws:↑W)(lo hi:Option Int):↑W:=(ws.drop (EU.Ct ⇑ws 0 lo)).take (EU.Ct ⇑ws ⇑ws hi-EU.Ct ⇑ws 0 lo)
def Ai.cut{ws:↑W}{xs:↑V}(a:Ai K φ H ws xs)(lo hi:Option Int):Ai K φ H (He ws lo hi) (QE xs lo hi):=by unfold He QE;rw[⇑a];exact(a.drop _).take _
def MJ(w:W)(lo hi:Option Int):M W:=λ_ h=>match E5 h w with
 |some (false,ws)=>nw .lst (He ws lo hi) h
 |some (true,ws)=>if EU.Ct ⇑ws 0 lo=0/\EU.Ct ⇑ws ⇑ws hi=⇑ws then .bad else .ok (.tup (He ws lo hi),h)
 |none=>.bad
def D9(m:BB)(lo hi:RX):BB:=bd m λw=>bd lo λl=>bd hi λu=>MJ w l u
def ab9(A_:F.K=X.K){m:BB}{lo hi:RX}:Fk (CB F (D9 m lo hi)) (rt (λx lo hi H Q=>pD X.K x lo hi H Q\/pE X.K x lo hi H Q) (CB F m) (Wx F lo) (Wx F hi)):=λσ H Q q=>
 q.bd λw v φ ρ h H1 r a q=>⟨φ,ρ,h,r,q.bd λl Nk CP h2 AU BK Ca e q=>by
   cases e;exact⟨CP,ρ,h2,BK,q.bd λu Jg KJ BO C4 G2 Ed e q=>by
    cases e;have a:=a.ex (Ca.trans Ed);unfold MJ at q
    split at q
    .rename_i ws es;obtain⟨p,xs,rfl,AW,BN⟩:=JG G2.hd a es;rw[A_]at AW;exact .inl ⟨p,xs,rfl,AW,λF3 AV=>OZ G2 q AV EA (BN.cut l u)⟩
    .rename_i ws es;obtain⟨p,xs,rfl,AW,BN⟩:=JG G2.hd a es;rw[A_]at AW
     split at q
     .exact q.elim
     .rename_i AM;rw[⇑BN]at AM;exact .inr ⟨p,xs,rfl,AW,AM,λF3 AV=>q _ KJ _ (G2.to (G2.hd.lay AV) (Ag.lay AV)) (Ag.lay AV) (by erw[AX];exact⟨F3,_,rfl,EA,(BN.cut l u).ex (Ag.lay AV)⟩)⟩
    .exact q.elim⟩⟩
end
section
variable{K:At}{φ:↑A7}{h:A6}{H:AE}{F:D6}{σ :St}{ρ:BC}{X:Aq}{ma:EY}{m:BB}
abbrev M5:=↑W->↑W->Option (W×↑W)
def c6(f:M5)(w:W)(us:↑W):BB:=λ_ h=>match LI h w with
 |some (n,ws)=>match f ws us with
  |some (r,ws')=>if ⇑ws'<=Ay then .ok (r,h.set n ⟨.lst,ws'⟩)else .bad
  |none=>.bad
 |none=>.bad
def br{α:Type}(w:W)(m:M α):M α:=λρ h=>match LI h w with
 |some _=>m ρ h
 |none=>.bad
def DI(f:M5)(o:BB)(ma:EY):BB:=bd o λw=>br w (bd ma λus=>c6 f w us)
def Tt{n:Nat}{p:A7}{ws ws':↑W}{xs Uu:↑V}{r:W}{v:V}{Q:CQ}(Iy:Rel F φ h H σ ρ)(Au:h[n]?=↥⟨.lst,ws⟩)(Ao:φ[n]?=↥p)(AV:H p=↥(.lst xs))(BN:Ai F.K φ H ws' Uu)(Bw:AX F.K φ H r v)(q:D8 AX F φ H σ ρ Q (.ok (r,h.set n ⟨.lst,ws'⟩))):Q v (upd H p (.lst Uu)):=by have x:Ag φ H φ (upd H p (.lst Uu)):=Ag.put AV λz=>z;exact q v φ _ (Iy.to (Iy.hd.put Au Ao AV (λz=>z) (o':=⟨.lst,ws'⟩) EA BN) x) x (Bw.ex x)
def RZ(F:D6)(r:V->↑V->AE->CQ->Prop)(f:M5):Prop:=∀ σ ρ φ h H n p ws us xs vs Q C_ ws',Rel F φ h H σ ρ->h[n]?=↥⟨.lst,ws⟩->φ[n]?=↥p->H p=↥(.lst xs)->Ai F.K φ H ws xs->Ai F.K φ H us vs->f ws us=↥(C_,ws')->⇑ws'<=Ay->D8 AX F φ H σ ρ Q (.ok (C_,h.set n ⟨.lst,ws'⟩))->r (.ref p) vs H Q
def aG(A_:F.K=X.K){r:V->↑V->AE->CQ->Prop}{f:M5}(hf:RZ F r f):Fk (CB F (DI f m ma)) (sO X.K "list" r (CB F m) (Gw F ma)):=λσ H Q q=>
 q.bd λw v φ ρ h H1 Iy a q=>by
   unfold br at q
   split at q
   .rename_i nw e;obtain⟨n,ws⟩:=nw;obtain⟨p,xs,rfl,Au,Ao,AV,BN⟩:=QX Iy.hd a e;refine⟨.inl ⟨rfl,xs,.inl (.inl AV)⟩,φ,ρ,h,Iy,q.bd λus vs CP h2 AU BK Ca as q=>?_⟩;unfold c6 at q
    split at q
    .rename_i FQ ws2 AH;obtain⟨D2,aiy,N_,xK,xP,fR,Ue⟩:=QX BK.hd (a.ex Ca) AH;cases N_
     split at q
     .rename_i C_ ws' C2
      split at q
      .rename_i AF;exact hf σ ρ CP h2 AU FQ p ws2 us aiy vs Q C_ ws' BK xK xP fR Ue as C2 AF q
      .exact q.elim
     .exact q.elim
    .exact q.elim
   .exact q.elim
def f_(A_:F.K=X.K){r:V->↑V->AE->CQ->Prop}{f:M5}(hf:RZ F r f):Fk (CB F (DI f m A2)) (sP X.K "list" r (CB F m)):=λσ H Q q=>by have z:=aG (X:=X) A_ hf (m:=m) (ma:=A2) σ H Q q;obtain⟨φ,ρ,h,r,z⟩:=z;refine⟨φ,ρ,h,r,z.imp λv H1⟨ty,φ,ρ,h,r,z⟩=>⟨ty,z [] φ H1 r (Ag.refl _ _) .nil⟩⟩
noncomputable def EO:M5:=λws us=>match us with
 |[w]=>↥(.non,ws++[w])
 |_=>none
def XH:AX K φ H .non .non:=by erw[AX]
def aeP:RZ F ow EO:=by
 intro σ ρ φ h H n p ws us xs vs Q C_ ws' Iy Au Ao AV BN as C2 AF q;unfold EO at C2
 split at C2
 .cases C2;obtain⟨v,rfl,EH⟩:=as.one;rw[EM,⇑BN]at AF;exact⟨p,xs,v,rfl,rfl,AV,GG (Nat.lt_of_succ_le AF) ε,Tt Iy Au Ao AV (BN.append (.cons EH .nil)) XH q⟩
 .cases C2
noncomputable def Je:M5:=λws us=>match us with
 |[]=>(ws[⇑ws-1]?).map λw=>(w,ws.dropLast)
 |[.int i]=>if-(2^63)<=i/\i<2^63 then match Su i ⇑ws with
    |some k=>(ws[k]?).map λw=>(w,ws.eraseIdx k)
    |none=>none
  else none
 |_=>none
def Ai.erase{ws:↑W}{xs:↑V}(a:Ai K φ H ws xs)(k:Nat):Ai K φ H (ws.eraseIdx k) (xs.eraseIdx k):=by rw[tB,tB];exact(a.take k).append (a.drop (k+1))
theorem Ai.dropLast{ws:↑W}{xs:↑V}(a:Ai K φ H ws xs):Ai K φ H ws.dropLast xs.dropLast:=by rw[tg,tg,⇑a];exact a.take _
def o3:RZ F (λx vs H Q=>p8 x vs H Q\/p9 x vs H Q) Je:=by
 intro σ ρ φ h H n p ws us xs vs Q C_ ws' Iy Au Ao AV BN as C2 AF q;unfold Je at C2
 split at C2
 .erw[Ai]at as;subst as;cases e:ws[⇑ws-1]? with
  |none=>rw[e]at C2;cases C2
  |some w=>rw[e]at C2;cases C2;obtain⟨v,ev,EH⟩:=BN.get e;rw[⇑BN]at ev;exact .inl ⟨p,xs,v,rfl,rfl,AV,ev,Tt Iy Au Ao AV BN.dropLast EH q⟩
 .rename_i i;obtain⟨v,rfl,EH⟩:=as.one;erw[AX]at EH;subst EH
  split at C2
  .rename_i hi
   split at C2
   .rename_i k DN;cases e:ws[k]? with
    |none=>rw[e]at C2;cases C2
    |some w=>rw[e]at C2;cases C2;obtain⟨v,ev,EH⟩:=BN.get e;rw[⇑BN]at DN;exact .inr ⟨p,xs,i,k,v,rfl,rfl,AV,hi.1,hi.2,DN,ev,Tt Iy Au Ao AV (BN.erase k) EH q⟩
   .cases C2
  .cases C2
 .cases C2
noncomputable def Vu:M5:=λ_ us=>match us with
 |[]=>↥(.non,[])
 |_=>none
def aeQ:RZ F p0 Vu:=by
 intro σ ρ φ h H n p ws us xs vs Q C_ ws' Iy Au Ao AV BN as C2 AF q;unfold Vu at C2
 split at C2
 .cases C2;erw[Ai]at as;subst as;exact⟨p,xs,rfl,rfl,AV,Tt Iy Au Ao AV .nil XH q⟩
 .cases C2
noncomputable def XJ:M5:=λws us=>match us with
 |[]=>↥(.non,ws.reverse)
 |_=>none
theorem Ai.rev:∀{ws:↑W}{xs:↑V},Ai K φ H ws xs->Ai K φ H ws.reverse xs.reverse
 |[],_,a=>by erw[Ai]at a;subst a;exact .nil
 |w::ws,_,a=>by erw[Ai]at a;obtain⟨v,r,rfl,a1,a2⟩:=a;rw[Yz,Yz];exact a2.rev.append (.cons a1 .nil)
def adk:RZ F pB XJ:=by
 intro σ ρ φ h H n p ws us xs vs Q C_ ws' Iy Au Ao AV BN as C2 AF q;unfold XJ at C2
 split at C2
 .cases C2;erw[Ai]at as;subst as;exact⟨p,xs,rfl,rfl,AV,Tt Iy Au Ao AV BN.rev XH q⟩
 .cases C2
def bC(o i v:W):Ak:=λρ h=>match LI h o,i with
 |some (n,ws),.int k=>match Lv ⇑ws k with
  |some j=>.ok (.AT ρ,h.set n ⟨.lst,ws.set j v⟩)
  |none=>.bad
 |_,_=>.bad
def TM(o i:BB):DM:=λv=>bd o λP3=>bd i λkz=>bC P3 kz v
def ab5{o i:BB}:Zd (MN F (TM o i)) (kN (CB F o) (CB F i) pC):=by
 rintro v σ H Q ⟨φ,ρ,h,w,r,a,q⟩;refine⟨φ,ρ,h,r,EQ.bd q λP3 x C0 h1 H1 Ax Cu EZ q=>⟨C0,ρ,h1,Ax,EQ.bd q λkz y CP h2 AU BK Ca H4 q=>?_⟩⟩;unfold bC at q
 split at q
 .rename_i n ws k e;obtain⟨p,xs,rfl,Au,Ao,AV,BN⟩:=QX BK.hd (EZ.ex Ca) e;erw[AX]at H4
  split at q
  .rename_i j I7;have AH:Ag CP AU CP (upd AU p (.lst (xs.set j v))):=Ag.put AV λz=>z;rw[⇑BN]at I7;exact⟨p,xs,k,j,rfl,H4,AV,I7,q σ CP _ (BK.to (BK.hd.put Au Ao AV (λz=>z) (o':=⟨.lst,ws.set j w⟩) EA (BN.set (a.ex (Cu.trans Ca)) j)) AH) AH⟩
  .exact q.elim
 .exact q.elim
noncomputable def keyOf:W->Option Key
 |.int i=>↥(.inl i)
 |.str x=>↥(.inr x)
 |_=>none
def Nu:W->Option FC
 |.tup ws=>ws.mapM keyOf
 |_=>none
def WC{w:W}{v:V}{k:Key}(e:keyOf w=↥k)(a:AX K φ H w v):v=Cj k:=by cases w<;>erw[keyOf]at e<;>first|(cases e;done)|(cases e;erw[AX]at a;exact a)
theorem ee{α:Type}{f:W->Option α}{P:α->V->Prop}(hf:∀{w v k},f w=↥k->AX K φ H w v->P k v):∀{ws:↑W}{xs:↑V}{AK:↑α},ws.mapM f=↥AK->Ai K φ H ws xs->Paired P AK xs
 |[],_,_,e,a=>by simp at e;subst e;erw[Ai]at a;subst a;exact .nil
 |w::ws,_,_,e,a=>by
  erw[Ai]at a;obtain⟨v,r,rfl,a1,a2⟩:=a;rw[NL]at e;cases AD:f w with
  |none=>rw[AD]at e;cases e
  |some k=>
   rw[AD]at e;cases AH:ws.mapM f with
   |none=>rw[AH]at e;cases e
   |some AK=>rw[AH]at e;cases e;exact .cons (hf AD a1) (ee hf AH a2)
theorem nP:∀{AK:↑Key}{xs:↑V},Paired (λk v=>v=Cj k) AK xs->xs=AK.map Cj
 |_,_,.nil=>rfl
 |_,_,.cons e t=>by rw[e,nP t];rfl
def gQ{w:W}{v:V}{k:FC}(e:Nu w=↥k)(a:AX K φ H w v):∃b,v=.ref b/\PE H k b:=by
 unfold Nu at e
 split at e
 .erw[AX]at a;obtain⟨b,xs,rfl,A5,BN⟩:=a;exact⟨b,rfl,by rw[PE,A5,nP (ee WC e BN)]⟩
 .cases e
section
variable{Bt:Type}[DecidableEq Bt]
noncomputable def Dy:↑Bt->↑W->Bt->Option W
 |k'::AK,w::ws,k=>if k'=k then↥w else Dy AK ws k
 |_,_,_=>none
noncomputable def Nz:↑Bt->↑W->Bt->W->↑W
 |k'::AK,w::ws,k,u=>(if k'=k then u else w)::Nz AK ws k u
 |_,_,_,_=>[]
noncomputable def O8:↑Bt->↑W->Bt->↑W
 |k'::AK,w::ws,k=>if k'=k then O8 AK ws k else w::O8 AK ws k
 |_,_,_=>[]
def Vh(K:At)(φ:↑A7)(H:AE):Option W->Option V->Prop
 |some w,↥v=>AX K φ H w v
 |none,none=>True
 |_,_=>False
theorem Rk(k:Bt):∀{AA:↑(Bt×V)}{ws:↑W},Ai K φ H ws (AA.map (·.2))->Vh K φ H (Dy (AA.map (·.1)) ws k) (Hy AA k)
 |[],ws,a=>by
  have:=⇑a;cases ws with
  |nil=>simp[Dy,aiI,Vh]
  |cons _ _=>simp at this
 |(k',v)::AA,ws,a=>by
  cases ws with
  |nil=>have:=⇑a;simp at this
  |cons w ws=>
   erw[DC,Ai]at a;obtain⟨JJ,r,e,a1,a2⟩:=a;cases e;erw[DC,Dy];by_cases AR:k'=k
   .rw[if_pos AR,Xl AR];exact a1
   .rw[if_neg AR,Xk AR];exact Rk k a2
theorem oZ{k:Bt}{u:W}{x:V}(b:AX K φ H u x):∀{AA:↑(Bt×V)}{ws:↑W},Ai K φ H ws (AA.map (·.2))->Ai K φ H (Nz (AA.map (·.1)) ws k u) ((AA.map λBv=>if Bv.1=k then(Bv.1,x)else Bv).map (·.2))
 |[],ws,a=>by
  cases ws with
  |nil=>exact .nil
  |cons _ _=>have:=⇑a;simp at this
 |(k',v)::AA,ws,a=>by
  cases ws with
  |nil=>have:=⇑a;simp at this
  |cons w ws=>
   erw[DC,Ai]at a;obtain⟨JJ,r,e,a1,a2⟩:=a;cases e;erw[DC,Nz];refine .cons ?_ (oZ b a2);by_cases AR:k'=k
   .rw[if_pos AR,if_pos AR];exact b
   .rw[if_neg AR,if_neg AR];exact a1
theorem kj{k:Bt}:∀{AA:↑(Bt×V)}{ws:↑W},Ai K φ H ws (AA.map (·.2))->Ai K φ H (O8 (AA.map (·.1)) ws k) ((Mk AA k).map (·.2))
 |[],ws,a=>by
  cases ws with
  |nil=>exact .nil
  |cons _ _=>have:=⇑a;simp at this
 |(k',v)::AA,ws,a=>by
  cases ws with
  |nil=>have:=⇑a;simp at this
  |cons w ws=>
   erw[DC,Ai]at a;obtain⟨JJ,r,e,a1,a2⟩:=a;cases e;have CI:=kj (k:=k) a2;unfold Mk at CI |-;erw[DC,O8];by_cases AR:k'=k
   .rw[if_pos AR,List.filter_cons_of_neg (by simp[AR])];exact CI
   .rw[if_neg AR,List.filter_cons_of_pos (by simp[AR])];exact .cons a1 CI
def wB(AA:↑(Bt×V))(k:Bt):(Mk AA k).map (·.1)=(AA.map (·.1)).filter λx=>decide (x≠k):=by unfold Mk;rw[List.filter_map];rfl
def M_(AK:↑Bt)(ws:↑W)(k:Bt)(w:W):↑Bt×↑W:=if k∈AK then(AK,Nz AK ws k w)else(AK++[k],ws++[w])
def v_(AA:↑(Bt×V))(k:Bt):(AA.any λBv=>decide (Bv.1=k))=decide (k∈AA.map (·.1)):=by rw[Z6];erw[List.any_eq_true,decide_eq_true_eq,VH]
def nF{k:Bt}{u:W}{x:V}{AA:↑(Bt×V)}{ws:↑W}(b:AX K φ H u x)(a:Ai K φ H ws (AA.map (·.2))):(putK AA k x).map (·.1)=(M_ (AA.map (·.1)) ws k u).1/\Ai K φ H (M_ (AA.map (·.1)) ws k u).2 ((putK AA k x).map (·.2)):=by
 unfold putK M_;rw[v_];by_cases AR:k∈AA.map (·.1)
 .rw[if_pos (decide_eq_true AR),if_pos AR];refine⟨?_,oZ b a⟩;rw[iL];apply Sj;intro Bv _;erw[Pa]
  split<;>rfl
 .rw[if_neg (by erw[decide_eq_true_eq];exact AR),if_neg AR];exact⟨γ,by rw[IE];exact a.append (.cons b .nil)⟩
end
def Ho(h:A6)(d k:W):Option (Option W):=match d with
 |.ref n=>match h[n]? with
  |some ⟨.Al AK,ws⟩=>(keyOf k).map (Dy AK ws)
  |some ⟨.H5 AK,ws⟩=>(keyOf k).map (Dy AK ws)
  |some ⟨.ED AK,ws⟩=>(Nu k).map (Dy AK ws)
  |_=>none
 |_=>none
def b6(d:DL K φ h H){JV kw:W}{x y:V}{o:Option W}(e:Ho h JV kw=↥o)(EZ:AX K φ H JV x)(H4:AX K φ H kw y):∃a CN,x=.ref a/\JS H a y CN/\Vh K φ H o CN:=by
 unfold Ho at e
 split at e
 .split at e
  .rename_i AK ws Au;obtain⟨a,xs,rfl,_,⟨AA,AG,rfl,rfl⟩,BN⟩:=d.at Au EZ;cases DN:keyOf kw with
   |none=>rw[DN]at e;cases e
   |some k=>rw[DN]at e;cases e;rw[WC DN H4];exact⟨a,_,rfl,JS.k AG,Rk k BN⟩
  .rename_i AK ws Au;obtain⟨a,xs,rfl,_,⟨o,AA,AG,rfl,rfl⟩,BN⟩:=d.at Au EZ;cases DN:keyOf kw with
   |none=>rw[DN]at e;cases e
   |some k=>rw[DN]at e;cases e;rw[WC DN H4];exact⟨a,_,rfl,.inl ⟨AA,k,.inr ⟨o,AG⟩,rfl,rfl⟩,Rk k BN⟩
  .rename_i AK ws Au;obtain⟨a,xs,rfl,_,⟨AA,AG,rfl,rfl⟩,BN⟩:=d.at Au EZ;cases DN:Nu kw with
   |none=>rw[DN]at e;cases e
   |some k=>rw[DN]at e;cases e;obtain⟨b,rfl,tb⟩:=gQ DN H4;exact⟨a,_,rfl,JS.t AG tb,Rk k BN⟩
  .cases e
 .cases e
def eS:H0:=λd k h=>match Ho h d k with
 |some ↥w=>.ok (w,h)
 |_=>.bad
def aa0{d k:BB}:Fk (CB F (A1 eS d k)) (sR (CB F d) (CB F k)):=λσ H Q q=>
 q.bd λJV x φ ρ h H1 r EZ q=>⟨φ,ρ,h,r,q.bd λkw y CP h2 AU BK Ca H4 q=>by
   unfold eS at q
   split at q
   .rename_i w e;obtain⟨a,CN,rfl,g,F5⟩:=b6 BK.hd e (EZ.ex Ca) H4;cases CN with
    |none=>cases F5
    |some v=>exact⟨a,v,rfl,g,q v CP AU BK (Ag.refl _ _) F5⟩
   .exact q.elim⟩
def al0(b:Bool):H0:=λk d h=>match Ho h d k with
 |some o=>.ok (.AN (if b then o.isSome else !o.isSome),h)
 |none=>.bad
def Vh.is{o:Option W}{CN:Option V}(r:Vh K φ H o CN):o.isSome=CN.isSome:=by cases o<;>cases CN<;>first|rfl|cases r
def Mj(d k v:W):Ak:=λρ h=>match d with
 |.ref n=>match h[n]? with
  |some ⟨.Al AK,ws⟩=>match keyOf k with
   |some k=>if ⇑ws<Ay then .ok (.AT ρ,h.set n ⟨.Al (M_ AK ws k v).1,(M_ AK ws k v).2⟩)else .bad
   |none=>.bad
  |some ⟨.ED AK,ws⟩=>match Nu k with
   |some k=>if ⇑ws<Ay then .ok (.AT ρ,h.set n ⟨.ED (M_ AK ws k v).1,(M_ AK ws k v).2⟩)else .bad
   |none=>.bad
  |_=>.bad
 |_=>.bad
def Jb(d k v:BB):Ak:=bd v λPW=>bd d λJV=>bd k λkw=>Mj JV kw PW
def aa2{d k v:BB}:Ko (Ga F (Jb d k v)) (oc (CB F d) (CB F k) (CB F v)):=λDe σ H q=>
 q.bd λPW z φ ρ h H1 r Td q=>⟨φ,ρ,h,r,EQ.bd q λJV x C0 h1 AU Ax Cu EZ q=>⟨C0,ρ,h1,Ax,EQ.bd q λkw y CP h2 C4 BK Ca H4 q=>by
   have Td:=Td.ex (Cu.trans Ca);have EZ:=EZ.ex Ca;unfold Mj at q
   split at q
   .split at q
    .rename_i AK ws Au;obtain⟨a,xs,rfl,BS,⟨AA,AG,rfl,rfl⟩,BN⟩:=BK.hd.at Au EZ
     split at q
     .rename_i k DN
      split at q
      .rename_i AF;rw[⇑BN,Ch]at AF;obtain⟨AD,AH⟩:=nF (k:=k) Td BN;have Ed:Ag CP C4 CP (upd C4 a (.Al (putK AA k z))):=Ag.put AG λz=>z;rw[WC DN H4];exact⟨a,_,rfl,Q0.k AG (GG AF ε),q σ CP _ (BK.to (BK.hd.put Au BS AG (λz=>z) (o':=⟨.Al _,_⟩) ⟨_,EA,AD,rfl⟩ AH) Ed) Ed⟩
      .exact q.elim
     .exact q.elim
    .rename_i AK ws Au;obtain⟨a,xs,rfl,BS,⟨AA,AG,rfl,rfl⟩,BN⟩:=BK.hd.at Au EZ
     split at q
     .rename_i k DN
      split at q
      .rename_i AF;rw[⇑BN,Ch]at AF;obtain⟨AD,AH⟩:=nF (k:=k) Td BN;have Ed:Ag CP C4 CP (upd C4 a (.ED (putK AA k z))):=Ag.put AG λz=>z;obtain⟨b,rfl,tb⟩:=gQ DN H4;exact⟨a,_,rfl,Q0.t AG tb (GG AF ε),q σ CP _ (BK.to (BK.hd.put Au BS AG (λz=>z) (o':=⟨.ED _,_⟩) ⟨_,EA,AD,rfl⟩ AH) Ed) Ed⟩
      .exact q.elim
     .exact q.elim
    .exact q.elim
   .exact q.elim⟩⟩
noncomputable def Ov(h:A6):W->Bool
 |.ref n=>match h[n]? with
  |some ⟨.Al _,_⟩=>true
  |some ⟨.ED _,_⟩=>true
  |_=>false
 |_=>false
def ks(d:DL K φ h H){w:W}{x:V}(a:AX K φ H w x)(e:Ov h w=true):∃p,x=.ref p/\Ze H p:=by
 unfold Ov at e
 split at e
 .split at e
  .rename_i Au;obtain⟨p,xs,rfl,_,⟨AA,AV,_⟩,_⟩:=d.at Au a;exact⟨p,rfl,.inl ⟨AA,.inl AV⟩⟩
  .rename_i Au;obtain⟨p,xs,rfl,_,⟨AA,AV,_⟩,_⟩:=d.at Au a;exact⟨p,rfl,.inr ⟨AA,.inl AV⟩⟩
  .cases e
 .cases e
def Ps{α:Type}(w:W)(m:M α):M α:=λρ h=>if Ov h w=true then m ρ h else .bad
def WM(d k:BB):BB:=bd d λJV=>Ps JV (bd k λkw _ h=>match Ho h JV kw with
 |some o=>.ok (o.getD .non,h)
 |none=>.bad)
def zy{d k:BB}:Fk (CB F (WM d k)) (sS (CB F d) (CB F k)):=λσ H Q q=>
 q.bd λJV x φ ρ h H1 r EZ q=>by
   unfold Ps at q
   split at q
   .rename_i e;obtain⟨p,rfl,AV⟩:=ks r.hd EZ e;refine⟨p,rfl,AV,φ,ρ,h,r,q.bd λkw y CP h2 AU BK Ca H4 q=>?_⟩
    split at q
    .rename_i o Fw;obtain⟨a,CN,BS,g,F5⟩:=b6 BK.hd Fw (EZ.ex Ca) H4;cases BS;refine⟨CN,g,q _ CP AU BK (Ag.refl _ _) ?_⟩;cases o<;>cases CN<;>first|exact XH|exact F5|cases F5
    .exact q.elim
   .exact q.elim
def VS(JV kw:W):BB:=λ_ h=>match JV with
 |.ref n=>match h[n]? with
  |some ⟨.Al AK,ws⟩=>match keyOf kw with
   |some k=>match Dy AK ws k with
    |some w=>.ok (w,h.set n ⟨.Al (AK.filter λx=>decide (x≠k)),O8 AK ws k⟩)
    |none=>.bad
   |none=>.bad
  |_=>.bad
 |_=>.bad
def Rz(d k:BB):BB:=bd d λJV=>Ps JV (bd k λkw=>VS JV kw)
def aa1{d k:BB}:Fk (CB F (Rz d k)) (rZ (CB F d) (CB F k)):=λσ H Q q=>
 q.bd λJV x φ ρ h H1 r EZ q=>by
   unfold Ps at q
   split at q
   .rename_i e;obtain⟨p,rfl,AV⟩:=ks r.hd EZ e;refine⟨p,rfl,AV,φ,ρ,h,r,q.bd λkw y CP h2 AU BK Ca H4 q=>?_⟩;unfold VS at q
    split at q
    .split at q
     .rename_i AK ws Au;obtain⟨a,xs,BS,vo,⟨AA,AG,rfl,rfl⟩,BN⟩:=BK.hd.at Au (EZ.ex Ca);cases BS
      split at q
      .rename_i k DN
       split at q
       .rename_i w D0;have F5:=Rk k BN;rw[D0]at F5;cases ev:Hy AA k with
        |none=>rw[ev]at F5;cases F5
        |some v=>rw[ev]at F5;have Ed:Ag CP AU CP (upd AU p (.Al (Mk AA k))):=Ag.put AG λz=>z;exact⟨AA,k,v,AG,WC DN H4,ev,q v CP _ (BK.to (BK.hd.put Au vo AG (λz=>z) (o':=⟨.Al _,_⟩) ⟨_,EA,wB AA k,rfl⟩ (kj BN)) Ed) Ed (AX.ex Ed F5)⟩
       .exact q.elim
      .exact q.elim
     .exact q.elim
    .exact q.elim
   .exact q.elim
def KY(t:Bool):BB:=λ_ h=>nw (if t then .ED []else .Al []) [] h
def zw:Fk (CB F (KY false)) hJ:=λσ H Q⟨φ,ρ,h,r,q⟩ p AV=>OZ r q AV ⟨[],EA,rfl,rfl⟩ .nil
def zx:Fk (CB F (KY true)) rY:=λσ H Q⟨φ,ρ,h,r,q⟩ p AV=>OZ r q AV ⟨[],EA,rfl,rfl⟩ .nil
end
abbrev HF:=Nat->A6->Option (Option W)
def Ix(K:At)(DQ:↑A7)(C3:AE)(it:HF)(BH:It):Prop:=∀i φ h H,DL K φ h H->Ag DQ C3 φ H->(it i h=↥none->BH.stop i H)/\∀w,it i h=↥↥w->BH.go i H/\∀x AB,BH.Xt i H x AB->DL K φ h AB/\Ag φ H φ AB/\AX K φ AB w x
abbrev GT:=M HF
abbrev hK(F:D6)(m:GT):TI:=LU Ix F m
noncomputable def Mn(it:HF)(g:DM)(b:Ak):Nat->Nat->Ak
 |0,_=>λ_ _=>.bad
 |f+1,i=>λρ h=>match it i h with
  |some none=>.ok (.AT ρ,h)
  |some ↥w=>(g w ρ h).bind λp=>match p with
   |(.AT CS,h1)=>(b CS h1).bind λp=>match p with
    |(.AT Ds,h2)=>Mn it g b f (i+1) Ds h2
    |(.DS Ds,h2)=>Mn it g b f (i+1) Ds h2
    |(.Ba Ds,h2)=>.ok (.AT Ds,h2)
    |(.EX w,h2)=>.ok (.EX w,h2)
   |_=>.bad
  |none=>.bad
def K2:Nat:=1000
def Q_(mi:GT)(g:DM)(b:Ak):Ak:=bd mi λit=>Mn it g b K2 0
section
variable{F:D6}{K:At}{φ:↑A7}{h:A6}{H:AE}{σ :St}{ρ:BC}{X:Aq}
def for_in{it:HF}{BH:It}{g:DM}{b:Ak}{De:Ends}{C0:↑A7}{CS:BC}{h1:A6}{H1:AE}(Ax:Rel F C0 h1 H1 σ CS)(io:Ix F.K C0 H1 it BH)(q:EQ F C0 H1 De (Mn it g b K2 0 CS h1)):YY (λ_ H R=>R BH H) (MN F g) (Ga F b) De σ H1:=by
 refine⟨λi m σ H=>∃φ ρ h,Rel F φ h H σ ρ/\Ag C0 H1 φ H/\EQ F φ H De (Mn it g b m i ρ h),⟨K2,C0,CS,h1,Ax,Ag.refl _ _,q⟩,?_⟩;rintro i m σ H ⟨φ,ρ,h,r,x,q⟩;cases m with
 |zero=>cases q
 |succ m=>
  unfold Mn at q;obtain⟨Cb,FO⟩:=io i φ h H r.hd x
  split at q
  .rename_i e;exact .inl ⟨Cb e,q σ φ H r (Ag.refl _ _)⟩
  .rename_i w e;obtain⟨go,gx⟩:=FO w e;refine .inr ⟨go,λσ' AB=>∃φ ρ h,Rel F φ h AB σ' ρ/\Ag C0 H1 φ AB/\EQ F φ AB De (Mn it g b m (i+1) ρ h),λσ' AB n=>⟨m,Pf _,n⟩,λy AB AP=>?_⟩;obtain⟨d',Fd,ci⟩:=gx y AB AP;refine⟨φ,ρ,h,w,r.to d' Fd,ci,?_⟩;have q:=EQ.ex Fd q;cases eg:g w ρ h with
   |bad=>rw[eg]at q;cases q
   |exc c h'=>rw[eg]at q;exact q
   |ok p=>
    rw[eg]at q;obtain⟨f,h2⟩:=p;cases f with
    |AT Ds=>
     intro σ2 CP AU BK Ca;refine⟨CP,Ds,h2,BK,?_⟩;have q:=EQ.ex Ca q;have Rm:=x.trans (Fd.trans Ca);erw[R.bind]at q;cases BE:b Ds h2 with
     |bad=>rw[BE]at q;cases q
     |exc c h'=>rw[BE]at q;exact q
     |ok p=>
      rw[BE]at q;obtain⟨f,BO⟩:=p;cases f with
      |AT PZ=>exact λσ3 KJ C4 G2 Ed=>⟨KJ,PZ,BO,G2,Rm.trans Ed,EQ.ex Ed q⟩
      |DS PZ=>exact λσ3 KJ C4 G2 Ed=>⟨KJ,PZ,BO,G2,Rm.trans Ed,EQ.ex Ed q⟩
      |Ba PZ=>exact q
      |EX w=>exact q
    |_=>cases q
  .exact q.elim
def zX{mi:GT}{g:DM}{b:Ak}:Ko (Ga F (Q_ mi g b)) (YY (hK F mi) (MN F g) (Ga F b)):=λDe σ H q=>
 q.bd λit BH C0 CS h1 H1 Ax io q=>for_in Ax io q
def QU(c:DX)(b:Ak):Nat->Ak
 |0=>λ_ _=>.bad
 |f+1=>bd c λk=>if k=true then λρ h=>(b ρ h).bind λp=>match p with
   |(.AT Ds,h2)=>QU c b f Ds h2
   |(.DS Ds,h2)=>QU c b f Ds h2
   |(.Ba Ds,h2)=>.ok (.AT Ds,h2)
   |(.EX w,h2)=>.ok (.EX w,h2)
  else Bj
def Tv(c:DX)(b:Ak):Ak:=QU c b K2
def abF{c:DX}{b:Ak}:Ko (Ga F (Tv c b)) (rO (Hv F c) (Ga F b)):=by
 rintro De σ H ⟨φ,ρ,h,r,q⟩;refine⟨λm σ H=>∃φ ρ h,Rel F φ h H σ ρ/\EQ F φ H De (QU c b m ρ h),⟨K2,φ,ρ,h,r,q⟩,?_⟩;rintro m σ H ⟨φ,ρ,h,r,q⟩;cases m with
 |zero=>cases q
 |succ m=>
  unfold QU at q;refine⟨φ,ρ,h,r,EQ.bd q λk k' C0 h1 H1 Ax Cu e q=>?_⟩;cases e;cases k with
  |false=>exact q σ C0 H1 Ax (Ag.refl _ _)
  |true=>
   refine⟨λσ' AB=>∃φ ρ h,Rel F φ h AB σ' ρ/\EQ F φ AB De (QU c b m ρ h),λσ' AB n=>⟨m,Pf _,n⟩,C0,ρ,h1,Ax,?_⟩;rw[if_pos rfl]at q;cases BE:b ρ h1 with
   |bad=>rw[BE]at q;cases q
   |exc c h'=>rw[BE]at q;exact q
   |ok p=>
    rw[BE]at q;obtain⟨f,BO⟩:=p;cases f with
    |AT PZ=>exact λσ3 KJ C4 G2 Ed=>⟨KJ,PZ,BO,G2,EQ.ex Ed q⟩
    |DS PZ=>exact λσ3 KJ C4 G2 Ed=>⟨KJ,PZ,BO,G2,EQ.ex Ed q⟩
    |Ba PZ=>exact q
    |EX w=>exact q
def Up:↑DM->↑W->Ak
 |[],[]=>Bj
 |g::F_,w::ws=>AO (g w) (Up F_ ws)
 |_,_=>λ_ _=>.bad
def Ei(F_:↑DM):DM:=λw ρ h=>match E5 h w with
 |some (true,ws)=>if ⇑F_=⇑ws then Up F_ ws ρ h else .bad
 |_=>.bad
def Ww(F:D6)(F_:↑DM):PD:=λvs σ H Q=>∃φ ρ h ws,Rel F φ h H σ ρ/\Ai F.K φ H ws vs/\EQ F φ H ⟨Q,λ_ _=>False,λ_ _=>False,λ_ _=>False⟩ (Up F_ ws ρ h)
def lK:∀vs σ H Q,Ww F [] vs σ H Q->kM vs σ H Q:=by
 rintro vs σ H Q ⟨φ,ρ,h,ws,r,as,q⟩;cases ws with
 |nil=>erw[Ai]at as;exact⟨as,q σ φ H r (Ag.refl _ _)⟩
 |cons _ _=>cases q
def fZ{g:DM}{F_:↑DM}:∀vs σ H Q,Ww F (g::F_) vs σ H Q->kL (MN F g) (Ww F F_) vs σ H Q:=by
 rintro vs σ H Q ⟨φ,ρ,h,ws,r,as,q⟩;cases ws with
 |nil=>cases q
 |cons w ws=>
  erw[Ai]at as;obtain⟨v,sy,rfl,a1,a2⟩:=as;refine⟨v,sy,rfl,φ,ρ,h,w,r,a1,?_⟩;unfold Up AO at q;cases e:g w ρ h with
  |bad=>rw[e]at q;cases q
  |exc c h'=>rw[e]at q;exact q
  |ok p=>
   rw[e]at q;obtain⟨f,h1⟩:=p;cases f with
   |AT Ee=>exact λσ' BL AB Bd x=>⟨BL,Ee,h1,ws,Bd,a2.ex x,EQ.ex x q⟩
   |_=>exact q
def lL(A_:F.K=X.K){F_:↑DM}{n:Nat}(AM:⇑F_=n):Zd (MN F (Ei F_)) (kO X.K n (Ww F F_)):=by
 rintro v σ H Q ⟨φ,ρ,h,w,r,a,q⟩;unfold Ei at q
 split at q
 .rename_i ws e;obtain⟨p,xs,rfl,AQ,BN⟩:=JG r.hd a e;rw[A_]at AQ
  split at q
  .rename_i AF;exact⟨p,xs,rfl,AQ,by rw[<- ⇑BN,<-AF];exact AM,φ,ρ,h,ws,r,BN,q⟩
  .exact q.elim
 .exact q.elim
def GC(w:W):HF:=λi h=>match E5 h w with
 |some (_,ws)=>↥ws[i]?
 |none=>none
def adK(A_:F.K=X.K){w:W}{v:V}{p:A7}(a:AX F.K φ H w v)(e:v=.ref p)(AQ:∀CP h2 AU,DL F.K CP h2 AU->Ag φ H CP AU->∀t ws,E5 h2 w=↥(t,ws)->t=false):Ix F.K φ H (GC w) (d8 X.K p):=λi CP h2 AU d x=>by
 unfold GC;cases es:E5 h2 w with
 |none=>exact⟨λz=>(nomatch z),λw z=>(nomatch z)⟩
 |some PV=>
  obtain⟨t,ws⟩:=PV;have Bc:=AQ CP h2 AU d x t ws es;subst Bc;obtain⟨F3,xs,Bb,AW,BN⟩:=JG d (a.ex x) es;rw[e]at Bb;cases Bb;have AW:Es F.K AU p xs:=AW;rw[A_]at AW;refine⟨λz=>⟨xs,AW,?_⟩,λC_ z=>?_⟩
  .have:ws[i]?=none:=Gc z;rw[<- ⇑BN];exact List.getElem?_eq_none_iff.mp this
  .have:ws[i]?=↥C_:=Gc z;obtain⟨v,ev,EH⟩:=BN.get this;exact⟨⟨xs,v,AW,ev⟩,λy AB AP=>by obtain⟨rfl,AP⟩:=AP;have:=AP xs AW;rw[ev]at this;cases this;exact⟨d,Ag.refl _ _,EH⟩⟩
def ea(A_:F.K=X.K){w:W}{v:V}{p:A7}(a:AX F.K φ H w v)(e:v=.ref p)(AQ:∀h2 t ws,E5 h2 w=↥(t,ws)->t=true):Ix F.K φ H (GC w) (dB X.K p):=λi CP h2 AU d x=>by
 unfold GC;cases es:E5 h2 w with
 |none=>exact⟨λz=>(nomatch z),λw z=>(nomatch z)⟩
 |some PV=>
  obtain⟨t,ws⟩:=PV;have Bc:=AQ h2 t ws es;subst Bc;obtain⟨F3,xs,Bb,AW,BN⟩:=JG d (a.ex x) es;rw[e]at Bb;cases Bb;have AW:Et F.K AU p xs:=AW;rw[A_]at AW;refine⟨λz=>⟨xs,AW,?_⟩,λC_ z=>?_⟩
  .have:ws[i]?=none:=Gc z;rw[<- ⇑BN];exact List.getElem?_eq_none_iff.mp this
  .have:ws[i]?=↥C_:=Gc z;obtain⟨v,ev,EH⟩:=BN.get this;exact⟨⟨xs,v,AW,ev⟩,λy AB AP=>by obtain⟨rfl,AP⟩:=AP;have:=AP xs AW;rw[ev]at this;cases this;exact⟨d,Ag.refl _ _,EH⟩⟩
noncomputable def W6:W->Bool
 |.ref _=>true
 |.Dm _=>true
 |_=>false
def YO{w:W}{t:Bool}{ws:↑W}(e:E5 h w=↥(t,ws)):(t=false↔W6 w=true):=by
 unfold E5 at e
 split at e
 .cases e;simp[W6]
 .cases e;simp[W6]
 .cases e;simp[W6]
 .split at e<;>first|(cases e;simp[W6];done)|(cases e;done)
 .cases e
noncomputable def LS(lo:Int)(n:Nat):HF:=λi _=>↥(if i<n then↥(.int (lo+i))else none)
def oX(lo:Int)(n:Nat):Ix K φ H (LS lo n) (Vb lo n):=λi CP h2 AU d x=>by
 unfold LS;by_cases hi:i<n
 .rw[if_pos hi];exact⟨λz=>(nomatch z),λw z=>by cases z;exact⟨hi,λy AB AP=>by obtain⟨rfl,rfl⟩:=AP;exact⟨d,Ag.refl _ _,by erw[AX]⟩⟩⟩
 .rw[if_neg hi];exact⟨λ_=>(show n<=i by lia),λw z=>(nomatch z)⟩
noncomputable def QC(nl:Nat)(caps:↑Nat)(ρ:BC):BC:=Gd nl none++caps.map λj=>ρ.getD j none
noncomputable def Ky(it:HF)(g:DM)(HR:DX)(elt:BB)(n:Nat):Nat->Nat->BC->A6->R A6
 |0,_,_,_=>.bad
 |f+1,i,ρ,h=>match it i h with
  |some none=>.ok h
  |some ↥w=>(g w ρ h).bind λp=>match p with
   |(.AT CS,h1)=>(HR CS h1).bind λp=>if p.1=true then(elt CS p.2).bind λp=>match p.2[n]? with
      |some ⟨.lst,ws⟩=>if ⇑ws<Ay then Ky it g HR elt n f (i+1) CS (p.2.set n ⟨.lst,ws++[p.1]⟩)else .bad
      |_=>.bad
    else Ky it g HR elt n f (i+1) CS p.2
   |_=>.bad
  |none=>.bad
def DZ(nl:Nat)(caps:↑Nat)(mi:GT)(g:DM)(HR:DX)(elt:BB):BB:=bd mi λit ρ h=>match Ky it g HR elt ⇑h K2 0 (QC nl caps ρ) (h++[⟨.lst,[]⟩])with
 |.ok h'=>.ok (.ref ⇑h,h')
 |_=>.bad
noncomputable def Il(K:At)(φ:↑A7)(H:AE):D6:=⟨K,φ,H,λ_ _=>False⟩
abbrev D6.AT(F:D6):D6:=Il F.K F.DQ F.C3
theorem Rel.AT(r:Rel F φ h H σ ρ):Rel F.AT φ h H σ ρ:=⟨r.hd,r.x0,r.len,r.Bm⟩
def Rel.uy(r:Rel F φ h H σ ρ)(nl:Nat)(caps:↑Nat):Rel F.AT φ h H (O5 nl caps σ) (QC nl caps ρ):=by
 refine⟨r.hd,r.x0,by simp[O5,QC],λi w e=>?_⟩;unfold QC at e;unfold O5;by_cases hi:i<nl
 .rw[GR (hi:),Yh,if_pos hi]at e;cases e
 .rw[NJ (hi:),V0,E7]at e;rw[NJ (hi:),V0,E7];cases I7:caps[i-nl]? with
  |none=>rw[I7]at e;cases e
  |some j=>
   rw[I7]at e;have es:ρ.getD j none=↥w:=Gc e;rw[Ef]at es;cases B5:ρ[j]? with
   |none=>rw[B5]at es;cases es
   |some t=>rw[B5]at es;have:t=↥w:=es;subst this;obtain⟨v,AD,q⟩:=r.Bm j w B5;exact⟨v,by show↥(σ.getD j none)=_;rw[Ef,AD];rfl,q⟩
def kR{nl:Nat}{caps:↑Nat}{it:HF}{BH:It}{g:DM}{HR:DX}{elt:BB}{Q:CQ}{C0:↑A7}{CS:BC}{h1:A6}{H1:AE}(Ax:Rel F C0 h1 H1 σ CS)(io:Ix F.K C0 H1 it BH)(q:D8 AX F C0 H1 σ CS Q (DZ nl caps (pu it) g HR elt CS h1)):Wv (λ_ H R=>R BH H) (λx σ H Q=>∃DQ C3,MN (Il F.K DQ C3) g x σ H Q) (λσ H Q=>∃DQ C3,Hv (Il F.K DQ C3) HR σ H Q) (λσ H Q=>∃DQ C3,CB (Il F.K DQ C3) elt σ H Q) nl caps σ H1 Q:=by
 intro acc AG;unfold DZ bd pu at q;erw[R.bind]at q
 split at q
 .rename_i h' B5;have x0:Ag C0 H1 (C0++[acc]) (upd H1 acc (.lst [])):=Ag.Px AG
  refine⟨λi m σ2 AU=>∃φ ρ h,Rel F.AT φ h AU σ2 ρ/\Ag (C0++[acc]) (upd H1 acc (.lst [])) φ AU/\Ky it g HR elt ⇑h1 m i ρ h=.ok h',
   ⟨K2,C0++[acc],_,_,(Ax.to (Ax.hd.new AG (ho:=.lst []) (k:=.lst) EA .nil) x0).uy nl caps,Ag.refl _ _,B5⟩,?_⟩
  rintro i m σ2 AU ⟨φ,ρ,h,r,x,B5⟩;have vp:φ[⇑h1]?=↥acc:=Cx x.p (WI Ax.hd);cases m with
  |zero=>cases B5
  |succ m=>
   unfold Ky at B5;obtain⟨Cb,FO⟩:=io i φ h AU r.hd (x0.trans x)
   split at B5
   .rename_i e;cases B5;exact .inl ⟨Cb e,q _ φ AU ⟨r.hd,Ax.x0.trans (x0.trans x),Ax.len,λj w e=>let⟨v,AD,a⟩:=Ax.Bm j w e;⟨v,AD,a.ex (x0.trans x)⟩⟩ (x0.trans x) (.Ge vp)⟩
   .rename_i w e;obtain⟨go,gx⟩:=FO w e;refine .inr ⟨go,λy AB AP=>?_⟩;obtain⟨d',Fd,ci⟩:=gx y AB AP;refine⟨F.DQ,F.C3,φ,ρ,h,w,r.to d' Fd,ci,?_⟩;cases eg:g w ρ h with
    |bad=>rw[eg]at B5;cases B5
    |exc c h'=>rw[eg]at B5;cases B5
    |ok p=>
     rw[eg]at B5;obtain⟨f,h2⟩:=p;cases f with
     |AT Ds=>
      intro σ3 KJ C4 G2 Ed;refine⟨F.DQ,F.C3,KJ,Ds,h2,G2,?_⟩;have t9:=x.trans (Fd.trans Ed);have B5:((HR Ds h2).bind λp=>if p.1=true then(elt Ds p.2).bind λp=>match p.2[⇑h1]? with
        |some ⟨.lst,ws⟩=>if ⇑ws<Ay then Ky it g HR elt ⇑h1 m (i+1) Ds (p.2.set ⇑h1 ⟨.lst,ws++[p.1]⟩)else .bad
        |_=>.bad
       else Ky it g HR elt ⇑h1 m (i+1) Ds p.2)=.ok h':=B5
      cases IP:HR Ds h2 with
      |bad=>rw[IP]at B5;cases B5
      |exc c h'=>rw[IP]at B5;cases B5
      |ok p=>
       rw[IP]at B5;obtain⟨b,D5⟩:=p;intro Hm YH Dd Nx Rn BE;cases BE;have B5:(if b=true then(elt Ds D5).bind λp=>match p.2[⇑h1]? with
         |some ⟨.lst,ws⟩=>if ⇑ws<Ay then Ky it g HR elt ⇑h1 m (i+1) Ds (p.2.set ⇑h1 ⟨.lst,ws++[p.1]⟩)else .bad
         |_=>.bad
        else Ky it g HR elt ⇑h1 m (i+1) Ds D5)=.ok h':=B5
       cases b with
       |false=>exact⟨m,Pf _,YH,Ds,D5,Nx,t9.trans Rn,B5⟩
       |true=>
        rw[if_pos rfl]at B5;refine⟨F.DQ,F.C3,YH,Ds,D5,Nx,?_⟩;cases Ik:elt Ds D5 with
        |bad=>rw[Ik]at B5;cases B5
        |exc c h'=>rw[Ik]at B5;cases B5
        |ok p=>
         rw[Ik]at B5;obtain⟨Y5,FN⟩:=p;intro gv YI EN SC ahf O3;have B5:(match FN[⇑h1]? with
          |some ⟨.lst,ws⟩=>if ⇑ws<Ay then Ky it g HR elt ⇑h1 m (i+1) Ds (FN.set ⇑h1 ⟨.lst,ws++[Y5]⟩)else .bad
          |_=>.bad)=.ok h':=B5
         split at B5
         .rename_i ws Au
          split at B5
          .rename_i AF;have tA:=t9.trans (Rn.trans ahf);have Oe:YI[⇑h1]?=↥acc:=Cx tA.p (WI Ax.hd);obtain⟨ys,AP,BN⟩:=SC.hd.BD _ _ _ Au Oe;have AP:EN acc=↥(.lst ys):=AP;have Ro:Ag YI EN YI (upd EN acc (.lst (ys++[gv]))):=Ag.put AP λz=>z;rw[⇑BN]at AF;exact⟨ys,AP,GG AF ε,m,Pf _,YI,Ds,_,SC.to (SC.hd.put Au Oe AP (λz=>z) (o':=⟨.lst,ws++[Y5]⟩) EA (BN.append (.cons O3 .nil))) Ro,tA.trans Ro,B5⟩
          .cases B5
         .cases B5
     |_=>cases B5
   .cases B5
 .exact q.elim
def lI{nl:Nat}{caps:↑Nat}{mi:GT}{g:DM}{HR:DX}{elt:BB}:Fk (CB F (DZ nl caps mi g HR elt)) (Wv (hK F mi) (λx σ H Q=>∃DQ C3,MN (Il F.K DQ C3) g x σ H Q) (λσ H Q=>∃DQ C3,Hv (Il F.K DQ C3) HR σ H Q) (λσ H Q=>∃DQ C3,CB (Il F.K DQ C3) elt σ H Q) nl caps):=λσ H Q q=>
 q.bd λit BH C0 CS h1 H1 Ax io q=>kR Ax io q
end
mutual
noncomputable def DP:W->Bool
 |.ref _=>false
 |.tup ws=>G1 ws
 |.IS ws=>G1 ws
 |.Dm ws=>G1 ws
 |_=>true
noncomputable def G1:↑W->Bool
 |[]=>true
 |w::ws=>DP w&&G1 ws
end
mutual
noncomputable def JU:W->W->Bool
 |.non,.non=>true
 |.AN a,.AN b=>a==b
 |.int a,.int b=>a==b
 |.str a,.str b=>a==b
 |.tup a,.tup b=>Kw a b
 |.IS a,.IS b=>Kw a b
 |.Dm a,.Dm b=>Kw a b
 |.ref a,.ref b=>a==b
 |.Oh a,.Oh b=>a==b
 |_,_=>false
noncomputable def Kw:↑W->↑W->Bool
 |[],[]=>true
 |x::xs,y::ys=>JU x y&&Kw xs ys
 |_,_=>false
end
mutual
theorem uq:∀{a b:W},JU a b=true->a=b
 |.non,b,h=>by cases b<;>simp_all[JU]
 |.AN _,b,h=>by cases b<;>simp_all[JU]
 |.int _,b,h=>by cases b<;>simp_all[JU]
 |.str _,b,h=>by cases b<;>simp_all[JU]
 |.tup _,b,h=>by cases b<;>erw[JU]at h<;>first|(cases h;done)|rw[Vo h]
 |.IS _,b,h=>by cases b<;>erw[JU]at h<;>first|(cases h;done)|rw[Vo h]
 |.Dm _,b,h=>by cases b<;>erw[JU]at h<;>first|(cases h;done)|rw[Vo h]
 |.ref _,b,h=>by cases b<;>simp_all[JU]
 |.Oh _,b,h=>by cases b<;>simp_all[JU]
theorem Vo:∀{a b:↑W},Kw a b=true->a=b
 |[],b,h=>by cases b<;>simp_all[Kw]
 |x::xs,b,h=>by
  cases b with
  |nil=>simp[Kw]at h
  |cons y ys=>erw[Kw,Hz]at h;rw[uq h.1,Vo h.2]
end
mutual
theorem ur:∀(a:W),JU a a=true
 |.non|.AN _|.int _|.str _|.ref _|.Oh _=>by simp[JU]
 |.tup a=>by erw[JU];exact RI a
 |.IS a=>by erw[JU];exact RI a
 |.Dm a=>by erw[JU];exact RI a
theorem RI:∀(a:↑W),Kw a a=true
 |[]=>by simp[Kw]
 |x::xs=>by erw[Kw];rw[ur x,RI xs];rfl
end
def GO:A6->A6->Bool
 |[],_=>true
 |o::h,o'::h'=>decide (o.k=o'.k)&&Kw o.ws o'.ws&&GO h h'
 |_,_=>false
theorem fv:∀{h h':A6},GO h h'=true->h<+: h'
 |[],_,_=>List.nil_prefix
 |o::h,[],e=>by simp[GO]at e
 |⟨k,ws⟩::h,⟨k',ws'⟩::h',e=>by erw[GO,Hz,decide_eq_true_eq]at e;rw[e.1.1,Vo e.1.2];exact List.cons_prefix_cons.mpr ⟨rfl,fv e.2⟩
theorem UK:∀(h g:A6),GO h (h++g)=true
 |[],_=>by simp[GO]
 |o::h,g=>by erw[HT,GO];rw[RI,UK h g];simp
def ae_(h:A6):GO h h=true:=(UK h []:)
def settle(h:A6)(w:W)(h1:A6):R (W×A6):=
 if GO h h1=true then
  if DP w=true then .ok (w,h)else match w with
   |.ref n=>if ⇑h<=n then match h1[n]? with
       |some ⟨.lst,ws⟩=>if G1 ws=true then .ok (.ref ⇑h,h++[⟨.lst,ws⟩])else .ok (w,h1)
       |_=>.ok (w,h1)
    else .ok (w,h)
   |_=>.ok (w,h1)
 else .ok (w,h1)
section
variable{K:At}{φ C0:↑A7}{h h1:A6}{H H1:AE}
mutual
theorem AX.DP{BL:↑A7}:∀{w:W}{v:V},Bq.DP w=true->AX K φ H w v->AX K BL H w v
 |.non,_,_,a|.AN _,_,_,a|.int _,_,_,a|.str _,_,_,a|.Oh _,_,_,a=>by simpa only[AX]using a
 |.tup _,_,n,a=>by erw[AX,Bq.DP]at a n |-;obtain⟨p,xs,e,q,r⟩:=a;exact⟨p,xs,e,q,Ai.DP n r⟩
 |.IS _,_,n,a=>by erw[AX,Bq.DP]at a n |-;obtain⟨p,xs,e,q,r⟩:=a;exact⟨p,xs,e,q,Ai.DP n r⟩
 |.Dm _,_,n,a=>by erw[AX,Bq.DP]at a n |-;obtain⟨p,xs,e,q,r⟩:=a;exact⟨p,xs,e,q,Ai.DP n r⟩
 |.ref _,_,n,_=>by simp[Bq.DP]at n
theorem Ai.DP{BL:↑A7}:∀{ws:↑W}{vs:↑V},G1 ws=true->Ai K φ H ws vs->Ai K BL H ws vs
 |[],_,_,a=>by simpa only[Ai]using a
 |_::_,_,n,a=>by erw[Ai,G1,Hz]at a n |-;obtain⟨v,r,e,q,t⟩:=a;exact⟨v,r,e,AX.DP n.1 q,Ai.DP n.2 t⟩
end
mutual
theorem AX.back(p:φ<+: C0):∀{w:W}{v v0:V},AX K φ H w v0->AX K C0 H1 w v->AX K φ H1 w v
 |.non,_,_,_,a|.AN _,_,_,_,a|.int _,_,_,_,a|.str _,_,_,_,a|.Oh _,_,_,_,a=>by simpa only[AX]using a
 |.tup _,_,_,b,a=>by erw[AX]at a b |-;obtain⟨q,xs,e,t,r⟩:=a;obtain⟨Cm,Uu,Bb,t',Bd⟩:=b;exact⟨q,xs,e,t,Ai.back p Bd r⟩
 |.IS _,_,_,b,a=>by erw[AX]at a b |-;obtain⟨q,xs,e,t,r⟩:=a;obtain⟨Cm,Uu,Bb,t',Bd⟩:=b;exact⟨q,xs,e,t,Ai.back p Bd r⟩
 |.Dm _,_,_,b,a=>by erw[AX]at a b |-;obtain⟨q,xs,e,t,r⟩:=a;obtain⟨Cm,Uu,Bb,t',Bd⟩:=b;exact⟨q,xs,e,t,Ai.back p Bd r⟩
 |.ref _,_,_,b,a=>by erw[AX]at a b |-;obtain⟨q,e,t⟩:=a;obtain⟨Cm,Bb,t'⟩:=b;have:=Cx p t';rw[t]at this;cases this;exact⟨q,e,t'⟩
theorem Ai.back(p:φ<+: C0):∀{ws:↑W}{vs v0:↑V},Ai K φ H ws v0->Ai K C0 H1 ws vs->Ai K φ H1 ws vs
 |[],_,_,_,a=>by simpa only[Ai]using a
 |_::_,_,_,b,a=>by erw[Ai]at a b |-;obtain⟨v,r,e,q,t⟩:=a;obtain⟨JJ,Bd,Bb,Cm,t'⟩:=b;exact⟨v,r,e,AX.back p Cm q,Ai.back p t' t⟩
end
def DL.cut(d:DL K φ h H)(d1:DL K C0 h1 H1)(p:φ<+: C0)(fq:h<+: h1):DL K φ h H1:=⟨d.Bz,d.len,λn o a AD AH=>by obtain⟨xs,q,r⟩:=d1.BD n o a (Cx fq AD) (Cx p AH);obtain⟨ys,_,Bd⟩:=d.BD n o a AD AH;exact⟨xs,q,Ai.back p Bd r⟩⟩
def fo{w C_:W}{v:V}{h':A6}(d:DL K φ h H)(x:Ag φ H C0 H1)(d1:DL K C0 h1 H1)(a:AX K C0 H1 w v)(e:settle h w h1=.ok (C_,h')):∃BL,Ag φ H BL H1/\DL K BL h' H1/\AX K BL H1 C_ v:=by
 have same:(C_,h')=(w,h1)->∃BL,Ag φ H BL H1/\DL K BL h' H1/\AX K BL H1 C_ v:=λz=>by cases z;exact⟨C0,x,d1,a⟩
 have x0:Ag φ H φ H1:=⟨V6,x.t⟩;unfold settle at e
 split at e
 .rename_i AV;have fq:=fv AV;have Ii:=d.cut d1 x.p fq
  split at e
  .rename_i AM;cases e;exact⟨φ,x0,Ii,AX.DP AM a⟩
  .split at e
   .rename_i n _
    split at e
    .rename_i AF
     split at e
     .rename_i ws Au
      split at e
      .rename_i hw;cases e;obtain⟨b,xs,rfl,BE,q,r⟩:=d1.at Au a;have nb:b∉φ:=λm=>by
        obtain⟨j,I7⟩:=i0 m;have AD:=Cx x.p I7;obtain⟨Cb,J8⟩:=List.getElem?_eq_some_iff.mp AD;obtain⟨FO,JY⟩:=List.getElem?_eq_some_iff.mp BE;have:j=n:=(ZD d1.Bz).mp (J8.trans JY.symm);have:j< ⇑φ:=(List.getElem?_eq_some_iff.mp I7).1;rw[d.len]at this;lia
       refine⟨φ++[b],⟨Ez _ _,x.t⟩,⟨?_,by simp[d.len],λm o c AD AH=>?_⟩,.Ge (by rw[<-d.len];simp)⟩
       .rw[hk];exact⟨d.Bz,γ,λc AI Dq Jq z=>nb (by rw[<-List.mem_singleton.mp Jq,<-z];exact AI)⟩
       .by_cases hm:m< ⇑h
        .rw[GR hm]at AD;rw[GR (by rw[d.len];exact hm)]at AH;obtain⟨ys,Cm,Bd⟩:=Ii.BD m o c AD AH;exact⟨ys,Cm,Ai.ex (⟨Ez _ _,λ_ _ e _=>e⟩:Ag φ H1 (φ++[b]) H1) Bd⟩
        .have UO:m=⇑h:=by
           have:=(List.getElem?_eq_some_iff.mp AD).1;simp at this;lia
         subst UO;simp at AD;rw[<-d.len]at AH;simp at AH;subst AD AH;exact⟨xs,q,Ai.DP hw r⟩
      .cases e;exact same rfl
     .cases e;exact same rfl
    .rename_i AF;cases e;have AM:n< ⇑φ:=by rw[d.len];lia
     erw[AX]at a |-;obtain⟨b,rfl,BE⟩:=a;obtain⟨c,ec⟩:∃c,φ[n]?=↥c:=⟨_,CT AM⟩;have:=Cx x.p ec;rw[BE]at this;cases this;exact⟨φ,x0,Ii,b,rfl,ec⟩
   .cases e;exact same rfl
 .cases e;exact same rfl
end
section
variable{F:D6}
def BJ(m:BB):BB:=λρ h=>(m ρ h).bind λp=>settle h p.1 p.2
def fm(h:A6)(w:W)(h1:A6):∃C_ h',settle h w h1=.ok (C_,h'):=by
 unfold settle
 repeat' split
 all_goals exact⟨_,_,rfl⟩
def abA{m:BB}:Fk (CB F (BJ m)) (CB F m):=by
 rintro σ H Q ⟨φ,ρ,h,r,q⟩;refine⟨φ,ρ,h,r,?_⟩;unfold BJ at q;cases e:m ρ h with
 |bad=>rw[e]at q;cases q
 |exc c h'=>rw[e]at q;exact q
 |ok p=>rw[e]at q;obtain⟨w,h1⟩:=p;intro v C0 H1 Ax x a;obtain⟨C_,h',es⟩:=fm h w h1;have q:D8 AX F φ H σ ρ Q (settle h w h1):=q;rw[es]at q;obtain⟨BL,Fd,d',GL⟩:=fo r.hd x Ax.hd a es;exact q v BL H1 (r.to d' Fd) Fd GL
def HX(m:DX):DX:=λρ h=>(m ρ h).bind λp=>.ok (p.1,if GO h p.2=true then h else p.2)
def abB{m:DX}:RT (Hv F (HX m)) (Hv F m):=by
 rintro σ H Q ⟨φ,ρ,h,r,q⟩;refine⟨φ,ρ,h,r,?_⟩;unfold HX at q;cases e:m ρ h with
 |bad=>rw[e]at q;cases q
 |exc c h'=>rw[e]at q;exact q
 |ok p=>
  rw[e]at q;obtain⟨b,h1⟩:=p;intro Hm C0 H1 Ax x a;cases a;have q:D8 ox F φ H σ ρ Q (.ok (b,if GO h h1=true then h else h1)):=q
  split at q
  .rename_i AV;have Fd:Ag φ H φ H1:=⟨V6,x.t⟩;exact q b φ H1 (r.to (r.hd.cut Ax.hd x.p (fv AV)) Fd) Fd rfl
  .exact q b C0 H1 Ax x rfl
def QV(K:At):FE->Str->AE->Prop:=λE c H=>∃C,Ir K c C/\∀a,H a=none->E (.ref C) ↥a H
noncomputable def TL(K:At)(φ:↑A7)(H:AE)(E:FE):D6:=⟨K,φ,H,QV K E⟩
abbrev Bs:=↑W->A6->R (W×A6)
def J9(K:At)(φ:↑A7)(H:AE)(Q:CQ)(N7:Str->AE->Prop):R (W×A6)->Prop
 |.ok (w,h')=>∀v BL AB,DL K BL h' AB->Ag φ H BL AB->AX K BL AB w v->Q v AB
 |.exc c h'=>∀BL AB,Ag φ H BL AB->DL K BL h' AB->N7 c AB
 |.bad=>False
noncomputable def MK(K:At)(n:Nat)(mf:Bs):Co:=λvs H Q E=>∃φ h ws,DL K φ h H/\Ai K φ H ws vs/\ ⇑ws=n/\J9 K φ H Q (QV K E) (mf ws h)
def ahP{K:At}{n:Nat}{mf:Bs}:∀vs H Q E,MK K n mf vs H Q E->⇑vs=n:=λvs H Q E q=>by obtain⟨φ,h,ws,_,a,l,_⟩:=q;rw[<- ⇑a];exact l
noncomputable def Nh(N:Nat)(ws:↑W):BC:=ws.map some++Gd (N- ⇑ws) none
noncomputable def outF:FU×A6->R (W×A6)
 |(.AT _,h)=>.ok (.non,h)
 |(.EX w,h)=>.ok (w,h)
 |_=>.bad
def FH(N:Nat)(m:Ak):Bs:=λws h=>(m (Nh N ws) h).bind outF
def DO(N:Nat)(m:Ak):Bs:=λws h=>(FH N m ws h).bind λp=>settle h p.1 p.2
def sA{K:At}{N n:Nat}{m:Ak}:∀vs H Q E,MK K n (DO N m) vs H Q E->MK K n (FH N m) vs H Q E:=λvs H Q E q=>by
 obtain⟨φ,h,ws,d,a,l,k⟩:=q;refine⟨φ,h,ws,d,a,l,?_⟩;unfold DO at k;cases e:FH N m ws h with
 |bad=>rw[e]at k;cases k
 |exc c h'=>rw[e]at k;exact k
 |ok p=>rw[e]at k;obtain⟨w,h1⟩:=p;intro v C0 H1 d1 x a1;obtain⟨C_,h',es⟩:=fm h w h1;have k:J9 K φ H Q (QV K E) (settle h w h1):=k;rw[es]at k;obtain⟨BL,Fd,d',GL⟩:=fo d x d1 a1 es;exact k v BL H1 d' Fd GL
def afy{K:At}{φ:↑A7}{h:A6}{H:AE}{E:FE}{N:↑Str}{ws:↑W}{vs:↑V}(d:DL K φ h H)(a:Ai K φ H ws vs):Rel (TL K φ H E) φ h H (B3.start N vs) (Nh ⇑N ws):=by
 have AF:=⇑a;refine⟨d,Ag.refl _ _,by simp[B3.start,Nh,AF],λi w e=>?_⟩;unfold Nh at e;unfold B3.start;by_cases hi:i< ⇑ws
 .rw[GR (hi:),E7]at e;cases D0:ws[i]? with
  |none=>rw[D0]at e;cases e
  |some C_=>
   rw[D0]at e;have:C_=w:=(e:)
   subst this;obtain⟨v,ev,EH⟩:=a.get D0;exact⟨v,by rw[GR (by simp;lia),E7,ev];rfl,EH⟩
 .rw[NJ (hi:),Yh]at e
  split at e<;>cases e
def v3{K:At}{n:Nat}{N:↑Str}{m:Ak}{vs:↑V}{H:AE}{Q:CQ}{E:FE}(q:MK K n (FH ⇑N m) vs H Q E) :
  ∃φ,Ga (TL K φ H E) m { AT:=λ_ AB=>Q .non AB,EX:=Q } (B3.start N vs) H:=by
 obtain⟨φ,h,ws,d,a,l,k⟩:=q;refine⟨φ,φ,Nh ⇑N ws,h,afy d a,?_⟩;unfold FH at k;cases e:m (Nh ⇑N ws) h with
 |bad=>rw[e]at k;cases k
 |exc c h'=>rw[e]at k;exact k
 |ok p=>
  rw[e]at k;obtain⟨f,h1⟩:=p;cases f with
  |AT ρ=>exact λσ' BL AB r x=>k .non BL AB r.hd x (by erw[AX])
  |EX w=>exact λv BL AB d' x GL=>k v BL AB d' x GL
  |Ba _=>cases k
  |DS _=>cases k
structure Ab(X:Aq)(F:D6)(e:Ah)(m:BB):Prop where
 p:Af X e (CB F m)
structure G4(X:Aq)(F:D6)(e:Ah)(m:DX):Prop where
 p:El X e (Hv F m)
structure Hd(X:Aq)(F:D6)(e:↑Ah)(m:EY):Prop where
 p:HG X e (Gw F m)
structure GK(X:Aq)(F:D6)(s:BG)(m:Ak):Prop where
 p:Df X s (Ga F m)
structure Ku(X:Aq)(F:D6)(s:↑BG)(m:Ak):Prop where
 p:Hc X s (Ga F m)
structure QB(X:Aq)(F:D6)(CE e:Ah)(m:GT):Prop where
 p:Hk X CE e (hK F m)
structure QA(X:Aq)(F:D6)(e:Ah)(m:DM):Prop where
 p:Hb X e (MN F m)
structure DR(K:At)(mg:Str->Option A9)(x:Str)(st:BG)(ps:↑Str):Prop where
 ex:∃(f:A7)(fd:I2),P5 K x x st f fd/\mg x=↥(.ref f)/\Binds K fd ps []
structure DW(P:C9)(w:Bl)(K:At)(mg:Str->Option A9)(base:BF)(x:Str)(n k:Nat)(mf:Bs):Prop where
 ex:∃(f:A7)(fd:I2)(ps:↑Str),⇑ps=n/\Ie P w K mg base (Iq P w) k f fd ps (MK K n mf)/\mg x=↥(.ref f)/\KL K (.ref f)=true/\Binds K fd ps []
abbrev CL(P:C9)(w:Bl)(K:At)(mg:Str->Option A9)(base:BF)(x:Str)(st:BG)(N:↑Str)(k:Nat)(m:Ak):Prop:=∀(f:A7)(Fm:A9)(A:DE)(outer:↑Env)(s:AS)(H:AE)(E:FE),DD k (A.deeper (PyProof.Rows.envOfC x (Bu st) s.heap.objs.size f Fm))->∀φ C3,Ku (Kz (Iq P w) P w K mg base N x (Bu st) f Fm A outer s H E) (TL K φ C3 E) (L0 st) m
def WX{P:C9}{w:Bl}{K:At}{mg:Str->Option A9}{base:BF}{x qual:Str}{st:BG}{N ps:↑Str}{k:Nat}{m:Ak}{f:A7}{fd:I2}(fn:P5 K x qual st f fd)(S:CA N ps (Bu st))(A5:CL P w K mg base qual st N k m) :
  Ie P w K mg base (Iq P w) (k+1) f fd ps (MK K ⇑ps (FH ⇑N m)):=by
 obtain⟨Gn,E9,Cj,doc,pm,an,Fm,DS,Oa,rfl,lk,Ld⟩:=fn.ex;refine kF lk Ld S ahP λA outer s H vs Q E B6 AQ=>?_;obtain⟨φ,Bc⟩:=v3 AQ;exact⟨_,(A5 f Fm A outer s H E B6 φ H).p,Bc⟩
def ND{P:C9}{w:Bl}{K:At}{mg:Str->Option A9}{base:BF}{x:Str}{st:BG}{N ps:↑Str}{k:Nat}{m:Ak}(d:DR K mg x st ps)(S:CA N ps (Bu st))(A5:CL P w K mg base x st N k m) :
  DW P w K mg base x ⇑ps (k+1) (FH ⇑N m):=by
 obtain⟨f,fd,fn,hm,aV⟩:=d.ex;exact⟨f,fd,ps,rfl,WX fn S A5,hm,fn.Bf,aV⟩
def Ey{P:C9}{w:Bl}{K:At}{mg:Str->Option A9}{base:BF}{x:Str}{st:BG}{N ps:↑Str}{k:Nat}{m:Ak}(d:DR K mg x st ps)(S:CA N ps (Bu st))(A5:CL P w K mg base x st N k m) :
  DW P w K mg base x ⇑ps (k+1) (DO ⇑N m):=by
 obtain⟨f,fd,fn,hm,aV⟩:=d.ex;exact⟨f,fd,ps,rfl,(WX fn S A5).imp sA,hm,fn.Bf,aV⟩
def Aj(n:Nat)(mf:Bs)(m:EY):BB:=bd m λws _ h=>if ⇑ws=n then mf ws h else .bad
structure TY(X:Aq)(F:D6):Prop where
 ex:∃E,Passes (Iq X.prog X.w) X E/\∀c H,F.N7 c H->QV X.K E c H
def m_{φ:↑A7}{h:A6}{H:AE}{σ :St}{ρ:BC}{Q:CQ}{K:At}{N7:Str->AE->Prop}(A_:F.K=K)(r:Rel F φ h H σ ρ)(he:∀c H,F.N7 c H->N7 c H):∀{rs:R (W×A6)},D8 AX F φ H σ ρ Q rs->J9 K φ H Q N7 rs
 |.ok (w,h'),q=>λv BL AB d x a=>by subst A_;exact q v BL AB (r.to d x) x a
 |.exc c h',q=>λBL AB x d=>by subst A_;exact he c AB (q BL AB x d)
 |.bad,q=>q
def zu{X:Aq}{n:Nat}{mf:Bs}{m:EY}{E:FE}(A_:F.K=X.K)(he:∀c H,F.N7 c H->QV X.K E c H):Fk (CB F (Aj n mf m)) (sQ (MK X.K n mf) [] E (Gw F m)):=λσ H Q q=>
 q.bd λws vs φ ρ h H1 r as q=>by
   split at q
   .rename_i AM;rw[L2];exact⟨φ,h,ws,A_▸r.hd,A_▸as,AM,m_ A_ r he q⟩
   .exact q.elim
end
structure QQ(K:At)(c:Str)(BA:↑Str):Prop where
 ex:∃C,Ir K c C/\K1 K C/\∀f∈BA,R_ K C f
def Ir.inj{K:At}{c:Str}{C Br:A7}(a:Ir K c C)(b:Ir K c Br):C=Br:=by unfold Ir at a b;rw[a]at b;cases b;rfl
theorem eY(f:Str):∀BA:↑(Str×V),BA.lookup f=Hy BA f
 |[]=>rfl
 |(g,x)::r=>by
  by_cases h:g=f
  .subst h;rw[Xl rfl];simp[ZF]
  .rw[Xk h,<-eY f r];have:(f==g)=false:=by simpa using λz:f=g=>h z.symm
   simp[ZF,this]
noncomputable def Sa(h:A6)(c:Str):W->Option (Nat×↑Str×↑W)
 |.ref n=>match h[n]? with
  |some ⟨.ins Dq ns,ws⟩=>if Dq=c then↥(n,ns,ws)else none
  |_=>none
 |_=>none
noncomputable def TG:↑Str->Str->↑Str
 |[],f=>[f]
 |g::r,f=>if g=f then g::r else g::TG r f
noncomputable def SN:↑Str->↑W->Str->W->↑W
 |g::r,w::ws,f,u=>if g=f then u::ws else w::SN r ws f u
 |_,ws,_,u=>ws++[u]
section
variable{K:At}{φ:↑A7}{h:A6}{H:AE}{F:D6}{σ :St}{ρ:BC}{X:Aq}{m:BB}{ma:EY}
def ei(d:DL K φ h H){w:W}{v:V}{c:Str}{n:Nat}{ns:↑Str}{ws:↑W}(a:AX K φ H w v)(e:Sa h c w=↥(n,ns,ws)):∃p C Bo BA,v=.ref p/\h[n]?=↥⟨.ins c ns,ws⟩/\φ[n]?=↥p/\Ir K c C/\H p=↥(.ins C Bo BA)/\BA.map (·.1)=ns/\Ai K φ H ws (BA.map (·.2)):=by
 unfold Sa at e
 split at e
 .split at e
  .rename_i Au
   split at e
   .rename_i AI;cases e;subst AI;obtain⟨p,xs,rfl,Ao,⟨C,Bo,BA,AI,AV,AD,rfl⟩,BN⟩:=d.at Au a;exact⟨p,C,Bo,BA,rfl,Au,Ao,AI,AV,AD,BN⟩
   .cases e
  .cases e
 .cases e
def B8(c f:Str):W->A6->R (W×A6):=λw h=>match Sa h c w with
 |some (_,ns,ws)=>match Dy ns ws f with
  |some u=>.ok (u,h)
  |none=>.bad
 |none=>.bad
def aa4{c f:Str}{BA:↑Str}(A_:F.K=X.K)(cl:QQ X.K c BA)(hf:f∈BA):Fk (CB F (B0 (B8 c f) m)) (rc X.K (CB F m) f):=λσ H Q q=>
 q.bd λw v φ ρ h H1 r a q=>by
   unfold B8 at q
   split at q
   .rename_i n ns ws e;obtain⟨p,C,Bo,Na,rfl,Au,Ao,AI,AV,rfl,BN⟩:=ei r.hd a e;obtain⟨Br,By,Cz,G7⟩:=cl.ex;rw[A_]at AI;have:=AI.inj By;subst this
    split at q
    .rename_i u FZ;have F5:=Rk f BN;rw[FZ]at F5;cases ev:Hy Na f with
     |none=>rw[ev]at F5;cases F5
     |some x=>rw[ev]at F5;exact⟨p,C,Bo,Na,x,rfl,AV,Cz,G7 f hf,by rw[eY];exact ev,q x φ H1 r (Ag.refl _ _) F5⟩
    .exact q.elim
   .exact q.elim
theorem kH{f:Str}{u:W}{x:V}(b:AX K φ H u x):∀{BA:↑(Str×V)}{ws:↑W},Ai K φ H ws (BA.map (·.2))->(Hu f x BA).map (·.1)=TG (BA.map (·.1)) f/\Ai K φ H (SN (BA.map (·.1)) ws f u) ((Hu f x BA).map (·.2))
 |[],ws,a=>by
  cases ws with
  |nil=>exact⟨rfl,by erw[I1,SN,Hu];exact .cons b .nil⟩
  |cons _ _=>have:=⇑a;simp at this
 |(g,v)::BA,ws,a=>by
  cases ws with
  |nil=>have:=⇑a;simp at this
  |cons w ws=>
   erw[DC,Ai]at a;obtain⟨JJ,r,e,a1,a2⟩:=a;cases e;obtain⟨Cb,FO⟩:=kH b a2;erw[DC,TG,SN,Hu];by_cases Am:g=f
   .rw[if_pos Am,if_pos Am,if_pos Am];exact⟨rfl,.cons b a2⟩
   .rw[if_neg Am,if_neg Am,if_neg Am];exact⟨by rw[DC,Cb],.cons a1 FO⟩
def WW(c f:Str)(o v:W):Ak:=λρ h=>match Sa h c o with
 |some (n,ns,ws)=>if ⇑ns<1000 then .ok (.AT ρ,h.set n ⟨.ins c (TG ns f),SN ns ws f v⟩)else .bad
 |none=>.bad
def FI(c f:Str)(o v:BB):Ak:=bd v λPW=>bd o λP3=>WW c f P3 PW
def zW{c f:Str}{BA:↑Str}{o v:BB}(A_:F.K=X.K)(cl:QQ X.K c BA)(hf:f∈BA):Ko (Ga F (FI c f o v)) (od X.K (CB F o) (CB F v) f):=λDe σ H q=>
 q.bd λPW y φ ρ h H1 r H4 q=>⟨φ,ρ,h,r,EQ.bd q λP3 x C0 h1 AU Ax Cu EZ q=>by
   unfold WW at q
   split at q
   .rename_i n ns ws e;obtain⟨p,C,Bo,Na,rfl,Au,Ao,AI,AV,rfl,BN⟩:=ei Ax.hd EZ e;obtain⟨Br,By,Cz,G7⟩:=cl.ex;have Jq:=AI;rw[A_]at AI;have:=AI.inj By;subst this
    split at q
    .rename_i AF;obtain⟨Cb,FO⟩:=kH (f:=f) (H4.ex Cu) BN;have Ca:Ag C0 AU C0 (upd AU p (.ins C Bo (Hu f y Na))):=Ag.put AV λz=>z;refine⟨p,C,Bo,Na,rfl,AV,Cz,G7 f hf,(AF:),q σ C0 _ (Ax.to (Ax.hd.put Au Ao AV (λz=>z) (o':=⟨.ins c _,_⟩) ⟨C,Bo,_,Jq,EA,Cb,rfl⟩ FO) Ca) Ca⟩
    .exact q.elim
   .exact q.elim⟩
structure InK(K:At)(mg:Str->Option A9)(Dh qual:Str)(st:BG)(ps:↑Str):Prop where
 ex:∃(C f:A7)(fd:I2),Ir K Dh C/\Zi K C f/\P5 K "__init__" qual st f fd/\mg Dh=↥(.ref C)/\Binds K fd ps []
structure Vd(P:C9)(w:Bl)(K:At)(mg:Str->Option A9)(base:BF)(Dh:Str)(n k:Nat)(mf:Bs):Prop where
 ex:∃(C f:A7)(fd:I2)(ps:↑Str),⇑ps=n+1/\Ir K Dh C/\Zi K C f/\Ie P w K mg base (Iq P w) k f fd ps (MK K (n+1) mf)/\mg Dh=↥(.ref C)/\Binds K fd ps []
def gs{P:C9}{w:Bl}{K:At}{mg:Str->Option A9}{base:BF}{qual Dh Jz:Str}{st:BG}{N ps:↑Str}{k:Nat}{m:Ak}(d:InK K mg Dh qual st (Jz::ps))(S:CA N (Jz::ps) (Bu st))(A5:CL P w K mg base qual st N k m) :
  Vd P w K mg base Dh ⇑ps (k+1) (FH ⇑N m):=by
 obtain⟨C,f,fd,h1,h2,BO,D5,FN⟩:=d.ex;exact⟨C,f,fd,Jz::ps,rfl,h1,h2,WX BO S A5,D5,FN⟩
noncomputable def acm(n:Nat):W×A6->R (W×A6)
 |(.non,h)=>.ok (.ref n,h)
 |_=>.bad
def HW(c:Str)(n:Nat)(mf:Bs)(m:EY):BB:=bd m λws _ h=>if ⇑ws=n then(mf (.ref ⇑h::ws) (h++[⟨.ins c [],[]⟩])).bind (acm ⇑h)else .bad
def zb{c:Str}{C:A7}{n:Nat}{mf:Bs}{E:FE}(A_:F.K=X.K)(AI:Ir X.K c C)(he:∀c H,F.N7 c H->QV X.K E c H):Fk (CB F (HW c n mf ma)) (rg C (MK X.K (n+1) mf) [] E (Gw F ma)):=λσ H Q q=>
 q.bd λws vs φ ρ h H1 r as q x Bo AJ hd J7=>by
   split at q
   .rename_i AM;have Cu:Ag φ H1 φ (upd H1 Bo (.own x)):=Ag.lay hd;have d1:=r.hd.lay (o:=.own x) hd;have lA:upd H1 Bo (.own x) x=none:=by rw[DJ (Lq J7)];exact AJ
    have Eh:=d1.new (ho:=.ins C Bo []) (k:=.ins c []) lA ⟨C,Bo,[],A_▸AI,EA,rfl,rfl⟩ .nil;have Ca:Ag φ (upd H1 Bo (.own x)) (φ++[x]) (upd (upd H1 Bo (.own x)) x (.ins C Bo [])):=Ag.Px lA;have Rm:=Cu.trans Ca;have ex:(φ++[x])[⇑h]?=↥x:=WI r.hd;rw[L2];refine⟨φ++[x],_,.ref ⇑h::ws,A_▸Eh,.cons (.Ge ex) (A_▸as.ex Rm),by simp[AM],?_⟩;cases e:mf (.ref ⇑h::ws) (h++[⟨.ins c [],[]⟩])with
    |bad=>rw[e]at q;cases q
    |exc Dq h'=>rw[e]at q;exact λBL AB Fd d'=>he Dq AB (q BL AB (Rm.trans Fd) (A_▸d'))
    |ok p=>
     rw[e]at q;obtain⟨w,h'⟩:=p;cases w<;>try cases q
     intro v BL AB d' Fd GL;erw[AX]at GL;exact⟨GL,q _ BL AB (r.to (A_▸d') (Rm.trans Fd)) (Rm.trans Fd) (.Ge (Cx Fd.p ex))⟩
   .exact q.elim
structure J4(K:At)(Dh x qual:Str)(st:BG)(ps:↑Str):Prop where
 ex:∃(C f:A7)(fd:I2),Ir K Dh C/\K1 K C/\Meth K C x f/\P5 K x qual st f fd/\Binds K fd ps []
structure H_(P:C9)(w:Bl)(K:At)(mg:Str->Option A9)(base:BF)(Dh x:Str)(n k:Nat)(mf:Bs):Prop where
 ex:∃(C f:A7)(fd:I2)(ps:↑Str),⇑ps=n+1/\Ir K Dh C/\K1 K C/\Meth K C x f/\Ie P w K mg base (Iq P w) k f fd ps (MK K (n+1) mf)/\Binds K fd ps []
def KH{P:C9}{w:Bl}{K:At}{mg:Str->Option A9}{base:BF}{x qual Dh Jz:Str}{st:BG}{N ps:↑Str}{k:Nat}{m:Ak}(d:J4 K Dh x qual st (Jz::ps))(S:CA N (Jz::ps) (Bu st))(A5:CL P w K mg base qual st N k m) :
  H_ P w K mg base Dh x ⇑ps (k+1) (FH ⇑N m):=by
 obtain⟨C,f,fd,h1,h2,BO,D5,FN⟩:=d.ex;exact⟨C,f,fd,Jz::ps,rfl,h1,h2,BO,WX D5 S A5,FN⟩
def H_.st{P:C9}{w:Bl}{K:At}{mg:Str->Option A9}{base:BF}{x Dh:Str}{N n k:Nat}{m:Ak}(d:H_ P w K mg base Dh x n k (FH N m)):H_ P w K mg base Dh x n k (DO N m):=by obtain⟨C,f,fd,ps,h0,h1,h2,BO,D5,FN⟩:=d.ex;exact⟨C,f,fd,ps,h0,h1,h2,BO,D5.imp sA,FN⟩
def W5{α:Type}(c x:Str)(w:W)(m:M α):M α:=λρ h=>match Sa h c w with
 |some (_,ns,ws)=>match Dy ns ws x with
  |none=>m ρ h
  |some _=>.bad
 |none=>.bad
def CV(c x:Str)(n:Nat)(mf:Bs)(o:BB)(ma:EY):BB:=bd o λw=>W5 c x w (bd ma λws _ h=>if ⇑ws=n then mf (w::ws) h else .bad)
def fa{c x:Str}{C:A7}{n:Nat}{mf:Bs}{E:FE}{o:BB}(A_:F.K=X.K)(AI:Ir X.K c C)(he:∀c H,F.N7 c H->QV X.K E c H):Fk (CB F (CV c x n mf o ma)) (YZ C x (MK X.K (n+1) mf) [] E (CB F o) (Gw F ma)):=λσ H Q q=>
 q.bd λw v φ ρ h H1 r a q=>by
   unfold W5 at q
   split at q
   .rename_i nn ns ws e;obtain⟨p,Br,Bo,Na,rfl,Au,Ao,Jq,AV,rfl,BN⟩:=ei r.hd a e;rw[A_]at Jq;have:=AI.inj Jq;subst this
    split at q
    .rename_i FZ;have F5:=Rk x BN;rw[FZ]at F5;cases ev:Hy Na x with
     |some _=>rw[ev]at F5;cases F5
     |none=>
      refine⟨p,Bo,Na,rfl,AV,by rw[eY];exact ev,φ,ρ,h,r,q.bd λus vs CP h2 AU BK Ca as q=>?_⟩
      split at q
      .rename_i AM;rw[L2];exact⟨CP,h2,w::us,A_▸BK.hd,.cons (A_▸a.ex Ca) (A_▸as),by simp[AM],m_ A_ BK he q⟩
      .exact q.elim
    .exact q.elim
   .exact q.elim
structure TV(K:At)(mg:Str->Option A9)(c:Str):Prop where
 ex:∃C,Ir K c C/\mg c=↥(.ref C)/\VI K C [.type "ValueError",.type "Exception",.type "BaseException",.type "object"] "ValueError.__new__"=true
def Np(c:Str):Ak:=λ_ h=>.exc c h
end
section
variable{P:C9}{w:Bl}{K:At}{mg:Str->Option A9}{base:BF}{N:↑Str}{qual:Str}{scope:FS}{f:A7}{cd:A9}{A:DE}{outer:↑Env}{s0:AS}{P6:AE}{E:FE}{φ:↑A7}{C3:AE}
def Y7{x:Str}{np Cg pos T7:Pos}{m:Str}{j:Nat}(k:TV K mg x)(Am:Ek (Kz (Iq P w) P w K mg base N qual scope f cd A outer s0 P6 E) x:=by rfl)(hd:(x==("__debug__" :Str))=false:=by decide) :
  GK (Kz (Iq P w) P w K mg base N qual scope f cd A outer s0 P6 E) (TL K φ C3 E) (.Raise ↥(.Call (.Name x np) [.Constant (.str m) j T7] [] Cg) none pos) (Np x):=by
 obtain⟨C,h1,h2,BO⟩:=k.ex;refine⟨λA4 s σ H D J q=>ag8 (X:=Kz (Iq P w) P w K mg base N qual scope f cd A outer s0 P6 E) PySem.F.excBase_ValueError BO h2 rfl Am hd A4 s σ H D J ?_⟩;obtain⟨BL,ρ,h,r,q⟩:=q;obtain⟨Br,By,Cz⟩:=(show ey (TL K φ C3 E) BL H x h from q) BL H (Ag.refl _ _) r.hd;have:=h1.inj By;subst this;exact ajG Cz
def bE:TY (Kz (Iq P w) P w K mg base N qual scope f cd A outer s0 P6 E) (TL K φ C3 E):=⟨E,adb,λ_ _ q=>q⟩
end
def bD{X:Aq}{K:At}{φ:↑A7}{H:AE}:TY X (Il K φ H):=⟨λ_ _ _=>False,λ_ _ _ _ _ _ _ z=>by obtain⟨_,_,_,_,_,_,_,z⟩:=z;exact z.elim,λ_ _ q=>q.elim⟩
noncomputable def notStar:Ah->Bool
 |.Starred .. =>false
 |_=>true
def sH(e:Ah)(es:↑Ah)(env:Env)(h:notStar e=true):C8 (e::es) env=(false,BM e env)::C8 es env:=by cases e<;>first|rfl|(cases h)
noncomputable def Tp:Ah->Bool
 |.ListComp .. =>false
 |.SetComp .. =>false
 |.DictComp .. =>false
 |_=>true
def YT(e:Ah)(t:Option Ah)(l:Nat)(env:Env)(h:Tp e=true):OJ e t l env=pure false:=by cases e<;>first|rfl|(cases h)
def ae9:Ah->Bool
 |.Slice .. =>false
 |_=>true
def g0{b:Ah}(h:ae9 b=true:=by rfl):dN b:=λo i=>by cases b<;>first|rfl|(cases h)
section
variable{X:Aq}{F:D6}{e a b c o:Ah}{es:↑Ah}{pos p D2 apos:Pos}{m n l:BB}{ma:EY}{st:BG}{Qs:↑BG}{CE iter:Ah}{mg:DM}
def Af.imp{t t':TE}(h:Af X e t)(i:Fk t' t):Af X e t':=λA4 s σ H Q J hw=>h A4 s σ H Q J (i σ H Q hw)
def El.imp{t t':TT}(h:El X e t)(i:RT t' t):El X e t':=λA4 s σ H Q J hw=>h A4 s σ H Q J (i σ H Q hw)
def K4.imp{t t':TT}(h:K4 X e t)(i:RT t' t):K4 X e t':=λPX A4 s σ H Q J hw=>h PX A4 s σ H Q J (i σ H Q hw)
def HG.imp{t t':Fu}(h:HG X es t)(i:cP t' t):HG X es t':=λp A4 s σ H Q J hw=>h p A4 s σ H Q J (i σ H Q hw)
def Df.imp{t t':FL}(h:Df X st t)(i:Ko t' t):Df X st t':=λA4 s σ H De J hw=>h A4 s σ H De J (i De σ H hw)
def Hc.imp{t t':FL}(h:Hc X Qs t)(i:Ko t' t):Hc X Qs t':=λA4 s σ H De J hw=>h A4 s σ H De J (i De σ H hw)
def Hk.imp{t t':TI}(h:Hk X CE e t)(i:∀ σ H R,t' σ H R->t σ H R):Hk X CE e t':=λA4 s σ H Q J hw=>h A4 s σ H Q J (i σ H Q hw)
def Hb.imp{t t':K5}(h:Hb X CE t)(i:Zd t' t):Hb X CE t':=λA4 s σ H v u Q J r hw=>h A4 s σ H v u Q J r (i v σ H Q hw)
def LW.imp{t t':PD}(h:LW X es t)(i:∀vs σ H Q,t' vs σ H Q->t vs σ H Q):LW X es t':=λA4 s σ H v u Q J r hw=>h A4 s σ H v u Q J r (i v σ H Q hw)
structure uK(X:Aq)(i:Nat)(x:Str):Prop where
 N:X.N[i]?=↥x:=by rfl
 v:Zm X.env.scope x:=by first|exact Or.inl rfl|exact Or.inr (Or.inl rfl)|exact Or.inr (Or.inr rfl)
 d:(x==("__debug__" :Str))=false:=by decide
 cd:(x==("__classdict__" :Str))=false:=by decide
structure Ns(X:Aq)(i:Nat)(x:Str):Prop where
 N:X.N[i]?=↥x:=by rfl
 l:Loc X.env.scope x:=by first|exact Or.inl rfl|exact Or.inr rfl
 f:X.fn x=true\/X.env.scope.names.lookup x=↥.local:=by first|exact .inl rfl|exact .inr rfl
def aik(i:Nat){x:Str}(k:uK X i x:=by exact{}):Ab X F (.Name x pos) (I i):=⟨Af.imp (afW k.N k.v k.d k.cd) (abE i)⟩
def aha{i:Int}{j}:Ab X F (.Constant (.int i) j pos) (pu (.int i)):=⟨Af.imp afH (Wo λ_ _=>by erw[AX])⟩
def ahs{i:Bool}{j}:Ab X F (.Constant (.bool i) j pos) (pu (.AN i)):=⟨Af.imp adf (Wo λ_ _=>by erw[AX])⟩
def aid{i:Str}{j}:Ab X F (.Constant (.str i) j pos) (pu (.str i)):=⟨Af.imp gi (Wo λ_ _=>by erw[AX])⟩
def ajI{j}:Ab X F (.Constant .none j pos) (pu .non):=⟨Af.imp afO (Wo λ_ _=>by erw[AX])⟩
structure M4(K:At)(mg:Str->Option A9)(x:Str)(w:W):Prop where
 ex:∃(v:V)(u:A9),mg x=↥u/\RelV v u/\∀φ H,AX K φ H w v
def PY{x:Str}{w:W}(k:M4 X.K X.mg x w)(A_:F.K=X.K:=by rfl)(Am:Ek X x:=by rfl)(hd:(x==("__debug__" :Str))=false:=by decide):Ab X F (.Name x pos) (pu w):=by obtain⟨v,u,h1,h2,BO⟩:=k.ex;exact⟨Af.imp (afF Am h1 h2 hd) (Wo (by rw[A_];exact BO))⟩
def aic(h:Ab X F e m):Ab X F e (BJ m):=⟨Af.imp h.p abA⟩
def akB{k:DX}(h:G4 X F e k):G4 X F e (HX k):=⟨El.imp h.p abB⟩
def ahl:Hd X F [] A2:=⟨HG.imp Tr UU⟩
def ahk(h:Ab X F e m)(t:Hd X F es ma)(AQ:notStar e=true:=by rfl):Hd X F (e::es) (A0 m ma):=⟨HG.imp (Qj h.p t.p (sH e es X.env AQ)) UT⟩
def aii{k}(h:Hd X F es ma):Ab X F (.Tuple es k pos) (BX ma):=⟨Af.imp (afU h.p) abC⟩
def aj6(h:Hd X F es ma):Ab X F (.List es pos) (BU ma):=⟨Af.imp (afK h.p) za⟩
structure RF(X:Aq)(F:D6)(e:Ah)(m:DX):Prop where
 p:K4 X e (Hv F m)
def akC(h:Ab X F e m)(he:∀whole,isTrue e X.env whole=(do let v <-whole;MX e.pos;JQ [v] (truthy v)):=by intro _;rfl):G4 X F e (Aa m):=⟨El.imp (agK h.p he) KU⟩
def ajS{k:DX}(h:G4 X F a k):RF X F (.BoolOp .And [a] pos) k:=⟨agQ h.p⟩
def ajU{k:DX}(h:G4 X F a k):RF X F (.BoolOp .Or [a] pos) k:=⟨agS h.p⟩
def ajR{k j:DX}(h:G4 X F a k)(t:RF X F (.BoolOp .And (b::es) pos) j):RF X F (.BoolOp .And (a::b::es) pos) (GN k j):=⟨K4.imp (agP h.p t.p) zr⟩
def ajT{k j:DX}(h:G4 X F a k)(t:RF X F (.BoolOp .Or (b::es) pos) j):RF X F (.BoolOp .Or (a::b::es) pos) (Fq k j):=⟨K4.imp (agR h.p t.p) aa5⟩
def ajQ{k:DX}(h:RF X F e k):G4 X F e k:=⟨K4.pt h.p⟩
def ak9{k:DX}(h:G4 X F a k):G4 X F (.UnaryOp .Not a pos) (Eb k):=⟨El.imp (agJ h.p) zd⟩
def ajL{op}(h:Ab X F a m):Ab X F (.BoolOp op [a] pos) m:=⟨afQ h.p⟩
def ahp(h:Ab X F a m)(k:Ab X F (.BoolOp .And (b::es) pos) n):Ab X F (.BoolOp .And (a::b::es) pos) (Iv m n):=⟨Af.imp (ade h.p k.p) zt⟩
def ajM(h:Ab X F a m)(k:Ab X F (.BoolOp .Or (b::es) pos) n):Ab X F (.BoolOp .Or (a::b::es) pos) (WP m n):=⟨Af.imp (afR h.p k.p) ab3⟩
def ajJ(h:Ab X F a m):Ab X F (.UnaryOp .Not a pos) (WO m):=⟨Af.imp (afP h.p) ze⟩
def ahY{k:DX}(h:G4 X F c k)(AG:Ab X F a m)(A5:Ab X F b n):Ab X F (.IfExp c a b pos) (No k m n):=⟨Af.imp (afG h.p AG.p A5.p) zY⟩
def ajn:Ku X F [] Bj:=⟨Hc.imp agG fb⟩
def aiS{u v:Ak}(h:GK X F st u)(k:Ku X F Qs v):Ku X F (st::Qs) (AO u v):=⟨Hc.imp (agE h.p k.p) ab8⟩
def ajo{u:Ak}(h:GK X F st u):Ku X F [st] u:=⟨agH h.p⟩
def ajp:GK X F (.Pass pos) Bj:=⟨Df.imp ag7 fb⟩
def aiT{x j D2}:GK X F (.Expr (.Constant (.str x) j pos) D2) Bj:=⟨Df.imp aeb fb⟩
def aiV(h:Ab X F e m)(AQ:Tp e=true:=by rfl):GK X F (.Expr e pos) (Fy m):=⟨Df.imp (aed h.p (YT _ _ _ _ AQ)) aa3⟩
def ajr(h:Ab X F e m):GK X F (.Return ↥e pos) (B7 m):=⟨Df.imp (ag9 h.p) ab6⟩
def ajs:GK X F (.Return none pos) (B7 (pu .non)):=⟨Df.imp agA ab7⟩
def aiz{k:DX}{u v:Ak}{xs ys:↑BG}(h:G4 X F c k)(AG:Ku X F xs u)(A5:Ku X F ys v):GK X F (.If c xs ys pos) (Bp k u v):=⟨Df.imp (aef h.p AG.p A5.p) zZ⟩
def ajt(i:Nat){x:Str}(hN:X.N.Nodup)(he:Ab X F e m)(k:Ns X i x:=by exact{})(AQ:Tp e=true:=by rfl):GK X F (.Assign [.Name x p] e pos) (AZ m (AC i)):=⟨Df.imp (agB hN k.N k.l he.p (YT _ _ _ _ AQ) k.f) λDe σ H q=>
 q.bd λw v φ ρ h H1 r a q=>by
   unfold AC at q
   split at q
   .rename_i hi;exact q _ φ H1 (r.set hi a) (Ag.refl _ _)
   .exact q.elim⟩
def aim(i:Nat){x:Str}(hN:X.N.Nodup)(k:Ns X i x:=by exact{}):QA X F (.Name x pos) (AC i):=⟨Hb.imp (XD hN k.N k.l k.f) (Wp i)⟩
structure Zn(X:Aq)(F:D6)(es:↑Ah)(F_:↑DM):Prop where
 p:LW X es (Ww F F_)
def ain:Zn X F [] []:=⟨LW.imp nV lK⟩
def ail{g:DM}{F_:↑DM}(h:QA X F e g)(t:Zn X F es F_)(AQ:(Lo (e::es) X.env).map (·.2)=L7 e X.env::(Lo es X.env).map (·.2):=by rfl):Zn X F (e::es) (g::F_):=⟨LW.imp (fp h.p t.p AQ) fZ⟩
def aio{k:Nat}{F_:↑DM}(h:Zn X F es F_)(AI:X.calm=true:=by rfl)(A_:F.K=X.K:=by rfl)(AM:⇑(Lo es X.env)=⇑F_:=by rfl)(GA:(Lo es X.env).findIdx? (·.1)=none:=by rfl):QA X F (.Tuple es k pos) (Ei F_):=⟨Hb.imp (nU AI h.p AM GA) (lL A_ rfl)⟩
def ahn(AG:Ab X F a m)(A5:Ab X F b n)(A_:F.K=X.K:=by rfl):Ab X F (.BinOp a .Add b pos) (A1 addW m n):=⟨Af.imp (Qk adw AG.p A5.p) (GB (aeO A_))⟩
def aif(AG:Ab X F a m)(A5:Ab X F b n)(A_:F.K=X.K:=by rfl):Ab X F (.BinOp a .Sub b pos) (A1 NS m n):=⟨Af.imp (Qk adW AG.p A5.p) (GB (MG λ_ _ _ _ _=>by erw[AX]))⟩
def ajC(AG:Ab X F a m)(A5:Ab X F b n)(A_:F.K=X.K:=by rfl):Ab X F (.BinOp a .Mult b pos) (A1 K_ m n):=⟨Af.imp (Qk (ae3.or ae5) AG.p A5.p) (GB adi)⟩
def ahV(AG:Ab X F a m)(A5:Ab X F b n)(A_:F.K=X.K:=by rfl):Ab X F (.BinOp a .FloorDiv b pos) (A1 Cq m n):=⟨Af.imp (Qk ae1 AG.p A5.p) (GB (bW λ_ _ _ _ _=>by erw[AX]))⟩
def ajB(AG:Ab X F a m)(A5:Ab X F b n)(A_:F.K=X.K:=by rfl):Ab X F (.BinOp a .Mod b pos) (A1 BY m n):=⟨Af.imp (Qk ae2 AG.p A5.p) (GB (bW λ_ _ _ _ _=>by erw[AX]))⟩
def ajP(AG:Ab X F a m)(A5:Ab X F b n)(A_:F.K=X.K:=by rfl):Ab X F (.BinOp a .Pow b pos) (A1 PM m n):=⟨Af.imp (Qk ae4 AG.p A5.p) (GB (bW λ_ _ _ _ _=>by erw[AX]))⟩
def ai_(AG:Ab X F a m)(A5:Ab X F b n)(A_:F.K=X.K:=by rfl):Ab X F (.BinOp a .RShift b pos) (A1 ahD m n):=⟨Af.imp (Qk adV AG.p A5.p) (GB (bW λ_ _ _ _ _=>by erw[AX]))⟩
def ahq(AG:Ab X F a m)(A5:Ab X F b n)(A_:F.K=X.K:=by rfl):Ab X F (.BinOp a .BitAnd b pos) (A1 vY m n):=⟨Af.imp (Qk ady AG.p A5.p) (GB (MG λ_ _ _ _ _=>by erw[AX]))⟩
def aj7(AG:Ab X F a m)(A5:Ab X F b n)(A_:F.K=X.K:=by rfl):Ab X F (.Compare a [.Lt] [b] pos) (A1 Ja m n):=⟨Af.imp (MH be AG.p A5.p (I9 _)) (GB (MG λ_ _ _ _ _=>by erw[AX]))⟩
def ak5(AG:Ab X F a m)(A5:Ab X F b n)(A_:F.K=X.K:=by rfl):G4 X F (.Compare a [.Lt] [b] pos) (Aa (A1 Ja m n)):=⟨El.imp (MI be AG.p A5.p (I9 _)) λσ H Q q=>let⟨φ,ρ,h,r,z⟩:=KU σ H Q q;GB (MG λ_ _ _ _ _=>by erw[AX]) σ H _ ⟨φ,ρ,h,r,z⟩⟩
def aj1(AG:Ab X F a m)(A5:Ab X F b n)(A_:F.K=X.K:=by rfl):Ab X F (.Compare a [.LtE] [b] pos) (A1 HV m n):=⟨Af.imp (MH Qg AG.p A5.p (I9 _)) (GB (MG λ_ _ _ _ _=>by erw[AX]))⟩
def ak4(AG:Ab X F a m)(A5:Ab X F b n)(A_:F.K=X.K:=by rfl):G4 X F (.Compare a [.LtE] [b] pos) (Aa (A1 HV m n)):=⟨El.imp (MI Qg AG.p A5.p (I9 _)) λσ H Q q=>let⟨φ,ρ,h,r,z⟩:=KU σ H Q q;GB (MG λ_ _ _ _ _=>by erw[AX]) σ H _ ⟨φ,ρ,h,r,z⟩⟩
def ahX(AG:Ab X F a m)(A5:Ab X F b n)(A_:F.K=X.K:=by rfl):Ab X F (.Compare a [.Gt] [b] pos) (A1 KS m n):=⟨Af.imp (MH o8 AG.p A5.p (I9 _)) (GB (MG λ_ _ _ _ _=>by erw[AX]))⟩
def ak1(AG:Ab X F a m)(A5:Ab X F b n)(A_:F.K=X.K:=by rfl):G4 X F (.Compare a [.Gt] [b] pos) (Aa (A1 KS m n)):=⟨El.imp (MI o8 AG.p A5.p (I9 _)) λσ H Q q=>let⟨φ,ρ,h,r,z⟩:=KU σ H Q q;GB (MG λ_ _ _ _ _=>by erw[AX]) σ H _ ⟨φ,ρ,h,r,z⟩⟩
def ahW(AG:Ab X F a m)(A5:Ab X F b n)(A_:F.K=X.K:=by rfl):Ab X F (.Compare a [.GtE] [b] pos) (A1 e2 m n):=⟨Af.imp (MH o7 AG.p A5.p (I9 _)) (GB (MG λ_ _ _ _ _=>by erw[AX]))⟩
def ak0(AG:Ab X F a m)(A5:Ab X F b n)(A_:F.K=X.K:=by rfl):G4 X F (.Compare a [.GtE] [b] pos) (Aa (A1 e2 m n)):=⟨El.imp (MI o7 AG.p A5.p (I9 _)) λσ H Q q=>let⟨φ,ρ,h,r,z⟩:=KU σ H Q q;GB (MG λ_ _ _ _ _=>by erw[AX]) σ H _ ⟨φ,ρ,h,r,z⟩⟩
def ahT(BR:X.A.units+64<E8)(AG:Ab X F a m)(A5:Ab X F b n)(A_:F.K=X.K:=by rfl):Ab X F (.Compare a [.Eq] [b] pos) (A1 Φ m n):=⟨Af.imp (MH (bb BR).1 AG.p A5.p (I9 _)) (GB (bU A_ true))⟩
def ajy(BR:X.A.units+64<E8)(AG:Ab X F a m)(A5:Ab X F b n)(A_:F.K=X.K:=by rfl):G4 X F (.Compare a [.Eq] [b] pos) (Aa (A1 Φ m n)):=⟨El.imp (MI (bb BR).1 AG.p A5.p (I9 _)) λσ H Q q=>let⟨φ,ρ,h,r,z⟩:=KU σ H Q q;GB (bU A_ true) σ H _ ⟨φ,ρ,h,r,z⟩⟩
def ajD(BR:X.A.units+64<E8)(AG:Ab X F a m)(A5:Ab X F b n)(A_:F.K=X.K:=by rfl):Ab X F (.Compare a [.NotEq] [b] pos) (A1 (As false) m n):=⟨Af.imp (MH (bb BR).2 AG.p A5.p (I9 _)) (GB (bU A_ false))⟩
def ak6(BR:X.A.units+64<E8)(AG:Ab X F a m)(A5:Ab X F b n)(A_:F.K=X.K:=by rfl):G4 X F (.Compare a [.NotEq] [b] pos) (Aa (A1 (As false) m n)):=⟨El.imp (MI (bb BR).2 AG.p A5.p (I9 _)) λσ H Q q=>let⟨φ,ρ,h,r,z⟩:=KU σ H Q q;GB (bU A_ false) σ H _ ⟨φ,ρ,h,r,z⟩⟩
def ai1(AG:Ab X F a m)(A5:Ab X F b n)(A_:F.K=X.K:=by rfl):Ab X F (.Compare a [.Is] [b] pos) (A1 (Ej true) m n):=⟨Af.imp (MH o9 AG.p A5.p (I9 _)) (GB (bX true))⟩
def ak3(AG:Ab X F a m)(A5:Ab X F b n)(A_:F.K=X.K:=by rfl):G4 X F (.Compare a [.Is] [b] pos) (Aa (A1 (Ej true) m n)):=⟨El.imp (MI o9 AG.p A5.p (I9 _)) λσ H Q q=>let⟨φ,ρ,h,r,z⟩:=KU σ H Q q;GB (bX true) σ H _ ⟨φ,ρ,h,r,z⟩⟩
def ajK(AG:Ab X F a m)(A5:Ab X F b n)(A_:F.K=X.K:=by rfl):Ab X F (.Compare a [.IsNot] [b] pos) (A1 (Ej false) m n):=⟨Af.imp (MH oB AG.p A5.p (I9 _)) (GB (bX false))⟩
def akA(AG:Ab X F a m)(A5:Ab X F b n)(A_:F.K=X.K:=by rfl):G4 X F (.Compare a [.IsNot] [b] pos) (Aa (A1 (Ej false) m n)):=⟨El.imp (MI oB AG.p A5.p (I9 _)) λσ H Q q=>let⟨φ,ρ,h,r,z⟩:=KU σ H Q q;GB (bX false) σ H _ ⟨φ,ρ,h,r,z⟩⟩
noncomputable def G0:W->A6->R (W×A6):=λw h=>match w with
 |.int i=>.ok (.int (-i),h)
 |_=>.bad
def ajF(AG:Ab X F a m):Ab X F (.UnaryOp .USub a pos) (B0 G0 m):=⟨Af.imp (afV aiA AG.p) (abD λσ ρ φ h H x w Q r a q=>by
 cases w with
 |int i=>erw[AX]at a;exact⟨i,a,q _ φ H r (Ag.refl _ _) (by erw[AX])⟩
 |_=>cases q)⟩
def OT(f g:H0)(a b c:BB):BB:=bd a λx=>bd b λy=>bd (λ_ h=>f x y h) (NA λk=>if k=true then bd c λz _ h=>g y z h else pu (.AN false))
def lH{r Bd:F0}{f g:H0}(hf:IK F r f)(Am:IK F Bd g):Fk (CB F (OT f g m n l)) (hI r Bd (CB F m) (CB F n) (CB F l)):=λσ H Q q=>
 q.bd λx v φ ρ h H1 Ax EZ q=>⟨φ,ρ,h,Ax,q.bd λy u CP h2 AU BK Ca H4 q=>hf σ ρ CP h2 AU v u x y _ BK (EZ.ex Ca) H4 (q.bd λk Bv KJ BO C4 G2 Ed vT q=>by
   obtain⟨c,e,q⟩:=Vl vT q;refine⟨c,e,?_⟩;cases c with
   |false=>exact q _ KJ C4 G2 (Ag.refl _ _) (Ny _)
   |true=>have q:D8 AX F KJ C4 σ ρ Q (bd l (λz _ h=>g y z h) ρ BO):=q;exact⟨KJ,ρ,BO,G2,q.bd λz ajm YH D5 Dd Nx Rn Td q=>Am σ ρ YH D5 Dd u ajm y z Q Nx (H4.ex (Ed.trans Rn)) Td q⟩)⟩
def sT{op Jy:CmpOp}{r Bd:F0}{f g:H0}(ho:Dt X (GS op) r)(IR:Dt X (GS Jy) Bd)(hf:IK F r f)(Am:IK F Bd g)(AG:Ab X F a m)(A5:Ab X F b n)(AI:Ab X F c l)(hm:lastMarks [op,Jy] [b,c]=false:=by with_unfolding_all rfl):Ab X F (.Compare a [op,Jy] [b,c] pos) (OT f g m n l):=⟨Af.imp (af8 ho IR AG.p A5.p AI.p hm) (lH hf Am)⟩
def Tq:IK F (LQ λi j=>.AN (decide (i<=j))) HV:=MG λ_ _ _ _ _=>by erw[AX]
def o2:IK F (LQ λi j=>.AN (decide (i<j))) Ja:=MG λ_ _ _ _ _=>by erw[AX]
def sV{op Jy:CmpOp}{r Bd:F0}{f g:H0}(ho:Dt X (GS op) r)(IR:Dt X (GS Jy) Bd)(hf:IK F r f)(Am:IK F Bd g)(AG:Ab X F a m)(A5:Ab X F b n)(AI:Ab X F c l)(hm:lastMarks [op,Jy] [b,c]=false:=by with_unfolding_all rfl):G4 X F (.Compare a [op,Jy] [b,c] pos) (Aa (OT f g m n l)):=⟨El.imp (agI ho IR AG.p A5.p AI.p hm) λσ H Q q=>lH hf Am σ H _ (KU σ H Q q)⟩
structure LY(X:Aq)(F:D6)(e:Option Ah)(k:RX):Prop where
 p:Vf X e (Wx F k)
def aiu:LY X F none (pu none):=⟨λA4 s σ H Q J q=>af3 A4 s σ H Q J (zc σ H Q q)⟩
def aiv(h:Ab X F e m):LY X F ↥e (CC m):=⟨λA4 s σ H Q J q=>af4 h.p A4 s σ H Q J (ab4 σ H Q q)⟩
def aia{lo hi:Option Ah}{k j:RX}(AG:Ab X F a m)(AF:LY X F lo k)(hh:LY X F hi j)(A_:F.K=X.K:=by rfl):Ab X F (.Subscript a (.Slice lo hi none D2) pos) (D9 m k j):=⟨Af.imp (afS (ahG.or ahH) AG.p AF.p hh.p) (ab9 A_)⟩
structure M9(X:Aq)(e:Ah)(es:↑Ah)(pos:Pos):Prop where
 he:C8 (e::es) X.env=(false,BM e X.env)::C8 es X.env:=by rfl
 GW:(F8 pos (C8 es X.env)).any (·.1)=false:=by rfl
def aj2(hm:X.mg "len"=none)(AG:Hd X F [e] ma)(A_:F.K=X.K:=by rfl)(Am:Ek X "len":=by rfl)(s:M9 X e [] pos:=by exact{}):Ab X F (.Call (.Name "len" p) [e] [] pos) (Aw BZ ma):=⟨Af.imp (XA uf Am hm PySem.boot_len AG.p ε ε s.he s.GW) (Pr (aeW A_))⟩
def aj4(hm:X.mg "list"=none)(AG:Hd X F [e] ma)(A_:F.K=X.K:=by rfl)(Am:Ek X "list":=by rfl)(s:M9 X e [] pos:=by exact{}):Ab X F (.Call (.Name "list" p) [e] [] pos) (Aw Dn ma):=⟨Af.imp (XB vF Am hm (by kernel_rfl) AG.p ε ε s.he s.GW) (Pr (adg A_))⟩
def aij(hm:X.mg "tuple"=none)(AG:Hd X F [e] ma)(A_:F.K=X.K:=by rfl)(Am:Ek X "tuple":=by rfl)(s:M9 X e [] pos:=by exact{}):Ab X F (.Call (.Name "tuple" p) [e] [] pos) (Aw PU ma):=⟨Af.imp (XB wN Am hm (by kernel_rfl) AG.p ε ε s.he s.GW) (Pr (adp A_))⟩
def aie(hm:X.mg "str"=none)(AG:Hd X F [e] ma)(Am:Ek X "str":=by rfl)(s:M9 X e [] pos:=by exact{}):Ab X F (.Call (.Name "str" p) [e] [] pos) (Aw Qr ma):=⟨Af.imp (XB wM Am hm (by kernel_rfl) AG.p ε ε s.he s.GW) (Pr adn)⟩
def aih(hm:X.mg "int"=none)(AG:Hd X F [e] ma)(Am:Ek X "int":=by rfl)(s:M9 X e [] pos:=by exact{}):Ab X F (.Call (.Name "int" p) [e] [] pos) (Aw Rg ma):=⟨Af.imp (XB ud Am hm (by kernel_rfl) AG.p ε ε s.he s.GW) (Pr ado)⟩
def Xq{U:Str}{T:String}(tt:dT X.K T)(hm:X.mg "isinstance"=none)(yd:X.mg U=none)(yh:OH U=↥(.type T))(AG:Ab X F a m)(A_:F.K=X.K:=by rfl)(Am:Ek X "isinstance":=by rfl)(z2:Ek X U:=by rfl)(aa6:U≠"__name__":=by decide)(yv:(U==("__debug__" :Str))=false:=by decide)(AQ:notStar a=true:=by rfl)(s:M9 X a [.Name U D2] pos:=by exact{}):Ab X F (.Call (.Name "isinstance" p) [a,.Name U D2] [] pos) (B0 (EF T) m):=
 ⟨Af.imp (XA (ue tt) Am hm (by kernel_rfl) (Qj AG.p (Qj (ae6 (v:=.ty T) z2 yd yh rfl aa6 yv) Tr) (sH _ _ _ AQ)) ε ε s.he s.GW) (z_ A_)⟩
structure RW(X:Aq)(o:Ah)(x:Str)(apos Cg:Pos)(e:Ah):Prop where
 b:JM o x X.env (BM o X.env)=BM o X.env:=by rfl
 l:(apos.endLine==Cg.line)=true:=by rfl
 f:((F8 Cg (C8 [e] X.env)).all (λx=>!x.1)&&(Jp Cg (Jh [] X.env)).all (λx=>x.1.isSome)&&decide (⇑([e]:↑Ah)+⇑([]:↑Jo)+(if([]:↑Jo).isEmpty then 0 else 1)<30))=true:=by rfl
 s:C8 [e] X.env=(false,BM e X.env)::C8 [] X.env:=by rfl
 h:(F8 Cg (C8 [] X.env)).any (·.1)=false:=by rfl
def ahr(ho:Ab X F o m)(AG:Ab X F e n)(A_:F.K=X.K:=by rfl)(k:RW X o "append" apos pos e:=by exact{}):Ab X F (.Call (.Attribute o "append" apos) [e] [] pos) (DI EO m (A0 n A2)):=⟨Af.imp (gg Sd PySem.F.slot_list_append PySem.F.type_list_append mV ho.p (Qj AG.p Tr k.s) k.b k.f k.l k.s k.h) λσ H Q q=>aG A_ aeP σ H Q q|>λ⟨φ,ρ,h,r,z⟩=>⟨φ,ρ,h,r,z.imp λv H1⟨ty,t⟩=>⟨ty,UT σ H1 _ t|>λ⟨φ,ρ,h,r,z⟩=>⟨φ,ρ,h,r,z.imp λv AU t=>UU σ AU _ t⟩⟩⟩⟩
def ajO(ho:Ab X F o m)(AG:Ab X F e n)(A_:F.K=X.K:=by rfl)(k:RW X o "pop" apos pos e:=by exact{}):Ab X F (.Call (.Attribute o "pop" apos) [e] [] pos) (DI Je m (A0 n A2)):=⟨Af.imp (gg Sd th ti (Q2.or mW lu) ho.p (Qj AG.p Tr k.s) k.b k.f k.l k.s k.h) λσ H Q q=>aG A_ o3 σ H Q q|>λ⟨φ,ρ,h,r,z⟩=>⟨φ,ρ,h,r,z.imp λv H1⟨ty,t⟩=>⟨ty,UT σ H1 _ t|>λ⟨φ,ρ,h,r,z⟩=>⟨φ,ρ,h,r,z.imp λv AU t=>UU σ AU _ t⟩⟩⟩⟩
def ajN(ho:Ab X F o m)(A_:F.K=X.K:=by rfl)(A5:JM o "pop" X.env (BM o X.env)=BM o X.env:=by rfl)(AF:(apos.endLine==pos.line)=true:=by rfl):Ab X F (.Call (.Attribute o "pop" apos) [] [] pos) (DI Je m A2):=⟨Af.imp (gh Sd th ti (Q2.or mW lu) ho.p A5 AF) (f_ A_ o3)⟩
def ahu(ho:Ab X F o m)(A_:F.K=X.K:=by rfl)(A5:JM o "clear" X.env (BM o X.env)=BM o X.env:=by rfl)(AF:(apos.endLine==pos.line)=true:=by rfl):Ab X F (.Call (.Attribute o "clear" apos) [] [] pos) (DI Vu m A2):=⟨Af.imp (gh Sd PySem.F.slot_list_clear PySem.F.type_list_clear acq ho.p A5 AF) (f_ A_ aeQ)⟩
def ajq {i v:Ah} {Cd:BB} (Bg:Ab X F v Cd) (ho:Ab X F o m) (hi:Ab X F i n) (AQ:Tp v=true:=by rfl) (h1:swapsWithSole [.Subscript o i p] v pos.line X.env=pure false:=by rfl) (h2:swappedStores [.Subscript o i p] v X.env=pure none:=by rfl) (BO:(Lo [.Subscript o i p] X.env).map (·.2)=[L7 (.Subscript o i p) X.env]:=by rfl)(AG:∀v,L7 (.Subscript o i p) X.env v=(do
    let CN <-JQ [v] (BM o X.env)
    let HJ <-JQ [v,CN] (BM i X.env)
    MX p
    JQ [v,CN,HJ] (setItem CN HJ v)
    release [v,CN,HJ] []):=by intro _;rfl):GK X F (.Assign [.Subscript o i p] v pos) (AZ Cd (TM m n)):=⟨Df.imp (nB Bg.p (aei ho.p hi.p set_list AG) h1 h2 BO) λDe σ H q=>
 q.bd λw x φ ρ h H1 r a q=>by
   refine ab5 x σ H1 De.AT ⟨φ,ρ,h,w,r,a,?_⟩;have AT:∀r:R (FU×A6),(∀f h',r=.ok (f,h')->∃Ee,f=.AT Ee)->EQ F φ H1 De r->EQ F φ H1 ⟨De.AT,λ_ _=>False,λ_ _=>False,λ_ _=>False⟩ r:=λr g k=>by
    cases r with
    |ok p=>obtain⟨f,h'⟩:=p;obtain⟨Ee,rfl⟩:=g f h' rfl;exact k
    |exc c h'=>exact k
    |bad=>exact k
   refine AT _ (λf h' e=>?_) q;unfold TM bd at e;cases AD:m ρ h with
   |ok p=>
    rw[AD]at e;cases AH:n ρ p.2 with
    |ok D2=>
     erw[R.bind,AH]at e;unfold bC at e
     split at e
     .split at e
      .cases e;exact⟨_,rfl⟩
      .cases e
     .cases e
    |exc c h2=>erw[R.bind,AH]at e;cases e
    |bad=>erw[R.bind,AH]at e;cases e
   |exc c h2=>rw[AD]at e;cases e
   |bad=>rw[AD]at e;cases e⟩
def ahy:Ab X F (.Dict [] [] pos) (KY false):=⟨Af.imp XC zw⟩
def ahz:Ab X F (.Dict [] [] pos) (KY true):=⟨Af.imp afC zx⟩
def alk(BR:X.A.units+64<E8)(ho:Ab X F o m)(he:Ab X F e n)(AQ:dJ e):Ab X F (.Subscript o e pos) (A1 eS m n):=⟨Af.imp (af9 δ ho.p he.p AQ) aa0⟩
def aiU{v:Ah}{Cd:BB}(BR:X.A.units+64<E8)(ho:Ab X F o m)(hi:Ab X F e n)(Bg:Ab X F v Cd)(AQ:Tp v=true:=by rfl):GK X F (.Assign [.Subscript o e p] v pos) (Jb m n Cd):=⟨Df.imp (aec δ ho.p hi.p Bg.p (YT _ _ _ _ AQ)) aa2⟩
def gr{Dh f:Str}{BA:↑Str}(cl:QQ X.K Dh BA)(AG:Ab X F a m)(hf:f∈BA:=by decide)(A_:F.K=X.K:=by rfl)(A5:JM a f X.env (BM a X.env)=BM a X.env:=by rfl):Ab X F (.Attribute a f pos) (B0 (B8 Dh f) m):=⟨Af.imp (afE AG.p A5) (aa4 A_ cl hf)⟩
def gu{Dh f:Str}{BA:↑Str}{v:Ah}{Cd:BB}(cl:QQ X.K Dh BA)(ho:Ab X F o m)(Bg:Ab X F v Cd)(hf:f∈BA:=by decide)(A_:F.K=X.K:=by rfl)(AQ:Tp v=true:=by rfl):GK X F (.Assign [.Attribute o f p] v pos) (FI Dh f m Cd):=⟨Df.imp (aee ho.p Bg.p (YT _ _ _ _ AQ)) (zW A_ cl hf)⟩
def aht{x:Str}{k j:Nat}{mf:Bs}(c:DW X.prog X.w X.K X.mg X.base x k j mf)(B6:DD j X.A)(AG:Hd X F (e::es) ma)(P:TY X F:=by first|exact bE|exact bD)(A_:F.K=X.K:=by rfl)(Am:Ek X x:=by rfl)(Mr:(x==("__debug__" :Str))=false:=by decide)(s:M9 X e es pos:=by exact{}):Ab X F (.Call (.Name x p) (e::es) [] pos) (Aj k mf ma):=by obtain⟨f,fd,ps,AM,Oi,hm,AR,A5⟩:=c.ex;obtain⟨E,h1,h2⟩:=P.ex;exact⟨Af.imp (af7 Oi B6 Am hm AR A5 .nil h1 AG.p Mr s.he s.GW) (zu A_ h2)⟩
def aj8{Dh:Str}{k j:Nat}{mf:Bs}(c:Vd X.prog X.w X.K X.mg X.base Dh k j mf)(B6:DD (j+1) X.A)(AG:Hd X F (e::es) ma)(P:TY X F:=by first|exact bE|exact bD)(A_:F.K=X.K:=by rfl)(Am:Ek X Dh:=by rfl)(Mr:(Dh==("__debug__" :Str))=false:=by decide)(s:M9 X e es pos:=by exact{}):Ab X F (.Call (.Name Dh p) (e::es) [] pos) (HW Dh k mf ma):=by obtain⟨C,f,fd,ps,AM,AI,mk,Oi,hm,A5⟩:=c.ex;obtain⟨E,h1,h2⟩:=P.ex;exact⟨Af.imp (afL mk Oi B6 Am hm A5 .nil h1 AG.p Mr s.he s.GW) (zb A_ AI h2)⟩
end
section
variable{X:Aq}{F:D6}{e a b c o elt:Ah}{es ifs:↑Ah}{pos p D2 apos Cg:Pos}{m n l:BB}{ma:EY}{CE iter:Ah}{g:DM}{scope:FS}{mi:GT}{mt:DX}
noncomputable def Ig(sc:FS)(O2:↑Str)(nl:Nat)(caps:↑Nat):↑Str:=((sc.names.drop 1).take nl).map (·.1)++caps.map λj=>O2.getD j ""
def RM(X:Aq)(scope:FS)(N:↑Str)(CE:Ah)(g:DM):Prop:=∀cl C s H BP DQ C3,QA (Gp X scope N cl C s H BP) (Il X.K DQ C3) CE g
def Zz(X:Aq)(scope:FS)(N:↑Str)(e:Ah)(m:BB):Prop:=∀cl C s H BP DQ C3,Ab (Gp X scope N cl C s H BP) (Il X.K DQ C3) e m
def BT(X:Aq)(scope:FS)(N:↑Str)(ifs:↑Ah)(k:DX):Prop:=∀cl C s H BP DQ C3,Q4 (Gp X scope N cl C s H BP) ifs (Hv (Il X.K DQ C3) k)
def vE{N:↑Str}:BT X scope N [] (pu true):=λcl C s H BP DQ C3 A4 s' σ AB Q J q=>by obtain⟨φ,ρ,h,r,k⟩:=q;exact agM A4 s' σ AB Q J (k true φ AB r (Ag.refl _ _) rfl)
def vD{N:↑Str}(h:∀cl C s H BP DQ C3,G4 (Gp X scope N cl C s H BP) (Il X.K DQ C3) c mt):BT X scope N [c] mt:=λcl C s H BP DQ C3=>agN (h cl C s H BP DQ C3).p
def uv(i:Nat){N:↑Str}{x:Str}(hN:N.Nodup:=by decide+kernel)(hi:N[i]?=↥x:=by rfl)(AF:(Lp scope X.env).names.lookup x=↥.local:=by rfl):RM X scope N (.Name x pos) (AC i):=λcl C s H BP DQ C3=>
 ⟨Hb.imp (XD (X:=Gp X scope N cl C s H BP) hN hi (.inl AF) (.inr AF)) (Wp i)⟩
def uu(i:Nat){N:↑Str}{x:Str}(hN:N.Nodup:=by decide+kernel)(hi:N[i]?=↥x:=by rfl)(AF:(Lp scope X.env).names.lookup x=↥.cell:=by rfl)(AQ:(scope.names.lookup x==↥.cell)=true:=by rfl):RM X scope N (.Name x pos) (AC i):=λcl C s H BP DQ C3=>
 ⟨Hb.imp (XD (X:=Gp X scope N cl C s H BP) hN hi (.inr AF) (.inl AQ)) (Wp i)⟩
def uw(i j:Nat){N:↑Str}{x y:Str}{g0 py:Pos}{k:Nat}(AI:X.calm=true:=by rfl)(hN:N.Nodup:=by decide+kernel)(hi:N[i]?=↥x:=by rfl)(Ar:N[j]?=↥y:=by rfl)(AF:(Lp scope X.env).names.lookup x=↥.local:=by rfl)(hm:(Lp scope X.env).names.lookup y=↥.local:=by rfl) :
  RM X scope N (.Tuple [.Name x g0,.Name y py] k pos) (Ei [AC i,AC j]):=λcl C s H BP DQ C3=>
 ⟨Hb.imp (nU (X:=Gp X scope N cl C s H BP) AI (LW.imp (fp (Hb.imp (XD (X:=Gp X scope N cl C s H BP) hN hi (.inl AF) (.inr AF)) (Wp i)) (LW.imp (fp (Hb.imp (XD (X:=Gp X scope N cl C s H BP) hN Ar (.inl hm) (.inr hm)) (Wp j)) (LW.imp nV lK) rfl) fZ) rfl) fZ) rfl rfl) (lL rfl rfl)⟩
def eK(nl:Nat)(caps:↑Nat)(A_:F.K=X.K)(Am:RM X scope (Ig scope X.N nl caps) CE g)(Bc:BT X scope (Ig scope X.N nl caps) ifs mt)(he:Zz X scope (Ig scope X.N nl caps) elt m) :
  (∀cl C s H BP,Hb (Gp X scope (Ig scope X.N nl caps) cl C s H BP) CE (λx σ H Q=>∃DQ C3,MN (Il F.K DQ C3) g x σ H Q))/\(∀cl C s H BP,Q4 (Gp X scope (Ig scope X.N nl caps) cl C s H BP) ifs (λσ H Q=>∃DQ C3,Hv (Il F.K DQ C3) mt σ H Q))/\(∀cl C s H BP,Af (Gp X scope (Ig scope X.N nl caps) cl C s H BP) elt (λσ H Q=>∃DQ C3,CB (Il F.K DQ C3) m σ H Q)):=by
 rw[A_];exact⟨λcl C s H BP A4 s' σ AB v u Q J r⟨DQ,C3,q⟩=>(Am cl C s H BP DQ C3).p A4 s' σ AB v u Q J r q,λcl C s H BP A4 s' σ AB Q J⟨DQ,C3,q⟩=>Bc cl C s H BP DQ C3 A4 s' σ AB Q J q,λcl C s H BP A4 s' σ AB Q J⟨DQ,C3,q⟩=>(he cl C s H BP DQ C3).p A4 s' σ AB Q J q⟩
def ahv(nl:Nat)(caps:↑Nat)(S:Vv X.env.scope X.N scope (Ig scope X.N nl caps) nl caps=true)(hi:QB X F CE iter mi)(Am:RM X scope (Ig scope X.N nl caps) CE g)(Bc:BT X scope (Ig scope X.N nl caps) ifs mt)(he:Zz X scope (Ig scope X.N nl caps) elt m)(AI:X.calm=true:=by rfl)(A_:F.K=X.K:=by rfl)(AQ:∀x,OF iter X.env x=pure x:=by intro _;rfl) :
  Ab X F (.ListComp elt [⟨CE,iter,ifs,0⟩] scope pos) (DZ nl caps mi g mt m):=by
 obtain⟨h1,h2,BO⟩:=eK nl caps A_ Am Bc he;exact⟨Af.imp (nT (M3.of S) AI hi.p h1 h2 BO AQ) lI⟩
def aiR(i:Nat)(nl:Nat)(caps:↑Nat){y:Str}{py:Pos}(hN:X.N.Nodup)(S:Vv X.env.scope X.N scope (Ig scope X.N nl caps) nl caps=true)(hi:QB X F CE iter mi)(Am:RM X scope (Ig scope X.N nl caps) CE g)(Bc:BT X scope (Ig scope X.N nl caps) ifs mt)(he:Zz X scope (Ig scope X.N nl caps) elt m)(AP:X.N[i]?=↥y:=by rfl)(AF:X.env.kindOf y=↥.local:=by rfl)(SZ:OJ (.ListComp elt [⟨CE,iter,ifs,0⟩] scope Cg) ↥(.Name y py) pos.line X.env=pure true:=by rfl)(AI:X.calm=true:=by rfl)(A_:F.K=X.K:=by rfl)(AQ:∀x,OF iter X.env x=pure x:=by intro _;rfl) :
  GK X F (.Assign [.Name y py] (.ListComp elt [⟨CE,iter,ifs,0⟩] scope Cg) pos) (AZ (DZ nl caps mi g mt m) (AC i)):=by
 obtain⟨h1,h2,BO⟩:=eK nl caps A_ Am Bc he;refine⟨Df.imp (aea (M3.of S) AI hN AP AF hi.p h1 h2 BO SZ AQ) λDe σ H q=>?_⟩;obtain⟨φ,ρ,h,r,q⟩:=q;refine lI σ H _ ⟨φ,ρ,h,r,EQ.bd q λw v C0 h1 H1 Ax Cu a q=>?_⟩;unfold AC at q
 split at q
 .rename_i hi;exact q _ C0 H1 (Ax.set hi a) (Ag.refl _ _)
 .exact q.elim
def aju{st:BG}{i:Nat}(h:GK X F st (AZ m (AC i))):GK X F st (AZ (BJ m) (AC i)):=⟨Df.imp h.p λDe σ H q=>by
 obtain⟨φ,ρ,h,r,q⟩:=q;refine⟨φ,ρ,h,r,?_⟩;unfold AZ bd BJ at*;cases e:m ρ h with
 |bad=>rw[e]at q;cases q
 |exc c h'=>rw[e]at q;exact q
 |ok p=>
  rw[e]at q;obtain⟨w,h1⟩:=p;obtain⟨C_,h',es⟩:=fm h w h1;erw[R.bind]at q |-;rw[es]at q;unfold AC at q |-;dsimp only at q |-
  split at q
  .rename_i hi;rw[if_pos hi];intro σ' C0 H1 Ax Cu;obtain⟨v,ev,EH⟩:=Ax.Bm i w (L3 hi);obtain⟨BL,Fd,d',GL⟩:=fo r.hd Cu Ax.hd EH es;refine q σ' BL H1 ⟨d',r.x0.trans Fd,(Ax.len:),λj u I7=>?_⟩ Fd;by_cases Ar:i=j
   .subst Ar;rw[L3 hi]at I7;cases I7;exact⟨v,ev,GL⟩
   .rw[MR Ar]at I7;obtain⟨v0,_,H3⟩:=r.Bm j u I7;obtain⟨v1,AD,a1⟩:=Ax.Bm j u (by rw[MR Ar];exact I7);exact⟨v1,AD,AX.ex (⟨Fd.p,λ_ _ e _=>e⟩:Ag φ H1 BL H1) (AX.back Cu.p H3 a1)⟩
  .exact q.elim⟩
def aj9 {Dh x:Str} {k j:Nat} {mf:Bs} {pl:Sem Bool} (c:H_ X.prog X.w X.K X.mg X.base Dh x k j mf) (B6:DD j X.A) (ho:Ab X F o m) (AG:Hd X F (e::es) ma) (P:TY X F:=by first|exact bE|exact bD) (A_:F.K=X.K:=by rfl) (s:M9 X e es pos:=by exact{}) (Bc:BM (.Call (.Attribute o x apos) (e::es) [] pos) X.env=(do
   let CN <-BM o X.env
   MX apos.atName
   let(f,first) <-JQ [CN] (OK CN x pl)
   Po pos f first (F8 pos (C8 (e::es) X.env)) (Jp pos (Jh [] X.env))):=by rfl):Ab X F (.Call (.Attribute o x apos) (e::es) [] pos) (CV Dh x k mf m ma):=by
 obtain⟨C,f,fd,ps,AM,AI,Cz,G7,Oi,A5⟩:=c.ex;obtain⟨E,h1,h2⟩:=P.ex;exact⟨Af.imp (afM (pl:=pl) ho.p Cz G7 Oi B6 A5 .nil h1 AG.p s.he s.GW Bc) (fa A_ AI h2)⟩
def ajA {Dh x:Str} {j:Nat} {mf:Bs} {pl:Sem Bool} (c:H_ X.prog X.w X.K X.mg X.base Dh x 0 j mf) (B6:DD j X.A) (ho:Ab X F o m) (P:TY X F:=by first|exact bE|exact bD) (A_:F.K=X.K:=by rfl) (Bc:BM (.Call (.Attribute o x apos) [] [] pos) X.env=(do
   let CN <-BM o X.env
   MX apos.atName
   let(f,first) <-JQ [CN] (OK CN x pl)
   Po pos f first (F8 pos (C8 [] X.env)) (Jp pos (Jh [] X.env))):=by rfl):Ab X F (.Call (.Attribute o x apos) [] [] pos) (CV Dh x 0 mf m A2):=by
 obtain⟨C,f,fd,ps,AM,AI,Cz,G7,Oi,A5⟩:=c.ex;obtain⟨E,h1,h2⟩:=P.ex;refine⟨Af.imp (afN (pl:=pl) ho.p Cz G7 Oi B6 A5 .nil h1 Bc) λσ H Q q=>?_⟩;obtain⟨φ,ρ,h,r,z⟩:=fa (X:=X) A_ AI h2 σ H Q q;exact⟨φ,ρ,h,r,z.imp λv H1⟨a,Bo,BA,AD,AH,DT,t⟩=>⟨a,Bo,BA,AD,AH,DT,UU σ H1 _ t⟩⟩
def ahx(BR:X.A.units+64<E8)(ho:Ab X F o m)(he:Ab X F e n)(k:B3.RW X o "get" apos e Cg:=by exact⟨rfl,rfl,rfl,rfl⟩):Ab X F (.Call (.Attribute o "get" apos) [e] [] Cg) (WM m n):=⟨Af.imp (afA δ ho.p he.p k) zy⟩
def ahS(ho:Ab X F o m)(he:Ab X F e n)(k:B3.RW X o "pop" apos e Cg:=by exact⟨rfl,rfl,rfl,rfl⟩):Ab X F (.Call (.Attribute o "pop" apos) [e] [] Cg) (Rz m n):=⟨Af.imp (afD ho.p he.p k) aa1⟩
def Dg(ma:EY):GT:=bd ma λws=>match ws with
 |[.int j]=>if-(2^62)<=j/\j<2^62 then pu (LS 0 j.toNat)else λ_ _=>.bad
 |_=>λ_ _=>.bad
def air(hm:X.mg "range"=none)(AG:Hd X F [a] ma)(Am:Ek X "range":=by rfl)(AQ:C8 [a] X.env=[(false,BM a X.env)]:=by rfl):QB X F CE (.Call (.Name "range" p) [a] [] pos) (Dg ma):=⟨Hk.imp (aen Am hm AG.p AQ) λσ H R q=>
 q.bd λws vs φ ρ h H1 r as q=>by
   split at q
   .rename_i j;obtain⟨v,rfl,a⟩:=as.one;erw[AX]at a;subst a
    split at q
    .rename_i Ar;exact⟨j,rfl,Ar.1,Ar.2,q _ φ H1 r (Ag.refl _ _) (oX _ _)⟩
    .exact q.elim
   .exact q.elim⟩
def adS(ma:EY):GT:=bd ma λws=>match ws with
 |[.int i,.int j]=>if-(2^62)<=i/\i<2^62/\-(2^62)<=j/\j<2^62 then pu (LS i (j-i).toNat)else λ_ _=>.bad
 |_=>λ_ _=>.bad
def ais(hm:X.mg "range"=none)(AG:Hd X F [a,b] ma)(Am:Ek X "range":=by rfl)(AQ:C8 [a,b] X.env=[(false,BM a X.env),(false,BM b X.env)]:=by rfl)(I8:C8 [b] X.env=[(false,BM b X.env)]:=by rfl):QB X F CE (.Call (.Name "range" p) [a,b] [] pos) (adS ma):=⟨Hk.imp (aeo Am hm AG.p AQ I8) λσ H R q=>
 q.bd λws vs φ ρ h H1 r as q=>by
   split at q
   .rename_i i j;obtain⟨v,JJ,rfl,a,b⟩:=as.two;erw[AX]at a b;subst a b
    split at q
    .rename_i Ar;exact⟨i,j,rfl,Ar,q _ φ H1 r (Ag.refl _ _) (oX _ _)⟩
    .exact q.elim
   .exact q.elim⟩
noncomputable def SF(x:Str):HF:=λi _=>if i=x.cps.size then↥none else(x.cps[i]?).map λc=>↥(.str ⟨#[c]⟩)
def ake(m:BB):GT:=bd m λw=>match w with
 |.str x=>pu (SF x)
 |_=>λ_ _=>.bad
def ago{K:At}{φ:↑A7}{H:AE}(x:Str):Ix K φ H (SF x) (dA x):=λi CP h2 AU d _=>by
 unfold SF;by_cases hi:i=x.cps.size
 .rw[if_pos hi];exact⟨λ_=>hi,λw z=>by cases z⟩
 .rw[if_neg hi];cases e:x.cps[i]? with
  |none=>exact⟨(λz=>by cases z),λw z=>by cases z⟩
  |some c=>exact⟨(λz=>by cases z),λw z=>by
     cases z;exact⟨(Array.getElem?_eq_some_iff.mp e).1,λy AB AP=>by obtain⟨rfl,Dq,Bb,rfl⟩:=AP;rw[e]at Bb;cases Bb;exact⟨d,Ag.refl _ _,by erw[AX]⟩⟩⟩
def QI(w:W):HF:=λi h=>match LI h w with
 |some (_,ws)=>if i=⇑ws then↥none else(ws[i]?).map λx=>↥(.tup [.int i,x])
 |none=>none
def QZ(ma:EY):GT:=bd ma λws ρ h=>match ws with
 |[w]=>match LI h w with
  |some _=>.ok (QI w,h)
  |none=>.bad
 |_=>.bad
def sX{K:At}{φ:↑A7}{h:A6}{H:AE}{q:A7}{ws:↑W}{xs:↑V}(d:DL K φ h H)(AV:H q=none)(a:Ai K φ H ws xs):DL K φ h (upd H q (.tup xs))/\Ag φ H φ (upd H q (.tup xs))/\AX K φ (upd H q (.tup xs)) (.tup ws) (.ref q):=
 ⟨d.lay AV,Ag.lay AV,by erw[AX];exact⟨q,xs,rfl,EA,a.ex (Ag.lay AV)⟩⟩
def xO{φ:↑A7}{H:AE}{w:W}{q:A7}(A_:F.K=X.K)(a:AX F.K φ H w (.ref q)):Ix F.K φ H (QI w) (d6 X.K q):=λi CP h2 AU d x=>by
 unfold QI;cases es:LI h2 w with
 |none=>exact⟨(λz=>by cases z),λw z=>by cases z⟩
 |some PV=>
  obtain⟨n,ws⟩:=PV;obtain⟨F3,xs,Bb,_,_,AW,BN⟩:=QX d (a.ex x) es;cases Bb;have AW:Es X.K AU q xs:=.inl (.inl AW);dsimp only;by_cases hi:i=⇑ws
  .rw[if_pos hi];exact⟨λ_=>⟨xs,AW,by rw[<- ⇑BN,hi]⟩,λw z=>by cases z⟩
  .rw[if_neg hi];cases D0:ws[i]? with
   |none=>exact⟨(λz=>by cases z),λw z=>by cases z⟩
   |some u=>
    obtain⟨v,ev,EH⟩:=BN.get D0;exact⟨(λz=>by cases z),λC_ z=>by
     cases z;exact⟨⟨xs,v,AW,ev⟩,λy AB AP=>by obtain⟨b,Fd,A5,rfl,rfl,g⟩:=AP;have:=g xs AW;rw[ev]at this;cases this;exact sX d A5 (.cons (by erw[AX]) (.cons EH .nil))⟩⟩
def aiq{elts:↑Ah}{k:Nat}{QR:Pos}(hm:X.mg "enumerate"=none)(AG:Hd X F [a] ma)(A_:F.K=X.K:=by rfl)(Am:Ek X "enumerate":=by rfl)(AQ:C8 [a] X.env=[(false,BM a X.env)]:=by rfl):QB X F (.Tuple elts k QR) (.Call (.Name "enumerate" p) [a] [] pos) (QZ ma):=⟨Hk.imp (aek Am hm AG.p AQ) λσ H R q=>
 q.bd λws vs φ ρ h H1 r as q=>by
   split at q
   .obtain⟨v,rfl,a⟩:=as.one
    split at q
    .rename_i nw es;obtain⟨n,us⟩:=nw;obtain⟨Cm,xs,rfl,_,_,AW,BN⟩:=QX r.hd a es;exact⟨Cm,rfl,⟨xs,.inl (.inl AW)⟩,q _ φ H1 r (Ag.refl _ _) (xO A_ a)⟩
    .exact q.elim
   .exact q.elim⟩
noncomputable def YA(x:Str)(us:↑W):HF:=λi _=>if i=min x.cps.size ⇑us then↥none else match x.cps[i]?,us[i]? with
 |some c,↥u=>↥↥(.tup [.str ⟨#[c]⟩,u])
 |_,_=>none
def WQ(ma:EY):GT:=bd ma λws ρ h=>match ws with
 |[.str x,w]=>match E5 h w with
  |some (true,us)=>.ok (YA x us,h)
  |_=>.bad
 |_=>.bad
def ait{elts:↑Ah}{k:Nat}{QR:Pos}(hm:X.mg "zip"=none)(AG:Hd X F [a,b] ma)(A_:F.K=X.K:=by rfl)(Am:Ek X "zip":=by rfl)(AQ:C8 [a,b] X.env=[(false,BM a X.env),(false,BM b X.env)]:=by rfl)(I8:C8 [b] X.env=[(false,BM b X.env)]:=by rfl):QB X F (.Tuple elts k QR) (.Call (.Name "zip" p) [a,b] [] pos) (WQ ma):=⟨Hk.imp (aeq Am hm AG.p AQ I8) λσ H R q=>
 q.bd λws vs φ ρ h H1 r as q=>by
   split at q
   .rename_i x w;obtain⟨v,JJ,rfl,a,b⟩:=as.two;erw[AX]at a;subst a
    split at q
    .rename_i us es;obtain⟨Cm,ys,rfl,AW,BN⟩:=JG r.hd b es;have AW:Et F.K H1 Cm ys:=AW;refine⟨x,Cm,rfl,⟨ys,A_▸AW⟩,q _ φ H1 r (Ag.refl _ _) λi CP h2 AU d Ca=>?_⟩;have fS:Et X.K AU Cm ys:=A_▸Et.ex Ca AW;have Ue:=BN.ex Ca;unfold YA;by_cases hi:i=min x.cps.size ⇑us
     .rw[if_pos hi];exact⟨λ_=>⟨ys,fS,by rw[<- ⇑BN];exact hi⟩,λw z=>by cases z⟩
     .rw[if_neg hi];cases AD:x.cps[i]? with
      |none=>exact⟨(λz=>by cases z),λw z=>by cases z⟩
      |some c=>
       cases AH:us[i]? with
       |none=>exact⟨(λz=>by cases z),λw z=>by cases z⟩
       |some u=>
        obtain⟨y,DG,H4⟩:=Ue.get AH;exact⟨(λz=>by cases z),λC_ z=>by
         cases z;exact⟨⟨(Array.getElem?_eq_some_iff.mp AD).1,ys,y,fS,DG⟩,λv AB AP=>by obtain⟨Hm,Dq,QW,f1,f2,rfl,rfl,GU⟩:=AP;rw[AD]at f1;cases f1;have:=GU ys fS;rw[DG]at this;cases this;exact sX d f2 (.cons (by erw[AX]) (.cons H4 .nil))⟩⟩
    .exact q.elim
   .exact q.elim⟩
end
end Bq
namespace Bq
open PySem PySem.Spec B3 PyProof.Rows
section
variable{X:Aq}{F:D6}{e a b c o:Ah}{es:↑Ah}{pos p D2 apos Cg:Pos}{m n l:BB}{ma:EY}{CE iter:Ah}{st:BG}
def aiQ:GK X F st (λ_ _=>.bad):=⟨Df.imp af6 λDe σ H⟨_,_,_,_,q⟩=>q⟩
def ahm{Qs:↑BG}:Ku X F Qs (λ_ _=>.bad):=⟨Hc.imp agF λDe σ H⟨_,_,_,_,q⟩=>q⟩
noncomputable def p3:F0:=λx y H Q=>∃q v,x=.ref q/\JS H q y ↥v/\Q v H
def aag(BR:X.A.units+64<E8):O1 X p3:=by intro value slice A4 s σ H x y v u Q J Av Bh h AQ;obtain⟨q,z,rfl,g,h⟩:=h;obtain rfl:v=Cv q:=Av;exact tail_any (kb J g) PySem.F.slot_dict_getitem.lookup (ka δ J g Bh λC_ s3 D4 IX=>⟨z,H,D4,IX,h⟩) AQ
def A8:H0:=λx y h=>match Ho h x y with
 |some ↥w=>.ok (w,h)
 |some none=>.bad
 |none=>Pt x y h
def aeU(A_:F.K=X.K):IK F (λx y H Q=>p3 x y H Q\/g9 X.K x y H Q) A8:=by
 intro σ ρ φ h H x y GF Gh Q r a1 a2 q;unfold A8 at q
 split at q
 .rename_i w e;obtain⟨k,CN,rfl,g,F5⟩:=b6 r.hd e a1 a2;cases CN with
  |none=>cases F5
  |some v=>exact .inl ⟨k,v,rfl,g,q v φ H r (Ag.refl _ _) F5⟩
 .exact q.elim
 .exact .inr (aeT A_ σ ρ φ h H x y GF Gh Q r a1 a2 q)
def aj0(BR:X.A.units+64<E8)(AG:Ab X F a m)(A5:Ab X F b n)(AQ:dN b)(A_:F.K=X.K:=by rfl):Ab X F (.Subscript a b pos) (A1 A8 m n):=⟨Af.imp (afI ((aag BR).or aai) AG.p A5.p AQ) (GB (aeU A_))⟩
noncomputable def g6(k:Bool):F0:=λx y H Q=>∃q CN,y=.ref q/\JS H q x CN/\Q (.AN (if k then CN.isSome else !CN.isSome)) H
def ba(BR:X.A.units+64<E8):Dt X (GS .In) (g6 true)/\Dt X (GS .NotIn) (g6 false):=by
 refine⟨?_,?_⟩<;>
 .intro A4 s σ H x y v u Q J Av Bh h;obtain⟨q,CN,rfl,g,h⟩:=h;obtain rfl:u=Cv q:=Bh
  first
   |exact vv δ J g Av λs3 D4=>⟨.AN CN.isSome,H,D4,rfl,h⟩
   |exact vw δ J g Av λs3 D4=>⟨.AN (!CN.isSome),H,D4,rfl,h⟩
def E1(k:Bool):H0:=λx y h=>match Ho h y x with
 |some o=>.ok (.AN (if k then o.isSome else !o.isSome),h)
 |none=>bn k x y h
def bV(A_:F.K=X.K)(k:Bool):IK F (λx y H Q=>g6 k x y H Q\/bF X.K k x y H Q) (E1 k):=by
 intro σ ρ φ h H x y GF Gh Q r a1 a2 q;unfold E1 at q
 split at q
 .rename_i o e;obtain⟨d,CN,rfl,g,F5⟩:=b6 r.hd e a2 a1;rw[F5.is]at q;exact .inl ⟨d,CN,rfl,g,q _ φ H r (Ag.refl _ _) (Ny _)⟩
 .exact .inr (aeR A_ k σ ρ φ h H x y GF Gh Q r a1 a2 q)
def ahZ(BR:X.A.units+64<E8)(AG:Ab X F a m)(A5:Ab X F b n)(A_:F.K=X.K:=by rfl)(hm:MT .In b=false:=by with_unfolding_all rfl):Ab X F (.Compare a [.In] [b] pos) (A1 (E1 true) m n):=⟨Af.imp (MH ((ba BR).1.or (bc BR).1) AG.p A5.p hm) (GB (bV A_ true))⟩
def ak2(BR:X.A.units+64<E8)(AG:Ab X F a m)(A5:Ab X F b n)(A_:F.K=X.K:=by rfl)(hm:MT .In b=false:=by with_unfolding_all rfl):G4 X F (.Compare a [.In] [b] pos) (Aa (A1 (E1 true) m n)):=⟨El.imp (MI ((ba BR).1.or (bc BR).1) AG.p A5.p hm) λσ H Q q=>GB (bV A_ true) σ H _ (KU σ H Q q)⟩
def ajH(BR:X.A.units+64<E8)(AG:Ab X F a m)(A5:Ab X F b n)(A_:F.K=X.K:=by rfl)(hm:MT .NotIn b=false:=by with_unfolding_all rfl):Ab X F (.Compare a [.NotIn] [b] pos) (A1 (E1 false) m n):=⟨Af.imp (MH ((ba BR).2.or (bc BR).2) AG.p A5.p hm) (GB (bV A_ false))⟩
def ak8(BR:X.A.units+64<E8)(AG:Ab X F a m)(A5:Ab X F b n)(A_:F.K=X.K:=by rfl)(hm:MT .NotIn b=false:=by with_unfolding_all rfl):G4 X F (.Compare a [.NotIn] [b] pos) (Aa (A1 (E1 false) m n)):=⟨El.imp (MI ((ba BR).2.or (bc BR).2) AG.p A5.p hm) λσ H Q q=>GB (bV A_ false) σ H _ (KU σ H Q q)⟩
def zm(K:At)(KF:TE):TI:=λσ H R=>KF σ H λx H1=>(∃q,x=.ref q/\(∃xs,Es K H1 q xs)/\R (d8 K q) H1)\/(∃q,x=.ref q/\(∃xs,Et K H1 q xs)/\R (dB K q) H1)\/∃z,x=.str z/\R (dA z) H1
def aej{e:Ah}{KF:TE}(AF:Af X e KF):Hk X CE e (zm X.K KF):=by
 intro A4 s σ H R J h;refine BV (AF A4 s σ H _ J h) λv s1⟨x,H1,Ac,Ax,q1⟩=>?_;rcases q1 with⟨q,rfl,⟨xs,AW⟩,k⟩|⟨q,rfl,⟨xs,AW⟩,k⟩|⟨z,rfl,k⟩
 .cases Ax;obtain⟨its,Bw,pl,hz⟩:=Ac.list AW;refine hl pl.isList ?_;refine⟨s1.heap.objs.size,[s1.heap.objs.size],_,_,H1,rfl,Ac.kept (t':=s1.toks) λb o e=>Cy _ e,ag_ q _,⟨_,Fe _ rfl,rfl,rfl⟩,λb A5=>?_,k⟩;have e:b=s1.heap.objs.size:=by simpa using A5
  subst e;exact Ac.Mo (C1 _) (Ac.Az.fresh (C1 _))
 .cases Ax;obtain⟨its,Bw,pl,hz⟩:=Ac.tuple AW;refine wpAny_pyIter_tuple (show s1.heap.IsTuple q its.toArray from pl) ?_;refine⟨s1.heap.objs.size,[s1.heap.objs.size],_,_,H1,rfl,Ac.kept (t':=s1.toks) λb o e=>Cy _ e,agd q _,⟨_,Fe _ rfl,rfl,rfl⟩,λb A5=>?_,k⟩;have e:b=s1.heap.objs.size:=by simpa using A5
  subst e;exact Ac.Mo (C1 _) (Ac.Az.fresh (C1 _))
 .obtain⟨t,rfl⟩:=Ax;refine wpAny_pyIter_strU ?_;refine⟨s1.heap.objs.size,[s1.heap.objs.size],_,_,H1,rfl,Ac.kept (t':=s1.toks) λb o e=>Cy _ e,agc _ z t,⟨_,Fe _ rfl,rfl,rfl⟩,λb A5=>?_,k⟩;have e:b=s1.heap.objs.size:=by simpa using A5
  subst e;exact Ac.Mo (C1 _) (Ac.Az.fresh (C1 _))
def D_(m:BB):GT:=bd m λw ρ h=>match w with
 |.str x=>.ok (SF x,h)
 |w=>match E5 h w with
  |some _=>.ok (GC w,h)
  |none=>.bad
def aip(h:Ab X F e m)(A_:F.K=X.K:=by rfl):QB X F CE e (D_ m):=⟨Hk.imp (aej h.p) λσ H R q=>
 q.bd λw v φ ρ h H1 r a q=>by
   split at q
   .rename_i x;erw[AX]at a;exact .inr (.inr ⟨x,a,q _ φ H1 r (Ag.refl _ _) (ago x)⟩)
   .split at q
    .rename_i PV es;obtain⟨t,ws⟩:=PV;obtain⟨Cm,xs,rfl,AW,BN⟩:=JG r.hd a es;cases t with
     |false=>have hw:=(YO es).mp rfl;exact .inl ⟨Cm,rfl,⟨xs,A_▸AW⟩,q _ φ H1 r (Ag.refl _ _) (adK A_ a rfl λCP h2 AU _ _ t ws e=>(YO e).mpr hw)⟩
     |true=>
      refine .inr (.inl ⟨Cm,rfl,⟨xs,A_▸AW⟩,q _ φ H1 r (Ag.refl _ _) (ea A_ a rfl λh2 t ws' AH=>?_)⟩);cases t with
      |true=>rfl
      |false=>have hw:=(YO AH).mp rfl;exact(YO es).mpr hw|>.symm
    .exact q.elim⟩
theorem ss:∀{bs:↑Bool}{us:↑A9},Vals (bs.map V.AN) us->us=bs.map RC
 |[],_,r=>by cases r;rfl
 |b::bs,_,r=>by
  cases r with
  |cons Ax BK=>cases Ax;rw[ss BK];rfl
def uc(AI:X.calm=true)(SU:X.A.handled=none):JR X (.builtin "all") (λxs H Q=>∃(p:A7)(bs:↑Bool),xs=[.ref p]/\Es X.K H p (bs.map V.AN)/\Q (.AN (bs.all id)) H):=by
 intro A4 s σ H xs us Q J r h;obtain⟨p,bs,rfl,AW,q⟩:=h;obtain⟨u,rfl,Fb⟩:=vals1 r;cases Fb;obtain⟨its,Bw,pl,hz⟩:=J.list AW;have Gj:=ss Bw;refine call_all_walk (hl pl.isList ?_);have J7:p≠s.heap.objs.size:=by obtain⟨o,ho,_⟩:=pl.isList;exact F7 (Dk ho)
 refine⟨s.heap.objs.size,_,_,_,_,_,λi=>(bs[i]?).getD true,rfl,Walks.list (prog:=X.prog) (w:=X.w) (A:=X.A.in1) SU s.heap.objs.size p J7 its.toArray,⟨⟨_,Fe _ rfl,rfl,rfl⟩,pl.isList.push _⟩,?_,λh' Ce FG=>?_⟩
 .intro i v s' Hl akD Di e7;rw[Gj]at Di;have Di:(bs.map RC)[i]?=↥v:=by simpa using Di
  rw[E7]at Di;cases BE:bs[i]? with
  |none=>rw[BE]at Di;cases Di
  |some b=>rw[BE]at Di;have ev:RC b=v:=Gc Di;subst ev;dsimp only at e7;rw[BE]at e7;exact MQ e7
 .have We:(Cn its.toArray.size).all (λi=>(bs[i]?).getD true)=bs.all id:=by
    have AF:its.toArray.size=⇑bs:=by rw[Gj];simp
    rw[AF,Z6,Pg,Pg];constructor
    .intro hh x AJ;obtain⟨i,hi,rfl⟩:=List.mem_iff_getElem.mp AJ;have:=hh i (List.mem_range.mpr hi);rw[CT hi]at this;exact this
    .intro hh i hi;have hi:=List.mem_range.mp hi;rw[CT hi];exact hh _ (Jm hi)
  rw[We];exact⟨.AN _,H,J.kept (t':=Ce) λb o AH=>FG b o (by
   intro z;have z:b=s.heap.objs.size:=(z:)
   exact absurd (Dk AH) (by rw[z];exact Jj _)) (Cy _ AH),rfl,q⟩
def aho{k:Nat}(B6:DD k X.A)(hm:X.mg "all"=none)(AG:Hd X F [e] ma)(AI:X.calm=true:=by rfl)(A_:F.K=X.K:=by rfl)(Am:Ek X "all":=by rfl)(s:M9 X e [] pos:=by exact{}):Ab X F (.Call (.Name "all" p) [e] [] pos) (Aw (IV true) ma):=⟨Af.imp (XA (uc AI B6.hd) Am hm (by kernel_rfl) AG.p ε ε s.he s.GW) (Pr (adj A_ true))⟩
end
end Bq
namespace B3
open PyProof.Rows
section
variable{X:Aq}{a e:Ah}{Bx:Fu}{pos p pos' F3:Pos}
theorem sv:∀{xs:↑V}{us:↑A9},⇑xs=⇑us->(∀(i:Nat) x y,xs[i]?=↥x->us[i]?=↥y->RelV x y)->Vals xs us
 |[],[],_,_=>.nil
 |[],_::_,h,_=>by simp at h
 |_::_,[],h,_=>by simp at h
 |x::xs,u::us,h,f=>.cons (f 0 x u γ γ) (sv (h:) λi a b AD AH=>f (i+1) a b (AD:) (AH:))
def adA{A4:μ}{σ :St}{H1:AE}{s2:AS}{Q:CQ}{r:A7}{j:Int}{t u v:Tok}(BW:Inv X A4 σ H1 s2)(AI:X.calm=true)(B6:IsRange s2.heap r 0 j 1 t u v)(q1: -(2^62)<=j)(q2:j<=1000000)(q:∀l,H1 l=none->Q (.ref l) (upd H1 l (.lst ((Cn j.toNat).map λi=>.int (i:Nat))))):An ξ X.A (call (.type "list") [.ref r]) (HD X A4 σ Q) X.DB s2:=by
 have AM:tq 0 j 1=(j.toNat:Nat):=by rw[rangeSize_one];split<;>lia
 refine call_list_range (BW.ok.hd AI) B6 (small_one δ δ δ δ) AM δ λh' Ce Zp Dq Bf e it=>?_;obtain⟨acc,rfl⟩:∃l:↑A9,Zp=l.toArray:=⟨Zp.toList,γ⟩;have Bg:Vals ((Cn j.toNat).map λi=>V.int ((i:Nat):Int)) acc:=by
  have AF:⇑acc=j.toNat:=(it.1:)
  refine sv ?_ ?_
  .simp[AF]
  .intro i x y AD AH;rw[E7]at AD;have hi:i<j.toNat:=by rw[<-AF];exact(List.getElem?_eq_some_iff.mp AH).1
   rw[Sk hi]at AD;cases AD;obtain⟨tt,rfl⟩:=it.2 i y (AH:);exact⟨tt,γ⟩
 exact⟨.ref _,_,BW.laid (t':=Ce) Bf (C1 _) (show Dp X.prog X.w _ h' _ (.lst _)from⟨IG (m:=1000000) (by simp;lia) ε,acc,Dq,Bg,e⟩),rfl,q _ (BW.Az.fresh (C1 _))⟩
def p7:↑V->AE->CQ->Prop:=λvs H1 Q=>∃j:Int,vs=[.int j]/\-(2^62)<=j/\j<=1000000/\∀l,H1 l=none->Q (.ref l) (upd H1 l (.lst ((Cn j.toNat).map λi=>.int (i:Nat))))
def afJ(Am:Ek X "list")(hm:X.mg "list"=none)(Wi:Ek X "range")(Ms:X.mg "range"=none)(AI:X.calm=true)(AG:HG X [a] Bx)(AQ:C8 [a] X.env=[(false,BM a X.env)]:=by rfl)(I8:C8 [.Call (.Name "range" F3) [a] [] pos'] X.env=[(false,BM (.Call (.Name "range" F3) [a] [] pos') X.env)]:=by rfl) :
  Af X (.Call (.Name "list" p) [.Call (.Name "range" F3) [a] [] pos'] [] pos) (Wu p7 Bx):=by
 intro A4 s σ H Q J h;refine V8 (Oy (u:=.type "list") J Am hm (by kernel_rfl) ?_);refine Qv ?_ I8 rfl;rw[I8];refine V7 ?_;refine Call_ (Oy J Wi Ms boot_range (Qv (BV (AG pos' A4 s σ H _ J h) λus s1⟨vs,H1,Ac,Ax,q1⟩=>?_) AQ rfl));obtain⟨j,e,q1,q2,q⟩:=q1;subst e;cases Ax with
 |cons r Kd=>cases Kd;obtain⟨t,rfl⟩:=r;refine call_range_1 (VD ?_);exact adA (Ac.kept λb o e=>Cy _ e) AI (IsRange.new ..) q1 q2 q
theorem nt:∀{AK:↑Int}{us:↑A9},Vals (AK.map V.int) us->us.map numOf=AK/\∀v∈us,∃k t,v=.int k t
 |[],us,r=>by cases r;exact⟨rfl,λv Bg=>by simp at Bg⟩
 |k::AK,us,r=>by
  rw[DC]at r;cases r with
  |cons a b=>
   obtain⟨t,rfl⟩:=a;obtain⟨e,g⟩:=nt b;refine⟨by rw[DC,e];rfl,λv Bg=>?_⟩;rcases List.mem_cons.mp Bg with rfl|Bg
   .exact⟨k,t,rfl⟩
   .exact g v Bg
theorem eo:∀{vs:↑A9},(∀v∈vs,∃k t,v=.int k t)->Vals ((vs.map numOf).map V.int) vs
 |[],_=>.nil
 |v::vs,h=>by obtain⟨k,t,rfl⟩:=h v γ;exact .cons ⟨t,rfl⟩ (eo λu BR=>h u (by simp[BR]))
theorem nQ{P:C9}{w:Bl}:∀{es:↑L5}{vs:↑(Key×A9)}{AA:↑(Key×V)}{AK:↑Int},Pairs (Gm P w) es vs->Em AA vs->AA.map (·.1)=AK.map MV->(es.map (·.key)).map numOf=AK/\∀v∈es.map (·.key),∃k t,v=.int k t
 |_,_,_,AK,.nil,.nil,e=>by
  cases AK with
  |nil=>exact⟨rfl,λ_ h=>nomatch h⟩
  |cons _ _=>cases e
 |_,_,_,AK,.cons a _ p,.cons b r,e=>by
  cases AK with
  |nil=>cases e
  |cons k AK=>
   erw[DC,i8]at e;obtain⟨AD,AH⟩:=e;obtain⟨Cb,FO⟩:=nQ p r AH;rw[gK,<-b.1,AD]at a;rcases Lx a with⟨i,t,z,G9⟩|⟨x,t,z,G9⟩
   .cases z;refine⟨by rw[DC,DC,Cb,G9];rfl,λv Bg=>?_⟩;rcases List.mem_cons.mp Bg with rfl|Bg
    .exact⟨k,t,G9⟩
    .exact FO v Bg
   .cases z
def pF(K:At):↑V->AE->CQ->Prop:=λxs H Q=>∃p AK,xs=[.ref p]/\(Es K H p (AK.map V.int)\/∃AA,Kr H p (.Al AA)/\AA.map (·.1)=AK.map MV)/\ ⇑AK<64/\
 ∀l,H l=none->Q (.ref l) (upd H l (.lst ((LT.KB AK).map V.int)))
def wL(AI:X.calm=true):JR X (.builtin "sorted") (pF X.K):=by
 intro A4 s σ H xs us Q J r h;obtain⟨p,AK,rfl,AW,AM,q⟩:=h;obtain⟨u,rfl,Av⟩:=vals1 r;cases Av;have mI:⇑(LT.KB AK)=⇑AK:=(Yu _ _).length_eq;rcases AW with AW|⟨AA,AW,DN⟩
 .obtain⟨its,Bd,pl,hz⟩:=J.list AW;have hlen:=⇑Bd;rw[Ch]at hlen;obtain⟨Au,e4⟩:=nt Bd;refine sorted_ints pl.isList (intsAre_map its e4) δ λout ns' a1 a2 CF=>?_;obtain⟨D1,EG,bS⟩:=LT.sD a1 a2 CF;rw[Au]at bS;have Xn:=eo EG;rw[bS]at Xn;obtain⟨Ao,he⟩:=sortedAll_at s.heap its out;exact⟨.ref (s.heap.objs.size+1),_,J.laid (a:=s.heap.objs.size+1) (t':=s.toks) (λb o e=>sortedAll_old e) (OP _) (show Dp X.prog X.w _ _ _ (.lst ((LT.KB AK).map V.int))from⟨by rw[Ch,Ln];lia,out.toList,Ao,Xn,(he:)⟩),rfl,q _ (J.Az.fresh (OP _))⟩
 .obtain⟨z,hd,vs,rel,o,es,Ao,g1,g2,g3,g4,KR,WZ⟩:=O7 J.Az AW;obtain⟨Au,e4⟩:=nQ KR rel DN;have AF:=congrArg VP Au;rw[Ch]at AF;refine LT.ahO (J.ok.hd AI) hd ⟨o,g1,g2,g3⟩ rfl δ e4 λvs l h' Ce e lv HJ ev AV Bf gl=>?_;rw[Au]at ev;have Xn:=eo HJ;rw[ev]at Xn;exact⟨.ref l,_,J.laid (a:=l) (t':=Ce) Bf AV (show Dp X.prog X.w _ _ _ (.lst ((LT.KB AK).map V.int))from⟨by rw[Ch,Ln];lia,vs,e,Xn,gl⟩),rfl,q l (J.Az.fresh AV)⟩
end
end B3
namespace Bq
def Cc{N P:↑Str}{sc:FS}(a:sc.kind=.function:=by rfl)(b:sc.isCoroutine=false:=by rfl)(c:sc.isGenerator=false:=by rfl)(d:N.Nodup:=by decide+kernel)(e:N.take ⇑P=P:=by rfl)(f:∀x∈P,sc.names.lookup x=↥.local\/sc.names.lookup x=↥.cell:=by decide+kernel)(g:∀y∈sc.names,y.2≠.free:=by decide+kernel):CA N P sc:=⟨a,b,c,d,e,f,g⟩
section
variable{X:Aq}{F:D6}{e a b o:Ah}{es:↑Ah}{pos p D2:Pos}{m n:BB}{ma:EY}{CE:Ah}{g:DM}
noncomputable def bR:R (FU×A6)->R (FU×A6)
 |.ok (.AT ρ,h)=>.ok (.AT ρ,h)
 |.ok _=>.bad
 |.exc c h=>.exc c h
 |.bad=>.bad
def aeD{φ:↑A7}{H:AE}{De:Ends}:∀{r:R (FU×A6)},EQ F φ H De (bR r)->EQ F φ H ⟨De.AT,λ_ _=>False,λ_ _=>False,λ_ _=>False⟩ r
 |.ok (.AT _,_),k=>k
 |.ok (.EX _,_),k|.ok (.Ba _,_),k|.ok (.DS _,_),k=>k.elim
 |.exc _ _,k=>k
 |.bad,k=>k
def M0(m:BB)(g:DM):Ak:=bd m λw ρ h=>bR (g w ρ h)
def aiP(Bg:Ab X F e m)(Am:QA X F CE g)(h1:swapsWithSole [CE] e pos.line X.env=pure false:=by rfl)(h2:swappedStores [CE] e X.env=pure none:=by rfl)(BO:(Lo [CE] X.env).map (·.2)=[L7 CE X.env]:=by rfl):GK X F (.Assign [CE] e pos) (M0 m g):=⟨Df.imp (nB Bg.p Am.p h1 h2 BO) λDe σ H q=>
 q.bd λw x φ ρ h H1 r a q=>⟨φ,ρ,h,w,r,a,aeD q⟩⟩
def H9(AK:↑Int):↑W:=AK.map W.int
theorem en{K:At}{φ:↑A7}{H:AE}:∀AK:↑Int,Ai K φ H (H9 AK) (AK.map V.int)
 |[]=>.nil
 |_::AK=>.cons (by erw[AX]) (en AK)
def P0:LA:=λws h=>match ws with
 |[.int j]=>if-(2^62)<=j/\j<=1000000 then nw .lst (H9 ((Cn j.toNat).map λi:Nat=>(i:Int))) h else .bad
 |_=>.bad
def adh:P4 F p7 P0:=by
 intro σ ρ φ h H xs ws Q r as q;unfold P0 at q
 split at q
 .rename_i j;obtain⟨v,rfl,a⟩:=as.one;erw[AX]at a;subst a
  split at q
  .rename_i Ar;refine⟨j,rfl,Ar.1,Ar.2,λl AF=>OZ r q AF EA ?_⟩;have:=en (K:=F.K) (φ:=φ) (H:=H) ((Cn j.toNat).map λi:Nat=>(i:Int));rw[iL]at this;exact this
  .exact q.elim
 .exact q.elim
def aj5(hm:X.mg "list"=none)(Ms:X.mg "range"=none)(AG:Hd X F [a] ma)(AI:X.calm=true:=by rfl)(Am:Ek X "list":=by rfl)(Wi:Ek X "range":=by rfl){F3 pos':Pos}(AQ:C8 [a] X.env=[(false,BM a X.env)]:=by rfl)(I8:C8 [.Call (.Name "range" F3) [a] [] pos'] X.env=[(false,BM (.Call (.Name "range" F3) [a] [] pos') X.env)]:=by rfl) :
  Ab X F (.Call (.Name "list" p) [.Call (.Name "range" F3) [a] [] pos'] [] pos) (Aw P0 ma):=⟨Af.imp (afJ Am hm Wi Ms AI AG.p AQ I8) (Pr adh)⟩
noncomputable def intsOf:↑W->Option ↑Int
 |[]=>some []
 |.int i::ws=>(intsOf ws).map (i::·)
 |_=>none
theorem kr{K:At}{φ:↑A7}{H:AE}:∀{ws:↑W}{AK:↑Int}{xs:↑V},intsOf ws=↥AK->Ai K φ H ws xs->xs=AK.map V.int
 |[],AK,xs,e,a=>by erw[intsOf]at e;cases e;erw[Ai]at a;exact a
 |w::ws,AK,xs,e,a=>by
  cases w<;>erw[intsOf]at e<;>first|(cases e;done)|skip
  erw[Ai,AX]at a;obtain⟨v,r,rfl,rfl,t⟩:=a;cases Bb:intsOf ws with
  |none=>rw[Bb]at e;cases e
  |some Rq=>rw[Bb]at e;cases e;rw[kr Bb t];rfl
noncomputable def Pu:↑Key->Option ↑Int
 |[]=>some []
 |.inl i::AK=>(Pu AK).map (i::·)
 |_=>none
theorem mj:∀{AK:↑Key}{Rq:↑Int},Pu AK=↥Rq->AK=Rq.map MV
 |[],Rq,e=>by erw[Pu]at e;cases e;rfl
 |k::AK,Rq,e=>by
  cases k<;>erw[Pu]at e<;>first|(cases e;done)|skip
  cases Bb:Pu AK with
  |none=>rw[Bb]at e;cases e
  |some Rq=>rw[Bb]at e;cases e;rw[mj Bb];rfl
def bQ(h:A6)(w:W):Option ↑Int:=match w with
 |.ref n=>match h[n]? with
  |some ⟨.Al AK,_⟩=>Pu AK
  |_=>(E5 h w).bind λp=>if p.1=false then intsOf p.2 else none
 |_=>none
def NP:LA:=λws h=>match ws with
 |[w]=>match bQ h w with
  |some AK=>if ⇑AK<64 then nw .lst (H9 (LT.KB AK)) h else .bad
  |none=>.bad
 |_=>.bad
def aeB{K:At}{φ:↑A7}{h:A6}{H:AE}{w:W}{v:V}{AK:↑Int}(d:DL K φ h H)(a:AX K φ H w v)(e:bQ h w=↥AK):∃p,v=.ref p/\(Es K H p (AK.map V.int)\/∃AA,Kr H p (.Al AA)/\AA.map (·.1)=AK.map MV):=by
 unfold bQ at e
 split at e
 .split at e
  .rename_i Rq ws Au;obtain⟨q,xs,rfl,_,⟨AA,AG,AD,AH⟩,BN⟩:=d.at Au a;exact⟨q,rfl,.inr ⟨AA,.inl AG,AD.trans (mj e)⟩⟩
  .cases es:E5 h (.ref _)with
   |none=>rw[es]at e;cases e
   |some p=>
    obtain⟨t,us⟩:=p;rw[es]at e;obtain⟨q,xs,rfl,AW,BN⟩:=JG d a es;cases t with
    |true=>cases e
    |false=>have e:intsOf us=↥AK:=e;rw[kr e BN]at AW;exact⟨q,rfl,.inl AW⟩
 .cases e
def adm(A_:F.K=X.K):P4 F (pF X.K) NP:=by
 intro σ ρ φ h H xs ws Q r as q;unfold NP at q
 split at q
 .obtain⟨v,rfl,a⟩:=as.one
  split at q
  .rename_i AK e;obtain⟨p,rfl,AV⟩:=aeB r.hd a e;rw[A_]at AV
   split at q
   .rename_i AF;exact⟨p,AK,rfl,AV,AF,λl AF=>OZ r q AF EA (en _)⟩
   .exact q.elim
  .exact q.elim
 .exact q.elim
def aib(hm:X.mg "sorted"=none)(AG:Hd X F [e] ma)(AI:X.calm=true:=by rfl)(A_:F.K=X.K:=by rfl)(Am:Ek X "sorted":=by rfl)(s:M9 X e [] pos:=by exact{}):Ab X F (.Call (.Name "sorted" p) [e] [] pos) (Aw NP ma):=⟨Af.imp (XA (wL AI) Am hm (by kernel_rfl) AG.p ε ε s.he s.GW) (Pr (adm A_))⟩
end
end Bq
namespace B3
open PyProof.Rows
section
variable{X:Aq}{st:BG}{t:FL}
theorem Df.GD(h:Df X.GD st t):Df X st t:=λA4 s σ H D J hw=>
 Hh (h A4 s σ H D (J.Kl _) hw) (λ_ _ q=>q.Kk) λ_ _ z=>Hi z
end
section
variable{X:Aq}{A4:μ}{σ :St}{H:AE}{s:AS}{r:A7}
def Inv.swap(J:θ){o o':FR}(e:H r=↥o)(ok:Dp X.prog X.w (upd H r o') s.heap r o')(E4:∀xs,o≠.tup xs)(FQ:∀x,o≠.own x)(S9:∀ps,o≠.PT ps)(JD:∀BD u,X.LB r≠↥(.D7 BD u)):Inv X A4 σ (upd H r o') s:=by
 have ne:∀{b:A7},H b=none->b≠r:=λz q=>by subst q;rw[e]at z;cases z
 have Bf:∀{b:A7}{u:FR},H b=↥u->u≠o->upd H r o' b=↥u:=λ{b u} z q=>by
  by_cases A5:b=r
  .subst A5;rw[e]at z;cases z;exact absurd rfl q
  .rw[DJ A5];exact z
 refine⟨J.ok,J.os,J.bare,⟨J.base.keep,J.base.slot,λb BD h1 h2 BO=>?_,J.base.there,λb xs q=>Bf (J.base.JI b xs q) λz=>E4 xs z.symm,λb BD u q=>?_,λb ps q=>?_⟩,J.loc,J.cell,?_,λx c q=>?_,λp AV=>?_,λa u q=>?_,J.len⟩
 .have:=J.base.free b BD h1 h2 BO;rw[DJ (ne this)];exact this
 .by_cases A5:b=r
  .subst A5;exact absurd q (JD BD u)
  .rw[DJ A5];exact J.base.Hr b BD u q
 .obtain⟨more,q⟩:=J.base.JH b ps q;exact⟨more,Bf q λz=>S9 _ z.symm⟩
 .rw[DJ (ne J.free)];exact J.free
 .rw[DJ (ne (J.KQ x c q))];exact J.KQ x c q
 .obtain⟨h1,h2,BO⟩:=J.pin p AV;exact⟨h1,by rw[DJ (ne h2)];exact h2,BO⟩
 .by_cases AG:a=r
  .subst AG;rw[EA]at q;cases q;exact ok
  .rw[DJ AG]at q;exact(J.Az a u q).NR (λ_ _ _ z=>z) (λb z=>Bf z λy=>FQ _ y.symm) λb xs z=>Bf z λy=>E4 _ y.symm
end
noncomputable def d7(a:A7)(o:Obj)(AA:↑(Key×V)):It:=
 ⟨λi H=>H a=↥(.D7 o (.Al AA))/\i< ⇑AA,λi H x AB=>AB=H/\∃Bv,AA[i]?=↥Bv/\x=Cj Bv.1,λi H=>H a=↥(.D7 o (.Al AA))/\i=⇑AA⟩
theorem nR{P:C9}{w:Bl}:∀{es:↑L5}{vs:↑(Key×A9)}{AA:↑(Key×V)},Pairs (Gm P w) es vs->Em AA vs->⇑es=⇑AA/\∀(i:Nat) e,es[i]?=↥e->∃Bv,AA[i]?=↥Bv/\RelV (Cj Bv.1) e.key
 |_,_,_,.nil,.nil=>⟨rfl,λi e h=>by simp at h⟩
 |_,_,Bv::_,.cons a _ p,.cons b r=>by
  obtain⟨l,g⟩:=nR p r;refine⟨by simp[l],λi e h=>?_⟩;cases i with
  |zero=>
   simp at h;subst h;refine⟨Bv,rfl,?_⟩;rw[gK,<-b.1]at a;rcases Lx a with⟨j,t,AD,AH⟩|⟨x,t,AD,AH⟩
   .rw[AD,AH];exact⟨t,rfl⟩
   .rw[AD,AH];exact⟨t,rfl⟩
  |succ i=>obtain⟨c2,h1,h2⟩:=g i e (h:);exact⟨c2,(h1:),h2⟩
def agZ{P:C9}{w:Bl}{K:At}{CE:Ah}{a it:A7}{o:Obj}{AA:↑(Key×V)}{es:Array L5}{Ao:Nat}(J7:a≠it)(AJ:o.ExactDict)(hd:o.data=.dict es Ao)(AF:es.size=⇑AA)(AR:∀(i:Nat) e,es.toList[i]?=↥e->∃Bv,AA[i]?=↥Bv/\RelV (Cj Bv.1) e.key) :
  Turn P w K CE (d7 a o AA) [it] it (λi h=>h.IsKeyIter it a i es.size Ao) where
 mem:=γ
 obj:=λi h st b A5=>by
  have e:b=it:=(A5:)
  subst e;obtain⟨o,e,c,d⟩:=st;exact⟨o,e,λv z=>by rw[d]at z;cases z⟩
 keep:=λi h h' st k=>st.at λo e=>k it γ o e
 item:=by
  nofun;obtain⟨AW,hi⟩:=Am;have ho:s.heap.get? a=↥o:=(show Dp X.prog X.w H s.heap a (.D7 o (.Al AA))from J.Az a _ AW).1;obtain⟨f0,f1,f2,Ev,f4,GU⟩:=hf it γ;have lj:i<es.size:=δ
  refine LT.oO st ⟨o,ho,AJ,hd⟩ lj λh' HA Fc=>?_;have Ac:Inv X A4 σ H { s with heap:=h' }:=J.turned (t':=s.toks) (λb o A5 e=>(Fc.2 b A5).trans e) f0 f1 Ev f4 GU;obtain⟨Bv,AD,AH⟩:=AR i es[i] (by simp[lj]);obtain⟨o',e,c,d⟩:=id HA;exact⟨_,rfl,TO (s:={ s with heap:=h' }) e c d ε ⟨Cj Bv.1,H,Ac,AH,⟨rfl,Bv,AD,rfl⟩,HA,λb A5=>(hf b A5).1⟩⟩
 done:=by nofun;obtain⟨AW,hi⟩:=Am;have ho:s.heap.get? a=↥o:=(show Dp X.prog X.w H s.heap a (.D7 o (.Al AA))from J.Az a _ AW).1;obtain⟨f0,f1,f2,Ev,f4,GU⟩:=hf it γ;rw[hi,<-AF]at st;exact LT.oN (J.ok.hd AI) st ⟨o,ho,AJ,hd⟩ λh' BE=>⟨rfl,J.turned (t':=s.toks) (λb o A5 e=>BE b o A5 e) f0 f1 Ev f4 GU⟩
 self:=λ_ _ _ _ _ st h=>wpAny_pyIter_keyiter st h
section
variable{X:Aq}{CE:Ah}
def Wn(X:Aq)(mk:A7->Obj->↑(Key×V)->It)(KF:TE):TI:=λσ H R=>KF σ H λx H1=>∃a AA,x=.ref a/\H1 a=↥(.Al AA)/\∀o,(∀BD u,X.LB a≠↥(.D7 BD u))->R (mk a o AA) (upd H1 a (.D7 o (.Al AA)))
def ael{e:Ah}{KF:TE}(AF:Af X e KF):Hk X CE e (Wn X d7 KF):=by
 intro A4 s σ H R J h;refine BV (AF A4 s σ H _ J h) λv s1⟨x,H1,Ac,Ax,q1⟩=>?_;obtain⟨a,AA,rfl,AG,k⟩:=q1;cases Ax;obtain⟨z,hd,vs,rel,dd⟩:=Ob Ac.Az AG;obtain⟨o,es,Ao,g1,g2,g3,g4,KR,WZ⟩:=id dd;obtain⟨l,g⟩:=nR KR rel;have hz:es.size=⇑AA:=by rw[<-l];simp
 have JD:∀BD u,X.LB a≠↥(.D7 BD u):=λBD u q=>by have:=Ac.base.Hr a BD u q;rw[AG]at this;cases this
 refine LT.oP hd ⟨o,g1,g2,g3⟩ ?_;have J7:a≠s1.heap.objs.size:=F7 (Dk g1);have BW:=Ac.swap (o':=.D7 o (.Al AA)) AG ⟨g1,z,hd,vs,rel,dd⟩ (λ_ q=>nomatch q) (λ_ q=>nomatch q) (λ_ q=>nomatch q) JD;refine⟨s1.heap.objs.size,[s1.heap.objs.size],_,_,_,rfl,BW.kept (t':=s1.toks) λb o e=>Cy _ e,agZ J7 g2 g3 hz g,⟨_,Fe _ rfl,rfl,rfl⟩,λb A5=>?_,k o JD⟩;have e:b=s1.heap.objs.size:=(A5:)
 subst e;exact BW.Mo (C1 _) (BW.Az.fresh (C1 _))
def Tb(X:Aq)(Q:AE->Prop)(H:AE):Prop:=∃r o AA,(∀BD u,X.LB r≠↥(.D7 BD u))/\H r=↥(.D7 o (.Al AA))/\Q (upd H r (.Al AA))
noncomputable def Ends.I5(X:Aq)(D:Ends):Ends:=⟨λσ =>Tb X (D.AT σ),λv=>Tb X (D.EX v),λ_ _=>False,λ_ _=>False⟩
def hL{A4:μ}{σ :St}{H:AE}{s:AS}{Q:AE->Prop}(J:θ)(q:Tb X Q H):∃AB,Inv X A4 σ AB s/\Q AB:=by obtain⟨r,o,AA,JD,e,q⟩:=q;exact⟨_,J.swap (o':=.Al AA) e (show Dp X.prog X.w (upd H r (.Al AA)) s.heap r (.Al AA)from(show Dp X.prog X.w H s.heap r (.D7 o (.Al AA))from J.Az r _ e).2) (λ_ q=>nomatch q) (λ_ q=>nomatch q) (λ_ q=>nomatch q) JD,q⟩
def nC{st:BG}{t:FL}(h:Df X st t):Df X st (λD σ H=>t (D.I5 X) σ H):=λA4 s σ H D J hw=>
 BV (h A4 s σ H _ J hw) λf s' q=>by
  cases f with
  |next=>obtain⟨σ',AB,FW,q⟩:=q;obtain⟨AU,BW,q2⟩:=hL FW q;exact⟨σ',AU,BW,q2⟩
  |brk=>obtain⟨σ',AB,FW,q⟩:=q;cases q
  |cont=>obtain⟨σ',AB,FW,q⟩:=q;cases q
  |ret u=>obtain⟨v,σ',AB,FW,r,q⟩:=q;obtain⟨AU,BW,q2⟩:=hL FW q;exact⟨v,σ',AU,BW,r,q2⟩
end
end B3
namespace Bq
section
variable{X:Aq}{F:D6}{e a b o:Ah}{es:↑Ah}{pos p D2:Pos}{m n:BB}{ma:EY}{CE iter c:Ah}{g:DM}{body:↑BG}{mi:GT}{Gs:Ak}{XX:DX}
noncomputable def HM:R (FU×A6)->R (FU×A6)
 |.exc _ _=>.bad
 |r=>r
def S0(m:Ak):Ak:=λρ h=>HM (m ρ h)
def Rel.hU{φ:↑A7}{h:A6}{H:AE}{σ :St}{ρ:BC}(r:Rel F.AT φ h H σ ρ):Rel F φ h H σ ρ:=⟨r.hd,r.x0,r.len,r.Bm⟩
def aH{m:Ak}:Ko (Ga F (S0 m)) (Ga F.AT m):=λDe σ H⟨φ,ρ,h,r,q⟩=>by
 refine⟨φ,ρ,h,r.AT,?_⟩;unfold S0 at q;cases e:m ρ h with
 |bad=>rw[e]at q;exact q
 |exc c h'=>rw[e]at q;cases q
 |ok p=>
  rw[e]at q;obtain⟨f,h1⟩:=p;cases f with
  |AT Ee=>exact λσ' BL AB r x=>q σ' BL AB r.hU x
  |Ba Ee=>exact λσ' BL AB r x=>q σ' BL AB r.hU x
  |DS Ee=>exact λσ' BL AB r x=>q σ' BL AB r.hU x
  |EX w=>exact q
def Ew(mi:GT)(g:DM)(b:Ak):Ak:=S0 (Q_ mi g b)
def cB(c:DX)(b:Ak):Ak:=S0 (Tv c b)
def aiY(hi:QB X.GD F.AT CE iter mi)(Am:QA X.GD F.AT CE g)(A5:Ku X.GD F.AT body Gs)(AI:X.calm=true:=by rfl)(AQ:∀x,OF iter X.env x=pure x:=by intro _;rfl):GK X F (.For CE iter body [] pos) (Ew mi g Gs):=
 ⟨Df.imp (Df.GD (fx Z7 AI hi.p Am.p A5.p AQ)) λDe σ H q=>zX De σ H (aH De σ H q)⟩
def ajw(AI:G4 X.GD F.AT c XX)(A5:Ku X.GD F.AT body Gs):GK X F (.While c body [] pos) (cB XX Gs):=
 ⟨Df.imp (Df.GD (agD Z7 AI.p A5.p)) λDe σ H q=>abF De σ H (aH De σ H q)⟩
def WB:Key->W
 |.inl i=>.int i
 |.inr x=>.str x
noncomputable def ez(AK:↑Key):HF:=λi _=>if i=⇑AK then↥none else(AK[i]?).map λk=>↥(WB k)
noncomputable def rQ(n:Nat):R (FU×A6)->R (FU×A6)
 |.ok (.AT ρ,h)=>match h[n]? with
  |some ⟨.H5 AK,ws⟩=>.ok (.AT ρ,h.set n ⟨.Al AK,ws⟩)
  |_=>.bad
 |.ok (.EX w,h)=>match h[n]? with
  |some ⟨.H5 AK,ws⟩=>.ok (.EX w,h.set n ⟨.Al AK,ws⟩)
  |_=>.bad
 |_=>.bad
abbrev RE:=↑Key->↑W->HF
def cA(it:RE)(m:BB)(g:DM)(b:Ak):Ak:=bd m λw ρ h=>match w with
 |.ref n=>match h[n]? with
  |some ⟨.Al AK,ws⟩=>rQ n (Mn (it AK ws) g b K2 0 ρ (h.set n ⟨.H5 AK,ws⟩))
  |_=>.bad
 |_=>.bad
def Vj(it:RE)(mk:A7->Obj->↑(Key×V)->It):Prop:=∀(K:At)(φ:↑A7)(H:AE)(a:A7)(o:Obj)(AA:↑(Key×V))(ws:↑W),H a=↥(.D7 o (.Al AA))->Ai K φ H ws (AA.map (·.2))->Ix K φ H (it (AA.map (·.1)) ws) (mk a o AA)
section
variable{K:At}{φ:↑A7}{H:AE}{d:A7}{BD:Obj}{AA:↑(Key×V)}{u:FR}
mutual
theorem AX.I5(e:H d=↥(.D7 BD (.Al AA))):∀{w:W}{v:V},AX K φ H w v->AX K φ (upd H d u) w v
 |.non,_,h|.AN _,_,h|.int _,_,h|.str _,_,h|.ref _,_,h=>by simpa only[AX]using h
 |.tup _,_,h=>by erw[AX]at h |-;obtain⟨a,xs,AD,q,r⟩:=h;exact⟨a,xs,AD,by rw[DJ λz=>by subst z;rw[e]at q;cases q];exact q,Ai.I5 e r⟩
 |.IS _,_,h=>by
  erw[AX]at h |-;obtain⟨a,xs,AD,q,r⟩:=h;refine⟨a,xs,AD,?_,Ai.I5 e r⟩;rcases q with(q|⟨o,q⟩)|q
  .exact .inl (.inl (by rw[DJ λz=>by subst z;rw[e]at q;cases q];exact q))
  .exact .inl (.inr ⟨o,by rw[DJ λz=>by subst z;rw[e]at q;cases q];exact q⟩)
  .exact .inr q
 |.Dm _,_,h=>by
  erw[AX]at h |-;obtain⟨a,xs,AD,q,r⟩:=h;refine⟨a,xs,AD,?_,Ai.I5 e r⟩;rcases q with⟨o,q⟩|q
  .exact .inl ⟨o,by rw[DJ λz=>by subst z;rw[e]at q;cases q];exact q⟩
  .exact .inr q
 |.Oh _,_,h=>by erw[AX]at h |-;obtain⟨a,C,AD,c,q⟩:=h;exact⟨a,C,AD,c,by rw[DJ λz=>by subst z;rw[e]at q;cases q];exact q⟩
theorem Ai.I5(e:H d=↥(.D7 BD (.Al AA))):∀{ws:↑W}{vs:↑V},Ai K φ H ws vs->Ai K φ (upd H d u) ws vs
 |[],_,h=>by simpa only[Ai]using h
 |_::_,_,h=>by erw[Ai]at h |-;obtain⟨v,r,AD,q,t⟩:=h;exact⟨v,r,AD,AX.I5 e q,Ai.I5 e t⟩
end
theorem DL.I5{h:A6}{n:Nat}{AK:↑Key}{ws:↑W}(x:DL K φ h H)(Au:h[n]?=↥⟨.H5 AK,ws⟩)(BS:φ[n]?=↥d)(e:H d=↥(.D7 BD (.Al AA))):DL K φ (h.set n ⟨.Al AK,ws⟩) (upd H d (.Al AA)):=by
 refine⟨x.Bz,by simp[x.len],λm EG b AD AH=>?_⟩;by_cases hm:n=m
 .subst hm;rw[L3 (List.getElem?_eq_some_iff.mp Au).1]at AD;rw[BS]at AH;cases AD;cases AH;obtain⟨xs,⟨o,alM,q,q1,q2⟩,r⟩:=x.BD n _ d Au BS;rw[e]at q;cases q;exact⟨xs,⟨AA,EA,q1,q2⟩,Ai.I5 e r⟩
 .rw[MR hm]at AD;obtain⟨ys,Cm,Bd⟩:=x.BD m EG b AD AH;refine⟨ys,Cm.same (DJ λz=>?_),Ai.I5 e Bd⟩;subst z;obtain⟨Cb,J8⟩:=List.getElem?_eq_some_iff.mp BS;obtain⟨FO,JY⟩:=List.getElem?_eq_some_iff.mp AH;exact hm ((ZD x.Bz).mp (J8.trans JY.symm))
end
def aaz:Vj (λAK _=>ez AK) d7:=λK φ H a o AA ws e _ i CP h2 AU d x=>by
 have AH:=x.t a _ e trivial;unfold ez;dsimp only;by_cases hi:i=⇑AA
 .rw[if_pos (hi:)];exact⟨λ_=>⟨AH,hi⟩,λw z=>by cases z⟩
 .rw[if_neg (hi:)];cases DN:AA[i]? with
  |none=>simp[DN]
  |some Bv=>refine⟨(λz=>by simp[DN]at z),λw z=>?_⟩;simp[DN]at z;subst z;refine⟨⟨AH,(List.getElem?_eq_some_iff.mp DN).1⟩,λy AB AP=>?_⟩;obtain⟨rfl,c2,Bb,rfl⟩:=AP;rw[DN]at Bb;cases Bb;refine⟨d,Ag.refl _ _,?_⟩;cases Bv.1<;>erw[WB,AX,Cj]
def lJ{it:RE}{mk:A7->Obj->↑(Key×V)->It}(ok:Vj it mk):Ko (Ga F (cA it m g Gs)) (λDe σ H=>YY (Wn X mk (CB F m)) (MN F g) (Ga F Gs) (De.I5 X) σ H):=λDe σ H q=>by
 obtain⟨φ,ρ,h,r,q⟩:=q;refine⟨φ,ρ,h,r,EQ.bd q λw v C0 h1 H1 Ax Cu EH q=>?_⟩
 split at q
 .rename_i n
  split at q
  .rename_i AK ws Au;obtain⟨a,xs,rfl,BS,⟨AA,AG,rfl,rfl⟩,BN⟩:=Ax.hd.at Au EH;refine⟨a,AA,rfl,AG,λo JD=>?_⟩;have ns:¬Still (.Al AA):=λz=>z;have Xr:Ag C0 H1 C0 (upd H1 a (.D7 o (.Al AA))):=Ag.put AG ns;have Ge:=Ax.to (Ax.hd.put (o':=⟨.H5 _,ws⟩) Au BS AG ns ⟨o,AA,EA,rfl,rfl⟩ BN) Xr;have Ba:∀BL AB,Ag C0 (upd H1 a (.D7 o (.Al AA))) BL AB->AB a=↥(.D7 o (.Al AA))/\BL[n]?=↥a/\Ag C0 H1 BL (upd AB a (.Al AA)):=λBL AB x=>⟨x.t a _ EA trivial,Cx x.p BS,x.p,λb u e s=>by
    have nb:b≠a:=λz=>by subst z;rw[AG]at e;cases e;exact s
    rw[DJ nb];exact x.t b u (by rw[DJ nb];exact e) s⟩
   refine for_in (De:=De.I5 X) Ge (ok F.K C0 _ a o AA ws EA (BN.ex Xr)) ?_;cases e:Mn (it (AA.map (·.1)) ws) g Gs K2 0 ρ (h1.set n ⟨.H5 (AA.map (·.1)),ws⟩)with
   |bad=>rw[e]at q;cases q
   |exc c h'=>rw[e]at q;cases q
   |ok p=>
    rw[e]at q;obtain⟨f,h2⟩:=p;cases f with
    |AT Ds=>
     intro σ2 CP AU BK Ca;obtain⟨Cw,Fv,PI⟩:=Ba CP AU Ca;have q:EQ F C0 H1 De (match h2[n]? with
      |some ⟨.H5 AK,ws⟩=>.ok (.AT Ds,h2.set n ⟨.Al AK,ws⟩)
      |_=>.bad):=q
     split at q
     .rename_i Nj ws' VW;refine⟨a,o,AA,JD,Cw,q σ2 CP _ ⟨BK.hd.I5 VW Fv Cw,Ax.x0.trans PI,BK.len,λi w e=>?_⟩ PI⟩;obtain⟨v,AD,q1⟩:=BK.Bm i w e;exact⟨v,AD,AX.I5 Cw q1⟩
     .exact q.elim
    |EX w=>
     intro v CP AU Eh Ca a2;obtain⟨Cw,Fv,PI⟩:=Ba CP AU Ca;have q:EQ F C0 H1 De (match h2[n]? with
      |some ⟨.H5 AK,ws⟩=>.ok (.EX w,h2.set n ⟨.Al AK,ws⟩)
      |_=>.bad):=q
     split at q
     .rename_i Nj ws' VW;exact⟨a,o,AA,JD,Cw,q v CP _ (Eh.I5 VW Fv Cw) PI (AX.I5 Cw a2)⟩
     .exact q.elim
    |Ba _=>cases q
    |DS _=>cases q
  .exact q.elim
 .exact q.elim
def adR(m:BB)(g:DM)(b:Ak):Ak:=S0 (cA (λAK _=>ez AK) m g b)
def aiX(hi:Ab X.GD F.AT iter m)(Am:QA X.GD F.AT CE g)(A5:Ku X.GD F.AT body Gs)(AI:X.calm=true:=by rfl)(AQ:∀x,OF iter X.env x=pure x:=by intro _;rfl):GK X F (.For CE iter body [] pos) (adR m g Gs):=
 ⟨Df.imp (Df.GD (nC (fx Z7 AI (ael hi.p) Am.p A5.p AQ))) λDe σ H q=>lJ aaz De σ H (aH De σ H q)⟩
end
end Bq
namespace B3
open PyProof.Rows
section
variable{X:Aq}
def jT(a:A7)(n:Nat)(h:BF):Prop:=∃o es Ao t,h.get? a=↥o/\o.ExactSet/\o.data=.set es Ao t/\t.fits es.size=true/\es.size=n
def YU(a:A7)(n:Nat):FR:=.ext (jT a n)
def ags{P:C9}{w:Bl}{H:AE}{h:BF}{a:A7}{n:Nat}(x:jT a n h):Dp P w H h a (YU a n):=
 ⟨x,by obtain⟨o,_,_,_,e,_⟩:=x;exact⟨o,e⟩,λh1 h2 y k=>by obtain⟨o,es,Ao,t,e,r⟩:=y;exact⟨o,es,Ao,t,k o e,r⟩⟩
def ia(H:AE)(ys:↑V)(keys:↑↑Key):Prop:=⇑keys=⇑ys/\∀(i:Nat) y k,ys[i]?=↥y->keys[i]?=↥k->∃b,y=.ref b/\H b=↥(.tup (k.map Cj))
def afp(K:At):↑V->AE->CQ->Prop:=λxs H Q=>∃p ys keys,xs=[.ref p]/\Es K H p ys/\ ⇑ys<77/\ia H ys keys/\keys.Nodup/\∀l,H l=none->Q (.ref l) (upd H l (YU l ⇑keys))
def wJ(hh:X.A.handled=none)(BR:X.A.units+64<E8):JR X (.type "set") (afp X.K):=by
 intro A4 s σ H xs us Q J r h;obtain⟨p,ys,keys,rfl,AW,AM,⟨AF,AR⟩,Bz,q⟩:=h;obtain⟨u,rfl,Av⟩:=vals1 r;cases Av;obtain⟨its,Bd,pl,hz⟩:=J.list AW;have hlen:=⇑Bd;refine ZQ.wK (knd:=Gm X.prog X.w) (items:=its.toArray) (keys:=keys) hh BR pl.isList (by rw[DU];lia) Bz (by rw[DU];lia) (λi v Bg=>?_) λh' Ce T Bf=>?_
 .have Bg:its[i]?=↥v:=by simpa using Bg
  have hi:=(List.getElem?_eq_some_iff.mp Bg).1;have DG:ys[i]?=↥ys[i]:=CT δ;have DN:keys[i]?=↥keys[i]:=CT δ;obtain⟨b,AD,AH⟩:=AR i _ _ DG DN;obtain⟨JJ,aB,Bw⟩:=Bd.get DG;rw[Bg]at aB;cases aB;rw[AD]at Bw;cases Bw;exact⟨b,_,rfl,DN,Rs J.Az AH⟩
 .exact⟨.ref s.heap.objs.size,_,J.laid (t':=Ce) Bf (C1 _) (ags T),rfl,q _ (J.Az.fresh (C1 _))⟩
def afn:↑V->AE->CQ->Prop:=λxs H Q=>∃a n,xs=[.ref a]/\H a=↥(YU a n)/\n<1000/\Q (.int n) H
def ug:JR X (.builtin "len") afn:=by intro A4 s σ H xs us Q J r h;obtain⟨a,n,rfl,AG,AM,q⟩:=h;obtain⟨u,rfl,Av⟩:=vals1 r;cases Av;obtain⟨⟨o,es,Ao,t,g1,g2,g3,g4,KR⟩,_⟩:=(show Dp X.prog X.w H s.heap a (YU a n)from J.Az a _ AG);subst KR;exact call_len_set g1 g2 g3 g4 δ ⟨.int es.size,H,J.tok _,⟨_,rfl⟩,q⟩
noncomputable def g8(b:Bool):F0:=λx y H Q=>∃p q AA,x=.ref p/\y=.ref q/\Kr H p (.Al AA)/\H q=↥(.Al [])/\Q (.AN (AA.isEmpty==b)) H
def o6(BR:X.A.units+64<E8):Dt X (GS .Eq) (g8 true):=by
 intro A4 s σ H x y v u Q J Av Bh h;obtain⟨p,q,AA,rfl,rfl,AV,AW,h⟩:=h;obtain rfl:v=Cv p:=Av;obtain rfl:u=Cv q:=Bh;obtain⟨Fi,d1,vs,Ax,GX⟩:=O7 J.Az AV;obtain⟨F6,Eh,us,BK,GY⟩:=Ob J.Az AW;have FZ:us=[]:=by cases BK;rfl
 subst FZ;have AR:(⇑vs==⇑([]:↑(Key×A9))&&true)=AA.isEmpty:=by cases Ax<;>rfl
 refine PySem.W.keq_eq (r:=true) d1 Eh GX GY δ (λe=>?_) ?_
 .cases vs with
  |nil=>exact .nil
  |cons _ _=>simp at e
 .rw[AR];exact⟨.AN _,H,J,rfl,(h:)⟩
def oA(BR:X.A.units+64<E8):Dt X (GS .NotEq) (g8 false):=by
 intro A4 s σ H x y v u Q J Av Bh h;obtain⟨p,q,AA,rfl,rfl,AV,AW,h⟩:=h;obtain rfl:v=Cv p:=Av;obtain rfl:u=Cv q:=Bh;obtain⟨Fi,d1,vs,Ax,GX⟩:=O7 J.Az AV;obtain⟨F6,Eh,us,BK,GY⟩:=Ob J.Az AW;have FZ:us=[]:=by cases BK;rfl
 subst FZ;have AR:(⇑vs==⇑([]:↑(Key×A9))&&true)=AA.isEmpty:=by cases Ax<;>rfl
 refine PySem.W.keq_ne (r:=true) d1 Eh GX GY δ (λe=>?_) ?_
 .cases vs with
  |nil=>exact .nil
  |cons _ _=>simp at e
 .rw[AR];exact⟨.AN _,H,J,rfl,(h:)⟩
end
end B3
namespace Bq
section
variable{X:Aq}{F:D6}{e a b o:Ah}{es:↑Ah}{pos p D2 F3 pos':Pos}{m n:BB}{ma:EY}
noncomputable def TF(b:Bool):W->A6->R (W×A6):=λw h=>match w with
 |.ref n=>match h[n]? with
  |some ⟨.Al AK,_⟩=>.ok (.AN (AK.isEmpty==b),h)
  |some ⟨.H5 AK,_⟩=>.ok (.AN (AK.isEmpty==b),h)
  |_=>.bad
 |_=>.bad
def aF(b:Bool):Fk (CB F (B0 (TF b) m)) (Un (g8 b) (CB F m) hJ):=λσ H Q q=>
 q.bd λw v φ ρ h H1 r EH q p AV=>by
   have BK:=r.to (r.hd.lay (o:=.Al []) AV) (Ag.lay AV);unfold TF at q
   split at q
   .split at q
    .rename_i AK ws Au;obtain⟨d,xs,rfl,CM,⟨AA,AG,rfl,rfl⟩,BN⟩:=r.hd.at Au EH;refine⟨d,p,AA,rfl,rfl,.inl (by rw[DJ (LK AG AV)];exact AG),EA,q _ φ _ BK (Ag.lay AV) ?_⟩;erw[AX];cases AA<;>rfl
    .rename_i AK ws Au;obtain⟨d,xs,rfl,CM,⟨o,AA,AG,rfl,rfl⟩,BN⟩:=r.hd.at Au EH;refine⟨d,p,AA,rfl,rfl,.inr ⟨o,by rw[DJ (LK AG AV)];exact AG⟩,EA,q _ φ _ BK (Ag.lay AV) ?_⟩;erw[AX];cases AA<;>rfl
    .exact q.elim
   .exact q.elim
def ahU(BR:X.A.units+64<E8)(AG:Ab X F a m):Ab X F (.Compare a [.Eq] [.Dict [] [] D2] pos) (B0 (TF true) m):=⟨Af.imp (MH (o6 BR) AG.p XC (I9 _)) (aF true)⟩
def ajz(BR:X.A.units+64<E8)(AG:Ab X F a m):G4 X F (.Compare a [.Eq] [.Dict [] [] D2] pos) (Aa (B0 (TF true) m)):=⟨El.imp (MI (o6 BR) AG.p XC (I9 _)) λσ H Q q=>aF true σ H _ (KU σ H Q q)⟩
def ajE(BR:X.A.units+64<E8)(AG:Ab X F a m):Ab X F (.Compare a [.NotEq] [.Dict [] [] D2] pos) (B0 (TF false) m):=⟨Af.imp (MH (oA BR) AG.p XC (I9 _)) (aF false)⟩
def ak7(BR:X.A.units+64<E8)(AG:Ab X F a m):G4 X F (.Compare a [.NotEq] [.Dict [] [] D2] pos) (Aa (B0 (TF false) m)):=⟨El.imp (MI (oA BR) AG.p XC (I9 _)) λσ H Q q=>aF false σ H _ (KU σ H Q q)⟩
def agX{K:At}{φ:↑A7}{H:AE}{ws:↑W}{AK:↑FC}{xs:↑V}(e:ws.mapM Nu=↥AK)(a:Ai K φ H ws xs):ia H xs AK:=by
 have p:=ee (P:=λk v=>∃b,v=.ref b/\H b=↥(.tup (k.map Cj))) gQ e a;exact⟨⇑p,λi y k AD AH=>by
  clear e a;induction p generalizing i with
  |nil=>cases AD
  |cons r _ CI=>
   cases i with
   |zero=>cases AD;cases AH;exact r
   |succ i=>exact CI i AD AH⟩
def WK:LA:=λws h=>match ws with
 |[w]=>match E5 h w with
  |some (false,us)=>if ⇑us<77 then match us.mapM Nu with
   |some AK=>if AK.Nodup then .ok (.int ⇑AK,h)else .bad
   |none=>.bad
   else .bad
  |_=>.bad
 |_=>.bad
def aj3{k:Nat}(B6:DD k X.A)(hm:X.mg "len"=none)(Ms:X.mg "set"=none)(AG:Hd X F [e] ma)(A_:F.K=X.K:=by rfl)(Am:Ek X "len":=by rfl)(Wi:Ek X "set":=by rfl)(AQ:C8 [.Call (.Name "set" F3) [e] [] pos'] X.env=(false,BM (.Call (.Name "set" F3) [e] [] pos') X.env)::C8 [] X.env:=by rfl)(he:C8 [e] X.env=(false,BM e X.env)::C8 [] X.env:=by rfl)(GW:(F8 pos (C8 [] X.env)).any (·.1)=false:=by rfl)(aaI:(F8 pos' (C8 [] X.env)).any (·.1)=false:=by rfl) :
  Ab X F (.Call (.Name "len" p) [.Call (.Name "set" F3) [e] [] pos'] [] pos) (Aw WK ma):=
 ⟨Af.imp (XA ug Am hm PySem.boot_len (Qj (XB (wJ B6.hd B6.units) Wi Ms (by kernel_rfl) AG.p ε ε he aaI) Tr AQ) ε ε AQ GW) λσ H Q q=>
   q.bd λws vs φ ρ h H1 r as q=>by
     unfold WK at q
     split at q
     .obtain⟨v,rfl,EH⟩:=as.one
      split at q
      .rename_i us es;obtain⟨d,xs,rfl,AW,BN⟩:=JG r.hd EH es
       split at q
       .rename_i AF
        split at q
        .rename_i AK DN
         split at q
         .rename_i Bz;have kt:=agX DN BN;have Ea:=⇑BN;have AW:Es F.K H1 d xs:=AW;refine⟨d,xs,AK,rfl,A_▸AW,δ,kt,Bz,λl Le=>?_⟩;have:=kt.1;exact⟨l,_,rfl,EA,δ,q _ φ _ (r.to (r.hd.lay Le) (Ag.lay Le)) (Ag.lay Le) (by erw[AX])⟩
         .exact q.elim
        .exact q.elim
       .exact q.elim
      .exact q.elim
     .exact q.elim⟩
end
end Bq
namespace B3
open PyProof.Rows
theorem f7:∀{AA:↑(Key×V)}{vs:↑(Key×A9)},Em AA vs->∀(i:Nat) Bv,AA[i]?=↥Bv->∃v,vs[i]?=↥(Bv.1,v)/\RelV Bv.2 v
 |_,_,.nil,i,Bv,e=>by simp at e
 |_,_,.cons h t,0,Bv,e=>by simp at e;subst e;rename_i p q _ _;exact⟨q.2,by rw[h.1];rfl,h.2⟩
 |_,_,.cons h t,i+1,Bv,e=>by obtain⟨v,AD,AH⟩:=f7 t i Bv (e:);exact⟨v,(AD:),AH⟩
theorem Ox:∀{AA:↑(Key×V)}{vs:↑(Key×A9)},Em AA vs->⇑AA=⇑vs
 |_,_,.nil=>rfl
 |_,_,.cons _ t=>by simp[Ox t]
def TH{P:C9}{w:Bl}{H:AE}{h:BF}{a:A7}{o:Obj}{AA:↑(Key×V)}{es:Array L5}{Ao:Nat}(hd:o.data=.dict es Ao)(x:Dp P w H h a (.D7 o (.Al AA))):∃vs,Em AA vs/\h.DictAt (Gm P w) a vs Ao:=by obtain⟨ho,z,AP,vs,rel,o',es',N_,g1,g2,g3,g4,KR,WZ⟩:=x;rw[ho]at g1;cases g1;rw[hd]at g3;cases g3;exact⟨vs,rel,_,_,ho,g2,hd,g4,KR,WZ⟩
noncomputable def dC(a:A7)(o:Obj)(AA:↑(Key×V)):It:=
 ⟨λi H=>H a=↥(.D7 o (.Al AA))/\i< ⇑AA,λi H x AB=>AB=H/\∃Bv,AA[i]?=↥Bv/\x=Bv.2,λi H=>H a=↥(.D7 o (.Al AA))/\i=⇑AA⟩
def ah4{P:C9}{w:Bl}{K:At}{CE:Ah}{a it:A7}{o:Obj}{AA:↑(Key×V)}{es:Array L5}{Ao:Nat}(J7:a≠it)(hd:o.data=.dict es Ao) :
  Turn P w K CE (dC a o AA) [it] it (λi h=>h.IsValIter it a i ⇑AA Ao) where
 mem:=γ
 obj:=λi h st b A5=>by
  have e:b=it:=(A5:)
  subst e;obtain⟨o,e,c,d⟩:=st;exact⟨o,e,λv z=>by rw[d]at z;cases z⟩
 keep:=λi h h' st k=>by obtain⟨o,e,c,d⟩:=st;exact⟨o,k it γ o e,c,d⟩
 item:=by nofun;obtain⟨AW,hi⟩:=Am;obtain⟨vs,rel,dd⟩:=TH hd (show Dp X.prog X.w H s.heap a (.D7 o (.Al AA))from J.Az a _ AW);obtain⟨f0,f1,f2,Ev,f4,GU⟩:=hf it γ;obtain⟨v,ev,Bw⟩:=f7 rel i AA[i] (CT hi);rw[Ox rel]at st;refine wpAny_pyNext_values_item st dd ev λh' HA Fc=>?_;have Ac:Inv X A4 σ H { s with heap:=h' }:=J.turned (t':=s.toks) (λb o A5 e=>(Fc.2 b A5).trans e) f0 f1 Ev f4 GU;obtain⟨o',e,c,d⟩:=id HA;rw[<-Ox rel]at HA;exact⟨_,rfl,TO (s:={ s with heap:=h' }) e c d ε ⟨AA[i].2,H,Ac,Bw,⟨rfl,_,CT hi,rfl⟩,HA,λb A5=>(hf b A5).1⟩⟩
 done:=by nofun;obtain⟨AW,hi⟩:=Am;obtain⟨vs,rel,dd⟩:=TH hd (show Dp X.prog X.w H s.heap a (.D7 o (.Al AA))from J.Az a _ AW);obtain⟨f0,f1,f2,Ev,f4,GU⟩:=hf it γ;rw[Ox rel]at st hi;exact wpAny_pyNext_values_end (J.ok.hd AI) st dd (by rw[hi];simp) λh' BE=>⟨rfl,J.turned (t':=s.toks) (λb o A5 e=>BE b o A5 e) f0 f1 Ev f4 GU⟩
 self:=λ_ _ _ _ _ st h=>wpAny_pyIter_valiter st h
def d9(a:A7)(o:Obj)(AA:↑(Key×V)):It:=
 ⟨λi H=>H a=↥(.D7 o (.Al AA))/\i< ⇑AA,λi H x AB=>∃p Bv,H p=none/\AB=upd H p (.tup [Cj Bv.1,Bv.2])/\x=.ref p/\AA[i]?=↥Bv,λi H=>H a=↥(.D7 o (.Al AA))/\i=⇑AA⟩
theorem aga{P:C9}{w:Bl}{K:At}{elts:↑Ah}{FG:Nat}{pos:Pos}{a it:A7}{o:Obj}{AA:↑(Key×V)}{es:Array L5}{Ao:Nat}(J7:a≠it)(hd:o.data=.dict es Ao) :
  Turn P w K (.Tuple elts FG pos) (d9 a o AA) [it] it (λi h=>∃ok CN,IsItemIter h it a i ⇑AA Ao ok CN) where
 mem:=γ
 obj:=λi h st b A5=>by
  obtain⟨ok,CN,e⟩:=st;obtain rfl:b=it:=(A5:)
  exact⟨_,e,λv z=>by have Fh:ZI _=Sx v:=z;cases Fh⟩
 keep:=λi h h' st k=>by obtain⟨ok,CN,e⟩:=st;exact⟨ok,CN,k it γ _ e⟩
 item:=by
  nofun;obtain⟨AW,hi⟩:=Am;obtain⟨ok,CN,hit⟩:=st;obtain⟨vs,rel,dd⟩:=TH hd (show Dp X.prog X.w H s.heap a (.D7 o (.Al AA))from J.Az a _ AW);obtain⟨v,ev,Bw⟩:=f7 rel i AA[i] (CT hi);rw[Ox rel]at hit;refine wpAny_pyNext_items_item hit dd ev λkey h' aY ho Bc AQ AR=>?_;refine⟨_,rfl,wpAny_letOwnedTupleGo_items ho λh2 ll I8=>?_⟩;have Dj:s.heap.objs.size∉[it]:=λz=>by
   obtain rfl:s.heap.objs.size=it:=(z:)
   exact absurd (Dk hit) (Jj _)
  have keep:∀b o,b∉[it]->s.heap.get? b=↥o->h2.get? b=↥o:=λb o A5 q=>(I8.2 b (A5:)).trans (AR b o (A5:) q);have gF:RelV (Cj AA[i].1) key:=by
   rw[gK]at aY;rcases Lx aY with⟨j,t,AD,AH⟩|⟨x,t,AD,AH⟩
   .rw[AD,AH];exact⟨t,rfl⟩
   .rw[AD,AH];exact⟨t,rfl⟩
  have Wl:Yx h2 s.heap.objs.size (#[key,v]:Array A9):=⟨_,(I8.2 _ (Dj:)).trans Bc,rfl,_,rfl⟩;have z6:H s.heap.objs.size=none:=J.Az.fresh (C1 _);have BW:Inv X A4 σ (upd H s.heap.objs.size (.tup [Cj AA[i].1,AA[i].2])) { s with heap:=h2 }:=J.hP (its:=[key,v]) (ch:=[it]) (t':=s.toks) keep hf (C1 _) Wl (.cons gF (.cons Bw .nil)) (by show 2<=CO;decide);rw[<-Ox rel]at ll;refine⟨.ref s.heap.objs.size,_,BW,rfl,⟨s.heap.objs.size,AA[i],z6,rfl,rfl,CT hi⟩,⟨_,_,ll⟩,λb A5=>?_⟩;have nb:b≠s.heap.objs.size:=λz=>Dj (z▸A5);rw[DJ nb];exact(hf b A5).1
 done:=by nofun;obtain⟨AW,hi⟩:=Am;obtain⟨ok,CN,hit⟩:=st;obtain⟨vs,rel,dd⟩:=TH hd (show Dp X.prog X.w H s.heap a (.D7 o (.Al AA))from J.Az a _ AW);rw[Ox rel]at hit hi;exact wpAny_pyNext_items_end (J.ok.hd AI) hit dd (by rw[hi];simp) λh' AR=>⟨rfl,J.X0 (ch:=[it]) (t':=s.toks) (λb o A5 q=>AR b o (A5:) q) hf⟩
 self:=λA i s Q E st h=>by obtain⟨ok,CN,hit⟩:=st;have Dj:s.TypeIs (.ref it) "dict_itemiterator":=⟨_,hit,rfl⟩;refine wpAny_pyIter_slot Dj tT (OE tT Dj (show entryFor table "dict_itemiterator.__iter__"=↥Builtin.«dict_keyiterator.__iter__» by kernel_rfl) ?_ (F.args_dict_itemiterator_iter_1 _));show An _ _ (pure _) _ _ _;exact B_ ⟨_,rfl,"dict_itemiterator",_,Dj,F.slot_dict_itemiterator_next.lookup,h⟩
section
variable{X:Aq}
theorem aep{CE o:Ah}{HQ:TE}{apos Cg:Pos}(ho:Af X o HQ)(A5:JM o "values" X.env (BM o X.env)=BM o X.env:=by rfl)(AF:(apos.endLine==Cg.line)=true:=by rfl)(hf:((F8 Cg (C8 [] X.env)).all (λx=>!x.1)&&(Jp Cg (Jh [] X.env)).all (λx=>x.1.isSome)&&decide (⇑([]:↑Ah)+⇑([]:↑Jo)+(if([]:↑Jo).isEmpty then 0 else 1)<30))=true:=by rfl)(Bc:F8 Cg (C8 [] X.env)=[]:=by rfl) :
  Hk X CE (.Call (.Attribute o "values" apos) [] [] Cg) (Wn X dC HQ):=by
 intro A4 s σ H R J h;refine Z0 A5 hf AF Yi PySem.F.slot_dict_values PySem.F.type_dict_values (BV (ho A4 s σ H _ J h) λu s1⟨x,H1,Ac,Av,d,AA,ex,hd,q⟩=>?_);subst ex;obtain rfl:u=Cv d:=Av;obtain⟨t1,CK,_⟩:=bq Ac (.inl ⟨AA,.inl hd⟩);refine⟨t1,CK,?_⟩;rw[Bc];refine Sg rfl (hp ?_);obtain⟨z,AP,vs,rel,dd⟩:=Ob Ac.Az hd;obtain⟨BD,es,Ao,g1,g2,g3,g4,KR,WZ⟩:=id dd;have JD:∀BD u,X.LB d≠↥(.D7 BD u):=λBD u q=>by have:=Ac.base.Hr d BD u q;rw[hd]at this;cases this
 refine Sp F.slot_dict_values t1 F.entry_dict_values (F.args_dict_values_1 _) (meets_dict_values (Gm X.prog X.w) d AP) ⟨⟨vs,dd⟩,?_⟩;have BW:=Ac.swap (o':=.D7 BD (.Al AA)) hd ⟨g1,z,AP,vs,rel,dd⟩ (λ_ q=>nomatch q) (λ_ q=>nomatch q) (λ_ q=>nomatch q) JD;have D4:Inv X A4 σ _ { s1 with heap:=s1.heap.push { cls:=.type "dict_values",data:=.fields #[.ref d] } }:=BW.kept (t':=s1.toks) λb o e=>Cy _ e;obtain⟨aiK,gB,T9⟩:=TH g3 (show Dp X.prog X.w _ _ d (.D7 BD (.Al AA))from D4.Az d _ EA);refine wpAny_pyIter_values ⟨_,Fe _ rfl,rfl,rfl⟩ T9 ?_;have J7:d≠(s1.heap.push { cls:=.type "dict_values",data:=.fields #[.ref d] }).objs.size:=F7 (Dk (Cy _ g1));refine⟨_,[_],_,_,_,rfl,D4.kept (t':=s1.toks) λb o e=>Cy _ e,ah4 J7 g3,⟨_,Fe _ rfl,rfl,by rw[Ox gB];rfl⟩,λb A5=>?_,q BD JD⟩;obtain rfl:=List.mem_singleton.mp A5;exact D4.Mo (C1 _) (D4.Az.fresh (C1 _))
theorem aem{elts:↑Ah}{FG:Nat}{NW:Pos}{o:Ah}{HQ:TE}{apos Cg:Pos}(ho:Af X o HQ)(A5:JM o "items" X.env (BM o X.env)=BM o X.env:=by rfl)(AF:(apos.endLine==Cg.line)=true:=by rfl)(hf:((F8 Cg (C8 [] X.env)).all (λx=>!x.1)&&(Jp Cg (Jh [] X.env)).all (λx=>x.1.isSome)&&decide (⇑([]:↑Ah)+⇑([]:↑Jo)+(if([]:↑Jo).isEmpty then 0 else 1)<30))=true:=by rfl)(Bc:F8 Cg (C8 [] X.env)=[]:=by rfl) :
  Hk X (.Tuple elts FG NW) (.Call (.Attribute o "items" apos) [] [] Cg) (Wn X d9 HQ):=by
 intro A4 s σ H R J h;refine Z0 A5 hf AF Yi PySem.F.slot_dict_items PySem.F.type_dict_items (BV (ho A4 s σ H _ J h) λu s1⟨x,H1,Ac,Av,d,AA,ex,hd,q⟩=>?_);subst ex;obtain rfl:u=Cv d:=Av;obtain⟨t1,CK,_⟩:=bq Ac (.inl ⟨AA,.inl hd⟩);refine⟨t1,CK,?_⟩;rw[Bc];refine Sg rfl (hp ?_);obtain⟨z,AP,vs,rel,dd⟩:=Ob Ac.Az hd;obtain⟨BD,es,Ao,g1,g2,g3,g4,KR,WZ⟩:=id dd;have JD:∀BD u,X.LB d≠↥(.D7 BD u):=λBD u q=>by have:=Ac.base.Hr d BD u q;rw[hd]at this;cases this
 refine Sp F.slot_dict_items t1 F.entry_dict_items (F.args_dict_items_1 _) (meets_dict_items (Gm X.prog X.w) d AP) ⟨⟨vs,dd⟩,?_⟩;have BW:=Ac.swap (o':=.D7 BD (.Al AA)) hd ⟨g1,z,AP,vs,rel,dd⟩ (λ_ q=>nomatch q) (λ_ q=>nomatch q) (λ_ q=>nomatch q) JD;have D4:Inv X A4 σ _ { s1 with heap:=s1.heap.push { cls:=.type "dict_items",data:=.fields #[.ref d] } }:=BW.kept (t':=s1.toks) λb o e=>Cy _ e;obtain⟨aiK,gB,T9⟩:=TH g3 (show Dp X.prog X.w _ _ d (.D7 BD (.Al AA))from D4.Az d _ EA);refine wpAny_pyIter_items ⟨_,Fe _ rfl,rfl,rfl⟩ T9 ?_;have J7:d≠(s1.heap.push { cls:=.type "dict_items",data:=.fields #[.ref d] }).objs.size:=F7 (Dk (Cy _ g1));refine⟨_,[_],_,_,_,rfl,D4.kept (t':=s1.toks) λb o e=>Cy _ e,aga J7 g3,⟨_,_,by rw[Ox gB];exact Fe _ rfl⟩,λb A5=>?_,q BD JD⟩;obtain rfl:=List.mem_singleton.mp A5;exact D4.Mo (C1 _) (D4.Az.fresh (C1 _))
end
def afT{X:Aq}{e:Ah}{t:TE}(h:Af X e t):Af X e (λσ H Q=>t σ H λv=>Tb X (Q v)):=λA4 s σ H Q J hw=>
 BV (h A4 s σ H _ J hw) λv s'⟨x,AB,FW,r,q⟩=>by obtain⟨AU,BW,q2⟩:=hL FW q;exact⟨x,AU,BW,r,q2⟩
section
variable{X:Aq}{k:Nat}{f C:A7}{fd:I2}{ps:↑Str}{sp:Co}{E:FE}{m:Str}{pos apos:Pos}{o e:Ah}{es:↑Ah}{Bx:TE}{t:Fu}
def aeg {pl:Sem Bool} (he:Af X.GD o Bx) (c:K1 X.K C) (hm:Meth X.K C m f) (F:Ie X.prog X.w X.K X.mg X.base (Iq X.prog X.w) k f fd ps sp) (B6:DD k X.A) (A5:Binds X.K fd ps []) (AG:HG X.GD (e::es) t)(GA:C8 (e::es) X.env=(false,BM e X.env)::C8 es X.env:=by rfl) (GW:(F8 pos (C8 es X.env)).any (·.1)=false:=by rfl)(Bc:BM (.Call (.Attribute o m apos) (e::es) [] pos) X.env=(do
    let CN <-BM o X.env
    MX apos.atName
    let(f,first) <-JQ [CN] (OK CN m pl)
    Po pos f first (F8 pos (C8 (e::es) X.env)) (Jp pos (Jh [] X.env))):=by rfl) :
  dM X (.Call (.Attribute o m apos) (e::es) [] pos) (YZ C m sp [] E Bx t) E:=by
 intro A4 s σ H Q J h;refine Z2 (pl:=pl) (Hh (he A4 s σ H _ (J.Kl _) h) (λu s1⟨x,H1,Ac,Av,a,Bo,BA,ex,BS,l,q⟩=>?_) λ_ _ z=>z.elim) Bc;subst ex;obtain rfl:u=Cv a:=Av;refine aT Ac.Kk BS c hm l ?_;refine Yv (first:=[.ref a]) (h₀:=X.base) J.ok.mod.Ru hm.Bf (Hh (AG pos A4 s1 σ H1 _ Ac q) (λus s2⟨vs,AU,BW,r,q2⟩=>⟨BW.Kk.FP,?_⟩) λ_ _ z=>z.elim) GA GW;have BH:=BW.Kk;replace q2:sp (.ref a::vs++[]) AU Q E:=q2;rw[L2]at q2;have BK:Vals (V.ref a::vs) (Cv a::us):=.cons rfl r;have AF:⇑(Cv a::us)=⇑ps:=by rw[<- ⇑BK];exact F.len _ _ _ _ q2
 refine wpAny_call (R7 (F.run X.A X.stack s2 AU ⟨Cv a::us,[]⟩ (Cv a::us) (V.ref a::vs) Q E B6 BH.dm (by have:=A5 s2 (Cv a::us) BH.FP (by rw[L2];exact AF);rw[L2]at this;exact this) BK q2) λr s' AW=>?_);cases r with
 |error e=>exact⟨AU,s2,BH,AW⟩
 |ok Dv=>
  cases Dv with
  |ret u=>exact BH.after AW
  |next=>exact Hi AW
  |brk=>exact Hi AW
  |cont=>exact Hi AW
end
noncomputable def agu(j:Nat)(te:TE)(E:FE)(ts:FL):FL:=λD σ H=>te σ H (λv H1=>D.AT (σ.set j ↥v) H1)/\∀(C:A9)(a:A7)(AB:AE),E C ↥a AB->AB a=none->ts D σ AB
section
variable{X:Aq}{j:Nat}{x y:Str}{W:A7}{e:Ah}{te:TE}{E:FE}{T1:BG}{Uk:↑BG}{ts:FL}{Ts np AV pos py:Pos}
def agC(hN:X.N.Nodup)(he:dM X e te E)(hm:X.mg x=↥(.ref W))(ae:∀C a H,E C a H->V5 X.K C (.ref W)=↥true)(AQ:∀a,Hc (X.marked a) (T1::Uk) ts)(Ar:X.N[j]?=↥y:=by rfl)(a_:X.env.scope.names.lookup y=↥.local:=by rfl)(GA:X.stack=X.env::X.outer:=by rfl)(Nf:X.env.frame=↥X.env.locals:=by rfl)(Am:Ek X x:=by rfl)(hd:(x==("__debug__" :Str))=false:=by decide)(SZ:OJ e ↥(.Name y py) Ts.line X.env=pure false:=by rfl) :
  Df X (.Try [.Assign [.Name y py] e Ts] [.ExceptHandler ↥(.Name x np) none (T1::Uk) AV] [] [] pos) (agu j te E ts):=by
 intro A4 s σ H D J h;obtain⟨h1,h2⟩:=h;refine wpAny_Try_except (iB (wpAny_Assign_Name (Hh (he A4 s σ H _ J h1) (λv s1 Bg=>?_) (λy s' AP=>?_)) SZ))
 .obtain⟨y,H1,Ac,Ax,q1⟩:=Bg;exact hC (X:=X) Ac hN Ar (.inl a_) Ax (λs2 BW=>Sq (Sq ⟨_,H1,BW,q1⟩)) (.inr a_)
 .obtain⟨H1,s1,Ac,a,C,H3,B,AB,rfl,Dv,Nc⟩:=AP;have SM:=Dv.SM;rw[GA]at SM;have H6:X.A.frames=↥(X.env::X.outer):=by rw[<-GA];exact Ac.ok.frames
  refine wpAny_looks_onW H6 Nf SM λUS yy rW=>?_;refine wpAny_landsW yy λIo aN rX=>?_;have P7:Inv X A4 σ AB { s' with heap:=Io }:=Dv.inv Ac aN.1 (by rw[GA];exact aN.2.2.1) (rW.trans rX);refine wpAny_handleBy_cons (codeAny_handlers_test (WJ (X:=X.marked a) (P7.marked a) Am hm ?_ hd)) (by intro q;cases q);obtain⟨BD,aaB,aaC⟩:=aN.there;have LT:PySem.W.Looks ξ Io (typeOf (.ref a)) C:=by rw[<-aaC];exact(PySem.W.Looks.ld aaB).andThen .now
  refine(PySem.W.exm_one (K:=X.K) P7.FP LT (ae C _ AB Nc)).here ?_;refine codeAny_handlers_suite ?_;refine lands_againW aN λzg kE aiC=>?_;have RS:Inv X A4 σ AB { s' with heap:=zg }:=Dv.inv Ac kE.1 (by rw[GA];exact kE.2.2.1) ((rW.trans rX).trans aiC);refine Hh (AQ a A4 _ σ AB _ (RS.marked a) (h2 C a AB Nc Dv.AG)) (λy7 HO Qm=>?_) λ_ _ z=>z.elim;cases y7 with
  |next=>obtain⟨σ',cL,BH,q⟩:=Qm;exact⟨_,_,BH.unmarked J.ok,q⟩
  |brk=>obtain⟨σ',cL,BH,q⟩:=Qm;exact⟨_,_,BH.unmarked J.ok,q⟩
  |cont=>obtain⟨σ',cL,BH,q⟩:=Qm;exact⟨_,_,BH.unmarked J.ok,q⟩
  |ret u=>obtain⟨v,σ',cL,BH,r,q⟩:=Qm;exact⟨v,_,_,BH.unmarked J.ok,r,q⟩
end
end B3
namespace Bq
noncomputable def NX:RE:=λ_ ws i _=>if i=⇑ws then↥none else(ws[i]?).map some
noncomputable def UZ:RE:=λAK ws i _=>if i=⇑ws then↥none else match AK[i]?,ws[i]? with
 |some k,↥w=>↥↥(.tup [WB k,w])
 |_,_=>none
def ag2{K:At}{φ:↑A7}{H:AE}(k:Key):AX K φ H (WB k) (Cj k):=by cases k<;>erw[WB,AX,Cj]
def aiJ:Vj NX dC:=λK φ H a o AA ws e Bw i CP h2 AU d x=>by
 have AH:=x.t a _ e trivial;have Ea:⇑ws=⇑AA:=by rw[⇑Bw,Ch]
 unfold NX;by_cases hi:i=⇑AA
 .rw[if_pos δ];exact⟨λ_=>⟨AH,hi⟩,λw z=>by cases z⟩
 .rw[if_neg δ];cases DN:ws[i]? with
  |none=>simp
  |some u=>
   refine⟨(λz=>by simp at z),λw z=>?_⟩;simp at z;subst z;obtain⟨v,ev,EH⟩:=Bw.get DN;rw[E7]at ev;cases Og:AA[i]? with
   |none=>rw[Og]at ev;cases ev
   |some Bv=>rw[Og]at ev;cases ev;refine⟨⟨AH,(List.getElem?_eq_some_iff.mp Og).1⟩,λy AB AP=>?_⟩;obtain⟨rfl,c2,Bb,rfl⟩:=AP;rw[Og]at Bb;cases Bb;exact⟨d,Ag.refl _ _,EH.ex x⟩
def aae:Vj UZ d9:=λK φ H a o AA ws e Bw i CP h2 AU d x=>by
 have AH:=x.t a _ e trivial;have Ea:⇑ws=⇑AA:=by rw[⇑Bw,Ch]
 unfold UZ;by_cases hi:i=⇑AA
 .rw[if_pos δ];exact⟨λ_=>⟨AH,hi⟩,λw z=>by cases z⟩
 .rw[if_neg δ,E7];cases DN:ws[i]? with
  |none=>cases AA[i]?<;>exact⟨(λz=>by cases z),λw z=>by cases z⟩
  |some u=>
   obtain⟨v,ev,EH⟩:=Bw.get DN;rw[E7]at ev;cases Og:AA[i]? with
   |none=>rw[Og]at ev;cases ev
   |some Bv=>rw[Og]at ev;cases ev;refine⟨(λz=>by cases z),λw z=>?_⟩;cases z;refine⟨⟨AH,(List.getElem?_eq_some_iff.mp Og).1⟩,λy AB AP=>?_⟩;obtain⟨p,c2,AV,rfl,rfl,Bb⟩:=AP;rw[Og]at Bb;cases Bb;refine⟨d.lay AV,Ag.lay AV,?_⟩;erw[AX];exact⟨p,_,rfl,EA,.cons (ag2 _) (.cons ((EH.ex x).ex (Ag.lay AV)) .nil)⟩
section
variable{X:Aq}{F:D6}{e a b o:Ah}{es:↑Ah}{pos p D2 apos Cg:Pos}{m n:BB}{ma:EY}{CE iter c:Ah}{g:DM}{body:↑BG}{mi:GT}{Gs:Ak}{XX:DX}{elt:Ah}{ifs:↑Ah}{scope:FS}{mt:DX}{XY:BB}
def WN(m:BB)(g:DM)(b:Ak):Ak:=S0 (cA UZ m g b)
def aiW{elts:↑Ah}{FG:Nat}{NW:Pos}(hi:Ab X.GD F.AT o m)(Am:QA X.GD F.AT (.Tuple elts FG NW) g)(A5:Ku X.GD F.AT body Gs)(AI:X.calm=true:=by rfl)(AQ:∀x,OF (.Call (.Attribute o "items" apos) [] [] Cg) X.env x=pure x:=by intro _;rfl)(h1:JM o "items" X.env (BM o X.env)=BM o X.env:=by rfl)(h2:(apos.endLine==Cg.line)=true:=by rfl):GK X F (.For (.Tuple elts FG NW) (.Call (.Attribute o "items" apos) [] [] Cg) body [] pos) (WN m g Gs):=
 ⟨Df.imp (Df.GD (nC (fx Z7 AI (aem hi.p h1 h2) Am.p A5.p AQ))) λDe σ H q=>lJ aae De σ H (aH De σ H q)⟩
noncomputable def rP(n:Nat):R (W×A6)->R (W×A6)
 |.ok (w,h)=>match h[n]? with
  |some ⟨.H5 AK,ws⟩=>.ok (w,h.set n ⟨.Al AK,ws⟩)
  |_=>.bad
 |_=>.bad
def Ry(it:RE)(nl:Nat)(caps:↑Nat)(m:BB)(g:DM)(HR:DX)(elt:BB):BB:=bd m λw ρ h=>match w with
 |.ref n=>match h[n]? with
  |some ⟨.Al AK,ws⟩=>rP n (DZ nl caps (pu (it AK ws)) g HR elt ρ (h.set n ⟨.H5 AK,ws⟩))
  |_=>.bad
 |_=>.bad
def zv{it:RE}{mk:A7->Obj->↑(Key×V)->It}(ok:Vj it mk){nl:Nat}{caps:↑Nat}:Fk (CB F (Ry it nl caps m g mt XY)) (λσ H Q=>Wv (Wn X mk (CB F m)) (λx σ H Q=>∃DQ C3,MN (Il F.K DQ C3) g x σ H Q) (λσ H Q=>∃DQ C3,Hv (Il F.K DQ C3) mt σ H Q) (λσ H Q=>∃DQ C3,CB (Il F.K DQ C3) XY σ H Q) nl caps σ H λv=>Tb X (Q v)):=λσ H Q q=>
 q.bd λw v C0 ρ h1 H1 Ax EH q=>by
   split at q
   .rename_i n
    split at q
    .rename_i AK ws Au;obtain⟨a,xs,rfl,BS,⟨AA,AG,rfl,rfl⟩,BN⟩:=Ax.hd.at Au EH;refine⟨a,AA,rfl,AG,λo JD=>?_⟩;have ns:¬Still (.Al AA):=λz=>z;have Xr:Ag C0 H1 C0 (upd H1 a (.D7 o (.Al AA))):=Ag.put AG ns;have Ge:=Ax.to (Ax.hd.put (o':=⟨.H5 _,ws⟩) Au BS AG ns ⟨o,AA,EA,rfl,rfl⟩ BN) Xr;have Ba:∀BL AB,Ag C0 (upd H1 a (.D7 o (.Al AA))) BL AB->AB a=↥(.D7 o (.Al AA))/\BL[n]?=↥a/\Ag C0 H1 BL (upd AB a (.Al AA)):=λBL AB x=>⟨x.t a _ EA trivial,Cx x.p BS,x.p,λb u e s=>by
      have nb:b≠a:=λz=>by subst z;rw[AG]at e;cases e;exact s
      rw[DJ nb];exact x.t b u (by rw[DJ nb];exact e) s⟩
     refine kR (Q:=λv=>Tb X (Q v)) Ge (ok F.K C0 _ a o AA ws EA (BN.ex Xr)) ?_;cases e:DZ nl caps (pu (it (AA.map (·.1)) ws)) g mt XY ρ (h1.set n ⟨.H5 (AA.map (·.1)),ws⟩)with
     |bad=>rw[e]at q;cases q
     |exc c h'=>rw[e]at q;cases q
     |ok p=>
      rw[e]at q;obtain⟨w,h2⟩:=p;intro v CP AU BK Ca a2;obtain⟨Cw,Fv,PI⟩:=Ba CP AU Ca;have q:D8 AX F C0 H1 σ ρ Q (match h2[n]? with
       |some ⟨.H5 AK,ws⟩=>.ok (w,h2.set n ⟨.Al AK,ws⟩)
       |_=>.bad):=q
      split at q
      .rename_i Nj ws' VW;refine⟨a,o,AA,JD,Cw,q v CP _ ⟨BK.hd.I5 VW Fv Cw,Ax.x0.trans PI,BK.len,λi w e=>?_⟩ PI (AX.I5 Cw a2)⟩;obtain⟨v,AD,q1⟩:=BK.Bm i w e;exact⟨v,AD,AX.I5 Cw q1⟩
      .exact q.elim
    .exact q.elim
   .exact q.elim
def ahw(nl:Nat)(caps:↑Nat)(S:Vv X.env.scope X.N scope (Ig scope X.N nl caps) nl caps=true)(hi:Ab X F o m)(Am:RM X scope (Ig scope X.N nl caps) CE g)(Bc:BT X scope (Ig scope X.N nl caps) ifs mt)(he:Zz X scope (Ig scope X.N nl caps) elt XY)(AI:X.calm=true:=by rfl)(A_:F.K=X.K:=by rfl)(AQ:∀x,OF (.Call (.Attribute o "values" apos) [] [] Cg) X.env x=pure x:=by intro _;rfl)(h1:JM o "values" X.env (BM o X.env)=BM o X.env:=by rfl)(h2:(apos.endLine==Cg.line)=true:=by rfl) :
  Ab X F (.ListComp elt [⟨CE,.Call (.Attribute o "values" apos) [] [] Cg,ifs,0⟩] scope pos) (Ry NX nl caps m g mt XY):=by
 obtain⟨By,Cz,G7⟩:=eK nl caps A_ Am Bc he;exact⟨Af.imp (afT (nT (M3.of S) AI (aep hi.p h1 h2) By Cz G7 AQ)) (zv aiJ)⟩
def P2:↑BB->EY
 |[]=>A2
 |m::r=>A0 m (P2 r)
noncomputable def Ki(F:D6):↑Str->↑BB->↑(TE×TE)
 |k::AK,m::ms=>(PS (.str k),CB F m)::Ki F AK ms
 |_,_=>[]
theorem LU.imp{α β:Type}{rel:At->↑A7->AE->α->β->Prop}{m:M α}{σ :St}{H:AE}{Q Hl:β->AE->Prop}(h:LU rel F m σ H Q)(f:∀b H,Q b H->Hl b H):LU rel F m σ H Hl:=by obtain⟨φ,ρ,h,r,q⟩:=h;exact⟨φ,ρ,h,r,q.imp f⟩
theorem lM:∀(AK:↑Str)(ms:↑BB),⇑AK=⇑ms->∀(σ :St)(H:AE)(Q:↑(V×V)->AE->Prop),Gw F (P2 ms) σ H (λvs AB=>Q ((AK.map V.str).zip vs) AB)->Yb (Ki F AK ms) σ H Q
 |[],[],_,σ,H,Q,h=>UU σ H _ h
 |k::AK,m::ms,l,σ,H,Q,h=>by have h:=UT σ H _ h;show CB F m σ H _;exact LU.imp h λv H1 q=>lM AK ms (l:) σ H1 _ q
structure Zo(X:Aq)(F:D6)(pos:Pos)(keys:↑(Option Ah))(values:↑Ah)(AK:↑Str)(ms:↑BB):Prop where
 p:Vg X pos keys values (Ki F AK ms)
 l:⇑AK=⇑ms/\ ⇑keys=⇑AK
def aix:Zo X F pos [] [] [] []:=⟨aeZ,rfl,rfl⟩
def aiw{k:Str}{j:Nat}{q:Pos}{AK:↑Str}{ms:↑BB}{keys:↑(Option Ah)}{values:↑Ah}(Bg:Ab X F e m)(B6:Zo X F pos keys values AK ms):Zo X F pos (↥(.Constant (.str k) j q)::keys) (e::values) (k::AK) (m::ms):=
 ⟨aeY gi Bg.p B6.p,by simp[B6.l.1],by simp[B6.l.2]⟩
def Tu(AK:↑Str)(ms:↑BB):BB:=λρ h=>(P2 ms ρ (h++[⟨.Al [],[]⟩])).bind λp=>match p.2[⇑h]? with
 |some ⟨.Al [],[]⟩=>if AK.Nodup/\ ⇑AK<=15 then .ok (.ref ⇑h,p.2.set ⇑h ⟨.Al (AK.map .inr),p.1⟩)else .bad
 |_=>.bad
theorem mS:∀(more acc:↑(Key×V)),((acc++more).map (·.1)).Nodup->Qd acc more=acc++more
 |[],acc,_=>by simp[Qd]
 |Bv::more,acc,Bz=>by
  have Xd:Bv.1∉acc.map (·.1):=λz=>by rw[IE,DC]at Bz;exact(List.nodup_append.mp Bz).2.2 _ z _ (Hg ..) rfl
  have e:putK acc Bv.1 Bv.2=acc++[Bv]:=by unfold putK;rw[if_neg];intro z;obtain⟨x,AJ,q⟩:=List.any_eq_true.mp z;exact Xd (List.mem_map.mpr ⟨x,AJ,of_decide_eq_true q⟩)
  show Qd (putK acc Bv.1 Bv.2) more=_;rw[e,mS more (acc++[Bv]) (Bz:)];simp
def zz{AK:↑Str}{ms:↑BB}(l:⇑AK=⇑ms):Fk (CB F (Tu AK ms)) (r_ (Ki F AK ms)):=λσ H Q⟨φ,ρ,h,r,q⟩ p AV=>by
 refine lM AK ms l σ _ _ ⟨φ++[p],ρ,h++[⟨.Al [],[]⟩],r.to (r.hd.new AV (ho:=.Al []) (k:=.Al []) ⟨[],EA,rfl,rfl⟩ .nil) (Ag.Px AV),?_⟩;unfold Tu at q;cases e:P2 ms ρ (h++[⟨.Al [],[]⟩])with
 |bad=>rw[e]at q;cases q
 |exc c h'=>rw[e]at q;exact λBL AB x d=>q BL AB ((Ag.Px AV).trans x) d
 |ok pp=>
  rw[e]at q;obtain⟨ws,h2⟩:=pp;intro vs CP AU BK Ca as;erw[R.bind]at q
  split at q
  .rename_i Au
   split at q
   .rename_i AM;have Ao:CP[⇑h]?=↥p:=Cx Ca.p (WI r.hd);obtain⟨xs,⟨AA,AW,k1,k2⟩,_⟩:=BK.hd.BD _ _ p Au Ao;have:AA=[]:=by simpa using k1
    subst this;have lv:⇑vs=⇑AK:=by
     rw[<- ⇑as,l];have:∀(ms:↑BB)(ρ:BC)(h h2:A6)(ws:↑W),P2 ms ρ h=.ok (ws,h2)->⇑ws=⇑ms:=by
      intro ms;induction ms with
      |nil=>intro ρ h h2 ws z;cases z;rfl
      |cons m ms CI=>
       intro ρ h h2 ws z;erw[P2,A0,bd]at z;cases Fi:m ρ h with
       |bad=>rw[Fi]at z;cases z
       |exc _ _=>rw[Fi]at z;cases z
       |ok Ec=>
        rw[Fi]at z;erw[R.bind]at z;cases F6:P2 ms ρ Ec.2 with
        |bad=>rw[F6]at z;cases z
        |exc _ _=>rw[F6]at z;cases z
        |ok D2=>rw[F6]at z;cases z;have:=CI ρ Ec.2 D2.2 D2.1 F6;simp[this]
     exact this ms ρ _ _ _ e
    refine⟨AW,(AK.map MW).zip vs,?_,by simp[lv,AM.2],?_⟩
    .rw[List.map_zip_eq_zipWith,List.zip,tj,tj];rfl
    .have Fi:((AK.map MW).zip vs:↑(Key×V)).map (·.1)=AK.map MW:=by
       rw[List.map_fst_zip];simp[lv]
     have F6:((AK.map MW).zip vs:↑(Key×V)).map (·.2)=vs:=by rw[List.map_snd_zip];simp[lv]
     rw[mS _ [] (by rw[NF,Fi,Yl,Sl];exact(List.nodup_iff_pairwise_ne.mp AM.1).imp λz y=>z (Sum.inr.inj y)),NF];have ns:¬Still (.Al []):=λz=>z;refine q (.ref p) CP _ (BK.to (BK.hd.put (o':=⟨.Al (AK.map .inr),ws⟩) Au Ao AW ns ⟨_,EA,Fi,F6⟩ as) (Ag.put AW ns)) (((Ag.Px AV).trans Ca).trans (Ag.put AW ns)) (.Ge Ao)
   .exact q.elim
  .exact q.elim
def ai0{keys:↑(Option Ah)}{values:↑Ah}{AK:↑Str}{ms:↑BB}(h:Zo X F pos keys values AK ms)(h1:keys.all (·.isSome)=true:=by rfl)(h2:⇑keys=⇑values:=by rfl)(BO:keys≠[]:=by intro z;cases z)(D5:⇑keys<=15:=by decide):Ab X F (.Dict keys values pos) (Tu AK ms):=⟨Af.imp (afB h.p h1 h2 BO D5) (zz h.l.1)⟩
def WY(F:D6)(E:FE):D6:=⟨F.K,F.DQ,F.C3,QV F.K E⟩
structure jW(X:Aq)(F:D6)(e:Ah)(m:BB):Prop where
 p:∀E,dM X e (CB (WY F E) m) E
def ajV {Dh x:Str} {k j:Nat} {mf:Bs} {pl:Sem Bool} (c:H_ X.prog X.w X.K X.mg X.base Dh x k j mf) (B6:DD j X.A) (ho:∀E,Ab X.GD (WY F E) o m) (AG:∀E,Hd X.GD (WY F E) (e::es) ma) (A_:F.K=X.K:=by rfl) (s:M9 X e es pos:=by exact{}) (Bc:BM (.Call (.Attribute o x apos) (e::es) [] pos) X.env=(do
   let CN <-BM o X.env
   MX apos.atName
   let(f,first) <-JQ [CN] (OK CN x pl)
   Po pos f first (F8 pos (C8 (e::es) X.env)) (Jp pos (Jh [] X.env))):=by rfl):jW X F (.Call (.Attribute o x apos) (e::es) [] pos) (CV Dh x k mf m ma):=by
 obtain⟨C,f,fd,ps,AM,AI,Cz,G7,Oi,A5⟩:=c.ex;refine⟨λE A4 s0 σ H Q J h=>aeg (pl:=pl) (ho E).p Cz G7 Oi B6 A5 (AG E).p s.he s.GW Bc A4 s0 σ H Q J ?_⟩;exact fa (F:=WY F E) (X:=X) A_ AI (λc H z=>A_▸z) σ H Q h
structure dR(K:At)(mg:Str->Option A9)(x:Str)(cs:↑Str):Prop where
 ex:∃W,mg x=↥(.ref W)/\∀c∈cs,∃C,Ir K c C/\V5 K (.ref C) (.ref W)=↥true
def OU(m:BB)(j:Nat)(cs:↑Str)(ms:Ak):Ak:=λρ h=>match m ρ h with
 |.ok (w,h')=>AC j w ρ h'
 |.exc c h'=>if cs.contains c=true then ms ρ h' else .bad
 |.bad=>.bad
def ajv(j:Nat){x y:Str}{cs:↑Str}{T1:BG}{Uk:↑BG}{ms:Ak}{Ts np AV py:Pos}(hN:X.N.Nodup)(t:dR X.K X.mg x cs)(he:jW X F e m)(AQ:∀a,Ku (X.marked a) F (T1::Uk) ms)(A_:F.K=X.K:=by rfl)(Ar:X.N[j]?=↥y:=by rfl)(a_:X.env.scope.names.lookup y=↥.local:=by rfl)(GA:X.stack=X.env::X.outer:=by rfl)(Nf:X.env.frame=↥X.env.locals:=by rfl)(Am:Ek X x:=by rfl)(hd:(x==("__debug__" :Str))=false:=by decide)(SZ:OJ e ↥(.Name y py) Ts.line X.env=pure false:=by rfl) :
  GK X F (.Try [.Assign [.Name y py] e Ts] [.ExceptHandler ↥(.Name x np) none (T1::Uk) AV] [] [] pos) (OU m j cs ms):=by
 refine⟨λA4 s σ H De J⟨φ,ρ,h,r,q⟩=>?_⟩;obtain⟨W,yi,ae⟩:=t.ex
 let E:FE:=λC _ AB=>∃(c:Str)(Br:A7)(BL:↑A7)(h':A6),C=.ref Br/\Ir X.K c Br/\m ρ h=.exc c h'/\Ag φ H BL AB/\DL X.K BL h' AB
 have Fl:∀{c:Str}{h':A6},m ρ h=.exc c h'->cs.contains c=true/\EQ F φ H De (ms ρ h'):=λ{c h'} z=>by
  unfold OU at q;rw[z]at q;dsimp only at q
  split at q
  .rename_i AI;exact⟨AI,q⟩
  .exact q.elim
 refine agC (E:=E) (te:=CB (WY F E) m) (ts:=Ga F ms) hN (he.p E) yi (λC a AB⟨c,Br,BL,h',AD,AH,DT,_⟩=>?_) (λa=>(AQ a).p) Ar a_ GA Nf Am hd SZ A4 s σ H De J ⟨⟨φ,ρ,h,⟨r.hd,r.x0,r.len,r.Bm⟩,?_⟩,?_⟩
 .subst AD;obtain⟨cO,k1,k2⟩:=ae c (by simpa using(Fl DT).1);rw[AH.inj k1];exact k2
 .cases z:m ρ h with
  |bad=>unfold OU at q;rw[z]at q;exact q
  |exc c h'=>intro BL AB x d;obtain⟨cO,k1,k2⟩:=ae c (by simpa using(Fl z).1);exact⟨cO,A_▸k1,λa _=>⟨c,cO,BL,h',rfl,k1,z,x,A_▸d⟩⟩
  |ok p=>
   obtain⟨w,h'⟩:=p;intro v BL AB Bd Fd GL;unfold OU at q;rw[z]at q;dsimp only[AC]at q
   split at q
   .rename_i hi;have Kd:Rel F BL h' AB σ ρ:=⟨Bd.hd,Bd.x0,Bd.len,Bd.Bm⟩;exact q _ BL AB (Kd.set hi GL) Fd
   .exact q.elim
 .rintro C a AB ⟨c,Br,BL,h',AD,AH,DT,x,d⟩ _;have k:=(Fl DT).2;exact⟨BL,ρ,h',r.to (A_▸d) x,EQ.ex x k⟩
end
end Bq
namespace B3
open PyProof.Rows
section
variable{X:Aq}
def p1:V->↑V->AE->CQ->Prop:=λx vs H Q=>∃l xs y,x=.ref l/\vs=[.int 0,y]/\H l=↥(.lst xs)/\ ⇑xs<CO/\Q .non (upd H l (.lst (y::xs)))
theorem acr:RY X "list.insert" p1:=by intro A4 s σ H x vs v us Q J Av Bw h;obtain⟨l,xs,y,rfl,rfl,GM,hz,q⟩:=h;cases Av;obtain⟨Rh,u,rfl,⟨t,rfl⟩,Fb⟩:=vals2 Bw;obtain⟨z,its,n,r,AF,e⟩:=J.My GM;refine ON F.slot_list_insert ⟨_,e,rfl⟩ F.entry_list_insert (F.args_list_insert_3 _ _ _) (AutoSeq1.list_insert_list_int_val_1 l its.toArray n 0 t u ε (by rw[DU];lia)) ⟨e,?_⟩;refine⟨.non,_,J.Rx (its':=u::its) GM e γ (.cons Fb r) ?_,rfl,q⟩;rw[DV];lia
end
end B3
namespace Bq
section
variable{X:Aq}{F:D6}{o e i:Ah}{m n k:BB}{apos pos:Pos}
noncomputable def UX:M5:=λws us=>match us with
 |[.int i,w]=>if i=0 then↥(.non,w::ws)else none
 |_=>none
def aeS:RZ F p1 UX:=by
 intro σ ρ φ h H n p ws us xs vs Q C_ ws' Iy Au Ao AV BN as C2 AF q;unfold UX at C2
 split at C2
 .split at C2
  .rename_i i w hi;subst hi;cases C2;erw[Ai]at as;obtain⟨v0,Qn,rfl,H3,v,Ax,rfl,EH,rfl⟩:=as;erw[AX]at H3;subst H3;rw[DV,⇑BN]at AF;exact⟨p,xs,v,rfl,rfl,AV,GG (Nat.lt_of_succ_le AF) ε,Tt Iy Au Ao AV (.cons EH BN) XH q⟩
  .cases C2
 .cases C2
structure M2(X:Aq)(o:Ah)(x:Str)(apos Cg:Pos)(i e:Ah):Prop where
 b:JM o x X.env (BM o X.env)=BM o X.env:=by rfl
 l:(apos.endLine==Cg.line)=true:=by rfl
 f:((F8 Cg (C8 [i,e] X.env)).all (λx=>!x.1)&&(Jp Cg (Jh [] X.env)).all (λx=>x.1.isSome)&&decide (⇑([i,e]:↑Ah)+⇑([]:↑Jo)+(if([]:↑Jo).isEmpty then 0 else 1)<30))=true:=by rfl
 s:C8 [i,e] X.env=(false,BM i X.env)::C8 [e] X.env:=by rfl
 s2:C8 [e] X.env=(false,BM e X.env)::C8 [] X.env:=by rfl
 h:(F8 Cg (C8 [e] X.env)).any (·.1)=false:=by rfl
def ah_(ho:Ab X F o m)(hi:Ab X F i k)(AG:Ab X F e n)(A_:F.K=X.K:=by rfl)(q:M2 X o "insert" apos pos i e:=by exact{}):Ab X F (.Call (.Attribute o "insert" apos) [i,e] [] pos) (DI UX m (A0 k (A0 n A2))):=
 ⟨Af.imp (gg Sd PySem.F.slot_list_insert PySem.F.type_list_insert acr ho.p (Qj hi.p (Qj AG.p Tr q.s2) q.s) q.b q.f q.l q.s q.h) λσ H Q z=>aG A_ aeS σ H Q z|>λ⟨φ,ρ,h,r,z⟩=>⟨φ,ρ,h,r,z.imp λv H1⟨ty,t⟩=>⟨ty,UT σ H1 _ t|>λ⟨φ,ρ,h,r,z⟩=>⟨φ,ρ,h,r,z.imp λv AU t=>UT σ AU _ t|>λ⟨φ,ρ,h,r,z⟩=>⟨φ,ρ,h,r,z.imp λv AU t=>UU σ AU _ t⟩⟩⟩⟩⟩
def aiZ(ho:Ab X F o m)(A_:F.K=X.K:=by rfl)(A5:JM o "reverse" X.env (BM o X.env)=BM o X.env:=by rfl)(AF:(apos.endLine==pos.line)=true:=by rfl):Ab X F (.Call (.Attribute o "reverse" apos) [] [] pos) (DI XJ m A2):=⟨Af.imp (gh Sd PySem.F.slot_list_reverse PySem.F.type_list_reverse acs ho.p A5 AF) (f_ A_ adk)⟩
end
section
variable{α β:Type}
def Ends{α:Type}(r:R (α×A6))(T:α->A6->Prop):Prop:=∃a h,r=.ok (a,h)/\T a h
@[simp] theorem A3(a:α)(k:α->R β):(R.ok a).bind k=k a:=rfl
@[simp] theorem alh(k:α->R β):(R.bad:R α).bind k=.bad:=rfl
@[simp] theorem ali(c:Str)(h:A6)(k:α->R β):(R.exc c h:R α).bind k=.exc c h:=rfl
@[simp] theorem VX(a:α)(h:A6)(T:α->A6->Prop):Ends (.ok (a,h)) T↔T a h:=⟨λ⟨b,g,e,t⟩=>by cases e;exact t,λt=>⟨a,h,rfl,t⟩⟩
@[simp] theorem al2(T:α->A6->Prop):Ends (.bad:R (α×A6)) T↔False:=⟨λ⟨b,g,e,t⟩=>(nomatch e),Hi⟩
@[simp] theorem al3(c:Str)(h:A6)(T:α->A6->Prop):Ends (.exc c h:R (α×A6)) T↔False:=⟨λ⟨b,g,e,t⟩=>(nomatch e),Hi⟩
theorem Ends.bind{r:R (α×A6)}{k:α×A6->R (β×A6)}{S:α->A6->Prop}{T:β->A6->Prop}(h:Ends r S)(g:∀a h,S a h->Ends (k (a,h)) T):Ends (r.bind k) T:=by obtain⟨a,h',e,s⟩:=h;rw[e];exact g a h' s
def Ends.mono{r:R (α×A6)}{S T:α->A6->Prop}(h:Ends r S)(g:∀a h,S a h->T a h):Ends r T:=by obtain⟨a,h',e,s⟩:=h;exact⟨a,h',e,g a h' s⟩
def Ends.done{r:R (α×A6)}{a:α}{h:A6}(e:Ends r λb g=>b=a/\g=h):r=.ok (a,h):=by obtain⟨b,g,e,rfl,rfl⟩:=e;exact e
@[simp] theorem I_(m:M α)(k:α->M β)(ρ:BC)(h:A6):bd m k ρ h=(m ρ h).bind λp=>k p.1 ρ p.2:=rfl
@[simp] theorem Bk(a:α)(ρ:BC)(h:A6):pu a ρ h=.ok (a,h):=rfl
end
section
variable(ρ:BC)(h g:A6)(m n:BB)(a:EY)(s t:Ak)(c d:DX)
noncomputable def PW:Option (Option W)->A6->R (W×A6)
 |some ↥w,h=>.ok (w,h)
 |_,_=>.bad
@[simp] theorem Cf(w:W):PW ↥↥w h=.ok (w,h):=rfl
@[simp] theorem v_var(i:Nat):I i ρ h=PW ρ[i]? h:=by
  unfold I PW;cases ρ[i]? with
  |none=>rfl
  |some o=>cases o<;>rfl
@[simp] theorem BQ(f:H0):A1 f m n ρ h=(m ρ h).bind λp=>(n ρ p.2).bind λq=>f p.1 q.1 q.2:=rfl
@[simp] theorem Ia(f:W->A6->R (W×A6)):B0 f m ρ h=(m ρ h).bind λp=>f p.1 p.2:=rfl
@[simp] theorem CJ:A2 ρ h=.ok ([],h):=rfl
@[simp] theorem Bn:A0 m a ρ h=(m ρ h).bind λp=>(a ρ p.2).bind λq=>.ok (p.1::q.1,q.2):=rfl
@[simp] theorem QT:BX a ρ h=(a ρ h).bind λp=>if ⇑p.1<=Ay then .ok (.tup p.1,p.2)else .bad:=by unfold BX bd;congr;funext p;dsimp only;split<;>rfl
@[simp] theorem JL:BU a ρ h=(a ρ h).bind λp=>nw .lst p.1 p.2:=rfl
@[simp] theorem GP(f:LA):Aw f a ρ h=(a ρ h).bind λp=>f p.1 p.2:=rfl
@[simp] theorem J0(k:Nat)(f:Bs):Aj k f a ρ h=(a ρ h).bind λp=>if ⇑p.1=k then f p.1 p.2 else .bad:=by unfold Aj bd;congr
noncomputable def Vm:W->A6->R (Bool×A6)
 |.AN b,h=>.ok (b,h)
 |_,_=>.bad
@[simp] theorem Hn(b:Bool):Vm (.AN b) h=.ok (b,h):=rfl
@[simp] theorem Hx:Aa m ρ h=(m ρ h).bind λp=>Vm p.1 p.2:=by unfold Aa bd;congr;funext p;cases p.1<;>rfl
@[simp] theorem v_and:GN c d ρ h=(c ρ h).bind λp=>if p.1=true then d ρ p.2 else .ok (false,p.2):=by unfold GN bd;congr;funext p;dsimp only;split<;>rfl
@[simp] theorem v_or:Fq c d ρ h=(c ρ h).bind λp=>if p.1=true then .ok (true,p.2)else d ρ p.2:=by unfold Fq bd;congr;funext p;dsimp only;split<;>rfl
@[simp] theorem v_not:Eb c ρ h=(c ρ h).bind λp=>.ok (!p.1,p.2):=rfl
@[simp] theorem sk:Iv m n ρ h=(m ρ h).bind λp=>(Vm p.1 p.2).bind λq=>if q.1=true then n ρ q.2 else .ok (.AN false,q.2):=by unfold Iv bd;congr;funext p;cases p.1<;>first|rfl|(rename_i b;cases b<;>rfl)
@[simp] theorem ale:WP m n ρ h=(m ρ h).bind λp=>(Vm p.1 p.2).bind λq=>if q.1=true then .ok (.AN true,q.2)else n ρ q.2:=by unfold WP bd;congr;funext p;cases p.1<;>first|rfl|(rename_i b;cases b<;>rfl)
@[simp] theorem ald:WO m ρ h=(m ρ h).bind λp=>(Vm p.1 p.2).bind λq=>.ok (.AN (!q.1),q.2):=by unfold WO bd;congr;funext p;cases p.1<;>rfl
@[simp] theorem aiE:No c m n ρ h=(c ρ h).bind λp=>if p.1=true then m ρ p.2 else n ρ p.2:=by unfold No bd;congr;funext p;dsimp only;split<;>rfl
noncomputable def PQ(t:Ak):FU×A6->R (FU×A6)
 |(.AT ρ,h)=>t ρ h
 |p=>.ok p
@[simp] theorem B9:PQ t (.AT ρ,h)=t ρ h:=rfl
@[simp] theorem Uh(w:W):PQ t (.EX w,h)=.ok (.EX w,h):=rfl
@[simp] theorem B2:AO s t ρ h=(s ρ h).bind (PQ t):=by unfold AO;congr
@[simp] theorem GQ:Bj ρ h=.ok (.AT ρ,h):=rfl
@[simp] theorem JK:Fy m ρ h=(m ρ h).bind λp=>.ok (.AT ρ,p.2):=rfl
@[simp] theorem Gb:B7 m ρ h=(m ρ h).bind λp=>.ok (.EX p.1,p.2):=rfl
@[simp] theorem E6:Bp c s t ρ h=(c ρ h).bind λp=>if p.1=true then s ρ p.2 else t ρ p.2:=by unfold Bp bd;congr;funext p;dsimp only;split<;>rfl
@[simp] theorem QS(i:Nat)(w:W):AC i w ρ h=if i< ⇑ρ then .ok (.AT (ρ.set i ↥w),h)else .bad:=rfl
@[simp] theorem Dr(f:DM):AZ m f ρ h=(m ρ h).bind λp=>f p.1 ρ p.2:=rfl
@[simp] theorem sl(f:DM):M0 m f ρ h=(m ρ h).bind λp=>bR (f p.1 ρ p.2):=rfl
@[simp] theorem akx:bR (.ok (.AT ρ,h))=.ok (.AT ρ,h):=rfl
@[simp] theorem alc(N:Nat)(ws:↑W):FH N s ws h=(s (Nh N ws) h).bind outF:=rfl
@[simp] theorem Xi(N:Nat)(ws:↑W):DO N s ws h=(s (Nh N ws) h).bind λp=>(outF p).bind λq=>settle h q.1 q.2:=by unfold DO FH;cases s (Nh N ws) h<;>rfl
@[simp] theorem oC:outF (.AT ρ,h)=.ok (.non,h):=rfl
@[simp] theorem IU(w:W):outF (.EX w,h)=.ok (w,h):=rfl
@[simp] theorem FJ:BJ m ρ h=(m ρ h).bind λp=>settle h p.1 p.2:=rfl
@[simp] theorem sq:HX c ρ h=(c ρ h).bind λp=>.ok (p.1,if GO h p.2=true then h else p.2):=rfl
@[simp] theorem aiF(f:M5):DI f m a ρ h=(m ρ h).bind λp=>br p.1 (bd a λus=>c6 f p.1 us) ρ p.2:=rfl
@[simp] theorem alf(x:Str):Np x ρ h=.exc x h:=rfl
@[simp] theorem akw(p:FU×A6):HM (.ok p)=.ok p:=rfl
@[simp] theorem LV(mi:GT)(f:DM):Ew mi f s ρ h=HM (Q_ mi f s ρ h):=rfl
@[simp] theorem alg:cB c s ρ h=HM (Tv c s ρ h):=rfl
@[simp] theorem Wr(N:Nat)(ws:↑W):Nh N ws=ws.map some++Gd (N- ⇑ws) none:=rfl
end
section
variable(h g:A6)
@[simp] theorem Im(k:Nat):(h++g)[⇑h+k]?=g[k]?:=by rw[NJ δ];congr 1;lia
@[simp] theorem Fx:(h++g)[⇑h]?=g[0]?:=Im h g 0
@[simp] theorem yj(k:Nat)(o:O):(h++g).set (⇑h+k) o=h++g.set k o:=by rw[tk _ _ δ];congr 2;lia
@[simp] theorem TQ(o:O):(h++g).set ⇑h o=h++g.set 0 o:=yj h g 0 o
def C6{n:Nat}{o:O}(e:h[n]?=↥o)(g:A6):(h++g)[n]?=↥o:=by rw[GR (List.getElem?_eq_some_iff.mp e).1];exact e
@[simp] theorem akW(h g:A6):GO h (h++g)=true:=UK h g
@[simp] theorem akz(h:A6):GO h h=true:=ae_ h
@[simp] theorem Qq(w:W)(e:DP w=true):settle h w h=.ok (w,h):=by unfold settle;simp[e]
@[simp] theorem XO(w:W)(e:DP w=true):settle h w (h++g)=.ok (w,h):=by unfold settle;simp[e]
theorem n9:∀(h a b:A6),GO (h++a) (h++b)=GO a b
 |[],_,_=>rfl
 |o::h,a,b=>by erw[HT,GO,RI,n9 h a b];simp
@[simp] theorem akX(h a b:A6):GO (h++a) (h++b)=GO a b:=n9 h a b
@[simp] theorem akJ(a:↑W):Kw a a=true:=RI a
@[simp] theorem akZ(h:A6):GO [] h=true:=by simp[GO]
@[simp] theorem akY(o o':O)(h g:A6):GO (o::h) (o'::g)=(decide (o.k=o'.k)&&Kw o.ws o'.ws&&GO h g):=by simp[GO]
@[simp] theorem alW(w:W)(e:DP w=true)(p:GO h g=true):settle h w g=.ok (w,h):=by unfold settle;simp[e,p]
def KD{n:Nat}{ws:↑W}(p:GO h g=true)(l:⇑h<=n)(e:g[n]?=↥⟨.lst,ws⟩)(LM:G1 ws=true):settle h (.ref n) g=.ok (.ref ⇑h,h++[⟨.lst,ws⟩]):=by unfold settle;simp[p,l,e,LM,DP]
def agh(k:Nat){ws:↑W}(e:g[k]?=↥⟨.lst,ws⟩)(n:G1 ws=true):settle h (.ref (⇑h+k)) (h++g)=.ok (.ref ⇑h,h++[⟨.lst,ws⟩]):=by unfold settle;simp[e,n,DP]
def Me{ws:↑W}(e:g[0]?=↥⟨.lst,ws⟩)(n:G1 ws=true):settle h (.ref ⇑h) (h++g)=.ok (.ref ⇑h,h++[⟨.lst,ws⟩]):=agh h g 0 e n
@[simp] theorem Ui(ws:↑W):E5 h (.tup ws)=↥(true,ws):=by simp[E5]
@[simp] theorem alV(ws:↑W):E5 h (.IS ws)=↥(true,ws):=by simp[E5]
def GZ{n:Nat}{ws:↑W}(e:h[n]?=↥⟨.lst,ws⟩):E5 h (.ref n)=↥(false,ws):=by simp[E5,e]
@[simp] theorem YP(ws:↑W):E5 h (.Dm ws)=↥(false,ws):=by simp[E5]
def P1{n:Nat}{ws:↑W}(e:h[n]?=↥⟨.lst,ws⟩):LI h (.ref n)=↥(n,ws):=by simp[LI,e]
@[simp] theorem akj(i:Int):DP (.int i)=true:=by simp[DP]
@[simp] theorem akp(i:Str):DP (.str i)=true:=by simp[DP]
@[simp] theorem aki(i:Bool):DP (.AN i)=true:=by simp[DP]
@[simp] theorem akm:DP .non=true:=by simp[DP]
@[simp] theorem akr(ws:↑W):DP (.tup ws)=G1 ws:=by simp[DP]
@[simp] theorem akl(ws:↑W):DP (.IS ws)=G1 ws:=by simp[DP]
@[simp] theorem akk(ws:↑W):DP (.Dm ws)=G1 ws:=by simp[DP]
@[simp] theorem aku:G1 []=true:=by simp[G1]
@[simp] theorem aks(w:W)(ws:↑W):G1 (w::ws)=(DP w&&G1 ws):=by simp[G1]
theorem Jw:∀{ws:↑W},G1 ws=true↔∀w∈ws,DP w=true
 |[]=>γ
 |w::ws=>by simp[Jw (ws:=ws)]
def Gu{ws:↑W}(e:⇑ws<=Ay):nw .lst ws h=.ok (.ref ⇑h,h++[⟨.lst,ws⟩]):=if_pos e
end
section
variable(i j:Int)(h:A6)
@[simp] theorem N4:addW (.int i) (.int j) h=.ok (.int (i+j),h):=rfl
@[simp] theorem akT:NS (.int i) (.int j) h=.ok (.int (i-j),h):=rfl
@[simp] theorem aeI:K_ (.int i) (.int j) h=if LG i j then .ok (.int (i*j),h)else .bad:=rfl
@[simp] theorem Kb:BY (.int i) (.int j) h=if 0<j then .ok (.int (i%j),h)else .bad:=by show(match(if 0<j then↥(W.int (i%j))else none)with|some w=>R.ok (w,h)|none=>R.bad)=_;by_cases AI:0<j<;>simp[AI]
@[simp] theorem N5:Cq (.int i) (.int j) h=if 0<j/\j<1073741824 then .ok (.int (i/j),h)else .bad:=by show(match(if TR i j then↥(W.int (i/j))else none)with|some w=>R.ok (w,h)|none=>R.bad)=_;unfold TR;by_cases AI:0<j/\j<1073741824<;>simp[AI]
@[simp] theorem akS:PM (.int i) (.int j) h=if OS i j then .ok (.int (i^j.toNat),h)else .bad:=by show(match(if OS i j then↥(W.int (i^j.toNat))else none)with|some w=>R.ok (w,h)|none=>R.bad)=_;by_cases AI:OS i j<;>simp[AI]
@[simp] theorem aeH:Ja (.int i) (.int j) h=.ok (.AN (decide (i<j)),h):=rfl
@[simp] theorem o0:HV (.int i) (.int j) h=.ok (.AN (decide (i<=j)),h):=rfl
@[simp] theorem aeG:KS (.int i) (.int j) h=.ok (.AN (decide (j<i)),h):=rfl
@[simp] theorem akQ:e2 (.int i) (.int j) h=.ok (.AN (decide (j<=i)),h):=rfl
@[simp] theorem Xf:As true (.int i) (.int j) h=.ok (.AN (decide (i=j)),h):=by erw[As,CD,eqT];by_cases e:i=j<;>simp[e]
@[simp] theorem akR:As false (.int i) (.int j) h=.ok (.AN (!decide (i=j)),h):=by erw[As,CD,eqT];by_cases e:i=j<;>simp[e]
def W9{t:Bool}{x:W}{ws:↑W}{k:Nat}{w:W}(e:E5 h x=↥(t,ws))(AJ:ws[k]?=↥w):A8 x (.int (k:Int)) h=.ok (w,h):=by
 have AR:k< ⇑ws:=(List.getElem?_eq_some_iff.mp AJ).1;have ex:Pt x (.int (k:Int)) h=.ok (w,h):=by
  have:JT ws (k:Int)=↥w:=by unfold JT Lv;rw[if_pos δ,if_pos δ];simpa using AJ
  unfold Pt;cases x<;>first|(simp[e,this];done)|(simp[E5]at e)
 unfold A8;have hd:Ho h x (.int (k:Int))=none:=by
  unfold Ho;cases x<;>first|rfl|skip
  rename_i n;unfold E5 at e;dsimp only at e |-
  split at e<;>rename_i Au<;>first|(rw[Au];done)|(cases e;done)
 rw[hd];exact ex
end
def LD(J:BC->A6->Prop)(T:FU->A6->Prop):FU->A6->Prop
 |.AT ρ,h=>J ρ h
 |.DS ρ,h=>J ρ h
 |.Ba ρ,h=>T (.AT ρ) h
 |.EX w,h=>T (.EX w) h
@[simp] theorem a3(J:BC->A6->Prop)(T:FU->A6->Prop)(ρ:BC)(h:A6):LD J T (.AT ρ) h↔J ρ h:=Iff.rfl
@[simp] theorem akO(J:BC->A6->Prop)(T:FU->A6->Prop)(ρ:BC)(h:A6):LD J T (.DS ρ) h↔J ρ h:=Iff.rfl
@[simp] theorem akN(J:BC->A6->Prop)(T:FU->A6->Prop)(ρ:BC)(h:A6):LD J T (.Ba ρ) h↔T (.AT ρ) h:=Iff.rfl
@[simp] theorem uQ(J:BC->A6->Prop)(T:FU->A6->Prop)(w:W)(h:A6):LD J T (.EX w) h↔T (.EX w) h:=Iff.rfl
theorem Ends.HM{r:R (FU×A6)}{T:FU->A6->Prop}(h:Ends r T):Ends (Bq.HM r) T:=by obtain⟨a,g,e,t⟩:=h;rw[e];exact⟨a,g,rfl,t⟩
theorem aP{it:HF}{g:DM}{b:Ak}(n:Nat)(J:Nat->BC->A6->Prop)(T:FU->A6->Prop)(Do:∀j ρ h,J j ρ h->(it j h=↥none/\T (.AT ρ) h)\/(∃w,it j h=↥↥w/\j<n/\∃CS h1,g w ρ h=.ok (.AT CS,h1)/\Ends (b CS h1) (LD (J (j+1)) T))) :
  ∀f j ρ h,J j ρ h->n-j<f->Ends (Mn it g b f j ρ h) T
 |0,j,ρ,h,i,l=>δ
 |f+1,j,ρ,h,i,l=>by
  unfold Mn;rcases Do j ρ h i with⟨e,t⟩|⟨w,e,Ar,CS,h1,eg,Dv,h2,BE,t⟩
  .rw[e];exact⟨_,_,rfl,t⟩
  .rw[e];erw[eg,A3,BE];cases Dv with
   |AT Ds=>exact aP n J T Do f (j+1) Ds h2 t δ
   |DS Ds=>exact aP n J T Do f (j+1) Ds h2 t δ
   |Ba Ds=>exact⟨_,_,rfl,t⟩
   |EX w=>exact⟨_,_,rfl,t⟩
def di{mi:GT}{it:HF}{g:DM}{b:Ak}{ρ:BC}{h h0:A6}(n:Nat)(AM:n<1000)(J:Nat->BC->A6->Prop){T:FU->A6->Prop}(hi:mi ρ h=.ok (it,h0))(Eo:J 0 ρ h0)(Do:∀j ρ h,J j ρ h->(it j h=↥none/\T (.AT ρ) h)\/(∃w,it j h=↥↥w/\j<n/\∃CS h1,g w ρ h=.ok (.AT CS,h1)/\Ends (b CS h1) (LD (J (j+1)) T))):Ends (Q_ mi g b ρ h) T:=by unfold Q_;erw[I_,hi,A3];exact aP n J T Do 1000 0 ρ h0 Eo δ
def SI{mi:GT}{g:DM}{b:Ak}{ρ:BC}{h h0:A6}(lo:Int)(n:Nat)(AM:n<1000)(J:Nat->BC->A6->Prop){T:FU->A6->Prop}(hi:mi ρ h=.ok (LS lo n,h0))(Eo:J 0 ρ h0)(Do:∀j ρ h,j<n->J j ρ h->∃CS h1,g (.int (lo+j)) ρ h=.ok (.AT CS,h1)/\Ends (b CS h1) (LD (J (j+1)) T))(fin:∀ρ h,J n ρ h->T (.AT ρ) h):Ends (Q_ mi g b ρ h) T:=by
 refine di n AM (λj ρ h=>j<=n/\J j ρ h) hi ⟨IC _,Eo⟩ λj ρ h⟨l,i⟩=>?_;by_cases Ar:j<n
 .obtain⟨CS,h1,e,t⟩:=Do j ρ h Ar i;exact .inr ⟨_,by simp[LS,Ar],Ar,CS,h1,e,t.mono λf h' q=>by cases f<;>first|exact⟨Ar,q⟩|exact q⟩
 .have:j=n:=δ
  subst this;exact .inl ⟨by simp[LS],fin ρ h i⟩
def TD{mi:GT}{it:HF}{g:DM}{b:Ak}{ρ:BC}{h h0:A6}(ws:↑W)(AM:⇑ws<1000)(J:Nat->BC->A6->Prop){T:FU->A6->Prop}(hi:mi ρ h=.ok (it,h0))(hit:∀j ρ h,j<=⇑ws->J j ρ h->it j h=↥ws[j]?)(Eo:J 0 ρ h0)(Do:∀j w ρ h,ws[j]?=↥w->J j ρ h->∃CS h1,g w ρ h=.ok (.AT CS,h1)/\Ends (b CS h1) (LD (J (j+1)) T))(fin:∀ρ h,J ⇑ws ρ h->T (.AT ρ) h):Ends (Q_ mi g b ρ h) T:=by
 refine di ⇑ws AM (λj ρ h=>j<=⇑ws/\J j ρ h) hi ⟨IC _,Eo⟩ λj ρ h⟨l,i⟩=>?_;have FY:=hit j ρ h l i;by_cases Ar:j< ⇑ws
 .obtain⟨CS,h1,e,t⟩:=Do j ws[j] ρ h (CT Ar) i;exact .inr ⟨_,by rw[FY,CT Ar],Ar,CS,h1,e,t.mono λf h' q=>by cases f<;>first|exact⟨Ar,q⟩|exact q⟩
 .have:j=⇑ws:=δ
  subst this;exact .inl ⟨by rw[FY];simp,fin ρ h i⟩
theorem gq{c:DX}{b:Ak}(J:Nat->BC->A6->Prop)(T:FU->A6->Prop)(Do:∀n ρ h,J n ρ h->∃k h1,c ρ h=.ok (k,h1)/\(k=false->T (.AT ρ) h1)/\(k=true->Ends (b ρ h1) (LD (λEe h'=>∃m,m<n/\J m Ee h') T))):∀f n ρ h,J n ρ h->n<f->Ends (QU c b f ρ h) T
 |0,n,ρ,h,i,l=>δ
 |f+1,n,ρ,h,i,l=>by
  unfold QU;obtain⟨k,h1,e,t1,CK⟩:=Do n ρ h i;erw[I_,e,A3];cases k with
  |false=>simpa using t1 rfl
  |true=>
   obtain⟨Dv,h2,BE,t⟩:=CK rfl;erw[if_true,BE,A3];cases Dv with
   |AT Ds=>obtain⟨m,hm,t⟩:=t;exact gq J T Do f m Ds h2 t δ
   |DS Ds=>obtain⟨m,hm,t⟩:=t;exact gq J T Do f m Ds h2 t δ
   |Ba Ds=>exact⟨_,_,rfl,t⟩
   |EX w=>exact⟨_,_,rfl,t⟩
def xM{c:DX}{b:Ak}{ρ:BC}{h:A6}(J:Nat->BC->A6->Prop){T:FU->A6->Prop}{n:Nat}(AM:n<1000)(Eo:J n ρ h)(Do:∀n ρ h,J n ρ h->∃k h1,c ρ h=.ok (k,h1)/\(k=false->T (.AT ρ) h1)/\(k=true->Ends (b ρ h1) (LD (λEe h'=>∃m,m<n/\J m Ee h') T))):Ends (Tv c b ρ h) T:=
 gq J T Do 1000 n ρ h Eo AM
theorem eJ{it:HF}{g:DM}{t:DX}{e:BB}{h:A6}(ws:↑W)(p:W->Bool)(f:W->W)(BH:BC->Prop)(AF:⇑ws<1000)(hit:∀j acc,j<=⇑ws->it j (h++[⟨.lst,acc⟩])=↥ws[j]?)(Do:∀w∈ws,∀ρ acc,BH ρ->∃CS,g w ρ (h++[⟨.lst,acc⟩])=.ok (.AT CS,h++[⟨.lst,acc⟩])/\BH CS/\t CS (h++[⟨.lst,acc⟩])=.ok (p w,h++[⟨.lst,acc⟩])/\(p w=true->e CS (h++[⟨.lst,acc⟩])=.ok (f w,h++[⟨.lst,acc⟩]))) :
  ∀k j ρ acc,j<=⇑ws->⇑ws-j<k->⇑acc<=j->BH ρ->Ky it g t e ⇑h k j ρ (h++[⟨.lst,acc⟩])=.ok (h++[⟨.lst,acc++((ws.drop j).filter p).map f⟩])
 |0,j,ρ,acc,Ar,l,Gr,i=>δ
 |k+1,j,ρ,acc,Ar,l,Gr,i=>by
  unfold Ky;rw[hit _ _ Ar];by_cases DH:j< ⇑ws
  .have CM:=hb DH;rw[CT DH];obtain⟨CS,AD,Cb,AH,DT⟩:=Do ws[j] (Jm DH) ρ acc i;erw[AD,A3,AH];cases AV:p ws[j]with
   |false=>rw[if_neg γ,eJ ws p f BH AF hit Do k (j+1) CS acc DH δ δ Cb,CM];erw[Qw,AV,MP,if_false]
   |true=>rw[if_pos rfl,DT AV];erw[A3,Fx,Da,TQ,NH];rw[if_pos (show⇑acc<Ay by unfold Ay;lia),eJ ws p f BH AF hit Do k (j+1) CS (acc++[f ws[j]]) DH δ (by simp;lia) Cb,CM];erw[Qw,AV,if_true,DC,ET,HT,NF]
  .have:j=⇑ws:=δ
   subst this;simp
def Vw{mi:GT}{it:HF}{g:DM}{t:DX}{e:BB}{ρ:BC}{h h0:A6}{nl:Nat}{caps:↑Nat}(ws:↑W)(p:W->Bool)(f:W->W)(BH:BC->Prop)(AF:⇑ws<1000)(hi:mi ρ h0=.ok (it,h))(Eo:BH (QC nl caps ρ))(hit:∀j acc,j<=⇑ws->it j (h++[⟨.lst,acc⟩])=↥ws[j]?)(Do:∀w∈ws,∀ρ acc,BH ρ->∃CS,g w ρ (h++[⟨.lst,acc⟩])=.ok (.AT CS,h++[⟨.lst,acc⟩])/\BH CS/\t CS (h++[⟨.lst,acc⟩])=.ok (p w,h++[⟨.lst,acc⟩])/\(p w=true->e CS (h++[⟨.lst,acc⟩])=.ok (f w,h++[⟨.lst,acc⟩]))) :
  DZ nl caps mi g t e ρ h0=.ok (.ref ⇑h,h++[⟨.lst,(ws.filter p).map f⟩]):=by
 unfold DZ;erw[I_,hi,A3];rw[eJ ws p f BH AF hit Do K2 0 _ [] (IC _) (by unfold K2;lia) (C1 _) Eo];simp
def Vx{mi:GT}{e:BB}{ρ:BC}{h h0:A6}{caps:↑Nat}(lo:Int)(n:Nat)(f:Nat->W)(AF:n<1000)(hi:mi ρ h0=.ok (LS lo n,h))(Do:∀j,j<n->∀acc,e (↥(.int (lo+j))::caps.map λj=>ρ.getD j none) (h++[⟨.lst,acc⟩])=.ok (f j,h++[⟨.lst,acc⟩])) :
  DZ 1 caps mi (AC 0) (pu true) e ρ h0=.ok (.ref ⇑h,h++[⟨.lst,(Cn n).map f⟩]):=by
 let EP:W->Nat:=λw=>match w with
  |.int i=>(i-lo).toNat
  |_=>0
 have AJ:∀j:Nat,(lo+(j:Int)-lo).toNat=j:=λj=>δ
 have:=Vw (mi:=mi) (g:=AC 0) (t:=pu true) (e:=e) (ρ:=ρ) (nl:=1) (caps:=caps) ((Cn n).map λj:Nat=>W.int (lo+(j:Int))) (λ_=>true) (λw=>f (EP w)) (λEe=>∃x,Ee=x::caps.map λj=>ρ.getD j none) (AF:) hi ⟨none,rfl⟩ (λj acc _=>by
  erw[LS,E7,Sk];by_cases Ar:j<n
  .simp[Ar]
  .simp[Ar]) λw hw Ee acc⟨x,AJ⟩=>by obtain⟨j,Ar,rfl⟩:=List.mem_map.mp hw;subst AJ;refine⟨↥(.int (lo+j))::caps.map λj=>ρ.getD j none,γ,⟨_,rfl⟩,rfl,λ_=>?_⟩;rw[Do j (List.mem_range.mp Ar) acc];simp[EP,AJ]
 rw[this];simp[EP,AJ,List.filter_eq_self.mpr,Pe]
@[simp] theorem aiH(ma:EY)(ρ:BC)(h:A6):Dg ma ρ h=(ma ρ h).bind λp=>match p.1 with
  |[.int j]=>if-(2^62)<=j/\j<2^62 then .ok (LS 0 j.toNat,p.2)else .bad
  |_=>.bad:=by
  unfold Dg bd;congr;funext p;obtain⟨ws,g⟩:=p;rcases ws with _|⟨w,_|⟨u,r⟩⟩
  .rfl
  .cases w<;>first|rfl|(dsimp only;split<;>rfl)
  .cases w<;>rfl
def oW{n:Nat}(AM:n<1000): -(2^62)<=(n:Int)/\(n:Int)<2^62:=by
 have:(2:Int)^62=4611686018427387904:=ε
 rw[this];lia
def LR{ma:EY}{ρ:BC}{h h0:A6}{n:Nat}(e:ma ρ h0=.ok ([.int (n:Int)],h))(AM:n<1000):Dg ma ρ h0=.ok (LS 0 n,h):=by rw[aiH,e,A3];exact if_pos (oW AM)
def Y0{P:↑A9->Prop}(h:P []):∀us:↑A9,⇑us=0->P us
 |[],_=>h
def Y1{P:↑A9->Prop}{n:Nat}(h:∀a us,⇑us=n->P (a::us)):∀us:↑A9,⇑us=n+1->P us
 |a::us,e=>h a us (Nat.succ.inj e)
noncomputable def Xh:A9->Option W
 |.int i _=>↥(.int i)
 |.str x _=>↥(.str x)
 |_=>none
theorem sj{K:At}:∀{us:↑A9}{ws:↑W},us.mapM Xh=↥ws->∃xs,Vals xs us/\∀φ H,Ai K φ H ws xs
 |[],ws,e=>by simp at e;subst e;exact⟨[],.nil,λ_ _=>.nil⟩
 |u::us,ws,e=>by
  rw[NL]at e;cases FZ:Xh u with
  |none=>rw[FZ]at e;cases e
  |some w=>
   cases B5:us.mapM Xh with
   |none=>rw[FZ,B5]at e;cases e
   |some r=>
    rw[FZ,B5]at e;cases e;obtain⟨xs,v,a⟩:=sj (K:=K) B5;cases u<;>erw[Xh]at FZ<;>first|(cases FZ;done)|skip
    .cases FZ;exact⟨.int _::xs,.cons ⟨_,rfl⟩ v,λφ H=>.cons (by erw[AX]) (a φ H)⟩
    .cases FZ;exact⟨.str _::xs,.cons ⟨_,rfl⟩ v,λφ H=>.cons (by erw[AX]) (a φ H)⟩
section
variable{K:At}{h:BF}{mg:Str->Option A9}{x qual Dh:Str}{C f:A7}{st:BG}{ps BA:↑Str}{E9 an:Option A7}{Bm:Array (Option A9)}{Gn Cj Ii pm cd DS:A9}
abbrev a0(x qual:Str)(st:BG)(ps:↑Str):Prop:=∀(Cj doc pm:A9)(an:Option A7)(Fm DS:A9)(us:↑A9),⇑us=⇑ps->bindArgs (KM x qual (Lr st) (L0 st) (Bu st) .none Cj doc pm an Fm DS) ⟨us,[]⟩=pure (ps.zip us)
def y1(X:K.In h)(G:h.Ns Ff mg)(a:JN K Ff x=↥↥(.ref f))(l:K.lookup f=↥⟨Gn,E9,.func (KM x x (Lr st) (L0 st) (Bu st) .none Cj Ii pm an cd DS),Bm⟩)(c:NK K cd x=true)(k:KL K (.ref f)=true)(b:a0 x x st ps:=by intro _ _ _ _ _ _;(repeat refine Y1 λ_=>?_);exact Y0 rfl):DR K mg x st ps:=⟨⟨f,_,SP (st:=st) l c k,RB X G a,(SP (st:=st) l c k).binds b⟩⟩
def acn(n:JN K Ff Dh=↥↥(.ref C))(g1:Sh K C Str.empty=true)(g2:VC K C=true)(g3:Yy K C=true)(g4:Ji K (.ref C) "__setattr__"=↥↥(.builtin "object.__setattr__"))(a:Ji K (.ref C) x=↥↥(.ref f))(l:K.lookup f=↥⟨Gn,E9,.func (KM x qual (Lr st) (L0 st) (Bu st) .none Cj Ii pm an cd DS),Bm⟩)(c:NK K cd qual=true)(k:KL K (.ref f)=true)(i:VG K (.ref f)=true)(b:a0 x qual st ps:=by intro _ _ _ _ _ _;(repeat refine Y1 λ_=>?_);exact Y0 rfl):J4 K Dh x qual st ps:=⟨⟨C,f,_,n,⟨g1,g2,g3,g4⟩,⟨a,i,k⟩,SP (st:=st) l c k,(SP (st:=st) l c k).binds b⟩⟩
def aci(X:K.In h)(G:h.Ns Ff mg)(n:JN K Ff Dh=↥↥(.ref C))(mk:i3 K C=true)(kc:KL K (.ref C)=true)(a:Ji K (.ref C) "__init__"=↥↥(.ref f))(l:K.lookup f=↥⟨Gn,E9,.func (KM "__init__" qual (Lr st) (L0 st) (Bu st) .none Cj Ii pm an cd DS),Bm⟩)(c:NK K cd qual=true)(k:KL K (.ref f)=true)(i:VG K (.ref f)=true)(b:a0 "__init__" qual st ps:=by intro _ _ _ _ _ _;(repeat refine Y1 λ_=>?_);exact Y0 rfl):InK K mg Dh qual st ps:=⟨⟨C,f,_,n,⟨mk,a,i,kc⟩,SP (st:=st) l c k,RB X G n,(SP (st:=st) l c k).binds b⟩⟩
def wT(n:JN K Ff Dh=↥↥(.ref C))(g1:Sh K C Str.empty=true)(g2:VC K C=true)(g3:Yy K C=true)(g4:Ji K (.ref C) "__setattr__"=↥↥(.builtin "object.__setattr__"))(u:∀f∈BA,Ji K (.ref C) f=↥none):QQ K Dh BA:=⟨⟨C,n,⟨g1,g2,g3,g4⟩,u⟩⟩
def xW(X:K.In h)(G:h.Ns Ff mg)(n:JN K Ff Dh=↥↥(.ref C))(e:VI K C [.type "ValueError",.type "Exception",.type "BaseException",.type "object"] "ValueError.__new__"=true):TV K mg Dh:=⟨⟨C,n,RB X G n,e⟩⟩
def agV{c:Str}{C D:A7}(a:JN K Ff c=↥↥(.ref D))(e:V5 K (.ref D) (.ref C)=↥true):∃D,JN K Ff c=↥↥(.ref D)/\V5 K (.ref D) (.ref C)=↥true:=⟨D,a,e⟩
def agW{cs:↑Str}(X:K.In h)(G:h.Ns Ff mg)(n:JN K Ff x=↥↥(.ref C))(u:∀c∈cs,∃D,JN K Ff c=↥↥(.ref D)/\V5 K (.ref D) (.ref C)=↥true):dR K mg x cs:=⟨⟨C,RB X G n,u⟩⟩
def wV{i:Int}{t:Tok}(X:K.In h)(G:h.Ns Ff mg)(z:JN K Ff x=↥↥(.int i t)):M4 K mg x (.int i):=⟨⟨.int i,_,RB X G z,⟨t,rfl⟩,λ_ _=>by erw[AX]⟩⟩
def wc{its:Array A9}{m:Nat}{ws:↑W}(X:K.In h)(G:h.Ns Ff mg)(z:JN K Ff x=↥↥(.ref C))(y:K.lookup C=↥⟨.type "tuple",E9,.seq its m,Bm⟩)(hz:its.size<=CO)(e:its.toList.mapM Xh=↥ws):M4 K mg x (.IS ws):=by obtain⟨xs,v,a⟩:=sj (K:=K) e;refine⟨⟨.ref C,_,RB X G z,rfl,λφ H=>?_⟩⟩;erw[AX];exact⟨C,xs,rfl,.inr ⟨_,its,m,y,rfl,rfl,hz,v⟩,a φ H⟩
end
def fl(ns:↑Int):W:=.Dm (ns.map W.int)
theorem qW{K:At}{φ:↑A7}{H:AE}:∀ns:↑Int,Ai K φ H (ns.map W.int) (ns.map V.int)
 |[]=>.nil
 |_::ns=>.cons (by erw[AX]) (qW ns)
def wg{P:C9}{w:Bl}{H:AE}{s:AS}{e:A9}{s':AS}(h:Iq P w [] H s (λ_ _ _=>False) e s'):False:=by obtain⟨a,C,H3,B,AB,_,_,z⟩:=h;exact z
def aiN{l:i6}{q:C9}{loose:↑Str}{LY:(Str->Option A9)->BF->Prop}{N9:Bl->BF->Prop}{d:DefRec}{K:Params->At}{st:BG}{x p:Str}{N:↑Str}{k:Nat}{m:Ak}(AM:l.most=↥63)(SV:d.params.defaults=[])(B6:DD (k+1) Pm)(S:CA N [p] (Bu st))(hd:d.name=x)(Wc:∀(w:Bl)(h:BF),N9 w h->(K w.params).In h)(T:∀(w:Bl)(mg:Str->Option A9)(h:BF),(K w.params).In h->h.Ns Ff mg->(∃(f:A7)(Gn:A9)(E9 an:Option A7)(Cj Ii pm cd DS:A9)(Bm:Array (Option A9)),JN (K w.params) Ff x=↥↥(.ref f)/\(K w.params).lookup f=↥⟨Gn,E9,.func (KM x x (Lr st) (L0 st) (Bu st) .none Cj Ii pm an cd DS),Bm⟩/\NK (K w.params) cd x=true/\KL (K w.params) (.ref f)=true)/\∀base:BF,CL l.prog w (K w.params) mg base x st N k m)(Bc:∀ns:↑Int,⇑ns<=63->Ends (FH ⇑N m [fl ns] []) λw _=>w=.AN true)(b:a0 x x st [p]:=by intro _ _ _ _ _ _;(repeat refine Y1 λ_=>?_);exact Y0 rfl) :
  iQ q loose LY N9 l.row.toRowW d [] (λf vs=>ZP f vs):=by
 refine B3.ahb (n:=63) (k:=k+1) (x:=p) (CX:=λw=>Iq l.prog w) (sp:=λw=>MK (K w.params) 1 (FH ⇑N m)) AM ε SV B6 Wc (λw mg K7 h IJ G lh=>?_) (λw H a ns AF TP Mq=>?_) λw H s e s' z=>wg z
 .obtain⟨⟨f,Gn,E9,an,Cj,Ii,pm,cd,DS,Bm,BS,lk,c,Bf⟩,A5⟩:=T w mg h IJ G;rw[hd]at lh;have e:=lh.symm.trans (RB IJ G BS);cases e;exact⟨_,λs v=>.of_eq (b Cj Ii pm an cd DS [v] rfl),λbase _ _=>WX (SP (st:=st) lk c Bf) S (A5 base)⟩
 .obtain⟨v,h',e,rfl⟩:=Bc ns AF;refine⟨[],[],[fl ns],⟨Ss,rfl,(λn o a e=>by cases e)⟩,.cons ?_ .nil,rfl,?_⟩
  .unfold fl;erw[AX];refine⟨a,ns.map V.int,rfl,?_,qW ns⟩;rcases Mq with(z|z)|z
   .rcases TP a with y|⟨o,xs,y⟩
    .rw[z]at y;cases y
    .rw[z]at y;cases y
   .exact .inl z
   .exact .inr z
  .rw[e];intro v BL AB _ _ EH;simpa only[AX]using EH
end Bq
namespace FT
noncomputable def top(i:Nat):BG:=PySem.Challenge.pw_nohalfway_k36_two_runs.main.body.getD i (.Pass ⟨0,0,0,0⟩)
abbrev qP:BG:=top 49
abbrev pZ:BG:=top 50
abbrev pS:BG:=top 51
abbrev pT:BG:=top 52
abbrev ph:BG:=top 53
abbrev pV:BG:=top 57
abbrev pe:BG:=top 56
abbrev qN:BG:=top 58
abbrev qO:BG:=top 59
abbrev qK:BG:=top 72
abbrev qM:BG:=top 54
abbrev pb:BG:=top 55
abbrev pc:BG:=top 62
abbrev pd:BG:=top 63
abbrev qH:BG:=top 8
abbrev qI:BG:=top 9
abbrev q0:BG:=top 13
abbrev qC:BG:=top 14
abbrev qA:BG:=top 15
abbrev qJ:BG:=top 16
abbrev q5:BG:=top 17
abbrev oi:BG:=inClass (top 18) 0
abbrev qD:BG:=top 25
abbrev qB:BG:=top 29
abbrev qF:BG:=top 30
abbrev q8:BG:=top 31
abbrev oh:BG:=inClass (top 18) 1
abbrev q9:BG:=top 32
abbrev pj:BG:=top 33
abbrev qG:BG:=top 40
abbrev qE:BG:=top 41
abbrev pk:BG:=top 42
abbrev oD:BG:=inClass (top 18) 2
abbrev q4:BG:=top 19
abbrev q3:BG:=top 45
abbrev oG:BG:=inClass (top 47) 0
abbrev qL:BG:=top 64
abbrev qQ:BG:=top 69
abbrev q7:BG:=top 24
abbrev oj:BG:=inClass (top 18) 5
abbrev om:BG:=inClass (top 18) 6
abbrev oe:BG:=inClass (top 46) 0
abbrev oE:BG:=inClass (top 47) 2
abbrev oI:BG:=inClass (top 47) 5
abbrev q6:BG:=top 26
abbrev pn:BG:=top 34
abbrev og:BG:=inClass (top 18) 3
abbrev pi:BG:=top 36
abbrev oL:BG:=inClass (top 47) 4
abbrev oF:BG:=inClass (top 47) 3
abbrev oM:BG:=inClass (top 47) 8
abbrev oJ:BG:=inClass (top 47) 7
abbrev oo:BG:=inClass (top 47) 6
abbrev oK:BG:=inClass (top 47) 1
abbrev pf:BG:=top 71
abbrev pR:BG:=top 66
abbrev pX:BG:=top 65
abbrev pU:BG:=top 60
abbrev pa:BG:=top 61
abbrev pW:BG:=top 67
abbrev pY:BG:=top 68
abbrev p_:BG:=top 70
abbrev oH:BG:=inClass (top 47) 10
abbrev pz:BG:=inClass (top 47) 9
abbrev pg:BG:=top 73
abbrev KA:BG:=top 74
def Vr:W:=.int 15
def T2:W:=.int 4
def T3:W:=.int 6
def Vs:W:=.int 12
def T4:W:=.int 40
noncomputable def RJ:W:=.IS [.str (AL "0"),.str (AL "1"),.str (AL "x")]
def T5:W:=.IS [.str (AL "step")]
def Mh:W:=.IS [.str (AL "wait")]
def PK:W:=.IS [.int 8,.int 4,.int 2,.int 1]
structure Dl(K:At)(mg:Str->Option A9):Prop where
 yH:DR K mg "_law_cell_at" qP ["_law_script","_law_k"]
 yR:DR K mg "_law_mixed" pZ ["_law_cell","_law_k"]
 yK:DR K mg "_law_counts" pS ["_law_cell"]
 yL:DR K mg "_law_doors" pT ["_law_counts_here"]
 xt:DR K mg "_law_wires" ph ["_law_cell","_law_counts_here"]
 yN:DR K mg "_law_free_book" pV ["_law_number","_law_count"]
 xp:DR K mg "_law_row" pe ["_law_cell","_law_k","_law_count"]
 yF:DR K mg "_law_books" qN ["_law_cells","_law_counts_here","_law_shift"]
 yG:DR K mg "_law_both" qO ["_law_script","_law_counts_here"]
 yC:DR K mg "_law_all" qK ["_law_script"]
 yE:DR K mg "_law_beyond" qM ["_law_wires_here","_law_door"]
 xm:DR K mg "_law_outer" pb ["_law_counts_here","_law_wires_here"]
 xn:DR K mg "_law_plain" pc ["_law_many"]
 xo:DR K mg "_law_plan" pd ["_law_cells","_law_many"]
 y9:DR K mg "is_whole" qH ["thing"]
 yA:DR K mg "is_whole_within" qI ["thing","least","greatest"]
 xB:DR K mg "are_counts" q0 ["thing"]
 wn:DR K mg "is_pair" qC ["thing"]
 wl:DR K mg "is_door_among" qA ["counts","thing"]
 yB:DR K mg "is_wire_among" qJ ["counts","thing"]
 xE:DR K mg "far_doors" q5 ["counts","wires"]
 wv:InK K mg "Net" "Net.__init__" oi ["self","counts","wires"]
 wo:DR K mg "is_pattern" qD ["thing"]
 wm:DR K mg "is_number_or_none" qB ["thing","doors"]
 wq:DR K mg "is_row" qF ["thing","doors"]
 wj:DR K mg "is_book" q8 ["thing","doors"]
 wu:J4 K "Net" "count" "Net.count" oh ["self","house"]
 wk:DR K mg "is_books" q9 ["thing","net"]
 xv:DR K mg "refuse_unless_books" pj ["thing","net"]
 xF:DR K mg "is_step" qG ["thing","net"]
 wp:DR K mg "is_plan" qE ["thing","net"]
 xw:DR K mg "refuse_unless_plan" pk ["net","old","new","plan"]
 wy:J4 K "Net" "wires" "Net.wires" oD ["self"]
 xD:DR K mg "copied_net" q4 ["net"]
 xC:DR K mg "copied_books" q3 ["books"]
 x2:InK K mg "Run" "Run.__init__" oG ["self","net","old","new","plan"]
 yD:DR K mg "_law_begun" qL ["_law_wires_here","_law_old","_law_new","_law_plan_here"]
 yI:DR K mg "_law_chosen" qQ ["_law_state","_law_cell","_law_outer_here"]
 wi:DR K mg "is_address" q7 ["thing"]
 ww:J4 K "Net" "is_door" "Net.is_door" oj ["self","thing"]
 wx:J4 K "Net" "is_outer" "Net.is_outer" om ["self","thing"]
 xc:InK K mg "Letter" "Letter.__init__" oe ["self","mark","door","address"]
 wz:J4 K "Run" "come" "Run.come" oE ["self","door","address"]
 x4:J4 K "Run" "knows" "Run.knows" oI ["self","house","mark"]
 wh:DR K mg "fits" q6 ["pattern","address"]
 xx:DR K mg "taken" pn ["book","door","address"]
 wt:J4 K "Net" "beyond" "Net.beyond" og ["self","door"]
 xu:DR K mg "onward" pi ["net","book","door","address"]
 x7:J4 K "Run" "next_of" "Run.next_of" oL ["self","letter"]
 x1:J4 K "Run" "go" "Run.go" oF ["self","number"]
 x8:J4 K "Run" "place" "Run.place" oM ["self"]
 x5:J4 K "Run" "may_step" "Run.may_step" oJ ["self"]
 x9:J4 K "Run" "step" "Run.step" oo ["self"]
 x6:J4 K "Run" "move" "Run.move" oK ["self","move"]
 xq:DR K mg "_law_said" pf ["_law_run","_law_deed"]
 yJ:DR K mg "_law_come" pR ["_law_state","_law_door","_law_address"]
 yP:DR K mg "_law_knows" pX ["_law_state","_law_house","_law_mark"]
 yM:DR K mg "_law_fits" pU ["_law_pattern","_law_address"]
 yT:DR K mg "_law_next" pa ["_law_wires_here","_law_book","_law_door","_law_address"]
 yO:DR K mg "_law_go" pW ["_law_state","_law_number"]
 yQ:DR K mg "_law_may_step" pY ["_law_state"]
 yS:DR K mg "_law_model" p_ ["_law_state","_law_deed"]
 x3:J4 K "Run" "journal" "Run.journal" oH ["self"]
 xA:J4 K "Run" "under" "Run.under" pz ["self"]
 xr:DR K mg "_law_under" pg ["_law_state"]
 al7:DR K mg "law" KA ["_law_script"]
 md:QQ K "Letter" ["address","doors","mark"]
 me:QQ K "Net" ["counts","far","joined","many"]
 mh:QQ K "Run" ["books","came","done","ended","letters","net","plan"]
 uh:mg "all"=none
 ui:mg "bool"=none
 uj:mg "enumerate"=none
 jh:mg "int"=none
 Vn:mg "isinstance"=none
 j4:mg "len"=none
 cZ:mg "list"=none
 d5:mg "range"=none
 uk:mg "set"=none
 ul:mg "sorted"=none
 j5:mg "str"=none
 j7:mg "tuple"=none
 um:mg "zip"=none
 Vr:M4 K mg "GREATEST_ADDRESS" Vr
 T2:M4 K mg "MOST_DOORS" T2
 T3:M4 K mg "MOST_HOUSES" T3
 Vs:M4 K mg "MOST_ROWS" Vs
 T4:M4 K mg "MOST_STEPS" T4
 RJ:M4 K mg "SIGNS" RJ
 T5:M4 K mg "STEP" T5
 Mh:M4 K mg "WAIT" Mh
 PK:M4 K mg "WORTHS" PK
 ahg:TV K mg "NoBooks"
 ahh:TV K mg "NoMove"
 ahi:TV K mg "NoNet"
 ahj:TV K mg "NoPlan"
 agw:dR K mg "NoMove" ["NoMove"]
def qh:CA ["_law_script","_law_k"] ["_law_script","_law_k"] (Bu qP):=Cc
def aq:Ak:=
    (AO (Bp (Aa (A1 Ja Ψ (Aw BZ Γ))) (B7 (A1 A8 π Ψ)) Bj)
    (B7 η))
def M1:Bs:=DO 2 aq
def qs:CA ["_law_cell","_law_k","_law_factor","_law_prime"] ["_law_cell","_law_k"] (Bu pZ):=Cc
def cV:Ak:=
    (AO (AZ (BJ (A1 A8 (BU (A0 (pu (.int 48271)) (A0 (pu (.int 69621)) (A0 (pu (.int 16807)) (A0 (pu (.int 39373)) (A0 (pu (.int 40692)) (A0 (pu (.int 742938285)) (A0 (pu (.int 950706376)) (A0 (pu (.int 1343714438)) A2))))))))) (A1 BY Ψ (pu (.int 8))))) (AC 2))
    (AO (AZ (BJ (A1 A8 (BU (A0 (pu (.int 2147483647)) (A0 (pu (.int 2147483629)) (A0 (pu (.int 2147483587)) (A0 (pu (.int 2147483579)) (A0 (pu (.int 2147483563)) A2)))))) (A1 BY Ψ (pu (.int 5))))) (AC 3))
    (B7 (A1 Cq (A1 BY (A1 K_ (A1 addW (A1 addW (A1 BY π (A1 PM (pu (.int 10)) (pu (.int 30)))) (A1 K_ (pu (.int 31)) Ψ)) (pu (.int 7))) ac) Cl) (pu (.int 7))))))
def E3:Bs:=DO 4 cV
def qk:CA ["_law_cell","_law_number"] ["_law_cell"] (Bu pS):=Cc
def av:Ak:=
    (AO (Bp (Aa (A1 Φ (A1 BY π τ) ζ)) (AO (AZ (A1 BY (A1 Cq π τ) (A1 PM (pu (.int 10)) (pu (.int 60)))) (AC 1))
    (B7 (DZ 1 [1] (Dg (A0 (A1 addW ζ (A1 BY Ψ (pu (.int 6)))) A2)) (AC 0) (pu true) (BJ (A1 addW ζ (A1 BY (A1 Cq (A1 Cq Ψ (pu (.int 6))) (A1 A8 (BU (A0 ζ (A0 (pu (.int 4)) (A0 (pu (.int 16)) (A0 (pu (.int 64)) (A0 (pu (.int 256)) (A0 (pu (.int 1024)) A2))))))) π)) (pu (.int 4)))))))) Bj)
    (B7 (DZ 1 [0] (Dg (A0 (A1 addW ζ (A1 BY (Aj 2 E3 (A0 π (A0 η A2))) (pu (.int 6)))) A2)) (AC 0) (pu true) (A1 addW ζ (A1 BY (Aj 2 E3 (A0 Ψ (A0 (A1 addW ζ π) A2))) (pu (.int 4)))))))
def U9:Bs:=DO 2 av
def ql:CA ["_law_counts_here","_law_doors_here","_law_house"] ["_law_counts_here"] (Bu pT):=Cc
def cU:Ak:=
    (AO (AZ (BU A2) (AC 1))
    (AO (Ew (Dg (A0 (Aw BZ Γ) A2)) (AC 2) (AZ (BJ (A1 addW Ψ (DZ 1 [2] (Dg (A0 (A1 A8 π ac) A2)) (AC 0) (pu true) (BX (A0 Ψ Γ))))) (AC 1)))
    (B7 Ψ)))
def S7:Bs:=DO 3 cU
def qS:CA ["_law_cell","_law_counts_here","_law_doors_here","_law_wires_here","_law_number","_law_keep","_law_k","_law_picks","_law_one","_law_other"] ["_law_cell","_law_counts_here"] (Bu ph):=Cc
def cY:Ak:=
    (AO (AZ (Aj 1 S7 υ) (AC 2))
    (AO (AZ (BU A2) (AC 3))
    (AO (AZ (A1 Cq (A1 BY (A1 Cq π τ) (A1 PM (pu (.int 10)) (pu (.int 60)))) (pu (.int 24576))) (AC 4))
    (AO (AZ (A1 addW ζ (A1 BY (Aj 2 E3 (A0 π (A0 (pu (.int 8)) A2))) (pu (.int 3)))) (AC 5))
    (AO (Bp (Aa (A1 Φ (A1 BY π τ) ζ)) (AO (AZ (A1 addW ζ (A1 BY XL (pu (.int 24)))) (AC 5))
    (AZ (A1 Cq XL (pu (.int 24))) (AC 4))) Bj)
    (AO (AZ (pu (.int 9)) (AC 6))
    (AO (cB (Aa (A1 KS (Aw BZ ω) (A1 addW (I 5) ζ))) (AO (AZ (BU (A0 (Aj 2 E3 (A0 π (A0 (I 6) A2))) (A0 (Aj 2 E3 (A0 π (A0 (A1 addW (I 6) ζ) A2))) A2))) (AC 7))
    (AO (Bp (Aa (A1 Φ (A1 BY π τ) ζ)) (AO (AZ (BU (A0 XL (A0 (A1 Cq XL (Aw BZ ω)) A2))) (AC 7))
    (AZ (A1 Cq (A1 Cq XL (Aw BZ ω)) (A1 NS (Aw BZ ω) ζ)) (AC 4))) Bj)
    (AO (AZ (DI Je ac (A0 (A1 BY (A1 A8 (I 7) η) (Aw BZ ω)) A2)) (AC 8))
    (AO (AZ (DI Je ac (A0 (A1 BY (A1 A8 (I 7) ζ) (Aw BZ ω)) A2)) (AC 9))
    (AO (Fy (DI EO Cl (A0 (BX (A0 (I 8) (A0 (I 9) A2))) A2)))
    (AZ (A1 addW (I 6) τ) (AC 6))))))))
    (B7 Cl))))))))
def OX:Bs:=DO 10 cY
def qo:CA ["_law_number","_law_count","_law_book","_law_many","_law_choices","_law_k","_law_pattern","_law_j"] ["_law_number","_law_count"] (Bu pV):=Cc
def jl:Ak:=
    (AO (AZ (BU A2) (AC 2))
    (AO (AZ (A1 BY π (pu (.int 13))) (AC 3))
    (AO (AZ (A1 Cq π (pu (.int 13))) (AC 0))
    (AO (AZ (BJ (A1 addW (BU (A0 Ty A2)) (Aw P0 υ))) (AC 4))
    (AO (Ew (Dg (A0 Cl A2)) (AC 5) (AO (AZ (pu (.str (AL ""))) (AC 6))
    (AO (Ew (Dg (A0 (pu (.int 4)) A2)) (AC 7) (AO (AZ (A1 addW (I 6) (A1 A8 (pu (.str (AL "01x"))) (A1 BY π (pu (.int 3))))) (AC 6))
    (AZ (A1 Cq π (pu (.int 3))) (AC 0))))
    (AO (Fy (DI EO ac (A0 (BX (A0 (I 6) (A0 (A1 A8 XL (A1 BY π (A1 addW Ψ ζ))) (A0 (A1 A8 XL (A1 BY (A1 Cq π (A1 addW Ψ ζ)) (A1 addW Ψ ζ))) A2)))) A2)))
    (AZ (A1 Cq (A1 Cq π (A1 addW Ψ ζ)) (A1 addW Ψ ζ)) (AC 0))))))
    (B7 ac))))))
def UB:Bs:=DO 8 jl
def qy:CA ["_law_cell","_law_k","_law_count","_law_number","_law_pattern","_law_j","_law_door","_law_out"] ["_law_cell","_law_k","_law_count"] (Bu pe):=Cc
def cX:Ak:=
    (AO (AZ (Aj 2 E3 (A0 π υ)) (AC 3))
    (AO (AZ (pu (.str (AL ""))) (AC 4))
    (AO (Ew (Dg (A0 (pu (.int 4)) A2)) (AC 5) (AO (AZ (BJ (A1 addW XL (A1 A8 (BU (A0 (pu (.str (AL "x"))) (A0 (pu (.str (AL "x"))) (A0 (pu (.str (AL "0"))) (A0 (pu (.str (AL "1"))) (A0 (pu (.str (AL "x"))) A2)))))) (A1 BY Cl (pu (.int 5)))))) (AC 4))
    (AZ (A1 Cq Cl (pu (.int 5))) (AC 3))))
    (AO (AZ Ty (AC 6))
    (AO (Bp (Aa (A1 Φ (A1 BY Cl (pu (.int 3))) η)) (AZ (A1 BY (A1 Cq Cl (pu (.int 3))) ac) (AC 6)) Bj)
    (AO (AZ (A1 BY (A1 Cq Cl (pu (.int 20))) ac) (AC 7))
    (AO (Bp (Aa (A1 Φ (A1 BY (A1 Cq Cl (pu (.int 100))) (pu (.int 9))) η)) (AZ Ty (AC 7)) Bj)
    (B7 (BX (A0 XL (A0 (I 6) (A0 (I 7) A2))))))))))))
def XS:Bs:=DO 8 cX
def qf:CA ["_law_cells","_law_counts_here","_law_shift","_law_books_here","_law_house","_law_cell","_law_many"] ["_law_cells","_law_counts_here","_law_shift"] (Bu qN):=Cc
def ji:Ak:=
    (AO (AZ (BU A2) (AC 3))
    (AO (Ew (Dg (A0 (Aw BZ υ) A2)) (AC 4) (AO (AZ (A1 addW (A1 addW (pu (.int 17)) (A1 K_ (pu (.int 5)) XL)) ac) (AC 5))
    (AO (Bp (HX (Aa (A1 (As false) π (BU A2)))) (AZ (A1 A8 π (A1 BY (A1 addW XL ac) (Aw BZ Γ))) (AC 5)) Bj)
    (Bp (HX (GN (Aa (A1 (As false) π (BU A2))) (Aa (A1 Φ (A1 BY (I 5) τ) ζ)))) (Fy (DI EO Cl (A0 (Aj 2 UB (A0 (A1 BY (A1 Cq (I 5) τ) (A1 PM (pu (.int 10)) (pu (.int 60)))) (A0 (A1 A8 Ψ XL) A2))) A2))) (AO (AZ (A1 addW (I 5) (A1 K_ (pu (.int 3)) XL)) (AC 5))
    (AO (AZ (BJ (A1 A8 (BU (A0 ζ (A0 τ (A0 (pu (.int 3)) (A0 η (A0 τ (A0 (pu (.int 4)) (A0 (pu (.int 12)) A2)))))))) (A1 BY (Aj 2 E3 (A0 (I 5) (A0 (pu (.int 3)) A2))) (pu (.int 7))))) (AC 6))
    (Fy (DI EO Cl (A0 (DZ 1 [5,1,4,2] (Dg (A0 (I 6) A2)) (AC 0) (pu true) (Aj 3 XS (A0 Ψ (A0 (A1 addW (A1 addW (pu (.int 4)) XL) (A1 K_ (pu (.int 3)) π)) (A0 (A1 A8 ac Cl) A2))))) A2)))))))))
    (B7 Cl)))
def N0:Bs:=FH 7 ji
def qg:CA ["_law_script","_law_counts_here","_law_old","_law_new","_law_house"] ["_law_script","_law_counts_here"] (Bu qO):=Cc
def jj:Ak:=
    (AO (AZ (Aj 3 N0 (A0 (BJ (D9 π (CC τ) (CC (pu (.int 9))))) (A0 Ψ (A0 η A2)))) (AC 2))
    (AO (AZ (Aj 3 N0 (A0 (BJ (D9 π (CC (pu (.int 9))) (CC (pu (.int 16))))) (A0 Ψ (A0 ζ A2)))) (AC 3))
    (AO (Ew (Dg (A0 (Aw BZ υ) A2)) (AC 4) (Bp (Aa (A1 Φ (A1 BY (Aj 2 E3 (A0 (Aj 2 M1 (A0 π (A0 ζ A2))) (A0 XL A2))) (pu (.int 4))) η)) (AZ (Aw Dn (A0 (A1 A8 ac XL) A2)) (TM Cl XL)) Bj))
    (B7 (BX (A0 ac (A0 Cl A2)))))))
def WV:Bs:=FH 5 jj
def qc:CA ["_law_script","_law_cell","_law_counts_here","_law_wires_here","_law_old","_law_new"] ["_law_script"] (Bu qK):=Cc
def am:Ak:=
    (AO (AZ (Aj 2 M1 (A0 π (A0 η A2))) (AC 1))
    (AO (AZ (Aj 1 U9 υ) (AC 2))
    (AO (AZ (Aj 2 OX (A0 Ψ ω)) (AC 3))
    (AO (M0 (Aj 2 WV (A0 π ω)) (Ei [(AC 4),(AC 5)]))
    (B7 (BX (A0 ac (A0 Cl (A0 XL (A0 (I 5) A2))))))))))
def S5:Bs:=FH 6 am
def qe:CA ["_law_wires_here","_law_door","_law_one","_law_other"] ["_law_wires_here","_law_door"] (Bu qM):=Cc
def cT:Ak:=
    (AO (Ew (D_ π) (Ei [(AC 2),(AC 3)]) (AO (Bp (Aa (A1 Φ ac Ψ)) (B7 Cl) Bj)
    (Bp (Aa (A1 Φ Cl Ψ)) (B7 ac) Bj)))
    (B7 Ty))
def Qc:Bs:=DO 4 cT
def qv:CA ["_law_counts_here","_law_wires_here"] ["_law_counts_here","_law_wires_here"] (Bu pb):=Cc
def cW:Ak:=
    (B7 (DZ 1 [1] (D_ (Aj 1 S7 Γ)) (AC 0) (Aa (A1 (Ej true) (Aj 2 Qc (A0 Ψ Γ)) Ty)) π))
def XR:Bs:=DO 2 cW
def qw:CA ["_law_many","_law_plan_here"] ["_law_many"] (Bu pc):=Cc
def az:Ak:=
    (AO (AZ (BJ (A1 addW (DZ 1 [] (Dg Γ) (AC 0) (pu true) (BX (A0 (pu (.str (AL "teach"))) Γ))) (DZ 1 [] (Dg Γ) (AC 0) (pu true) (BX (A0 (pu (.str (AL "turn"))) Γ))))) (AC 1))
    (B7 (BJ (A1 addW (A1 addW Ψ (BU (A0 (BX (A0 (pu (.str (AL "wait"))) A2)) A2))) (DZ 1 [] (Dg Γ) (AC 0) (pu true) (BX (A0 (pu (.str (AL "forget"))) Γ)))))))
def S8:Bs:=DO 2 az
def qx:CA ["_law_cells","_law_many","_law_plan_here","_law_cell","_law_number","_law_at","_law_step","_law_other"] ["_law_cells","_law_many"] (Bu pd):=Cc
def j3:Ak:=
    (AO (AZ (Aj 1 S8 υ) (AC 2))
    (AO (Ew (D_ π) (AC 3) (AO (AZ (Aj 2 E3 (A0 Cl (A0 (pu (.int 5)) A2))) (AC 4))
    (AO (AZ (A1 BY (A1 Cq XL (pu (.int 5))) (A1 addW (Aw BZ ω) ζ)) (AC 5))
    (AO (Bp (GN (Aa (A1 Φ (A1 BY XL (pu (.int 5))) η)) (Aa (A1 Ja (Aw BZ ω) (pu (.int 30))))) (AZ (BJ (A1 addW (A1 addW (D9 ac (pu none) (CC (I 5))) (BU (A0 (BX (A0 (pu (.str (AL "wait"))) A2)) A2))) (D9 ac (CC (I 5)) (pu none)))) (AC 2)) Bj)
    (AO (Bp (Aa (A1 Φ (A1 BY XL (pu (.int 5))) ζ)) (AZ (BJ (A1 addW (D9 ac (pu none) (CC (I 5))) (D9 ac (CC (A1 addW (I 5) ζ)) (pu none)))) (AC 2)) Bj)
    (Bp (HX (GN (Aa (A1 KS (A1 BY XL (pu (.int 5))) τ)) (Aa (A1 (As false) ac (BU A2))))) (AO (AZ (DI Je ac (A0 (A1 BY (I 5) (Aw BZ ω)) A2)) (AC 6))
    (AO (AZ (A1 BY (A1 Cq XL (pu (.int 200))) (A1 addW (Aw BZ ω) ζ)) (AC 7))
    (AZ (BJ (A1 addW (A1 addW (D9 ac (pu none) (CC (I 7))) (BU (A0 (I 6) A2))) (D9 ac (CC (I 7)) (pu none)))) (AC 2)))) Bj))))))
    (B7 ac)))
def N1:Bs:=DO 8 j3
def rM:CA ["thing"] ["thing"] (Bu qH):=Cc
def cR:Ak:=
    (B7 (Iv (B0 (EF "int") π) (WO (B0 (EF "bool") π))))
def U7:Bs:=DO 1 cR
def rN:CA ["thing","least","greatest"] ["thing","least","greatest"] (Bu qI):=Cc
def Zy:Ak:=
    (B7 (Iv (Aj 1 U7 Γ) (OT HV HV Ψ π ac)))
def Mz:Bs:=DO 3 Zy
def r7:CA ["thing"] ["thing"] (Bu q0):=Cc
def cw:Ak:=
    (AO (Bp (Fq (Eb (Aa (B0 (EF "list") π))) (Eb (Aa (OT HV HV ζ (Aw BZ Γ) (pu T3))))) ST Bj)
    (B7 (BJ (Aw (IV true) (A0 (DZ 1 [] (D_ π) (AC 0) (pu true) (Aj 3 Mz (A0 π (A0 ζ (A0 (pu T2) A2))))) A2)))))
def WT:Bs:=DO 1 cw
def rH:CA ["thing"] ["thing"] (Bu qC):=Cc
def d3:Ak:=
    (B7 (Iv (B0 (EF "tuple") π) (A1 Φ (Aw BZ Γ) τ)))
def S3:Bs:=DO 1 d3
def rF:CA ["counts","thing"] ["counts","thing"] (Bu qA):=Cc
def d2:Ak:=
    (AO (Bp (Fq (Eb (Aa (Aj 1 S3 υ))) (Eb (Aa (Aj 3 Mz (A0 (A1 A8 Ψ η) (A0 η (A0 (A1 NS (Aw BZ Γ) ζ) A2))))))) ST Bj)
    (B7 (Aj 3 Mz (A0 (A1 A8 Ψ ζ) (A0 η (A0 (A1 NS (A1 A8 π (A1 A8 Ψ η)) ζ) A2))))))
def U5:Bs:=DO 2 d2
def qa:CA ["counts","thing","both"] ["counts","thing"] (Bu qJ):=Cc
def cS:Ak:=
    (AO (Bp (Eb (Aa (Aj 1 S3 υ))) ST Bj)
    (AO (AZ (Iv (Aj 2 U5 (A0 π (A0 (A1 A8 Ψ η) A2))) (Aj 2 U5 (A0 π (A0 (A1 A8 Ψ ζ) A2)))) (AC 2))
    (B7 (Iv ac (A1 (As false) (A1 A8 Ψ η) (A1 A8 Ψ ζ))))))
def U8:Bs:=DO 3 cS
def rA:CA ["counts","wires","far","wire"] ["counts","wires"] (Bu q5):=Cc
def jg:Ak:=
    (AO (AZ (KY true) (AC 2))
    (AO (Ew (D_ Ψ) (AC 3) (AO (Bp (Eb (Aa (Aj 2 U8 (A0 π (A0 Cl A2))))) (λ_ _=>.bad) Bj)
    (AO (Bp (Fq (Aa (A1 (E1 true) (A1 A8 Cl η) ac)) (Aa (A1 (E1 true) (A1 A8 Cl ζ) ac))) (λ_ _=>.bad) Bj)
    (AO (Jb ac (A1 A8 Cl η) (A1 A8 Cl ζ))
    (Jb ac (A1 A8 Cl ζ) (A1 A8 Cl η))))))
    (B7 ac)))
def W0:Bs:=FH 4 jg
def pJ:CA ["self","counts","wires"] ["self","counts","wires"] (Bu oi):=Cc
def Zv:Ak:=
    (AO (Bp (Eb (Aa (Aj 1 WT υ))) (Np "NoNet") Bj)
    (AO (Bp (Eb (Aa (B0 (EF "list") ac))) (Np "NoNet") Bj)
    (AO (FI "Net" "many" π (Aw BZ υ))
    (AO (FI "Net" "counts" π (Aw PU υ))
    (AO (FI "Net" "joined" π (Aw PU ω))
    (FI "Net" "far" π (Aj 2 W0 (A0 (B0 (B8 "Net" "counts") π) (A0 (B0 (B8 "Net" "joined") π) A2)))))))))
def OV:Bs:=FH 3 Zv
def rI:CA ["thing"] ["thing"] (Bu qD):=Cc
def d4:Ak:=
    (AO (Bp (Fq (Eb (Aa (B0 (EF "str") π))) (Aa (A1 (As false) (Aw BZ Γ) (Aw BZ (A0 (pu PK) A2))))) ST Bj)
    (B7 (BJ (Aw (IV true) (A0 (DZ 1 [] (D_ π) (AC 0) (pu true) (A1 (E1 true) π (pu RJ))) A2)))))
def W3:Bs:=DO 1 d4
def rG:CA ["thing","doors"] ["thing","doors"] (Bu qB):=Cc
def ZX:Ak:=
    (B7 (WP (A1 (Ej true) π Ty) (Aj 3 Mz (A0 π (A0 η (A0 (A1 NS Ψ ζ) A2))))))
def U6:Bs:=DO 2 ZX
def rK:CA ["thing","doors"] ["thing","doors"] (Bu qF):=Cc
def cQ:Ak:=
    (AO (Bp (Fq (Eb (Aa (B0 (EF "tuple") π))) (Aa (A1 (As false) (Aw BZ Γ) (pu (.int 3))))) ST Bj)
    (AO (Bp (Eb (Aa (Aj 1 W3 (A0 (A1 A8 π η) A2)))) ST Bj)
    (B7 (Iv (Aj 2 U6 (A0 (A1 A8 π ζ) υ)) (Aj 2 U6 (A0 (A1 A8 π τ) υ))))))
def W4:Bs:=DO 2 cQ
def rD:CA ["thing","doors"] ["thing","doors"] (Bu q8):=Cc
def cz:Ak:=
    (AO (Bp (Fq (Eb (Aa (B0 (EF "list") π))) (Aa (A1 KS (Aw BZ Γ) (pu Vs)))) ST Bj)
    (B7 (BJ (Aw (IV true) (A0 (DZ 1 [1] (D_ π) (AC 0) (pu true) (Aj 2 W4 (A0 π υ))) A2)))))
def W2:Bs:=DO 2 cz
def pI:CA ["self","house"] ["self","house"] (Bu oh):=Cc
def cq:Ak:=
    (B7 (No (Aa (OT HV Ja η Ψ (B0 (B8 "Net" "many") π))) (A1 A8 (B0 (B8 "Net" "counts") π) Ψ) η))
def Tw:Bs:=DO 2 cq
def rE:CA ["thing","net"] ["thing","net"] (Bu q9):=Cc
def d0:Ak:=
    (AO (Bp (Fq (Eb (Aa (B0 (EF "list") π))) (Aa (A1 (As false) (Aw BZ Γ) (B0 (B8 "Net" "many") Ψ)))) ST Bj)
    (B7 (BJ (Aw (IV true) (A0 (DZ 2 [1] (QZ Γ) (Ei [(AC 0),(AC 1)]) (pu true) (Aj 2 W2 (A0 Ψ (A0 (CV "Net" "count" 1 Tw ac Γ) A2)))) A2)))))
def cC:Bs:=DO 2 d0
def qU:CA ["thing","net"] ["thing","net"] (Bu pj):=Cc
def e9:Ak:=
    (Bp (Eb (Aa (Aj 2 cC (A0 π υ)))) (Np "NoBooks") Bj)
def XU:Bs:=DO 2 e9
def rL:CA ["thing","net"] ["thing","net"] (Bu qG):=Cc
def ZZ:Ak:=
    (AO (Bp (Fq (Eb (Aa (B0 (EF "tuple") π))) (Fq (Aa (A1 (E1 false) (Aw BZ Γ) (BX (A0 ζ (A0 τ A2))))) (Eb (Aa (B0 (EF "str") (A1 A8 π η)))))) ST Bj)
    (AO (Bp (Aa (A1 Φ (Aw BZ Γ) ζ)) (B7 (A1 Φ (A1 A8 π η) (pu (.str (AL "wait"))))) Bj)
    (B7 (Iv (A1 (E1 true) (A1 A8 π η) (BX (A0 (pu (.str (AL "teach"))) (A0 (pu (.str (AL "turn"))) (A0 (pu (.str (AL "forget"))) A2))))) (Aj 3 Mz (A0 (A1 A8 π ζ) (A0 η (A0 (A1 NS (B0 (B8 "Net" "many") Ψ) ζ) A2))))))))
def S4:Bs:=DO 2 ZZ
def rJ:CA ["thing","net","once"] ["thing","net"] (Bu qE):=Cc
def ZY:Ak:=
    (AO (Bp (Fq (Eb (Aa (B0 (EF "list") π))) (Aa (A1 KS (Aw BZ Γ) (pu T4)))) ST Bj)
    (AO (Bp (HX (Eb (Aa (Aw (IV true) (A0 (DZ 1 [1] (D_ π) (AC 0) (pu true) (Aj 2 S4 (A0 π υ))) A2))))) ST Bj)
    (AO (AZ (DZ 1 [] (D_ π) (AC 0) (Aa (A1 (As false) π (pu Mh))) π) (AC 2))
    (B7 (A1 Φ (Aw WK ω) (Aw BZ ω))))))
def cD:Bs:=DO 3 ZY
def qV:CA ["net","old","new","plan"] ["net","old","new","plan"] (Bu pk):=Cc
def eA:Ak:=
    (AO (Fy (Aj 2 XU (A0 Ψ Γ)))
    (AO (Fy (Aj 2 XU (A0 ac Γ)))
    (Bp (Eb (Aa (Aj 2 cD (A0 Cl Γ)))) (Np "NoPlan") Bj)))
def XV:Bs:=DO 4 eA
def pM:CA ["self"] ["self"] (Bu oD):=Cc
def cu:Ak:=
    (B7 (Aw Dn (A0 (B0 (B8 "Net" "joined") π) A2)))
def Qa:Bs:=DO 1 cu
def r9:CA ["net"] ["net"] (Bu q4):=Cc
def jf:Ak:=
    (B7 (HW "Net" 2 OV (A0 (Aw Dn (A0 (B0 (B8 "Net" "counts") π) A2)) (A0 (CV "Net" "wires" 0 Qa π A2) A2))))
def WU:Bs:=FH 1 jf
def r8:CA ["books"] ["books"] (Bu q3):=Cc
def je:Ak:=
    (B7 (DZ 1 [] (D_ π) (AC 0) (pu true) (BJ (Aw Dn Γ))))
def S2:Bs:=FH 1 je
def pP:CA ["self","net","old","new","plan"] ["self","net","old","new","plan"] (Bu oG):=Cc
def ZR:Ak:=
    (AO (Fy (Aj 4 XV (A0 Ψ (A0 ac (A0 Cl (A0 XL A2))))))
    (AO (FI "Run" "net" π (Aj 1 WU υ))
    (AO (FI "Run" "books" π (BX (A0 (Aj 1 S2 ω) (A0 (Aj 1 S2 (A0 Cl A2)) A2))))
    (AO (FI "Run" "plan" π (Aw Dn (A0 XL A2)))
    (AO (FI "Run" "done" π (BU A2))
    (AO (FI "Run" "came" π η)
    (AO (FI "Run" "letters" π (KY false))
    (FI "Run" "ended" π (BU A2)))))))))
def Ju:Bs:=FH 5 ZR
def qd:CA ["_law_wires_here","_law_old","_law_new","_law_plan_here"] ["_law_wires_here","_law_old","_law_new","_law_plan_here"] (Bu qL):=Cc
def ao:Ak:=
    (B7 (BJ (Tu [(AL "wires"),(AL "books"),(AL "plan"),(AL "done"),(AL "letters"),(AL "came"),(AL "ended")] [π,(BU (A0 Ψ ω)),Cl,η,(KY false),η,(BU A2)])))
def OW:Bs:=FH 4 ao
def qi:CA ["_law_state","_law_cell","_law_outer_here","_law_number","_law_going","_law_kind"] ["_law_state","_law_cell","_law_outer_here"] (Bu qQ):=Cc
def ar:Ak:=
    (AO (AZ (Aj 2 E3 (A0 Ψ (A0 ζ A2))) (AC 3))
    (AO (AZ (Aw NP (A0 Θ A2)) (AC 4))
    (AO (AZ (A1 BY Cl (pu (.int 8))) (AC 5))
    (AO (Bp (HX (Fq (Aa (A1 Ja (I 5) τ)) (GN (Aa (A1 Ja (I 5) (pu (.int 6)))) (Aa (A1 Φ XL (BU A2)))))) (B7 (BX (A0 (pu (.str (AL "come"))) (A0 (A1 A8 ac (A1 BY (A1 Cq Cl (pu (.int 8))) (Aw BZ ω))) (A0 (A1 BY (A1 Cq Cl (pu (.int 64))) (pu (.int 16))) A2))))) Bj)
    (AO (Bp (Aa (A1 Ja (I 5) (pu (.int 6)))) (B7 (BX (A0 (pu (.str (AL "go"))) (A0 (A1 A8 XL (A1 BY (A1 Cq Cl (pu (.int 8))) (Aw BZ (A0 XL A2)))) A2)))) Bj)
    (B7 (BX (A0 (pu (.str (AL "step"))) A2))))))))
def S6:Bs:=DO 6 ar
def rC:CA ["thing"] ["thing"] (Bu q7):=Cc
def cy:Ak:=
    (B7 (Aj 3 Mz (A0 π (A0 η (A0 (pu Vr) A2)))))
def U4:Bs:=DO 1 cy
def pK:CA ["self","thing"] ["self","thing"] (Bu oj):=Cc
def cr:Ak:=
    (B7 (Aj 2 U5 (A0 (B0 (B8 "Net" "counts") π) υ)))
def WS:Bs:=DO 2 cr
def pL:CA ["self","thing"] ["self","thing"] (Bu om):=Cc
def ct:Ak:=
    (B7 (Iv (CV "Net" "is_door" 1 WS π υ) (A1 (E1 false) Ψ (B0 (B8 "Net" "far") π))))
def Tx:Bs:=DO 2 ct
def pv:CA ["self","mark","door","address"] ["self","mark","door","address"] (Bu oe):=Cc
def Zu:Ak:=
    (AO (FI "Letter" "mark" π Ψ)
    (AO (FI "Letter" "address" π Cl)
    (FI "Letter" "doors" π (BU ω))))
def WR:Bs:=FH 4 Zu
def pN:CA ["self","door","address","number","mark"] ["self","door","address"] (Bu oE):=Cc
def Zw:Ak:=
    (AO (Bp (Fq (Eb (Aa (CV "Net" "is_outer" 1 Tx (B0 (B8 "Run" "net") π) υ))) (Eb (Aa (Aj 1 U4 ω)))) (Np "NoMove") Bj)
    (AO (AZ (B0 (B8 "Run" "came") π) (AC 3))
    (AO (AZ (No (Aa (A1 (E1 true) (BX (A0 (pu (.str (AL "turn"))) (A0 (A1 A8 Ψ η) A2))) (B0 (B8 "Run" "done") π))) ζ η) (AC 4))
    (AO (Jb (B0 (B8 "Run" "letters") π) Cl (HW "Letter" 3 WR (A0 XL (A0 Ψ ω))))
    (AO (FI "Run" "came" π (A1 addW Cl ζ))
    (B7 Cl))))))
def Tz:Bs:=FH 5 Zw
def px:CA ["self","house","mark"] ["self","house","mark"] (Bu oI):=Cc
def ZT:Ak:=
    (AO (Bp (Aa (A1 Φ ac ζ)) (B7 (A1 (E1 true) (BX (A0 (pu (.str (AL "teach"))) υ)) (B0 (B8 "Run" "done") π))) Bj)
    (B7 (A1 (E1 false) (BX (A0 (pu (.str (AL "forget"))) υ)) (B0 (B8 "Run" "done") π))))
def U1:Bs:=DO 3 ZT
def rB:CA ["pattern","address"] ["pattern","address"] (Bu q6):=Cc
def cx:Ak:=
    (AO (Bp (Fq (Eb (Aa (Aj 1 W3 Γ))) (Eb (Aa (Aj 1 U4 υ)))) ST Bj)
    (B7 (BJ (Aw (IV true) (A0 (DZ 2 [1] (WQ (A0 π (A0 (pu PK) A2))) (Ei [(AC 0),(AC 1)]) (pu true) (A1 (E1 true) π (BX (A0 (pu (.str (AL "x"))) (A0 (Aw Qr (A0 (A1 BY (A1 Cq ac Ψ) τ) A2)) A2))))) A2)))))
def W1:Bs:=DO 2 cx
def qX:CA ["book","door","address","number","row"] ["book","door","address"] (Bu pn):=Cc
def j6:Ak:=
    (AO (Ew (QZ Γ) (Ei [(AC 3),(AC 4)]) (Bp (GN (Fq (Aa (A1 (Ej true) (A1 A8 XL ζ) Ty)) (Aa (A1 Φ (A1 A8 XL ζ) Ψ))) (Aa (Aj 2 W1 (A0 (A1 A8 XL η) ω)))) (B7 Cl) Bj))
    (B7 Ty))
def XW:Bs:=DO 5 j6
def pw:CA ["self","door"] ["self","door"] (Bu og):=Cc
def cp:Ak:=
    (B7 (WM (B0 (B8 "Net" "far") π) Ψ))
def S1:Bs:=DO 2 cp
def qT:CA ["net","book","door","address","number","out","far"] ["net","book","door","address"] (Bu pi):=Cc
def b1:Ak:=
    (AO (AZ (Aj 3 XW (A0 Ψ (A0 (A1 A8 ac ζ) (A0 Cl A2)))) (AC 4))
    (AO (AZ (No (Aa (A1 (Ej true) XL Ty)) Ty (A1 A8 (A1 A8 Ψ XL) τ)) (AC 5))
    (AO (Bp (Aa (A1 (Ej true) (I 5) Ty)) (B7 (BX (A0 (pu (.str (AL "drop"))) (A0 (A1 A8 ac η) A2)))) Bj)
    (AO (AZ (CV "Net" "beyond" 1 S1 π (A0 (BX (A0 (A1 A8 ac η) (A0 (I 5) A2))) A2)) (AC 6))
    (AO (Bp (Aa (A1 (Ej true) (I 6) Ty)) (B7 (BX (A0 (pu (.str (AL "out"))) (A0 (A1 A8 ac η) (A0 (I 5) A2))))) Bj)
    (B7 (BX (A0 (pu (.str (AL "at"))) (A0 (A1 A8 (I 6) η) (A0 (A1 A8 (I 6) ζ) A2))))))))))
def XT:Bs:=DO 7 b1
def r3:CA ["self","letter","door"] ["self","letter"] (Bu oL):=Cc
def ZV:Ak:=
    (AO (AZ (A1 A8 (B0 (B8 "Letter" "doors") Ψ) (B0 G0 ζ)) (AC 2))
    (AO (Bp (Eb (Aa (CV "Run" "knows" 2 U1 π (A0 (A1 A8 ac η) (A0 (B0 (B8 "Letter" "mark") Ψ) A2))))) (B7 (BX (A0 (pu (.str (AL "lost"))) (A0 (A1 A8 ac η) A2)))) Bj)
    (B7 (Aj 4 XT (A0 (B0 (B8 "Run" "net") π) (A0 (A1 A8 (A1 A8 (B0 (B8 "Run" "books") π) (B0 (B8 "Letter" "mark") Ψ)) (A1 A8 ac η)) (A0 ac (A0 (B0 (B8 "Letter" "address") Ψ) A2))))))))
def U3:Bs:=DO 3 ZV
def pO:CA ["self","number","letter","told"] ["self","number"] (Bu oF):=Cc
def Zx:Ak:=
    (AO (Bp (Fq (Eb (Aa (Aj 1 U7 υ))) (Aa (A1 (E1 false) Ψ (B0 (B8 "Run" "letters") π)))) (Np "NoMove") Bj)
    (AO (AZ (A1 A8 (B0 (B8 "Run" "letters") π) Ψ) (AC 2))
    (AO (AZ (CV "Run" "next_of" 1 U3 π ω) (AC 3))
    (AO (Bp (Aa (A1 Φ (A1 A8 Cl η) (pu (.str (AL "at"))))) (Fy (DI EO (B0 (B8 "Letter" "doors") ac) (A0 (BX (A0 (A1 A8 Cl ζ) (A0 (A1 A8 Cl τ) A2))) A2))) (AO (Fy (Rz (B0 (B8 "Run" "letters") π) Ψ))
    (Fy (DI EO (B0 (B8 "Run" "ended") π) (A0 (BX (A0 Ψ (A0 ac (A0 Cl A2)))) A2)))))
    (B7 Cl)))))
def U0:Bs:=FH 4 Zx
def r4:CA ["self"] ["self"] (Bu oM):=Cc
def cv:Ak:=
    (B7 (Aw BZ (A0 (B0 (B8 "Run" "done") π) A2)))
def Jv:Bs:=DO 1 cv
def r1:CA ["self"] ["self"] (Bu oJ):=Cc
def ZU:Ak:=
    (AO (Bp (Aa (A1 Φ (CV "Run" "place" 0 Jv π A2) (Aw BZ (A0 (B0 (B8 "Run" "plan") π) A2)))) ST Bj)
    (AO (Bp (Aa (A1 (As false) (A1 A8 (B0 (B8 "Run" "plan") π) (CV "Run" "place" 0 Jv π A2)) (pu Mh))) (B7 (pu (.AN true))) Bj)
    (B7 (BJ (Aw (IV true) (A0 (Ry NX 1 [] (B0 (B8 "Run" "letters") π) (AC 0) (pu true) (A1 Φ (B0 (B8 "Letter" "mark") π) ζ)) A2))))))
def U2:Bs:=DO 1 ZU
def r5:CA ["self"] ["self"] (Bu oo):=Cc
def Tg:Ak:=
    (AO (Bp (Eb (Aa (CV "Run" "may_step" 0 U2 π A2))) (Np "NoMove") Bj)
    (AO (Fy (DI EO (B0 (B8 "Run" "done") π) (A0 (A1 A8 (B0 (B8 "Run" "plan") π) (CV "Run" "place" 0 Jv π A2)) A2)))
    (B7 (A1 A8 (B0 (B8 "Run" "done") π) (B0 G0 ζ)))))
def Qb:Bs:=FH 1 Tg
def r2:CA ["self","move"] ["self","move"] (Bu oK):=Cc
def Tf:Ak:=
    (AO (Bp (GN (Aa (B0 (EF "tuple") Ψ)) (GN (Aa (A1 KS (Aw BZ υ) η)) (Aa (B0 (EF "str") (A1 A8 Ψ η))))) (AO (Bp (GN (Aa (A1 Φ (A1 A8 Ψ η) (pu (.str (AL "come"))))) (Aa (A1 Φ (Aw BZ υ) (pu (.int 3))))) (B7 (CV "Run" "come" 2 Tz π (A0 (A1 A8 Ψ ζ) (A0 (A1 A8 Ψ τ) A2)))) Bj)
    (AO (Bp (GN (Aa (A1 Φ (A1 A8 Ψ η) (pu (.str (AL "go"))))) (Aa (A1 Φ (Aw BZ υ) τ))) (B7 (CV "Run" "go" 1 U0 π (A0 (A1 A8 Ψ ζ) A2))) Bj)
    (Bp (Aa (A1 Φ Ψ (pu T5))) (B7 (CV "Run" "step" 0 Qb π A2)) Bj))) Bj)
    (Np "NoMove"))
def Jc:Bs:=FH 2 Tf
def qz:CA ["_law_run","_law_deed","_law_found"] ["_law_run","_law_deed"] (Bu pf):=Cc
def Th:Ak:=
    (AO (AZ Ty (AC 2))
    (AO (OU (CV "Run" "move" 1 Jc π υ) 2 ["NoMove"] (AZ Ty (AC 2)))
    (B7 ac)))
def LJ:Bs:=FH 3 Th
def qj:CA ["_law_state","_law_door","_law_address","_law_mark","_law_number"] ["_law_state","_law_door","_law_address"] (Bu pR):=Cc
def au:Ak:=
    (AO (AZ (BJ (Aw Rg (A0 (BJ (A1 (E1 true) (BX (A0 (pu (.str (AL "turn"))) (A0 (A1 A8 Ψ η) A2))) (D9 (A1 A8 π (pu (.str (AL "plan")))) (pu none) (CC Fr)))) A2))) (AC 3))
    (AO (AZ (A1 A8 π (pu (.str (AL "came")))) (AC 4))
    (AO (Jb Θ XL (BJ (BX (A0 Cl (A0 ac (A0 (BU υ) A2))))))
    (AO (Jb π (pu (.str (AL "came"))) (A1 addW XL ζ))
    (B7 XL)))))
def XQ:Bs:=FH 5 au
def qq:CA ["_law_state","_law_house","_law_mark","_law_steps"] ["_law_state","_law_house","_law_mark"] (Bu pX):=Cc
def ax:Ak:=
    (AO (AZ (BJ (D9 (A1 A8 π (pu (.str (AL "plan")))) (pu none) (CC Fr))) (AC 3))
    (AO (Bp (Aa (A1 Φ ac ζ)) (B7 (A1 (E1 true) (BX (A0 (pu (.str (AL "teach"))) υ)) Cl)) Bj)
    (B7 (A1 (E1 false) (BX (A0 (pu (.str (AL "forget"))) υ)) Cl))))
def UD:Bs:=DO 4 ax
def qm:CA ["_law_pattern","_law_address","_law_k","_law_figure"] ["_law_pattern","_law_address"] (Bu pU):=Cc
def jk:Ak:=
    (AO (Ew (Dg (A0 (pu (.int 4)) A2)) (AC 2) (AO (AZ (BJ (A1 BY (A1 Cq Ψ (A1 A8 (BU (A0 (pu (.int 8)) (A0 (pu (.int 4)) (A0 τ (A0 ζ A2))))) ac)) τ)) (AC 3))
    (Bp (GN (Aa (A1 (As false) (A1 A8 π ac) (pu (.str (AL "x"))))) (Aa (A1 (As false) (A1 A8 π ac) (A1 A8 (pu (.str (AL "01"))) Cl)))) ST Bj)))
    (B7 (pu (.AN true))))
def UA:Bs:=DO 4 jk
def qu:CA ["_law_wires_here","_law_book","_law_door","_law_address","_law_pattern","_law_inward","_law_out","_law_behind"] ["_law_wires_here","_law_book","_law_door","_law_address"] (Bu pa):=Cc
def j2:Ak:=
    (AO (Ew (D_ Ψ) (Ei [(AC 4),(AC 5),(AC 6)]) (Bp (GN (Aa (Aj 2 UA (A0 XL (A0 Cl A2)))) (Fq (Aa (A1 (Ej true) (I 5) Ty)) (Aa (A1 Φ (I 5) (A1 A8 ac ζ))))) (AO (Bp (Aa (A1 (Ej true) (I 6) Ty)) (B7 (BX (A0 (pu (.str (AL "drop"))) (A0 (A1 A8 ac η) A2)))) Bj)
    (AO (AZ (Aj 2 Qc (A0 π (A0 (BX (A0 (A1 A8 ac η) (A0 (I 6) A2))) A2))) (AC 7))
    (AO (Bp (Aa (A1 (Ej true) (I 7) Ty)) (B7 (BX (A0 (pu (.str (AL "out"))) (A0 (A1 A8 ac η) (A0 (I 6) A2))))) Bj)
    (B7 (A1 addW (BX (A0 (pu (.str (AL "at"))) A2)) (I 7)))))) Bj))
    (B7 (BX (A0 (pu (.str (AL "drop"))) (A0 (A1 A8 ac η) A2)))))
def UF:Bs:=DO 8 j2
def qp:CA ["_law_state","_law_number","_law_mark","_law_address","_law_road","_law_told"] ["_law_state","_law_number"] (Bu pW):=Cc
def aw:Ak:=
    (AO (M0 (A1 A8 Θ Ψ) (Ei [(AC 2),(AC 3),(AC 4)]))
    (AO (AZ (BX (A0 (pu (.str (AL "lost"))) (A0 (A1 A8 (A1 A8 XL (B0 G0 ζ)) η) A2))) (AC 5))
    (AO (Bp (Aa (Aj 3 UD (A0 π (A0 (A1 A8 (A1 A8 XL (B0 G0 ζ)) η) ω)))) (AZ (Aj 4 UF (A0 (A1 A8 π (pu (.str (AL "wires")))) (A0 (A1 A8 (A1 A8 (A1 A8 π (pu (.str (AL "books")))) ac) (A1 A8 (A1 A8 XL (B0 G0 ζ)) η)) (A0 (A1 A8 XL (B0 G0 ζ)) (A0 Cl A2))))) (AC 5)) Bj)
    (AO (Bp (Aa (A1 Φ (A1 A8 (I 5) η) (pu (.str (AL "at"))))) (Jb Θ Ψ (BJ (BX (A0 ac (A0 Cl (A0 (BJ (A1 addW XL (BU (A0 (BJ (D9 (I 5) (CC ζ) (pu none))) A2)))) A2)))))) (AO (Fy (Rz Θ Ψ))
    (Fy (DI EO (A1 A8 π (pu (.str (AL "ended")))) (A0 (BX (A0 Ψ (A0 ac (A0 (A1 A8 XL η) (A0 Cl (A0 XL (A0 (I 5) A2))))))) A2)))))
    (B7 (I 5))))))
def UC:Bs:=FH 6 aw
def qr:CA ["_law_state"] ["_law_state"] (Bu pY):=Cc
def ay:Ak:=
    (AO (Bp (Aa (A1 Φ Fr (Aw BZ (A0 (A1 A8 π (pu (.str (AL "plan")))) A2)))) ST Bj)
    (AO (Bp (Aa (A1 (As false) (A1 A8 (A1 A8 π (pu (.str (AL "plan")))) Fr) (BX (A0 (pu (.str (AL "wait"))) A2)))) (B7 (pu (.AN true))) Bj)
    (B7 (BJ (Aw (IV true) (A0 (Ry NX 1 [] Θ (AC 0) (pu true) (A1 Φ (A1 A8 π η) ζ)) A2))))))
def UE:Bs:=DO 1 ay
def qt:CA ["_law_state","_law_deed"] ["_law_state","_law_deed"] (Bu p_):=Cc
def RH:Ak:=
    (AO (Bp (Aa (A1 Φ (A1 A8 Ψ η) (pu (.str (AL "come"))))) (B7 (Aj 3 XQ (A0 π (A0 (A1 A8 Ψ ζ) (A0 (A1 A8 Ψ τ) A2))))) Bj)
    (AO (Bp (Aa (A1 Φ (A1 A8 Ψ η) (pu (.str (AL "go"))))) (B7 (Aj 2 UC (A0 π (A0 (A1 A8 Ψ ζ) A2)))) Bj)
    (AO (Bp (Eb (Aa (Aj 1 UE Γ))) (B7 Ty) Bj)
    (AO (Jb π (pu (.str (AL "done"))) (A1 addW Fr ζ))
    (B7 (A1 A8 (A1 A8 π (pu (.str (AL "plan")))) (A1 NS Fr ζ)))))))
def Jd:Bs:=FH 2 RH
def pQ:CA ["self","told","number","letter","end"] ["self"] (Bu oH):=Cc
def ZS:Ak:=
    (AO (AZ (BU A2) (AC 1))
    (AO (Ew (D_ (B0 (B8 "Run" "ended") π)) (Ei [(AC 2),(AC 3),(AC 4)]) (Fy (DI EO Ψ (A0 (BJ (BX (A0 ac (A0 (B0 (B8 "Letter" "mark") Cl) (A0 (A1 A8 (B0 (B8 "Letter" "doors") Cl) η) (A0 (B0 (B8 "Letter" "address") Cl) (A0 (Aw Dn (A0 (B0 (B8 "Letter" "doors") Cl) A2)) (A0 XL A2)))))))) A2))))
    (B7 Ψ)))
def Nq:Bs:=FH 5 ZS
def r6:CA ["self","told","number","letter","door"] ["self"] (Bu pz):=Cc
def ZW:Ak:=
    (AO (AZ (BU A2) (AC 1))
    (AO (WN (B0 (B8 "Run" "letters") π) (Ei [(AC 2),(AC 3)]) (AO (AZ (A1 A8 (B0 (B8 "Letter" "doors") Cl) (B0 G0 ζ)) (AC 4))
    (Fy (DI EO Ψ (A0 (BX (A0 ac (A0 (B0 (B8 "Letter" "mark") Cl) (A0 (B0 (B8 "Letter" "address") Cl) (A0 (A1 A8 XL η) (A0 (A1 A8 XL ζ) A2)))))) A2)))))
    (B7 Ψ)))
def Nr:Bs:=DO 5 ZW
def qR:CA ["_law_state","_law_found","_law_number","_law_mark","_law_address","_law_road"] ["_law_state"] (Bu pg):=Cc
def b0:Ak:=
    (AO (AZ (BU A2) (AC 1))
    (AO (Ew (D_ (Aw NP (A0 Θ A2))) (AC 2) (AO (M0 (A1 A8 Θ ac) (Ei [(AC 3),(AC 4),(AC 5)]))
    (Fy (DI EO Ψ (A0 (BX (A0 ac (A0 Cl (A0 XL (A0 (A1 A8 (A1 A8 (I 5) (B0 G0 ζ)) η) (A0 (A1 A8 (A1 A8 (I 5) (B0 G0 ζ)) ζ) A2)))))) A2)))))
    (B7 Ψ)))
def UG:Bs:=DO 6 b0
def qb:CA ["_law_script","_law_counts_here","_law_wires_here","_law_old","_law_new","_law_outer_here","_law_plans","_law_net","_law_handed","_law_runs","_law_states","_law_cell","_law_which","_law_deed","_law_k","_law_third"] ["_law_script"] (Bu KA):=Cc
def RG:Ak:=
    (AO (M0 (Aj 1 S5 Γ) (Ei [(AC 1),(AC 2),(AC 3),(AC 4)]))
    (AO (AZ (Aj 2 XR (A0 Ψ ω)) (AC 5))
    (AO (AZ (BJ (BU (A0 (BJ (Aj 2 N1 (A0 (BJ (D9 π (CC (pu (.int 10))) (CC (pu (.int 14))))) (A0 (Aw BZ υ) A2)))) (A0 (BJ (Aj 2 N1 (A0 (BJ (D9 π (CC (pu (.int 13))) (CC (pu (.int 18))))) (A0 (Aw BZ υ) A2)))) A2)))) (AC 6))
    (AO (AZ (HW "Net" 2 OV (A0 (Aw Dn υ) (A0 (Aw Dn ω) A2))) (AC 7))
    (AO (AZ (BJ (BU (A0 (DZ 1 [] (D_ Cl) (AC 0) (pu true) (BJ (Aw Dn Γ))) (A0 (DZ 1 [] (D_ XL) (AC 0) (pu true) (BJ (Aw Dn Γ))) (A0 (DZ 1 [] (D_ (I 6)) (AC 0) (pu true) (BJ (Aw Dn Γ))) A2))))) (AC 8))
    (AO (AZ (BU (A0 (HW "Run" 4 Ju (A0 (I 7) (A0 (A1 A8 (I 8) η) (A0 (A1 A8 (I 8) ζ) (A0 (A1 A8 (A1 A8 (I 8) τ) η) A2))))) (A0 (HW "Run" 4 Ju (A0 (I 7) (A0 (A1 A8 (I 8) ζ) (A0 (A1 A8 (I 8) η) (A0 (A1 A8 (A1 A8 (I 8) τ) ζ) A2))))) A2))) (AC 9))
    (AO (Bp (HX (Aa (A1 (As false) (I 8) (BU (A0 Cl (A0 XL (A0 (I 6) A2))))))) ST Bj)
    (AO (Fy (DI UX (A1 A8 (A1 A8 (I 8) η) η) (A0 η (A0 (BX (A0 (pu (.str (AL "xxxx"))) (A0 Ty (A0 Ty A2)))) A2))))
    (AO (Fy (DI XJ (A1 A8 (I 8) ζ) A2))
    (AO (Fy (DI Vu (A1 A8 (A1 A8 (I 8) τ) η) A2))
    (AO (AZ (BU (A0 (Aj 4 OW (A0 ac (A0 Cl (A0 XL (A0 (A1 A8 (I 6) η) A2))))) (A0 (Aj 4 OW (A0 ac (A0 XL (A0 Cl (A0 (A1 A8 (I 6) ζ) A2))))) A2))) (AC 10))
    (AO (Ew (D_ (BJ (A1 addW (BU (A0 ζ (A0 τ (A0 (pu (.int 9)) A2)))) (D9 π (CC (pu (.int 16))) (pu none))))) (AC 11) (AO (AZ (A1 BY (Aj 2 E3 (A0 (I 11) (A0 (pu (.int 6)) A2))) τ) (AC 12))
    (AO (AZ (Aj 3 S6 (A0 (A1 A8 (I 10) (I 12)) (A0 (I 11) (A0 (I 5) A2)))) (AC 13))
    (AO (Bp (Aa (A1 (As false) (Aj 2 LJ (A0 (A1 A8 (I 9) (I 12)) (A0 (I 13) A2))) (Aj 2 Jd (A0 (A1 A8 (I 10) (I 12)) (A0 (I 13) A2))))) ST Bj)
    (Ew (Dg (A0 τ A2)) (AC 14) (Bp (Fq (Aa (A1 (As false) (CV "Run" "under" 0 Nr (A1 A8 (I 9) (I 14)) A2) (Aj 1 UG (A0 (A1 A8 (I 10) (I 14)) A2)))) (Aa (A1 (As false) (CV "Run" "journal" 0 Nq (A1 A8 (I 9) (I 14)) A2) (A1 A8 (A1 A8 (I 10) (I 14)) (pu (.str (AL "ended"))))))) ST Bj))))))
    (AO (AZ (HW "Run" 4 Ju (A0 (I 7) (A0 XL (A0 Cl (A0 (A1 A8 (I 6) η) A2))))) (AC 15))
    (B7 (Iv (A1 Φ (CV "Run" "under" 0 Nr (I 15) A2) (BU A2)) (Iv (A1 Φ (CV "Run" "journal" 0 Nq (I 15) A2) (BU A2)) (A1 Φ (CV "Run" "place" 0 Jv (I 15) A2) η)))))))))))))))))
def mK:Bs:=FH 16 RG
section
variable(P:C9)(w:Bl){K:At}{mg:Str->Option A9}(base:BF)(T:Dl K mg)
include T
set_option maxHeartbeats 4000000
def n0:DW P w K mg base "_law_cell_at" 2 1 M1:=by exists 0,aq,T.yH,qh;ac_nf
def Pv:DW P w K mg base "_law_mixed" 2 1 E3:=by exists 0,cV,T.yR,qs;ac_nf
def acO:DW P w K mg base "_law_counts" 1 2 U9:=by exists 1,av,T.yK,qk;exists Pv;ac_nf
def n1:DW P w K mg base "_law_doors" 1 1 S7:=by exists 0,cU,T.yL,ql;ac_nf
def abm:DW P w K mg base "_law_wires" 2 2 OX:=by exists 1,cY,T.xt,qS;exists n1;exists Pv;ac_nf
def acQ:DW P w K mg base "_law_free_book" 2 1 UB:=by exists 0,jl,T.yN,qo;ac_nf
def abj:DW P w K mg base "_law_row" 3 2 XS:=by exists 1,cX,T.xp,qy;exists Pv;ac_nf
def acK:DW P w K mg base "_law_books" 3 3 N0:=by have h:=ND (P:=P) (w:=w) (base:=base) (k:=2) (m:=ji) T.yF qf;exact h (by have:=qf;have:=acQ P w base T;have:=Pv P w base T;have:=abj P w base T;ac_nf)
def acL:DW P w K mg base "_law_both" 2 4 WV:=by have h:=ND (P:=P) (w:=w) (base:=base) (k:=3) (m:=jj) T.yG qg;exact h (by have:=qg;have:=acK P w base T;have:=n0 P w base T;have:=Pv P w base T;ac_nf)
def acI:DW P w K mg base "_law_all" 1 5 S5:=by have h:=ND (P:=P) (w:=w) (base:=base) (k:=4) (m:=am) T.yC qc;exact h (by have:=qc;have:=acL P w base T;have:=n0 P w base T;have:=acO P w base T;have:=abm P w base T;ac_nf)
def mz:DW P w K mg base "_law_beyond" 2 1 Qc:=by exists 0,cT,T.yE,qe;ac_nf
def abg:DW P w K mg base "_law_outer" 2 2 XR:=by exists 1,cW,T.xm,qv;exists mz;exists n1;ac_nf
def abh:DW P w K mg base "_law_plain" 1 1 S8:=by exists 0,az,T.xn,qw;ac_nf
def abi:DW P w K mg base "_law_plan" 2 2 N1:=by exists 1,j3,T.xo,qx;exists Pv;exists abh;ac_nf
def my:DW P w K mg base "is_whole" 1 1 U7:=by exists 0,cR,T.y9,rM;ac_nf
def WD:DW P w K mg base "is_whole_within" 3 2 Mz:=by exists 1,Zy,T.yA,rN;exists my;ac_nf
def ac6:DW P w K mg base "are_counts" 1 3 WT:=by exists 2,cw,T.xB,r7;exists WD;ac_nf
def mv:DW P w K mg base "is_pair" 1 1 S3:=by exists 0,d3,T.wn,rH;ac_nf
def mu:DW P w K mg base "is_door_among" 2 3 U5:=by exists 2,d2,T.wl,rF;exists mv;exists WD;ac_nf
def acH:DW P w K mg base "is_wire_among" 2 4 U8:=by exists 3,cS,T.yB,qa;exists mu;exists mv;ac_nf
def ac9:DW P w K mg base "far_doors" 2 5 W0:=by have h:=ND (P:=P) (w:=w) (base:=base) (k:=4) (m:=jg) T.xE rA;exact h (by have:=rA;have:=acH P w base T;ac_nf)
def mm:Vd P w K mg base "Net" 2 6 OV:=by have h:=gs (P:=P) (w:=w) (base:=base) (k:=5) (m:=Zv) T.wv pJ;exact h (by have:=pJ;have:=ac6 P w base T;have:=ac9 P w base T;ac_nf)
def mx:DW P w K mg base "is_pattern" 1 1 W3:=by exists 0,d4,T.wo,rI;ac_nf
def acD:DW P w K mg base "is_number_or_none" 2 3 U6:=by exists 2,ZX,T.wm,rG;exists WD;ac_nf
def acF:DW P w K mg base "is_row" 2 4 W4:=by exists 3,cQ,T.wq,rK;exists acD;exists mx;ac_nf
def acB:DW P w K mg base "is_book" 2 5 W2:=by exists 4,cz,T.wj,rD;exists acF;ac_nf
def aaW:H_ P w K mg base "Net" "count" 1 1 Tw:=by have h:=KH (P:=P) (w:=w) (mg:=mg) (base:=base) (k:=0) (m:=cq) T.wu pI;exact(h (by have:=pI;ac_nf)).st
def acC:DW P w K mg base "is_books" 2 6 cC:=by exists 5,d0,T.wk,rE;exists aaW;exists acB;ac_nf
def abo:DW P w K mg base "refuse_unless_books" 2 7 XU:=by exists 6,e9,T.xv,qU;exists acC;ac_nf
def acG:DW P w K mg base "is_step" 2 3 S4:=by exists 2,ZZ,T.xF,rL;exists WD;ac_nf
def acE:DW P w K mg base "is_plan" 2 4 cD:=by exists 3,ZY,T.wp,rJ;exists acG;ac_nf
def abp:DW P w K mg base "refuse_unless_plan" 4 8 XV:=by exists 7,eA,T.xw,qV;exists acE;exists abo;ac_nf
def aaZ:H_ P w K mg base "Net" "wires" 0 1 Qa:=by have h:=KH (P:=P) (w:=w) (mg:=mg) (base:=base) (k:=0) (m:=cu) T.wy pM;exact(h (by have:=pM;ac_nf)).st
def ac8:DW P w K mg base "copied_net" 1 8 WU:=by have h:=ND (P:=P) (w:=w) (base:=base) (k:=7) (m:=jf) T.xD r9;exact h (by have:=r9;have:=mm P w base T;have:=aaZ P w base T;ac_nf)
def ac7:DW P w K mg base "copied_books" 1 1 S2:=by have h:=ND (P:=P) (w:=w) (base:=base) (k:=0) (m:=je) T.xC r8;exact h (by have:=r8;ac_nf)
def aab:Vd P w K mg base "Run" 4 9 Ju:=by have h:=gs (P:=P) (w:=w) (base:=base) (k:=8) (m:=ZR) T.x2 pP;exact h (by have:=pP;have:=ac7 P w base T;have:=ac8 P w base T;have:=abp P w base T;ac_nf)
def acJ:DW P w K mg base "_law_begun" 4 1 OW:=by have h:=ND (P:=P) (w:=w) (base:=base) (k:=0) (m:=ao) T.yD qd;exact h (by have:=qd;ac_nf)
def acM:DW P w K mg base "_law_chosen" 3 2 S6:=by exists 1,ar,T.yI,qi;exists Pv;ac_nf
def mn:DW P w K mg base "is_address" 1 3 U4:=by exists 2,cy,T.wi,rC;exists WD;ac_nf
def aaX:H_ P w K mg base "Net" "is_door" 1 4 WS:=by have h:=KH (P:=P) (w:=w) (mg:=mg) (base:=base) (k:=3) (m:=cr) T.ww pK;exact(h (by have:=pK;have:=mu P w base T;ac_nf)).st
def aaY:H_ P w K mg base "Net" "is_outer" 1 5 Tx:=by have h:=KH (P:=P) (w:=w) (mg:=mg) (base:=base) (k:=4) (m:=ct) T.wx pL;exact(h (by have:=pL;have:=aaX P w base T;ac_nf)).st
def ab0:Vd P w K mg base "Letter" 3 1 WR:=by have h:=gs (P:=P) (w:=w) (base:=base) (k:=0) (m:=Zu) T.xc pv;exact h (by have:=pv;ac_nf)
def aa_:H_ P w K mg base "Run" "come" 2 6 Tz:=by have h:=KH (P:=P) (w:=w) (mg:=mg) (base:=base) (k:=5) (m:=Zw) T.wz pN;exact(h (by have:=pN;have:=ab0 P w base T;have:=aaY P w base T;have:=mn P w base T;ac_nf))
def aad:H_ P w K mg base "Run" "knows" 2 1 U1:=by have h:=KH (P:=P) (w:=w) (mg:=mg) (base:=base) (k:=0) (m:=ZT) T.x4 px;exact(h (by have:=px;ac_nf)).st
def acA:DW P w K mg base "fits" 2 4 W1:=by exists 3,cx,T.wh,rB;exists mn;exists mx;ac_nf
def abq:DW P w K mg base "taken" 3 5 XW:=by exists 4,j6,T.xx,qX;exists acA;ac_nf
def ab1:H_ P w K mg base "Net" "beyond" 1 1 S1:=by have h:=KH (P:=P) (w:=w) (mg:=mg) (base:=base) (k:=0) (m:=cp) T.wt pw;exact(h (by have:=pw;ac_nf)).st
def abn:DW P w K mg base "onward" 4 6 XT:=by exists 5,b1,T.xu,qT;exists ab1;exists abq;ac_nf
def ac3:H_ P w K mg base "Run" "next_of" 1 7 U3:=by have h:=KH (P:=P) (w:=w) (mg:=mg) (base:=base) (k:=6) (m:=ZV) T.x7 r3;exact(h (by have:=r3;have:=aad P w base T;have:=abn P w base T;ac_nf)).st
def aaa:H_ P w K mg base "Run" "go" 1 8 U0:=by have h:=KH (P:=P) (w:=w) (mg:=mg) (base:=base) (k:=7) (m:=Zx) T.x1 pO;exact(h (by have:=pO;have:=ac3 P w base T;have:=my P w base T;ac_nf))
def f6:H_ P w K mg base "Run" "place" 0 1 Jv:=by have h:=KH (P:=P) (w:=w) (mg:=mg) (base:=base) (k:=0) (m:=cv) T.x8 r4;exact(h (by have:=r4;ac_nf)).st
def ab2:H_ P w K mg base "Run" "may_step" 0 2 U2:=by have h:=KH (P:=P) (w:=w) (mg:=mg) (base:=base) (k:=1) (m:=ZU) T.x5 r1;exact(h (by have:=r1;have:=f6 P w base T;ac_nf)).st
def ac4:H_ P w K mg base "Run" "step" 0 3 Qb:=by have h:=KH (P:=P) (w:=w) (mg:=mg) (base:=base) (k:=2) (m:=Tg) T.x9 r5;exact(h (by have:=r5;have:=ab2 P w base T;have:=f6 P w base T;ac_nf))
def ac2:H_ P w K mg base "Run" "move" 1 9 Jc:=by have h:=KH (P:=P) (w:=w) (mg:=mg) (base:=base) (k:=8) (m:=Tf) T.x6 r2;exact(h (by have:=r2;have:=aa_ P w base T;have:=aaa P w base T;have:=ac4 P w base T;ac_nf))
def abk:DW P w K mg base "_law_said" 2 10 LJ:=by have h:=ND (P:=P) (w:=w) (base:=base) (k:=9) (m:=Th) T.xq qz;exact h (by have:=qz;have:=ac2 P w base T;ac_nf)
def acN:DW P w K mg base "_law_come" 3 1 XQ:=by have h:=ND (P:=P) (w:=w) (base:=base) (k:=0) (m:=au) T.yJ qj;exact h (by have:=qj;ac_nf)
def abb:DW P w K mg base "_law_knows" 3 1 UD:=by exists 0,ax,T.yP,qq;ac_nf
def acP:DW P w K mg base "_law_fits" 2 1 UA:=by exists 0,jk,T.yM,qm;ac_nf
def abf:DW P w K mg base "_law_next" 4 2 UF:=by exists 1,j2,T.yT,qu;exists mz;exists acP;ac_nf
def acR:DW P w K mg base "_law_go" 2 3 UC:=by have h:=ND (P:=P) (w:=w) (base:=base) (k:=2) (m:=aw) T.yO qp;exact h (by have:=qp;have:=abb P w base T;have:=abf P w base T;ac_nf)
def abd:DW P w K mg base "_law_may_step" 1 1 UE:=by exists 0,ay,T.yQ,qr;ac_nf
def abe:DW P w K mg base "_law_model" 2 4 Jd:=by have h:=ND (P:=P) (w:=w) (base:=base) (k:=3) (m:=RH) T.yS qt;exact h (by have:=qt;have:=acN P w base T;have:=acR P w base T;have:=abd P w base T;ac_nf)
def aac:H_ P w K mg base "Run" "journal" 0 1 Nq:=by have h:=KH (P:=P) (w:=w) (mg:=mg) (base:=base) (k:=0) (m:=ZS) T.x3 pQ;exact(h (by have:=pQ;ac_nf))
def ac5:H_ P w K mg base "Run" "under" 0 1 Nr:=by have h:=KH (P:=P) (w:=w) (mg:=mg) (base:=base) (k:=0) (m:=ZW) T.xA r6;exact(h (by have:=r6;ac_nf)).st
def abl:DW P w K mg base "_law_under" 1 1 UG:=by exists 0,b0,T.xr,qR;ac_nf
def uz:CL P w K mg base "law" KA ["_law_script","_law_counts_here","_law_wires_here","_law_old","_law_new","_law_outer_here","_law_plans","_law_net","_law_handed","_law_runs","_law_states","_law_cell","_law_which","_law_deed","_law_k","_law_third"] 10 RG:=by have:=qb;have:=mm P w base T;have:=aab P w base T;have:=aac P w base T;have:=f6 P w base T;have:=ac5 P w base T;have:=acI P w base T;have:=acJ P w base T;have:=acM P w base T;have:=Pv P w base T;have:=abe P w base T;have:=abg P w base T;have:=abi P w base T;have:=abk P w base T;have:=abl P w base T;ac_nf
end
def Jx(x:Int){n:Nat}(h:0<n):∃j:Nat,j<n/\x%(n:Int)=(j:Int):=by have h1:=Int.emod_nonneg x (show(n:Int)≠0 by lia);have h2:=Int.emod_lt_of_pos x (show(0:Int)<n by lia);exact⟨(x%(n:Int)).toNat,δ,δ⟩
def BI(AK:↑Int):↑W:=AK.map W.int
def iu(h:A6)(ns:↑Int)(k:Nat):∃c:Int,M1 [.Dm (BI ns),.int k] h=.ok (.int c,h):=by
 have es:=YP h (BI ns);by_cases AR:k< ⇑ns
 .refine⟨ns[k],?_⟩;have ex:A8 (.Dm (BI ns)) (.int (k:Int)) h=.ok (.int ns[k],h):=W9 h es (by simp[BI,AR]);have Ea:⇑(BI ns)=⇑ns:=by simp[BI]
  simp[M1,aq,BZ,es,Ea,AR,ex]
 .have Ea:⇑(BI ns)=⇑ns:=by simp[BI]
  exact⟨0,by simp[M1,aq,BZ,es,Ea,AR]⟩
def nW(l:↑Int)(x:Int){n:Nat}(AM:⇑l=n)(h0:0<n):∃f∈l,∀h g:A6,g[0]?=↥⟨.lst,BI l⟩->A8 (.ref ⇑h) (.int (x%(n:Int))) (h++g)=.ok (.int f,h++g):=by obtain⟨j,Ar,e⟩:=Jx x h0;rw[e];exact⟨l[j],Jm _,λh g eg=>W9 _ (GZ _ (by rw[Fx];exact eg)) (by simp[BI,AM,Ar])⟩
def N2(c:Int)(k:Nat)(AR:k<1000):∃y:Int,∀h,E3 [.int c,.int k] h=.ok (.int y,h):=by
 obtain⟨f,hf,C2⟩:=nW [48271,69621,16807,39373,40692,742938285,950706376,1343714438] k (n:=8) rfl ε;obtain⟨p,AV,Ao⟩:=nW [2147483647,2147483629,2147483587,2147483579,2147483563] k (n:=5) rfl ε;have f0:0<f/\f<18446744073709551616:=(by decide:∀f∈([48271,69621,16807,39373,40692,742938285,950706376,1343714438]:↑Int),0<f/\f<18446744073709551616) f hf;have Jz:0<p:=(by decide:∀p∈([2147483647,2147483629,2147483587,2147483579,2147483563]:↑Int),0<p) p AV;refine⟨((c%10^30+31*k+7)*f%p)/7,λh=>?_⟩;have C2:=C2 h [⟨.lst,BI [48271,69621,16807,39373,40692,742938285,950706376,1343714438]⟩] rfl;have Ao:=Ao h [⟨.lst,BI [2147483647,2147483629,2147483587,2147483579,2147483563]⟩] rfl;erw[BI,DC,I1,Int.cast_ofNat_Int]at C2 Ao;have By:∀x:Int,LG x f:=λx=>.inr (by constructor<;>lia);have Cz:LG 31 (k:Int):=.inl ε;have G7:OS 10 30:=ε
 simp[E3,cV,nw,Ay,C2,Ao,By,Cz,G7,Jz]
noncomputable def Bi(cs:↑Nat):↑W:=cs.map λ(c:Nat)=>W.int (c:Int)
abbrev Ae:=Nat×Nat
noncomputable def AY(d:Ae):W:=.tup [.int (d.1:Nat),.int (d.2:Nat)]
def CH(w:Ae×Ae):W:=.tup [AY w.1,AY w.2]
noncomputable def ends(ws:ν):↑Ae:=(ws.map λw=>[w.1,w.2]).flatten
theorem aK{α:Type}:∀(l:↑α)(i:Nat)(h:i< ⇑l),List.Perm (l[i]::l.eraseIdx i) l
 |x::l,0,_=>List.Perm.refl _
 |x::l,i+1,h=>by have CI:=aK l i (h:);erw[List.getElem_cons_succ,tu];exact(List.Perm.swap x _ _).trans (CI.cons x)
noncomputable def Oc(cs:↑Nat)(h:Nat):↑Ae:=(Cn (cs.getD h 0)).map λk=>(h,k)
def DF(cs:↑Nat)(n:Nat):↑Ae:=(Cn n).flatMap (Oc cs)
def ca(cs:↑Nat)(n:Nat):DF cs (n+1)=DF cs n++Oc cs n:=by unfold DF;rw[Z8,List.flatMap_append];simp
def eh{cs:↑Nat}{h:Nat}{d:Ae}:d∈Oc cs h↔d.1=h/\d.2<cs.getD h 0:=by
 unfold Oc;rw[VH];constructor
 .rintro⟨k,AR,rfl⟩;exact⟨rfl,List.mem_range.mp AR⟩
 .rintro⟨rfl,h2⟩;exact⟨d.2,List.mem_range.mpr h2,rfl⟩
def XZ{cs:↑Nat}{n:Nat}{d:Ae}:d∈DF cs n↔d.1<n/\d.2<cs.getD d.1 0:=by
 unfold DF;rw[List.mem_flatMap];constructor
 .rintro⟨h,hh,hd⟩;obtain⟨rfl,h2⟩:=eh.mp hd;exact⟨List.mem_range.mp hh,h2⟩
 .rintro⟨h1,h2⟩;exact⟨d.1,List.mem_range.mpr h1,eh.mpr ⟨rfl,h2⟩⟩
def wD(cs:↑Nat)(h:Nat):(Oc cs h).Nodup:=by unfold Oc;rw[Yl,Sl];exact List.nodup_range.imp λWd z=>Wd (Prod.mk.inj z).2
theorem jb(cs:↑Nat):∀n,(DF cs n).Nodup
 |0=>Ss
 |n+1=>by rw[ca];refine List.nodup_append.mpr ⟨jb cs n,wD cs n,λa AG b A5 z=>?_⟩;subst z;have h1:=(XZ.mp AG).1;have h2:=(eh.mp A5).1;lia
def jm{cs:↑Nat}(h:∀c∈cs,c<=4)(k:Nat):cs.getD k 0<=4:=by
 rw[Ef];cases e:cs[k]? with
 |none=>simp
 |some c=>simpa using h c (Lk e)
def wC{cs:↑Nat}(h:∀c∈cs,1<=c/\c<=4)(k:Nat):⇑(Oc cs k)<=4:=by unfold Oc;rw[Ch,iA];exact jm (λc AI=>(h c AI).2) k
theorem Zq{cs:↑Nat}(h:∀c∈cs,1<=c/\c<=4):∀n,⇑(DF cs n)<=4*n
 |0=>by simp[DF]
 |n+1=>by rw[ca,EM];have:=Zq h n;have:=wC h n;lia
def VQ{cs:↑Nat}{h:Nat}(hh:h< ⇑cs):(Bi cs)[h]?=↥(.int (cs.getD h 0:Nat)):=by simp[Bi,CT hh,Ef]
structure K3(cs:↑Nat)(ws:ν):Prop where
 h1:1<=⇑cs
 Fa:⇑cs<=6
 c:∀c∈cs,1<=c/\c<=4
 Bz:(ends ws).Nodup
 sub:∀d∈ends ws,d∈DF cs ⇑cs
 few:⇑ws<100
def head_mem{cs:↑Nat}(h1:1<=⇑cs)(c:∀c∈cs,1<=c/\c<=4):((0,0):Ae)∈DF cs ⇑cs:=by
 refine XZ.mpr ⟨h1,?_⟩;cases cs with
 |nil=>simp at h1
 |cons x r=>exact(c x (Hg ..)).1
@[simp] theorem akt(cs:↑Nat):G1 (Bi cs)=true:=Jw.mpr λw hw=>by obtain⟨c,_,rfl⟩:=List.mem_map.mp hw;simp
@[simp] theorem gM(d:Ae):DP (AY d)=true:=by simp[AY]
@[simp] theorem m4(w:Ae×Ae):DP (CH w)=true:=by simp[CH]
def H8{α:Type}(f:α->W)(l:↑α)(e:∀a,DP (f a)=true):G1 (l.map f)=true:=Jw.mpr λw hw=>by obtain⟨c,_,rfl⟩:=List.mem_map.mp hw;exact e c
def bB:OS 10 60:=ε
def wa(cell:Int):∃cs:↑Nat,(1<=⇑cs/\ ⇑cs<=6)/\(∀c∈cs,1<=c/\c<=4)/\∀h,U9 [.int cell] h=.ok (.ref ⇑h,h++[⟨.lst,Bi cs⟩]):=by
 by_cases ho:cell%2=1
 .obtain⟨N,hN⟩:∃N:Int,cell/2%1000000000000000000000000000000000000000000000000000000000000=N:=ο;obtain⟨m,hm,em⟩:=Jx (N) (n:=6) ε;have dh:(1:Int)+N%6=(m:Int)+1:=by have:N%6=(m:Int):=em;lia
  let G:Nat->Int:=λk=>([1,4,16,64,256,1024]:↑Int).getD k 1
  have Am:∀k,0<G k/\G k<1073741824:=λk=>by
   by_cases AR:k<6
   .rcases(by lia:k=0\/k=1\/k=2\/k=3\/k=4\/k=5)with rfl|rfl|rfl|rfl|rfl|rfl<;>exact⟨ε,ε⟩
   .have:G k=1:=by erw[G];rw[Ef,Jl (by simp;lia)];rfl
    rw[this];decide
  let Kx:Nat->Nat:=λk=>(1+N/6/G k%4).toNat
  have Vt:∀k,1<=Kx k/\Kx k<=4/\1+N/6/G k%4=(Kx k:Int):=λk=>by erw[Kx];lia
  refine⟨(Cn (m+1)).map Kx,⟨γ,by simp;lia⟩,λc AI=>?_,λh=>?_⟩
  .obtain⟨k,_,rfl⟩:=List.mem_map.mp AI;exact⟨(Vt k).1,(Vt k).2.1⟩
  .have c:=Vx (mi:=Dg (A0 (A1 addW ζ (A1 BY Ψ (pu (.int 6)))) A2)) (e:=BJ (A1 addW ζ (A1 BY (A1 Cq (A1 Cq Ψ (pu (.int 6))) (A1 A8 (BU (A0 ζ (A0 (pu (.int 4)) (A0 (pu (.int 16)) (A0 (pu (.int 64)) (A0 (pu (.int 256)) (A0 (pu (.int 1024)) A2))))))) π)) (pu (.int 4)))))
     (ρ:=[↥(.int cell),↥(.int (N))]) (h:=h) (h0:=h) (caps:=[1]) 0 (m+1) (λk=>.int (Kx k:Nat)) δ (LR (n:=m+1) (by
       simp[dh]) δ) (λk AR acc=>by
       have ex:A8 (.ref (⇑h+1)) (.int (k:Int)) (h++[⟨.lst,acc⟩,⟨.lst,BI [1,4,16,64,256,1024]⟩])=.ok (.int (G k),h++[⟨.lst,acc⟩,⟨.lst,BI [1,4,16,64,256,1024]⟩]):=W9 (ws:=BI [1,4,16,64,256,1024]) _ (GZ _ γ) (by rcases(by lia:k=0\/k=1\/k=2\/k=3\/k=4\/k=5)with rfl|rfl|rfl|rfl|rfl|rfl<;>rfl)
       erw[BI,DC,I1]at ex;have:=(Vt k).2.2;simp[nw,Ay,ex,Am k,this])
   simp[U9,av,ho,bB,hN];rw[c];simp;rw[Me h _ rfl (by exact H8 _ _ λa=>γ)];simp[Bi,Pe]
 .obtain⟨y,DG⟩:=N2 cell 0 ε;obtain⟨m,hm,em⟩:=Jx y (n:=6) ε;have dh:(1:Int)+y%6=(m:Int)+1:=by have:y%6=(m:Int):=em;lia
  have ex:∀k:Nat,∃c:Nat,(1<=c/\c<=4)/\(k<10->∃z:Int,(∀h,E3 [.int cell,.int (1+(k:Int))] h=.ok (.int z,h))/\1+z%4=(c:Int)):=λk=>by
   by_cases AR:k<10
   .obtain⟨z,G9⟩:=N2 cell (1+k) δ;exact⟨(1+z%4).toNat,δ,λ_=>⟨z,λh=>by rw[<-G9 h];simp,δ⟩⟩
   .exact⟨1,δ,λh=>absurd h AR⟩
  let Kx:Nat->Nat:=λk=>(ex k).choose
  have Vt:∀k,1<=Kx k/\Kx k<=4:=λk=>(ex k).choose_spec.1;have wS:∀k:Nat,k<10->∃z:Int,(∀h,E3 [.int cell,.int (1+(k:Int))] h=.ok (.int z,h))/\1+z%4=(Kx k:Int):=λk=>(ex k).choose_spec.2;refine⟨(Cn (m+1)).map Kx,⟨γ,by simp;lia⟩,λc AI=>?_,λh=>?_⟩
  .obtain⟨k,_,rfl⟩:=List.mem_map.mp AI;exact Vt k
  .have xa:E3 [.int cell,.int 0] h=.ok (.int y,h):=DG h
   have c:=Vx (mi:=Dg (A0 (A1 addW ζ (A1 BY (Aj 2 E3 (A0 π (A0 η A2))) (pu (.int 6)))) A2)) (e:=A1 addW ζ (A1 BY (Aj 2 E3 (A0 Ψ (A0 (A1 addW ζ π) A2))) (pu (.int 4))))
    (ρ:=[↥(.int cell),none]) (h:=h) (h0:=h) (caps:=[0]) 0 (m+1) (λk=>.int (Kx k:Nat)) δ (LR (n:=m+1) (by
      simp[xa,dh]) δ) (λk AR acc=>by
      obtain⟨z,AD,AH⟩:=wS k δ;simp[AD,AH])
   simp[U9,av,ho];rw[c];simp;rw[Me h _ rfl (by exact H8 _ _ λa=>γ)];simp[Bi,Pe]
end FT
namespace Bq
def Kc{h g:A6}(p:h<+: g):GO h g=true:=by obtain⟨r,rfl⟩:=p;simp
def GE{h g:A6}(p:h<+: g)(r:A6):h<+: g++r:=p.trans (Ez _ _)
def Nv{h:A6}{i j:Nat}{a b:↑W}(AD:h[i]?=↥⟨.lst,a⟩)(AH:h[j]?=↥⟨.lst,b⟩)(l:⇑a+⇑b<=Ay):addW (.ref i) (.ref j) h=.ok (.ref ⇑h,h++[⟨.lst,a++b⟩]):=by have f1:=P1 h AD;have f2:=P1 h AH;unfold addW;erw[f1,f2];exact Gu h (l:)
def H7{h:A6}{n:Nat}{ws:↑W}(e:h[n]?=↥⟨.lst,ws⟩):BZ [.ref n] h=.ok (.int ⇑ws,h):=by simp[BZ,GZ h e]
def E2{h:A6}{n k:Nat}{ws:↑W}{w:W}(e:h[n]?=↥⟨.lst,ws⟩)(x:ws[k]?=↥w):A8 (.ref n) (.int (k:Int)) h=.ok (w,h):=W9 h (GZ h e) x
end Bq
namespace FT
def ke{cs:↑Nat}(Fa:⇑cs<=6)(Fl:∀c∈cs,1<=c/\c<=4){h:A6}{n:Nat}(Au:h[n]?=↥⟨.lst,Bi cs⟩):S7 [.ref n] h=.ok (.ref ⇑h,h++[⟨.lst,(DF cs ⇑cs).map AY⟩]):=by
 apply Ends.done;have lcs:⇑(Bi cs)=⇑cs:=by simp[Bi]
 erw[S7,Xi,cU,B2,Dr,JL,CJ,A3,Gu h (show⇑([]:↑W)<=Ay by simp),QS,LV];erw[Wr,DC,I1,DV,FK,HT,NF,HU,VK,Gd,R4,NH,R8,if_true,A3,B9,B2,LV]
 have B1:=SI (mi:=Dg (A0 (Aw BZ Γ) A2)) (g:=AC 2) (b:=AZ (BJ (A1 addW Ψ (DZ 1 [2] (Dg (A0 (A1 A8 π ac) A2)) (AC 0) (pu true) (BX (A0 Ψ Γ))))) (AC 1))
  (ρ:=[Ξ,χ,none]) (h:=h++[⟨.lst,[]⟩]) (h0:=h++[⟨.lst,[]⟩]) 0 ⇑cs δ
  (λj ρ h'=>∃a s2,ρ=[Ξ,↥(.ref a),s2]/\h'[n]?=↥⟨.lst,Bi cs⟩/\h'[a]?=↥⟨.lst,(DF cs j).map AY⟩/\ ⇑h<=a/\h<+: h')
  (T:=λf h'=>∃a s2,f=.AT [Ξ,↥(.ref a),s2]/\h'[a]?=↥⟨.lst,(DF cs ⇑cs).map AY⟩/\ ⇑h<=a/\h<+: h')
  (LR (n:=⇑cs) (by simp[H7 (C6 h Au _),lcs]) δ) ⟨⇑h,none,rfl,C6 h Au _,by simp[DF],C1 _,Ez _ _⟩ ?_ ?_
 .obtain⟨f,h',C2,a,s2,rfl,BS,Gr,pr⟩:=B1.HM;rw[C2];simp[KD h h' (Kc pr) Gr BS (H8 _ _ gM)]
 .rintro j _ H1 Ar ⟨a,s2,rfl,AD,AH,Gr,pr⟩;refine⟨[Ξ,↥(.ref a),ψ],H1,γ,?_⟩;have alP:=jm (λc AI=>(Fl c AI).2) j;have Ea:=Zq Fl j
  have c:=Vx (mi:=Dg (A0 (A1 A8 π ac) A2)) (e:=BX (A0 Ψ Γ)) (ρ:=[Ξ,↥(.ref a),ψ]) (h:=H1) (h0:=H1) (caps:=[2]) 0 (cs.getD j 0) (λk=>AY (j,k)) δ
   (LR (by erw[Bn,BQ,v_var,Da,ES,Cf,A3,E2 AD (VQ Ar),CJ]) δ) (λk AR acc=>by simp[Ay,AY])
  erw[Dr,FJ,BQ,v_var,ES,Da,Cf,A3,c];rw[Nv (b:=(Cn (cs.getD j 0)).map λk=>AY (j,k)) (C6 H1 AH _) γ (by erw[Ch,iA,Ay];lia)];have es:=KD H1 (H1++[⟨.lst,(Cn (cs.getD j 0)).map λk=>AY (j,k)⟩]++[⟨.lst,(DF cs j).map AY++(Cn (cs.getD j 0)).map λk=>AY (j,k)⟩]) (n:=⇑H1+1) (ws:=(DF cs j).map AY++(Cn (cs.getD j 0)).map λk=>AY (j,k)) γ δ γ (Jw.mpr λw hw=>by
   rcases List.mem_append.mp hw with hw|hw
   .obtain⟨d,_,rfl⟩:=List.mem_map.mp hw;simp
   .obtain⟨d,_,rfl⟩:=List.mem_map.mp hw;simp)
  erw[A3,EM,DV,FK,Nat.zero_add,es];erw[QS,DV,FK,HU,R8,if_true,VX,a3,R4,NH];refine⟨⇑H1,ψ,rfl,C6 H1 AD _,?_,List.IsPrefix.length_le pr,GE pr _⟩;rw[ca];simp[Oc]
 .rintro _ h' ⟨a,s2,rfl,AD,AH,Gr,pr⟩;exact⟨a,s2,rfl,AH,Gr,pr⟩
end FT
namespace Bq
def Lg{h:A6}{n:Nat}{ws:↑W}{m:BB}{ρ:BC}{h0:A6}(e:h[n]?=↥⟨.lst,ws⟩)(em:m ρ h0=.ok (.ref n,h)):D_ m ρ h0=.ok (GC (.ref n),h):=by unfold D_;erw[I_,em,A3,GZ h e]
def Nn{h:A6}{n:Nat}{ws:↑W}(e:h[n]?=↥⟨.lst,ws⟩)(j:Nat):GC (.ref n) j h=↥ws[j]?:=by erw[GC,GZ h e]
@[simp] theorem ala(f g:DM)(x y:W)(ρ:BC)(h:A6):Ei [f,g] (.tup [x,y]) ρ h=(f x ρ h).bind (PQ λρ h=>(g y ρ h).bind (PQ Bj)):=by
  erw[Ei,Ui,DV,FK,Up,B2];rw[if_pos trivial]
  congr
end Bq
namespace FT
def bH(h:A6)(d:Ae):CD 8 h (AY d)=↥(.CW true [.int (d.1:Nat),.int (d.2:Nat)]):=by simp[AY,CD]
def bA(h:A6)(a b:Ae):As true (AY a) (AY b) h=.ok (.AN (decide (a=b)),h):=by
 unfold As;rw[bH,bH];erw[eqT,Gk]
 congr 3
 obtain⟨a1,a2⟩:=a;obtain⟨Cw,Fv⟩:=b;by_cases h1:a1=Cw<;>by_cases h2:a2=Fv<;>simp[h1,h2]
 all_goals lia
noncomputable def Eg:ν->Ae->Option Ae
 |[],_=>none
 |w::ws,d=>if w.1=d then↥w.2 else if w.2=d then↥w.1 else Eg ws d
def IT:Option Ae->W
 |none=>.non
 |some d=>AY d
@[simp] theorem akn(o:Option Ae):DP (IT o)=true:=by cases o<;>simp[IT]
def jC{ws:ν}(AF:⇑ws<100){h:A6}{n:Nat}(Au:h[n]?=↥⟨.lst,ws.map CH⟩)(d:Ae):Qc [.ref n,AY d] h=.ok (IT (Eg ws d),h):=by
 apply Ends.done
 have B1:=TD (mi:=D_ π) (it:=GC (.ref n)) (g:=Ei [(AC 2),(AC 3)]) (b:=AO (Bp (Aa (A1 Φ ac Ψ)) (B7 Cl) Bj) (Bp (Aa (A1 Φ Cl Ψ)) (B7 ac) Bj))
  (ρ:=[Ξ,↥(AY d),none,none]) (h:=h) (h0:=h) (ws.map CH) (by simp;lia)
  (λj ρ h'=>∃s2 s3,ρ=[Ξ,↥(AY d),s2,s3]/\h'=h/\Eg (ws.drop j) d=Eg ws d)
  (T:=λf h'=>h'=h/\((∃ρ,f=.AT ρ/\Eg ws d=none)\/f=.EX (IT (Eg ws d))))
  (Lg Au γ) (λj ρ h' _⟨_,_,_,e,_⟩=>by rw[e];exact Nn Au j) ⟨none,none,rfl,rfl,rfl⟩ ?_ ?_
 .obtain⟨f,h',C2,rfl,q⟩:=B1.HM;erw[Qc,Xi,cT,B2,LV,Wr,DC,I1,DV,FK,HT,NF,HU,VK,Gd,C2,A3];rcases q with⟨ρ,rfl,e⟩|rfl
  .simp[e,IT]
  .simp
 .rintro j w _ H1 D0 ⟨s2,s3,rfl,EE,e⟩;subst EE;rw[E7]at D0;cases CM:ws[j]? with
  |none=>rw[CM]at D0;cases D0
  |some p=>
   rw[CM]at D0;cases D0;have Ar:j< ⇑ws:=(List.getElem?_eq_some_iff.mp CM).1;have hd:ws.drop j=p::ws.drop (j+1):=by rw[hb Ar];have:=(List.getElem?_eq_some_iff.mp CM).2;rw[this]
   rw[hd]at e;refine⟨[Ξ,↥(AY d),↥(AY p.1),↥(AY p.2)],H1,by simp[CH],?_⟩;erw[Eg]at e;by_cases h1:p.1=d
   .rw[if_pos h1]at e;simp[bA,h1,<-e,IT]
   .rw[if_neg h1]at e;by_cases h2:p.2=d
    .rw[if_pos h2]at e;simp[bA,h1,h2,<-e,IT]
    .rw[if_neg h2]at e;simp[bA,h1,h2,e]
 .rintro _ _ ⟨s2,s3,rfl,rfl,e⟩;refine⟨rfl,.inl ⟨_,rfl,?_⟩⟩;rw[<-e];simp[Eg]
def abQ(h:A6)(o:Option Ae):Ej true (IT o) .non h=.ok (.AN o.isNone,h):=by cases o<;>rfl
def adZ{cs:↑Nat}{ws:ν}(N:K3 cs ws){h:A6}{n k:Nat}(Au:h[n]?=↥⟨.lst,Bi cs⟩)(DN:h[k]?=↥⟨.lst,ws.map CH⟩) :
  XR [.ref n,.ref k] h=.ok (.ref ⇑h,h++[⟨.lst,((DF cs ⇑cs).filter λd=>(Eg ws d).isNone).map AY⟩]):=by
 have Ij:=ke N.Fa N.c Au;have Ea:=Zq N.c ⇑cs;have aby:=N.Fa
 have c:=Vw (mi:=D_ (Aj 1 S7 Γ)) (it:=GC (.ref ⇑h)) (g:=AC 0) (t:=Aa (A1 (Ej true) (Aj 2 Qc (A0 Ψ Γ)) Ty)) (e:=I 0) (ρ:=[Ξ,↥(.ref k)]) (h:=h++[⟨.lst,(DF cs ⇑cs).map AY⟩]) (h0:=h) (nl:=1) (caps:=[1])
  ((DF cs ⇑cs).map AY) (λw=>match w with
    |.tup [.int a,.int b]=>(Eg ws (a.toNat,b.toNat)).isNone
    |_=>false) id (λρ=>∃x,ρ=[x,↥(.ref k)]) (by simp;lia) (Lg (ws:=(DF cs ⇑cs).map AY) γ (by simp[Ij])) ⟨none,rfl⟩ (λj acc _=>Nn (by rw[ET];simp) j) (by
    rintro w hw ρ acc ⟨x,rfl⟩;obtain⟨d,hd,rfl⟩:=List.mem_map.mp hw;refine⟨[↥(AY d),↥(.ref k)],γ,⟨_,rfl⟩,?_,λ_=>γ⟩;have b:=jC N.few (C6 _ (C6 h DN [⟨.lst,(DF cs ⇑cs).map AY⟩]) [⟨.lst,acc⟩]) d;erw[Hx,BQ,J0,Bn,v_var,Da,ES,Cf,A3,CJ,DV,FK,HU,if_true,b,Bk,abQ,Hn];simp[AY])
 erw[XR,Xi,cW,Gb,Wr,DC,I1,DV,FK,HT,NF,HU,VK,Gd,L2,c,A3,IU];have C2:(((DF cs ⇑cs).map AY).filter λw=>match w with
   |.tup [.int a,.int b]=>(Eg ws (a.toNat,b.toNat)).isNone
   |_=>false)=((DF cs ⇑cs).filter λd=>(Eg ws d).isNone).map AY:=by
  rw[List.filter_map]
  congr 1
 rw[C2,List.map_id];exact KD h _ (Kc (GE (Ez _ _) _)) γ γ (H8 _ _ gM)
end FT
namespace Bq
theorem aJ{α β:Type}(f:α->β):∀(l:↑α)(k:Nat),(l.map f).eraseIdx k=(l.eraseIdx k).map f
 |[],_=>γ
 |x::l,0=>γ
 |x::l,k+1=>by simp[aJ f l k]
def aeX:(2:Int)^63=9223372036854775808:=ε
def fu{ws:↑W}{k:Nat}(AR:k< ⇑ws)(AF:⇑ws<1000):Je ws [.int (k:Int)]=↥(ws[k],ws.eraseIdx k):=by
 have c: -(2^63)<=(k:Int)/\(k:Int)<2^63:=by rw[aeX];lia
 have e:Su (k:Int) ⇑ws=↥k:=by unfold Su;simp[show¬(k:Int)<0 by lia,AR]
 erw[Je,if_pos c,e,CT AR,R0]
def JB{f:M5}{m:BB}{a:EY}{ρ:BC}{h h1 h2:A6}{n:Nat}{ws ws2 ws' us:↑W}{r:W}(em:m ρ h=.ok (.ref n,h1))(AD:h1[n]?=↥⟨.lst,ws⟩)(BS:a ρ h1=.ok (us,h2))(AH:h2[n]?=↥⟨.lst,ws2⟩)(C2:f ws2 us=↥(r,ws'))(AF:⇑ws'<=Ay) :
  DI f m a ρ h=.ok (r,h2.set n ⟨.lst,ws'⟩):=by
 rw[aiF,em];erw[A3,br,P1 h1 AD,I_,BS,c6,P1 h2 AH,C2];exact if_pos AF
def XF{h g:A6}(p:h<+: g){n:Nat}(l:⇑h<=n)(o:O):h<+: g.set n o:=by obtain⟨r,rfl⟩:=p;rw[tk _ _ l];exact Ez _ _
def EL{h:A6}{i j:Nat}(ne:i≠j)(o:O):(h.set i o)[j]?=h[j]?:=MR ne
def IY{h:A6}{i:Nat}{o o':O}(e:h[i]?=↥o'):(h.set i o)[i]?=↥o:=L3 (List.getElem?_eq_some_iff.mp e).1
def Eu{h:A6}{i:Nat}{o:O}(e:h[i]?=↥o):i< ⇑h:=(List.getElem?_eq_some_iff.mp e).1
end Bq
namespace FT
def xL(ws:ν)(w:Ae×Ae):ends (ws++[w])=ends ws++[w.1,w.2]:=by simp[ends]
def dj(ws:ν):⇑(ends ws)=2*⇑ws:=by
 induction ws with
 |nil=>rfl
 |cons w ws CI=>simp[ends]at CI |-;lia
def gp:Ak:=AO (AZ (DI Je ac (A0 (A1 BY (A1 A8 (I 7) η) (Aw BZ ω)) A2)) (AC 8))
    (AO (AZ (DI Je ac (A0 (A1 BY (A1 A8 (I 7) ζ) (Aw BZ ω)) A2)) (AC 9))
    (AO (Fy (DI EO Cl (A0 (BX (A0 (I 8) (A0 (I 9) A2))) A2)))
    (AZ (A1 addW (I 6) τ) (AC 6))))
noncomputable def FM(cell:Int)(n a b:Nat)(nm Bf:Int)(k:Nat)(s7 HO Gf:Option W):BC:=[↥(.int cell),Ξ,↥(.ref a),↥(.ref b),↥(.int nm),↥(.int Bf),↥(.int (k:Int)),s7,HO,Gf]
structure PF(h:A6)(a b:Nat)(R:↑Ae)(ws:ν)(h':A6):Prop where
 BS:h'[a]?=↥⟨.lst,R.map AY⟩
 BE:h'[b]?=↥⟨.lst,ws.map CH⟩
 ne:a≠b
 Gr:⇑h<=a
 JZ:⇑h<=b
 pr:h<+: h'
def PF.more{h:A6}{a b:Nat}{R:↑Ae}{ws:ν}{h':A6}(w:PF h a b R ws h')(g:A6):PF h a b R ws (h'++g):=⟨C6 _ w.BS g,C6 _ w.BE g,w.ne,w.Gr,w.JZ,GE w.pr g⟩
def dV(cell:Int)(n:Nat)(h:A6)(al:↑Ae)(Bf:Int)(m:Nat)(ρ:BC)(h':A6):Prop:=∃(a b:Nat)(ws:ν)(R:↑Ae)(nm:Int)(s7 HO Gf:Option W),(ends ws++R).Perm al/\1<=⇑R/\m=⇑R/\PF h a b R ws h'/\ρ=FM cell n a b nm Bf (9+2*⇑ws) s7 HO Gf
def t8{cell:Int}{n a b p:Nat}{h AU:A6}{al R:↑Ae}{ws:ν}{nm Bf:Int}{HO Gf:Option W}{q1 q2:Int}(T:FU->A6->Prop)(pm:(ends ws++R).Perm al)(Mx:3<=⇑R)(f8:⇑al<=100)(w:PF h a b R ws AU)(Ao:AU[p]?=↥⟨.lst,[.int q1,.int q2]⟩)(X9:p≠a) :
  Ends (gp (FM cell n a b nm Bf (9+2*⇑ws) ↥(.ref p) HO Gf) AU) (LD (λEe h'=>∃m,m< ⇑R/\dV cell n h al Bf m Ee h') T):=by
 have Ea:⇑(ends ws)+⇑R=⇑al:=by have:=pm.length_eq;simpa using this
 rw[dj]at Ea;obtain⟨k1,fI,xI⟩:=Jx q1 (n:=⇑R) δ;have QP:⇑(R.eraseIdx k1)=⇑R-1:=h_ fI;obtain⟨k2,Oo,xJ⟩:=Jx q2 (n:=⇑(R.eraseIdx k1)) δ;have adH:⇑((R.eraseIdx k1).eraseIdx k2)=⇑R-2:=by rw[h_ Oo];lia
 obtain⟨C4,DT⟩:∃C4,C4=AU.set a ⟨.lst,(R.eraseIdx k1).map AY⟩:=⟨_,rfl⟩;have f1:C4[a]?=↥⟨.lst,(R.eraseIdx k1).map AY⟩:=by rw[DT];exact IY w.BS
 have f2:C4[p]?=↥⟨.lst,[.int q1,.int q2]⟩:=by rw[DT,EL X9.symm];exact Ao
 have Ev:C4[b]?=↥⟨.lst,ws.map CH⟩:=by rw[DT,EL w.ne];exact w.BE
 have t1:DI Je ac (A0 (A1 BY (A1 A8 (I 7) η) (Aw BZ ω)) A2) (FM cell n a b nm Bf (9+2*⇑ws) ↥(.ref p) HO Gf) AU=.ok (AY R[k1],C4):=by
  rw[DT];have Eo:A8 (.ref p) (.int 0) AU=.ok (.int q1,AU):=E2 (k:=0) Ao rfl;refine JB (ws:=R.map AY) (ws2:=R.map AY) (us:=[.int (k1:Int)]) (h1:=AU) (h2:=AU) (by simp[FM]) w.BS ?_ w.BS ?_ (by simp[Ay];lia)
  .simp[FM,Eo,H7 w.BS,show 0< ⇑R by lia];exact xI
  .rw[fu (fI:) (by simp;lia)];simp[aJ]
 obtain⟨Dd,Od⟩:∃Dd,Dd=C4.set a ⟨.lst,((R.eraseIdx k1).eraseIdx k2).map AY⟩:=⟨_,rfl⟩;have g1:Dd[a]?=↥⟨.lst,((R.eraseIdx k1).eraseIdx k2).map AY⟩:=by rw[Od];exact IY f1
 have g3:Dd[b]?=↥⟨.lst,ws.map CH⟩:=by rw[Od,EL w.ne];exact Ev
 have CK:∀ob,DI Je ac (A0 (A1 BY (A1 A8 (I 7) ζ) (Aw BZ ω)) A2) (FM cell n a b nm Bf (9+2*⇑ws) ↥(.ref p) ob Gf) C4=.ok (AY (R.eraseIdx k1)[k2],Dd):=λob=>by
  rw[Od];have Cb:A8 (.ref p) (.int 1) C4=.ok (.int q2,C4):=E2 (k:=1) f2 rfl;refine JB (ws:=(R.eraseIdx k1).map AY) (ws2:=(R.eraseIdx k1).map AY) (us:=[.int (k2:Int)]) (h1:=C4) (h2:=C4) (by simp[FM]) f1 ?_ f1 ?_ (by simp[Ay];lia)
  .have:0< ⇑(R.eraseIdx k1):=δ
   erw[FM,Bn,BQ,GP,v_var,Bk,CJ,ES,Da,Cf,A3,Cb,H7 f1,Kb,Ch];rw[if_pos δ];erw[A3,xJ]
  .rw[fu (Oo:) (by simp;lia)];simp[aJ]
 have t3:DI EO Cl (A0 (BX (A0 (I 8) (A0 (I 9) A2))) A2) (FM cell n a b nm Bf (9+2*⇑ws) ↥(.ref p) ↥(AY R[k1]) ↥(AY (R.eraseIdx k1)[k2])) Dd=.ok (.non,Dd.set b ⟨.lst,(ws++[(R[k1],(R.eraseIdx k1)[k2])]).map CH⟩):=
  JB (ws:=ws.map CH) (ws2:=ws.map CH) (us:=[CH (R[k1],(R.eraseIdx k1)[k2])]) (h1:=Dd) (h2:=Dd) (by simp[FM]) g3 (by simp[FM,Ay,CH]) g3 (by simp[EO]) (by simp[Ay];lia)
 have C_:PF h a b ((R.eraseIdx k1).eraseIdx k2) (ws++[(R[k1],(R.eraseIdx k1)[k2])]) (Dd.set b ⟨.lst,(ws++[(R[k1],(R.eraseIdx k1)[k2])]).map CH⟩):=⟨by rw[EL w.ne.symm];exact g1,IY g3,w.ne,w.Gr,w.JZ,XF (by rw[Od];exact XF (by rw[DT];exact XF w.pr w.Gr _) w.Gr _) w.JZ _⟩;unfold gp;erw[B2,Dr,t1,A3];have Fi:AC 8 (AY R[k1]) (FM cell n a b nm Bf (9+2*⇑ws) ↥(.ref p) HO Gf) C4=.ok (.AT (FM cell n a b nm Bf (9+2*⇑ws) ↥(.ref p) ↥(AY R[k1]) Gf),C4):=rfl;have F6:AC 9 (AY (R.eraseIdx k1)[k2]) (FM cell n a b nm Bf (9+2*⇑ws) ↥(.ref p) ↥(AY R[k1]) Gf) Dd=.ok (.AT (FM cell n a b nm Bf (9+2*⇑ws) ↥(.ref p) ↥(AY R[k1]) ↥(AY (R.eraseIdx k1)[k2])),Dd):=rfl;rw[Fi];erw[A3,B9,B2,Dr,CK];rw[F6];erw[A3,B9,B2,JK,t3,Dr];refine⟨.AT (FM cell n a b nm Bf (9+2*⇑ws+2) ↥(.ref p) ↥(AY R[k1]) ↥(AY (R.eraseIdx k1)[k2])),Dd.set b ⟨.lst,(ws++[(R[k1],(R.eraseIdx k1)[k2])]).map CH⟩,by simp[FM],?_⟩;refine⟨⇑R-2,δ,a,b,ws++[(R[k1],(R.eraseIdx k1)[k2])],(R.eraseIdx k1).eraseIdx k2,nm,_,_,_,?_,δ,adH.symm,C_,by rw[EM];rfl⟩;rw[xL,ET];refine List.Perm.trans (hu _ ?_) pm;exact((aK (R.eraseIdx k1) k2 Oo).cons _).trans (aK R k1 fI)
def jH{α β KI:Type}(r:Bq.R α)(f:α->Bq.R β)(g:β->Bq.R KI):(r.bind f).bind g=r.bind λa=>(f a).bind g:=by cases r<;>rfl
def gn:Ak:=AO (AZ (BU (A0 XL (A0 (A1 Cq XL (Aw BZ ω)) A2))) (AC 7))
    (AZ (A1 Cq (A1 Cq XL (Aw BZ ω)) (A1 NS (Aw BZ ω) ζ)) (AC 4))
def Xp:Ak:=AO (AZ (BU (A0 (Aj 2 E3 (A0 π (A0 (I 6) A2))) (A0 (Aj 2 E3 (A0 π (A0 (A1 addW (I 6) ζ) A2))) A2))) (AC 7))
    (AO (Bp (Aa (A1 Φ (A1 BY π τ) ζ)) gn Bj) gp)
def Y6:DX:=Aa (A1 KS (Aw BZ ω) (A1 addW (I 5) ζ))
def ahc{cell:Int}{n a b:Nat}{h H1:A6}{al R:↑Ae}{ws:ν}{nm Bf:Int}{s7 HO Gf:Option W}(T:FU->A6->Prop)(pm:(ends ws++R).Perm al)(Mx:3<=⇑R)(f8:⇑al<=100)(w:PF h a b R ws H1) :
  Ends (Xp (FM cell n a b nm Bf (9+2*⇑ws) s7 HO Gf) H1) (LD (λEe h'=>∃m,m< ⇑R/\dV cell n h al Bf m Ee h') T):=by
 have Ea:⇑(ends ws)+⇑R=⇑al:=by have:=pm.length_eq;simpa using this
 rw[dj]at Ea;obtain⟨NE,f1⟩:=N2 cell (9+2*⇑ws) δ;obtain⟨NY,f2⟩:=N2 cell (9+2*⇑ws+1) δ;have Ml:∀h,E3 [.int cell,.int (((9+2*⇑ws:Nat):Int)+1)] h=.ok (.int NY,h):=f2;have Gr:=Eu w.BS;have s1:AZ (BU (A0 (Aj 2 E3 (A0 π (A0 (I 6) A2))) (A0 (Aj 2 E3 (A0 π (A0 (A1 addW (I 6) ζ) A2))) A2))) (AC 7) (FM cell n a b nm Bf (9+2*⇑ws) s7 HO Gf) H1=.ok (.AT (FM cell n a b nm Bf (9+2*⇑ws) ↥(.ref ⇑H1) HO Gf),H1++[⟨.lst,[.int NE,.int NY]⟩]):=by erw[FM,Dr,JL,Bn,J0,BQ,v_var,Bk,CJ,ES,Da,Cf,A3,DV,FK,HU,if_true,N4,f1,Ml,Gu H1 (show⇑([.int NE,.int NY]:↑W)<=Ay by simp[Ay]),QS,R8,R4,NH]
 unfold Xp;erw[B2,s1,A3,B9];by_cases ho:cell%2=1
 .have n3:(0:Int)<(⇑R:Int)/\(⇑R:Int)<1073741824:=δ
  have Cp:(0:Int)<(⇑R:Int)-1/\(⇑R:Int)-1<1073741824:=δ
  have AD:∀g,(H1++g)[a]?=↥⟨.lst,R.map AY⟩:=λg=>C6 H1 w.BS g;have c:Aa (A1 Φ (A1 BY π τ) ζ) (FM cell n a b nm Bf (9+2*⇑ws) ↥(.ref ⇑H1) HO Gf) (H1++[⟨.lst,[.int NE,.int NY]⟩])=.ok (true,H1++[⟨.lst,[.int NE,.int NY]⟩]):=by simp[FM,ho]
  have s2:gn (FM cell n a b nm Bf (9+2*⇑ws) ↥(.ref ⇑H1) HO Gf) (H1++[⟨.lst,[.int NE,.int NY]⟩])=.ok (.AT (FM cell n a b (nm/⇑R/((⇑R:Int)-1)) Bf (9+2*⇑ws) ↥(.ref (⇑H1+1)) HO Gf),H1++[⟨.lst,[.int NE,.int NY]⟩,⟨.lst,[.int nm,.int (nm/⇑R)]⟩]):=by simp[gn,FM,H7 (AD _),n3,Cp,show 0< ⇑R by lia,show 1< ⇑R by lia,show(1:Int)<(⇑R:Int)by lia,nw,Ay]
  erw[E6,c,A3,if_true,s2,B9];exact t8 (q1:=nm) (q2:=nm/⇑R) T pm Mx f8 (w.more _) γ δ
 .have c:Aa (A1 Φ (A1 BY π τ) ζ) (FM cell n a b nm Bf (9+2*⇑ws) ↥(.ref ⇑H1) HO Gf) (H1++[⟨.lst,[.int NE,.int NY]⟩])=.ok (false,H1++[⟨.lst,[.int NE,.int NY]⟩]):=by simp[FM,ho]
  erw[E6,c,A3,MP,if_false,GQ,B9];exact t8 (q1:=NE) (q2:=NY) T pm Mx f8 (w.more _) γ δ
def ahe(cell:Int)(cs:↑Nat)(h1:1<=⇑cs)(Fa:⇑cs<=6)(Fl:∀c∈cs,1<=c/\c<=4){h:A6}{n:Nat}(Au:h[n]?=↥⟨.lst,Bi cs⟩) :
  ∃ws,K3 cs ws/\(∃d∈DF cs ⇑cs,d∉ends ws)/\OX [.int cell,.ref n] h=.ok (.ref ⇑h,h++[⟨.lst,ws.map CH⟩]):=by
 have C5:1<=⇑(DF cs ⇑cs):=hY (head_mem h1 Fl);have akE:=Zq Fl ⇑cs;have ad2:=jb cs ⇑cs;have Ij:=ke Fa Fl Au;obtain⟨sW,vi⟩:=N2 cell 8 ε;have ko:∀h,E3 [.int cell,.int 8] h=.ok (.int sW,h):=vi;obtain⟨N,hN⟩:∃N:Int,cell/2%1000000000000000000000000000000000000000000000000000000000000/24576=N:=ο;suffices AQ:∃ws,K3 cs ws/\(∃d∈DF cs ⇑cs,d∉ends ws)/\Ends (OX [.int cell,.ref n] h) (λw h'=>w=.ref ⇑h/\h'=h++[⟨.lst,ws.map CH⟩])by
  obtain⟨ws,a,b,c⟩:=AQ;exact⟨ws,a,b,c.done⟩
 obtain⟨C3,CG⟩:∃C3,C3=h++[⟨.lst,(DF cs ⇑cs).map AY⟩,⟨.lst,[]⟩]:=ο;have PX:PF h ⇑h (⇑h+1) (DF cs ⇑cs) [] C3:=⟨by rw[CG];simp,by rw[CG];simp,δ,C1 _,δ,by rw[CG];exact Ez _ _⟩;have B1:∀(nm Bf:Int),1<=Bf->Ends (Tv Y6 Xp (FM cell n ⇑h (⇑h+1) nm Bf 9 none none none) C3) (λf h'=>∃a b ws R nm s7 HO Gf,f=.AT (FM cell n a b nm Bf (9+2*⇑ws) s7 HO Gf)/\(ends ws++R).Perm (DF cs ⇑cs)/\1<=⇑R/\PF h a b R ws h'):=λnm Bf lq=>by refine xM (dV cell n h (DF cs ⇑cs) Bf) (n:=⇑(DF cs ⇑cs)) δ ⟨⇑h,⇑h+1,[],DF cs ⇑cs,nm,none,none,none,.refl _,C5,rfl,PX,rfl⟩ ?_;rintro m _ H1 ⟨a,b,ws,R,nm,s7,HO,Gf,pm,Cp,rfl,w,rfl⟩;refine⟨decide (Bf+1<(⇑R:Int)),H1,by simp[Y6,FM,H7 w.BS],λ_=>⟨a,b,ws,R,nm,s7,HO,Gf,rfl,pm,Cp,w⟩,λBc=>ahc _ pm (by have:=of_decide_eq_true Bc;lia) δ w⟩
 have fin:∀(nm Bf:Int),1<=Bf->(OX [.int cell,.ref n] h=(HM (Tv Y6 Xp (FM cell n ⇑h (⇑h+1) nm Bf 9 none none none) C3)).bind λp=>(PQ (B7 Cl) p).bind λp=>(outF p).bind λq=>settle h q.1 q.2)->∃ws,K3 cs ws/\(∃d∈DF cs ⇑cs,d∉ends ws)/\Ends (OX [.int cell,.ref n] h) (λw h'=>w=.ref ⇑h/\h'=h++[⟨.lst,ws.map CH⟩]):=λnm Bf lq e=>by
  obtain⟨f,h',C2,a,b,ws,R,akv,s7,HO,Gf,rfl,pm,Cp,w⟩:=(B1 nm Bf lq).HM;have Ea:⇑(ends ws)+⇑R=⇑(DF cs ⇑cs):=by have:=pm.length_eq;simpa using this
  rw[dj]at Ea;have Bz:(ends ws++R).Nodup:=pm.nodup_iff.mpr ad2;have Sy:R[0]∈R:=Jm _;refine⟨ws,⟨h1,Fa,Fl,(List.nodup_append.mp Bz).1,λd hd=>pm.mem_iff.mp (J2 _ hd),δ⟩,⟨R[0],pm.mem_iff.mp (IA _ Sy),λz=>(List.nodup_append.mp Bz).2.2 _ z _ Sy rfl⟩,?_⟩;rw[e,C2];simp[FM,KD h h' (Kc w.pr) w.JZ w.BE (H8 _ _ m4)]
 have BE:cY=AO (AZ (Aj 1 S7 υ) (AC 2))
  (AO (AZ (BU A2) (AC 3))
  (AO (AZ (A1 Cq (A1 BY (A1 Cq π τ) (A1 PM (pu (.int 10)) (pu (.int 60)))) (pu (.int 24576))) (AC 4))
  (AO (AZ (A1 addW ζ (A1 BY (Aj 2 E3 (A0 π (A0 (pu (.int 8)) A2))) (pu (.int 3)))) (AC 5))
  (AO (Bp (Aa (A1 Φ (A1 BY π τ) ζ)) (AO (AZ (A1 addW ζ (A1 BY XL (pu (.int 24)))) (AC 5)) (AZ (A1 Cq XL (pu (.int 24))) (AC 4))) Bj)
  (AO (AZ (pu (.int 9)) (AC 6))
  (AO (cB Y6 Xp) (B7 Cl))))))):=rfl
 by_cases ho:cell%2=1
 .refine fin (N/24) (1+N%24) δ ?_;simp[OX,BE,Ij,nw,Ay,bB,hN,ko,ho];rw[CG];exact jH _ _ _
 .refine fin N (1+sW%3) δ ?_;simp[OX,BE,Ij,nw,Ay,bB,hN,ko,ho];rw[CG];exact jH _ _ _
def LX(c:Nat):Prop:=c=48\/c=49\/c=120
structure Rc(x:Str):Prop where
 l:⇑x.cps.toList=4
 s:∀c∈x.cps.toList,LX c
def vP{x y:Str}(h:A6)(l:⇑x+⇑y<=Ay):addW (.str x) (.str y) h=.ok (.str (x++y),h):=if_pos l
def kT(x:Str)(c:Nat):(x++(⟨#[c]⟩:Str)).cps.toList=x.cps.toList++[c]:=by show(x.cps++ #[c]).toList=_;simp
structure Cs where
 p:Str
 a:Option Nat
 b:Option Nat
noncomputable def DA:Option Nat->W
 |none=>.non
 |some k=>.int (k:Int)
def EK(r:Cs):W:=.tup [.str r.p,DA r.a,DA r.b]
@[simp] theorem ako(o:Option Nat):DP (DA o)=true:=by cases o<;>simp[DA]
@[simp] theorem m2(r:Cs):DP (EK r)=true:=by simp[EK]
structure TZ(c:Nat)(r:Cs):Prop where
 p:Rc r.p
 a:∀k,r.a=↥k->k<c
 b:∀k,r.b=↥k->k<c
def LF(c:Nat)(b:↑Cs):Prop:=⇑b<=12/\∀r∈b,TZ c r
def jn{cs:↑Nat}(h:∀c∈cs,1<=c/\c<=4){k:Nat}(AR:k< ⇑cs):1<=cs.getD k 0/\cs.getD k 0<=4:=by have:=h (cs[k]) (Jm _);simpa[AR]using this
noncomputable def I4(z:Int):Nat:=if z%5=2 then 48 else if z%5=3 then 49 else 120
def ahA(z:Int):LX (I4 z):=by
 unfold I4 LX
 split
 .exact .inl rfl
 .split
  .exact .inr (.inl rfl)
  .exact .inr (.inr rfl)
def pt(q:Int)(Fg:Int->Nat):Nat->Int->Str×Int
 |0,y=>(AL "",y)
 |j+1,y=>((pt q Fg j y).1++(⟨#[Fg (pt q Fg j y).2]⟩:Str),(pt q Fg j y).2/q)
theorem fy(q:Int)(Fg:Int->Nat):∀j y,(pt q Fg j y).1.cps.toList.length=j
 |0,y=>by erw[pt];decide
 |j+1,y=>by erw[pt];rw[kT,EM,fy q Fg j y];rfl
theorem nH{q:Int}{Fg:Int->Nat}(ok:∀z,LX (Fg z)):∀j y,∀c∈(pt q Fg j y).1.cps.toList,LX c
 |0,y,c,h=>nomatch (show c∈([]:↑Nat)from h)
 |j+1,y,c,h=>by
  erw[pt]at h;rw[kT]at h;rcases List.mem_append.mp h with h|h
  .exact nH ok j y c h
  .rw[List.mem_singleton.mp h];exact ok _
def nG{q:Int}{Fg:Int->Nat}(ok:∀z,LX (Fg z))(y:Int):Rc (pt q Fg 4 y).1:=⟨fy q Fg 4 y,nH ok 4 y⟩
def nE(h:A6)(q:Int)(Fg:Int->Nat)(j:Nat)(Ar:j<1000)(y:Int):addW (.str (pt q Fg j y).1) (.str ⟨#[Fg (pt q Fg j y).2]⟩) h=.ok (.str (pt q Fg (j+1) y).1,h):=by refine vP h ?_;have AD:(pt q Fg j y).1.length=j:=fy q Fg j y;have AH:⇑(⟨#[Fg (pt q Fg j y).2]⟩:Str)=1:=rfl;rw[AD,AH];unfold Ay;lia
abbrev five:↑W:=[.str (AL "x"),.str (AL "x"),.str (AL "0"),.str (AL "1"),.str (AL "x")]
def aet(z:Int):∃k:Nat,z%5=(k:Int)/\five[k]?=↥(.str ⟨#[I4 z]⟩):=by
 have h:z%5=0\/z%5=1\/z%5=2\/z%5=3\/z%5=4:=δ
 unfold I4;rcases h with h|h|h|h|h<;>rw[h]
 .exact⟨0,rfl,rfl⟩
 .exact⟨1,rfl,rfl⟩
 .exact⟨2,rfl,rfl⟩
 .exact⟨3,rfl,rfl⟩
 .exact⟨4,rfl,rfl⟩
def rowOf(y:Int)(c:Nat):Cs:=⟨(pt 5 I4 4 y).1,if(pt 5 I4 4 y).2%3=0 then↥((pt 5 I4 4 y).2/3%(c:Int)).toNat else none,if(pt 5 I4 4 y).2/100%9=0 then none else↥((pt 5 I4 4 y).2/20%(c:Int)).toNat⟩
def bM(x:Int){c:Nat}(AI:1<=c):(x%(c:Int)).toNat<c/\(((x%(c:Int)).toNat:Nat):Int)=x%(c:Int):=by obtain⟨k,AR,e⟩:=Jx x (n:=c) δ;rw[e];simp[AR]
def afX(y:Int){c:Nat}(AI:1<=c):TZ c (rowOf y c):=by
 refine⟨nG ahA y,λk e=>?_,λk e=>?_⟩
 .erw[rowOf]at e
  split at e
  .cases e;exact(bM _ AI).1
  .cases e
 .erw[rowOf]at e
  split at e
  .cases e
  .cases e;exact(bM _ AI).1
def afY{cell y:Int}{k c:Nat}(DG:∀h,E3 [.int cell,.int k] h=.ok (.int y,h))(AI:1<=c)(Wf:c<=4)(h:A6):XS [.int cell,.int k,.int (c:Int)] h=.ok (EK (rowOf y c),h):=by
 apply Ends.done;obtain⟨z,G9⟩:∃z,z=(pt 5 I4 4 y).2:=ο
 have B1:=SI (mi:=Dg (A0 (pu (.int 4)) A2)) (g:=AC 5) (b:=AO (AZ (BJ (A1 addW XL (A1 A8 (BU (A0 (pu (.str (AL "x"))) (A0 (pu (.str (AL "x"))) (A0 (pu (.str (AL "0"))) (A0 (pu (.str (AL "1"))) (A0 (pu (.str (AL "x"))) A2)))))) (A1 BY Cl (pu (.int 5)))))) (AC 4)) (AZ (A1 Cq Cl (pu (.int 5))) (AC 3)))
  (ρ:=[↥(.int cell),↥(.int k),↥(.int c),↥(.int y),↥(.str (AL "")),none,none,none]) (h:=h) (h0:=h) 0 4 δ
  (λj ρ h'=>h'=h/\∃s5,ρ=[↥(.int cell),↥(.int k),↥(.int c),↥(.int (pt 5 I4 j y).2),↥(.str (pt 5 I4 j y).1),s5,none,none])
  (T:=λf h'=>h'=h/\∃s5,f=.AT [↥(.int cell),↥(.int k),↥(.int c),↥(.int z),↥(.str (pt 5 I4 4 y).1),s5,none,none])
  (LR (n:=4) γ δ) ⟨rfl,none,rfl⟩ ?_ ?_
 .obtain⟨f,h',C2,rfl,s5,rfl⟩:=B1.HM;erw[XS,Xi,cX,B2,Dr,J0,Bn,CJ,v_var,Bk,Wr,DC,I1,DV,FK,HT,NF,HU,VK,Gd,Da,ES,Cf,A3,if_true,DG,QS,R8,R4,NH,B9,LV,C2];have GX:=bM (z/3) AI;have GY:=bM (z/20) AI;have NB:(0:Int)<(c:Int):=δ
  by_cases BO:z%3=0<;>by_cases zM:z/100%9=0<;>simp[BO,zM,NB,show 0<c by lia,Ay,EK,rowOf,<-G9,DA,GX.2,GY.2]
 .rintro j _ _ Ar ⟨rfl,s5,rfl⟩;rename_i H1;refine⟨[↥(.int cell),↥(.int k),↥(.int c),↥(.int (pt 5 I4 j y).2),↥(.str (pt 5 I4 j y).1),ψ,none,none],H1,γ,?_⟩;obtain⟨p,Ao,ex⟩:=aet (pt 5 I4 j y).2;have EP:A8 (.ref ⇑H1) (.int (p:Int)) (H1++[⟨.lst,five⟩])=.ok (.str ⟨#[I4 (pt 5 I4 j y).2]⟩,H1++[⟨.lst,five⟩]):=E2 γ ex;erw[B2,Dr,FJ,BQ,JL,Bn,CJ,v_var,Bk,Da,ES,Cf,A3,Gu H1 (show⇑five<=Ay by simp[Ay]),Kb,show(0:Int)<5 by decide,if_true,Ao,EP,nE _ 5 I4 j δ y,XO H1 [⟨.lst,five⟩] (.str (pt 5 I4 (j+1) y).1) γ,QS,DV,FK,HU,R8,R4,NH,B9,N5];simp[pt]
 .rintro _ _ ⟨rfl,s5,rfl⟩;exact⟨rfl,s5,by rw[G9]⟩
noncomputable def HZ(z:Int):Nat:=if z%3=0 then 48 else if z%3=1 then 49 else 120
def ah9(z:Int):LX (HZ z):=by
 unfold HZ LX
 split
 .exact .inl rfl
 .split
  .exact .inr (.inl rfl)
  .exact .inr (.inr rfl)
def aes(h:A6)(z:Int):A8 (.str (AL "01x")) (.int (z%3)) h=.ok (.str ⟨#[HZ z]⟩,h):=by
 have e:z%3=0\/z%3=1\/z%3=2:=δ
 unfold HZ;rcases e with e|e|e<;>rw[e]<;>rfl
noncomputable def K6(c:Nat):↑W:=.non::(Cn c).map λi:Nat=>W.int (i:Int)
def choice{c:Nat}{h:A6}{n:Nat}(Au:h[n]?=↥⟨.lst,K6 c⟩)(y:Int):∃o:Option Nat,(∀k,o=↥k->k<c)/\A8 (.ref n) (.int (y%((c:Int)+1))) h=.ok (DA o,h):=by
 obtain⟨k,AR,e⟩:=Jx y (n:=c+1) δ;have e:y%((c:Int)+1)=(k:Int):=by rw[<-e];simp
 rw[e];cases k with
 |zero=>exact⟨none,(λ_ h=>nomatch h),E2 (k:=0) Au rfl⟩
 |succ k=>exact⟨↥k,(λj h=>by cases h;lia),E2 (k:=k+1) Au (by simp[K6,DA,show k<c by lia])⟩
def k9:Ak:=Ew (Dg (A0 (pu (.int 4)) A2)) (AC 7) (AO (AZ (A1 addW (I 6) (A1 A8 (pu (.str (AL "01x"))) (A1 BY π (pu (.int 3))))) (AC 6)) (AZ (A1 Cq π (pu (.int 3))) (AC 0)))
def fBody:Ak:=AO (AZ (pu (.str (AL ""))) (AC 6)) (AO k9
    (AO (Fy (DI EO ac (A0 (BX (A0 (I 6) (A0 (A1 A8 XL (A1 BY π (A1 addW Ψ ζ))) (A0 (A1 A8 XL (A1 BY (A1 Cq π (A1 addW Ψ ζ)) (A1 addW Ψ ζ))) A2)))) A2)))
    (AZ (A1 Cq (A1 Cq π (A1 addW Ψ ζ)) (A1 addW Ψ ζ)) (AC 0))))
noncomputable def Gi(z:Int)(c b m ch:Nat)(s5 s6 s7:Option W):BC:=[↥(.int z),↥(.int c),↥(.ref b),↥(.int m),↥(.ref ch),s5,s6,s7]
def y2(y:Int)(c b m ch:Nat)(s5 s7:Option W)(h:A6):∃XM,k9 (Gi y c b m ch s5 ↥(.str (AL "")) s7) h=.ok (.AT (Gi (pt 3 HZ 4 y).2 c b m ch s5 ↥(.str (pt 3 HZ 4 y).1) XM),h):=by
 have B1:=SI (mi:=Dg (A0 (pu (.int 4)) A2)) (g:=AC 7) (b:=AO (AZ (A1 addW (I 6) (A1 A8 (pu (.str (AL "01x"))) (A1 BY π (pu (.int 3))))) (AC 6)) (AZ (A1 Cq π (pu (.int 3))) (AC 0)))
  (ρ:=Gi y c b m ch s5 ↥(.str (AL "")) s7) (h:=h) (h0:=h) 0 4 δ
  (λj ρ h'=>h'=h/\∃s7,ρ=Gi (pt 3 HZ j y).2 c b m ch s5 ↥(.str (pt 3 HZ j y).1) s7)
  (T:=λf h'=>h'=h/\∃s7,f=.AT (Gi (pt 3 HZ 4 y).2 c b m ch s5 ↥(.str (pt 3 HZ 4 y).1) s7))
  (LR (n:=4) γ δ) ⟨rfl,s7,rfl⟩ ?_ ?_
 .obtain⟨f,h',C2,rfl,s,rfl⟩:=B1.HM;exact⟨s,C2⟩
 .rintro j _ H1 Ar ⟨EE,s,rfl⟩;subst EE;refine⟨Gi (pt 3 HZ j y).2 c b m ch s5 ↥(.str (pt 3 HZ j y).1) ψ,H1,by simp[Gi],?_⟩;erw[Gi,B2,Dr,BQ,v_var,Bk,Da,ES,Cf,A3,Kb,show(0:Int)<3 by decide,if_true,aes,nE _ 3 HZ j δ y,QS,DV,FK,HU,R8,R4,NH,B9,N5];simp[pt]
 .rintro _ H1 ⟨EE,s,rfl⟩;exact⟨EE,s,rfl⟩
def xg(y:Int){c:Nat}(AI:1<=c)(Wf:c<=4)(h:A6){m:Nat}(hm:m<13):∃(b:↑Cs)(ρ:BC),⇑b=m/\(∀r∈b,TZ c r)/\ρ[2]?=↥↥(.ref ⇑h)/\HM (Q_ (Dg (A0 Cl A2)) (AC 5) fBody (Gi (y/13) c ⇑h m (⇑h+1) none none none) (h++[⟨.lst,[]⟩,⟨.lst,K6 c⟩]))=.ok (.AT ρ,h++[⟨.lst,b.map EK⟩,⟨.lst,K6 c⟩]):=by
 have B1:=SI (mi:=Dg (A0 Cl A2)) (g:=AC 5) (b:=fBody) (ρ:=Gi (y/13) c ⇑h m (⇑h+1) none none none) (h:=h++[⟨.lst,[]⟩,⟨.lst,K6 c⟩]) (h0:=h++[⟨.lst,[]⟩,⟨.lst,K6 c⟩]) 0 m δ
  (λj ρ h'=>∃(z:Int)(b:↑Cs)(s5 s6 s7:Option W),⇑b=j/\(∀r∈b,TZ c r)/\ρ=Gi z c ⇑h m (⇑h+1) s5 s6 s7/\h'=h++[⟨.lst,b.map EK⟩,⟨.lst,K6 c⟩])
  (T:=λf h'=>∃(b:↑Cs)(ρ:BC),⇑b=m/\(∀r∈b,TZ c r)/\f=.AT ρ/\ρ[2]?=↥↥(.ref ⇑h)/\h'=h++[⟨.lst,b.map EK⟩,⟨.lst,K6 c⟩])
  (LR (n:=m) (by simp[Gi]) δ) ⟨_,[],_,_,_,rfl,(λ_ h=>nomatch h),rfl,rfl⟩ ?_ ?_
 .obtain⟨f,h',C2,b,ρ,AF,A5,rfl,AH,rfl⟩:=B1.HM;exact⟨b,ρ,AF,A5,AH,C2⟩
 .rintro j _ _ Ar ⟨z,b,s5,s6,s7,AF,A5,rfl,rfl⟩;obtain⟨H,CG⟩:∃H,H=h++[⟨.lst,b.map EK⟩,⟨.lst,K6 c⟩]:=ο;refine⟨Gi z c ⇑h m (⇑h+1) ψ s6 s7,H,by rw[CG];simp[Gi],?_⟩;have BE:H[⇑h]?=↥⟨.lst,b.map EK⟩:=by rw[CG];simp
  have ec:H[⇑h+1]?=↥⟨.lst,K6 c⟩:=by rw[CG];simp
  obtain⟨XM,Gj⟩:=y2 z c ⇑h m (⇑h+1) ψ s7 H;obtain⟨Fh,G9⟩:∃Fh,Fh=(pt 3 HZ 4 z).2:=ο;rw[<-G9]at Gj;obtain⟨D1,h1,AD⟩:=choice ec Fh;obtain⟨EG,h2,AH⟩:=choice ec (Fh/((c:Int)+1));have By:(0:Int)<(c:Int)+1:=δ
  have Cz:(0:Int)<(c:Int)+1/\(c:Int)+1<1073741824:=δ
  have s1:AZ (pu (.str (AL ""))) (AC 6) (Gi z c ⇑h m (⇑h+1) ψ s6 s7) H=.ok (.AT (Gi z c ⇑h m (⇑h+1) ψ ↥(.str (AL "")) s7),H):=rfl;have s3:DI EO ac (A0 (BX (A0 (I 6) (A0 (A1 A8 XL (A1 BY π (A1 addW Ψ ζ))) (A0 (A1 A8 XL (A1 BY (A1 Cq π (A1 addW Ψ ζ)) (A1 addW Ψ ζ))) A2)))) A2) (Gi Fh c ⇑h m (⇑h+1) ψ ↥(.str (pt 3 HZ 4 z).1) XM) H=.ok (.non,H.set ⇑h ⟨.lst,(b++[(⟨(pt 3 HZ 4 z).1,D1,EG⟩:Cs)]).map EK⟩):=
   JB (ws:=b.map EK) (ws2:=b.map EK) (us:=[EK (⟨(pt 3 HZ 4 z).1,D1,EG⟩:Cs)]) (h1:=H) (h2:=H) (by simp[Gi]) BE (by erw[Gi,Bn,QT,BQ,v_var,Bk,CJ,Da,ES,Cf,A3,N4,Kb,N5,if_pos By,if_pos Cz,AD,AH];simp[Ay,EK]) BE (by simp[EO]) (by simp[Ay];lia)
  have s5:AZ (A1 Cq (A1 Cq π (A1 addW Ψ ζ)) (A1 addW Ψ ζ)) (AC 0) (Gi Fh c ⇑h m (⇑h+1) ψ ↥(.str (pt 3 HZ 4 z).1) XM) (H.set ⇑h ⟨.lst,(b++[(⟨(pt 3 HZ 4 z).1,D1,EG⟩:Cs)]).map EK⟩)=.ok (.AT (Gi (Fh/((c:Int)+1)/((c:Int)+1)) c ⇑h m (⇑h+1) ψ ↥(.str (pt 3 HZ 4 z).1) XM),H.set ⇑h ⟨.lst,(b++[(⟨(pt 3 HZ 4 z).1,D1,EG⟩:Cs)]).map EK⟩):=by erw[Gi,Dr,BQ,v_var,Bk,Da,ES,Cf,A3,N4,N5,if_pos Cz,QS,DV,FK,HU,R8,if_true,NH]
  unfold fBody;erw[B2,s1,A3,B9,Gj,JK,s3,s5,VX,a3];refine⟨_,b++[(⟨(pt 3 HZ 4 z).1,D1,EG⟩:Cs)],_,_,_,by simp[AF],λr B6=>?_,rfl,by rw[CG];simp⟩;rcases List.mem_append.mp B6 with B6|B6
  .exact A5 r B6
  .rw[List.mem_singleton.mp B6];exact⟨nG ah9 z,h1,h2⟩
 .rintro ρ h' ⟨z,b,s5,s6,s7,AF,A5,rfl,rfl⟩;exact⟨b,_,AF,A5,rfl,rfl,rfl⟩
def adI{c:Nat}(AI:c<1000)(h:A6):P0 [.int (c:Int)] h=.ok (.ref ⇑h,h++[⟨.lst,(Cn c).map λi:Nat=>W.int (i:Int)⟩]):=by
 have l:⇑(H9 ((Cn c).map λi:Nat=>(i:Int)))<=Ay:=by simp[H9,Ay];lia
 have Cz:(c:Int)<=1000000:=δ
 have By: -(2^62)<=(c:Int)/\(c:Int)<=1000000:=⟨(oW AI).1,Cz⟩;erw[P0,if_pos By,R5];rw[Gu h l];simp[H9,Pe]
def xi(z:Int){c:Nat}(Wf:c<=4)(m:Nat)(h:A6):BJ (A1 addW (BU (A0 Ty A2)) (Aw P0 υ)) (Gi z c ⇑h m 0 none none none|>.set 4 none) (h++[⟨.lst,[]⟩])=.ok (.ref (⇑h+1),h++[⟨.lst,[]⟩,⟨.lst,K6 c⟩]):=by simp only[Gi,R4,NH,FJ,BQ,JL,Bn,CJ,Bk,A3,Gu (h++[⟨.lst,[]⟩]) (show⇑([.non]:↑W)<=Ay by simp[Ay]),GP,v_var,ES,Da,Cf,adI (show c<1000 by lia)];rw[Nv (a:=[.non]) (b:=(Cn c).map λi:Nat=>W.int (i:Int)) γ γ (by simp[Ay];lia)];erw[A3];rw[KD (ws:=K6 c) _ _ γ γ (by simp[K6]) (by simp[K6];exact H8 _ _ λa=>γ)];simp
def xh(y:Int){c:Nat}(AI:1<=c)(Wf:c<=4)(h:A6):∃b,LF c b/\UB [.int y,.int (c:Int)] h=.ok (.ref ⇑h,h++[⟨.lst,b.map EK⟩]):=by
 obtain⟨m,hm,em⟩:=Jx y (n:=13) ε;have em:y%13=(m:Int):=em;obtain⟨b,ρ,AF,A5,AH,C2⟩:=xg y AI Wf h hm;refine⟨b,⟨δ,A5⟩,?_⟩;have NB:(0:Int)<13:=δ
 have uZ:(0:Int)<13/\(13:Int)<1073741824:=δ
 have s1:AZ (BU A2) (AC 2) [↥(.int y),↥(.int (c:Int)),none,none,none,none,none,none] h=.ok (.AT [↥(.int y),↥(.int (c:Int)),χ,none,none,none,none,none],h++[⟨.lst,[]⟩]):=by erw[Dr,JL,CJ,A3,Gu h (show⇑([]:↑W)<=Ay by simp)];rfl
 have s2:AZ (A1 BY π (pu (.int 13))) (AC 3) [↥(.int y),↥(.int (c:Int)),χ,none,none,none,none,none] (h++[⟨.lst,[]⟩])=.ok (.AT [↥(.int y),↥(.int (c:Int)),χ,↥(.int (m:Int)),none,none,none,none],h++[⟨.lst,[]⟩]):=by erw[Dr,BQ,v_var,Bk,Da,Cf,A3,Kb,if_pos NB,em];rfl
 have s3:AZ (A1 Cq π (pu (.int 13))) (AC 0) [↥(.int y),↥(.int (c:Int)),χ,↥(.int (m:Int)),none,none,none,none] (h++[⟨.lst,[]⟩])=.ok (.AT [↥(.int (y/13)),↥(.int (c:Int)),χ,↥(.int (m:Int)),none,none,none,none],h++[⟨.lst,[]⟩]):=by erw[Dr,BQ,v_var,Bk,Da,Cf,A3,N5,if_pos uZ];rfl
 have s4:AZ (BJ (A1 addW (BU (A0 Ty A2)) (Aw P0 υ))) (AC 4) [↥(.int (y/13)),↥(.int (c:Int)),χ,↥(.int (m:Int)),none,none,none,none] (h++[⟨.lst,[]⟩])=.ok (.AT (Gi (y/13) c ⇑h m (⇑h+1) none none none),h++[⟨.lst,[]⟩,⟨.lst,K6 c⟩]):=by have:=xi (y/13) Wf m h;rw[Dr,show([↥(.int (y/13)),↥(.int (c:Int)),χ,↥(.int (m:Int)),none,none,none,none]:BC)=(Gi (y/13) c ⇑h m 0 none none none).set 4 none from rfl,this];rfl
 have e:UB [.int y,.int (c:Int)] h=((((AO (AZ (BU A2) (AC 2))
   (AO (AZ (A1 BY π (pu (.int 13))) (AC 3))
   (AO (AZ (A1 Cq π (pu (.int 13))) (AC 0))
   (AO (AZ (BJ (A1 addW (BU (A0 Ty A2)) (Aw P0 υ))) (AC 4))
   (AO (Ew (Dg (A0 Cl A2)) (AC 5) fBody) (B7 ac)))))) [↥(.int y),↥(.int (c:Int)),none,none,none,none,none,none] h).bind outF).bind λq=>settle h q.1 q.2):=rfl
 rw[e,B2,s1,A3,B9,B2,s2,A3,B9,B2,s3,A3,B9,B2,s4,A3,B9,B2,LV,C2,A3,B9,Gb,v_var,AH,Cf,A3,A3,IU,A3];exact Me h _ rfl (H8 _ _ m2)
def t5(i:Int)(h:A6):U7 [.int i] h=.ok Tm:=by have AD:EF "int" (.int i) h=.ok Tm:=rfl;have AH:EF "bool" (.int i) h=.ok (.AN false,h):=rfl;simp[U7,cR,AD,AH]
def Y4(f g:H0)(a b c:BB)(ρ:BC)(h:A6):OT f g a b c ρ h=(a ρ h).bind λp=>(b ρ p.2).bind λq=>(f p.1 q.1 q.2).bind λr=>NA (λk=>if k=true then bd c λz _ h=>g q.1 z h else pu (.AN false)) r.1 ρ r.2:=rfl
def Us(i a b:Int)(h:A6):Mz [.int i,.int a,.int b] h=.ok (.AN (decide (a<=i)&&decide (i<=b)),h):=by
 have e:=t5 i h;by_cases AG:a<=i
 .simp[Mz,Zy,e,Y4,NA,AG]
 .simp[Mz,Zy,e,Y4,NA,AG]
end FT
namespace Bq
theorem mapM_some{α β KI:Type}(f:α->Option β)(g:KI->α)(k:KI->β)(e:∀c,f (g c)=↥(k c)):∀l:↑KI,(l.map g).mapM f=↥(l.map k)
 |[]=>rfl
 |c::l=>by simp[e,mapM_some f g k e l]
def XG{h:A6}{n:Nat}{l:↑Int}(k:Nat)(e:h[n]?=↥⟨.lst,l.map W.int⟩):CD (k+1) h (.ref n)=↥(.CW false (l.map Ci.int)):=by have es:=GZ h e;erw[CD,es];rw[mapM_some (CD k h) W.int Ci.int (λc=>by cases k<;>rfl) l];rfl
def eq_nil{h:A6}{n m:Nat}{l:↑Int}(b:Bool)(e:h[n]?=↥⟨.lst,l.map W.int⟩)(Bb:h[m]?=↥⟨.lst,[]⟩):As b (.ref n) (.ref m) h=.ok (.AN (if b then l.isEmpty else !l.isEmpty),h):=by unfold As;rw[XG 7 e,XG (l:=[]) 7 Bb];cases l<;>simp[eqT,Gk]
end Bq
namespace FT
def FX(b:↑Cs):O:=⟨.lst,b.map EK⟩
noncomputable def Gv(a n:Nat):↑W:=(Cn n).map λi=>.ref (a+i)
def gE(a n:Nat):Gv a (n+1)=Gv a n++[.ref (a+n)]:=by simp[Gv,Z8]
def bl(a n:Nat):⇑(Gv a n)=n:=by simp[Gv]
noncomputable def YL:↑W:=[.int 1,.int 2,.int 3,.int 0,.int 2,.int 4,.int 12]
def aeu(z:Int):∃k m:Nat,z%7=(k:Int)/\YL[k]?=↥(.int (m:Int))/\m<=12:=by
 have h:z%7=0\/z%7=1\/z%7=2\/z%7=3\/z%7=4\/z%7=5\/z%7=6:=δ
 rcases h with h|h|h|h|h|h|h<;>rw[h]
 .exact⟨0,1,rfl,rfl,δ⟩
 .exact⟨1,2,rfl,rfl,δ⟩
 .exact⟨2,3,rfl,rfl,δ⟩
 .exact⟨3,0,rfl,rfl,δ⟩
 .exact⟨4,2,rfl,rfl,δ⟩
 .exact⟨5,4,rfl,rfl,δ⟩
 .exact⟨6,12,rfl,rfl,δ⟩
noncomputable def Dz(a n:Nat)(s:Int)(b:Nat)(s4 s5 s6:Option W):BC:=[↥(.ref a),Ξ,↥(.int s),↥(.ref b),s4,s5,s6]
def Zt:BB:=DZ 1 [5,1,4,2] (Dg (A0 (I 6) A2)) (AC 0) (pu true) (Aj 3 XS (A0 Ψ (A0 (A1 addW (A1 addW (pu (.int 4)) XL) (A1 K_ (pu (.int 3)) π)) (A0 (A1 A8 ac Cl) A2))))
def af_{cs:↑Nat}(Fl:∀c∈cs,1<=c/\c<=4){H:A6}{a n b j s m:Nat}{z:Int}(Au:H[n]?=↥⟨.lst,Bi cs⟩)(Ar:j< ⇑cs)(AQ:s<=1)(hm:m<=12) :
  ∃Ba,LF (cs.getD j 0) Ba/\Zt (Dz a n s b ψ ↥(.int z) ↥(.int (m:Int))) H=.ok (.ref ⇑H,H++[FX Ba]):=by
 have c:=jn Fl Ar;have ex:∀k:Nat,∃y:Int,k<=12->∀h,E3 [.int z,.int ((4+s+3*k:Nat):Int)] h=.ok (.int y,h):=λk=>by
  by_cases AR:k<=12
  .obtain⟨y,e⟩:=N2 z (4+s+3*k) δ;exact⟨y,λ_=>e⟩
  .exact⟨0,λh=>absurd h AR⟩
 refine⟨(Cn m).map λk=>rowOf (ex k).choose (cs.getD j 0),⟨(hm:),λr B6=>?_⟩,?_⟩
 .obtain⟨k,_,rfl⟩:=List.mem_map.mp B6;exact afX _ c.1
 .unfold Zt;rw[Vx (ρ:=Dz a n s b ψ ↥(.int z) ↥(.int (m:Int))) (h:=H) (h0:=H) 0 m (λk=>EK (rowOf (ex k).choose (cs.getD j 0))) δ (LR (n:=m) (by simp[Dz]) δ) (λk AR acc=>by
   have EP:A8 (.ref n) (.int (j:Int)) (H++[⟨.lst,acc⟩])=.ok (.int (cs.getD j 0:Nat),H++[⟨.lst,acc⟩]):=E2 (C6 H Au _) (VQ Ar);have e:=afY (ex k|>.choose_spec δ) c.1 c.2 (H++[⟨.lst,acc⟩]);have G7:LG 3 (k:Int):=.inl ε;have DN:(4:Int)+(s:Int)+3*(0+(k:Int))=((4+s+3*k:Nat):Int):=δ
   erw[Dz,DC,I1,List.getD_cons_succ,List.getD_cons_zero,J0,Bn,BQ,v_var,Bk,CJ,Da,ES,Cf,A3,N4,aeI,Int.zero_add,if_pos G7,EP];rw[show(4:Int)+(s:Int)+3*(k:Int)=((4+s+3*k:Nat):Int)by lia];erw[DV,FK,HU,if_true,e])]
  simp[FX,Pe]
def cm:Ak:=AO (AZ (A1 addW (I 5) (A1 K_ (pu (.int 3)) XL)) (AC 5))
    (AO (AZ (BJ (A1 A8 (BU (A0 ζ (A0 τ (A0 (pu (.int 3)) (A0 η (A0 τ (A0 (pu (.int 4)) (A0 (pu (.int 12)) A2)))))))) (A1 BY (Aj 2 E3 (A0 (I 5) (A0 (pu (.int 3)) A2))) (pu (.int 7))))) (AC 6))
    (Fy (DI EO Cl (A0 Zt A2))))
def cn:Ak:=Fy (DI EO Cl (A0 (Aj 2 UB (A0 (A1 BY (A1 Cq (I 5) τ) (A1 PM (pu (.int 10)) (pu (.int 60)))) (A0 (A1 A8 Ψ XL) A2))) A2))
def Zs:Ak:=AO (AZ (A1 addW (A1 addW (pu (.int 17)) (A1 K_ (pu (.int 5)) XL)) ac) (AC 5))
    (AO (Bp (HX (Aa (A1 (As false) π (BU A2)))) (AZ (A1 A8 π (A1 BY (A1 addW XL ac) (Aw BZ Γ))) (AC 5)) Bj)
    (Bp (HX (GN (Aa (A1 (As false) π (BU A2))) (Aa (A1 Φ (A1 BY (I 5) τ) ζ)))) cn cm))
def k7{cs:↑Nat}(Fl:∀c∈cs,1<=c/\c<=4){H:A6}{a n b j s:Nat}{z:Int}(Au:H[n]?=↥⟨.lst,Bi cs⟩)(Ar:j< ⇑cs)(AQ:s<=1){ws:↑W}(BE:H[b]?=↥⟨.lst,ws⟩)(lw:⇑ws<100)(s6:Option W):∃Ba fi fj,LF (cs.getD j 0) Ba/\cm (Dz a n s b ψ ↥(.int z) s6) H=.ok (.AT (Dz a n s b ψ fi fj),(H++[FX Ba]).set b ⟨.lst,ws++[.ref ⇑H]⟩):=by
 obtain⟨y,DG⟩:=N2 (z+3*(j:Int)) 3 δ;have DG:∀h,E3 [.int (z+3*(j:Int)),.int 3] h=.ok (.int y,h):=DG;obtain⟨k,m,DN,vh,hm⟩:=aeu y;obtain⟨Ba,A5,B5⟩:=af_ (a:=a) (b:=b) (z:=z+3*(j:Int)) Fl Au Ar AQ hm;refine⟨Ba,↥(.int (z+3*(j:Int))),↥(.int (m:Int)),A5,?_⟩;have G7:LG 3 (j:Int):=.inl ε;have EP:A8 (.ref ⇑H) (.int (k:Int)) (H++[⟨.lst,YL⟩])=.ok (.int (m:Int),H++[⟨.lst,YL⟩]):=E2 γ vh;have s1:AZ (A1 addW (I 5) (A1 K_ (pu (.int 3)) XL)) (AC 5) (Dz a n s b ψ ↥(.int z) s6) H=.ok (.AT (Dz a n s b ψ ↥(.int (z+3*(j:Int))) s6),H):=by simp[Dz,G7]
 have s2:AZ (BJ (A1 A8 (BU (A0 ζ (A0 τ (A0 (pu (.int 3)) (A0 η (A0 τ (A0 (pu (.int 4)) (A0 (pu (.int 12)) A2)))))))) (A1 BY (Aj 2 E3 (A0 (I 5) (A0 (pu (.int 3)) A2))) (pu (.int 7))))) (AC 6) (Dz a n s b ψ ↥(.int (z+3*(j:Int))) s6) H=.ok (.AT (Dz a n s b ψ ↥(.int (z+3*(j:Int))) ↥(.int (m:Int))),H):=by erw[YL]at EP;simp[Dz,nw,Ay,DG,DN,EP]
 have s3:DI EO Cl (A0 Zt A2) (Dz a n s b ψ ↥(.int (z+3*(j:Int))) ↥(.int (m:Int))) H=.ok (.non,(H++[FX Ba]).set b ⟨.lst,ws++[.ref ⇑H]⟩):=
  JB (ws:=ws) (ws2:=ws) (us:=[.ref ⇑H]) (h1:=H) (h2:=H++[FX Ba]) (by simp[Dz]) BE (by rw[Bn,B5];rfl) (C6 H BE _) (by simp[EO]) (by simp[Ay];lia)
 unfold cm;rw[B2,s1,A3,B9,B2,s2,A3,B9,JK,s3,A3]
def aeJ{cs:↑Nat}(Fl:∀c∈cs,1<=c/\c<=4){H:A6}{a n b j s:Nat}{z:Int}(Au:H[n]?=↥⟨.lst,Bi cs⟩)(Ar:j< ⇑cs)(AQ:s<=1){ws:↑W}(BE:H[b]?=↥⟨.lst,ws⟩)(lw:⇑ws<100)(s6:Option W):∃Ba,LF (cs.getD j 0) Ba/\cn (Dz a n s b ψ ↥(.int z) s6) H=.ok (.AT (Dz a n s b ψ ↥(.int z) s6),(H++[FX Ba]).set b ⟨.lst,ws++[.ref ⇑H]⟩):=by
 have c:=jn Fl Ar;obtain⟨N,hN⟩:∃N:Int,z/2%1000000000000000000000000000000000000000000000000000000000000=N:=ο;obtain⟨Ba,A5,C2⟩:=xh N c.1 c.2 H;have EP:A8 (.ref n) (.int (j:Int)) H=.ok (.int (cs.getD j 0:Nat),H):=E2 Au (VQ Ar);refine⟨Ba,A5,?_⟩;have s3:DI EO Cl (A0 (Aj 2 UB (A0 (A1 BY (A1 Cq (I 5) τ) (A1 PM (pu (.int 10)) (pu (.int 60)))) (A0 (A1 A8 Ψ XL) A2))) A2) (Dz a n s b ψ ↥(.int z) s6) H=.ok (.non,(H++[FX Ba]).set b ⟨.lst,ws++[.ref ⇑H]⟩):=
  JB (ws:=ws) (ws2:=ws) (us:=[.ref ⇑H]) (h1:=H) (h2:=H++[FX Ba]) (by simp[Dz]) BE (by simp[Dz,bB,hN,EP,C2,FX,-Ef]) (C6 H BE _) (by simp[EO]) (by simp[Ay];lia)
 unfold cn;rw[JK,s3,A3]
def uo{cs:↑Nat}(Fl:∀c∈cs,1<=c/\c<=4){H:A6}{a n b j s:Nat}(Au:H[n]?=↥⟨.lst,Bi cs⟩)(Ar:j< ⇑cs)(AQ:s<=1){ws:↑W}(BE:H[b]?=↥⟨.lst,ws⟩)(lw:⇑ws<100){l:↑Int}(BS:H[a]?=↥⟨.lst,BI l⟩)(s5 s6:Option W):∃Ba fi fj,LF (cs.getD j 0) Ba/\Zs (Dz a n s b ψ s5 s6) H=.ok (.AT (Dz a n s b ψ fi fj),(H++[FX Ba]).set b ⟨.lst,ws++[.ref ⇑H]⟩):=by
 have Vq:LG 5 (j:Int):=.inl ε;have s1:AZ (A1 addW (A1 addW (pu (.int 17)) (A1 K_ (pu (.int 5)) XL)) ac) (AC 5) (Dz a n s b ψ s5 s6) H=.ok (.AT (Dz a n s b ψ ↥(.int (17+5*(j:Int)+s)) s6),H):=by simp[Dz,Vq]
 have q:As false (.ref a) (.ref ⇑H) (H++[⟨.lst,[]⟩])=.ok (.AN (!l.isEmpty),H++[⟨.lst,[]⟩]):=eq_nil false (C6 H BS _) γ;unfold Zs;rw[B2,s1,A3,B9];cases l with
 |nil=>
  obtain⟨Ba,Mf,Kh,A5,e⟩:=k7 (a:=a) (z:=17+5*(j:Int)+s) Fl Au Ar AQ BE lw s6;refine⟨Ba,Mf,Kh,A5,?_⟩;have t1:HX (Aa (A1 (As false) π (BU A2))) (Dz a n s b ψ ↥(.int (17+5*(j:Int)+s)) s6) H=.ok (false,H):=by simp[Dz,nw,q]
  have CK:HX (GN (Aa (A1 (As false) π (BU A2))) (Aa (A1 Φ (A1 BY (I 5) τ) ζ))) (Dz a n s b ψ ↥(.int (17+5*(j:Int)+s)) s6) H=.ok (false,H):=by simp[Dz,nw,q]
  rw[B2,E6,t1,A3,if_neg γ,GQ,A3,B9,E6,CK,A3,if_neg γ,e]
 |cons x l=>
  obtain⟨k,AR,DN⟩:=Jx ((j:Int)+s) (n:=⇑(x::l)) γ;have EP:A8 (.ref a) (.int (k:Int)) H=.ok (.int (x::l)[k],H):=E2 BS (by erw[BI];rw[E7,CT AR];rfl);obtain⟨v,ev⟩:∃v,v=(x::l)[k]:=ο;rw[<-ev]at EP;have t1:HX (Aa (A1 (As false) π (BU A2))) (Dz a n s b ψ ↥(.int (17+5*(j:Int)+s)) s6) H=.ok (true,H):=by simp[Dz,nw,q]
  have xH:((j:Int)+s)%(⇑(BI (x::l)):Int)=(k:Int):=by rw[<-DN];simp[BI]
  have B1:(0:Int)<(⇑(BI (x::l)):Int):=by erw[BI,Ch,DV];lia
  have s2:AZ (A1 A8 π (A1 BY (A1 addW XL ac) (Aw BZ Γ))) (AC 5) (Dz a n s b ψ ↥(.int (17+5*(j:Int)+s)) s6) H=.ok (.AT (Dz a n s b ψ ↥(.int v) s6),H):=by erw[Dz,Dr,BQ,GP,Bn,CJ,v_var,Da,ES,Cf,A3,N4,H7 BS,Kb,if_pos B1,xH,EP];rfl
  rw[B2,E6,t1,A3,if_pos rfl,s2,A3,B9,E6];by_cases ho:v%2=1
  .obtain⟨Ba,A5,e⟩:=aeJ (a:=a) (z:=v) Fl Au Ar AQ BE lw s6;refine⟨Ba,↥(.int v),s6,A5,?_⟩;have CK:HX (GN (Aa (A1 (As false) π (BU A2))) (Aa (A1 Φ (A1 BY (I 5) τ) ζ))) (Dz a n s b ψ ↥(.int v) s6) H=.ok (true,H):=by
    simp[Dz,nw,q,ho]
   rw[CK,A3,if_pos rfl,e]
  .obtain⟨Ba,Mf,Kh,A5,e⟩:=k7 (a:=a) (z:=v) Fl Au Ar AQ BE lw s6;refine⟨Ba,Mf,Kh,A5,?_⟩;have CK:HX (GN (Aa (A1 (As false) π (BU A2))) (Aa (A1 Φ (A1 BY (I 5) τ) ζ))) (Dz a n s b ψ ↥(.int v) s6) H=.ok (false,H):=by
    simp[Dz,nw,q,ho]
   rw[CK,A3,if_neg γ,e]
def zC{α:Type}{l r:↑α}{d:α}{i:Nat}(h:i< ⇑l):(l++r).getD i d=l.getD i d:=by rw[Ef,GR h,<-Ef]
def zD{α:Type}{l:↑α}{x d:α}:(l++[x]).getD ⇑l d=x:=by rw[Ef];simp
def ag0{a n i:Nat}(h:i<n):(Gv a n)[i]?=↥(.ref (a+i)):=by simp[Gv,h]
structure Db(h:A6)(n:Nat)(B:↑↑Cs):Prop where
 ex:∃rs:↑Nat,h[n]?=↥⟨.lst,rs.map W.ref⟩/\ ⇑rs=⇑B/\∀(i r:Nat),rs[i]?=↥r->h[r]?=↥(FX (B.getD i []))
def HC(cs:↑Nat)(B:↑↑Cs):Prop:=⇑B=⇑cs/\∀i,i< ⇑cs->LF (cs.getD i 0) (B.getD i [])
def jL{cs:↑Nat}(h1:1<=⇑cs)(Fa:⇑cs<=6)(Fl:∀c∈cs,1<=c/\c<=4){h:A6}{a n s:Nat}{l:↑Int}(AQ:s<=1)(Au:h[n]?=↥⟨.lst,Bi cs⟩)(BS:h[a]?=↥⟨.lst,BI l⟩) :
  ∃B,HC cs B/\N0 [.ref a,.ref n,.int s] h=.ok (.ref ⇑h,h++(⟨.lst,Gv (⇑h+1) ⇑cs⟩::B.map FX)):=by
 have lcs:⇑(Bi cs)=⇑cs:=by simp[Bi]
 have B1:=SI (mi:=Dg (A0 (Aw BZ υ) A2)) (g:=AC 4) (b:=Zs) (ρ:=Dz a n s ⇑h none none none) (h:=h++[⟨.lst,[]⟩]) (h0:=h++[⟨.lst,[]⟩]) 0 ⇑cs δ
  (λj ρ h'=>∃B s4 s5 s6,⇑B=j/\(∀i,i<j->LF (cs.getD i 0) (B.getD i []))/\ρ=Dz a n s ⇑h s4 s5 s6/\h'=h++(⟨.lst,Gv (⇑h+1) j⟩::B.map FX))
  (T:=λf h'=>∃B s4 s5 s6,HC cs B/\f=.AT (Dz a n s ⇑h s4 s5 s6)/\h'=h++(⟨.lst,Gv (⇑h+1) ⇑cs⟩::B.map FX))
  (LR (n:=⇑cs) (by simp[Dz,H7 (C6 h Au _),lcs]) δ) ⟨[],none,none,none,rfl,λi hi=>δ,rfl,by simp[Gv]⟩ ?_ ?_
 .obtain⟨f,h',C2,B,s4,s5,s6,GV,rfl,rfl⟩:=B1.HM;refine⟨B,GV,?_⟩;have e:N0 [.ref a,.ref n,.int s] h=(AO (AZ (BU A2) (AC 3)) (AO (Ew (Dg (A0 (Aw BZ υ) A2)) (AC 4) Zs) (B7 Cl)) [↥(.ref a),Ξ,↥(.int s),none,none,none,none] h).bind outF:=rfl;have s1:AZ (BU A2) (AC 3) [↥(.ref a),Ξ,↥(.int s),none,none,none,none] h=.ok (.AT (Dz a n s ⇑h none none none),h++[⟨.lst,[]⟩]):=by
   erw[Dr,JL,CJ,A3,Gu h (show⇑([]:↑W)<=Ay by simp)];rfl
  rw[e,B2,s1,A3,B9,B2,LV,C2,A3,B9];rfl
 .rintro j _ _ Ar ⟨B,s4,s5,s6,AF,GV,rfl,rfl⟩;obtain⟨H,CG⟩:∃H,H=h++(⟨.lst,Gv (⇑h+1) j⟩::B.map FX):=ο;have Ly:⇑H=⇑h+1+j:=by rw[CG];simp[AF];lia
  refine⟨Dz a n s ⇑h ψ s5 s6,H,by rw[CG];simp[Dz],?_⟩;obtain⟨Ba,Mf,Kh,A5,e⟩:=uo (H:=H) (a:=a) (n:=n) (l:=l) (b:=⇑h) Fl (by rw[CG];exact C6 h Au _) Ar AQ (ws:=Gv (⇑h+1) j) (by rw[CG];simp) (by rw[bl];lia) (by rw[CG];exact C6 h BS _) s5 s6;refine⟨_,_,e,B++[Ba],_,Mf,Kh,by simp[AF],λi hi=>?_,rfl,?_⟩
  .by_cases QM:i<j
   .rw[zC δ];exact GV i QM
   .have:i=j:=δ
    subst this;rw[<-AF,zD];rw[AF];exact A5
  .rw[Ly,CG,ET,TQ];simp[gE]
 .rintro _ _ ⟨B,s4,s5,s6,AF,GV,rfl,rfl⟩;exact⟨B,s4,s5,s6,⟨AF,GV⟩,rfl,rfl⟩
def Db.more{h:A6}{n:Nat}{B:↑↑Cs}(b:Db h n B)(g:A6):Db (h++g) n B:=by obtain⟨rs,e,l,r⟩:=b.ex;exact⟨rs,C6 h e g,l,λi q AW=>C6 h (r i q AW) g⟩
def eE{B:↑↑Cs}{m:Nat}(AF:⇑B=m)(h:A6):Db (h++(⟨.lst,Gv (⇑h+1) m⟩::B.map FX)) ⇑h B:=by
 refine⟨(Cn m).map λi=>⇑h+1+i,by simp[Gv,Pe],by simp[AF],λi r e=>?_⟩;rw[E7]at e;by_cases hi:i<m
 .rw[Sk hi]at e;cases e;show(h++_)[⇑h+1+i]?=_;rw[show⇑h+1+i=⇑h+(i+1)by lia,Im];simp[Ef,show i< ⇑B by lia]
 .rw[Jl (hi:)]at e;cases e
def eM(ns:↑Int)(lo hi:Option Int):∃l,He (BI ns) lo hi=BI l:=by unfold He BI;exact⟨_,by rw[<-iV,<-VL]⟩
def kW(ws:↑W)(lo hi:Option Int):⇑(He ws lo hi)<=⇑ws:=by unfold He;simp;lia
@[simp] theorem bN(ns:↑Int):G1 (BI ns)=true:=H8 _ _ λa=>γ
def NC(m:BB)(lo hi:RX)(ρ:BC)(h:A6):D9 m lo hi ρ h=(m ρ h).bind λp=>(lo ρ p.2).bind λl=>(hi ρ l.2).bind λu=>MJ p.1 l.1 u.1 ρ u.2:=rfl
def Xj(i:Int)(ρ:BC)(h:A6):CC (pu (.int i)) ρ h=.ok (↥i,h):=rfl
def kX{ns:↑Int}(AF:⇑ns<=63)(h:A6)(lo:Option Int)(hi:Option Int)(ρ:BC):∃l:↑Int,⇑l<=63/\MJ (.Dm (BI ns)) lo hi ρ h=.ok (.ref ⇑h,h++[⟨.lst,BI l⟩]):=by
 obtain⟨l,e⟩:=eM ns lo hi;have:=kW (BI ns) lo hi;rw[e]at this;have Le:⇑l<=63:=by simp[BI]at this;lia
 refine⟨l,Le,?_⟩;unfold MJ;rw[YP];dsimp only;rw[e,Gu h (by simp[BI,Ay];lia)]
def bT:Ak:=Bp (Aa (A1 Φ (A1 BY (Aj 2 E3 (A0 (Aj 2 M1 (A0 π (A0 ζ A2))) (A0 XL A2))) (pu (.int 4))) η)) (AZ (Aw Dn (A0 (A1 A8 ac XL) A2)) (TM Cl XL)) Bj
noncomputable def Kp(ns:↑Int)(n a b:Nat)(s4:Option W):BC:=[↥(.Dm (BI ns)),Ξ,↥(.ref a),↥(.ref b),s4]
def aaf{m k:Nat}(h:k<m):Lv m (k:Int)=↥k:=by unfold Lv;simp[h]
def vB{ns:↑Int}(AF:⇑ns<=63){cs:↑Nat}(h1:1<=⇑cs)(Fa:⇑cs<=6)(Fl:∀c∈cs,1<=c/\c<=4){h:A6}{n:Nat}(Au:h[n]?=↥⟨.lst,Bi cs⟩) :
  ∃a b g A B,HC cs A/\HC cs B/\Db (h++g) a A/\Db (h++g) b B/\WV [.Dm (BI ns),.ref n] h=.ok (.tup [.ref a,.ref b],h++g):=by
 have lcs:⇑(Bi cs)=⇑cs:=by simp[Bi]
 obtain⟨Cp,fJ,By⟩:=kX AF h ↥2 ↥9 [↥(.Dm (BI ns)),Ξ,none,none,none];obtain⟨A,H6,L_⟩:=jL h1 Fa Fl (s:=0) δ (C6 h Au ([⟨.lst,BI Cp⟩]:A6)) (a:=⇑h) (l:=Cp) γ;obtain⟨H1,q1⟩:∃H1,H1=(h++([⟨.lst,BI Cp⟩]:A6))++(⟨.lst,Gv (⇑(h++([⟨.lst,BI Cp⟩]:A6))+1) ⇑cs⟩::A.map FX):=ο;have Ec:h<+: H1:=by rw[q1,ET];exact Ez _ _
 have Kv:Db H1 ⇑(h++([⟨.lst,BI Cp⟩]:A6)) A:=by rw[q1];exact eE H6.1 _
 rw[<-q1]at L_;obtain⟨Ck,QN,Cz⟩:=kX AF H1 ↥9 ↥16 [↥(.Dm (BI ns)),Ξ,↥(.ref ⇑(h++([⟨.lst,BI Cp⟩]:A6))),none,none];obtain⟨B,GV,QG⟩:=jL h1 Fa Fl (s:=1) δ (C6 H1 (Cx Ec Au) [⟨.lst,BI Ck⟩]) (a:=⇑H1) (l:=Ck) γ;obtain⟨AU,q2⟩:∃AU,AU=(H1++([⟨.lst,BI Ck⟩]:A6))++(⟨.lst,Gv (⇑(H1++([⟨.lst,BI Ck⟩]:A6))+1) ⇑cs⟩::B.map FX):=ο;have D2:H1<+: AU:=by rw[q2,ET];exact Ez _ _
 have vg:Db AU ⇑(h++([⟨.lst,BI Cp⟩]:A6)) A:=by rw[q2,ET];exact Kv.more _
 have MC:Db AU ⇑(H1++([⟨.lst,BI Ck⟩]:A6)) B:=by rw[q2];exact eE GV.1 _
 rw[<-q2]at QG;obtain⟨a,BS⟩:∃a,a=⇑(h++([⟨.lst,BI Cp⟩]:A6)):=ο;obtain⟨b,BE⟩:∃b,b=⇑(H1++([⟨.lst,BI Ck⟩]:A6)):=ο;rw[<-BS]at L_ Kv vg Cz;rw[<-BE]at QG MC;have JZ:⇑H1<=b:=by rw[BE];simp
 have B1:=SI (mi:=Dg (A0 (Aw BZ υ) A2)) (g:=AC 4) (b:=bT) (ρ:=Kp ns n a b none) (h:=AU) (h0:=AU) 0 ⇑cs δ
  (λj ρ h'=>∃C s4,HC cs C/\ρ=Kp ns n a b s4/\H1<+: h'/\Db h' b C)
  (T:=λf h'=>∃C s4,HC cs C/\f=.AT (Kp ns n a b s4)/\H1<+: h'/\Db h' b C)
  (LR (n:=⇑cs) (by simp[Kp,H7 (Cx D2 (Cx Ec Au)),lcs]) δ) ⟨B,none,GV,rfl,D2,MC⟩ ?_ ?_
 .obtain⟨f,h',C2,C,s4,JX,rfl,Ht,Te⟩:=B1.HM;obtain⟨g,rfl⟩:=Ec.trans Ht;obtain⟨g3,DT⟩:=Ht;refine⟨a,b,g,A,C,H6,JX,by rw[<-DT];exact Kv.more _,Te,?_⟩
  have e:WV [.Dm (BI ns),.ref n] h=(AO (AZ (Aj 3 N0 (A0 (BJ (D9 π (CC τ) (CC (pu (.int 9))))) (A0 Ψ (A0 η A2)))) (AC 2))
   (AO (AZ (Aj 3 N0 (A0 (BJ (D9 π (CC (pu (.int 9))) (CC (pu (.int 16))))) (A0 Ψ (A0 ζ A2)))) (AC 3))
   (AO (Ew (Dg (A0 (Aw BZ υ) A2)) (AC 4) bT) (B7 (BX (A0 ac (A0 Cl A2)))))) [↥(.Dm (BI ns)),Ξ,none,none,none] h).bind outF:=rfl
  have vj:N0 [.ref ⇑h,.ref n,.int 0] (h++([⟨.lst,BI Cp⟩]:A6))=.ok (.ref a,H1):=L_;have vk:N0 [.ref ⇑H1,.ref n,.int 1] (H1++([⟨.lst,BI Ck⟩]:A6))=.ok (.ref b,AU):=QG;have s1:AZ (Aj 3 N0 (A0 (BJ (D9 π (CC τ) (CC (pu (.int 9))))) (A0 Ψ (A0 η A2)))) (AC 2) [↥(.Dm (BI ns)),Ξ,none,none,none] h=.ok (.AT [↥(.Dm (BI ns)),Ξ,↥(.ref a),none,none],H1):=by erw[Dr,J0,Bn,FJ,NC,Xj,v_var,Bk,CJ,Da,ES,Cf,A3,By,Me h [⟨.lst,BI Cp⟩] rfl (bN Cp),DV,FK,HU,if_true,vj];rfl
  have s2:AZ (Aj 3 N0 (A0 (BJ (D9 π (CC (pu (.int 9))) (CC (pu (.int 16))))) (A0 Ψ (A0 ζ A2)))) (AC 3) [↥(.Dm (BI ns)),Ξ,↥(.ref a),none,none] H1=.ok (.AT (Kp ns n a b none),AU):=by erw[Dr,J0,Bn,FJ,NC,Xj,v_var,Bk,CJ,Da,ES,Cf,A3,Cz,Me H1 [⟨.lst,BI Ck⟩] rfl (bN Ck),DV,FK,HU,if_true,vk];rfl
  rw[e,B2,s1,A3,B9,B2,s2,A3,B9,B2,LV,C2,A3,B9];rfl
 .rintro j _ H Ar ⟨C,s4,JX,rfl,Ht,Te⟩;refine⟨Kp ns n a b ψ,H,by simp[Kp],?_⟩;obtain⟨c,ec⟩:=iu H ns 1;have ec:M1 [.Dm (BI ns),.int 1] H=.ok (.int c,H):=ec;obtain⟨y,DG⟩:=N2 c j δ;by_cases D5:y%4=0
  .obtain⟨BN,AD,Gr,ga⟩:=Kv.ex;obtain⟨rb,AH,n6,zB⟩:=Te.ex;have l1:j< ⇑BN:=by rw[Gr,H6.1];exact Ar
   have U_:j< ⇑rb:=by rw[n6,JX.1];exact Ar
   have f1:=Cx Ht AD;have f2:=Cx Ht (ga j BN[j] (CT l1));have EP:A8 (.ref a) (.int (j:Int)) H=.ok (.ref BN[j],H):=E2 f1 (by rw[E7,CT l1];rfl);have AN:⇑((A.getD j []).map EK)<=Ay:=by have:=(H6.2 j Ar).1;rw[Ch];unfold Ay;lia
   have ls:Dn [.ref BN[j]] H=.ok (.ref ⇑H,H++[FX (A.getD j [])]):=by unfold Dn;erw[GZ H f2];exact Gu H AN
   have Ly:b< ⇑H:=Eu AH;refine⟨.AT (Kp ns n a b ψ),(H++[FX (A.getD j [])]).set b ⟨.lst,(rb.set j ⇑H).map W.ref⟩,?_,C.set j (A.getD j []),_,⟨by simp[JX.1],λi hi=>?_⟩,rfl,XF (GE Ht _) JZ _,⟨rb.set j ⇑H,IY (C6 H AH _),by simp[n6],λi r B5=>?_⟩⟩
   .unfold bT;have wH:=C6 H AH [FX (A.getD j [])];have t:Aa (A1 Φ (A1 BY (Aj 2 E3 (A0 (Aj 2 M1 (A0 π (A0 ζ A2))) (A0 XL A2))) (pu (.int 4))) η) (Kp ns n a b ψ) H=.ok (true,H):=by
     simp[Kp,ec,DG,D5]
    rw[E6,t,A3,if_pos rfl];erw[Kp,Dr,GP,Bn,BQ,v_var,CJ,Da,ES,Cf,A3,EP,ls,TM,I_,bC,P1 _ wH,Ch,aaf U_,List.map_set]
   .by_cases QM:j=i
    .subst QM;have:(C.set j (A.getD j [])).getD j []=A.getD j []:=by
      rw[Ef,L3 (by rw[JX.1];exact Ar)];rfl
     rw[this];exact H6.2 j Ar
    .have:(C.set j (A.getD j [])).getD i []=C.getD i []:=by
       rw[Ef,MR QM,<-Ef]
     rw[this];exact JX.2 i hi
   .by_cases QM:j=i
    .subst QM;rw[L3 U_]at B5;cases B5;have:(C.set j (A.getD j [])).getD j []=A.getD j []:=by
      rw[Ef,L3 (by rw[JX.1];exact Ar)];rfl
     rw[this,EL δ];simp
    .rw[MR QM]at B5;have:(C.set j (A.getD j [])).getD i []=C.getD i []:=by
      rw[Ef,MR QM,<-Ef]
     have g:=zB i r B5;have nb:b≠r:=by
      intro z;subst z;rw[AH]at g;have g1:rb.map W.ref=(C.getD i []).map EK:=congrArg O.ws (Gc g);obtain⟨x,r,ex⟩:=List.exists_cons_of_length_pos (show 0< ⇑rb by lia);rw[ex]at g1;cases eq:C.getD i []with
      |nil=>rw[eq]at g1;cases g1
      |cons y s=>rw[eq]at g1;cases(List.cons.inj g1).1
     rw[this,EL nb];exact C6 H g _
  .refine⟨.AT (Kp ns n a b ψ),H,?_,C,_,JX,rfl,Ht,Te⟩;unfold bT;have t:Aa (A1 Φ (A1 BY (Aj 2 E3 (A0 (Aj 2 M1 (A0 π (A0 ζ A2))) (A0 XL A2))) (pu (.int 4))) η) (Kp ns n a b ψ) H=.ok (false,H):=by
    simp[Kp,ec,DG,D5]
   rw[E6,t,A3,if_neg γ];rfl
 .rintro _ h' ⟨C,s4,JX,rfl,Ht,Te⟩;exact⟨C,s4,JX,rfl,Ht,Te⟩
end FT
namespace Bq
theorem eG{α:Type}(p:α->Bool):∀l:↑α,bools (l.map λa=>W.AN (p a))=↥(l.map p)
 |[]=>rfl
 |a::l=>by simp[bools,eG p l]
def cb{mi:GT}{it:HF}{g:DM}{e:BB}{ρ:BC}{h:A6}{nl:Nat}{caps:↑Nat}(ws:↑W)(p:W->Bool)(BH:BC->Prop)(AF:⇑ws<1000)(hi:mi ρ h=.ok (it,h))(Eo:BH (QC nl caps ρ))(hit:∀j acc,j<=⇑ws->it j (h++[⟨.lst,acc⟩])=↥ws[j]?)(Do:∀w∈ws,∀ρ acc,BH ρ->∃CS,g w ρ (h++[⟨.lst,acc⟩])=.ok (.AT CS,h++[⟨.lst,acc⟩])/\BH CS/\e CS (h++[⟨.lst,acc⟩])=.ok (.AN (p w),h++[⟨.lst,acc⟩])) :
  Aw (IV true) (A0 (DZ nl caps mi g (pu true) e) A2) ρ h=.ok (.AN (ws.all p),h++[⟨.lst,ws.map λw=>.AN (p w)⟩]):=by
 have c:=Vw (mi:=mi) (it:=it) (g:=g) (t:=pu true) (e:=e) (ρ:=ρ) (h:=h) (h0:=h) (nl:=nl) (caps:=caps) ws (λ_=>true) (λw=>.AN (p w)) BH AF hi Eo hit λw hw ρ acc j=>by obtain⟨CS,AD,J8,AH⟩:=Do w hw ρ acc j;exact⟨CS,AD,J8,rfl,λ_=>AH⟩
 rw[List.filter_eq_self.mpr (λ_ _=>rfl)]at c;have q:E5 (h++[⟨.lst,ws.map λw=>W.AN (p w)⟩]) (.ref ⇑h)=↥(false,ws.map λw=>W.AN (p w)):=GZ _ γ;erw[GP,Bn,CJ,c,A3,IV,q,eG p ws,if_true];rw[OI];rfl
def Y8{mi:GT}{it:HF}{g:DM}{e:BB}{ρ:BC}{h:A6}{nl:Nat}{caps:↑Nat}(ws:↑W)(BH:BC->Prop)(AF:⇑ws<1000)(hi:mi ρ h=.ok (it,h))(Eo:BH (QC nl caps ρ))(hit:∀j acc,j<=⇑ws->it j (h++[⟨.lst,acc⟩])=↥ws[j]?)(Do:∀w∈ws,∀ρ acc,BH ρ->∃CS,g w ρ (h++[⟨.lst,acc⟩])=.ok (.AT CS,h++[⟨.lst,acc⟩])/\BH CS/\e CS (h++[⟨.lst,acc⟩])=.ok (.AN true,h++[⟨.lst,acc⟩])) :
  BJ (Aw (IV true) (A0 (DZ nl caps mi g (pu true) e) A2)) ρ h=.ok Tm:=by
 rw[FJ,cb ws (λ_=>true) BH AF hi Eo hit Do,List.all_eq_true.mpr (λ_ _=>rfl)];simp
def agm{x:Str}{j:Nat}(h:A6)(Ar:j<=⇑x.cps.toList):SF x j h=↥(x.cps.toList.map λc=>W.str ⟨#[c]⟩)[j]?:=by
 unfold SF;rw[R1]at Ar;by_cases e:j=x.cps.size
 .rw[if_pos e,E7,Jl (by simp;lia)];rfl
 .rw[if_neg e,E7,Z3];have:j<x.cps.size:=δ
  rw[Lj this];rfl
def Wq{h:A6}{x y:W}{d:Ci}{t:Bool}{ds:↑Ci}(AP:Ho h y x=none)(AD:CD 7 h x=↥d)(AH:CD 8 h y=↥(.CW t ds))(b:Bool):E1 b x y h=.ok (.AN (if b then ds.any (λy=>eqT y d)else !ds.any λy=>eqT y d),h):=by unfold E1;rw[AP];unfold bn;rw[AD,AH]
end Bq
namespace FT
def ahE{c:Nat}(s:LX c)(h:A6):E1 true (.str ⟨#[c]⟩) RJ h=.ok Tm:=by rw[Wq (d:=.str ⟨#[c]⟩) (t:=true) (ds:=[.str (AL "0"),.str (AL "1"),.str (AL "x")]) rfl (by simp[CD]) (by simp[RJ,CD,E5])];rcases s with rfl|rfl|rfl<;>rfl
def str_len(x:Str):⇑x=⇑x.cps.toList:=rfl
def nS{x:Str}(p:Rc x)(h:A6):W3 [.str x] h=.ok Tm:=by
 have a:=Y8 (mi:=D_ π) (it:=SF x) (g:=AC 0) (e:=A1 (E1 true) π (pu RJ)) (ρ:=[↥(.str x)]) (h:=h) (nl:=1) (caps:=[]) (x.cps.toList.map λc=>W.str ⟨#[c]⟩) (λρ=>∃s,ρ=[s]) (by rw[Ch,p.l];lia) (by simp[D_]) ⟨none,rfl⟩ (λj acc Ar=>agm _ (Ar:)) (by rintro w hw ρ acc ⟨s,rfl⟩;obtain⟨c,AI,rfl⟩:=List.mem_map.mp hw;exact⟨[↥(.str ⟨#[c]⟩)],γ,⟨_,rfl⟩,by simp[ahE (p.s c AI)]⟩)
 have Cp:BZ [.str x] h=.ok (.int 4,h):=by unfold BZ;dsimp only;rw[str_len,p.l];rfl
 have Ck:BZ [PK] h=.ok (.int 4,h):=rfl;have Cb:EF "str" (.str x) h=.ok Tm:=rfl;simp[-FJ,W3,d4,Cb,Cp,Ck,a]
def nr{o:Option Nat}{c:Nat}(AI:∀k,o=↥k->k<c)(h:A6):U6 [DA o,.int (c:Int)] h=.ok Tm:=by
 cases o with
 |none=>simp[U6,ZX,DA,Ej,Ni]
 |some k=>have:=AI k rfl;have w:=Us (k:Int) 0 ((c:Int)-1) h;rw[decide_eq_true (show(0:Int)<=(k:Int)by lia),decide_eq_true (show(k:Int)<=(c:Int)-1 by lia)]at w;simp[U6,ZX,DA,Ej,Ni,w]
def Sb{ws:↑W}{k:Nat}{w:W}(h:A6)(e:ws[k]?=↥w):A8 (.tup ws) (.int (k:Int)) h=.ok (w,h):=W9 h (Ui h ws) e
def Fp(h:A6)(x:W)(ws:↑W):A8 (.tup (x::ws)) (.int 0) h=.ok (x,h):=Sb (k:=0) h rfl
def Iu(h:A6)(x y:W)(ws:↑W):A8 (.tup (x::y::ws)) (.int 1) h=.ok (y,h):=Sb (k:=1) h rfl
def W7(h:A6)(x y z:W)(ws:↑W):A8 (.tup (x::y::z::ws)) (.int 2) h=.ok (z,h):=Sb (k:=2) h rfl
def Oz(h:A6)(ws:↑W):BZ [.tup ws] h=.ok (.int ⇑ws,h):=by simp[BZ]
def afZ{r:Cs}{c:Nat}(ok:TZ c r)(h:A6):W4 [EK r,.int (c:Int)] h=.ok Tm:=by have Cb:EF "tuple" (EK r) h=.ok Tm:=rfl;have Cp:BZ [EK r] h=.ok (.int 3,h):=Oz h _;have FY:A8 (EK r) (.int 0) h=.ok (.str r.p,h):=Fp h _ _;have AD:A8 (EK r) (.int 1) h=.ok (DA r.a,h):=Iu h _ _ _;have AH:A8 (EK r) (.int 2) h=.ok (DA r.b,h):=W7 h _ _ _ _;simp[W4,cQ,Cb,Cp,FY,AD,AH,nS ok.p,nr ok.a,nr ok.b]
def c7{h:A6}{n:Nat}{ws:↑W}(e:h[n]?=↥⟨.lst,ws⟩)(g:A6)(j:Nat):GC (.ref n) j (h++g)=↥ws[j]?:=Nn (C6 h e g) j
def v7{b:↑Cs}{c:Nat}(ok:LF c b){h:A6}{n:Nat}(Au:h[n]?=↥(FX b)):W2 [.ref n,.int (c:Int)] h=.ok Tm:=by
 have a:=Y8 (mi:=D_ π) (it:=GC (.ref n)) (g:=AC 0) (e:=Aj 2 W4 (A0 π υ)) (ρ:=[Ξ,↥(.int (c:Int))]) (h:=h) (nl:=1) (caps:=[1]) (b.map EK) (λρ=>∃s,ρ=[s,↥(.int (c:Int))]) (by rw[Ch];have:=ok.1;lia) (Lg Au γ) ⟨none,rfl⟩ (λj acc _=>c7 Au _ j) (by rintro w hw ρ acc ⟨s,rfl⟩;obtain⟨r,B6,rfl⟩:=List.mem_map.mp hw;exact⟨[↥(EK r),↥(.int (c:Int))],γ,⟨_,rfl⟩,by simp[afZ (ok.2 r B6)]⟩)
 have Cb:EF "list" (.ref n) h=.ok Tm:=by erw[EF,Mg,Au,FX];rfl
 have Cp:BZ [.ref n] h=.ok (.int ⇑b,h):=by rw[H7 Au];simp
 have:=ok.1;have g1:KS (.int (⇑b:Int)) Vs h=.ok (.AN false,h):=by show KS (.int (⇑b:Int)) (.int 12) h=_;rw[aeG,decide_eq_false δ]
 simp[-FJ,W2,cz,Cb,Cp,g1,a]
end FT
namespace Bq
def fc{h:A6}{n:Nat}{c:Str}{ns:↑Str}{ws:↑W}(e:h[n]?=↥⟨.ins c ns,ws⟩):Sa h c (.ref n)=↥(n,ns,ws):=by erw[Sa,e,if_true]
def E_{h:A6}{n:Nat}{c f:Str}{ns:↑Str}{ws:↑W}{u:W}(e:h[n]?=↥⟨.ins c ns,ws⟩)(v:Dy ns ws f=↥u):B8 c f (.ref n) h=.ok (u,h):=by unfold B8;rw[fc e];dsimp only;rw[v]
def TJ{h:A6}{n:Nat}{c f:Str}{ns ns':↑Str}{ws ws':↑W}{v:W}{ρ:BC}(e:h[n]?=↥⟨.ins c ns,ws⟩)(l:⇑ns<1000)(AD:TG ns f=ns')(AH:SN ns ws f v=ws'):WW c f (.ref n) v ρ h=.ok (.AT ρ,h.set n ⟨.ins c ns',ws'⟩):=by unfold WW;rw[fc e];dsimp only;rw[if_pos l,AD,AH]
def Ur(c f:Str)(o v:BB)(ρ:BC)(h:A6):FI c f o v ρ h=(v ρ h).bind λp=>(o ρ p.2).bind λq=>WW c f q.1 p.1 ρ q.2:=rfl
def aiG(c x:Str)(n:Nat)(mf:Bs)(o:BB)(ma:EY)(ρ:BC)(h:A6):CV c x n mf o ma ρ h=(o ρ h).bind λp=>W5 c x p.1 (bd ma λws _ h=>if ⇑ws=n then mf (p.1::ws) h else .bad) ρ p.2:=rfl
def abO{α:Type}{h:A6}{n:Nat}{c x:Str}{ns:↑Str}{ws:↑W}{m:M α}{ρ:BC}(e:h[n]?=↥⟨.ins c ns,ws⟩)(v:Dy ns ws x=none):W5 c x (.ref n) m ρ h=m ρ h:=by unfold W5;rw[fc e];dsimp only;rw[v]
def MF{h h1:A6}{n k:Nat}{c x:Str}{ns:↑Str}{ws us:↑W}{mf:Bs}{o:BB}{ma:EY}{ρ:BC}{r:R (W×A6)}(Fw:o ρ h=.ok (.ref n,h))(e:h[n]?=↥⟨.ins c ns,ws⟩)(v:Dy ns ws x=none)(BS:ma ρ h=.ok (us,h1))(l:⇑us=k)(B5:mf (.ref n::us) h1=r):CV c x k mf o ma ρ h=r:=by rw[aiG,Fw,A3,abO e v,I_,BS,A3,if_pos l,B5]
def UH{h h1 h2:A6}{c:Str}{k:Nat}{mf:Bs}{ma:EY}{ρ:BC}{us:↑W}(BS:ma ρ h=.ok (us,h1))(l:⇑us=k)(B5:mf (.ref ⇑h1::us) (h1++[⟨.ins c [],[]⟩])=.ok (.non,h2)):HW c k mf ma ρ h=.ok (.ref ⇑h1,h2):=by unfold HW;rw[I_,BS,A3];dsimp only;rw[if_pos l,B5];rfl
def ki{h:A6}{n:Nat}{AK:↑FC}{vs:↑W}{k v:W}{FG:FC}{ρ:BC}(e:h[n]?=↥⟨.ED AK,vs⟩)(DN:Nu k=↥FG)(Xd:FG∉AK)(l:⇑vs<Ay):Mj (.ref n) k v ρ h=.ok (.AT ρ,h.set n ⟨.ED (AK++[FG]),vs++[v]⟩):=by unfold Mj;erw[e,DN,if_pos l,M_,if_neg Xd]
def Uq(d k v:BB)(ρ:BC)(h:A6):Jb d k v ρ h=(v ρ h).bind λp=>(d ρ p.2).bind λq=>(k ρ q.2).bind λr=>Mj q.1 r.1 p.1 ρ r.2:=rfl
end Bq
namespace FT
def ad3(h:A6)(a b:Ae):As false (AY a) (AY b) h=.ok (.AN (!decide (a=b)),h):=by
 have:=bA h a b;unfold As at this |-;rw[bH,bH]at this |-;erw[if_true,MP,if_false]at this |-;have:eqT (Ci.CW true [Ci.int (a.1:Int),Ci.int (a.2:Int)]) (Ci.CW true [Ci.int (b.1:Int),Ci.int (b.2:Int)])=decide (a=b):=by injection this with this;injection this with this _;injection this
 rw[this]
def nO(h:A6)(x y:W):S3 [.tup [x,y]] h=.ok Tm:=by have Cb:EF "tuple" (.tup [x,y]) h=.ok Tm:=rfl;simp[S3,d3,Cb,Oz]
def ad5(h:A6)(cs:↑Nat):BZ [.tup (Bi cs)] h=.ok (.int ⇑cs,h):=by rw[Oz];simp[Bi]
def eT{cs:↑Nat}{d:Ae}(hd:d∈DF cs ⇑cs)(h:A6):U5 [.tup (Bi cs),AY d] h=.ok Tm:=by obtain⟨h1,h2⟩:=XZ.mp hd;have p:S3 [AY d] h=.ok Tm:=nO h _ _;have FY:A8 (AY d) (.int 0) h=.ok (.int (d.1:Int),h):=Fp h _ _;have AD:A8 (AY d) (.int 1) h=.ok (.int (d.2:Int),h):=Iu h _ _ _;have AH:A8 (.tup (Bi cs)) (.int (d.1:Int)) h=.ok (.int (cs.getD d.1 0:Nat),h):=Sb h (VQ h1);have GF:=Us (d.1:Int) 0 ((⇑cs:Int)-1) h;have Gh:=Us (d.2:Int) 0 ((cs.getD d.1 0:Nat)-1:Int) h;rw[decide_eq_true (show(0:Int)<=(d.1:Int)by lia),decide_eq_true (show(d.1:Int)<=(⇑cs:Int)-1 by lia)]at GF;rw[decide_eq_true (show(0:Int)<=(d.2:Int)by lia),decide_eq_true (show(d.2:Int)<=((cs.getD d.1 0:Nat):Int)-1 by lia)]at Gh;simp[U5,d2,p,FY,AD,AH,ad5,GF,Gh,-Ef]
def ahd{cs:↑Nat}{w:Ae×Ae}(h1:w.1∈DF cs ⇑cs)(h2:w.2∈DF cs ⇑cs)(ne:w.1≠w.2)(h:A6):U8 [.tup (Bi cs),CH w] h=.ok Tm:=by have p:S3 [CH w] h=.ok Tm:=nO h _ _;have FY:A8 (CH w) (.int 0) h=.ok (AY w.1,h):=Fp h _ _;have AD:A8 (CH w) (.int 1) h=.ok (AY w.2,h):=Iu h _ _ _;simp[U8,cS,p,FY,AD,eT h1,eT h2,ad3,ne]
def J9(d:Ae):FC:=[.inl (d.1:Int),.inl (d.2:Int)]
def gR(d:Ae):Nu (AY d)=↥(J9 d):=rfl
def bw{a b:Ae}(h:J9 a=J9 b):a=b:=by obtain⟨a1,a2⟩:=a;obtain⟨Cw,Fv⟩:=b;erw[J9,i8,VM,and_true]at h;obtain⟨h1,h2⟩:=h;rw[Prod.mk.injEq];lia
def La(ws:ν):↑FC:=(ends ws).map J9
def Lb(ws:ν):↑W:=(ws.map λw=>[AY w.2,AY w.1]).flatten
def Hq(ws:ν):O:=⟨.ED (La ws),Lb ws⟩
def y5(ws:ν)(w:Ae×Ae):La (ws++[w])=La ws++[J9 w.1]++[J9 w.2]:=by simp[La,ends]
def y8(ws:ν)(w:Ae×Ae):Lb (ws++[w])=Lb ws++[AY w.2]++[AY w.1]:=by simp[Lb]
def xl(ws:ν):⇑(Lb ws)=2*⇑ws:=by
 induction ws with
 |nil=>rfl
 |cons w ws CI=>simp[Lb]at CI |-;lia
def mQ{ws:ν}{d:Ae}:J9 d∈La ws↔d∈ends ws:=by unfold La;rw[VH];exact⟨λ⟨a,h,e⟩=>bw e▸h,λh=>⟨d,h,rfl⟩⟩
theorem sx(d:Ae):∀ws:ν,Dy (La ws) (Lb ws) (J9 d)=(Eg ws d).map AY
 |[]=>rfl
 |w::ws=>by
  have AD:La (w::ws)=J9 w.1::J9 w.2::La ws:=by simp[La,ends]
  have AH:Lb (w::ws)=AY w.2::AY w.1::Lb ws:=by simp[Lb]
  rw[AD,AH];erw[Dy,Eg];by_cases h1:w.1=d
  .rw[if_pos (by rw[h1]),if_pos h1];rfl
  .rw[if_neg (λz=>h1 (bw z)),if_neg h1];by_cases h2:w.2=d
   .rw[if_pos (by rw[h2]),if_pos h2];rfl
   .rw[if_neg (λz=>h2 (bw z)),if_neg h2];exact sx d ws
def eR{h:A6}{f:Nat}{ws:ν}(e:h[f]?=↥(Hq ws))(d:Ae):Ho h (.ref f) (AY d)=↥((Eg ws d).map AY):=by unfold Ho;erw[e,Hq,gR,R0,sx]
def akK{ws:ν}{d:Ae}(h:Eg ws d=none):d∉ends ws:=by
 induction ws with
 |nil=>simp[ends]
 |cons w ws CI=>
  erw[Eg]at h
  split at h
  .cases h
  .split at h
   .cases h
   .rename_i h1 h2;have:=CI h;erw[ends,DC,Pd,I0,IF,NI,or_false]at this |-;rintro((rfl|rfl)|z)
    .exact h1 rfl
    .exact h2 rfl
    .exact this z
def eC{ws:ν}{d e:Ae}(h:Eg ws d=↥e):d∈ends ws/\e∈ends ws:=by
 induction ws with
 |nil=>simp[Eg]at h
 |cons w ws CI=>
  erw[Eg]at h;erw[ends,DC,Pd,I0,IF,NI,or_false]
  split at h
  .rename_i h1;cases h;exact⟨.inl (.inl h1.symm),.inl (.inr rfl)⟩
  .split at h
   .rename_i h1 h2;cases h;exact⟨.inl (.inr h2.symm),.inl (.inl rfl)⟩
   .have:=CI h;exact⟨.inr this.1,.inr this.2⟩
def dx:Ak:=AO (Bp (Eb (Aa (Aj 2 U8 (A0 π (A0 Cl A2))))) (λ_ _=>.bad) Bj)
    (AO (Bp (Fq (Aa (A1 (E1 true) (A1 A8 Cl η) ac)) (Aa (A1 (E1 true) (A1 A8 Cl ζ) ac))) (λ_ _=>.bad) Bj)
    (AO (Jb ac (A1 A8 Cl η) (A1 A8 Cl ζ))
    (Jb ac (A1 A8 Cl ζ) (A1 A8 Cl η))))
def ea(ws:↑W)(j:Nat)(h:A6):GC (.tup ws) j h=↥ws[j]?:=by simp[GC]
def xy{cs:↑Nat}{ws:ν}(N:K3 cs ws)(h:A6):W0 [.tup (Bi cs),.tup (ws.map CH)] h=.ok (.ref ⇑h,h++[Hq ws]):=by
 have few:=N.few
 have B1:=TD (mi:=D_ Ψ) (it:=GC (.tup (ws.map CH))) (g:=AC 3) (b:=dx) (ρ:=[↥(.tup (Bi cs)),↥(.tup (ws.map CH)),χ,none]) (h:=h++[⟨.ED [],[]⟩]) (h0:=h++[⟨.ED [],[]⟩]) (ws.map CH) (by simp;lia)
  (λj ρ h'=>(∃s3,ρ=[↥(.tup (Bi cs)),↥(.tup (ws.map CH)),χ,s3])/\h'=h++[Hq (ws.take j)])
  (T:=λf h'=>(∃s3,f=.AT [↥(.tup (Bi cs)),↥(.tup (ws.map CH)),χ,s3])/\h'=h++[Hq ws])
  (by simp[D_]) (λj ρ h' _ _=>ea _ j h') ⟨⟨none,rfl⟩,by simp[Hq,La,Lb,ends]⟩ ?_ ?_
 .obtain⟨f,h',C2,⟨s3,rfl⟩,rfl⟩:=B1.HM;have e:W0 [.tup (Bi cs),.tup (ws.map CH)] h=(AO (AZ (KY true) (AC 2)) (AO (Ew (D_ Ψ) (AC 3) dx) (B7 ac)) [↥(.tup (Bi cs)),↥(.tup (ws.map CH)),none,none] h).bind outF:=rfl;have s1:AZ (KY true) (AC 2) [↥(.tup (Bi cs)),↥(.tup (ws.map CH)),none,none] h=.ok (.AT [↥(.tup (Bi cs)),↥(.tup (ws.map CH)),χ,none],h++[⟨.ED [],[]⟩]):=rfl;rw[e,B2,s1,A3,B9,B2,LV,C2,A3,B9];rfl
 .rintro j w _ _ D0 ⟨⟨s3,rfl⟩,rfl⟩;rw[E7]at D0;cases CM:ws[j]? with
  |none=>rw[CM]at D0;cases D0
  |some p=>
   rw[CM]at D0;cases D0;have Ar:j< ⇑ws:=(List.getElem?_eq_some_iff.mp CM).1;have nY:ws[j]=p:=(List.getElem?_eq_some_iff.mp CM).2;have aA:ws.take (j+1)=ws.take j++[p]:=by rw[hV Ar,nY]
   have Lu:ends ws=ends (ws.take j)++([p.1,p.2]++ends (ws.drop (j+1))):=by
    have:ws=ws.take j++p::ws.drop (j+1):=by rw[<-nY,<-hb Ar,P_]
    conv=>lhs;rw[this]
    simp[ends]
   have Bz:=N.Bz;rw[Lu]at Bz;have gN:=List.nodup_append.mp Bz;have ad0:=List.nodup_append.mp gN.2.1;have ly:p.1≠p.2:=λz=>by have:=ad0.1;rw[z]at this;simp at this
   have D1:p.1∉ends (ws.take j):=λz=>gN.2.2 _ z _ γ rfl;have EG:p.2∉ends (ws.take j):=λz=>gN.2.2 _ z _ γ rfl;have GX:p.1∈DF cs ⇑cs:=N.sub _ (by rw[Lu];simp);have GY:p.2∈DF cs ⇑cs:=N.sub _ (by rw[Lu];simp);obtain⟨H,CG⟩:∃H,H=h++[Hq (ws.take j)]:=ο;have C2:H[⇑h]?=↥(Hq (ws.take j)):=by rw[CG];simp
   refine⟨[↥(.tup (Bi cs)),↥(.tup (ws.map CH)),χ,↥(CH p)],H,by rw[CG];simp,?_⟩;have FY:∀h,A8 (CH p) (.int 0) h=.ok (AY p.1,h):=λh=>Fp h _ _;have AD:∀h,A8 (CH p) (.int 1) h=.ok (AY p.2,h):=λh=>Iu h _ _ _;have Cw:∀d,d∉ends (ws.take j)->E1 true (AY d) (.ref ⇑h) H=.ok (.AN false,H):=λd hd=>by
    unfold E1;rw[eR C2];cases q:Eg (ws.take j) d with
    |none=>rfl
    |some x=>exact absurd (eC q).1 hd
   have Ea:=xl (ws.take j);rw[OD]at Ea;have Ec:=ki (v:=AY p.2) (ρ:=[↥(.tup (Bi cs)),↥(.tup (ws.map CH)),χ,↥(CH p)]) C2 (gR p.1) (λz=>D1 (mQ.mp z)) (by unfold Ay;lia);have xG:(H.set ⇑h ⟨.ED (La (ws.take j)++[J9 p.1]),Lb (ws.take j)++[AY p.2]⟩)[⇑h]?=↥⟨.ED (La (ws.take j)++[J9 p.1]),Lb (ws.take j)++[AY p.2]⟩:=IY C2;have D2:=ki (v:=AY p.1) (ρ:=[↥(.tup (Bi cs)),↥(.tup (ws.map CH)),χ,↥(CH p)]) xG (gR p.2) (λz=>by
    rcases List.mem_append.mp z with z|z
    .exact EG (mQ.mp z)
    .exact ly (bw (List.mem_singleton.mp z)).symm) (by rw[EM];unfold Ay;simp;lia)
   have t1:Eb (Aa (Aj 2 U8 (A0 π (A0 Cl A2)))) [↥(.tup (Bi cs)),↥(.tup (ws.map CH)),χ,↥(CH p)] H=.ok (false,H):=by simp[ahd GX GY ly]
   have CK:Fq (Aa (A1 (E1 true) (A1 A8 Cl η) ac)) (Aa (A1 (E1 true) (A1 A8 Cl ζ) ac)) [↥(.tup (Bi cs)),↥(.tup (ws.map CH)),χ,↥(CH p)] H=.ok (false,H):=by simp[FY,AD,Cw _ D1,Cw _ EG]
   unfold dx;rw[B2,E6,t1,A3,if_neg γ,GQ,A3,B9,B2,E6,CK,A3,if_neg γ,GQ,A3,B9,B2];erw[Uq,BQ,v_var,Bk,Da,ES,Cf,A3,FY,AD,Ec,B9,D2,VX,a3];refine⟨⟨_,rfl⟩,?_⟩;rw[aA,CG];simp[Hq,y5,y8]
 .rintro _ _ ⟨⟨s3,rfl⟩,rfl⟩;refine⟨⟨_,rfl⟩,?_⟩;rw[Ch,iF]
def wb{cs:↑Nat}(h1:1<=⇑cs)(Fa:⇑cs<=6)(Fl:∀c∈cs,1<=c/\c<=4){h:A6}{n:Nat}(Au:h[n]?=↥⟨.lst,Bi cs⟩):WT [.ref n] h=.ok Tm:=by
 have lcs:⇑(Bi cs)=⇑cs:=by simp[Bi]
 have a:=Y8 (mi:=D_ π) (it:=GC (.ref n)) (g:=AC 0) (e:=Aj 3 Mz (A0 π (A0 ζ (A0 (pu T2) A2)))) (ρ:=[Ξ]) (h:=h) (nl:=1) (caps:=[]) (Bi cs) (λρ=>∃s,ρ=[s]) δ (Lg Au γ) ⟨none,rfl⟩ (λj acc _=>c7 Au _ j) (by rintro w hw ρ acc ⟨s,rfl⟩;obtain⟨c,AI,rfl⟩:=List.mem_map.mp hw;have AI:=Fl c AI;have w:=Us (c:Int) 1 4 (h++[⟨.lst,acc⟩]);rw[decide_eq_true (show(1:Int)<=(c:Int)by lia),decide_eq_true (show(c:Int)<=4 by lia)]at w;exact⟨[↥(.int (c:Int))],γ,⟨_,rfl⟩,by simp[T2,w]⟩)
 have Cb:EF "list" (.ref n) h=.ok Tm:=by erw[EF,Mg,Au];rfl
 have Cp:BZ [.ref n] h=.ok (.int ⇑cs,h):=by rw[H7 Au,lcs]
 have By:OT HV HV ζ (Aw BZ Γ) (pu T3) [Ξ] h=.ok Tm:=by erw[Y4,Bk,GP,Bn,CJ,v_var,Da,Cf,A3,Cp,o0,decide_eq_true (show(1:Int)<=(⇑cs:Int)by lia),NA,if_true,I_,T3,decide_eq_true (show(⇑cs:Int)<=6 by lia)]
 simp[-FJ,WT,cw,Cb,By,a]
def N3(cs:↑Nat)(ws:ν)(f:Nat):O:=⟨.ins "Net" ["many","counts","joined","far"],[.int ⇑cs,.tup (Bi cs),.tup (ws.map CH),.ref f]⟩
def ng{cs:↑Nat}{ws:ν}(N:K3 cs ws){h:A6}{a b:Nat}(BS:h[a]?=↥⟨.lst,Bi cs⟩)(BE:h[b]?=↥⟨.lst,ws.map CH⟩) :
  OV [.ref ⇑h,.ref a,.ref b] (h++[⟨.ins "Net" [],[]⟩])=.ok (.non,h++[N3 cs ws (⇑h+1),Hq ws]):=by
 have lcs:⇑(Bi cs)=⇑cs:=by simp[Bi]
 have e:OV [.ref ⇑h,.ref a,.ref b] (h++[⟨.ins "Net" [],[]⟩])=(Zv [χ,↥(.ref a),↥(.ref b)] (h++[⟨.ins "Net" [],[]⟩])).bind outF:=rfl;rw[e];obtain⟨ρ,CY⟩:∃ρ:BC,ρ=[χ,↥(.ref a),↥(.ref b)]:=ο;rw[<-CY];have v0:I 0 ρ=λh'=>.ok (.ref ⇑h,h'):=by rw[CY];rfl
 have v1:I 1 ρ=λh'=>.ok (.ref a,h'):=by rw[CY];rfl
 have v2:I 2 ρ=λh'=>.ok (.ref b,h'):=by rw[CY];rfl
 have A:∀o:O,(h++[o])[a]?=↥⟨.lst,Bi cs⟩:=λo=>C6 h BS _;have B:∀o:O,(h++[o])[b]?=↥⟨.lst,ws.map CH⟩:=λo=>C6 h BE _;have t1:Eb (Aa (Aj 1 WT υ)) ρ (h++[⟨.ins "Net" [],[]⟩])=.ok (false,h++[⟨.ins "Net" [],[]⟩]):=by simp[-v_var,v1,wb N.h1 N.Fa N.c (A _)]
 have Cb:EF "list" (.ref b) (h++[⟨.ins "Net" [],[]⟩])=.ok (.AN true,h++[⟨.ins "Net" [],[]⟩]):=by erw[EF,Mg,B];rfl
 have CK:Eb (Aa (B0 (EF "list") ac)) ρ (h++[⟨.ins "Net" [],[]⟩])=.ok (false,h++[⟨.ins "Net" [],[]⟩]):=by simp[-v_var,v2,Cb]
 have s3:FI "Net" "many" π (Aw BZ υ) ρ (h++[⟨.ins "Net" [],[]⟩])=.ok (.AT ρ,h++[⟨.ins "Net" ["many"],[.int ⇑cs]⟩]):=by rw[Ur];erw[GP,Bn,CJ,v1,v0,A3,H7 (A _),lcs];rw[TJ (ns':=["many"]) (ws':=[.int ⇑cs]) (Fx h _) ε rfl rfl];simp
 have rR:∀(h':A6)(n:Nat)(us:↑W),h'[n]?=↥⟨.lst,us⟩->PU [.ref n] h'=.ok (.tup us,h'):=λh' n us q=>by erw[PU,GZ h' q]
 have s4:FI "Net" "counts" π (Aw PU υ) ρ (h++[⟨.ins "Net" ["many"],[.int ⇑cs]⟩])=.ok (.AT ρ,h++[⟨.ins "Net" ["many","counts"],[.int ⇑cs,.tup (Bi cs)]⟩]):=by rw[Ur];erw[GP,Bn,CJ,v1,v0,A3,rR _ _ _ (A _)];rw[TJ (ns':=["many","counts"]) (ws':=[.int ⇑cs,.tup (Bi cs)]) (Fx h _) ε rfl rfl];simp
 have s5:FI "Net" "joined" π (Aw PU ω) ρ (h++[⟨.ins "Net" ["many","counts"],[.int ⇑cs,.tup (Bi cs)]⟩])=.ok (.AT ρ,h++[⟨.ins "Net" ["many","counts","joined"],[.int ⇑cs,.tup (Bi cs),.tup (ws.map CH)]⟩]):=by rw[Ur];erw[GP,Bn,CJ,v2,v0,A3,rR _ _ _ (B _)];rw[TJ (ns':=["many","counts","joined"]) (ws':=[.int ⇑cs,.tup (Bi cs),.tup (ws.map CH)]) (Fx h _) ε rfl rfl];simp
 have s6:FI "Net" "far" π (Aj 2 W0 (A0 (B0 (B8 "Net" "counts") π) (A0 (B0 (B8 "Net" "joined") π) A2))) ρ (h++[⟨.ins "Net" ["many","counts","joined"],[.int ⇑cs,.tup (Bi cs),.tup (ws.map CH)]⟩])=.ok (.AT ρ,h++[N3 cs ws (⇑h+1),Hq ws]):=by rw[Ur];have f1:B8 "Net" "counts" (.ref ⇑h) (h++[⟨.ins "Net" ["many","counts","joined"],[.int ⇑cs,.tup (Bi cs),.tup (ws.map CH)]⟩])=.ok (.tup (Bi cs),_):=E_ (Fx h _) rfl;have f2:B8 "Net" "joined" (.ref ⇑h) (h++[⟨.ins "Net" ["many","counts","joined"],[.int ⇑cs,.tup (Bi cs),.tup (ws.map CH)]⟩])=.ok (.tup (ws.map CH),_):=E_ (Fx h _) rfl;erw[J0,Bn,CJ,Ia,v0,A3,f1,f2,DV,FK,HU,if_true,xy N];rw[TJ (ns':=["many","counts","joined","far"]) (ws':=[.int ⇑cs,.tup (Bi cs),.tup (ws.map CH),.ref (⇑h+1)]) (C6 _ (Fx h _) _) ε rfl (by simp[EM];rfl)];rw[ET,TQ];rfl
 unfold Zv;rw[B2,E6,t1,A3,if_neg γ,GQ,A3,B9,B2,E6,CK,A3,if_neg γ,GQ,A3,B9,B2,s3,A3,B9,B2,s4,A3,B9,B2,s5,A3,B9,s6];rfl
structure Hj(h:A6)(n:Nat)(cs:↑Nat)(ws:ν):Prop where
 ex:∃f,h[n]?=↥(N3 cs ws f)/\h[f]?=↥(Hq ws)
def Hj.more{h:A6}{n:Nat}{cs:↑Nat}{ws:ν}(b:Hj h n cs ws)(g:A6):Hj (h++g) n cs ws:=by obtain⟨f,e,r⟩:=b.ex;exact⟨f,C6 h e g,C6 h r g⟩
def Py{h:A6}{w:W}{t:Bool}{us:↑W}(e:E5 h w=↥(t,us))(l:⇑us<=Ay):Dn [w] h=.ok (.ref ⇑h,h++[⟨.lst,us⟩]):=by erw[Dn,e];exact Gu h l
def acU{cs:↑Nat}{ws:ν}(N:K3 cs ws){h:A6}{n:Nat}(A:Hj h n cs ws):WU [.ref n] h=.ok (.ref (⇑h+2),h++[⟨.lst,Bi cs⟩,⟨.lst,ws.map CH⟩,N3 cs ws (⇑h+3),Hq ws]):=by
 obtain⟨f,AD,AH⟩:=A.ex;have few:=N.few;have aby:=N.Fa;have f1:B8 "Net" "counts" (.ref n) h=.ok (.tup (Bi cs),h):=E_ AD rfl;have f2:B8 "Net" "joined" (.ref n) (h++[⟨.lst,Bi cs⟩])=.ok (.tup (ws.map CH),_):=E_ (C6 h AD _) rfl;have Cp:Dn [.tup (Bi cs)] h=.ok (.ref ⇑h,h++[⟨.lst,Bi cs⟩]):=Py (Ui _ _) (by simp[Bi,Ay];lia);have Ck:Dn [.tup (ws.map CH)] (h++[⟨.lst,Bi cs⟩])=.ok (.ref (⇑h+1),h++[⟨.lst,Bi cs⟩,⟨.lst,ws.map CH⟩]):=by rw[Py (Ui _ _) (by simp[Ay];lia)];simp
 have GF:Qa [.ref n] (h++[⟨.lst,Bi cs⟩])=.ok (.ref (⇑h+1),h++[⟨.lst,Bi cs⟩,⟨.lst,ws.map CH⟩]):=by erw[Qa,Xi,cu,Gb,GP,Bn,CJ,Ia,v_var,Wr,DC,I1,DV,FK,HT,NF,HU,VK,Gd,L2,Da,Cf,A3,f2,Ck,IU];have:=Me (h++[⟨.lst,Bi cs⟩]) [⟨.lst,ws.map CH⟩] rfl (H8 _ _ m4);rw[ET]at this;simpa using this
 have ma:A0 (Aw Dn (A0 (B0 (B8 "Net" "counts") π) A2)) (A0 (CV "Net" "wires" 0 Qa π A2) A2) [Ξ] h=.ok ([.ref ⇑h,.ref (⇑h+1)],h++[⟨.lst,Bi cs⟩,⟨.lst,ws.map CH⟩]):=by have Fz:CV "Net" "wires" 0 Qa π A2 [Ξ] (h++[⟨.lst,Bi cs⟩])=.ok (.ref (⇑h+1),h++[⟨.lst,Bi cs⟩,⟨.lst,ws.map CH⟩]):=MF (us:=[]) rfl (C6 h AD _) rfl rfl rfl GF;erw[Bn,GP,Ia,CJ,v_var,Da,Cf,A3,f1,Cp,Fz]
 obtain⟨H,CG⟩:∃H:A6,H=h++[⟨.lst,Bi cs⟩,⟨.lst,ws.map CH⟩]:=ο;have nm:=ng N (h:=H) (a:=⇑h) (b:=⇑h+1) (by rw[CG];simp) (by rw[CG];simp);rw[<-CG]at ma;have mk:HW "Net" 2 OV (A0 (Aw Dn (A0 (B0 (B8 "Net" "counts") π) A2)) (A0 (CV "Net" "wires" 0 Qa π A2) A2)) [Ξ] h=.ok (.ref ⇑H,H++[N3 cs ws (⇑H+1),Hq ws]):=UH ma rfl nm;have e:WU [.ref n] h=((B7 (HW "Net" 2 OV (A0 (Aw Dn (A0 (B0 (B8 "Net" "counts") π) A2)) (A0 (CV "Net" "wires" 0 Qa π A2) A2)))) [Ξ] h).bind outF:=rfl;rw[e,Gb,mk,A3,A3,IU,CG,ET,EM];rfl
def w_{cs:↑Nat}{ws:ν}{h:A6}{n:Nat}(A:Hj h n cs ws){k:Nat}(AR:k< ⇑cs):Tw [.ref n,.int (k:Int)] h=.ok (.int (cs.getD k 0:Nat),h):=by
 obtain⟨f,AD,AH⟩:=A.ex;have f1:B8 "Net" "counts" (.ref n) h=.ok (.tup (Bi cs),h):=E_ AD rfl;have f2:B8 "Net" "many" (.ref n) h=.ok (.int ⇑cs,h):=E_ AD rfl;have EP:A8 (.tup (Bi cs)) (.int (k:Int)) h=.ok (.int (cs.getD k 0:Nat),h):=Sb h (VQ AR);have By:OT HV Ja η Ψ (B0 (B8 "Net" "many") π) [Ξ,↥(.int (k:Int))] h=.ok Tm:=by erw[Y4,Bk,Ia,v_var,Da,ES,Cf,A3,o0,decide_eq_true (show(0:Int)<=(k:Int)by lia),NA,if_true,I_,f2,aeH,decide_eq_true (show(k:Int)<(⇑cs:Int)by lia)]
 simp[Tw,cq,By,f1,EP,-Ef]
def jM{cs:↑Nat}{ws:ν}(Fa:⇑cs<=6){B:↑↑Cs}(ok:HC cs B){h:A6}{n b:Nat}(A:Hj h n cs ws)(VZ:Db h b B):XU [.ref b,.ref n] h=.ok (.non,h):=by
 obtain⟨f,AD,AH⟩:=A.ex;obtain⟨rs,BE,QP,B5⟩:=VZ.ex;have WG:=ok.1
 have a:=Y8 (mi:=QZ Γ) (it:=QI (.ref b)) (g:=Ei [(AC 0),(AC 1)]) (e:=Aj 2 W2 (A0 Ψ (A0 (CV "Net" "count" 1 Tw ac Γ) A2))) (ρ:=[↥(.ref b),Ξ]) (h:=h) (nl:=2) (caps:=[1])
  (rs.mapIdx λi r=>.tup [.int (i:Int),.ref r]) (λρ=>∃s t,ρ=[s,t,Ξ]) (by rw[hs];lia) (by simp[QZ,P1 h BE]) ⟨none,none,rfl⟩ (λj acc Ar=>by
    rw[hs]at Ar;erw[QI,P1 _ (C6 h BE _),Ch];by_cases q:j=⇑rs
    .rw[if_pos q,Jl (by rw[hs];lia)]
    .have:j< ⇑rs:=δ
     rw[if_neg q,E7,List.getElem?_mapIdx,CT this];rfl) (by
  rintro w hw ρ acc ⟨s,t,rfl⟩;obtain⟨i,hi,rfl⟩:=List.mem_mapIdx.mp hw;refine⟨[↥(.int (i:Int)),↥(.ref rs[i]),Ξ],γ,⟨_,_,rfl⟩,?_⟩;have c:=w_ (A.more [⟨.lst,acc⟩]) (k:=i) δ;have y:=v7 (ok.2 i δ) (C6 h (B5 i rs[i] (CT hi)) [⟨.lst,acc⟩]);have Fz:CV "Net" "count" 1 Tw ac Γ [↥(.int (i:Int)),↥(.ref rs[i]),Ξ] (h++[⟨.lst,acc⟩])=.ok (.int (cs.getD i 0:Nat),h++[⟨.lst,acc⟩]):=MF (us:=[.int (i:Int)]) rfl (C6 h AD _) rfl rfl rfl c;erw[J0,Bn,CJ,v_var,Da,ES,Cf,A3,Fz,DV,FK,HU,if_true,y])
 have Cb:EF "list" (.ref b) h=.ok Tm:=by erw[EF,Mg,BE];rfl
 have Cp:BZ [.ref b] h=.ok (.int ⇑cs,h):=by rw[H7 BE,Ch,QP,WG]
 have f2:B8 "Net" "many" (.ref n) h=.ok (.int ⇑cs,h):=E_ AD rfl;have q:cC [.ref b,.ref n] h=.ok Tm:=by simp[-FJ,cC,d0,Cb,Cp,f2,a]
 simp[XU,e9,q]
end FT
namespace Bq
@[simp] theorem nz(b:Bool)(x y:Str)(h:A6):As b (.str x) (.str y) h=.ok (.AN (if b then x==y else !(x==y)),h):=by simp[As,CD,eqT]
theorem j1{it:HF}{g:DM}{e:BB}{h:A6}(Ge:Nat->Nat->↑W)(aj:∀a n,Ge a (n+1)=Ge a n++[.ref (a+n)])(a8:∀a n,⇑(Ge a n)=n)(ws:↑W)(f:W->O)(BH:BC->Prop)(AF:⇑ws<1000)(hit:∀j H,h<+: H->j<=⇑ws->it j H=↥ws[j]?)(Do:∀w∈ws,∀ρ H,BH ρ->h<+: H->∃CS,g w ρ H=.ok (.AT CS,H)/\BH CS/\e CS H=.ok (.ref ⇑H,H++[f w])) :
  ∀k j ρ,j<=⇑ws->⇑ws-j<k->BH ρ->Ky it g (pu true) e ⇑h k j ρ (h++(⟨.lst,Ge (⇑h+1) j⟩::(ws.take j).map f))=.ok (h++(⟨.lst,Ge (⇑h+1) ⇑ws⟩::ws.map f))
 |0,j,ρ,Ar,l,i=>δ
 |k+1,j,ρ,Ar,l,i=>by
  unfold Ky;rw[hit _ _ (Ez _ _) Ar];by_cases DH:j< ⇑ws
  .rw[CT DH];obtain⟨CS,AD,Cb,AH⟩:=Do ws[j] (Jm DH) ρ _ i (Ez h (⟨.lst,Ge (⇑h+1) j⟩::(ws.take j).map f));erw[AD,A3,Bk,if_true,AH];rw[ET,Fx,HT,Da];have B6:=a8 (⇑h+1) j;erw[B6,if_pos (show j<Ay by unfold Ay;lia),TQ,NH];have:=j1 Ge aj a8 ws f BH AF hit Do k (j+1) CS DH δ Cb;rw[aj,hV DH,IE]at this;have Gq:⇑(h++(⟨.lst,Ge (⇑h+1) j⟩::(ws.take j).map f))=⇑h+1+j:=by simp;lia
   rw[Gq];exact this
  .have:j=⇑ws:=δ
   subst this;simp
def kS{mi:GT}{it:HF}{g:DM}{e:BB}{ρ:BC}{h h0:A6}{nl:Nat}{caps:↑Nat}(Ge:Nat->Nat->↑W)(aaK:∀a,Ge a 0=[])(aj:∀a n,Ge a (n+1)=Ge a n++[.ref (a+n)])(a8:∀a n,⇑(Ge a n)=n)(ws:↑W)(f:W->O)(BH:BC->Prop)(AF:⇑ws<1000)(hi:mi ρ h0=.ok (it,h))(Eo:BH (QC nl caps ρ))(hit:∀j H,h<+: H->j<=⇑ws->it j H=↥ws[j]?)(Do:∀w∈ws,∀ρ H,BH ρ->h<+: H->∃CS,g w ρ H=.ok (.AT CS,H)/\BH CS/\e CS H=.ok (.ref ⇑H,H++[f w])) :
  DZ nl caps mi g (pu true) e ρ h0=.ok (.ref ⇑h,h++(⟨.lst,Ge (⇑h+1) ⇑ws⟩::ws.map f)):=by
 unfold DZ;erw[I_,hi,A3];have:=j1 Ge aj a8 ws f BH AF hit Do K2 0 _ (IC _) (by unfold K2;lia) Eo;rw[aaK]at this;erw[List.take_zero,I1]at this;rw[this]
end Bq
namespace FT
def G6(a:Nat)(B:↑↑Cs):A6:=⟨.lst,Gv (a+1) ⇑B⟩::B.map FX
def MD(a:Nat)(B:↑↑Cs):⇑(G6 a B)=⇑B+1:=by simp[G6]
def eL{cs:↑Nat}{B:↑↑Cs}(Fa:⇑cs<=6)(ok:HC cs B){h:A6}{b i:Nat}(VZ:Db h b B){ρ:BC}(hi:ρ[i]?=↥↥(.ref b)):DZ 1 [] (D_ (I i)) (AC 0) (pu true) (BJ (Aw Dn Γ)) ρ h=.ok (.ref ⇑h,h++G6 ⇑h B):=by
 obtain⟨rs,BE,QP,B5⟩:=VZ.ex;have WG:=ok.1;have c:=kS (mi:=D_ (I i)) (it:=GC (.ref b)) (g:=AC 0) (e:=BJ (Aw Dn Γ)) (ρ:=ρ) (h:=h) (h0:=h) (nl:=1) (caps:=[]) Gv (λa=>rfl) gE bl (rs.map W.ref) (λw=>match w with
  |.ref r=>(h[r]?).getD ⟨.lst,[]⟩
  |_=>⟨.lst,[]⟩) (λρ=>∃s,ρ=[s]) (by rw[Ch];lia) (Lg BE (by rw[v_var,hi];rfl)) ⟨none,rfl⟩ (λj H p _=>Nn (Cx p BE) j) (by
   rintro w hw ρ H ⟨s,rfl⟩ p;obtain⟨r,B6,rfl⟩:=List.mem_map.mp hw;obtain⟨k,AR⟩:=i0 B6;have q:=B5 k r AR;have SW:k< ⇑cs:=by have:=(List.getElem?_eq_some_iff.mp AR).1;lia
   have Ea:=(ok.2 k SW).1;refine⟨[↥(.ref r)],γ,⟨_,rfl⟩,?_⟩;have lw:Dn [.ref r] H=.ok (.ref ⇑H,H++[FX (B.getD k [])]):=Py (GZ _ (Cx p q)) (by rw[Ch];unfold Ay;lia);erw[FJ,GP,Bn,CJ,v_var,Da,Cf,A3,lw,q,Qx];exact Me H _ rfl (H8 _ _ m2))
 rw[c];have:(rs.map W.ref).map (λw=>match w with
  |.ref r=>(h[r]?).getD ⟨.lst,[]⟩
  |_=>⟨.lst,[]⟩)=B.map FX:=by
  apply ht;intro k;erw[E7];by_cases AR:k< ⇑rs
  .rw[CT AR,CT δ];have q:=B5 k rs[k] (CT AR);erw[R0,q,Qx];rw[Ef,CT δ];rfl
  .rw[Jl δ,Jl δ];rfl
 rw[this,Ch,QP];rfl
def jI{B:↑↑Cs}(h:A6):Db (h++G6 ⇑h B) ⇑h B:=eE rfl h
def jK{cs:↑Nat}{B:↑↑Cs}(Fa:⇑cs<=6)(ok:HC cs B){h:A6}{b:Nat}(VZ:Db h b B):S2 [.ref b] h=.ok (.ref ⇑h,h++G6 ⇑h B):=by have c:=eL (i:=0) Fa ok VZ (ρ:=[↥(.ref b)]) rfl;have e:S2 [.ref b] h=(B7 (DZ 1 [] (D_ π) (AC 0) (pu true) (BJ (Aw Dn Γ))) [↥(.ref b)] h).bind outF:=rfl;rw[e,Gb,c];rfl
abbrev Co:=Option (Nat×Nat)
noncomputable def HS(k:Nat):Str:=if k=0 then AL "teach" else if k=1 then AL "turn" else AL "forget"
def Ap:Co->W
 |none=>.tup [.str (AL "wait")]
 |some p=>.tup [.str (HS p.1),.int (p.2:Int)]
@[simp] theorem Ka(s:Co):DP (Ap s)=true:=by cases s<;>simp[Ap]
structure Q5(n:Nat)(ps:↑Co):Prop where
 l:⇑ps<=40
 k:∀p,↥p∈ps->p.1<3/\p.2<n
 Bz:(ps.filterMap id).Nodup
def lO(h:A6)(k:Int)(AR:k=1\/k=2):E1 false (.int k) (.tup [.int 1,.int 2]) h=.ok (.AN false,h):=by rw[Wq (d:=.int k) (t:=true) (ds:=[.int 1,.int 2]) rfl (by simp[CD]) (by simp[CD])];rcases AR with rfl|rfl<;>rfl
def agk{n:Nat}{cs:↑Nat}{ws:ν}{h:A6}{m:Nat}(A:Hj h m cs ws){s:Co}(AQ:∀p,s=↥p->p.1<3/\p.2< ⇑cs):S4 [Ap s,.ref m] h=.ok Tm:=by
 obtain⟨f,AD,AH⟩:=A.ex;have f2:B8 "Net" "many" (.ref m) h=.ok (.int ⇑cs,h):=E_ AD rfl;have is:∀x,EF "str" (.str x) h=.ok Tm:=λx=>rfl;cases s with
 |none=>have Cb:EF "tuple" (Ap none) h=.ok Tm:=rfl;have Cp:BZ [Ap none] h=.ok (.int 1,h):=Oz h _;have x0:A8 (Ap none) (.int 0) h=.ok (.str (AL "wait"),h):=Fp h _ _;simp[S4,ZZ,Cb,Cp,x0,lO,is,Ay]
 |some p=>
  have AV:=AQ p rfl;have Cb:EF "tuple" (Ap ↥p) h=.ok Tm:=rfl;have Cp:BZ [Ap ↥p] h=.ok (.int 2,h):=Oz h _;have x0:A8 (Ap ↥p) (.int 0) h=.ok (.str (HS p.1),h):=Fp h _ _;have Cu:A8 (Ap ↥p) (.int 1) h=.ok (.int (p.2:Int),h):=Iu h _ _ _;have w:=Us (p.2:Int) 0 ((⇑cs:Int)-1) h;rw[decide_eq_true (show(0:Int)<=(p.2:Int)by lia),decide_eq_true (show(p.2:Int)<=(⇑cs:Int)-1 by lia)]at w;have J1:E1 true (.str (HS p.1)) (.tup [.str (AL "teach"),.str (AL "turn"),.str (AL "forget")]) h=.ok Tm:=by
   rw[Wq (d:=.str (HS p.1)) (t:=true) (ds:=[.str (AL "teach"),.str (AL "turn"),.str (AL "forget")]) rfl (by simp[CD]) (by simp[CD])];have:p.1=0\/p.1=1\/p.1=2:=δ
   rcases this with e|e|e<;>rw[e]<;>rfl
  simp[S4,ZZ,Cb,Cp,x0,Cu,lO,is,Ay,f2,w,J1]
def Ip:W->Bool
 |.tup [_,_]=>true
 |_=>false
def mX(h:A6)(s:Co):As false (Ap s) Mh h=.ok (.AN (Ip (Ap s)),h):=by
 cases s with
 |none=>simp[As,Ap,Mh,CD,eqT,Gk,Ip]
 |some p=>simp[As,Ap,Mh,CD,eqT,Gk,Ip]
def t4{a b:Nat}(AG:a<3)(A5:b<3)(h:HS a=HS b):a=b:=by
 have a1:a=0\/a=1\/a=2:=δ
 have Cw:b=0\/b=1\/b=2:=δ
 rcases a1 with rfl|rfl|rfl<;>rcases Cw with rfl|rfl|rfl<;>first|rfl|exact absurd h ε
def stK(p:Nat×Nat):↑Key:=[.inr (HS p.1),.inl (p.2:Int)]
theorem rS:∀l:↑(Nat×Nat),(l.map λp=>Ap ↥p).mapM Nu=↥(l.map stK)
 |[]=>rfl
 |p::l=>by rw[DC,NL,rS l];rfl
theorem h9:∀ps:↑Co,(ps.map Ap).filter Ip=(ps.filterMap id).map λp=>Ap ↥p
 |[]=>rfl
 |none::ps=>by rw[DC,Qw,if_neg (by simp[Ap,Ip]),h9 ps];rfl
 |some p::ps=>by rw[DC,Qw,if_pos (by simp[Ap,Ip]),h9 ps];rfl
def af2{cs:↑Nat}{ws:ν}{h:A6}{m q:Nat}(A:Hj h m cs ws){ps:↑Co}(P:Q5 ⇑cs ps)(eq:h[q]?=↥⟨.lst,ps.map Ap⟩):cD [.ref q,.ref m] h=.ok Tm:=by
 have f9:=P.l;have Cb:EF "list" (.ref q) h=.ok Tm:=by erw[EF,Mg,eq];rfl
 have Cp:BZ [.ref q] h=.ok (.int ⇑ps,h):=by rw[H7 eq,Ch]
 have a:=cb (mi:=D_ π) (it:=GC (.ref q)) (g:=AC 0) (e:=Aj 2 S4 (A0 π υ)) (ρ:=[↥(.ref q),↥(.ref m),none]) (h:=h) (nl:=1) (caps:=[1]) (ps.map Ap) (λ_=>true) (λρ=>∃s,ρ=[s,↥(.ref m)]) (by rw[Ch];lia) (Lg eq γ) ⟨none,rfl⟩ (λj acc _=>c7 eq _ j) (by rintro w hw ρ acc ⟨s,rfl⟩;obtain⟨c,AI,rfl⟩:=List.mem_map.mp hw;exact⟨[↥(Ap c),↥(.ref m)],γ,⟨_,rfl⟩,by simp[agk (n:=0) (A.more [⟨.lst,acc⟩]) (λp e=>P.k p (e▸AI))]⟩)
 rw[List.all_eq_true.mpr (λ_ _=>rfl)]at a;have c:=Vw (mi:=D_ π) (it:=GC (.ref q)) (g:=AC 0) (t:=Aa (A1 (As false) π (pu Mh))) (e:=I 0) (ρ:=[↥(.ref q),↥(.ref m),none]) (h:=h) (h0:=h) (nl:=1) (caps:=[]) (ps.map Ap) Ip id (λρ=>∃s,ρ=[s]) (by rw[Ch];lia) (Lg eq γ) ⟨none,rfl⟩ (λj acc _=>c7 eq _ j) (by rintro w hw ρ acc ⟨s,rfl⟩;obtain⟨c,AI,rfl⟩:=List.mem_map.mp hw;exact⟨[↥(Ap c)],γ,⟨_,rfl⟩,by simp[mX],λ_=>γ⟩)
 rw[List.map_id,h9]at c;have Bz:((ps.filterMap id).map stK).Nodup:=by rw[Yl,Sl];refine List.Pairwise.imp_of_mem ?_ P.Bz;intro x y AJ AP ne z;obtain⟨u,BR,FZ⟩:=List.mem_filterMap.mp AJ;obtain⟨v,Bg,ev⟩:=List.mem_filterMap.mp AP;erw[id]at FZ ev;subst FZ ev;have abw:=P.k _ BR;have WF:=P.k _ Bg;erw[stK,i8,Sum.inr.injEq,VM,and_true]at z;exact ne (Prod.ext (t4 abw.1 WF.1 z.1) δ)
 have lf:⇑(ps.filterMap id)<=⇑ps:=List.length_filterMap_le ..;have CW:E5 (h++[⟨.lst,(ps.filterMap id).map λp=>Ap ↥p⟩]) (.ref ⇑h)=↥(false,(ps.filterMap id).map λp=>Ap ↥p):=GZ _ γ;have ls:WK [.ref ⇑h] (h++[⟨.lst,(ps.filterMap id).map λp=>Ap ↥p⟩])=.ok (.int ⇑(ps.filterMap id),h++[⟨.lst,(ps.filterMap id).map λp=>Ap ↥p⟩]):=by unfold WK;erw[CW,Ch];rw[if_pos δ];erw[rS,if_pos Bz,Ch]
 have Ea:BZ [.ref ⇑h] (h++[⟨.lst,(ps.filterMap id).map λp=>Ap ↥p⟩])=.ok (.int ⇑(ps.filterMap id),h++[⟨.lst,(ps.filterMap id).map λp=>Ap ↥p⟩]):=by rw[H7 (Fx h _)];simp
 have t1:Fq (Eb (Aa (B0 (EF "list") π))) (Aa (A1 KS (Aw BZ Γ) (pu T4))) [↥(.ref q),↥(.ref m),none] h=.ok (false,h):=by simp[Cb,Cp,T4];lia
 have CK:HX (Eb (Aa (Aw (IV true) (A0 (DZ 1 [1] (D_ π) (AC 0) (pu true) (Aj 2 S4 (A0 π υ))) A2)))) [↥(.ref q),↥(.ref m),none] h=.ok (false,h):=by rw[sq,v_not,Hx,a];simp
 have s3:AZ (DZ 1 [] (D_ π) (AC 0) (Aa (A1 (As false) π (pu Mh))) π) (AC 2) [↥(.ref q),↥(.ref m),none] h=.ok (.AT [↥(.ref q),↥(.ref m),χ],h++[⟨.lst,(ps.filterMap id).map λp=>Ap ↥p⟩]):=by rw[Dr,c];rfl
 have e:cD [.ref q,.ref m] h=((ZY [↥(.ref q),↥(.ref m),none] h).bind outF).bind λp=>settle h p.1 p.2:=rfl;rw[e];unfold ZY;rw[B2,E6,t1,A3,if_neg γ,GQ,A3,B9,B2,E6,CK,A3,if_neg γ,GQ,A3,B9,B2,s3,A3,B9];erw[Gb,BQ,GP,Bn,CJ,v_var,Da,ES,Cf,A3,ls,Ea,Xf,IU];simp
def af1{cs:↑Nat}{ws:ν}(Fa:⇑cs<=6){B C:↑↑Cs}(HN:HC cs B)(aeN:HC cs C){h:A6}{m q b c:Nat}(A:Hj h m cs ws)(GV:Db h b B)(JX:Db h c C){ps:↑Co}(P:Q5 ⇑cs ps)(eq:h[q]?=↥⟨.lst,ps.map Ap⟩):XV [.ref m,.ref b,.ref c,.ref q] h=.ok (.non,h):=by simp[XV,eA,jM Fa HN A GV,jM Fa aeN A JX,af2 A P eq]
noncomputable def oY:↑Str:=["net","books","plan","done","came","letters","ended"]
def PN(LN G5 Cw pl M Be:Nat):O:=⟨.ins "Run" oY,[.ref LN,.tup [.ref G5,.ref Cw],.ref pl,.ref M,.int (Be:Int),.ref (M+1),.ref (M+2)]⟩
def Nb{c f:Str}{ns ns':↑Str}{us rz:↑W}{v:BB}{ρ:BC}{h X Y:A6}{w:W}(h0:ρ[0]?=↥↥(.ref ⇑h))(ev:v ρ (h++(⟨.ins c ns,us⟩::X))=.ok (w,h++(⟨.ins c ns,us⟩::(X++Y))))(l:⇑ns<1000)(AD:TG ns f=ns')(AH:SN ns us f w=rz):FI c f π v ρ (h++(⟨.ins c ns,us⟩::X))=.ok (.AT ρ,h++(⟨.ins c ns',rz⟩::(X++Y))):=by rw[Ur,ev,A3,v_var,h0,Cf,A3];rw[TJ (Fx h _) l AD AH,TQ];rfl
def Iz(L:Nat)(cs:↑Nat)(ws:ν)(A B:↑↑Cs)(ps:↑Co):A6:=[⟨.lst,Bi cs⟩,⟨.lst,ws.map CH⟩,N3 cs ws (L+4),Hq ws]++G6 (L+5) A++G6 (L+6+⇑A) B++[⟨.lst,ps.map Ap⟩]
def XI(L:Nat)(cs:↑Nat)(ws:ν)(A B:↑↑Cs)(ps:↑Co):⇑(Iz L cs ws A B ps)=⇑A+⇑B+7:=by simp[Iz,MD];lia
def fg{cs:↑Nat}{ws:ν}(N:K3 cs ws){A B:↑↑Cs}(HY:HC cs A)(HN:HC cs B){ps:↑Co}(P:Q5 ⇑cs ps){h:A6}{m a b q:Nat}(Ra:Hj h m cs ws)(H6:Db h a A)(GV:Db h b B)(AW:h[q]?=↥⟨.lst,ps.map Ap⟩) :
  Ju [.ref ⇑h,.ref m,.ref a,.ref b,.ref q] (h++[⟨.ins "Run" [],[]⟩])=.ok (.non,h++(PN (⇑h+3) (⇑h+5) (⇑h+6+⇑A) (⇑h+7+⇑A+⇑B) (⇑h+8+⇑A+⇑B) 0::(Iz ⇑h cs ws A B ps++[⟨.lst,[]⟩,⟨.Al [],[]⟩,⟨.lst,[]⟩]))):=by
 have e:Ju [.ref ⇑h,.ref m,.ref a,.ref b,.ref q] (h++[⟨.ins "Run" [],[]⟩])=(ZR [χ,↥(.ref m),↥(.ref a),↥(.ref b),↥(.ref q)] (h++[⟨.ins "Run" [],[]⟩])).bind outF:=rfl;rw[e];obtain⟨ρ,CY⟩:∃ρ:BC,ρ=[χ,↥(.ref m),↥(.ref a),↥(.ref b),↥(.ref q)]:=ο;rw[<-CY];have Hf:ρ[0]?=↥↥(.ref ⇑h):=by rw[CY];rfl
 have v1:∀h',I 1 ρ h'=.ok (.ref m,h'):=by rw[CY];exact λ_=>rfl
 have v2:∀h',I 2 ρ h'=.ok (.ref a,h'):=by rw[CY];exact λ_=>rfl
 have Ri:∀h',I 3 ρ h'=.ok (.ref b,h'):=by rw[CY];exact λ_=>rfl
 have v4:∀h',I 4 ρ h'=.ok (.ref q,h'):=by rw[CY];exact λ_=>rfl
 have f9:=P.l;have c3:=HY.1;have WG:=HN.1;have s0:Fy (Aj 4 XV (A0 Ψ (A0 ac (A0 Cl (A0 XL A2))))) ρ (h++[⟨.ins "Run" [],[]⟩])=.ok (.AT ρ,h++[⟨.ins "Run" [],[]⟩]):=by erw[JK,J0,Bn,CJ,v1,v2,Ri,v4,A3,DV,FK,HU,if_true,af1 N.Fa HY HN (Ra.more _) (H6.more _) (GV.more _) P (C6 h AW _)]
 have s1:FI "Run" "net" π (Aj 1 WU υ) ρ (h++[⟨.ins "Run" [],[]⟩])=.ok (.AT ρ,h++(⟨.ins "Run" ["net"],[.ref (⇑h+3)]⟩::([]++[⟨.lst,Bi cs⟩,⟨.lst,ws.map CH⟩,N3 cs ws (⇑h+4),Hq ws]))):=by refine Nb Hf ?_ ε rfl rfl;erw[J0,Bn,CJ,v1,A3,DV,FK,HU,if_true,acU N (Ra.more _)];rw[ET,EM];rfl
 obtain⟨Q9,Cu⟩:∃X:A6,X=[]++[⟨.lst,Bi cs⟩,⟨.lst,ws.map CH⟩,N3 cs ws (⇑h+4),Hq ws]:=ο;have Cp:⇑Q9=4:=by rw[Cu];rfl
 rw[<-Cu]at s1;have s2:FI "Run" "books" π (BX (A0 (Aj 1 S2 ω) (A0 (Aj 1 S2 (A0 Cl A2)) A2))) ρ (h++(⟨.ins "Run" ["net"],[.ref (⇑h+3)]⟩::Q9))=.ok (.AT ρ,h++(⟨.ins "Run" ["net","books"],[.ref (⇑h+3),.tup [.ref (⇑h+5),.ref (⇑h+6+⇑A)]]⟩::(Q9++(G6 (⇑h+5) A++G6 (⇑h+6+⇑A) B)))):=by
  refine Nb Hf ?_ ε rfl rfl;have By:=jK N.Fa HY (H6.more (⟨.ins "Run" ["net"],[.ref (⇑h+3)]⟩::Q9));have C5:⇑(h++(⟨.ins "Run" ["net"],[.ref (⇑h+3)]⟩::Q9))=⇑h+5:=by simp[Cp]
  rw[C5,ET]at By;have Cz:=jK N.Fa HN (GV.more ((⟨.ins "Run" ["net"],[.ref (⇑h+3)]⟩::Q9)++G6 (⇑h+5) A));have B3:⇑(h++((⟨.ins "Run" ["net"],[.ref (⇑h+3)]⟩::Q9)++G6 (⇑h+5) A))=⇑h+6+⇑A:=by simp[Cp,MD];lia
  rw[B3]at Cz;erw[QT,J0,Bn,CJ,v2,Ri,A3,DV,FK,HU,if_true,By,Cz];rw[if_pos ε];simp
 obtain⟨Tc,Ca⟩:∃X:A6,X=Q9++(G6 (⇑h+5) A++G6 (⇑h+6+⇑A) B):=ο;have Ck:⇑Tc=6+⇑A+⇑B:=by rw[Ca];simp[Cp,MD];lia
 rw[<-Ca]at s2;have s3:FI "Run" "plan" π (Aw Dn (A0 XL A2)) ρ (h++(⟨.ins "Run" ["net","books"],[.ref (⇑h+3),.tup [.ref (⇑h+5),.ref (⇑h+6+⇑A)]]⟩::Tc))=.ok (.AT ρ,h++(⟨.ins "Run" ["net","books","plan"],[.ref (⇑h+3),.tup [.ref (⇑h+5),.ref (⇑h+6+⇑A)],.ref (⇑h+7+⇑A+⇑B)]⟩::(Tc++[⟨.lst,ps.map Ap⟩]))):=by
  refine Nb Hf ?_ ε rfl rfl;have By:Dn [.ref q] (h++(⟨.ins "Run" ["net","books"],[.ref (⇑h+3),.tup [.ref (⇑h+5),.ref (⇑h+6+⇑A)]]⟩::Tc))=_:=Py (GZ _ (C6 h AW _)) (by rw[Ch];unfold Ay;lia);erw[GP,Bn,CJ,v4,A3,By];have:⇑(h++(⟨.ins "Run" ["net","books"],[.ref (⇑h+3),.tup [.ref (⇑h+5),.ref (⇑h+6+⇑A)]]⟩::Tc))=⇑h+7+⇑A+⇑B:=by simp[Ck];lia
  rw[this,ET];rfl
 obtain⟨PG,Ed⟩:∃X:A6,X=Tc++[⟨.lst,ps.map Ap⟩]:=ο;have Mx:⇑PG=7+⇑A+⇑B:=by rw[Ed];simp[Ck];lia
 rw[<-Ed]at s3;obtain⟨us,FZ⟩:∃us:↑W,us=[.ref (⇑h+3),.tup [.ref (⇑h+5),.ref (⇑h+6+⇑A)],.ref (⇑h+7+⇑A+⇑B)]:=ο;have s4:FI "Run" "done" π (BU A2) ρ (h++(⟨.ins "Run" ["net","books","plan"],[.ref (⇑h+3),.tup [.ref (⇑h+5),.ref (⇑h+6+⇑A)],.ref (⇑h+7+⇑A+⇑B)]⟩::PG))=.ok (.AT ρ,h++(⟨.ins "Run" ["net","books","plan","done"],[.ref (⇑h+3),.tup [.ref (⇑h+5),.ref (⇑h+6+⇑A)],.ref (⇑h+7+⇑A+⇑B),.ref (⇑h+8+⇑A+⇑B)]⟩::(PG++[⟨.lst,[]⟩]))):=by refine Nb Hf ?_ ε rfl rfl;rw[JL,CJ,A3,Gu _ γ];simp[Mx];lia
 have s5:FI "Run" "came" π η ρ (h++(⟨.ins "Run" ["net","books","plan","done"],[.ref (⇑h+3),.tup [.ref (⇑h+5),.ref (⇑h+6+⇑A)],.ref (⇑h+7+⇑A+⇑B),.ref (⇑h+8+⇑A+⇑B)]⟩::(PG++[⟨.lst,[]⟩])))=.ok (.AT ρ,h++(⟨.ins "Run" ["net","books","plan","done","came"],[.ref (⇑h+3),.tup [.ref (⇑h+5),.ref (⇑h+6+⇑A)],.ref (⇑h+7+⇑A+⇑B),.ref (⇑h+8+⇑A+⇑B),.int 0]⟩::(PG++[⟨.lst,[]⟩]++[]))):=by refine Nb Hf ?_ ε rfl rfl;rw[L2];rfl
 rw[L2]at s5;have s6:FI "Run" "letters" π (KY false) ρ (h++(⟨.ins "Run" ["net","books","plan","done","came"],[.ref (⇑h+3),.tup [.ref (⇑h+5),.ref (⇑h+6+⇑A)],.ref (⇑h+7+⇑A+⇑B),.ref (⇑h+8+⇑A+⇑B),.int 0]⟩::(PG++[⟨.lst,[]⟩])))=.ok (.AT ρ,h++(⟨.ins "Run" ["net","books","plan","done","came","letters"],[.ref (⇑h+3),.tup [.ref (⇑h+5),.ref (⇑h+6+⇑A)],.ref (⇑h+7+⇑A+⇑B),.ref (⇑h+8+⇑A+⇑B),.int 0,.ref (⇑h+8+⇑A+⇑B+1)]⟩::(PG++[⟨.lst,[]⟩]++[⟨.Al [],[]⟩]))):=by refine Nb Hf ?_ ε rfl rfl;have:∀h':A6,KY false ρ h'=.ok (.ref ⇑h',h'++[⟨.Al [],[]⟩]):=λh'=>rfl;rw[this];simp[Mx];lia
 have s7:FI "Run" "ended" π (BU A2) ρ (h++(⟨.ins "Run" ["net","books","plan","done","came","letters"],[.ref (⇑h+3),.tup [.ref (⇑h+5),.ref (⇑h+6+⇑A)],.ref (⇑h+7+⇑A+⇑B),.ref (⇑h+8+⇑A+⇑B),.int 0,.ref (⇑h+8+⇑A+⇑B+1)]⟩::(PG++[⟨.lst,[]⟩]++[⟨.Al [],[]⟩])))=.ok (.AT ρ,h++(PN (⇑h+3) (⇑h+5) (⇑h+6+⇑A) (⇑h+7+⇑A+⇑B) (⇑h+8+⇑A+⇑B) 0::(PG++[⟨.lst,[]⟩]++[⟨.Al [],[]⟩]++[⟨.lst,[]⟩]))):=by refine Nb Hf ?_ ε rfl rfl (w:=.ref (⇑h+8+⇑A+⇑B+2));rw[JL,CJ,A3,Gu _ γ];simp[Mx];lia
 unfold ZR;rw[B2,s0,A3,B9,B2,s1,A3,B9,B2,s2,A3,B9,B2,s3,A3,B9,B2,s4,A3,B9,B2,s5,A3,B9,B2,s6,A3,B9,s7,A3,oC];rw[Ed,Ca,Cu,Iz];simp
end FT
namespace Bq
noncomputable def JW(o:Option W)(ρ:BC):FU:=match o with
 |some v=>.EX v
 |none=>.AT ρ
theorem dz{α β:Type}(p:α->Bool)(f:α->β):∀l:↑α,l.findSome? (λa=>if p a=true then↥(f a)else none)=(l.find? p).map f
 |[]=>rfl
 |a::l=>by
  rw[List.findSome?_cons,Qz];cases h:p a
  .simpa using dz p f l
  .rfl
def dk{mi:GT}{it:HF}{g:DM}{b:Ak}{ρ:BC}{h h0:A6}(n:Nat)(AM:n<1000)(wf:Nat->W)(BH:BC->Prop)(q:Nat->Option W)(hi:mi ρ h0=.ok (it,h))(hit:∀j,j<=n->it j h=↥(if j<n then↥(wf j)else none))(et:BH ρ)(Do:∀j,j<n->∀ρ,BH ρ->∃CS Ds,g (wf j) ρ h=.ok (.AT CS,h)/\BH Ds/\b CS h=.ok (JW (q j) Ds,h)) :
  ∃Ee,BH Ee/\Ew mi g b ρ h0=.ok (JW ((Cn n).findSome? q) Ee,h):=by
 have:=di (mi:=mi) (it:=it) (g:=g) (b:=b) (ρ:=ρ) (h:=h0) (h0:=h) n AM (λj ρ h'=>j<=n/\BH ρ/\h'=h/\(Cn j).findSome? q=none)
  (T:=λf h'=>h'=h/\∃Ee,BH Ee/\f=JW ((Cn n).findSome? q) Ee) hi ⟨IC _,et,rfl,rfl⟩ (by
  rintro j ρ _ ⟨Ar,i,rfl,e⟩;rw[hit j Ar];by_cases DH:j<n
  .obtain⟨CS,Ds,AD,FO,AH⟩:=Do j DH ρ i;refine .inr ⟨wf j,by rw[if_pos DH],DH,CS,_,AD,?_⟩;rw[AH];cases eq:q j with
   |none=>erw[JW,VX,a3];refine⟨DH,FO,trivial,?_⟩;rw[Z8,hv,e];simp[eq]
   |some v=>
    erw[JW,VX,uQ];refine⟨trivial,Ds,FO,?_⟩;have:(Cn n).findSome? q=↥v:=by
     have h2:Cn n=Cn j++(j::(List.range' (j+1) (n-(j+1)))):=by have:=List.range'_append_1 (s:=0) (m:=j) (n:=n-j);rw[Nat.zero_add,<-tn,show j+(n-j)=n by lia,<-tn]at this;rw[<-this,show n-j=(n-(j+1))+1 by lia,List.range'_succ]
     rw[h2,hv,e];simp[eq]
    rw[this]
  .have:j=n:=δ
   subst this;refine .inl ⟨by rw[if_neg DH],rfl,ρ,i,?_⟩;rw[e];rfl)
 obtain⟨f,h',C2,rfl,Ee,aak,rfl⟩:=this.HM;exact⟨Ee,aak,C2⟩
def ag4(n j:Nat)(h:A6):LS 0 n j h=↥(if j<n then↥(.int (j:Int))else none):=by simp[LS]
def adJ{h:A6}{n:Nat}{α:Type}{f:α->W}{l:↑α}{d:α}(e:h[n]?=↥⟨.lst,l.map f⟩)(j:Nat):GC (.ref n) j h=↥(if j< ⇑l then↥(f (l.getD j d))else none):=by
 rw[Nn e,E7];by_cases Ar:j< ⇑l
 .rw[if_pos Ar,CT Ar,Ef,CT Ar];rfl
 .rw[if_neg Ar,Jl δ];rfl
def xN{h:A6}{n:Nat}{α:Type}{f:α->W}{l:↑α}{d:α}(e:h[n]?=↥⟨.lst,l.map f⟩)(j:Nat)(Ar:j<=⇑l):QI (.ref n) j h=↥(if j< ⇑l then↥(.tup [.int (j:Int),f (l.getD j d)])else none):=by
 erw[QI,P1 h e,Ch];by_cases DH:j< ⇑l
 .rw[if_neg δ,if_pos DH,E7,CT DH,Ef,CT DH];rfl
 .rw[if_pos δ,if_neg DH]
@[simp] theorem alb(f g k:DM)(x y z:W)(ρ:BC)(h:A6):Ei [f,g,k] (.tup [x,y,z]) ρ h=(f x ρ h).bind (PQ λρ h=>(g y ρ h).bind (PQ λρ h=>(k z ρ h).bind (PQ Bj))):=by
  erw[Ei,Ui,DV,FK,Up,B2];rw[if_pos trivial]
  congr
end Bq
namespace FT
def Gx(k:Nat):Nat:=[8,4,2,1].getD k 1
noncomputable def aM(x:Str)(a k:Nat):Bool:=x.cps.toList.getD k 0==120||x.cps.toList.getD k 0==48+a/Gx k%2
def Mm(x:Str)(a:Nat):Bool:=(Cn 4).all (aM x a)
def t7(k:Nat):0<Gx k:=by
 unfold Gx;by_cases h:k<4
 .rcases(by lia:k=0\/k=1\/k=2\/k=3)with rfl|rfl|rfl|rfl<;>decide
 .rw[Ef,Jl (by simp;lia)];decide
def ahC{c:Nat}(s:LX c)(b:Nat)(A5:b<2)(h:A6):E1 true (.str ⟨#[c]⟩) (.tup [.str (AL "x"),.str (toString ((b:Nat):Int))]) h=.ok (.AN (c==120||c==48+b),h):=by
 rw[Wq (d:=.str ⟨#[c]⟩) (t:=true) (ds:=[.str (AL "x"),.str (toString ((b:Nat):Int))]) rfl (by simp[CD]) (by simp[CD])];have:b=0\/b=1:=δ
 rcases this with rfl|rfl<;>rcases s with rfl|rfl|rfl<;>rfl
def aev(h:A6){k:Nat}(AR:k<4):A8 (.ref ⇑h) (.int (k:Int)) (h++[⟨.lst,[.int 8,.int 4,.int 2,.int 1]⟩])=.ok (.int (Gx k:Nat),h++[⟨.lst,[.int 8,.int 4,.int 2,.int 1]⟩]):=by refine E2 (Fx h _) ?_;rcases(by lia:k=0\/k=1\/k=2\/k=3)with rfl|rfl|rfl|rfl<;>rfl
def gf{x:Str}(p:Rc x){k:Nat}(AR:k<4):LX (x.cps.toList.getD k 0):=by have D5:=p.l;rw[Ef,CT δ];exact p.s _ (Jm _)
def ahB{x:Str}(p:Rc x){k:Nat}(AR:k<4)(h:A6):A8 (.str x) (.int (k:Int)) h=.ok (.str ⟨#[x.cps.toList.getD k 0]⟩,h):=by
 have D5:=p.l;have e:JT x.cps.toList (k:Int)=↥(x.cps.toList.getD k 0):=by unfold JT Lv;rw[if_pos δ,if_pos δ];erw[R5,iD,Ef];rw[CT δ];rfl
 have BE:⇑x<=Ay:=by rw[str_len,D5];decide
 show Pt (.str x) (.int (k:Int)) h=_;unfold Pt;erw[if_pos BE,e]
def xS(c:Nat)(s:LX c)(h:A6):As false (.str ⟨#[c]⟩) (.str (AL "x")) h=.ok (.AN (!(c==120)),h):=by rw[nz];rcases s with rfl|rfl|rfl<;>rfl
def aer(h:A6){b:Nat}(A5:b<2):A8 (.str (AL "01")) (.int (b:Int)) h=.ok (.str ⟨#[48+b]⟩,h):=by
 have:b=0\/b=1:=δ
 rcases this with rfl|rfl<;>rfl
def xR(c:Nat)(s:LX c){b:Nat}(A5:b<2)(h:A6):As false (.str ⟨#[c]⟩) (.str ⟨#[48+b]⟩) h=.ok (.AN (!(c==48+b)),h):=by
 rw[nz];have:b=0\/b=1:=δ
 rcases this with rfl|rfl<;>rcases s with rfl|rfl|rfl<;>rfl
def fD:Ak:=AO (AZ (BJ (A1 BY (A1 Cq Ψ (A1 A8 (BU (A0 (pu (.int 8)) (A0 (pu (.int 4)) (A0 τ (A0 ζ A2))))) ac)) τ)) (AC 3))
    (Bp (GN (Aa (A1 (As false) (A1 A8 π ac) (pu (.str (AL "x"))))) (Aa (A1 (As false) (A1 A8 π ac) (A1 A8 (pu (.str (AL "01"))) Cl)))) ST Bj)
def t6(k:Nat):Gx k<=8:=by
 unfold Gx;by_cases h:k<4
 .rcases(by lia:k=0\/k=1\/k=2\/k=3)with rfl|rfl|rfl|rfl<;>decide
 .rw[Ef,Jl (by simp;lia)];decide
def range_all{n:Nat}{p:Nat->Bool}{v:W}:(Cn n).findSome? (λj=>if p j=true then none else↥v)=if(Cn n).all p=true then none else↥v:=by
 induction n with
 |zero=>rfl
 |succ n CI=>rw[Z8,hv,CI,List.all_append];cases(Cn n).all p<;>cases h:p n<;>simp[h]
def ad6{x:Str}(p:Rc x)(a:Nat)(h:A6):UA [.str x,.int (a:Int)] h=.ok (.AN (Mm x a),h):=by
 obtain⟨Ee,_,e⟩:=dk (mi:=Dg (A0 (pu (.int 4)) A2)) (g:=AC 2) (b:=fD) (ρ:=[↥(.str x),ς,none,none]) (h:=h) (h0:=h) 4 δ (λj=>.int (j:Int)) (λρ=>∃s t,ρ=[↥(.str x),ς,s,t]) (λj=>if aM x a j=true then none else↥(.AN false)) (LR (n:=4) γ δ) (λj _=>ag4 4 j h) ⟨none,none,rfl⟩ (by
  rintro j Ar _ ⟨s,t,rfl⟩;have Fv:a/Gx j%2<2:=VN _ δ;have q:=t7 j;have Qm:=t6 j;refine⟨[↥(.str x),ς,ψ,t],[↥(.str x),ς,ψ,↥(.int ((a/Gx j%2:Nat):Int))],γ,⟨_,_,rfl⟩,?_⟩;have By:(0:Int)<(Gx j:Int)/\(Gx j:Int)<1073741824:=δ
  have s1:AZ (BJ (A1 BY (A1 Cq Ψ (A1 A8 (BU (A0 (pu (.int 8)) (A0 (pu (.int 4)) (A0 τ (A0 ζ A2))))) ac)) τ)) (AC 3) [↥(.str x),ς,ψ,t] h=.ok (.AT [↥(.str x),ς,ψ,↥(.int ((a/Gx j%2:Nat):Int))],h):=by have EP:=aev h Ar;erw[Dr,FJ,BQ,JL,Bn,CJ,v_var,Bk,Da,ES,Cf,A3,Gu h (show⇑([.int 8,.int 4,.int 2,.int 1]:↑W)<=Ay by decide),EP,N5,if_pos By,Kb,if_pos (show(0:Int)<2 by decide)];rw[XO _ _ _ γ];simp
  have Cu:=ahB p Ar h;unfold fD;rw[B2,s1,A3,B9,E6];erw[v_and,Hx,BQ,v_var,Bk,Da,ES,Cf,A3,Cu,xS _ (gf p Ar),Hn,aer h Fv,xR _ (gf p Ar) Fv];have C2:aM x a j=(x.cps.toList.getD j 0==120||x.cps.toList.getD j 0==48+a/Gx j%2):=rfl;rw[C2];cases h1:x.cps.toList.getD j 0==120<;>cases h2:x.cps.toList.getD j 0==48+a/Gx j%2<;>simp[JW])
 have CM:UA [.str x,.int (a:Int)] h=((AO (Ew (Dg (A0 (pu (.int 4)) A2)) (AC 2) fD) (B7 (pu (.AN true))) [↥(.str x),ς,none,none] h).bind outF).bind λp=>settle h p.1 p.2:=rfl;rw[CM,B2,e,range_all];unfold Mm;cases(Cn 4).all (aM x a)<;>simp[JW]
noncomputable def Xw(x:Str)(k:Nat):W:=.tup [.str ⟨#[x.cps.toList.getD k 0]⟩,.int (Gx k:Nat)]
noncomputable def e0(a:Nat):W->Bool
 |.tup [.str s,.int v]=>s.cps.toList.getD 0 0==120||s.cps.toList.getD 0 0==48+a/v.toNat%2
 |_=>false
def jZ{a:Nat}(AG:a<16)(h:A6):U4 [.int (a:Int)] h=.ok Tm:=by have w:=Us (a:Int) 0 15 h;rw[decide_eq_true (show(0:Int)<=(a:Int)by lia),decide_eq_true (show(a:Int)<=15 by lia)]at w;simp[U4,cy,Vr,w]
def y4{x:Str}(p:Rc x){a:Nat}(AG:a<16)(h:A6):W1 [.str x,.int (a:Int)] h=.ok (.AN (Mm x a),h):=by
 have D5:=p.l;have al:=cb (mi:=WQ (A0 π (A0 (pu PK) A2))) (it:=YA x [.int 8,.int 4,.int 2,.int 1]) (g:=Ei [(AC 0),(AC 1)]) (e:=A1 (E1 true) π (BX (A0 (pu (.str (AL "x"))) (A0 (Aw Qr (A0 (A1 BY (A1 Cq ac Ψ) τ) A2)) A2)))) (ρ:=[↥(.str x),ς]) (h:=h) (nl:=2) (caps:=[1]) ((Cn 4).map (Xw x)) (e0 a) (λρ=>∃s t,ρ=[s,t,ς]) γ (by simp[WQ,PK]) ⟨none,none,rfl⟩ (λj acc Ar=>by
   erw[Ch,iA]at Ar;have AQ:x.cps.size=4:=D5;unfold YA;erw[AQ,DV,FK];by_cases DH:j<4
   .rw[if_neg δ];rw[E7,Sk DH,Lj δ];rcases(by lia:j=0\/j=1\/j=2\/j=3)with rfl|rfl|rfl|rfl<;>simp[Xw,Gx,AQ]
   .have:j=4:=δ
    subst this;rfl) (by
  rintro w hw ρ acc ⟨s,t,rfl⟩;obtain⟨k,AR,rfl⟩:=List.mem_map.mp hw;have AR:=List.mem_range.mp AR;have q:=t7 k;have Qm:=t6 k;have Fv:a/Gx k%2<2:=VN _ δ;refine⟨[↥(.str ⟨#[x.cps.toList.getD k 0]⟩),↥(.int (Gx k:Nat)),ς],by simp[Xw],⟨_,_,rfl⟩,?_⟩;have By:(0:Int)<(Gx k:Int)/\(Gx k:Int)<1073741824:=δ
  have AH:(a:Int)/(Gx k:Int)%2=((a/Gx k%2:Nat):Int):=γ
  have st:∀g:A6,Qr [.int ((a/Gx k%2:Nat):Int)] g=.ok (.str (toString ((a/Gx k%2:Nat):Int)),g):=λg=>by unfold Qr;dsimp only;rw[if_pos];rcases(by lia:a/Gx k%2=0\/a/Gx k%2=1)with e|e<;>rw[e]<;>decide
  erw[BQ,QT,Bn,CJ,GP,v_var,Bk,Da,ES,Cf,A3,N5,if_pos By,Kb,if_pos (show(0:Int)<2 by decide),AH,st];rw[if_pos (by simp[Ay]),A3,ahC (gf p AR) _ Fv];simp[e0,Xw])
 have BS:((Cn 4).map (Xw x)).all (e0 a)=Mm x a:=by
  unfold Mm;rw[OI]
  congr 1
 rw[BS]at al;have vU:BJ (Aw (IV true) (A0 (DZ 2 [1] (WQ (A0 π (A0 (pu PK) A2))) (Ei [(AC 0),(AC 1)]) (pu true) (A1 (E1 true) π (BX (A0 (pu (.str (AL "x"))) (A0 (Aw Qr (A0 (A1 BY (A1 Cq ac Ψ) τ) A2)) A2))))) A2)) [↥(.str x),ς] h=.ok (.AN (Mm x a),h):=by rw[FJ,al];simp
 simp[-FJ,W1,cx,nS p,jZ AG,vU]
end FT
namespace Bq
def y3{n:Nat}{p:Nat->Bool}{k:Nat}(h:(Cn n).find? p=↥k):k<n/\p k=true:=⟨List.mem_range.mp (tP h),List.find?_some h⟩
end Bq
namespace FT
def Ih:Cs:=⟨AL "",none,none⟩
def Mb(i a:Nat)(r:Cs):Bool:=(r.a.isNone||r.a==↥i)&&Mm r.p a
def TK(Ba:↑Cs)(i a:Nat):Option Nat:=(Cn ⇑Ba).find? λj=>Mb i a (Ba.getD j Ih)
inductive Tl where
 |at (d:Ae)|drop (h:Nat)|out (d:Ae)|Nm (h:Nat)
noncomputable def CR:Tl->W
 |.at d=>.tup [.str (AL "at"),.int (d.1:Int),.int (d.2:Int)]
 |.drop h=>.tup [.str (AL "drop"),.int (h:Int)]
 |.out d=>.tup [.str (AL "out"),.int (d.1:Int),.int (d.2:Int)]
 |.Nm h=>.tup [.str (AL "lost"),.int (h:Int)]
@[simp] theorem akq(t:Tl):DP (CR t)=true:=by cases t<;>simp[CR]
def LO(ws:ν)(h:Nat):Option Nat->Tl
 |none=>.drop h
 |some o=>match Eg ws (h,o)with
  |none=>.out (h,o)
  |some e=>.at e
def O_(ws:ν)(Ba:↑Cs)(d:Ae)(a:Nat):Tl:=match TK Ba d.2 a with
 |none=>.drop d.1
 |some k=>LO ws d.1 (Ba.getD k Ih).b
def kv(h:A6)(o:Option Nat):Ej true (DA o) .non h=.ok (.AN o.isNone,h):=by cases o<;>rfl
def jx(h:A6)(o:Option Nat)(i:Nat)(ho:o.isNone=false):As true (DA o) (.int (i:Int)) h=.ok (.AN (o==↥i),h):=by
 cases o with
 |none=>cases ho
 |some k=>
  rw[DA,Xf]
  congr 3
  by_cases e:k=i
  .subst e;simp
  .have:¬(k:Int)=(i:Int):=δ
   simp[e,this]
def getD_mem{α:Type}{l:↑α}{k:Nat}{d:α}(h:k< ⇑l):l.getD k d∈l:=by rw[Ef,CT h];exact Jm _
def hM:Ak:=Bp (GN (Fq (Aa (A1 (Ej true) (A1 A8 XL ζ) Ty)) (Aa (A1 Φ (A1 A8 XL ζ) Ψ))) (Aa (Aj 2 W1 (A0 (A1 A8 XL η) ω)))) (B7 Cl) Bj
def agx{c:Nat}{Ba:↑Cs}(ok:LF c Ba){h:A6}{b i a:Nat}(AG:a<16)(BE:h[b]?=↥(FX Ba)):XW [.ref b,.int (i:Int),.int (a:Int)] h=.ok (DA (TK Ba i a),h):=by
 have abx:=ok.1;obtain⟨Ee,_,e⟩:=dk (mi:=QZ Γ) (it:=QI (.ref b)) (g:=Ei [(AC 3),(AC 4)]) (b:=hM) (ρ:=[↥(.ref b),↥(.int (i:Int)),ς,none,none]) (h:=h) (h0:=h) ⇑Ba δ (λj=>.tup [.int (j:Int),EK (Ba.getD j Ih)]) (λρ=>∃s t,ρ=[↥(.ref b),↥(.int (i:Int)),ς,s,t]) (λj=>if Mb i a (Ba.getD j Ih)=true then↥(.int (j:Int))else none) (by simp[QZ,P1 h BE]) (λj Ar=>xN BE j Ar) ⟨none,none,rfl⟩ (by
  rintro j Ar _ ⟨s,t,rfl⟩;obtain⟨r,B5⟩:∃r,r=Ba.getD j Ih:=ο;have gH:=ok.2 r (B5▸getD_mem Ar);rw[<-B5];refine⟨[↥(.ref b),↥(.int (i:Int)),ς,ψ,↥(EK r)],[↥(.ref b),↥(.int (i:Int)),ς,ψ,↥(EK r)],γ,⟨_,_,rfl⟩,?_⟩;have x0:A8 (EK r) (.int 0) h=.ok (.str r.p,h):=Fp h _ _;have Cu:A8 (EK r) (.int 1) h=.ok (DA r.a,h):=Iu h _ _ _;have SK:=y4 gH.p AG h;unfold hM;rw[E6];erw[v_and,v_or,Hx,BQ,J0,Bn,CJ,v_var,Bk,Da,ES,Cf,A3,x0,Cu,kv,Hn,SK,DV,FK,HU,if_true];unfold Mb;cases h1:r.a.isNone
  .erw[MP,if_false,jx h _ i h1,A3,Hn,iP];cases h2:r.a==↥i<;>cases BO:Mm r.p a<;>simp[JW,x0,SK,BO]
  .cases BO:Mm r.p a<;>simp[JW,x0,SK,BO])
 rw[dz (λj=>Mb i a (Ba.getD j Ih)) (λj:Nat=>W.int (j:Int))]at e;have CM:XW [.ref b,.int (i:Int),.int (a:Int)] h=((AO (Ew (QZ Γ) (Ei [(AC 3),(AC 4)]) hM) (B7 Ty) [↥(.ref b),↥(.int (i:Int)),ς,none,none] h).bind outF).bind λp=>settle h p.1 p.2:=rfl;rw[CM,B2,e];unfold TK;cases(Cn ⇑Ba).find? λj=>Mb i a (Ba.getD j Ih)<;>simp[JW,DA]
def acz{cs:↑Nat}{ws:ν}{h:A6}{n:Nat}(A:Hj h n cs ws)(d:Ae):S1 [.ref n,AY d] h=.ok (IT (Eg ws d),h):=by
 obtain⟨f,AD,AH⟩:=A.ex;have f1:B8 "Net" "far" (.ref n) h=.ok (.ref f,h):=E_ AD rfl;have w4:Ov h (.ref f)=true:=by unfold Ov;erw[AH,Hq]
 have q:WM (B0 (B8 "Net" "far") π) Ψ [Ξ,↥(AY d)] h=.ok (IT (Eg ws d),h):=by unfold WM;erw[I_,Ia,v_var,Da,Cf,A3,f1,Ps,w4,if_true,ES,eR AH];cases Eg ws d<;>rfl
 simp[S1,cp,q]
def adu{cs:↑Nat}{ws:ν}{h:A6}{n b a c:Nat}{Ba:↑Cs}(A:Hj h n cs ws)(ok:LF c Ba)(BE:h[b]?=↥(FX Ba))(AG:a<16)(d:Ae):XT [.ref n,.ref b,AY d,.int (a:Int)] h=.ok (CR (O_ ws Ba d a),h):=by
 obtain⟨f,AD,AH⟩:=A.ex;have x0:A8 (AY d) (.int 0) h=.ok (.int (d.1:Int),h):=Fp h _ _;have Cu:A8 (AY d) (.int 1) h=.ok (.int (d.2:Int),h):=Iu h _ _ _;have Ce:=agx ok (i:=d.2) AG BE;have s1:AZ (Aj 3 XW (A0 Ψ (A0 (A1 A8 ac ζ) (A0 Cl A2)))) (AC 4) [Ξ,↥(.ref b),↥(AY d),ς,none,none,none] h=.ok (.AT [Ξ,↥(.ref b),↥(AY d),ς,↥(DA (TK Ba d.2 a)),none,none],h):=by erw[Dr,J0,Bn,CJ,BQ,v_var,Bk,Da,ES,Cf,A3,Cu,DV,FK,HU,if_true,Ce];rfl
 have CM:XT [.ref n,.ref b,AY d,.int (a:Int)] h=((b1 [Ξ,↥(.ref b),↥(AY d),ς,none,none,none] h).bind outF).bind λp=>settle h p.1 p.2:=rfl;rw[CM];unfold b1;rw[B2,s1,A3,B9]
 have tail:∀(t:Option Nat)(s4:Option W),((AO (Bp (Aa (A1 (Ej true) (I 5) Ty)) (B7 (BX (A0 (pu (.str (AL "drop"))) (A0 (A1 A8 ac η) A2)))) Bj)
  (AO (AZ (CV "Net" "beyond" 1 S1 π (A0 (BX (A0 (A1 A8 ac η) (A0 (I 5) A2))) A2)) (AC 6))
  (AO (Bp (Aa (A1 (Ej true) (I 6) Ty)) (B7 (BX (A0 (pu (.str (AL "out"))) (A0 (A1 A8 ac η) (A0 (I 5) A2))))) Bj)
  (B7 (BX (A0 (pu (.str (AL "at"))) (A0 (A1 A8 (I 6) η) (A0 (A1 A8 (I 6) ζ) A2)))))))) [Ξ,↥(.ref b),↥(AY d),ς,s4,↥(DA t),none] h)=.ok (.EX (CR (LO ws d.1 t)),h):=by
  intro t s4;cases t with
  |none=>simp[DA,Ej,Ni,x0,Ay,LO,CR]
  |some o=>
   have nb:=acz A (d.1,o);have Fz:CV "Net" "beyond" 1 S1 π (A0 (BX (A0 (A1 A8 ac η) (A0 (I 5) A2))) A2) [Ξ,↥(.ref b),↥(AY d),ς,s4,↥(DA ↥o),none] h=.ok (IT (Eg ws (d.1,o)),h):=MF (us:=[AY (d.1,o)]) rfl AD rfl (by rw[show AY (d.1,o)=.tup [.int (d.1:Int),.int (o:Int)]from rfl];simp[x0,Ay,DA]) rfl nb;have s6:AZ (CV "Net" "beyond" 1 S1 π (A0 (BX (A0 (A1 A8 ac η) (A0 (I 5) A2))) A2)) (AC 6) [Ξ,↥(.ref b),↥(AY d),ς,s4,↥(DA ↥o),none] h=.ok (.AT [Ξ,↥(.ref b),↥(AY d),ς,s4,↥(DA ↥o),↥(IT (Eg ws (d.1,o)))],h):=by rw[Dr,Fz];rfl
   have Mf:Aa (A1 (Ej true) (I 5) Ty) [Ξ,↥(.ref b),↥(AY d),ς,s4,↥(DA ↥o),none] h=.ok (false,h):=rfl;rw[B2,E6,Mf,A3,if_neg γ,GQ,A3,B9,B2,s6,A3,B9];cases BE:Eg ws (d.1,o)with
   |none=>simp[IT,Ej,Ni,x0,Ay,LO,BE,CR,DA]
   |some e=>have ajW:A8 (AY e) (.int 0) h=.ok (.int (e.1:Int),h):=Fp h _ _;have NE:A8 (AY e) (.int 1) h=.ok (.int (e.2:Int),h):=Iu h _ _ _;have Kh:Aa (A1 (Ej true) (I 6) Ty) [Ξ,↥(.ref b),↥(AY d),ς,s4,↥(DA ↥o),↥(IT ↥e)] h=.ok (false,h):=rfl;rw[B2,E6,Kh,A3,if_neg γ,GQ,A3,B9];simp[IT,ajW,NE,Ay,LO,BE,CR]
 unfold O_;cases C2:TK Ba d.2 a with
 |none=>have s2:AZ (No (Aa (A1 (Ej true) XL Ty)) Ty (A1 A8 (A1 A8 Ψ XL) τ)) (AC 5) [Ξ,↥(.ref b),↥(AY d),ς,↥(DA none),none,none] h=.ok (.AT [Ξ,↥(.ref b),↥(AY d),ς,↥(DA none),↥(DA none),none],h):=rfl;rw[B2,s2,A3,B9,tail none];simp[LO]
 |some k=>
  have AR:=(y3 C2).1;have Fi:A8 (.ref b) (.int (k:Int)) h=.ok (EK (Ba.getD k Ih),h):=E2 BE (by rw[E7,CT AR,Ef,CT AR];rfl);have F6:A8 (EK (Ba.getD k Ih)) (.int 2) h=.ok (DA (Ba.getD k Ih).b,h):=W7 h _ _ _ _;have hF:Aa (A1 (Ej true) XL Ty) [Ξ,↥(.ref b),↥(AY d),ς,↥(DA ↥k),none,none] h=.ok (false,h):=rfl;have s2:AZ (No (Aa (A1 (Ej true) XL Ty)) Ty (A1 A8 (A1 A8 Ψ XL) τ)) (AC 5) [Ξ,↥(.ref b),↥(AY d),ς,↥(DA ↥k),none,none] h=.ok (.AT [Ξ,↥(.ref b),↥(AY d),ς,↥(DA ↥k),↥(DA (Ba.getD k Ih).b),none],h):=by rw[Dr,aiE,hF,A3,if_neg γ];erw[BQ,v_var,Bk,Da,ES,Cf,A3,DA,Fi,F6];rfl
  rw[B2,s2,A3,B9,tail];simp
def fG:Ak:=Bp (GN (Aa (Aj 2 UA (A0 XL (A0 Cl A2)))) (Fq (Aa (A1 (Ej true) (I 5) Ty)) (Aa (A1 Φ (I 5) (A1 A8 ac ζ))))) (AO (Bp (Aa (A1 (Ej true) (I 6) Ty)) (B7 (BX (A0 (pu (.str (AL "drop"))) (A0 (A1 A8 ac η) A2)))) Bj)
    (AO (AZ (Aj 2 Qc (A0 π (A0 (BX (A0 (A1 A8 ac η) (A0 (I 6) A2))) A2))) (AC 7))
    (AO (Bp (Aa (A1 (Ej true) (I 7) Ty)) (B7 (BX (A0 (pu (.str (AL "out"))) (A0 (A1 A8 ac η) (A0 (I 6) A2))))) Bj)
    (B7 (A1 addW (BX (A0 (pu (.str (AL "at"))) A2)) (I 7)))))) Bj
def acZ{ws:ν}(few:⇑ws<100){h:A6}{n b a c:Nat}{Ba:↑Cs}(Au:h[n]?=↥⟨.lst,ws.map CH⟩)(ok:LF c Ba)(BE:h[b]?=↥(FX Ba))(d:Ae):UF [.ref n,.ref b,AY d,.int (a:Int)] h=.ok (CR (O_ ws Ba d a),h):=by
 have abx:=ok.1;have x0:A8 (AY d) (.int 0) h=.ok (.int (d.1:Int),h):=Fp h _ _;have Cu:A8 (AY d) (.int 1) h=.ok (.int (d.2:Int),h):=Iu h _ _ _;obtain⟨Ee,⟨s,t,u,v,rfl⟩,e⟩:=dk (mi:=D_ Ψ) (it:=GC (.ref b)) (g:=Ei [(AC 4),(AC 5),(AC 6)]) (b:=fG) (ρ:=[Ξ,↥(.ref b),↥(AY d),ς,none,none,none,none]) (h:=h) (h0:=h) ⇑Ba δ (λj=>EK (Ba.getD j Ih)) (λρ=>∃s t u v,ρ=[Ξ,↥(.ref b),↥(AY d),ς,s,t,u,v]) (λj=>if Mb d.2 a (Ba.getD j Ih)=true then↥(CR (LO ws d.1 (Ba.getD j Ih).b))else none) (Lg BE γ) (λj Ar=>adJ BE j) ⟨none,none,none,none,rfl⟩ (by
  rintro j Ar _ ⟨s,t,u,v,rfl⟩;obtain⟨r,B5⟩:∃r,r=Ba.getD j Ih:=ο;have gH:=ok.2 r (B5▸getD_mem Ar);rw[<-B5];refine⟨[Ξ,↥(.ref b),↥(AY d),ς,↥(.str r.p),↥(DA r.a),↥(DA r.b),v],[Ξ,↥(.ref b),↥(AY d),ς,↥(.str r.p),↥(DA r.a),↥(DA r.b),v],by simp[EK],⟨_,_,_,_,rfl⟩,?_⟩;have SK:=ad6 gH.p a h;have HR:GN (Aa (Aj 2 UA (A0 XL (A0 Cl A2)))) (Fq (Aa (A1 (Ej true) (I 5) Ty)) (Aa (A1 Φ (I 5) (A1 A8 ac ζ)))) [Ξ,↥(.ref b),↥(AY d),ς,↥(.str r.p),↥(DA r.a),↥(DA r.b),v] h=.ok (Mb d.2 a r,h):=by
   erw[v_and,v_or,Hx,BQ,J0,Bn,CJ,v_var,Bk,Da,ES,Cf,A3,Cu,kv,Hn,SK,DV,FK,HU,if_true];unfold Mb;cases h1:r.a.isNone
   .erw[MP,if_false,jx h _ d.2 h1,A3,Hn,iP];cases h2:r.a==↥d.2<;>cases BO:Mm r.p a<;>simp
   .cases BO:Mm r.p a<;>simp
  unfold fG;rw[E6,HR,A3];cases B6:Mb d.2 a r
  .simp[JW]
  .rw[if_pos rfl,if_pos rfl];cases F5:r.b with
   |none=>simp[DA,Ej,Ni,x0,Ay,LO,CR,JW]
   |some o=>
    have nb:=jC few Au (d.1,o);have s7:AZ (Aj 2 Qc (A0 π (A0 (BX (A0 (A1 A8 ac η) (A0 (I 6) A2))) A2))) (AC 7) [Ξ,↥(.ref b),↥(AY d),ς,↥(.str r.p),↥(DA r.a),↥(DA ↥o),v] h=.ok (.AT [Ξ,↥(.ref b),↥(AY d),ς,↥(.str r.p),↥(DA r.a),↥(DA ↥o),↥(IT (Eg ws (d.1,o)))],h):=by erw[AY]at nb;simp[x0,Ay,DA,nb]
    have Kh:Aa (A1 (Ej true) (I 6) Ty) [Ξ,↥(.ref b),↥(AY d),ς,↥(.str r.p),↥(DA r.a),↥(DA ↥o),v] h=.ok (false,h):=rfl;rw[B2,E6,Kh,A3,if_neg γ,GQ,A3,B9,B2,s7,A3,B9];cases BE:Eg ws (d.1,o)with
    |none=>simp[IT,Ej,Ni,x0,Ay,LO,BE,CR,DA,JW]
    |some e=>have Um:Aa (A1 (Ej true) (I 7) Ty) [Ξ,↥(.ref b),↥(AY d),ς,↥(.str r.p),↥(DA r.a),↥(DA ↥o),↥(IT ↥e)] h=.ok (false,h):=rfl;rw[B2,E6,Um,A3,if_neg γ,GQ,A3,B9];have ad:addW (.tup [.str (AL "at")]) (AY e) h=.ok (CR (.at e),h):=rfl;simp[IT,Ay,LO,BE,JW,ad])
 rw[dz (λj=>Mb d.2 a (Ba.getD j Ih)) (λj:Nat=>CR (LO ws d.1 (Ba.getD j Ih).b))]at e;have CM:UF [.ref n,.ref b,AY d,.int (a:Int)] h=((AO (Ew (D_ Ψ) (Ei [(AC 4),(AC 5),(AC 6)]) fG) (B7 (BX (A0 (pu (.str (AL "drop"))) (A0 (A1 A8 ac η) A2)))) [Ξ,↥(.ref b),↥(AY d),ς,none,none,none,none] h).bind outF).bind λp=>settle h p.1 p.2:=rfl;rw[CM,B2,e];unfold O_ TK;cases(Cn ⇑Ba).find? λj=>Mb d.2 a (Ba.getD j Ih)with
 |none=>simp[JW,x0,Ay,CR]
 |some k=>simp[JW]
end FT
namespace Bq
section
variable{Bt:Type}[DecidableEq Bt]
theorem Xm{k:Bt}{bs:↑Bt}{w:W}{vs:↑W}:∀{as:↑Bt}{us:↑W},k∉as->⇑as=⇑us->Dy (as++k::bs) (us++w::vs) k=↥w
 |[],[],_,_=>by simp[Dy]
 |a::as,u::us,n,l=>by have E4:a≠k:=λz=>n (z▸Hg ..);erw[HT,Dy,if_neg E4];exact Xm (λz=>n (Gy _ z)) (l:)
theorem oa{k:Bt}{x:W}:∀{as:↑Bt}{us:↑W},k∉as->⇑as=⇑us->Nz as us k x=us
 |[],[],_,_=>rfl
 |a::as,u::us,n,l=>by have E4:a≠k:=λz=>n (z▸Hg ..);erw[Nz,if_neg E4];rw[oa (λz=>n (Gy _ z)) (l:)]
theorem o_{k:Bt}{bs:↑Bt}{w x:W}{vs:↑W}(nb:k∉bs)(JZ:⇑bs=⇑vs):∀{as:↑Bt}{us:↑W},k∉as->⇑as=⇑us->Nz (as++k::bs) (us++w::vs) k x=us++x::vs
 |[],[],_,_=>by simp[Nz,oa nb JZ]
 |a::as,u::us,n,l=>by have E4:a≠k:=λz=>n (z▸Hg ..);erw[HT,Nz,if_neg E4];rw[o_ nb JZ (λz=>n (Gy _ z)) (l:)]
theorem kl{k:Bt}:∀{as:↑Bt}{us:↑W},k∉as->⇑as=⇑us->O8 as us k=us
 |[],[],_,_=>rfl
 |a::as,u::us,n,l=>by have E4:a≠k:=λz=>n (z▸Hg ..);erw[O8,if_neg E4];rw[kl (λz=>n (Gy _ z)) (l:)]
theorem kk{k:Bt}{bs:↑Bt}{w:W}{vs:↑W}(nb:k∉bs)(JZ:⇑bs=⇑vs):∀{as:↑Bt}{us:↑W},k∉as->⇑as=⇑us->O8 (as++k::bs) (us++w::vs) k=us++vs
 |[],[],_,_=>by simp[O8,kl nb JZ]
 |a::as,u::us,n,l=>by have E4:a≠k:=λz=>n (z▸Hg ..);erw[HT,O8,if_neg E4];rw[kk nb JZ (λz=>n (Gy _ z)) (l:)]
def xd{k:Bt}{as bs:↑Bt}(na:k∉as)(nb:k∉bs):(as++k::bs).filter (λx=>decide (x≠k))=as++bs:=by
 rw[List.filter_append,Qw,if_neg γ,List.filter_eq_self.mpr,List.filter_eq_self.mpr]
 .exact λa h=>(λz:a=k=>nb (z▸h):)
 .exact λa h=>(λz:a=k=>na (z▸h):)
end
def W8{h:A6}{n:Nat}{us:↑W}{w:W}(e:h[n]?=↥⟨.lst,us++[w]⟩):A8 (.ref n) (.int (-1)) h=.ok (w,h):=by
 have FY:Ho h (.ref n) (.int (-1))=none:=by erw[Ho,e]
 have AD:JT (us++[w]) (-1)=↥w:=by
  unfold JT Lv;rw[if_neg δ,if_pos (by simp;lia)];have:(-1+(⇑(us++[w]):Int)).toNat=⇑us:=by simp;lia
  erw[iD,this];simp
 unfold A8;rw[FY];unfold Pt;erw[GZ h e,AD]
def eQ{h:A6}{n:Nat}{AK:↑Key}{vs:↑W}(e:h[n]?=↥⟨.Al AK,vs⟩)(i:Int):Ho h (.ref n) (.int i)=↥(Dy AK vs (.inl i)):=by erw[Ho,e,keyOf,R0]
def kg{h:A6}{n:Nat}{AK:↑Key}{vs:↑W}{i:Int}{v:W}{ρ:BC}(e:h[n]?=↥⟨.Al AK,vs⟩)(Xd: .inl i∉AK)(l:⇑vs<Ay):Mj (.ref n) (.int i) v ρ h=.ok (.AT ρ,h.set n ⟨.Al (AK++[.inl i]),vs++[v]⟩):=by unfold Mj;erw[e,keyOf,if_pos l,M_,if_neg Xd]
def w7{h:A6}{n:Nat}{as bs:↑Key}{us vs:↑W}{i:Int}{w v:W}{ρ:BC}(e:h[n]?=↥⟨.Al (as++.inl i::bs),us++w::vs⟩)(na: .inl i∉as)(nb: .inl i∉bs)(Gr:⇑as=⇑us)(JZ:⇑bs=⇑vs)(l:⇑(us++w::vs)<Ay):Mj (.ref n) (.int i) v ρ h=.ok (.AT ρ,h.set n ⟨.Al (as++.inl i::bs),us++v::vs⟩):=by unfold Mj;erw[e,keyOf,if_pos l,M_];rw[if_pos γ,o_ nb JZ na Gr]
def kf{h:A6}{n:Nat}{as bs:↑Key}{us vs:↑W}{i:Int}{w:W}{ρ:BC}(e:h[n]?=↥⟨.Al (as++.inl i::bs),us++w::vs⟩)(na: .inl i∉as)(nb: .inl i∉bs)(Gr:⇑as=⇑us)(JZ:⇑bs=⇑vs):VS (.ref n) (.int i) ρ h=.ok (w,h.set n ⟨.Al (as++bs),us++vs⟩):=by unfold VS;erw[e,keyOf];rw[Xm na Gr,xd na nb,kk nb JZ na Gr]
def sm(d k:BB)(ρ:BC)(h:A6):Rz d k ρ h=(d ρ h).bind λp=>Ps p.1 (bd k λkw=>VS p.1 kw) ρ p.2:=rfl
end Bq
namespace FT
def Kg:Co->Ci
 |none=>.CW true [.str (AL "wait")]
 |some p=>.CW true [.str (HS p.1),.int (p.2:Int)]
def bJ(k:Nat)(h:A6)(s:Co):CD (k+2) h (Ap s)=↥(Kg s):=by cases s<;>simp[Ap,CD,Kg]
def jy{s:Co}{k hh:Nat}(AR:k<3)(AQ:∀p,s=↥p->p.1<3):eqT (Kg s) (.CW true [.str (HS k),.int (hh:Int)])=decide (s=↥(k,hh)):=by
 cases s with
 |none=>simp[Kg,eqT,Gk]
 |some p=>
  have BO:=AQ p rfl;erw[Kg,eqT,Gk,List.isEmpty_nil,iU,beq_self_eq_true,iT];by_cases e:p=(k,hh)
  .subst e;simp
  .rw[decide_eq_false (e:)];by_cases AD:p.1=k
   .have AH:p.2≠hh:=λz=>e (Prod.ext AD z);have:((p.2:Int)==(hh:Int))=false:=by simp;lia
    rw[this,V3]
   .have:(HS p.1==HS k)=false:=by
      rw[beq_eq_false_iff_ne];exact λz=>AD (t4 BO AR z)
    rw[this,Bool.false_and]
def UW{h:A6}{n k hh:Nat}{IN:↑Co}(b:Bool)(e:h[n]?=↥⟨.lst,IN.map Ap⟩)(AR:k<3)(hd:∀p,↥p∈IN->p.1<3):E1 b (.tup [.str (HS k),.int (hh:Int)]) (.ref n) h=.ok (.AN (if b then decide (↥(k,hh)∈IN)else !decide (↥(k,hh)∈IN)),h):=by
 have T8:Ho h (.ref n) (.tup [.str (HS k),.int (hh:Int)])=none:=by erw[Ho,e]
 have r:CD 8 h (.ref n)=↥(.CW false (IN.map Kg)):=by erw[CD,GZ h e];rw[mapM_some (CD 7 h) Ap Kg (λs=>bJ 5 h s) IN];rfl
 rw[Wq (d:=.CW true [.str (HS k),.int (hh:Int)]) T8 (by simp[CD]) r];have:(IN.map Kg).any (λy=>eqT y (.CW true [.str (HS k),.int (hh:Int)]))=decide (↥(k,hh)∈IN):=by
  rw[List.any_map];rw[Z6,List.any_eq_true,decide_eq_true_eq];constructor
  .rintro⟨s,AQ,q⟩;erw[Pa]at q;rw[jy AR (λp e=>hd p (e▸AQ)),decide_eq_true_eq]at q;exact q▸AQ
  .intro AQ;refine⟨_,AQ,?_⟩;erw[Pa];rw[jy AR (λp e=>hd p (e▸AQ))];simp
 rw[this]
structure Lt where
 n:Nat
 m:Nat
 a:Nat
 pre:↑Ae
 d:Ae
 B1:Nat
 Du:Nat
noncomputable def QY(l:Lt):O:=⟨.ins "Letter" ["mark","address","doors"],[.int (l.m:Int),.int (l.a:Int),.ref l.Du]⟩
def HH(l:Lt):O:=⟨.lst,(l.pre++[l.d]).map AY⟩
structure Dc where
 cs:↑Nat
 ws:ν
 A:↑↑Cs
 B:↑↑Cs
 ps:↑Co
 r:Nat
 M:Nat
 T:Nat
 LN:Nat
 G5:Nat
 Cw:Nat
 pl:Nat
 K:A6
def Ij:O:=⟨.H5 [],[]⟩
structure DK(C:Dc):Prop where
 N:K3 C.cs C.ws
 HY:HC C.cs C.A
 HN:HC C.cs C.B
 P:Q5 ⇑C.cs C.ps
 Xc:Hj C.K C.LN C.cs C.ws
 Kv:Db C.K C.G5 C.A
 MC:Db C.K C.Cw C.B
 pp:C.K[C.pl]?=↥⟨.lst,C.ps.map Ap⟩
 WE:C.K[C.r]?=↥Ij
 D8:⇑C.K<=C.M
 Dj:C.M+3<=C.T
structure PA(C:Dc)(h:A6)(l:Lt):Prop where
 Fw:h[l.B1]?=↥(QY l)
 CM:h[l.Du]?=↥(HH l)
 m:l.m<2
 a:l.a<16
 d:l.d∈DF C.cs ⇑C.cs
 t1:C.T<=l.B1
 CK:C.T<=l.Du
structure E0 where
 done:↑Co
 Be:Nat
 lets:↑Lt
 ended:↑(Lt×Tl)
 Cd:Nat
def CU(S:E0):↑Lt:=S.lets++S.ended.map (·.1)
def NZ(e:Lt×Tl):W:=.tup [.int (e.1.n:Int),.ref e.1.B1,CR e.2]
def EI(l:Lt):Key:=.inl (l.n:Int)
structure EC(C:Dc)(h:A6)(S:E0):Prop where
 Bf:∀(n:Nat) o,C.K[n]?=↥o->o≠Ij->h[n]?=↥o
 B5:h[C.r]?=↥(PN C.LN C.G5 C.Cw C.pl C.M S.Be)
 CM:h[C.M]?=↥⟨.lst,S.done.map Ap⟩
 el:h[C.M+1]?=↥⟨.Al (S.lets.map EI),S.lets.map λl=>.ref l.B1⟩
 Ik:h[C.M+2]?=↥⟨.lst,S.ended.map NZ⟩
 lt:∀l∈CU S,PA C h l
 Bz:((CU S).map (·.Du)).Nodup
 nn:(S.lets.map (·.n)).Nodup
 HL:∀l∈S.lets,l.n<S.Be
 IM:∀p,↥p∈S.done->p.1<3
 few:S.Be<1000
 le:⇑S.ended+⇑S.lets<=S.Be
 AF:C.T<=⇑h
 pr:∀l∈CU S,⇑l.pre<=S.Cd
section
variable{C:Dc}{h h':A6}{S:E0}
def PA.to{l:Lt}(x:PA C h l)(AD:h'[l.B1]?=h[l.B1]?)(AH:h'[l.Du]?=h[l.Du]?):PA C h' l:=⟨AD.trans x.Fw,AH.trans x.CM,x.m,x.a,x.d,x.t1,x.CK⟩
def DK.JF(c:DK C):C.r<C.M:=GG (Eu c.WE) c.D8
def EC.app(R:EC C h S)(g:A6):EC C (h++g) S:=by refine⟨λn o' k ne=>C6 h (R.Bf n o' k ne) g,C6 h R.B5 g,C6 h R.CM g,C6 h R.el g,C6 h R.Ik g,λl AF=>?_,R.Bz,R.nn,R.HL,R.IM,R.few,R.le,by have:=R.AF;simp;lia,R.pr⟩;have x:=R.lt l AF;exact⟨C6 h x.Fw g,C6 h x.CM g,x.m,x.a,x.d,x.t1,x.CK⟩
theorem EC.Xc(c:DK C)(R:EC C h S):Hj h C.LN C.cs C.ws:=by obtain⟨f,AD,AH⟩:=c.Xc.ex;exact⟨f,R.Bf _ _ AD (λz=>by cases z),R.Bf _ _ AH (λz=>by cases z)⟩
def T0{K:A6}(Bf:∀(n:Nat) o,K[n]?=↥o->o≠Ij->h[n]?=↥o){b:Nat}{B:↑↑Cs}(x:Db K b B):Db h b B:=by obtain⟨rs,e,l,r⟩:=x.ex;exact⟨rs,Bf _ _ e (λz=>by cases z),l,λi q AW=>Bf _ _ (r i q AW) (λz=>by cases z)⟩
end
section
variable{C:Dc}{h:A6}{S:E0}
noncomputable def Mw(IN:↑Co)(hh m:Nat):Bool:=if m=1 then decide (↥(0,hh)∈IN)else !decide (↥(2,hh)∈IN)
def abr(c:DK C)(R:EC C h S){hh m:Nat}(hm:m<2):U1 [.ref C.r,.int (hh:Int),.int (m:Int)] h=.ok (.AN (Mw S.done hh m),h):=by
 have fd:B8 "Run" "done" (.ref C.r) h=.ok (.ref C.M,h):=E_ R.B5 rfl;have Eo:=UW (hh:=hh) (k:=0) true R.CM δ R.IM;have FO:=UW (hh:=hh) (k:=2) false R.CM δ R.IM;rw[show HS 0=AL "teach" from rfl]at Eo;rw[show HS 2=AL "forget" from rfl]at FO;have:m=0\/m=1:=δ
 rcases this with rfl|rfl
 .simp[U1,ZT,fd,FO,Ay,Mw]
 .simp[U1,ZT,fd,Eo,Ay,Mw]
noncomputable def Ti(C:Dc)(m hh:Nat):↑Cs:=(if m=1 then C.B else C.A).getD hh []
def Hs(C:Dc)(IN:↑Co)(l:Lt):Tl:=if Mw IN l.d.1 l.m=true then O_ C.ws (Ti C l.m l.d.1) l.d l.a else .Nm l.d.1
def acY(c:DK C)(R:EC C h S){l:Lt}(x:PA C h l):U3 [.ref C.r,.ref l.B1] h=.ok (CR (Hs C S.done l),h):=by
 have kA:B8 "Run" "books" (.ref C.r) h=.ok (.tup [.ref C.G5,.ref C.Cw],h):=E_ R.B5 rfl;have fn:B8 "Run" "net" (.ref C.r) h=.ok (.ref C.LN,h):=E_ R.B5 rfl;have Oj:B8 "Letter" "mark" (.ref l.B1) h=.ok (.int (l.m:Int),h):=E_ x.Fw rfl;have ga:B8 "Letter" "address" (.ref l.B1) h=.ok (.int (l.a:Int),h):=E_ x.Fw rfl;have Lc:B8 "Letter" "doors" (.ref l.B1) h=.ok (.ref l.Du,h):=E_ x.Fw rfl;have Ea:A8 (.ref l.Du) (.int (-1)) h=.ok (AY l.d,h):=W8 (us:=l.pre.map AY) (by rw[x.CM];simp[HH]);have x0:A8 (AY l.d) (.int 0) h=.ok (.int (l.d.1:Int),h):=Fp h _ _;have hd:=(XZ.mp x.d).1;have k:=abr c R (hh:=l.d.1) x.m;have s1:AZ (A1 A8 (B0 (B8 "Letter" "doors") Ψ) (B0 G0 ζ)) (AC 2) [ι,↥(.ref l.B1),none] h=.ok (.AT [ι,↥(.ref l.B1),↥(AY l.d)],h):=by have OY:G0 (.int 1) h=.ok (.int (-1),h):=rfl;erw[Dr,BQ,Ia,v_var,Bk,Da,ES,Cf,A3,Lc,OY,Ea];rfl
 have Fz:CV "Run" "knows" 2 U1 π (A0 (A1 A8 ac η) (A0 (B0 (B8 "Letter" "mark") Ψ) A2)) [ι,↥(.ref l.B1),↥(AY l.d)] h=.ok (.AN (Mw S.done l.d.1 l.m),h):=MF (us:=[.int (l.d.1:Int),.int (l.m:Int)]) rfl R.B5 rfl (by simp[x0,Oj]) rfl k;have CM:U3 [.ref C.r,.ref l.B1] h=((ZV [ι,↥(.ref l.B1),none] h).bind outF).bind λp=>settle h p.1 p.2:=rfl;rw[CM];unfold ZV;rw[B2,s1,A3,B9,B2,E6,v_not,Hx,Fz,A3,Hn,A3,A3];unfold Hs;cases AR:Mw S.done l.d.1 l.m
 .simp[x0,Ay,CR]
 .have on:∀(b:Nat)(B:↑↑Cs),HC C.cs B->Db h b B->∃q,A8 (.ref b) (.int (l.d.1:Int)) h=.ok (.ref q,h)/\XT [.ref C.LN,.ref q,AY l.d,.int (l.a:Int)] h=.ok (CR (O_ C.ws (B.getD l.d.1 []) l.d l.a),h):=λb B ok at'=>by
    obtain⟨rs,e,QP,r⟩:=at'.ex;have B6:l.d.1< ⇑rs:=by rw[QP,ok.1];exact hd
    exact⟨rs[l.d.1],E2 e (by rw[E7,CT B6];rfl),adu (R.Xc c) (ok.2 _ hd) (r _ _ (CT B6)) x.a l.d⟩
  have:l.m=0\/l.m=1:=by have:=x.m;lia
  rcases this with e|e
  .obtain⟨q,AD,AH⟩:=on C.G5 C.A c.HY (T0 R.Bf c.Kv);simp[fn,kA,Oj,Fp,Iu,x0,AD,ga,AH,Ti,e,-Ef]
  .obtain⟨q,AD,AH⟩:=on C.Cw C.B c.HN (T0 R.Bf c.MC);simp[fn,kA,Oj,Fp,Iu,x0,AD,ga,AH,Ti,e,-Ef]
def ad_{cs:↑Nat}{ws:ν}{n:Nat}(A:Hj h n cs ws){d:Ae}(hd:d∈DF cs ⇑cs)(A5:Eg ws d=none):Tx [.ref n,AY d] h=.ok Tm:=by
 obtain⟨f,AD,AH⟩:=A.ex;have f1:B8 "Net" "far" (.ref n) h=.ok (.ref f,h):=E_ AD rfl;have f2:B8 "Net" "counts" (.ref n) h=.ok (.tup (Bi cs),h):=E_ AD rfl;have wF:WS [.ref n,AY d] h=.ok Tm:=by simp[WS,cr,f2,eT hd]
 have Fz:CV "Net" "is_door" 1 WS π υ [Ξ,↥(AY d)] h=.ok Tm:=MF (us:=[AY d]) rfl AD rfl rfl rfl wF;have Cb:E1 false (AY d) (.ref f) h=.ok Tm:=by unfold E1;rw[eR AH,A5];rfl
 simp[Tx,ct,Fz,f1,Cb]
noncomputable def EW(IN:↑Co)(hh:Nat):Nat:=if ↥(1,hh)∈IN then 1 else 0
def LL(S:E0)(L:Nat)(d:Ae)(a:Nat):Lt:=⟨S.Be,EW S.done d.1,a,[],d,L,L+1⟩
def aav(R:EC C h S):(.inl (S.Be:Int):Key)∉S.lets.map EI:=λz=>by obtain⟨l,AF,e⟩:=List.mem_map.mp z;have:=R.HL l AF;erw[EI,VM]at e;lia
def wY(c:DK C)(R:EC C h S)(AI:S.Be<900){d:Ae}(hd:d∈DF C.cs ⇑C.cs)(A5:Eg C.ws d=none){a:Nat}(AG:a<16) :
  ∃h',Tz [.ref C.r,AY d,.int (a:Int)] h=.ok (.int (S.Be:Int),h')/\EC C h' { S with Be:=S.Be+1,lets:=S.lets++[LL S ⇑h d a] }/\
   ⇑h<=⇑h'/\∀n,n< ⇑h->n≠C.r->n≠C.M+1->h'[n]?=h[n]?:=by
 have q:=c.D8;have JF:=c.JF;have Dj:=c.Dj;have AF:=R.AF;have fn:B8 "Run" "net" (.ref C.r) h=.ok (.ref C.LN,h):=E_ R.B5 rfl;have xz:B8 "Run" "came" (.ref C.r) h=.ok (.int (S.Be:Int),h):=E_ R.B5 rfl;have fd:B8 "Run" "done" (.ref C.r) h=.ok (.ref C.M,h):=E_ R.B5 rfl;obtain⟨f,Au,_⟩:=(R.Xc c).ex;have x0:A8 (AY d) (.int 0) h=.ok (.int (d.1:Int),h):=Fp h _ _;have mo:CV "Net" "is_outer" 1 Tx (B0 (B8 "Run" "net") π) υ [ι,↥(AY d),ς,none,none] h=.ok Tm:=MF (us:=[AY d]) (by simp[fn]) Au rfl rfl rfl (ad_ (R.Xc c) hd A5);have t1:Fq (Eb (Aa (CV "Net" "is_outer" 1 Tx (B0 (B8 "Run" "net") π) υ))) (Eb (Aa (Aj 1 U4 ω))) [ι,↥(AY d),ς,none,none] h=.ok (false,h):=by rw[v_or,v_not,Hx,mo];simp[jZ AG]
 have s2:AZ (B0 (B8 "Run" "came") π) (AC 3) [ι,↥(AY d),ς,none,none] h=.ok (.AT [ι,↥(AY d),ς,↥(.int (S.Be:Int)),none],h):=by erw[Dr,Ia,v_var,Da,Cf,A3,xz];rfl
 have Cb:=UW (hh:=d.1) (k:=1) true R.CM δ R.IM;rw[show HS 1=AL "turn" from rfl]at Cb;have s3:AZ (No (Aa (A1 (E1 true) (BX (A0 (pu (.str (AL "turn"))) (A0 (A1 A8 Ψ η) A2))) (B0 (B8 "Run" "done") π))) ζ η) (AC 4) [ι,↥(AY d),ς,↥(.int (S.Be:Int)),none] h=.ok (.AT [ι,↥(AY d),ς,↥(.int (S.Be:Int)),↥(.int Δ)],h):=by
  unfold EW;by_cases Bc:↥(1,d.1)∈S.done
  .simp[x0,fd,Cb,Ay,Bc]
  .simp[x0,fd,Cb,Ay,Bc]
 obtain⟨l,el⟩:∃l,l=LL S ⇑h d a:=ο;have mk:HW "Letter" 3 WR (A0 XL (A0 Ψ ω)) [ι,↥(AY d),ς,↥(.int (S.Be:Int)),↥(.int Δ)] h=.ok (.ref ⇑h,h++[QY l,HH l]):=by
  refine UH (us:=[.int Δ,AY d,.int (a:Int)]) (h1:=h) γ rfl ?_;have e:WR [.ref ⇑h,.int Δ,AY d,.int (a:Int)] (h++[⟨.ins "Letter" [],[]⟩])=(Zu [χ,↥(.int Δ),↥(AY d),ς] (h++[⟨.ins "Letter" [],[]⟩])).bind outF:=rfl;have a1:FI "Letter" "mark" π Ψ [χ,↥(.int Δ),↥(AY d),ς] (h++[⟨.ins "Letter" [],[]⟩])=.ok (.AT [χ,↥(.int Δ),↥(AY d),ς],h++(⟨.ins "Letter" ["mark"],[.int Δ]⟩::([]++[]))):=Nb rfl rfl ε rfl rfl;have a2:FI "Letter" "address" π Cl [χ,↥(.int Δ),↥(AY d),ς] (h++(⟨.ins "Letter" ["mark"],[.int Δ]⟩::([]++[])))=.ok (.AT [χ,↥(.int Δ),↥(AY d),ς],h++(⟨.ins "Letter" ["mark","address"],[.int Δ,.int (a:Int)]⟩::([]++[]++[]))):=Nb rfl rfl ε rfl rfl;have CF:FI "Letter" "doors" π (BU ω) [χ,↥(.int Δ),↥(AY d),ς] (h++(⟨.ins "Letter" ["mark","address"],[.int Δ,.int (a:Int)]⟩::([]++[]++[])))=.ok (.AT [χ,↥(.int Δ),↥(AY d),ς],h++(⟨.ins "Letter" ["mark","address","doors"],[.int Δ,.int (a:Int),.ref (⇑h+1)]⟩::([]++[]++[]++[⟨.lst,[AY d]⟩]))):=by refine Nb rfl ?_ ε rfl rfl;simp[nw,Ay]
  rw[e];unfold Zu;rw[B2,a1,A3,B9,B2,a2,A3,B9,CF,A3,oC,el];rfl
 obtain⟨h1,AD⟩:∃h1,h1=h++[QY l,HH l]:=ο;rw[<-AD]at mk;have Cp:⇑h1=⇑h+2:=by rw[AD];simp
 have H2:EC C h1 S:=by rw[AD];exact R.app _
 have g1:B8 "Run" "letters" (.ref C.r) h1=.ok (.ref (C.M+1),h1):=E_ H2.B5 rfl;have few:=R.few;have le:=R.le;have pt:=kg (v:=.ref ⇑h) (ρ:=[ι,↥(AY d),ς,↥(.int (S.Be:Int)),↥(.int Δ)]) H2.el (aav R) (by rw[Ch];unfold Ay;lia);obtain⟨h2,AH⟩:∃h2,h2=h1.set (C.M+1) ⟨.Al (S.lets.map EI++[.inl (S.Be:Int)]),(S.lets.map λl=>.ref l.B1)++[.ref ⇑h]⟩:=⟨_,rfl⟩;rw[<-AH]at pt;have k4:h2[C.r]?=↥(PN C.LN C.G5 C.Cw C.pl C.M S.Be):=by rw[AH,EL δ];exact H2.B5
 have s4:Jb (B0 (B8 "Run" "letters") π) Cl (HW "Letter" 3 WR (A0 XL (A0 Ψ ω))) [ι,↥(AY d),ς,↥(.int (S.Be:Int)),↥(.int Δ)] h=.ok (.AT [ι,↥(AY d),ς,↥(.int (S.Be:Int)),↥(.int Δ)],h2):=by rw[Uq,mk,A3];erw[Ia,v_var,Da,ES,Cf,A3,g1,pt]
 obtain⟨BO,DT⟩:∃BO,BO=h2.set C.r (PN C.LN C.G5 C.Cw C.pl C.M (S.Be+1)):=ο;have s5:FI "Run" "came" π (A1 addW Cl ζ) [ι,↥(AY d),ς,↥(.int (S.Be:Int)),↥(.int Δ)] h2=.ok (.AT [ι,↥(AY d),ς,↥(.int (S.Be:Int)),↥(.int Δ)],BO):=by rw[Ur];erw[BQ,v_var,Bk,Da,ES,Cf,A3,N4];rw[TJ (ns':=oY) (ws':=[.ref C.LN,.tup [.ref C.G5,.ref C.Cw],.ref C.pl,.ref C.M,.int ((S.Be:Int)+1),.ref (C.M+1),.ref (C.M+2)]) k4 ε rfl rfl,DT];rfl
 have Ck:⇑h2=⇑h+2:=by rw[AH];simpa using Cp
 have Mx:⇑BO=⇑h+2:=by rw[DT];simpa using Ck
 have keep:∀n,n≠C.r->n≠C.M+1->BO[n]?=h1[n]?:=λn E4 FQ=>by rw[DT,EL (λz=>E4 z.symm),AH,EL (λz=>FQ z.symm)]
 refine⟨BO,?_,?_,δ,λn AM E4 FQ=>?_⟩
 .have e:Tz [.ref C.r,AY d,.int (a:Int)] h=(Zw [ι,↥(AY d),ς,none,none] h).bind outF:=rfl;rw[e];unfold Zw;rw[B2,E6,t1,A3,if_neg γ,GQ,A3,B9,B2,s2,A3,B9,B2,s3,A3,B9,B2,s4,A3,B9,B2,s5,A3,B9];rfl
 .have ln:l.B1=⇑h/\l.Du=⇑h+1/\l.n=S.Be:=by rw[el];exact⟨rfl,rfl,rfl⟩
  have fB:PA C BO l:=by
   refine⟨?_,?_,?_,?_,?_,δ,δ⟩
   .rw[keep _ δ δ,ln.1,AD];simp
   .rw[keep _ δ δ,ln.2.1,AD];simp
   .rw[el];erw[LL,EW];split<;>lia
   .rw[el];exact AG
   .rw[el];exact hd
  rw[<-el];have old:∀x∈CU S,PA C BO x:=λx AJ=>by have y:=H2.lt x AJ;have:=y.t1;have:=y.CK;exact y.to (keep _ δ δ) (keep _ δ δ)
  refine⟨λn o' k ne=>?_,?_,?_,?_,?_,λx AJ=>?_,?_,?_,λx AJ=>?_,R.IM,?_,?_,δ,λx AJ=>?_⟩
  .rw[keep n (λz=>by subst z;rw[c.WE]at k;cases k;exact ne rfl) (by have:=Eu k;lia)];exact H2.Bf n o' k ne
  .rw[DT];exact IY k4
  .rw[keep _ δ δ];exact H2.CM
  .rw[DT,EL δ,AH,IY H2.el];simp[EI,ln.1,ln.2.2]
  .rw[keep _ δ δ];exact H2.Ik
  .erw[CU,ET,I0,Ll]at AJ;rcases AJ with AJ|rfl|AJ
   .exact old x (J2 _ AJ)
   .exact fB
   .exact old x (IA _ AJ)
  .erw[CU,ET,IE,DC,I1];have Bz:=R.Bz;erw[CU,IE]at Bz;have fr:∀x∈CU S,x.Du≠l.Du:=λx AJ z=>by
    have:=Eu (R.lt x AJ).CM;lia
   obtain⟨E4,FQ,S9⟩:=List.nodup_append.mp Bz;refine List.nodup_append.mpr ⟨E4,?_,λu BR v Bg=>?_⟩
   .rw[hx,List.nodup_cons];refine⟨λz=>?_,FQ⟩;obtain⟨x,AJ,e⟩:=List.mem_map.mp z;exact fr x (IA _ AJ) e
   .rw[hx,IF]at Bg;rcases Bg with rfl|Bg
    .obtain⟨x,AJ,e⟩:=List.mem_map.mp BR;subst e;exact fr x (J2 _ AJ)
    .exact S9 u BR v Bg
  .erw[IE,DC,I1];refine List.nodup_append.mpr ⟨R.nn,γ,λu BR v Bg=>?_⟩;obtain⟨x,AJ,e⟩:=List.mem_map.mp BR;have:=R.HL x AJ;have Bg:=List.mem_singleton.mp Bg;lia
  .rcases List.mem_append.mp AJ with AJ|AJ
   .have:=R.HL x AJ;show x.n<S.Be+1;lia
   .have:=List.mem_singleton.mp AJ;subst this;show x.n<S.Be+1;lia
  .show S.Be+1<1000;lia
  .show⇑S.ended+⇑(S.lets++[l])<=S.Be+1;simp;lia
  .erw[CU,ET,I0,Ll]at AJ;rcases AJ with AJ|rfl|AJ
   .exact R.pr x (J2 _ AJ)
   .rw[el];exact IC _
   .exact R.pr x (IA _ AJ)
 .rw[keep n E4 FQ,AD,GR AM]
end
section
variable{C:Dc}{h:A6}{S:E0}
noncomputable def IQ(l:Lt)(e:Ae):Lt:={ l with pre:=l.pre++[l.d],d:=e }
def Fn(S:E0)(C5:↑Lt)(l:Lt)(B3:↑Lt):Tl->E0
 |.at e=>{ S with lets:=C5++IQ l e::B3,Cd:=S.Cd+1 }
 |t=>{ S with lets:=C5++B3,ended:=S.ended++[(l,t)],Cd:=S.Cd+1 }
def isAt:Tl->Bool
 |.at _=>true
 |_=>false
def ut{cs:↑Nat}{ws:ν}(N:K3 cs ws){d e:Ae}(h:Eg ws d=↥e):e∈DF cs ⇑cs:=N.sub _ (eC h).2
def adq{cs:↑Nat}{ws:ν}(N:K3 cs ws){hh:Nat}{o:Option Nat}{e:Ae}(h:LO ws hh o=.at e):e∈DF cs ⇑cs:=by
 unfold LO at h
 split at h
 .cases h
 .split at h
  .cases h
  .rename_i q;cases h;exact ut N q
def adt{cs:↑Nat}{ws:ν}(N:K3 cs ws){Ba:↑Cs}{d:Ae}{a:Nat}{e:Ae}(h:O_ ws Ba d a=.at e):e∈DF cs ⇑cs:=by
 unfold O_ at h
 split at h
 .cases h
 .exact adq N h
def nu(c:DK C){IN:↑Co}{l:Lt}{e:Ae}(h:Hs C IN l=.at e):e∈DF C.cs ⇑C.cs:=by
 unfold Hs at h
 split at h
 .exact adt c.N h
 .cases h
def WA{L:↑Lt}{l:Lt}(h:l.n∉L.map (·.n)):EI l∉L.map EI:=λz=>by obtain⟨x,AJ,e⟩:=List.mem_map.mp z;erw[EI,VM]at e;exact h (List.mem_map.mpr ⟨x,AJ,δ⟩)
def gO{C5 B3:↑Lt}{l:Lt}(h:((C5++l::B3).map (·.n)).Nodup):l.n∉C5.map (·.n)/\l.n∉B3.map (·.n):=by erw[IE,DC]at h;obtain⟨_,h2,BO⟩:=List.nodup_append.mp h;exact⟨λz=>BO _ z _ (Hg ..) rfl,(List.nodup_cons.mp h2).1⟩
def zJ(c:DK C)(R:EC C h S)(hm:S.Cd<900000){C5 B3:↑Lt}{l:Lt}(es:S.lets=C5++l::B3) :
  ∃h',U0 [.ref C.r,.int (l.n:Int)] h=.ok (CR (Hs C S.done l),h')/\EC C h' (Fn S C5 l B3 (Hs C S.done l))/\ ⇑h'=⇑h/\∀n,n≠C.M+1->n≠C.M+2->n≠l.Du->h'[n]?=h[n]?:=by
 have q:=c.D8;have JF:=c.JF;have Dj:=c.Dj;have AF:=R.AF;have Iw:l∈CU S:=J2 _ (by rw[es];simp);have x:=R.lt l Iw;have alm:=x.t1;have aln:=x.CK;have nn:=R.nn;rw[es]at nn;obtain⟨E4,FQ⟩:=gO nn;have k1:=WA E4;have k2:=WA FQ;have el:h[C.M+1]?=↥⟨.Al (C5.map EI++EI l::B3.map EI),(C5.map λl=>.ref l.B1)++.ref l.B1::B3.map λl=>.ref l.B1⟩:=by rw[R.el,es];simp
 have Dv:B8 "Run" "letters" (.ref C.r) h=.ok (.ref (C.M+1),h):=E_ R.B5 rfl;have gl:Ho h (.ref (C.M+1)) (.int (l.n:Int))=↥↥(.ref l.B1):=by rw[eQ el];show↥(Dy _ _ (EI l))=_;rw[Xm k1 γ]
 have Eo:E1 false (.int (l.n:Int)) (.ref (C.M+1)) h=.ok (.AN false,h):=by unfold E1;rw[gl];rfl
 have EP:A8 (.ref (C.M+1)) (.int (l.n:Int)) h=.ok (.ref l.B1,h):=by unfold A8;rw[gl]
 obtain⟨t,IP⟩:∃t,t=Hs C S.done l:=ο;have AT:=acY c R x;rw[<-IP]at AT |-;have t1:Fq (Eb (Aa (Aj 1 U7 υ))) (Aa (A1 (E1 false) Ψ (B0 (B8 "Run" "letters") π))) [ι,↥(.int (l.n:Int)),none,none] h=.ok (false,h):=by simp[t5,Dv,Eo]
 have s2:AZ (A1 A8 (B0 (B8 "Run" "letters") π) Ψ) (AC 2) [ι,↥(.int (l.n:Int)),none,none] h=.ok (.AT [ι,↥(.int (l.n:Int)),↥(.ref l.B1),none],h):=by simp[Dv,EP]
 have Fz:CV "Run" "next_of" 1 U3 π ω [ι,↥(.int (l.n:Int)),↥(.ref l.B1),none] h=.ok (CR t,h):=MF (us:=[.ref l.B1]) rfl R.B5 rfl rfl rfl AT;have s3:AZ (CV "Run" "next_of" 1 U3 π ω) (AC 3) [ι,↥(.int (l.n:Int)),↥(.ref l.B1),none] h=.ok (.AT [ι,↥(.int (l.n:Int)),↥(.ref l.B1),↥(CR t)],h):=by rw[Dr,Fz];rfl
 have CM:U0 [.ref C.r,.int (l.n:Int)] h=(Zx [ι,↥(.int (l.n:Int)),none,none] h).bind outF:=rfl;rw[CM];unfold Zx;rw[B2,E6,t1,A3,if_neg γ,GQ,A3,B9,B2,s2,A3,B9,B2,s3,A3,B9,B2,E6];have pl:=R.pr l Iw;have dl:⇑(l.pre.map AY++[AY l.d])<=900001:=by simp;lia
 by_cases AG:isAt t=true
 .obtain⟨e,te⟩:∃e,t=.at e:=by cases t<;>first|exact⟨_,rfl⟩|cases AG
  subst te;have he:=nu c IP.symm;have tt:Aa (A1 Φ (A1 A8 Cl η) (pu (.str (AL "at")))) [ι,↥(.int (l.n:Int)),↥(.ref l.B1),↥(CR (.at e))] h=.ok (true,h):=by simp[CR,Fp]
  rw[tt,A3,if_pos rfl];have Lc:B8 "Letter" "doors" (.ref l.B1) h=.ok (.ref l.Du,h):=E_ x.Fw rfl;obtain⟨h',EE⟩:∃h',h'=h.set l.Du (HH (IQ l e)):=ο;have ap:DI EO (B0 (B8 "Letter" "doors") ac) (A0 (BX (A0 (A1 A8 Cl ζ) (A0 (A1 A8 Cl τ) A2))) A2) [ι,↥(.int (l.n:Int)),↥(.ref l.B1),↥(CR (.at e))] h=.ok (.non,h'):=by rw[EE];refine JB (ws:=(l.pre++[l.d]).map AY) (ws2:=(l.pre++[l.d]).map AY) (us:=[AY e]) (ws':=(l.pre++[l.d]++[e]).map AY) (h1:=h) (h2:=h) (by simp[Lc]) x.CM ?_ x.CM (by simp[EO]) (by simp[Ay];lia);simp[CR,Iu,W7,Ay,AY]
  refine⟨h',?_,?_,by rw[EE];simp,λn _ _ AM=>by rw[EE,EL (λz=>AM z.symm)]⟩
  .rw[JK,ap];rfl
  .have keep:∀n,n≠l.Du->h'[n]?=h[n]?:=λn AM=>by rw[EE,EL (λz=>AM z.symm)]
   have Bz:=R.Bz;have mG:∀y∈CU S,y.B1≠l.Du:=λy AP z=>by have AD:=(R.lt y AP).Fw;have AH:=x.CM;rw[z,AH]at AD;cases AD
   have ads:∀y,y∈C5++(B3++S.ended.map (·.1))->y.Du≠l.Du:=λy AP z=>by
    erw[CU,es,ET,HT,IE,DC]at Bz;obtain⟨a1,a2,CF⟩:=List.nodup_append.mp Bz;have PH:=(List.nodup_cons.mp a2).1;rcases List.mem_append.mp AP with AP|AP
    .exact CF _ (List.mem_map.mpr ⟨y,AP,rfl⟩) _ (Hg ..) z
    .apply PH;rw[<-IE];exact List.mem_map.mpr ⟨y,AP,z⟩
   have X3:∀y,y∈C5++(B3++S.ended.map (·.1))->PA C h' y:=λy AP=>by
    have lx:y∈CU S:=by
     erw[CU,es,ET,HT,I0,IF]at AP |-;rcases AP with AP|AP
     .exact .inl AP
     .exact .inr (.inr AP)
    exact(R.lt y lx).to (keep _ (mG y lx)) (keep _ (ads y AP))
   have fB:PA C h' (IQ l e):=⟨by show h'[l.B1]?=_;rw[keep _ (mG l Iw)];exact x.Fw,by show h'[l.Du]?=_;rw[EE];exact IY x.CM,x.m,x.a,he,x.t1,x.CK⟩;refine⟨λn o' k ne=>?_,?_,?_,?_,?_,λy AP=>?_,?_,?_,λy AP=>?_,R.IM,R.few,?_,by rw[EE];simpa using AF,λy AP=>?_⟩
   .rw[keep n (by have:=Eu k;lia)];exact R.Bf n o' k ne
   .rw[keep _ δ];exact R.B5
   .rw[keep _ δ];exact R.CM
   .rw[keep _ δ,el];simp[Fn,IQ,EI]
   .rw[keep _ δ];exact R.Ik
   .erw[CU,Fn,ET,HT,I0,IF]at AP;rcases AP with AP|rfl|AP
    .exact X3 y (J2 _ AP)
    .exact fB
    .exact X3 y (IA _ (List.mem_append.mpr AP))
   .have:(CU (Fn S C5 l B3 (.at e))).map (·.Du)=(CU S).map (·.Du):=by simp[CU,Fn,es,IQ]
    rw[this];exact Bz
   .have:(Fn S C5 l B3 (.at e)).lets.map (·.n)=S.lets.map (·.n):=by simp[Fn,es,IQ]
    rw[this];exact R.nn
   .erw[Fn,I0,IF]at AP;rcases AP with AP|rfl|AP
    .exact R.HL y (by rw[es];simp[AP])
    .exact R.HL l (by rw[es];simp)
    .exact R.HL y (by rw[es];simp[AP])
   .have:=R.le;rw[es]at this;simpa[Fn]using this
   .erw[CU,Fn,ET,HT,I0,IF]at AP;show⇑y.pre<=S.Cd+1;have old:∀z∈CU S,⇑z.pre<=S.Cd:=R.pr;erw[CU,es,ET,HT,I0,IF]at old;rcases AP with AP|rfl|AP
    .have:=old y (.inl AP);lia
    .erw[IQ,EM,DV,FK];lia
    .have:=old y (.inr (.inr AP));lia
 .have tt:Aa (A1 Φ (A1 A8 Cl η) (pu (.str (AL "at")))) [ι,↥(.int (l.n:Int)),↥(.ref l.B1),↥(CR t)] h=.ok (false,h):=by
    cases t<;>first|exact absurd rfl AG|(simp[CR,Fp];decide)
  rw[tt,A3,if_neg γ];have F_:Fn S C5 l B3 t={ S with lets:=C5++B3,ended:=S.ended++[(l,t)],Cd:=S.Cd+1 }:=by cases t<;>first|exact absurd rfl AG|rfl
  obtain⟨h1,AD⟩:∃h1,h1=h.set (C.M+1) ⟨.Al (C5.map EI++B3.map EI),(C5.map λl=>.ref l.B1)++B3.map λl=>.ref l.B1⟩:=⟨_,rfl⟩;have ep:Ov h (.ref (C.M+1))=true:=by unfold Ov;erw[el]
  have pp:Rz (B0 (B8 "Run" "letters") π) Ψ [ι,↥(.int (l.n:Int)),↥(.ref l.B1),↥(CR t)] h=.ok (.ref l.B1,h1):=by rw[sm];erw[Ia,v_var,Da,ES,Cf,A3,Dv,Ps,ep,if_true,I_];rw[AD];exact kf (i:=(l.n:Int)) el k1 k2 γ γ
  have xU:h1[C.r]?=↥(PN C.LN C.G5 C.Cw C.pl C.M S.Be):=by rw[AD,EL δ];exact R.B5
  have dy:B8 "Run" "ended" (.ref C.r) h1=.ok (.ref (C.M+2),h1):=E_ xU rfl;have SH:h1[C.M+2]?=↥⟨.lst,S.ended.map NZ⟩:=by rw[AD,EL δ];exact R.Ik
  have le:=R.le;have few:=R.few;obtain⟨h',EE⟩:∃h',h'=h1.set (C.M+2) ⟨.lst,(S.ended++[(l,t)]).map NZ⟩:=⟨_,rfl⟩;have ap:DI EO (B0 (B8 "Run" "ended") π) (A0 (BX (A0 Ψ (A0 ac (A0 Cl A2)))) A2) [ι,↥(.int (l.n:Int)),↥(.ref l.B1),↥(CR t)] h1=.ok (.non,h'):=by rw[EE];refine JB (ws:=S.ended.map NZ) (ws2:=S.ended.map NZ) (us:=[NZ (l,t)]) (h1:=h1) (h2:=h1) (by simp[dy]) SH ?_ SH (by simp[EO]) (by simp[Ay];lia);simp[Ay,NZ]
  have keep:∀n,n≠C.M+1->n≠C.M+2->h'[n]?=h[n]?:=λn a b=>by rw[EE,EL (λz=>b z.symm),AD,EL (λz=>a z.symm)]
  refine⟨h',?_,?_,by rw[EE,AD];simp,λn a b _=>keep n a b⟩
  .rw[B2,JK,pp,A3,A3,B9,JK,ap];rfl
  .rw[F_];have fw:(CU { S with lets:=C5++B3,ended:=S.ended++[(l,t)],Cd:=S.Cd+1 }).Perm (CU S):=by
    erw[CU,es,IE,DC,I1,ET,HT];refine hu _ ?_;rw[<-ET];exact List.perm_append_singleton l (B3++S.ended.map (·.1))
   refine⟨λn o' k ne=>?_,?_,?_,?_,?_,λy AP=>?_,?_,?_,λy AP=>?_,R.IM,R.few,?_,by rw[EE,AD];simpa using AF,λy AP=>?_⟩
   .rw[keep n (by have:=Eu k;lia) (by have:=Eu k;lia)];exact R.Bf n o' k ne
   .rw[keep _ δ δ];exact R.B5
   .rw[keep _ δ δ];exact R.CM
   .rw[EE,EL δ,AD,IY el];simp
   .rw[EE,IY SH]
   .have z:=R.lt y (fw.mem_iff.mp AP);have:=z.t1;have:=z.CK;exact z.to (keep _ δ δ) (keep _ δ δ)
   .exact(fw.map _).nodup_iff.mpr R.Bz
   .erw[IE,DC]at nn |-;obtain⟨a1,a2,CF⟩:=List.nodup_append.mp nn;exact List.nodup_append.mpr ⟨a1,(List.nodup_cons.mp a2).2,λu BR v Bg=>CF u BR v (Gy _ Bg)⟩
   .refine R.HL y ?_;rw[es];rcases List.mem_append.mp AP with AP|AP<;>simp[AP]
   .rw[es]at le;erw[EM,DV,FK]at le |-;lia
   .have:=R.pr y (fw.mem_iff.mp AP);show⇑y.pre<=S.Cd+1;lia
def aco(R:EC C h S){x y w:W}{h':A6}(e:Tz [.ref C.r,x,y] h=.ok (w,h')):Jc [.ref C.r,.tup [.str (AL "come"),x,y]] h=.ok (w,h'):=by have Cb:EF "tuple" (.tup [.str (AL "come"),x,y]) h=.ok Tm:=rfl;have FO:EF "str" (.str (AL "come")) h=.ok Tm:=rfl;have Fz:CV "Run" "come" 2 Tz π (A0 (A1 A8 Ψ ζ) (A0 (A1 A8 Ψ τ) A2)) [ι,↥(.tup [.str (AL "come"),x,y])] h=.ok (w,h'):=MF (us:=[x,y]) rfl R.B5 rfl (by simp[Iu,W7]) rfl e;simp[Jc,Tf,Cb,FO,Oz,Fp,Fz]
def acp(R:EC C h S){x w:W}{h':A6}(e:U0 [.ref C.r,x] h=.ok (w,h')):Jc [.ref C.r,.tup [.str (AL "go"),x]] h=.ok (w,h'):=by have Cb:EF "tuple" (.tup [.str (AL "go"),x]) h=.ok Tm:=rfl;have FO:EF "str" (.str (AL "go")) h=.ok Tm:=rfl;have Fz:CV "Run" "go" 1 U0 π (A0 (A1 A8 Ψ ζ) A2) [ι,↥(.tup [.str (AL "go"),x])] h=.ok (w,h'):=MF (us:=[x]) rfl R.B5 rfl (by simp[Iu]) rfl e;have q:(AL "go"==AL "come")=false:=rfl;simp[Jc,Tf,Cb,FO,Oz,Fp,q,Fz]
end
def eN{ws:↑W}(k:Nat)(AR:k<=⇑ws):He ws none ↥(k:Int)=ws.take k:=by unfold He;rw[EU.YK,EU.Ug];simp[i9 AR]
def we{ws:↑W}(k:Nat)(AR:k<=⇑ws):He ws ↥(k:Int) none=ws.drop k:=by unfold He;rw[EU.YK,EU.Ug,i9 AR];rw[Uz γ]
def XN{h:A6}{n:Nat}{ws:↑W}(e:h[n]?=↥⟨.lst,ws⟩)(l:⇑ws<=1000)(lo hi:Option Int)(ρ:BC):MJ (.ref n) lo hi ρ h=.ok (.ref ⇑h,h++[⟨.lst,He ws lo hi⟩]):=by unfold MJ;rw[GZ h e];dsimp only;exact Gu h (by have:=kW ws lo hi;unfold Ay;lia)
def gm{ρ:BC}{i:Nat}{k:Int}(h:A6)(e:ρ[i]?=↥↥(.int k)):CC (I i) ρ h=.ok (↥k,h):=by unfold CC;rw[I_,v_var,e];rfl
def lP{h:A6}{n i k:Nat}{ws:↑W}{w:W}{ρ:BC}{mw:BB}(AH:ρ[2]?=↥↥(.ref n))(Gj:ρ[i]?=↥↥(.int (k:Int)))(Au:h[n]?=↥⟨.lst,ws⟩)(l:⇑ws<=100)(AR:k<=⇑ws)(hw:∀h',mw ρ h'=.ok (w,h'))(LM:G1 ws=true)(aeC:DP w=true) :
  BJ (A1 addW (A1 addW (D9 ac (pu none) (CC (I i))) (BU (A0 mw A2))) (D9 ac (CC (I i)) (pu none))) ρ h=.ok (.ref ⇑h,h++[⟨.lst,ws.take k++[w]++ws.drop k⟩]):=by
 have s1:D9 ac (pu none) (CC (I i)) ρ h=.ok (.ref ⇑h,h++[⟨.lst,ws.take k⟩]):=by rw[NC,v_var,AH,Cf,A3,Bk,A3,gm _ Gj,A3,XN Au δ,eN k AR]
 have s2:BU (A0 mw A2) ρ (h++[⟨.lst,ws.take k⟩])=.ok (.ref (⇑h+1),h++[⟨.lst,ws.take k⟩,⟨.lst,[w]⟩]):=by rw[JL,Bn,hw,A3,CJ,A3,A3,Gu _ (by simp[Ay])];simp
 have a1:=Nv (h:=h++[⟨.lst,ws.take k⟩,⟨.lst,[w]⟩]) (i:=⇑h) (j:=⇑h+1) (a:=ws.take k) (b:=[w]) γ γ (by simp[Ay];lia);obtain⟨H,CG⟩:∃H:A6,H=h++[⟨.lst,ws.take k⟩,⟨.lst,[w]⟩]++[⟨.lst,ws.take k++[w]⟩]:=ο;rw[<-CG]at a1;have Ly:⇑H=⇑h+3:=by rw[CG];simp
 have nM:h<+: H:=by rw[CG];exact GE (Ez _ _) _
 have s3:D9 ac (CC (I i)) (pu none) ρ H=.ok (.ref (⇑h+3),H++[⟨.lst,ws.drop k⟩]):=by rw[NC,v_var,AH,Cf,A3,gm _ Gj,A3,Bk,A3,XN (Cx nM Au) δ,we k AR,Ly]
 have h2:H[⇑h+2]?=↥⟨.lst,ws.take k++[w]⟩:=by rw[CG,ET,Im];rfl
 have a2:=Nv (h:=H++[⟨.lst,ws.drop k⟩]) (i:=⇑h+2) (j:=⇑h+3) (a:=ws.take k++[w]) (b:=ws.drop k) (C6 H h2 _) (by rw[<-Ly];simp) (by simp[Ay];lia);rw[FJ,BQ,BQ,s1,A3,s2,A3,a1,A3];have mI:⇑(h++[⟨.lst,ws.take k⟩,⟨.lst,[w]⟩]:A6)=⇑h+2:=γ
 rw[mI,s3,A3,a2,A3];have:⇑(H++[⟨.lst,ws.drop k⟩]:A6)=⇑h+4:=by rw[EM,Ly];rfl
 rw[this];refine KD (ws:=ws.take k++[w]++ws.drop k) h _ (Kc (GE (GE nM _) _)) δ (by rw[<-this];simp) (Jw.mpr λx AJ=>?_);have LM:=Jw.mp LM;erw[I0,Ll]at AJ;rcases AJ with(AJ|rfl)|AJ
 .exact LM x (hy AJ)
 .exact aeC
 .exact LM x (Z5 AJ)
def w2{h:A6}{n i k:Nat}{ws:↑W}{ρ:BC}(AH:ρ[2]?=↥↥(.ref n))(Gj:ρ[i]?=↥↥(.int (k:Int)))(Au:h[n]?=↥⟨.lst,ws⟩)(l:⇑ws<=100)(AR:k<=⇑ws)(LM:G1 ws=true) :
  BJ (A1 addW (D9 ac (pu none) (CC (I i))) (D9 ac (CC (A1 addW (I i) ζ)) (pu none))) ρ h=.ok (.ref ⇑h,h++[⟨.lst,ws.take k++ws.drop (k+1)⟩]):=by
 have s1:D9 ac (pu none) (CC (I i)) ρ h=.ok (.ref ⇑h,h++[⟨.lst,ws.take k⟩]):=by rw[NC,v_var,AH,Cf,A3,Bk,A3,gm _ Gj,A3,XN Au δ,eN k AR]
 have Kx:He ws ↥((k:Int)+1) none=ws.drop (k+1):=by
  have:((k:Int)+1)=((k+1:Nat):Int):=δ
  rw[this];unfold He;rw[EU.YK,EU.Ug];by_cases DH:k+1<=⇑ws
  .rw[i9 DH,Uz γ]
  .rw[Nat.min_eq_right δ,List.drop_length,List.drop_of_length_le δ];simp
 have s3:D9 ac (CC (A1 addW (I i) ζ)) (pu none) ρ (h++[⟨.lst,ws.take k⟩])=.ok (.ref (⇑h+1),h++[⟨.lst,ws.take k⟩]++[⟨.lst,ws.drop (k+1)⟩]):=by
  have pp:CC (A1 addW (I i) ζ) ρ (h++[⟨.lst,ws.take k⟩])=.ok (↥((k:Int)+1),h++[⟨.lst,ws.take k⟩]):=by unfold CC;rw[I_,BQ,v_var,Gj,Cf,A3,Bk,A3,N4,A3];rfl
  rw[NC,v_var,AH,Cf,A3,pp,A3,Bk,A3,XN (C6 h Au _) δ,Kx];simp
 have a2:=Nv (h:=h++[⟨.lst,ws.take k⟩]++[⟨.lst,ws.drop (k+1)⟩]) (i:=⇑h) (j:=⇑h+1) (a:=ws.take k) (b:=ws.drop (k+1)) γ γ (by simp[Ay];lia);rw[FJ,BQ,s1,A3,s3,A3,a2,A3];refine KD (ws:=ws.take k++ws.drop (k+1)) h _ (Kc (GE (GE (Ez _ _) _) _)) γ γ (Jw.mpr λx AJ=>?_);have LM:=Jw.mp LM;rcases List.mem_append.mp AJ with AJ|AJ
 .exact LM x (hy AJ)
 .exact LM x (Z5 AJ)
structure Kq(n:Nat)(ps:↑Co):Prop where
 k:∀p,↥p∈ps->p.1<3/\p.2<n
 Bz:(ps.filterMap id).Nodup
def Kq.perm{n:Nat}{ps Cr:↑Co}(h:Kq n ps)(p:Cr.Perm ps):Kq n Cr:=⟨λx AJ=>h.k x (p.mem_iff.mp AJ),(p.filterMap id).nodup_iff.mpr h.Bz⟩
def Kq.sub{n:Nat}{ps Cr:↑Co}(h:Kq n ps)(s:Cr.Sublist ps):Kq n Cr:=⟨λx AJ=>h.k x (s.mem AJ),h.Bz.sublist (s.filterMap id)⟩
def Kq.wait{n:Nat}{ps Cr:↑Co}(h:Kq n (ps++Cr)):Kq n (ps++[none]++Cr):=by
 refine⟨λx AJ=>h.k x ?_,?_⟩
 .erw[I0,Ll]at AJ |-;rcases AJ with(AJ|AJ)|AJ
  .exact .inl AJ
  .cases AJ
  .exact .inr AJ
 .have:=h.Bz;simpa[tl]using this
def mM(ps:↑Co)(k:Nat)(s:Co):(ps.map Ap).take k++[Ap s]++(ps.map Ap).drop k=(ps.take k++[s]++ps.drop k).map Ap:=by simp[VL,iV]
def acf(ps:↑Co)(k:Nat):(ps.map Ap).take k++(ps.map Ap).drop (k+1)=(ps.take k++ps.drop (k+1)).map Ap:=by simp[VL,iV]
noncomputable def Kf(c:Nat)(n:Nat):↑Co:=(Cn n).map λi=>↥(c,i)
def YN(c n:Nat):⇑(Kf c n)=n:=by simp[Kf]
def ahQ(c n:Nat):(Kf c n).map Ap=(Cn n).map λi:Nat=>W.tup [.str (HS c),.int (i:Int)]:=by simp[Kf,Ap,Pe]
def h7{c n:Nat}{t:Str}(IP:t=HS c)(AM:n<=6){ρ:BC}(h0:ρ[0]?=↥↥(.int (n:Int)))(h:A6):DZ 1 [] (Dg Γ) (AC 0) (pu true) (BX (A0 (pu (.str t)) Γ)) ρ h=.ok (.ref ⇑h,h++[⟨.lst,(Kf c n).map Ap⟩]):=by rw[Vx (h:=h) 0 n (λi=>.tup [.str t,.int (i:Int)]) δ (LR (n:=n) (by simp[h0]) δ) (λj Ar acc=>by simp[Ay]),ahQ,IP]
def plain(n:Nat):↑Co:=Kf 0 n++Kf 1 n++[none]++Kf 2 n
def aey{n:Nat}(AM:n<=6)(h:A6):S8 [.int (n:Int)] h=.ok (.ref ⇑h,h++[⟨.lst,(plain n).map Ap⟩]):=by
 obtain⟨A,L_⟩:∃A,A=(Kf 0 n).map Ap:=ο;obtain⟨B,QG⟩:∃B,B=(Kf 1 n).map Ap:=ο;obtain⟨D,Of⟩:∃D,D=(Kf 2 n).map Ap:=ο;have c3:⇑A=n:=by rw[L_,Ch,YN]
 have WG:⇑B=n:=by rw[QG,Ch,YN]
 have aka:⇑D=n:=by rw[Of,Ch,YN]
 have lz:G1 A=true:=by rw[L_];exact H8 _ _ Ka
 have m1:G1 B=true:=by rw[QG];exact H8 _ _ Ka
 have acv:G1 D=true:=by rw[Of];exact H8 _ _ Ka
 have NB:=λh=>h7 (c:=0) (t:=AL "teach") rfl AM (ρ:=[↥(.int (n:Int)),none]) rfl h;have By:=λh=>h7 (c:=1) (t:=AL "turn") rfl AM (ρ:=[↥(.int (n:Int)),none]) rfl h;rw[<-L_]at NB;rw[<-QG]at By;have a1:=Nv (h:=h++[⟨.lst,A⟩]++[⟨.lst,B⟩]) (i:=⇑h) (j:=⇑h+1) (a:=A) (b:=B) γ γ (by simp[Ay];lia);have s1:AZ (BJ (A1 addW (DZ 1 [] (Dg Γ) (AC 0) (pu true) (BX (A0 (pu (.str (AL "teach"))) Γ))) (DZ 1 [] (Dg Γ) (AC 0) (pu true) (BX (A0 (pu (.str (AL "turn"))) Γ))))) (AC 1) [↥(.int (n:Int)),none] h=.ok (.AT [↥(.int (n:Int)),χ],h++[⟨.lst,A++B⟩]):=by
  have q:BJ (A1 addW (DZ 1 [] (Dg Γ) (AC 0) (pu true) (BX (A0 (pu (.str (AL "teach"))) Γ))) (DZ 1 [] (Dg Γ) (AC 0) (pu true) (BX (A0 (pu (.str (AL "turn"))) Γ)))) [↥(.int (n:Int)),none] h=.ok (.ref ⇑h,h++[⟨.lst,A++B⟩]):=by
   rw[FJ,BQ,NB,A3,By,A3];have:⇑(h++[⟨.lst,A⟩]:A6)=⇑h+1:=γ
   rw[this,a1,A3];exact KD (ws:=A++B) h _ (Kc (GE (GE (Ez _ _) _) _)) γ γ (Jw.mpr λx AJ=>(List.mem_append.mp AJ).elim (Jw.mp lz x) (Jw.mp m1 x))
  rw[Dr,q];rfl
 obtain⟨H,CG⟩:∃H:A6,H=h++[⟨.lst,A++B⟩]:=ο;have Ly:⇑H=⇑h+1:=by rw[CG];simp
 have Km:H[⇑h]?=↥⟨.lst,A++B⟩:=by rw[CG];simp
 have GF:BU (A0 (BX (A0 (pu (.str (AL "wait"))) A2)) A2) [↥(.int (n:Int)),χ] H=.ok (.ref ⇑H,H++[⟨.lst,[Ap none]⟩]):=rfl;have a2:=Nv (h:=H++[⟨.lst,[Ap none]⟩]) (i:=⇑h) (j:=⇑H) (a:=A++B) (b:=[Ap none]) (C6 H Km _) γ (by simp[Ay];lia);obtain⟨G,OC⟩:∃G:A6,G=H++[⟨.lst,[Ap none]⟩]++[⟨.lst,A++B++[Ap none]⟩]:=ο;rw[<-OC]at a2;have WH:⇑G=⇑H+2:=by rw[OC];simp
 have ajf:G[⇑H+1]?=↥⟨.lst,A++B++[Ap none]⟩:=by rw[OC,ET,Im];rfl
 have Cz:=h7 (c:=2) (t:=AL "forget") rfl AM (ρ:=[↥(.int (n:Int)),χ]) rfl G;rw[<-Of]at Cz;have CF:=Nv (h:=G++[⟨.lst,D⟩]) (i:=⇑H+1) (j:=⇑G) (a:=A++B++[Ap none]) (b:=D) (C6 G ajf _) γ (by simp[Ay];lia);have s2:BJ (A1 addW (A1 addW Ψ (BU (A0 (BX (A0 (pu (.str (AL "wait"))) A2)) A2))) (DZ 1 [] (Dg Γ) (AC 0) (pu true) (BX (A0 (pu (.str (AL "forget"))) Γ)))) [↥(.int (n:Int)),χ] H=.ok (.ref ⇑H,H++[⟨.lst,A++B++[Ap none]++D⟩]):=by
  rw[FJ,BQ,BQ,v_var];rw[show([↥(.int (n:Int)),χ]:BC)[1]?=↥↥(.ref ⇑h)from rfl,Cf,A3,GF,A3,a2,A3];have Ck:⇑(H++[⟨.lst,[Ap none]⟩]:A6)=⇑H+1:=γ
  rw[Ck,Cz,A3,CF,A3];refine KD (ws:=A++B++[Ap none]++D) H _ (Kc ?_) (by rw[EM,WH];lia) γ (Jw.mpr λx AJ=>?_)
  .rw[OC];exact GE (GE (GE (Ez _ _) _) _) _
  .erw[I0,Ll]at AJ;rcases AJ with((AJ|AJ)|rfl)|AJ
   .exact Jw.mp lz x AJ
   .exact Jw.mp m1 x AJ
   .exact Ka _
   .exact Jw.mp acv x AJ
 have e:S8 [.int (n:Int)] h=((az [↥(.int (n:Int)),none] h).bind outF).bind λp=>settle h p.1 p.2:=rfl;rw[e];unfold az;rw[B2,s1,A3,B9,<-CG,Gb,s2,A3,A3,IU,A3];have Ao:(plain n).map Ap=A++B++[Ap none]++D:=by rw[L_,QG,Of];simp[plain]
 rw[Ao,Ly];exact KD (ws:=A++B++[Ap none]++D) h _ (Kc (GE (by rw[CG];exact Ez _ _) _)) δ (by rw[<-Ly];simp) (by rw[<-Ao];exact H8 _ _ Ka)
def aez(n:Nat):Kq n (plain n):=by
 refine⟨λp AV=>?_,?_⟩
 .erw[plain,Kf,I0,VH,List.mem_range,Ll]at AV;rcases AV with((⟨i,hi,e⟩|⟨i,hi,e⟩)|e)|⟨i,hi,e⟩
  .cases e;exact⟨γ,hi⟩
  .cases e;exact⟨γ,hi⟩
  .cases e
  .cases e;exact⟨γ,hi⟩
 .have aO:∀c,(Kf c n).filterMap id=(Cn n).map λi=>(c,i):=λc=>by
    unfold Kf;rw[List.filterMap_map];induction Cn n with
    |nil=>rfl
    |cons x l CI=>simp[CI]
  have Bz:∀c:Nat,((Cn n).map λi=>(c,i)).Nodup:=λc=>by rw[Yl,Sl];exact List.nodup_range.imp λh z=>h (Prod.mk.inj z).2
  have e:(plain n).filterMap id=((Cn n).map λi=>(0,i))++((Cn n).map λi=>(1,i))++((Cn n).map λi=>(2,i)):=by erw[plain,tl,aO];simp
  rw[e];refine List.nodup_append.mpr ⟨List.nodup_append.mpr ⟨Bz 0,Bz 1,λa AG b A5 z=>?_⟩,Bz 2,λa AG b A5 z=>?_⟩
  .obtain⟨i,_,rfl⟩:=List.mem_map.mp AG;obtain⟨j,_,rfl⟩:=List.mem_map.mp A5;cases z
  .obtain⟨j,_,rfl⟩:=List.mem_map.mp A5;rcases List.mem_append.mp AG with AG|AG
   .obtain⟨i,_,rfl⟩:=List.mem_map.mp AG;cases z
   .obtain⟨i,_,rfl⟩:=List.mem_map.mp AG;cases z
noncomputable def Er(a n:Nat)(p:Nat)(s3 s4 s5 s6 s7:Option W):BC:=[↥(.ref a),↥(.int (n:Int)),↥(.ref p),s3,s4,s5,s6,s7]
def gb:Ak:=Bp (GN (Aa (A1 Φ (A1 BY XL (pu (.int 5))) η)) (Aa (A1 Ja (Aw BZ ω) (pu (.int 30))))) (AZ (BJ (A1 addW (A1 addW (D9 ac (pu none) (CC (I 5))) (BU (A0 (BX (A0 (pu (.str (AL "wait"))) A2)) A2))) (D9 ac (CC (I 5)) (pu none)))) (AC 2)) Bj
def gc:Ak:=Bp (Aa (A1 Φ (A1 BY XL (pu (.int 5))) ζ)) (AZ (BJ (A1 addW (D9 ac (pu none) (CC (I 5))) (D9 ac (CC (A1 addW (I 5) ζ)) (pu none)))) (AC 2)) Bj
def nL:Ak:=AO (AZ (DI Je ac (A0 (A1 BY (I 5) (Aw BZ ω)) A2)) (AC 6))
    (AO (AZ (A1 BY (A1 Cq XL (pu (.int 200))) (A1 addW (Aw BZ ω) ζ)) (AC 7))
    (AZ (BJ (A1 addW (A1 addW (D9 ac (pu none) (CC (I 7))) (BU (A0 (I 6) A2))) (D9 ac (CC (I 7)) (pu none)))) (AC 2)))
def gd:Ak:=Bp (HX (GN (Aa (A1 KS (A1 BY XL (pu (.int 5))) τ)) (Aa (A1 (As false) ac (BU A2))))) nL Bj
def fs:Ak:=AO (AZ (Aj 2 E3 (A0 Cl (A0 (pu (.int 5)) A2))) (AC 4))
    (AO (AZ (A1 BY (A1 Cq XL (pu (.int 5))) (A1 addW (Aw BZ ω) ζ)) (AC 5))
    (AO gb (AO gc gd)))
structure M8(h:A6)(n p:Nat)(ps:↑Co)(H:A6):Prop where
 pr:h<+: H
 B1:⇑h<=p
 e:H[p]?=↥⟨.lst,ps.map Ap⟩
 i:Kq n ps
def afx{h:A6}{n:Nat}{ps:↑Co}(e:h[n]?=↥⟨.lst,ps.map Ap⟩):CD 8 h (.ref n)=↥(.CW false (ps.map Kg)):=by erw[CD,GZ h e];rw[mapM_some (CD 7 h) Ap Kg (λs=>bJ 5 h s) ps];rfl
def ne_nil{h:A6}{n m:Nat}{ps:↑Co}(e:h[n]?=↥⟨.lst,ps.map Ap⟩)(Bb:h[m]?=↥⟨.lst,[]⟩):As false (.ref n) (.ref m) h=.ok (.AN (!ps.isEmpty),h):=by unfold As;rw[afx e,XG (l:=[]) 7 Bb];cases ps<;>simp[eqT,Gk]
section
variable{h H:A6}{a n p:Nat}{ps:↑Co}{y:Int}{k:Nat}{s3 s6 s7:Option W}
def M8.new{Cr:↑Co}{H1:A6}(x:M8 h n p ps H1)(q:Kq n Cr):M8 h n ⇑H1 Cr (H1++[⟨.lst,Cr.map Ap⟩]):=⟨GE x.pr _,x.pr.length_le,γ,q⟩
def u_(x:M8 h n p ps H)(l:⇑ps<=30)(AR:k<=⇑ps):∃Cr F3 AB,gb (Er a n p s3 ↥(.int y) ↥(.int (k:Int)) s6 s7) H=.ok (.AT (Er a n F3 s3 ↥(.int y) ↥(.int (k:Int)) s6 s7),AB)/\M8 h n F3 Cr AB/\ ⇑ps<=⇑Cr/\ ⇑Cr<=⇑ps+1/\ ⇑Cr<=30:=by
 unfold gb;have lw:BZ [.ref p] H=.ok (.int ⇑ps,H):=by rw[H7 x.e,Ch]
 have t:GN (Aa (A1 Φ (A1 BY XL (pu (.int 5))) η)) (Aa (A1 Ja (Aw BZ ω) (pu (.int 30)))) (Er a n p s3 ↥(.int y) ↥(.int (k:Int)) s6 s7) H=.ok (decide (y%5=0)&&decide ((⇑ps:Int)<30),H):=by
  by_cases FN:y%5=0
  .simp[Er,FN,lw]
  .simp[Er,FN]
 rw[E6,t,A3];by_cases A5:(decide (y%5=0)&&decide ((⇑ps:Int)<30))=true
 .rw[if_pos A5];have Pw:⇑ps<30:=by
   have:=(Hz .. ▸A5:_/\_).2;have:=of_decide_eq_true this;lia
  have im:=lP (i:=5) (k:=k) (w:=Ap none) (ρ:=Er a n p s3 ↥(.int y) ↥(.int (k:Int)) s6 s7) (mw:=BX (A0 (pu (.str (AL "wait"))) A2)) rfl rfl x.e (by simp;lia) (AR:) (λh'=>rfl) (H8 _ _ Ka) (Ka _);rw[mM]at im;have q:Kq n (ps.take k++[none]++ps.drop k):=Kq.wait (by rw[P_];exact x.i);refine⟨_,⇑H,_,?_,x.new q,by simp;lia,by simp;lia,by simp;lia⟩;rw[Dr,im];rfl
 .rw[if_neg A5];exact⟨ps,p,H,rfl,x,C1 _,δ,l⟩
def ua(x:M8 h n p ps H)(l:⇑ps<=30)(AR:k<=⇑ps):∃Cr F3 AB,gc (Er a n p s3 ↥(.int y) ↥(.int (k:Int)) s6 s7) H=.ok (.AT (Er a n F3 s3 ↥(.int y) ↥(.int (k:Int)) s6 s7),AB)/\M8 h n F3 Cr AB/\ ⇑Cr<=⇑ps:=by
 unfold gc;have t:Aa (A1 Φ (A1 BY XL (pu (.int 5))) ζ) (Er a n p s3 ↥(.int y) ↥(.int (k:Int)) s6 s7) H=.ok (decide (y%5=1),H):=by simp[Er]
 rw[E6,t,A3];by_cases A5:decide (y%5=1)=true
 .rw[if_pos A5];have im:=w2 (i:=5) (k:=k) (ρ:=Er a n p s3 ↥(.int y) ↥(.int (k:Int)) s6 s7) rfl rfl x.e (by simp;lia) (AR:) (H8 _ _ Ka);rw[acf]at im;have Fc:(ps.take k++ps.drop (k+1)).Sublist ps:=by
   have:(ps.take k++ps.drop (k+1)).Sublist (ps.take k++ps.drop k):=(List.Sublist.refl _).append (by rw[<-List.drop_drop];exact List.drop_sublist _ _)
   rwa [P_]at this
  refine⟨_,⇑H,_,?_,x.new (x.i.sub Fc),Fc.length_le⟩;rw[Dr,im];rfl
 .rw[if_neg A5];exact⟨ps,p,H,rfl,x,C1 _⟩
def ub(x:M8 h n p ps H)(l:⇑ps<=30):∃Cr F3 AB Kh Um,gd (Er a n p s3 ↥(.int y) ↥(.int (k:Int)) s6 s7) H=.ok (.AT (Er a n F3 s3 ↥(.int y) ↥(.int (k:Int)) Kh Um),AB)/\M8 h n F3 Cr AB/\ ⇑Cr=⇑ps:=by
 unfold gd;have Dx:As false (.ref p) (.ref ⇑H) (H++[⟨.lst,[]⟩])=.ok (.AN (!ps.isEmpty),H++[⟨.lst,[]⟩]):=ne_nil (C6 H x.e _) γ;have t:HX (GN (Aa (A1 KS (A1 BY XL (pu (.int 5))) τ)) (Aa (A1 (As false) ac (BU A2)))) (Er a n p s3 ↥(.int y) ↥(.int (k:Int)) s6 s7) H=.ok (decide (2<y%5)&&!ps.isEmpty,H):=by
  by_cases FN:2<y%5
  .simp[Er,FN,nw,Dx]
  .simp[Er,FN]
 rw[E6,t,A3];by_cases A5:(decide (2<y%5)&&!ps.isEmpty)=true
 .rw[if_pos A5];have ne:0< ⇑ps:=by
   have:=(Hz .. ▸A5:_/\_).2;cases ps with
   |nil=>cases this
   |cons _ _=>simp
  obtain⟨j,Ar,I7⟩:=Jx (k:Int) (n:=⇑ps) ne;have lw:BZ [.ref p] H=.ok (.int ⇑ps,H):=by rw[H7 x.e,Ch]
  have Jz:(0:Int)<(⇑ps:Int):=δ
  obtain⟨H1,AD⟩:∃H1:A6,H1=H.set p ⟨.lst,(ps.eraseIdx j).map Ap⟩:=⟨_,rfl⟩;have s1:AZ (DI Je ac (A0 (A1 BY (I 5) (Aw BZ ω)) A2)) (AC 6) (Er a n p s3 ↥(.int y) ↥(.int (k:Int)) s6 s7) H=.ok (.AT (Er a n p s3 ↥(.int y) ↥(.int (k:Int)) ↥(Ap ps[j]) s7),H1):=by
   have q:DI Je ac (A0 (A1 BY (I 5) (Aw BZ ω)) A2) (Er a n p s3 ↥(.int y) ↥(.int (k:Int)) s6 s7) H=.ok (Ap ps[j],H1):=by
    rw[AD];refine JB (ws:=ps.map Ap) (ws2:=ps.map Ap) (us:=[.int (j:Int)]) (h1:=H) (h2:=H) rfl x.e ?_ x.e ?_ (by simp[Ay];have:=List.length_eraseIdx_le ps j;lia)
    .erw[Er,Bn,BQ,GP,CJ,v_var,Da,ES,Cf,A3,lw,Kb,if_pos Jz,I7]
    .rw[fu (Ar:) (by simp;lia)];simp[aJ]
   rw[Dr,q];rfl
  have Fi:H1[p]?=↥⟨.lst,(ps.eraseIdx j).map Ap⟩:=by rw[AD];exact IY x.e
  have le:⇑(ps.eraseIdx j)=⇑ps-1:=h_ Ar;have adQ:BZ [.ref p] H1=.ok (.int ⇑(ps.eraseIdx j),H1):=by rw[H7 Fi,Ch]
  obtain⟨i,hi,Gj⟩:=Jx (y/200) (n:=⇑(ps.eraseIdx j)+1) δ;have Gj:y/200%((⇑(ps.eraseIdx j):Int)+1)=(i:Int):=by rw[<-Gj];simp
  have Ec:(0:Int)<(⇑(ps.eraseIdx j):Int)+1:=δ
  have s2:AZ (A1 BY (A1 Cq XL (pu (.int 200))) (A1 addW (Aw BZ ω) ζ)) (AC 7) (Er a n p s3 ↥(.int y) ↥(.int (k:Int)) ↥(Ap ps[j]) s7) H1=.ok (.AT (Er a n p s3 ↥(.int y) ↥(.int (k:Int)) ↥(Ap ps[j]) ↥(.int (i:Int))),H1):=by erw[Er,Dr,BQ,GP,Bn,CJ,v_var,Bk,Da,ES,Cf,A3,N5,if_pos (show(0:Int)<200/\(200:Int)<1073741824 by decide),adQ,N4,Kb,if_pos Ec,Gj];rfl
  have im:=lP (i:=7) (k:=i) (w:=Ap ps[j]) (ρ:=Er a n p s3 ↥(.int y) ↥(.int (k:Int)) ↥(Ap ps[j]) ↥(.int (i:Int))) (mw:=I 6) rfl rfl Fi (by rw[Ch];lia) (by rw[Ch];lia) (λh'=>rfl) (H8 _ _ Ka) (Ka _);rw[mM]at im;have pm:((ps.eraseIdx j).take i++[ps[j]]++(ps.eraseIdx j).drop i).Perm ps:=by
   have q1:((ps.eraseIdx j).take i++[ps[j]]++(ps.eraseIdx j).drop i).Perm (ps[j]::ps.eraseIdx j):=by
    rw[ET,hx];have:=List.perm_middle (a:=ps[j]) (l₁:=(ps.eraseIdx j).take i) (l₂:=(ps.eraseIdx j).drop i)
    rwa [P_]at this
   exact q1.trans (aK ps j Ar)
  have Cu:M8 h n p (ps.eraseIdx j) H1:=⟨by rw[AD];exact XF x.pr x.B1 _,x.B1,Fi,x.i.sub (List.eraseIdx_sublist ps j)⟩;refine⟨_,⇑H1,_,↥(Ap ps[j]),↥(.int (i:Int)),?_,Cu.new (x.i.perm pm),pm.length_eq⟩;unfold nL;rw[B2,s1,A3,B9,B2,s2,A3,B9,Dr,im];rfl
 .rw[if_neg A5];exact⟨ps,p,H,s6,s7,rfl,x,rfl⟩
end
def J5{h h1:A6}{k:Nat}{mf:Bs}{ma:EY}{ρ:BC}{us:↑W}{r:R (W×A6)}(BS:ma ρ h=.ok (us,h1))(l:⇑us=k)(B5:mf us h1=r):Aj k mf ma ρ h=r:=by rw[J0,BS,A3,if_pos l,B5]
def af0{l:↑Int}(AF:⇑l<=10){n:Nat}(AM:n<=6){h:A6}{a:Nat}(BS:h[a]?=↥⟨.lst,BI l⟩):∃ps,Q5 n ps/\ ⇑ps<=30/\N1 [.ref a,.int (n:Int)] h=.ok (.ref ⇑h,h++[⟨.lst,ps.map Ap⟩]):=by
 have pm:=aey AM h;have n3:⇑(plain n)=3*n+1:=by simp[plain,YN];lia
 have B1:=TD (mi:=D_ π) (it:=GC (.ref a)) (g:=AC 3) (b:=fs) (ρ:=Er a n ⇑h none none none none none) (h:=h++[⟨.lst,(plain n).map Ap⟩]) (h0:=h++[⟨.lst,(plain n).map Ap⟩]) (BI l) (by simp[BI];lia)
  (λj ρ H=>∃ps p s3 s4 s5 s6 s7,ρ=Er a n p s3 s4 s5 s6 s7/\M8 h n p ps H/\ ⇑ps<=30)
  (T:=λf H=>∃ps p s3 s4 s5 s6 s7,f=.AT (Er a n p s3 s4 s5 s6 s7)/\M8 h n p ps H/\ ⇑ps<=30)
  (Lg (C6 h BS _) rfl) (λj ρ H _ q=>by obtain⟨ps,p,_,_,_,_,_,_,x,_⟩:=q;exact Nn (Cx x.pr BS) j)
  ⟨plain n,⇑h,none,none,none,none,none,rfl,⟨Ez _ _,C1 _,γ,aez n⟩,δ⟩ ?_ ?_
 .obtain⟨f,H,C2,ps,p,s3,s4,s5,s6,s7,rfl,x,Pw⟩:=B1.HM;refine⟨ps,⟨δ,x.i.k,x.i.Bz⟩,Pw,?_⟩;have e:N1 [.ref a,.int (n:Int)] h=((AO (AZ (Aj 1 S8 υ) (AC 2)) (AO (Ew (D_ π) (AC 3) fs) (B7 ac)) [↥(.ref a),↥(.int (n:Int)),none,none,none,none,none,none] h).bind outF).bind λp=>settle h p.1 p.2:=rfl;have s1:AZ (Aj 1 S8 υ) (AC 2) [↥(.ref a),↥(.int (n:Int)),none,none,none,none,none,none] h=.ok (.AT (Er a n ⇑h none none none none none),h++[⟨.lst,(plain n).map Ap⟩]):=by
   have q:Aj 1 S8 υ [↥(.ref a),↥(.int (n:Int)),none,none,none,none,none,none] h=.ok (.ref ⇑h,h++[⟨.lst,(plain n).map Ap⟩]):=J5 (us:=[.int (n:Int)]) (h1:=h) rfl rfl pm;rw[Dr,q];rfl
  rw[e,B2,s1,A3,B9,B2,LV,C2,A3,B9,Gb,v_var,show(Er a n p s3 s4 s5 s6 s7)[2]?=↥↥(.ref p)from rfl,Cf,A3,A3,IU,A3];exact KD h H (Kc x.pr) x.B1 x.e (H8 _ _ Ka)
 .rintro j w _ H D0 ⟨ps,p,s3,s4,s5,s6,s7,rfl,x,Pw⟩;erw[BI,E7]at D0;cases ec:l[j]? with
  |none=>rw[ec]at D0;cases D0
  |some c=>
   rw[ec]at D0;cases D0;refine⟨Er a n p ↥(.int c) s4 s5 s6 s7,H,rfl,?_⟩;obtain⟨y,DG⟩:=N2 c 5 δ;have DG:∀h,E3 [.int c,.int 5] h=.ok (.int y,h):=DG;have q1:AZ (Aj 2 E3 (A0 Cl (A0 (pu (.int 5)) A2))) (AC 4) (Er a n p ↥(.int c) s4 s5 s6 s7) H=.ok (.AT (Er a n p ↥(.int c) ↥(.int y) s5 s6 s7),H):=by simp[Er,DG]
   have lw:BZ [.ref p] H=.ok (.int ⇑ps,H):=by rw[H7 x.e,Ch]
   obtain⟨k,AR,DN⟩:=Jx (y/5) (n:=⇑ps+1) δ;have DN:y/5%((⇑ps:Int)+1)=(k:Int):=by rw[<-DN];simp
   have Ec:(0:Int)<(⇑ps:Int)+1:=δ
   have q2:AZ (A1 BY (A1 Cq XL (pu (.int 5))) (A1 addW (Aw BZ ω) ζ)) (AC 5) (Er a n p ↥(.int c) ↥(.int y) s5 s6 s7) H=.ok (.AT (Er a n p ↥(.int c) ↥(.int y) ↥(.int (k:Int)) s6 s7),H):=by erw[Er,Dr,BQ,GP,Bn,CJ,v_var,Bk,Da,ES,Cf,A3,N5,if_pos (show(0:Int)<5/\(5:Int)<1073741824 by decide),lw,N4,Kb,if_pos Ec,DN];rfl
   obtain⟨Cr,F3,AB,By,Cu,g1,g2,g3⟩:=u_ (a:=a) (y:=y) (s3:=↥(.int c)) (s6:=s6) (s7:=s7) x Pw (k:=k) δ;obtain⟨alS,D2,AU,Cz,Ca,g4⟩:=ua (a:=a) (y:=y) (s3:=↥(.int c)) (s6:=s6) (s7:=s7) Cu g3 (k:=k) δ;obtain⟨agU,Ht,C4,Kh,Um,G7,Ed,KR⟩:=ub (a:=a) (y:=y) (k:=k) (s3:=↥(.int c)) (s6:=s6) (s7:=s7) Ca δ;unfold fs;rw[B2,q1,A3,B9,B2,q2,A3,B9,B2,By,A3,B9,B2,Cz,A3,B9,G7];exact⟨_,_,rfl,agU,Ht,_,_,_,_,_,rfl,Ed,δ⟩
 .rintro _ H ⟨ps,p,s3,s4,s5,s6,s7,rfl,x,Pw⟩;exact⟨ps,p,s3,s4,s5,s6,s7,rfl,x,Pw⟩
end FT
namespace Bq
def qZ{h:A6}{n:Nat}{o D1:O}(e:h[n]?=↥o)(g:A6):(h.set n D1++g).set n o=h++g:=by have AM:n< ⇑h:=(List.getElem?_eq_some_iff.mp e).1;have Au:h[n]=o:=(List.getElem?_eq_some_iff.mp e).2;rw[tW _ _ (AM:),List.set_set,<-Au,List.set_getElem_self]
def jc{m e:BB}{ρ:BC}{h:A6}{n:Nat}{AK:↑Key}{ws:↑W}(p:W->Bool)(AF:⇑ws<1000)(em:m ρ h=.ok (.ref n,h))(Au:h[n]?=↥⟨.Al AK,ws⟩)(Do:∀w∈ws,∀acc,e [↥w] (h.set n ⟨.H5 AK,ws⟩++[⟨.lst,acc⟩])=.ok (.AN (p w),h.set n ⟨.H5 AK,ws⟩++[⟨.lst,acc⟩])) :
  BJ (Aw (IV true) (A0 (Ry NX 1 [] m (AC 0) (pu true) e) A2)) ρ h=.ok (.AN (ws.all p),h):=by
 have AM:n< ⇑h:=(List.getElem?_eq_some_iff.mp Au).1;obtain⟨H,CG⟩:∃H:A6,H=h.set n ⟨.H5 AK,ws⟩:=⟨_,rfl⟩;rw[<-CG]at Do;have Ly:⇑H=⇑h:=by rw[CG];simp
 have Km:H[n]?=↥⟨.H5 AK,ws⟩:=by rw[CG];exact L3 AM
 have c:=Vw (mi:=pu (NX AK ws)) (it:=NX AK ws) (g:=AC 0) (t:=pu true) (e:=e) (ρ:=ρ) (h:=H) (h0:=H) (nl:=1) (caps:=[]) ws (λ_=>true) (λw=>.AN (p w)) (λρ=>∃s,ρ=[s]) AF rfl ⟨none,rfl⟩ (λj acc Ar=>by
   unfold NX;by_cases q:j=⇑ws
   .rw[if_pos q,Jl δ]
   .rw[if_neg q,CT δ];rfl) (by
   rintro w hw ρ acc ⟨s,rfl⟩;exact⟨[↥w],rfl,⟨_,rfl⟩,rfl,λ_=>Do w hw acc⟩)
 rw[List.filter_eq_self.mpr (λ_ _=>rfl)]at c;have z:Ry NX 1 [] m (AC 0) (pu true) e ρ h=.ok (.ref ⇑h,h++[⟨.lst,ws.map λw=>.AN (p w)⟩]):=by unfold Ry;rw[I_,em,A3];erw[Au];rw[<-CG,c];unfold rP;erw[GR (show n< ⇑H by lia),Km];rw[CG,qZ Au];simp
 have q:E5 (h++[⟨.lst,ws.map λw=>W.AN (p w)⟩]) (.ref ⇑h)=↥(false,ws.map λw=>W.AN (p w)):=GZ _ γ;have afg:IV true [.ref ⇑h] (h++[⟨.lst,ws.map λw=>W.AN (p w)⟩])=.ok (.AN (ws.all p),h++[⟨.lst,ws.map λw=>W.AN (p w)⟩]):=by erw[IV,q,eG p ws,if_true];rw[OI];rfl
 rw[FJ,GP,Bn,z,A3,CJ,A3,A3,afg,A3];exact XO _ _ _ rfl
end Bq
namespace FT
section
variable{C:Dc}{h:A6}{S:E0}
structure RN(C:Dc)(S:E0):Prop where
 le:⇑S.done<=⇑C.ps
 e:S.done=C.ps.take ⇑S.done
def ft(R:EC C h S):Jv [.ref C.r] h=.ok (.int (⇑S.done:Int),h):=by
 have fd:B8 "Run" "done" (.ref C.r) h=.ok (.ref C.M,h):=E_ R.B5 rfl;have lw:BZ [.ref C.M] h=.ok (.int ⇑S.done,h):=by rw[H7 R.CM,Ch]
 simp[Jv,cv,fd,lw]
def allM(S:E0):Bool:=S.lets.all λl=>l.m==1
noncomputable def JC(C:Dc)(S:E0):Bool:=if ⇑S.done=⇑C.ps then false else if(C.ps.getD ⇑S.done none).isSome then true else allM S
noncomputable def Tk(h:A6):W->Bool
 |.ref n=>match h[n]? with
  |some ⟨.ins _ _,.int m::_⟩=>m==1
  |_=>false
 |_=>false
def Nt{h h1:A6}{n:Nat}{c x:Str}{ns:↑Str}{ws:↑W}{mf:Bs}{o:BB}{ρ:BC}{r:Bq.R (W×A6)}(Fw:o ρ h=.ok (.ref n,h))(e:h[n]?=↥⟨.ins c ns,ws⟩)(v:Dy ns ws x=none)(B5:mf [.ref n] h=r):CV c x 0 mf o A2 ρ h=r:=MF (us:=[]) Fw e v rfl rfl B5
def nZ(c:DK C)(R:EC C h S):h[C.pl]?=↥⟨.lst,C.ps.map Ap⟩:=R.Bf _ _ c.pp (λz=>by cases z)
def n_(c:DK C)(R:EC C h S){k:Nat}(AR:k< ⇑C.ps):A8 (.ref C.pl) (.int (k:Int)) h=.ok (Ap (C.ps.getD k none),h):=E2 (nZ c R) (by rw[E7,CT AR,Ef,CT AR];rfl)
def mP(c:DK C)(R:EC C h S)(D:RN C S):U2 [.ref C.r] h=.ok (.AN (JC C S),h):=by
 have BP:B8 "Run" "plan" (.ref C.r) h=.ok (.ref C.pl,h):=E_ R.B5 rfl;have Dv:B8 "Run" "letters" (.ref C.r) h=.ok (.ref (C.M+1),h):=E_ R.B5 rfl;have lw:BZ [.ref C.pl] h=.ok (.int ⇑C.ps,h):=by rw[H7 (nZ c R),Ch]
 have mp:CV "Run" "place" 0 Jv π A2 [ι] h=.ok (.int (⇑S.done:Int),h):=Nt (h1:=h) rfl R.B5 rfl (ft R);have le:=R.le;have few:=R.few;have w6:=D.le;have al:=jc (m:=B0 (B8 "Run" "letters") π) (e:=A1 Φ (B0 (B8 "Letter" "mark") π) ζ) (ρ:=[ι]) (Tk h) (by rw[Ch];lia) (by simp[Dv]) R.el (by
  intro w hw acc;obtain⟨l,AF,rfl⟩:=List.mem_map.mp hw;have x:=R.lt l (J2 _ AF);have t1:=x.t1;have Dj:=c.Dj;obtain⟨H,CG⟩:∃H:A6,H=h.set (C.M+1) ⟨.H5 (S.lets.map EI),S.lets.map λl=>.ref l.B1⟩++[⟨.lst,acc⟩]:=ο;have z:H[l.B1]?=↥(QY l):=by rw[CG];exact C6 _ (by rw[EL δ];exact x.Fw) _
  rw[<-CG];have Oj:B8 "Letter" "mark" (.ref l.B1) H=.ok (.int (l.m:Int),H):=E_ z rfl;have pm:Tk h (.ref l.B1)=decide ((l.m:Int)=1):=by erw[Tk,x.Fw,QY];by_cases q:(l.m:Int)=1<;>simp[q]
  rw[pm];simp[Oj])
 have BS:(S.lets.map λl=>W.ref l.B1).all (Tk h)=allM S:=by
  unfold allM;rw[OI,Z6,Pg,Pg];refine forall_congr' λl=>⟨λq AF=>?_,λq AF=>?_⟩
  .have:=q AF;erw[Pa,Tk,(R.lt l (J2 _ AF)).Fw,QY,beq_iff_eq]at this |-;lia
  .have:=q AF;erw[Pa,Tk,(R.lt l (J2 _ AF)).Fw,QY,beq_iff_eq]at this |-;lia
 rw[BS]at al;have t1:Aa (A1 Φ (CV "Run" "place" 0 Jv π A2) (Aw BZ (A0 (B0 (B8 "Run" "plan") π) A2))) [ι] h=.ok (decide (⇑S.done=⇑C.ps),h):=by
  rw[Hx,BQ,mp,A3];erw[GP,Bn,CJ,Ia,v_var,Da,Cf,A3,BP,lw,Xf,Hn]
  congr 2
  exact decide_eq_decide.mpr δ
 have e:U2 [.ref C.r] h=((ZU [ι] h).bind outF).bind λp=>settle h p.1 p.2:=rfl;rw[e];unfold ZU JC;rw[B2,E6,t1,A3];by_cases hd:⇑S.done=⇑C.ps
 .rw[if_pos (decide_eq_true hd),if_pos hd,Gb,Bk,A3,A3,Uh,A3,IU,A3];exact Qq h _ rfl
 .rw[if_neg (hd:),if_neg hd,GQ,A3,B9];have EP:=n_ c R (k:=⇑S.done) δ;have CK:Aa (A1 (As false) (A1 A8 (B0 (B8 "Run" "plan") π) (CV "Run" "place" 0 Jv π A2)) (pu Mh)) [ι] h=.ok (Ip (Ap (C.ps.getD ⇑S.done none)),h):=by
   rw[Hx,BQ,BQ,Ia,v_var];rw[show([ι]:BC)[0]?=↥ι from rfl,Cf,A3,BP,A3,mp,A3,EP,A3,Bk,A3,mX,A3,Hn]
  rw[B2,E6,CK,A3];cases Ao:C.ps.getD ⇑S.done none with
  |some q=>rw[if_pos (show Ip (Ap ↥q)=true from rfl),if_pos (show(↥q).isSome=true from rfl),Gb,Bk,A3,A3,Uh,A3,IU,A3];exact Qq h _ rfl
  |none=>rw[if_neg (show¬Ip (Ap none)=true by simp[Ip,Ap]),if_neg (show¬(none:Option (Nat×Nat)).isSome=true by simp),GQ,A3,B9,Gb,al,A3,A3,IU,A3];exact Qq h _ rfl
def agj(c:DK C)(R:EC C h S)(D:RN C S)(hm:JC C S=false):Qb [.ref C.r] h=.exc "NoMove" h:=by have Fz:CV "Run" "may_step" 0 U2 π A2 [ι] h=.ok (.AN (JC C S),h):=Nt (h1:=h) rfl R.B5 rfl (mP c R D);rw[hm]at Fz;have e:Qb [.ref C.r] h=(Tg [ι] h).bind outF:=rfl;rw[e];unfold Tg;rw[B2,E6,v_not,Hx,Fz,A3,Hn,A3,A3];rfl
def mO(D:RN C S)(hm:JC C S=true):⇑S.done< ⇑C.ps:=by
 unfold JC at hm;have:=D.le
 split at hm
 .cases hm
 .lia
noncomputable def MM(C:Dc)(S:E0):E0:={ S with done:=S.done++[C.ps.getD ⇑S.done none] }
def agi(D:RN C S)(DH:⇑S.done< ⇑C.ps):RN C (MM C S):=by refine⟨by simp[MM];lia,?_⟩;show S.done++[_]=C.ps.take ⇑(S.done++[_]);rw[EM,tZ,hV DH,<-D.e,Ef,CT DH];rfl
def agl(c:DK C)(R:EC C h S)(D:RN C S)(hm:JC C S=true):∃h',Qb [.ref C.r] h=.ok (Ap (C.ps.getD ⇑S.done none),h')/\EC C h' (MM C S)/\ ⇑h'=⇑h/\∀n,n≠C.M->h'[n]?=h[n]?:=by
 have DH:=mO D hm;have f9:=c.P.l;have JF:=c.JF;have Dj:=c.Dj;have Fz:CV "Run" "may_step" 0 U2 π A2 [ι] h=.ok (.AN (JC C S),h):=Nt (h1:=h) rfl R.B5 rfl (mP c R D);rw[hm]at Fz;have BP:B8 "Run" "plan" (.ref C.r) h=.ok (.ref C.pl,h):=E_ R.B5 rfl;have fd:B8 "Run" "done" (.ref C.r) h=.ok (.ref C.M,h):=E_ R.B5 rfl;have mp:CV "Run" "place" 0 Jv π A2 [ι] h=.ok (.int (⇑S.done:Int),h):=Nt (h1:=h) rfl R.B5 rfl (ft R);obtain⟨s,es⟩:∃s,s=C.ps.getD ⇑S.done none:=ο;have EP:=n_ c R DH;rw[<-es]at EP |-;obtain⟨h',EE⟩:∃h':A6,h'=h.set C.M ⟨.lst,(S.done++[s]).map Ap⟩:=⟨_,rfl⟩;have ap:DI EO (B0 (B8 "Run" "done") π) (A0 (A1 A8 (B0 (B8 "Run" "plan") π) (CV "Run" "place" 0 Jv π A2)) A2) [ι] h=.ok (.non,h'):=by rw[EE];refine JB (ws:=S.done.map Ap) (ws2:=S.done.map Ap) (us:=[Ap s]) (h1:=h) (h2:=h) (by simp[fd]) R.CM ?_ R.CM (by simp[EO]) (by simp[Ay];lia);rw[Bn,BQ,Ia,v_var,show([ι]:BC)[0]?=↥ι from rfl,Cf,A3,BP,A3,mp,A3,EP,A3];rfl
 have keep:∀n,n≠C.M->h'[n]?=h[n]?:=λn AM=>by rw[EE,EL (λz=>AM z.symm)]
 have b9:h'[C.M]?=↥⟨.lst,(S.done++[s]).map Ap⟩:=by rw[EE];exact IY R.CM
 have jz:h'[C.r]?=↥(PN C.LN C.G5 C.Cw C.pl C.M S.Be):=by rw[keep _ δ];exact R.B5
 have y0:B8 "Run" "done" (.ref C.r) h'=.ok (.ref C.M,h'):=E_ jz rfl;have abG:A8 (.ref C.M) (.int (-1)) h'=.ok (Ap s,h'):=W8 (us:=S.done.map Ap) (by rw[b9];simp);have q:=c.D8;refine⟨h',?_,?_,by rw[EE];simp,keep⟩
 .have e:Qb [.ref C.r] h=(Tg [ι] h).bind outF:=rfl;rw[e];unfold Tg;rw[B2,E6,v_not,Hx,Fz,A3,Hn,A3,A3,if_neg γ,GQ,A3,B9,B2,JK,ap,A3,A3,B9,Gb,BQ,Ia,v_var];rw[show([ι]:BC)[0]?=↥ι from rfl,Cf,A3,y0,A3,Ia,Bk,A3];have OY:G0 (.int 1) h'=.ok (.int (-1),h'):=rfl;rw[OY,A3,abG,A3,A3,IU]
 .refine⟨λn o' k ne=>?_,jz,by rw[b9];simp[MM,es],by rw[keep _ δ];exact R.el,by rw[keep _ δ];exact R.Ik,λl AF=>?_,R.Bz,R.nn,R.HL,λp AV=>?_,R.few,R.le,by rw[EE];simpa using R.AF,R.pr⟩
  .rw[keep n (by have:=Eu k;lia)];exact R.Bf n o' k ne
  .have x:=R.lt l AF;have:=x.t1;have:=x.CK;exact x.to (keep _ δ) (keep _ δ)
  .erw[MM,I0,Ll]at AV;rcases AV with AV|AV
   .exact R.IM p AV
   .refine(c.P.k p ?_).1;rw[AV,Ef,CT DH];exact Jm _
def mU(R:EC C h S){r:Bq.R (W×A6)}(e:Qb [.ref C.r] h=r)(B6:r=.exc "NoMove" h\/∃p,r=.ok p):Jc [.ref C.r,.tup [.str (AL "step")]] h=r:=by
 have Cb:EF "tuple" (.tup [.str (AL "step")]) h=.ok Tm:=rfl;have FO:EF "str" (.str (AL "step")) h=.ok Tm:=rfl;have Fz:CV "Run" "step" 0 Qb π A2 [ι,↥(.tup [.str (AL "step")])] h=r:=Nt (h1:=h) rfl R.B5 rfl e;have q1:(AL "step"==AL "come")=false:=rfl;have q2:(AL "step"==AL "go")=false:=rfl;have F4:As true (.tup [.str (AL "step")]) T5 h=.ok Tm:=by simp[As,T5,CD,eqT,Gk]
 rcases B6 with B6|⟨⟨w,h'⟩,B6⟩
 .rw[B6]at Fz |-;simp[Jc,Tf,Cb,FO,Oz,Fp,q1,q2,F4,Fz]
 .rw[B6]at Fz |-;simp[Jc,Tf,Cb,FO,Oz,Fp,q1,q2,F4,Fz]
end
end FT
namespace Bq
def w3{h:A6}{n:Nat}{AK:↑Key}{vs:↑W}(e:h[n]?=↥⟨.Al AK,vs⟩)(x:Str):Ho h (.ref n) (.str x)=↥(Dy AK vs (.inr x)):=by erw[Ho,e,keyOf,R0]
def Lw{h:A6}{n:Nat}{AK:↑Key}{vs:↑W}{x:Str}{w:W}(e:h[n]?=↥⟨.Al AK,vs⟩)(v:Dy AK vs (.inr x)=↥w):A8 (.ref n) (.str x) h=.ok (w,h):=by unfold A8;rw[w3 e,v]
def kh{h:A6}{n:Nat}{AK:↑Key}{vs sz:↑W}{x:Str}{v:W}{ρ:BC}(e:h[n]?=↥⟨.Al AK,vs⟩)(l:⇑vs<Ay)(m: .inr x∈AK)(ev:Nz AK vs (.inr x) v=sz):Mj (.ref n) (.str x) v ρ h=.ok (.AT ρ,h.set n ⟨.Al AK,sz⟩):=by unfold Mj;erw[e,keyOf,if_pos l,M_,if_pos m,ev]
end Bq
namespace FT
noncomputable def PO:↑Key:=[.inr (AL "wires"),.inr (AL "books"),.inr (AL "plan"),.inr (AL "done"),.inr (AL "letters"),.inr (AL "came"),.inr (AL "ended")]
structure GH where
 q:Nat
 JE:Nat
 po:Nat
 C7:Nat
 pp:Nat
def PR(C:Dc)(P:GH)(IN ce:Nat):O:=⟨.Al PO,[.ref P.JE,.ref (P.q+1),.ref P.pp,.int (IN:Int),.ref (P.q+2),.int (ce:Int),.ref (P.q+3)]⟩
structure Ft(C:Dc)(P:GH):Prop where
 w:C.K[P.JE]?=↥⟨.lst,C.ws.map CH⟩
 a:Db C.K P.po C.A
 b:Db C.K P.C7 C.B
 p:C.K[P.pp]?=↥⟨.lst,C.ps.map Ap⟩
 t:P.q+4<=C.T
 g:C.M+3<=P.q
noncomputable def Dw(f:Nat->Nat)(l:Lt):W:=.tup [.int (l.m:Int),.int (l.a:Int),.ref (f l.n)]
def Om(l:Lt):Ae:=l.pre.headD l.d
def HV(f:Nat->Nat)(e:Lt×Tl):W:=.tup [.int (e.1.n:Int),.int (e.1.m:Int),AY (Om e.1),.int (e.1.a:Int),.ref (f e.1.n),CR e.2]
structure EB(C:Dc)(P:GH)(h:A6)(S:E0)(f:Nat->Nat):Prop where
 Bf:∀(n:Nat) o,C.K[n]?=↥o->o≠Ij->h[n]?=↥o
 D:RN C S
 st:h[P.q]?=↥(PR C P ⇑S.done S.Be)
 Fc:h[P.q+1]?=↥⟨.lst,[.ref P.po,.ref P.C7]⟩
 Bm:h[P.q+2]?=↥⟨.Al (S.lets.map EI),S.lets.map (Dw f)⟩
 Qo:h[P.q+3]?=↥⟨.lst,S.ended.map (HV f)⟩/\ ⇑S.ended+⇑S.lets<=S.Be
 IW:∀l∈CU S,h[f l.n]?=↥(HH l)/\C.T<=f l.n
 lt:∀l∈S.lets,l.m<2/\l.a<16/\l.d∈DF C.cs ⇑C.cs
 nn:((CU S).map (·.n)).Nodup
 HL:∀l∈CU S,l.n<S.Be
 IM:∀p,↥p∈S.done->p.1<3
 few:S.Be<1000
 AF:C.T<=⇑h
 pr:∀l∈S.lets,⇑l.pre<=S.Cd
 so:S.lets.Pairwise λa b=>a.n<b.n
section
variable{C:Dc}{P:GH}{h:A6}{S:E0}{f:Nat->Nat}
def EB.Ea(J:EB C P h S f):⇑S.lets<=S.Be:=by have:=J.Qo.2;lia
def UV{l:Lt}(h:l∈S.lets):l∈CU S:=J2 _ h
def ak{e:Lt×Tl}(h:e∈S.ended):e.1∈CU S:=IA _ (List.mem_map.mpr ⟨e,h,rfl⟩)
def EB.to{h':A6}(c:DK C)(k:Ft C P)(J:EB C P h S f)(e:∀n,(n< ⇑C.K/\C.K[n]?≠↥Ij)\/(P.q<=n/\n<P.q+4)\/(∃l∈CU S,n=f l.n)->h'[n]?=h[n]?)(AF:C.T<=⇑h'):EB C P h' S f:=by obtain⟨AD,AH⟩:=J.Qo;have q:∀n,P.q<=n/\n<P.q+4->h'[n]?=h[n]?:=λn AM=>e n (.inr (.inl AM));exact⟨λn o Js ne=>(e n (.inl ⟨Eu Js,λz=>ne (by rw[Js]at z;cases z;rfl)⟩)).trans (J.Bf n o Js ne),J.D,(q _ δ).trans J.st,(q _ δ).trans J.Fc,(q _ δ).trans J.Bm,⟨(q _ δ).trans AD,AH⟩,λl AF=>⟨(e _ (.inr (.inr ⟨l,AF,rfl⟩))).trans (J.IW l AF).1,(J.IW l AF).2⟩,J.lt,J.nn,J.HL,J.IM,J.few,AF,J.pr,J.so⟩
def zA(J:EB C P h S f):A8 (.ref P.q) (.str (AL "wires")) h=.ok (.ref P.JE,h):=Lw J.st rfl
def z7(J:EB C P h S f):A8 (.ref P.q) (.str (AL "books")) h=.ok (.ref (P.q+1),h):=Lw J.st rfl
def aS(J:EB C P h S f):A8 (.ref P.q) (.str (AL "plan")) h=.ok (.ref P.pp,h):=Lw J.st rfl
def W_(J:EB C P h S f):A8 (.ref P.q) (.str (AL "done")) h=.ok (.int (⇑S.done:Int),h):=Lw J.st rfl
def TN(J:EB C P h S f):A8 (.ref P.q) (.str (AL "letters")) h=.ok (.ref (P.q+2),h):=Lw J.st rfl
def z8(J:EB C P h S f):A8 (.ref P.q) (.str (AL "came")) h=.ok (.int (S.Be:Int),h):=Lw J.st rfl
def z9(J:EB C P h S f):A8 (.ref P.q) (.str (AL "ended")) h=.ok (.ref (P.q+3),h):=Lw J.st rfl
def bj(k:Ft C P)(R:EB C P h S f):h[P.pp]?=↥⟨.lst,C.ps.map Ap⟩:=R.Bf _ _ k.p (λz=>by cases z)
def kV(k:Ft C P)(c:DK C)(J:EB C P h S f)(ρ:BC):MJ (.ref P.pp) none ↥(⇑S.done:Int) ρ h=.ok (.ref ⇑h,h++[⟨.lst,S.done.map Ap⟩]):=by have f9:=c.P.l;rw[XN (bj k J) (by rw[Ch];lia),eN _ (by rw[Ch];exact J.D.le),<-VL,<-J.D.e]
def gk{ρ:BC}{m:BB}{k:Int}{h h1:A6}(e:m ρ h=.ok (.int k,h1)):CC m ρ h=.ok (↥k,h1):=by unfold CC;rw[I_,e];rfl
def adC(k:Ft C P)(c:DK C)(J:EB C P h S f){hh m:Nat}(hm:m<2):UD [.ref P.q,.int (hh:Int),.int (m:Int)] h=.ok (.AN (Mw S.done hh m),h):=by
 obtain⟨H,CG⟩:∃H:A6,H=h++[⟨.lst,S.done.map Ap⟩]:=ο;have Km:H[⇑h]?=↥⟨.lst,S.done.map Ap⟩:=by rw[CG];simp
 have s1:AZ (BJ (D9 (A1 A8 π (pu (.str (AL "plan")))) (pu none) (CC Fr))) (AC 3) [KK,↥(.int (hh:Int)),↥(.int (m:Int)),none] h=.ok (.AT [KK,↥(.int (hh:Int)),↥(.int (m:Int)),χ],H):=by
  have v0:∀h':A6,I 0 [KK,↥(.int (hh:Int)),↥(.int (m:Int)),none] h'=.ok (.ref P.q,h'):=λ_=>rfl;have Lc:CC Fr [KK,↥(.int (hh:Int)),↥(.int (m:Int)),none] h=.ok (↥(⇑S.done:Int),h):=gk (by rw[BQ,v0,A3,Bk,A3,W_ J]);have q:BJ (D9 (A1 A8 π (pu (.str (AL "plan")))) (pu none) (CC Fr)) [KK,↥(.int (hh:Int)),↥(.int (m:Int)),none] h=.ok (.ref ⇑h,H):=by rw[FJ,NC,BQ,v0,A3,Bk,A3,aS J,A3,Bk,A3,Lc,A3,kV k c J,A3,CG];exact Me h _ rfl (H8 _ _ Ka)
  rw[Dr,q];rfl
 have Eo:=UW (hh:=hh) (k:=0) true Km δ J.IM;have FO:=UW (hh:=hh) (k:=2) false Km δ J.IM;rw[show HS 0=AL "teach" from rfl]at Eo;rw[show HS 2=AL "forget" from rfl]at FO;have e:UD [.ref P.q,.int (hh:Int),.int (m:Int)] h=((ax [KK,↥(.int (hh:Int)),↥(.int (m:Int)),none] h).bind outF).bind λp=>settle h p.1 p.2:=rfl;rw[e];unfold ax;rw[B2,s1,A3,B9];have:m=0\/m=1:=δ
 rcases this with rfl|rfl
 .simp[FO,Ay,Mw];rw[CG];simp
 .simp[Eo,Ay,Mw];rw[CG];simp
def Tn:W->Bool
 |.tup (.int m::_)=>m==1
 |_=>false
def acT(h:A6)(s:Co):As false (Ap s) (.tup [.str (AL "wait")]) h=.ok (.AN (Ip (Ap s)),h):=by
 cases s with
 |none=>simp[As,Ap,CD,eqT,Gk,Ip]
 |some p=>simp[As,Ap,CD,eqT,Gk,Ip]
def m9(k:Ft C P)(c:DK C)(J:EB C P h S f):UE [.ref P.q] h=.ok (.AN (JC C S),h):=by
 have v0:∀h':A6,I 0 [KK] h'=.ok (.ref P.q,h'):=λ_=>rfl;have lw:BZ [.ref P.pp] h=.ok (.int ⇑C.ps,h):=by rw[H7 (bj k J),Ch]
 have le:=J.Ea;have few:=J.few;have w6:=J.D.le;have al:=jc (m:=A1 A8 π (pu (.str (AL "letters")))) (e:=A1 Φ (A1 A8 π η) ζ) (ρ:=[KK]) Tn (by rw[Ch];lia) (by rw[BQ,v0,A3,Bk,A3,TN J]) J.Bm (by
  intro w hw acc;obtain⟨l,AF,rfl⟩:=List.mem_map.mp hw;have pm:Tn (Dw f l)=decide ((l.m:Int)=1):=by erw[Tn,Dw];by_cases q:(l.m:Int)=1<;>simp[q]
  rw[pm];simp[Dw,Fp])
 have BS:(S.lets.map (Dw f)).all Tn=allM S:=by
  unfold allM;rw[OI]
  congr 1
  funext l
  by_cases q:l.m=1
  .have Cm:(l.m:Int)=1:=δ
   simp[Pa,Tn,Dw,q]
  .have Cm:¬(l.m:Int)=1:=δ
   erw[Pa,Tn,Dw];rw[beq_false_of_ne Cm,beq_false_of_ne q]
 rw[BS]at al;have t1:Aa (A1 Φ Fr (Aw BZ (A0 (A1 A8 π (pu (.str (AL "plan")))) A2))) [KK] h=.ok (decide (⇑S.done=⇑C.ps),h):=by
  rw[Hx,BQ,BQ,v0,A3,Bk,A3,W_ J,A3,GP,Bn,BQ,v0,A3,Bk,A3,aS J,A3,CJ,A3,A3,lw,A3,Xf,A3,Hn]
  congr 2
  exact decide_eq_decide.mpr δ
 have e:UE [.ref P.q] h=((ay [KK] h).bind outF).bind λp=>settle h p.1 p.2:=rfl;rw[e];unfold ay JC;rw[B2,E6,t1,A3];by_cases hd:⇑S.done=⇑C.ps
 .rw[if_pos (decide_eq_true hd),if_pos hd,Gb,Bk,A3,A3,Uh,A3,IU,A3];exact Qq h _ rfl
 .rw[if_neg (hd:),if_neg hd,GQ,A3,B9];have DH:⇑S.done< ⇑C.ps:=δ
  have EP:A8 (.ref P.pp) (.int (⇑S.done:Int)) h=.ok (Ap (C.ps.getD ⇑S.done none),h):=E2 (bj k J) (by rw[E7,CT DH,Ef,CT DH];rfl);have CK:Aa (A1 (As false) (A1 A8 (A1 A8 π (pu (.str (AL "plan")))) Fr) (BX (A0 (pu (.str (AL "wait"))) A2))) [KK] h=.ok (Ip (Ap (C.ps.getD ⇑S.done none)),h):=by rw[Hx,BQ,BQ,BQ,v0,A3,Bk,A3,aS J,A3,BQ,v0,A3,Bk,A3,W_ J,A3,EP,A3];have PV:BX (A0 (pu (.str (AL "wait"))) A2) [KK] h=.ok (.tup [.str (AL "wait")],h):=rfl;rw[PV,A3,acT,A3,Hn]
  rw[B2,E6,CK,A3];cases Ao:C.ps.getD ⇑S.done none with
  |some q=>rw[if_pos (show Ip (Ap ↥q)=true from rfl),if_pos (show(↥q).isSome=true from rfl),Gb,Bk,A3,A3,Uh,A3,IU,A3];exact Qq h _ rfl
  |none=>rw[if_neg (show¬Ip (Ap none)=true by simp[Ip,Ap]),if_neg (show¬(none:Option (Nat×Nat)).isSome=true by simp),GQ,A3,B9,Gb,al,A3,A3,IU,A3];exact Qq h _ rfl
end
section
variable{C:Dc}{P:GH}{h:A6}{S:E0}{f:Nat->Nat}
def PL(S:E0)(q:Nat)(d:Ae)(a:Nat):E0:={ S with Be:=S.Be+1,lets:=S.lets++[LL S q d a] }
noncomputable def Gg(f:Nat->Nat)(n p:Nat):Nat->Nat:=λk=>if k=n then p else f k
def Vk{q:Nat}{d:Ae}{a:Nat}{y:Lt}:y∈CU (PL S q d a)↔y∈CU S\/y=LL S q d a:=by erw[CU,PL,I0,Ll];exact⟨λh=>by rcases h with(h|h)|h<;>simp[h],λh=>by rcases h with(h|h)|h<;>simp[h]⟩
def hA{h h1:A6}{ws:↑W}(p:GO h h1=true)(e:G1 ws=false):settle h (.tup ws) h1=.ok (.tup ws,h1):=by unfold Bq.settle;erw[p,if_true,DP,e];rfl
def EB.f5(J:EB C P h S f):(.inl (S.Be:Int):Key)∉S.lets.map EI:=λz=>by obtain⟨l,AF,e⟩:=List.mem_map.mp z;have:=J.HL l (UV AF);erw[EI,VM]at e;lia
def abW(k:Ft C P)(c:DK C)(J:EB C P h S f)(AI:S.Be<900)(q:Nat){d:Ae}(hd:d∈DF C.cs ⇑C.cs){a:Nat}(AG:a<16) :
  ∃h',XQ [.ref P.q,AY d,.int (a:Int)] h=.ok (.int (S.Be:Int),h')/\EB C P h' (PL S q d a) (Gg f S.Be ⇑h)/\
   ⇑h<=⇑h'/\∀n,n< ⇑h->n≠P.q->n≠P.q+2->h'[n]?=h[n]?:=by
 have D8:=c.D8;have kt:=k.t;have Rt:=k.g;have AF:=J.AF;have few:=J.few;have Ea:=J.Ea;obtain⟨O9,Rv⟩:=J.Qo;obtain⟨ρ,CY⟩:∃ρ:Option W->Option W->BC,ρ=λx y=>[KK,↥(AY d),ς,x,y]:=ο;have v0:∀x y(h':A6),I 0 (ρ x y) h'=.ok (.ref P.q,h'):=λ_ _ _=>by rw[CY];rfl
 have v1:∀x y(h':A6),I 1 (ρ x y) h'=.ok (AY d,h'):=λ_ _ _=>by rw[CY];rfl
 have v2:∀x y(h':A6),I 2 (ρ x y) h'=.ok (.int (a:Int),h'):=λ_ _ _=>by rw[CY];rfl
 have Ri:∀x y(h':A6),I 3 (ρ ↥x y) h'=.ok (x,h'):=λ_ _ _=>by rw[CY];rfl
 have v4:∀x y(h':A6),I 4 (ρ x ↥y) h'=.ok (y,h'):=λ_ _ _=>by rw[CY];rfl
 have Km:(h++[(⟨.lst,S.done.map Ap⟩:O)])[⇑h]?=↥⟨.lst,S.done.map Ap⟩:=γ
 have Cb:=UW (hh:=d.1) (k:=1) true Km δ J.IM;rw[show HS 1=AL "turn" from rfl]at Cb;have s1:AZ (BJ (Aw Rg (A0 (BJ (A1 (E1 true) (BX (A0 (pu (.str (AL "turn"))) (A0 (A1 A8 Ψ η) A2))) (D9 (A1 A8 π (pu (.str (AL "plan")))) (pu none) (CC Fr)))) A2))) (AC 3) (ρ none none) h=.ok (.AT (ρ ↥(.int Δ) none),h):=by
  have Lc:CC Fr (ρ none none) h=.ok (↥(⇑S.done:Int),h):=gk (by rw[BQ,v0,A3,Bk,A3,W_ J]);have QR:BX (A0 (pu (.str (AL "turn"))) (A0 (A1 A8 Ψ η) A2)) (ρ none none) h=.ok (.tup [.str (AL "turn"),.int (d.1:Int)],h):=by rw[CY];simp[AY,Fp,Ay]
  have q:BJ (A1 (E1 true) (BX (A0 (pu (.str (AL "turn"))) (A0 (A1 A8 Ψ η) A2))) (D9 (A1 A8 π (pu (.str (AL "plan")))) (pu none) (CC Fr))) (ρ none none) h=.ok (.AN (decide (↥(1,d.1)∈S.done)),h):=by rw[FJ,BQ,QR,A3,NC,BQ,v0,A3,Bk,A3,aS J,A3,Bk,A3,Lc,A3,kV k c J,A3,Cb,A3];exact XO h _ _ rfl
  rw[Dr,FJ,GP,Bn,q,A3,CJ,A3,A3];have t:Rg [.AN (decide (↥(1,d.1)∈S.done))] h=.ok (.int Δ,h):=by unfold EW;by_cases z:↥(1,d.1)∈S.done<;>simp[Rg,z]
  rw[t,A3,Qq h _ rfl,A3,CY];rfl
 have s2:AZ (A1 A8 π (pu (.str (AL "came")))) (AC 4) (ρ ↥(.int Δ) none) h=.ok (.AT (ρ ↥(.int Δ) ↥(.int (S.Be:Int))),h):=by rw[Dr,BQ,v0,A3,Bk,A3,z8 J,A3,CY];rfl
 obtain⟨r,B5⟩:∃r,r=ρ ↥(.int Δ) ↥(.int (S.Be:Int)):=ο;obtain⟨h1,AD⟩:∃h1,h1=h++[⟨.lst,[AY d]⟩]:=ο;have Cp:⇑h1=⇑h+1:=by rw[AD];simp
 have D1:∀n,n< ⇑h->h1[n]?=h[n]?:=λn AM=>by rw[AD,GR AM]
 have Wy:BJ (BX (A0 Cl (A0 ac (A0 (BU υ) A2)))) r h=.ok (.tup [.int Δ,.int (a:Int),.ref ⇑h],h1):=by
  have z:BX (A0 Cl (A0 ac (A0 (BU υ) A2))) r h=.ok (.tup [.int Δ,.int (a:Int),.ref ⇑h],h1):=by rw[B5,CY,AD];simp[Ay,nw]
  rw[FJ,z,A3,AD];exact hA (UK h _) rfl
 have NQ:h1[P.q]?=↥(PR C P ⇑S.done S.Be):=by rw[D1 _ δ];exact J.st
 have SE:h1[P.q+2]?=↥⟨.Al (S.lets.map EI),S.lets.map (Dw f)⟩:=by rw[D1 _ δ];exact J.Bm
 have e3:A8 (.ref P.q) (.str (AL "letters")) h1=.ok (.ref (P.q+2),h1):=Lw NQ rfl;have pt:=kg (v:=.tup [.int Δ,.int (a:Int),.ref ⇑h]) (ρ:=r) SE J.f5 (by rw[Ch];unfold Ay;lia);obtain⟨h2,AH⟩:∃h2,h2=h1.set (P.q+2) ⟨.Al (S.lets.map EI++[.inl (S.Be:Int)]),S.lets.map (Dw f)++[.tup [.int Δ,.int (a:Int),.ref ⇑h]]⟩:=⟨_,rfl⟩;rw[<-AH]at pt;have s3:Jb Θ XL (BJ (BX (A0 Cl (A0 ac (A0 (BU υ) A2))))) r h=.ok (.AT r,h2):=by rw[Uq,Wy,A3,BQ];have KG:=v0 ↥(.int Δ) ↥(.int (S.Be:Int)) h1;have Xo:=v4 ↥(.int Δ) (.int (S.Be:Int)) h1;rw[<-B5]at KG Xo;rw[KG,A3,Bk,A3,e3,A3,Xo,A3,pt]
 have KC:h2[P.q]?=↥(PR C P ⇑S.done S.Be):=by rw[AH,EL δ];exact NQ
 obtain⟨BO,DT⟩:∃BO,BO=h2.set P.q (PR C P ⇑S.done (S.Be+1)):=ο;have s4:Jb π (pu (.str (AL "came"))) (A1 addW XL ζ) r h2=.ok (.AT r,BO):=by have KG:=v0 ↥(.int Δ) ↥(.int (S.Be:Int)) h2;have Xo:=v4 ↥(.int Δ) (.int (S.Be:Int)) h2;rw[<-B5]at KG Xo;rw[Uq,BQ,Xo,A3,Bk,A3,N4,A3,KG,A3,Bk,A3,DT];exact kh KC (by simp[Ay]) (by simp[PO]) rfl
 have Ck:⇑h2=⇑h+1:=by rw[AH];simpa using Cp
 have Mx:⇑BO=⇑h+1:=by rw[DT];simpa using Ck
 have keep:∀n,n≠P.q->n≠P.q+2->BO[n]?=h1[n]?:=λn E4 FQ=>by rw[DT,EL (λz=>E4 z.symm),AH,EL (λz=>FQ z.symm)]
 have Qf:∀l∈CU S,Gg f S.Be ⇑h l.n=f l.n:=λl AF=>by have:=J.HL l AF;erw[Gg];rw[if_neg δ]
 have un:Gg f S.Be ⇑h S.Be=⇑h:=by simp[Gg]
 have nl:(LL S q d a).n=S.Be:=rfl;refine⟨BO,?_,?_,δ,λn AM E4 FQ=>(keep n E4 FQ).trans (D1 n AM)⟩
 .have e:XQ [.ref P.q,AY d,.int (a:Int)] h=(au (ρ none none) h).bind outF:=by rw[CY];rfl
  rw[e];unfold au;rw[B2,s1,A3,B9,B2,s2,A3,B9,<-B5,B2,s3,A3,B9,B2,s4,A3,B9,Gb,B5,v4];rfl
 .refine⟨λn o' Js ne=>?_,⟨J.D.le,J.D.e⟩,?_,?_,?_,⟨?_,?_⟩,λl Le=>?_,λl Le=>?_,?_,λl Le=>?_,J.IM,?_,δ,λl Le=>?_,?_⟩
  .have:=Eu Js;rw[keep n δ δ,D1 n δ];exact J.Bf n o' Js ne
  .rw[DT,IY KC];rfl
  .rw[keep _ δ δ,D1 _ δ];exact J.Fc
  .rw[DT,EL δ,AH,IY SE];erw[PL,IE,DC,I1];have GX:S.lets.map (Dw f)=S.lets.map (Dw (Gg f S.Be ⇑h)):=Sj λl AF=>by erw[Dw,Qf l (UV AF)]
   have GY:Dw (Gg f S.Be ⇑h) (LL S q d a)=.tup [.int Δ,.int (a:Int),.ref ⇑h]:=by erw[Dw,nl,un];rfl
   rw[GX,GY];rfl
  .rw[keep _ δ δ,D1 _ δ,O9];exact congrArg (λx=>↥(O.mk .lst x)) (Sj λe he=>by erw[HV,Qf e.1 (ak he)])
  .erw[PL,EM,DV,FK];lia
  .rcases Vk.mp Le with hm|hm
   .rw[Qf l hm];have z:=J.IW l hm;have:=Eu z.1;exact⟨by rw[keep _ δ δ,D1 _ δ];exact z.1,z.2⟩
   .subst hm;rw[nl,un];refine⟨?_,AF⟩;rw[keep _ δ δ,AD];simp[HH,LL]
  .rcases List.mem_append.mp Le with hm|hm
   .exact J.lt l hm
   .rw[Ll]at hm;subst hm;refine⟨?_,AG,hd⟩;erw[LL,EW];split<;>lia
  .rw[show CU (PL S q d a)=S.lets++LL S q d a::S.ended.map (·.1)by simp[CU,PL],(List.perm_middle.map _).nodup_iff,DC];refine List.nodup_cons.mpr ⟨λz=>?_,J.nn⟩;obtain⟨y,AP,e⟩:=List.mem_map.mp z;have:=J.HL y AP;rw[nl]at e;lia
  .show l.n<S.Be+1;rcases Vk.mp Le with hm|hm
   .have:=J.HL l hm;lia
   .subst hm;rw[nl];lia
  .show S.Be+1<1000;lia
  .show⇑l.pre<=S.Cd;rcases List.mem_append.mp Le with hm|hm
   .exact J.pr l hm
   .rw[Ll]at hm;subst hm;simp[LL]
  .refine List.pairwise_append.mpr ⟨J.so,γ,λx AJ y AP=>?_⟩;rw[Ll]at AP;subst AP;exact J.HL x (UV AJ)
end
section
variable{C:Dc}{P:GH}{h:A6}{S:E0}{f:Nat->Nat}
def abV(k:Ft C P)(c:DK C)(J:EB C P h S f){m hh:Nat}(hm:m<2)(hd:hh< ⇑C.cs):∃q r,A8 (.ref (P.q+1)) (.int (m:Int)) h=.ok (.ref q,h)/\A8 (.ref q) (.int (hh:Int)) h=.ok (.ref r,h)/\h[r]?=↥(FX (Ti C m hh))/\LF (C.cs.getD hh 0) (Ti C m hh):=by
 have on:∀(b:Nat)(B:↑↑Cs),HC C.cs B->Db h b B->∃r,A8 (.ref b) (.int (hh:Int)) h=.ok (.ref r,h)/\h[r]?=↥(FX (B.getD hh []))/\LF (C.cs.getD hh 0) (B.getD hh []):=λb B ok at'=>by
  obtain⟨rs,e,QP,r⟩:=at'.ex;have B6:hh< ⇑rs:=by rw[QP,ok.1];exact hd
  exact⟨rs[hh],E2 e (by rw[E7,CT B6];rfl),r _ _ (CT B6),ok.2 _ hd⟩
 have:m=0\/m=1:=δ
 rcases this with rfl|rfl
 .obtain⟨r,AD,AH,DT⟩:=on P.po C.A c.HY (T0 J.Bf k.a);exact⟨P.po,r,E2 J.Fc rfl,AD,AH,DT⟩
 .obtain⟨r,AD,AH,DT⟩:=on P.C7 C.B c.HN (T0 J.Bf k.b);exact⟨P.C7,r,E2 J.Fc rfl,AD,AH,DT⟩
def ad9(k:Ft C P)(c:DK C)(J:EB C P h S f)(hm:S.Cd<900000){C5 B3:↑Lt}{l:Lt}(es:S.lets=C5++l::B3) :
  ∃h' p,UC [.ref P.q,.int (l.n:Int)] h=.ok (CR (Hs C S.done l),h')/\EB C P h' (Fn S C5 l B3 (Hs C S.done l)) (Gg f l.n p)/\(⇑h<=p\/p=f l.n)/\
   ⇑h<=⇑h'/\∀n,n< ⇑h->n≠P.q+2->n≠P.q+3->h'[n]?=h[n]?:=by
 have D8:=c.D8;have kt:=k.t;have Rt:=k.g;have AF:=J.AF;have few:=J.few;have Ea:=J.Ea;obtain⟨O9,Rv⟩:=J.Qo;have Iw:l∈S.lets:=by rw[es];simp
 have an:CU S=C5++l::(B3++S.ended.map (·.1)):=by simp[CU,es]
 have nn:=J.nn;rw[an]at nn;obtain⟨E4,gL⟩:=gO nn;have FQ:l.n∉B3.map (·.n):=λz=>gL (by rw[IE];exact J2 _ z);have ne:∀e∈S.ended,e.1.n≠l.n:=λe he z=>gL (by rw[IE,<-z];exact IA _ (List.mem_map.mpr ⟨e.1,List.mem_map.mpr ⟨e,he,rfl⟩,rfl⟩));have k1:=WA E4;have k2:=WA FQ;obtain⟨lm,Gr,ld⟩:=J.lt l Iw;obtain⟨F5,alT⟩:=J.IW l (UV Iw);have pl:=J.pr l Iw;have hd:=(XZ.mp ld).1;have Bm:h[P.q+2]?=↥⟨.Al (C5.map EI++EI l::B3.map EI),C5.map (Dw f)++Dw f l::B3.map (Dw f)⟩:=by rw[J.Bm,es];simp
 have EP:A8 (.ref (P.q+2)) (.int (l.n:Int)) h=.ok (Dw f l,h):=by unfold A8;rw[eQ Bm];have:Dy (C5.map EI++EI l::B3.map EI) (C5.map (Dw f)++Dw f l::B3.map (Dw f)) (.inl (l.n:Int))=↥(Dw f l):=Xm k1 γ;rw[this]
 obtain⟨ρ,CY⟩:∃ρ:Option W->Option W->Option W->Option W->BC,ρ=λx y z w=>[KK,↥(.int (l.n:Int)),x,y,z,w]:=ο;have v0:∀x y z w(h':A6),I 0 (ρ x y z w) h'=.ok (.ref P.q,h'):=λ_ _ _ _ _=>by rw[CY];rfl
 have v1:∀x y z w(h':A6),I 1 (ρ x y z w) h'=.ok (.int (l.n:Int),h'):=λ_ _ _ _ _=>by rw[CY];rfl
 have s1:M0 (A1 A8 Θ Ψ) (Ei [(AC 2),(AC 3),(AC 4)]) (ρ none none none none) h=.ok (.AT (ρ ↥(.int (l.m:Int)) ↥(.int (l.a:Int)) ↥(.ref (f l.n)) none),h):=by rw[sl,BQ,BQ,v0,A3,Bk,A3,TN J,A3,v1,A3,EP,A3,CY];simp[Dw]
 obtain⟨σ,eσ⟩:∃ σ :Option W->BC,σ =λw=>ρ ↥(.int (l.m:Int)) ↥(.int (l.a:Int)) ↥(.ref (f l.n)) w:=ο;have Rh:∀w(h':A6),I 0 (σ w) h'=.ok (.ref P.q,h'):=λ_ _=>by rw[eσ,CY];rfl
 have X1:∀w(h':A6),I 1 (σ w) h'=.ok (.int (l.n:Int),h'):=λ_ _=>by rw[eσ,CY];rfl
 have N6:∀w(h':A6),I 2 (σ w) h'=.ok (.int (l.m:Int),h'):=λ_ _=>by rw[eσ,CY];rfl
 have XP:∀w(h':A6),I 3 (σ w) h'=.ok (.int (l.a:Int),h'):=λ_ _=>by rw[eσ,CY];rfl
 have Xg:∀w(h':A6),I 4 (σ w) h'=.ok (.ref (f l.n),h'):=λ_ _=>by rw[eσ,CY];rfl
 have Uo:∀w(h':A6),I 5 (σ ↥w) h'=.ok (w,h'):=λ_ _=>by rw[eσ,CY];rfl
 have O3:∀w v(h':A6),AC 5 v (σ w) h'=.ok (.AT (σ ↥v),h'):=λ_ _ _=>by rw[eσ,CY];rfl
 have Iy:A8 (.ref (f l.n)) (.int (-1)) h=.ok (AY l.d,h):=W8 (us:=l.pre.map AY) (by rw[F5];simp[HH]);have OY:G0 (.int 1) h=.ok (.int (-1),h):=rfl;have n5:∀w,A1 A8 XL (B0 G0 ζ) (σ w) h=.ok (AY l.d,h):=λw=>by rw[BQ,Xg,A3,Ia,Bk,A3,OY,A3,Iy]
 have fA:∀w,A1 A8 (A1 A8 XL (B0 G0 ζ)) η (σ w) h=.ok (.int (l.d.1:Int),h):=λw=>by rw[BQ,n5,A3,Bk,A3];exact Fp h _ _
 have s2:AZ (BX (A0 (pu (.str (AL "lost"))) (A0 (A1 A8 (A1 A8 XL (B0 G0 ζ)) η) A2))) (AC 5) (σ none) h=.ok (.AT (σ ↥(CR (.Nm l.d.1))),h):=by
  have z:BX (A0 (pu (.str (AL "lost"))) (A0 (A1 A8 (A1 A8 XL (B0 G0 ζ)) η) A2)) (σ none) h=.ok (CR (.Nm l.d.1),h):=by erw[QT,Bn,Bk,CJ,A3,fA];simp[Ay,CR]
  rw[Dr,z,A3,O3]
 have f5:Aj 3 UD (A0 π (A0 (A1 A8 (A1 A8 XL (B0 G0 ζ)) η) ω)) (σ ↥(CR (.Nm l.d.1))) h=.ok (.AN (Mw S.done l.d.1 l.m),h):=
  J5 (us:=[.ref P.q,.int (l.d.1:Int),.int (l.m:Int)]) (by erw[Bn,CJ,A3,Rh,N6,fA]) rfl (adC k c J lm)
 obtain⟨q,r,Cw,Fv,PI,vf⟩:=abV k c J lm hd;have D0:h[P.JE]?=↥⟨.lst,C.ws.map CH⟩:=J.Bf _ _ k.w (λz=>by cases z);have AT:Aj 4 UF (A0 (A1 A8 π (pu (.str (AL "wires")))) (A0 (A1 A8 (A1 A8 (A1 A8 π (pu (.str (AL "books")))) ac) (A1 A8 (A1 A8 XL (B0 G0 ζ)) η)) (A0 (A1 A8 XL (B0 G0 ζ)) (A0 Cl A2)))) (σ ↥(CR (.Nm l.d.1))) h=.ok (CR (O_ C.ws (Ti C l.m l.d.1) l.d l.a),h):=by
  refine J5 (us:=[.ref P.JE,.ref r,AY l.d,.int (l.a:Int)]) (h1:=h) ?_ rfl (acZ c.N.few D0 vf PI l.d);have GF:A1 A8 π (pu (.str (AL "wires"))) (σ ↥(CR (.Nm l.d.1))) h=.ok (.ref P.JE,h):=by rw[BQ,Rh,A3,Bk,A3,zA J]
  have Gh:A1 A8 (A1 A8 (A1 A8 π (pu (.str (AL "books")))) ac) (A1 A8 (A1 A8 XL (B0 G0 ζ)) η) (σ ↥(CR (.Nm l.d.1))) h=.ok (.ref r,h):=by rw[BQ,BQ,BQ,Rh,A3,Bk,A3,z7 J,A3,N6,A3,Cw,A3,fA,A3,Fv]
  rw[Bn,GF,A3,Bn,Gh,A3,Bn,n5,A3,Bn,XP,A3,CJ];rfl
 obtain⟨t,IP⟩:∃t,t=Hs C S.done l:=ο;have s3:Bp (Aa (Aj 3 UD (A0 π (A0 (A1 A8 (A1 A8 XL (B0 G0 ζ)) η) ω)))) (AZ (Aj 4 UF (A0 (A1 A8 π (pu (.str (AL "wires")))) (A0 (A1 A8 (A1 A8 (A1 A8 π (pu (.str (AL "books")))) ac) (A1 A8 (A1 A8 XL (B0 G0 ζ)) η)) (A0 (A1 A8 XL (B0 G0 ζ)) (A0 Cl A2))))) (AC 5)) Bj (σ ↥(CR (.Nm l.d.1))) h=.ok (.AT (σ ↥(CR t)),h):=by
  rw[E6,Hx,f5,A3,Hn,A3,IP];unfold Hs;cases AR:Mw S.done l.d.1 l.m
  .rw[if_neg γ,GQ,if_neg γ]
  .rw[if_pos rfl,Dr,AT,A3,O3,if_pos rfl]
 have Qf:∀(p:Nat)(y:Lt),y.n≠l.n->Gg f l.n p y.n=f y.n:=λp y AP=>by erw[Gg];rw[if_neg AP]
 have up:∀p,Gg f l.n p l.n=p:=λp=>by simp[Gg]
 have gV:∀y∈C5,y.n≠l.n:=λy AP z=>E4 (List.mem_map.mpr ⟨y,AP,z⟩);have nv:∀y∈B3,y.n≠l.n:=λy AP z=>FQ (List.mem_map.mpr ⟨y,AP,z⟩);have GX:∀p,C5.map (Dw (Gg f l.n p))=C5.map (Dw f):=λp=>Sj λy AP=>by erw[Dw,Qf p y (gV y AP)]
 have c8:∀p,S.ended.map (HV (Gg f l.n p))=S.ended.map (HV f):=λp=>Sj λe he=>by erw[HV,Qf p e.1 (ne e he)]
 have GY:∀p,B3.map (Dw (Gg f l.n p))=B3.map (Dw f):=λp=>Sj λy AP=>by erw[Dw,Qf p y (nv y AP)]
 have CM:UC [.ref P.q,.int (l.n:Int)] h=(aw (ρ none none none none) h).bind outF:=by rw[CY];rfl
 rw[CM,<-IP];unfold aw;rw[B2,s1,A3,B9,show ρ ↥(.int (l.m:Int)) ↥(.int (l.a:Int)) ↥(.ref (f l.n)) none= σ none by rw[eσ],B2,s2,A3,B9,B2,s3,A3,B9,B2,E6];by_cases AG:isAt t=true
 .obtain⟨e,te⟩:∃e,t=.at e:=by cases t<;>first|exact⟨_,rfl⟩|cases AG
  subst te;have he:=nu c IP.symm;have tt:Aa (A1 Φ (A1 A8 (I 5) η) (pu (.str (AL "at")))) (σ ↥(CR (.at e))) h=.ok (true,h):=by rw[Hx,BQ,BQ,Uo,A3,Bk,A3];simp[CR,Fp]
  rw[tt,A3,if_pos rfl];obtain⟨h1,AD⟩:∃h1,h1=h++[HH (IQ l e)]:=ο;have Cp:⇑h1=⇑h+1:=by rw[AD];simp
  have D1:∀n,n< ⇑h->h1[n]?=h[n]?:=λn AM=>by rw[AD,GR AM]
  have wd:BJ (D9 (I 5) (CC ζ) (pu none)) (σ ↥(CR (.at e))) h=.ok (AY e,h):=by
   rw[FJ,NC,Uo,A3,gk (Bk ..),A3,Bk,A3];have z:∀ρ,MJ (CR (.at e)) ↥1 none ρ h=.ok (AY e,h):=λρ=>by simp[MJ,CR,Ui,He,EU.Ct,AY]
   rw[z,A3];exact Qq h _ rfl
  have lst:BU (A0 (BJ (D9 (I 5) (CC ζ) (pu none))) A2) (σ ↥(CR (.at e))) h=.ok (.ref ⇑h,h++[⟨.lst,[AY e]⟩]):=by rw[JL,Bn,wd,A3,CJ,A3,A3];simp[nw,Ay]
  have add:BJ (A1 addW XL (BU (A0 (BJ (D9 (I 5) (CC ζ) (pu none))) A2))) (σ ↥(CR (.at e))) h=.ok (.ref ⇑h,h1):=by
   rw[FJ,BQ,Xg,A3,lst,A3,Nv (C6 h F5 _) (by simp;rfl) (by simp[Ay];lia),A3];rw[AD];refine(KD h _ γ γ (List.getElem?_concat_length ..) ?_).trans ?_
   .rw[show(l.pre++[l.d]).map AY++[AY e]=(l.pre++[l.d]++[e]).map AY by simp];exact H8 _ _ gM
   .simp[HH,IQ]
  have Wy:BJ (BX (A0 ac (A0 Cl (A0 (BJ (A1 addW XL (BU (A0 (BJ (D9 (I 5) (CC ζ) (pu none))) A2)))) A2)))) (σ ↥(CR (.at e))) h=.ok (.tup [.int (l.m:Int),.int (l.a:Int),.ref ⇑h],h1):=by
   have z:BX (A0 ac (A0 Cl (A0 (BJ (A1 addW XL (BU (A0 (BJ (D9 (I 5) (CC ζ) (pu none))) A2)))) A2))) (σ ↥(CR (.at e))) h=.ok (.tup [.int (l.m:Int),.int (l.a:Int),.ref ⇑h],h1):=by rw[QT,Bn,N6,A3,Bn,XP,A3,Bn,add,A3,CJ];simp[Ay]
   rw[FJ,z,A3,AD];exact hA (UK h _) rfl
  have NQ:h1[P.q]?=↥(PR C P ⇑S.done S.Be):=by rw[D1 _ δ];exact J.st
  have SE:=Bm;rw[<-D1 _ δ]at SE;have e3:A8 (.ref P.q) (.str (AL "letters")) h1=.ok (.ref (P.q+2),h1):=Lw NQ rfl;have pt:=w7 (i:=(l.n:Int)) (v:=.tup [.int (l.m:Int),.int (l.a:Int),.ref ⇑h]) (ρ:= σ ↥(CR (.at e))) SE k1 k2 γ γ (by rw[es]at Ea;erw[EM,DV,Ch]at Ea |-;unfold Ay;lia);obtain⟨h',EE⟩:∃h',h'=h1.set (P.q+2) ⟨.Al (C5.map EI++.inl (l.n:Int)::B3.map EI),C5.map (Dw f)++.tup [.int (l.m:Int),.int (l.a:Int),.ref ⇑h]::B3.map (Dw f)⟩:=⟨_,rfl⟩;rw[<-EE]at pt;have Nk:⇑h'=⇑h+1:=by rw[EE];simpa using Cp
  have keep:∀n,n≠P.q+2->h'[n]?=h1[n]?:=λn AM=>by rw[EE,EL (λz=>AM z.symm)]
  refine⟨h',⇑h,?_,?_,.inl (C1 _),δ,λn AM a _=>(keep n a).trans (D1 n AM)⟩
  .rw[Uq,Wy,A3,BQ,Rh,A3,Bk,A3,e3,A3,X1,A3,pt,A3,B9,Gb,Uo];rfl
  .have F_:(Fn S C5 l B3 (.at e)).lets=C5++IQ l e::B3:=rfl;refine⟨λn o' Js ne=>?_,⟨J.D.le,J.D.e⟩,?_,?_,?_,⟨?_,?_⟩,λy AP=>?_,λy AP=>?_,?_,λy AP=>?_,J.IM,J.few,δ,λy AP=>?_,?_⟩
   .have:=Eu Js;rw[keep n δ,D1 n δ];exact J.Bf n o' Js ne
   .rw[keep _ δ];exact NQ
   .rw[keep _ δ,D1 _ δ];exact J.Fc
   .rw[EE,IY SE,F_];erw[IE,DC,GX,GY];have:Dw (Gg f l.n ⇑h) (IQ l e)=.tup [.int (l.m:Int),.int (l.a:Int),.ref ⇑h]:=by
     erw[Dw,show(IQ l e).n=l.n from rfl,up];rfl
    rw[this];rfl
   .rw[keep _ δ,D1 _ δ,O9,<-c8 ⇑h];rfl
   .rw[es]at Rv;rw[F_];show⇑S.ended+_<=S.Be;simpa using Rv
   .have AP:y∈C5++IQ l e::(B3++S.ended.map (·.1)):=by
      have:CU (Fn S C5 l B3 (.at e))=C5++IQ l e::(B3++S.ended.map (·.1)):=by simp[CU,Fn]
      rw[<-this];exact AP
    have old:∀z∈CU S,z.n≠l.n->h'[Gg f l.n ⇑h z.n]?=↥(HH z)/\C.T<=Gg f l.n ⇑h z.n:=λz hz aeE=>by rw[Qf _ z aeE];have w:=J.IW z hz;have:=Eu w.1;exact⟨by rw[keep _ δ,D1 _ δ];exact w.1,w.2⟩
    rcases List.mem_append.mp AP with AP|AP
    .exact old y (by rw[an];simp[AP]) (gV y AP)
    .rcases List.mem_cons.mp AP with rfl|AP
     .rw[show(IQ l e).n=l.n from rfl,up];refine⟨?_,AF⟩;rw[keep _ δ,AD];simp
     .exact old y (by rw[an];exact IA _ (Gy _ AP)) λz=>gL (List.mem_map.mpr ⟨y,AP,z⟩)
   .rw[F_]at AP;rcases List.mem_append.mp AP with AP|AP
    .exact J.lt y (by rw[es];simp[AP])
    .rcases List.mem_cons.mp AP with rfl|AP
     .exact⟨lm,Gr,he⟩
     .exact J.lt y (by rw[es];simp[AP])
   .have:(CU (Fn S C5 l B3 (.at e))).map (·.n)=(CU S).map (·.n):=by simp[CU,Fn,es,IQ]
    rw[this];exact J.nn
   .have:y.n∈(CU S).map (·.n):=by
      have:(CU (Fn S C5 l B3 (.at e))).map (·.n)=(CU S).map (·.n):=by simp[CU,Fn,es,IQ]
      rw[<-this];exact List.mem_map.mpr ⟨y,AP,rfl⟩
    obtain⟨z,hz,e⟩:=List.mem_map.mp this;rw[<-e];exact J.HL z hz
   .rw[F_]at AP;show⇑y.pre<=S.Cd+1;rcases List.mem_append.mp AP with AP|AP
    .have:=J.pr y (by rw[es];simp[AP]);lia
    .rcases List.mem_cons.mp AP with rfl|AP
     .erw[IQ,EM,DV,FK];lia
     .have:=J.pr y (by rw[es];simp[AP]);lia
   .have so:=J.so;rw[es]at so;rw[F_];have g:(IQ l e).n=l.n:=rfl;erw[List.pairwise_append,List.pairwise_cons,IF,forall_eq_or_imp,g]at so |-;exact so
 .have tt:Aa (A1 Φ (A1 A8 (I 5) η) (pu (.str (AL "at")))) (σ ↥(CR t)) h=.ok (false,h):=by
    rw[Hx,BQ,BQ,Uo,A3,Bk,A3];cases t<;>first|exact absurd rfl AG|(simp[CR,Fp];decide)
  rw[tt,A3,if_neg γ];obtain⟨Au,eW⟩:∃Au,Au=S.ended.map (HV f):=ο;have ln:⇑Au=⇑S.ended:=by rw[eW,Ch]
  rw[<-eW]at O9;have F_:Fn S C5 l B3 t={ S with lets:=C5++B3,ended:=S.ended++[(l,t)],Cd:=S.Cd+1 }:=by cases t<;>first|exact absurd rfl AG|rfl
  obtain⟨h1,AD⟩:∃h1,h1=h.set (P.q+2) ⟨.Al (C5.map EI++B3.map EI),C5.map (Dw f)++B3.map (Dw f)⟩:=⟨_,rfl⟩;have ep:Ov h (.ref (P.q+2))=true:=by unfold Ov;erw[Bm]
  have pp:Rz Θ Ψ (σ ↥(CR t)) h=.ok (Dw f l,h1):=by rw[sm,BQ,Rh,A3,Bk,A3,TN J,A3];erw[Ps,ep,if_true,I_];rw[X1,A3,AD];exact kf (i:=(l.n:Int)) Bm k1 k2 γ γ
  have NQ:h1[P.q]?=↥(PR C P ⇑S.done S.Be):=by rw[AD,EL δ];exact J.st
  have dy:A8 (.ref P.q) (.str (AL "ended")) h1=.ok (.ref (P.q+3),h1):=Lw NQ rfl;have SH:h1[P.q+3]?=↥⟨.lst,Au⟩:=by rw[AD,EL δ];exact O9
  have ag5:h1[f l.n]?=↥(HH l):=by rw[AD,EL δ];exact F5
  have Qn:A8 (.ref (f l.n)) (.int 0) h1=.ok (AY (Om l),h1):=by refine E2 (k:=0) ag5 ?_;cases Ao:l.pre<;>simp[Ao,Om]
  obtain⟨w,k8⟩:∃w,w=HV f (l,t):=ο;obtain⟨h',EE⟩:∃h',h'=h1.set (P.q+3) ⟨.lst,Au++[w]⟩:=⟨_,rfl⟩;have ap:DI EO (A1 A8 π (pu (.str (AL "ended")))) (A0 (BX (A0 Ψ (A0 ac (A0 (A1 A8 XL η) (A0 Cl (A0 XL (A0 (I 5) A2))))))) A2) (σ ↥(CR t)) h1=.ok (.non,h'):=by rw[EE];refine JB (ws:=Au) (ws2:=Au) (us:=[w]) (h1:=h1) (h2:=h1) (by rw[BQ,Rh,A3,Bk,A3,dy]) SH ?_ SH (by simp[EO]) (by simp[Ay];lia);erw[Bn,CJ,QT,BQ,Bk,X1,N6,XP,Xg,Uo,Qn,A3];rw[k8,HV];simp[Ay]
  have keep:∀n,n≠P.q+2->n≠P.q+3->h'[n]?=h[n]?:=λn a b=>by rw[EE,EL (λz=>b z.symm),AD,EL (λz=>a z.symm)]
  have Nk:⇑h'=⇑h:=by rw[EE,AD];simp
  have ai7:Gg f l.n (f l.n)=f:=by funext z;erw[Gg];split<;>simp_all
  refine⟨h',f l.n,?_,?_,.inr rfl,δ,λn _ a b=>keep n a b⟩
  .rw[B2,JK,pp,A3,A3,B9,JK,ap,A3,A3,B9,Gb,Uo];rfl
  .rw[F_];have sub:∀y∈C5++B3,y∈S.lets/\y.n≠l.n:=λy AP=>by
    rw[es];rcases List.mem_append.mp AP with AP|AP
    .exact⟨by simp[AP],gV y AP⟩
    .exact⟨by simp[AP],nv y AP⟩
   have pm:(CU { S with lets:=C5++B3,ended:=S.ended++[(l,t)],Cd:=S.Cd+1 }).Perm (CU S):=by rw[an];erw[CU,IE,DC,I1,ET];exact hu _ ((ET .. ▸List.perm_append_comm (l₁:=B3++S.ended.map (·.1)) (l₂:=[l])))
   rw[ai7];refine⟨λn o' Js ne=>?_,⟨J.D.le,J.D.e⟩,?_,?_,?_,⟨?_,?_⟩,λy AP=>?_,λy AP=>J.lt y (sub y AP).1,?_,λy AP=>J.HL y (pm.mem_iff.mp AP),J.IM,J.few,δ,λy AP=>?_,?_⟩
   .have:=Eu Js;rw[keep n δ δ];exact J.Bf n o' Js ne
   .rw[keep _ δ δ];exact J.st
   .rw[keep _ δ δ];exact J.Fc
   .rw[EE,EL δ,AD,IY Bm];erw[IE]
   .rw[EE,IY SH,eW,k8,IE];rfl
   .rw[es]at Rv;erw[EM,DV,FK]at Rv |-;lia
   .have z:=J.IW y (pm.mem_iff.mp AP);exact⟨by rw[keep _ δ δ];exact z.1,z.2⟩
   .exact(pm.map _).nodup_iff.mpr J.nn
   .have:=J.pr y (sub y AP).1;show⇑y.pre<=S.Cd+1;lia
   .have so:=J.so;rw[es]at so;exact so.sublist (List.Sublist.append_left (List.sublist_cons_self _ _) _)
end
section
variable{C:Dc}{P:GH}{h h':A6}{S:E0}{f:Nat->Nat}
theorem ml:∀L:↑Lt,Pu (L.map EI)=↥(L.map λl=>(l.n:Int))
 |[]=>rfl
 |l::L=>by show(Pu (L.map EI)).map _=_;rw[ml L];rfl
def s8{vs:↑W}(L:↑Lt){n:Nat}(e:h[n]?=↥⟨.Al (L.map EI),vs⟩)(l:⇑L<64):NP [.ref n] h=.ok (.ref ⇑h,h++[⟨.lst,H9 (LT.KB (L.map λl=>(l.n:Int)))⟩]):=by have p:(LT.KB (L.map λl=>(l.n:Int))).Perm (L.map λl=>(l.n:Int)):=Yu _ _;have AF:=p.length_eq;rw[Ch]at AF;unfold NP;erw[bQ,e,ml,Ch,if_pos l];exact Gu h (by simp[H9,AF,Ay];lia)
def agf{L:↑Lt}{x:Int}:x∈LT.KB (L.map λl=>(l.n:Int))↔∃l∈L,(l.n:Int)=x:=by have p:(LT.KB (L.map λl=>(l.n:Int))).Perm (L.map λl=>(l.n:Int)):=Yu _ _;rw[p.mem_iff,VH]
def zH(S:E0)(C5:↑Lt)(l:Lt)(B3:↑Lt)(t:Tl):(Fn S C5 l B3 t).Be=S.Be:=by cases t<;>rfl
def zI(S:E0)(C5:↑Lt)(l:Lt)(B3:↑Lt)(t:Tl):(Fn S C5 l B3 t).Cd=S.Cd+1:=by cases t<;>rfl
def al9{S:E0}{C5:↑Lt}{l:Lt}{B3:↑Lt}{t:Tl}{y:Lt}(h:y∈C5++B3):y∈(Fn S C5 l B3 t).lets:=by
 cases t<;>erw[Fn,I0,IF]at h |-
 .exact h.elim .inl λh=>.inr (.inr h)
 all_goals exact h
def sB{L:↑Lt}{l:Lt}(h:l∈L):∃C5 B3,L=C5++l::B3:=List.append_of_mem h
def e5{S:E0}{C5:↑Lt}{l:Lt}{B3:↑Lt}{t:Tl}(es:S.lets=C5++l::B3){y:Lt}(h:y∈CU (Fn S C5 l B3 t)):∃z∈CU S,z.Du=y.Du/\z.n=y.n/\z.B1=y.B1:=by
 have q:∀z,z∈C5\/z=l\/z∈B3\/z∈S.ended.map (·.1)->z∈CU S:=λz hz=>by erw[CU,es,ET,HT,I0,IF];exact hz
 cases t<;>erw[CU,Fn,ET,HT,I0,IF,IE,DC,I1,NI,or_false]at h
 .rcases h with h|rfl|h
  .exact⟨y,q y (.inl h),rfl,rfl,rfl⟩
  .exact⟨l,q l (.inr (.inl rfl)),rfl,rfl,rfl⟩
  .exact⟨y,q y (.inr (.inr h)),rfl,rfl,rfl⟩
 all_goals
  rcases h with h|h|h|h
  .exact⟨y,q y (.inl h),rfl,rfl,rfl⟩
  .exact⟨y,q y (.inr (.inr (.inl h))),rfl,rfl,rfl⟩
  .exact⟨y,q y (.inr (.inr (.inr h))),rfl,rfl,rfl⟩
  .exact⟨l,q l (.inr (.inl rfl)),by rw[h],by rw[h],by rw[h]⟩
def EC.to(c:DK C)(R:EC C h S)(e:∀n,n< ⇑h->¬(C.M+3<=n/\n<C.T)->h'[n]?=h[n]?)(l:⇑h<=⇑h'):EC C h' S:=by have D8:=c.D8;have JF:=c.JF;have Dj:=c.Dj;have AF:=R.AF;have g:∀{n:Nat}{o:O},h[n]?=↥o->¬(C.M+3<=n/\n<C.T)->h'[n]?=↥o:=λ{n o} a b=>(e n (Eu a) b).trans a;refine⟨λn o' k ne=>g (R.Bf n o' k ne) (by have:=Eu k;lia),g R.B5 δ,g R.CM δ,g R.el δ,g R.Ik δ,λy AP=>?_,R.Bz,R.nn,R.HL,R.IM,R.few,R.le,δ,R.pr⟩;have x:=R.lt y AP;have:=x.t1;have:=x.CK;exact⟨g x.Fw δ,g x.CM δ,x.m,x.a,x.d,x.t1,x.CK⟩
def Ha(S:E0)(f:Nat->Nat)(n:Nat):Prop:=∃l∈CU S,n=l.B1\/n=l.Du\/n=f l.n
structure HB(C:Dc)(P:GH)(h:A6)(S:E0)(f:Nat->Nat):Prop where
 R:EC C h S
 L:EB C P h S f
 s:∀l∈CU S,∀Nk∈CU S,f l.n≠Nk.Du
def Mi(d:Ae)(a:Nat):W:=.tup [.str (AL "come"),AY d,.int (a:Int)]
noncomputable def Mp(n:Nat):W:=.tup [.str (AL "go"),.int (n:Int)]
def IZ:W:=.tup [.str (AL "step")]
def fk(R:EC C h S){w v:W}{h1:A6}(e:Jc [.ref C.r,w] h=.ok (v,h1)):LJ [.ref C.r,w] h=.ok (v,h1):=by
 have Fz:CV "Run" "move" 1 Jc π υ [ι,↥w,↥.non] h=.ok (v,h1):=MF (us:=[w]) rfl R.B5 rfl rfl rfl e;have CM:LJ [.ref C.r,w] h=(Th [ι,↥w,none] h).bind outF:=rfl;have s1:AZ Ty (AC 2) [ι,↥w,none] h=.ok (.AT [ι,↥w,↥.non],h):=rfl;have s2:OU (CV "Run" "move" 1 Jc π υ) 2 ["NoMove"] (AZ Ty (AC 2)) [ι,↥w,↥.non] h=.ok (.AT [ι,↥w,↥v],h1):=by unfold OU;rw[Fz];rfl
 rw[CM];unfold Th;rw[B2,s1,A3,B9,B2,s2,A3,B9];rfl
def afe(R:EC C h S){w:W}(e:Jc [.ref C.r,w] h=.exc "NoMove" h):LJ [.ref C.r,w] h=.ok (.non,h):=by
 have Fz:CV "Run" "move" 1 Jc π υ [ι,↥w,↥.non] h=.exc "NoMove" h:=MF (us:=[w]) rfl R.B5 rfl rfl rfl e;have CM:LJ [.ref C.r,w] h=(Th [ι,↥w,none] h).bind outF:=rfl;have s1:AZ Ty (AC 2) [ι,↥w,none] h=.ok (.AT [ι,↥w,↥.non],h):=rfl;have s2:OU (CV "Run" "move" 1 Jc π υ) 2 ["NoMove"] (AZ Ty (AC 2)) [ι,↥w,↥.non] h=.ok (.AT [ι,↥w,↥.non],h):=by unfold OU;rw[Fz];rfl
 rw[CM];unfold Th;rw[B2,s1,A3,B9,B2,s2,A3,B9];rfl
def v8(k:Ft C P)(c:DK C)(B:HB C P h S f)(AI:S.Be<900){d:Ae}(hd:d∈DF C.cs ⇑C.cs)(A5:Eg C.ws d=none){a:Nat}(AG:a<16) :
  ∃h1 h2 En,LJ [.ref C.r,Mi d a] h=.ok (.int (S.Be:Int),h1)/\Jd [.ref P.q,Mi d a] h1=.ok (.int (S.Be:Int),h2)/\HB C P h2 (PL S ⇑h d a) En/\(⇑h<=⇑h2/\(∀n,Ha (PL S ⇑h d a) En n->Ha S f n\/⇑h<=n)/\∀n,n< ⇑h->n≠C.r->¬(C.M<=n/\n<C.M+3)->(∀l∈CU S,n≠l.Du)->h1[n]?=h[n]?)/\∀n,n< ⇑h->n≠C.r->¬(C.M<=n/\n<C.M+3)->¬(P.q<=n/\n<P.q+4)->(∀l∈CU S,n≠l.Du)->h2[n]?=h[n]?:=by
 have D8:=c.D8;have JF:=c.JF;have kt:=k.t;have Rt:=k.g;have AF:=B.R.AF;obtain⟨h1,AD,H2,Cp,fr⟩:=wY c B.R AI hd A5 AG;have Ac:EB C P h1 S f:=B.L.to c k (λn AM=>by
  rcases AM with⟨a,b⟩|⟨a,b⟩|⟨y,AP,rfl⟩
  .exact fr n δ (λz=>b (by rw[z];exact c.WE)) δ
  .exact fr n δ δ δ
  .have z:=B.L.IW y AP;have:=Eu z.1;exact fr _ this δ δ) δ
 obtain⟨h2,AH,BW,Ck,QJ⟩:=abW k c Ac AI ⇑h hd AG;have UJ:Jd [.ref P.q,Mi d a] h1=.ok (.int (S.Be:Int),h2):=by have cl:Aj 3 XQ (A0 π (A0 (A1 A8 Ψ ζ) (A0 (A1 A8 Ψ τ) A2))) [KK,↥(Mi d a)] h1=.ok (.int (S.Be:Int),h2):=J5 (us:=[.ref P.q,AY d,.int (a:Int)]) (by simp[Mi,Iu,W7]) rfl AH;simp[Jd,RH,Mi,Fp,-J0]at cl |-;rw[cl];simp
 refine⟨h1,h2,_,fk B.R (aco B.R AD),UJ,⟨EC.to c H2 (λn AM no=>QJ n AM δ δ) Ck,BW,λy AP QW Mt=>?_⟩,⟨δ,λn AM=>?_,λn AM a b _=>fr n δ δ δ⟩,λn AM a b d' _=>?_⟩
 .have Hm:=Eu (H2.lt QW Mt).CM;rcases Vk.mp AP with AP|AP
  .have:=B.L.HL y AP;have q:=B.L.IW y AP;have q1:=Eu q.1;erw[Gg];rw[if_neg δ];rcases Vk.mp Mt with Mt|rfl
   .exact B.s y AP QW Mt
   .show f y.n≠⇑h+1;lia
  .subst AP;erw[Gg,show(LL S ⇑h d a).n=S.Be from rfl];rw[if_pos trivial];lia
 .obtain⟨y,AP,e⟩:=AM;rcases Vk.mp AP with AP|AP
  .have:=B.L.HL y AP;erw[Gg]at e;rw[if_neg δ]at e;exact .inl ⟨y,AP,e⟩
  .subst AP;simp[Gg,LL]at e;exact .inr δ
 .rw[QJ n δ δ δ,fr n δ δ δ]
def vA(k:Ft C P)(c:DK C)(B:HB C P h S f)(hm:S.Cd<900000){C5 B3:↑Lt}{l:Lt}(es:S.lets=C5++l::B3) :
  ∃h1 h2 En,Jc [.ref C.r,Mp l.n] h=.ok (CR (Hs C S.done l),h1)/\UC [.ref P.q,.int (l.n:Int)] h1=.ok (CR (Hs C S.done l),h2)/\HB C P h2 (Fn S C5 l B3 (Hs C S.done l)) En/\(⇑h<=⇑h2/\(∀n,Ha (Fn S C5 l B3 (Hs C S.done l)) En n->Ha S f n\/⇑h<=n)/\∀n,n< ⇑h->n≠C.r->¬(C.M<=n/\n<C.M+3)->(∀l∈CU S,n≠l.Du)->h1[n]?=h[n]?)/\EC C h1 (Fn S C5 l B3 (Hs C S.done l))/\∀n,n< ⇑h->n≠C.M+1->n≠C.M+2->n≠P.q+2->n≠P.q+3->n≠l.Du->h2[n]?=h[n]?:=by
 have D8:=c.D8;have JF:=c.JF;have kt:=k.t;have Rt:=k.g;have AF:=B.R.AF;have Iw:l∈CU S:=J2 _ (by rw[es];simp);have ajx:=(B.R.lt l Iw).CK;obtain⟨h1,AD,H2,Cp,fr⟩:=zJ c B.R hm es;have Ac:EB C P h1 S f:=B.L.to c k (λn AM=>by
  rcases AM with⟨a,b⟩|⟨a,b⟩|⟨y,AP,rfl⟩
  .exact fr n δ δ δ
  .exact fr n δ δ δ
  .have z:=B.L.IW y AP;exact fr _ δ δ (B.s y AP l Iw)) δ
 obtain⟨h2,p,AH,BW,B1,Ck,QJ⟩:=ad9 k c Ac hm es;refine⟨h1,h2,_,acp B.R AD,AH,⟨EC.to c H2 (λn AM no=>QJ n AM δ δ) Ck,BW,λy AP QW Mt=>?_⟩,⟨δ,λn AM=>?_,λn AM a b d=>fr n δ δ (d l Iw)⟩,H2,λn a b d e g j=>?_⟩
 .have Hm:=Eu (H2.lt QW Mt).CM;erw[Gg];obtain⟨z,hz,G9,_⟩:=e5 es Mt;obtain⟨x,AJ,_,ex,_⟩:=e5 es AP;by_cases AM:y.n=l.n
  .rw[if_pos AM];rcases B1 with B1|rfl
   .lia
   .rw[<-G9];exact B.s l Iw z hz
  .rw[if_neg AM,<-G9,<-ex];exact B.s x AJ z hz
 .obtain⟨y,AP,e⟩:=AM;obtain⟨z,hz,G9,Au,el⟩:=e5 es AP;erw[Gg]at e;rcases e with e|e|e
  .exact .inl ⟨z,hz,.inl (e.trans el.symm)⟩
  .exact .inl ⟨z,hz,.inr (.inl (e.trans G9.symm))⟩
  .split at e
   .rcases B1 with B1|rfl
    .exact .inr δ
    .exact .inl ⟨l,Iw,.inr (.inr e)⟩
   .exact .inl ⟨z,hz,.inr (.inr (by rw[Au];exact e))⟩
 .rw[QJ n δ e g,fr n b d j]
def v9(k:Ft C P)(c:DK C)(B:HB C P h S f)(hm:S.Cd<900000){C5 B3:↑Lt}{l:Lt}(es:S.lets=C5++l::B3) :
  ∃h1 h2 En,LJ [.ref C.r,Mp l.n] h=.ok (CR (Hs C S.done l),h1)/\Jd [.ref P.q,Mp l.n] h1=.ok (CR (Hs C S.done l),h2)/\HB C P h2 (Fn S C5 l B3 (Hs C S.done l)) En/\(⇑h<=⇑h2/\(∀n,Ha (Fn S C5 l B3 (Hs C S.done l)) En n->Ha S f n\/⇑h<=n)/\∀n,n< ⇑h->n≠C.r->¬(C.M<=n/\n<C.M+3)->(∀l∈CU S,n≠l.Du)->h1[n]?=h[n]?)/\∀n,n< ⇑h->n≠C.r->¬(C.M<=n/\n<C.M+3)->¬(P.q<=n/\n<P.q+4)->(∀l∈CU S,n≠l.Du)->h2[n]?=h[n]?:=by
 obtain⟨h1,h2,En,AD,AH,K0,Ck,_,fr⟩:=vA k c B hm es;have AF:=B.R.AF;have kt:=k.t;have Rt:=k.g;have ajx:=(B.R.lt l (J2 _ (by rw[es];simp))).CK;refine⟨h1,h2,En,fk B.R AD,?_,K0,Ck,λn AM a b d dl=>fr n AM δ δ δ δ (dl l (J2 _ (by rw[es];simp)))⟩;have q:(AL "go"==AL "come")=false:=rfl;have cl:Aj 2 UC (A0 π (A0 (A1 A8 Ψ ζ) A2)) [KK,↥(Mp l.n)] h1=.ok (CR (Hs C S.done l),h2):=J5 (us:=[.ref P.q,.int (l.n:Int)]) (by simp[Mp,Iu]) rfl AH;simp[Jd,RH,Mp,Fp,q,-J0]at cl |-;rw[cl];simp
def adN(k:Ft C P)(c:DK C)(J:EB C P h S f)(hm:JC C S=false):Jd [.ref P.q,IZ] h=.ok (.non,h):=by have q1:(AL "step"==AL "come")=false:=rfl;have q2:(AL "step"==AL "go")=false:=rfl;have cl:Aj 1 UE Γ [KK,↥IZ] h=.ok (.AN (JC C S),h):=J5 (us:=[.ref P.q]) rfl rfl (m9 k c J);simp[Jd,RH,IZ,Fp,q1,q2,hm,-J0]at cl |-;rw[cl];simp
def adO(k:Ft C P)(c:DK C)(J:EB C P h S f)(hm:JC C S=true):∃h',Jd [.ref P.q,IZ] h=.ok (Ap (C.ps.getD ⇑S.done none),h')/\EB C P h' (MM C S) f/\ ⇑h'=⇑h/\∀n,n≠P.q->h'[n]?=h[n]?:=by
 have D8:=c.D8;have kt:=k.t;have Rt:=k.g;have DH:=mO J.D hm;have q1:(AL "step"==AL "come")=false:=rfl;have q2:(AL "step"==AL "go")=false:=rfl;have cl:Aj 1 UE Γ [KK,↥IZ] h=.ok (.AN (JC C S),h):=J5 (us:=[.ref P.q]) rfl rfl (m9 k c J);have v0:∀h':A6,I 0 [KK,↥IZ] h'=.ok (.ref P.q,h'):=λ_=>rfl;have t0:∀x:Str,Aa (A1 Φ (A1 A8 Ψ η) (pu (.str x))) [KK,↥IZ] h=.ok (AL "step"==x,h):=λx=>by simp[IZ,Fp]
 obtain⟨h',EE⟩:∃h',h'=h.set P.q (PR C P (⇑S.done+1) S.Be):=ο;have keep:∀n,n≠P.q->h'[n]?=h[n]?:=λn AM=>by rw[EE,EL (λz=>AM z.symm)]
 have Nk:⇑h'=⇑h:=by rw[EE];simp
 have HA:h'[P.q]?=↥(PR C P (⇑S.done+1) S.Be):=by rw[EE,IY J.st]
 have FW:EB C P h' (MM C S) f:=by
  obtain⟨O9,Rv⟩:=J.Qo;refine⟨λn o' Js ne=>?_,agi J.D DH,?_,?_,?_,⟨?_,Rv⟩,λy AP=>?_,J.lt,J.nn,J.HL,λp AV=>?_,J.few,by rw[Nk];exact J.AF,J.pr,J.so⟩
  .have:=Eu Js;rw[keep n δ];exact J.Bf n o' Js ne
  .rw[HA];simp[MM]
  .rw[keep _ δ];exact J.Fc
  .rw[keep _ δ];exact J.Bm
  .rw[keep _ δ];exact O9
  .have z:=J.IW y AP;exact⟨by rw[keep _ δ];exact z.1,z.2⟩
  .erw[MM,I0,Ll]at AV;rcases AV with AV|AV
   .exact J.IM p AV
   .have UO:↥p∈C.ps:=by rw[AV];exact getD_mem DH
    exact(c.P.k p UO).1
 have s1:Jb π (pu (.str (AL "done"))) (A1 addW Fr ζ) [KK,↥IZ] h=.ok (.AT [KK,↥IZ],h'):=by rw[Uq,BQ,BQ,v0,A3,Bk,A3,W_ J,A3,Bk,A3,N4,A3,v0,A3,Bk,A3,EE];exact kh J.st (by simp[Ay]) (by simp[PO]) rfl
 have zK:A8 (.ref P.q) (.str (AL "plan")) h'=.ok (.ref P.pp,h'):=Lw HA rfl;have Lc:A8 (.ref P.q) (.str (AL "done")) h'=.ok (.int ((⇑S.done+1:Nat):Int),h'):=Lw HA rfl;have EP:A8 (.ref P.pp) (.int (⇑S.done:Int)) h'=.ok (Ap (C.ps.getD ⇑S.done none),h'):=E2 (bj k FW) (by rw[E7,CT DH,Ef,CT DH];rfl);have Fc:NS (.int ((⇑S.done+1:Nat):Int)) (.int 1) h'=.ok (.int (⇑S.done:Int),h'):=by show R.ok (W.int (((⇑S.done+1:Nat):Int)-1),h')=_;rw[show(((⇑S.done+1:Nat):Int)-1)=(⇑S.done:Int)by lia]
 refine⟨h',?_,FW,Nk,keep⟩;have CM:Jd [.ref P.q,IZ] h=(RH [KK,↥IZ] h).bind outF:=rfl;rw[CM];unfold RH;rw[B2,E6,t0,A3,if_neg (by rw[q1];simp),GQ,A3,B9,B2,E6,t0,A3,if_neg (by rw[q2];simp),GQ,A3,B9,B2,E6,v_not,Hx,cl,A3,Hn,A3,A3,hm,if_neg γ,GQ,A3,B9,B2,s1,A3,B9,Gb,BQ,BQ,v0,A3,Bk,A3,zK,A3,BQ,BQ,v0,A3,Bk,A3,Lc,A3,Bk,A3,Fc,A3,EP];rfl
def YS(C:Dc)(S:E0):W:=if JC C S=true then Ap (C.ps.getD ⇑S.done none)else .non
def Wt(C:Dc)(S:E0):E0:=if JC C S=true then MM C S else S
def vC(k:Ft C P)(c:DK C)(B:HB C P h S f) :
  ∃h1 h2,LJ [.ref C.r,IZ] h=.ok (YS C S,h1)/\Jd [.ref P.q,IZ] h1=.ok (YS C S,h2)/\HB C P h2 (Wt C S) f/\(⇑h<=⇑h2/\(∀n,Ha (Wt C S) f n->Ha S f n\/⇑h<=n)/\∀n,n< ⇑h->n≠C.r->¬(C.M<=n/\n<C.M+3)->(∀l∈CU S,n≠l.Du)->h1[n]?=h[n]?)/\∀n,n< ⇑h->n≠C.r->¬(C.M<=n/\n<C.M+3)->¬(P.q<=n/\n<P.q+4)->(∀l∈CU S,n≠l.Du)->h2[n]?=h[n]?:=by
 have D8:=c.D8;have JF:=c.JF;have kt:=k.t;have Rt:=k.g;have AF:=B.R.AF;unfold YS Wt;cases hm:JC C S
 .rw[if_neg γ,if_neg γ];exact⟨h,h,afe B.R (mU B.R (agj c B.R B.L.D hm) (.inl rfl)),adN k c B.L hm,B,⟨C1 _,λ_=>.inl,λ_ _ _ _ _=>rfl⟩,λ_ _ _ _ _ _=>rfl⟩
 .rw[if_pos rfl,if_pos rfl];obtain⟨h1,AD,H2,Cp,fr⟩:=agl c B.R B.L.D hm;have Ac:EB C P h1 S f:=B.L.to c k (λn AM=>by
   rcases AM with⟨a,b⟩|⟨a,b⟩|⟨y,AP,rfl⟩
   .exact fr n δ
   .exact fr n δ
   .have z:=B.L.IW y AP;exact fr _ δ) δ
  obtain⟨h2,AH,BW,Ck,QJ⟩:=adO k c Ac hm;exact⟨h1,h2,fk B.R (mU B.R AD (.inr ⟨_,rfl⟩)),AH,⟨EC.to c H2 (λn AM no=>QJ n δ) δ,BW,B.s⟩,⟨δ,λ_=>.inl,λn AM a b _=>fr n δ⟩,λn AM a b d _=>by rw[QJ n δ,fr n δ]⟩
end
section
variable{C:Dc}{P:GH}{h h':A6}{S:E0}{f:Nat->Nat}
def outD(C:Dc):↑Ae:=(DF C.cs ⇑C.cs).filter λd=>(Eg C.ws d).isNone
def ach{C:Dc}{d:Ae}:d∈outD C↔d∈DF C.cs ⇑C.cs/\Eg C.ws d=none:=by unfold outD;rw[List.mem_filter,tG]
structure PB(C:Dc)(P:GH)(ou:Nat):Prop where
 k:Ft C P
 o:C.K[ou]?=↥⟨.lst,(outD C).map AY⟩
 ne:outD C≠[]
def xQ{h:A6}{n m:Nat}{l:↑Int}(e:h[n]?=↥⟨.lst,H9 l⟩)(Bb:h[m]?=↥⟨.lst,[]⟩):As true (.ref n) (.ref m) h=.ok (.AN l.isEmpty,h):=by unfold As;rw[XG 7 (l:=l) e,XG (l:=[]) 7 Bb];cases l<;>simp[eqT,Gk]
inductive TS(C:Dc)(S:E0):W->Prop where
 |j0 {d:Ae} {a:Nat} (hd:d∈outD C) (AG:a<16):TS C S (Mi d a)
 |go {l:Lt} (AF:l∈S.lets):TS C S (Mp l.n)
 |kn:TS C S IZ
def wU{ou:Nat}(k:PB C P ou)(c:DK C)(J:EB C P h S f)(AI:S.Be<=60)(x:Int):∃w,TS C S w/\S6 [.ref P.q,.int x,.ref ou] h=.ok (w,h):=by
 have D8:=c.D8;have kt:=k.k.t;have AF:=J.AF;have Ea:=J.Ea;obtain⟨y,DG⟩:=N2 x 1 δ;have DG:∀h,E3 [.int x,.int 1] h=.ok (.int y,h):=DG;have Fw:h[ou]?=↥⟨.lst,(outD C).map AY⟩:=J.Bf _ _ k.o (λz=>by cases z);obtain⟨ML,es⟩:∃ML,ML=LT.KB (S.lets.map λl=>(l.n:Int)):=ο;have so:=s8 S.lets J.Bm δ;rw[<-es]at so;obtain⟨H,CG⟩:∃H,H=h++[⟨.lst,H9 ML⟩]:=ο;rw[<-CG]at so;have Ao:H[⇑h]?=↥⟨.lst,H9 ML⟩:=by rw[CG];simp
 have jv:H[ou]?=↥⟨.lst,(outD C).map AY⟩:=by rw[CG];exact C6 h Fw _
 obtain⟨ρ,CY⟩:∃ρ:Option W->Option W->Option W->BC,ρ=λa b c=>[KK,↥(.int x),↥(.ref ou),a,b,c]:=ο;have s1:AZ (Aj 2 E3 (A0 Ψ (A0 ζ A2))) (AC 3) (ρ none none none) h=.ok (.AT (ρ ↥(.int y) none none),h):=by rw[CY];simp[DG]
 have s2:AZ (Aw NP (A0 Θ A2)) (AC 4) (ρ ↥(.int y) none none) h=.ok (.AT (ρ ↥(.int y) χ none),H):=by rw[CY];simp[TN J,so]
 have s3:AZ (A1 BY Cl (pu (.int 8))) (AC 5) (ρ ↥(.int y) χ none) H=.ok (.AT (ρ ↥(.int y) χ ↥(.int (y%8))),H):=by rw[CY];simp
 obtain⟨r,B5⟩:∃r,r=ρ ↥(.int y) χ ↥(.int (y%8)):=ο;have Dx:As true (.ref ⇑h) (.ref ⇑H) (H++[⟨.lst,[]⟩])=.ok (.AN ML.isEmpty,H++[⟨.lst,[]⟩]):=xQ (C6 H Ao _) γ;obtain⟨b,BE⟩:∃b,b=(decide (y%8<2)||(decide (y%8<6)&&ML.isEmpty)):=ο;have t1:HX (Fq (Aa (A1 Ja (I 5) τ)) (GN (Aa (A1 Ja (I 5) (pu (.int 6)))) (Aa (A1 Φ XL (BU A2))))) r H=.ok (b,H):=by
  rw[B5,CY,BE];by_cases h2:y%8<2
  .simp[h2]
  .by_cases Fa:y%8<6
   .simp[h2,Fa,nw,Dx]
   .simp[h2,Fa]
 have CK:Aa (A1 Ja (I 5) (pu (.int 6))) r H=.ok (decide (y%8<6),H):=by rw[B5,CY];simp
 have CM:S6 [.ref P.q,.int x,.ref ou] h=((ar (ρ none none none) h).bind outF).bind λp=>Bq.settle h p.1 p.2:=by rw[CY];rfl
 have fin:∀{w:W},DP w=true->Bq.settle h w H=.ok (w,h):=λ{w} e=>by rw[CG];exact XO h _ _ e
 rw[CM];unfold ar;rw[B2,s1,A3,B9,B2,s2,A3,B9,B2,s3,A3,B9,<-B5,B2,E6,t1,A3];cases A5:b
 .rw[if_neg γ,GQ,A3,B9,B2,E6,CK,A3];by_cases Fa:y%8<6
  .rw[if_pos (Fa:)];have ne:ML≠[]:=λz=>by
    rw[A5,z]at BE;simp[Fa]at BE
   have lo:0< ⇑ML:=List.length_pos_iff.mpr ne;obtain⟨j,Ar,I7⟩:=Jx (y/8) (n:=⇑ML) lo;obtain⟨z,G9⟩:∃z,z=ML[j]:=ο;obtain⟨l,Iw,ln⟩:=agf.mp (show z∈LT.KB (S.lets.map λl=>(l.n:Int))by rw[<-es,G9];exact Jm _);have EP:A8 (.ref ⇑h) (.int (j:Int)) H=.ok (.int (l.n:Int),H):=E2 Ao (by erw[H9];rw[E7,CT Ar,<-G9,ln];rfl);have Jz:(0:Int)<(⇑ML:Int):=δ
   have lw:BZ [.ref ⇑h] H=.ok (.int ⇑ML,H):=by rw[H7 Ao];simp[H9]
   have v:BX (A0 (pu (.str (AL "go"))) (A0 (A1 A8 XL (A1 BY (A1 Cq Cl (pu (.int 8))) (Aw BZ (A0 XL A2)))) A2)) r H=.ok (Mp l.n,H):=by rw[B5,CY];erw[QT,BQ,GP,Bn,CJ,v_var,Bk,Da,ES,Cf,A3,N5,if_pos (show(0:Int)<8/\(8:Int)<1073741824 by decide),lw,Kb,if_pos Jz,I7,EP];simp[Ay,Mp]
   refine⟨Mp l.n,.go Iw,?_⟩;rw[Gb,v,A3,A3,Uh,A3,IU,A3];exact fin (by simp[Mp])
  .rw[if_neg (Fa:),GQ,A3,B9];refine⟨IZ,.kn,?_⟩;have v:BX (A0 (pu (.str (AL "step"))) A2) r H=.ok (IZ,H):=by simp[Ay,IZ]
   rw[Gb,v,A3,A3,IU,A3];exact fin (by simp[IZ])
 .rw[if_pos rfl];have lo:0< ⇑(outD C):=List.length_pos_iff.mpr k.ne;obtain⟨j,Ar,I7⟩:=Jx (y/8) (n:=⇑(outD C)) lo;obtain⟨d,CM⟩:∃d,d=(outD C)[j]:=ο;have UJ:d∈outD C:=by rw[CM];exact Jm _
  have EP:A8 (.ref ou) (.int (j:Int)) H=.ok (AY d,H):=E2 jv (by rw[E7,CT Ar,CM];rfl);obtain⟨a,AG,BS⟩:=Jx (y/64) (n:=16) ε;have BS:y/64%16=(a:Int):=BS;have Jz:(0:Int)<(⇑(outD C):Int):=δ
  have v:BX (A0 (pu (.str (AL "come"))) (A0 (A1 A8 ac (A1 BY (A1 Cq Cl (pu (.int 8))) (Aw BZ ω))) (A0 (A1 BY (A1 Cq Cl (pu (.int 64))) (pu (.int 16))) A2))) r H=.ok (Mi d a,H):=by rw[B5,CY];erw[QT,BQ,GP,Bn,CJ,v_var,Bk,Da,ES,Cf,A3,N5,if_pos (show(0:Int)<8/\(8:Int)<1073741824 by decide),if_pos (show(0:Int)<64/\(64:Int)<1073741824 by decide),H7 jv,Ch,Kb,if_pos Jz,if_pos (show(0:Int)<16 by decide),I7,EP,BS];simp[Ay,Mi]
  refine⟨Mi d a,.j0 UJ AG,?_⟩;rw[Gb,v,A3,A3,Uh,A3,IU,A3];exact fin (by simp[Mi])
end
section
variable{ns:↑Int}{C:Dc}{P:GH}{ou Cu Ca Ed Rn Ro:Nat}{h h':A6}{S:E0}{f:Nat->Nat}
def ne_self(h:A6){w:W}(e:(∃t,w=CR t)\/(∃s,w=Ap s)\/(∃i,w=.int i)\/w=.non):As false w w h=.ok (.AN false,h):=by
 rcases e with⟨t,rfl⟩|⟨s,rfl⟩|⟨i,rfl⟩|rfl
 .cases t<;>simp[As,CR,CD,eqT,Gk]
 .cases s<;>simp[As,Ap,CD,eqT,Gk]
 .simp[As,CD,eqT]
 .simp[As,CD,eqT]
def Fix(C:Dc)(P:GH)(n:Nat):Prop:=n=C.r\/(C.M<=n/\n<C.M+3)\/(P.q<=n/\n<P.q+4)
def w0(k:PB C P ou)(c:DK C)(B:HB C P h S f)(AI:S.Be<=60)(hm:S.Cd<900000){w:W}(d:TS C S w) :
  ∃v h1 h2 F1 En,LJ [.ref C.r,w] h=.ok (v,h1)/\Jd [.ref P.q,w] h1=.ok (v,h2)/\HB C P h2 F1 En/\F1.Be<=S.Be+1/\F1.Cd<=S.Cd+1/\((∃t,v=CR t)\/(∃s,v=Ap s)\/(∃i,v=.int i)\/v=.non)/\(⇑h<=⇑h2/\(∀n,Ha F1 En n->Ha S f n\/⇑h<=n)/\∀n,n< ⇑h->¬Fix C P n->¬Ha S f n->h1[n]?=h[n]?)/\∀n,n< ⇑h->¬Fix C P n->¬Ha S f n->h2[n]?=h[n]?:=by
 have q:∀{n},¬Fix C P n->¬Ha S f n->n≠C.r/\¬(C.M<=n/\n<C.M+3)/\¬(P.q<=n/\n<P.q+4)/\∀l∈CU S,n≠l.Du:=λFs no=>⟨λz=>Fs (.inl z),λz=>Fs (.inr (.inl z)),λz=>Fs (.inr (.inr z)),λl AF z=>no ⟨l,AF,.inr (.inl z)⟩⟩;cases d with
 |j0 hd AG=>obtain⟨GX,GY⟩:=ach.mp hd;obtain⟨h1,h2,En,AD,AH,K0,⟨g1,g2,g3⟩,fr⟩:=v8 k.k c B δ GX GY AG;exact⟨_,h1,h2,_,En,AD,AH,K0,C1 _,OP _,.inr (.inr (.inl ⟨_,rfl⟩)),⟨g1,g2,λn AM Fs no=>by obtain⟨a,b,d,e⟩:=q Fs no;exact g3 n AM a b e⟩,λn AM Fs no=>by obtain⟨a,b,d,e⟩:=q Fs no;exact fr n AM a b d e⟩
 |go AF=>obtain⟨C5,B3,sp⟩:=sB AF;obtain⟨h1,h2,En,AD,AH,K0,⟨g1,g2,g3⟩,fr⟩:=v9 k.k c B hm sp;exact⟨_,h1,h2,_,En,AD,AH,K0,by rw[zH];lia,by rw[zI];lia,.inl ⟨_,rfl⟩,⟨g1,g2,λn AM Fs no=>by obtain⟨a,b,d,e⟩:=q Fs no;exact g3 n AM a b e⟩,λn AM Fs no=>by obtain⟨a,b,d,e⟩:=q Fs no;exact fr n AM a b d e⟩
 |kn=>
  obtain⟨h1,h2,AD,AH,K0,⟨g1,g2,g3⟩,fr⟩:=vC k.k c B;refine⟨_,h1,h2,_,f,AD,AH,K0,?_,?_,?_,⟨g1,g2,λn AM Fs no=>by obtain⟨a,b,d,e⟩:=q Fs no;exact g3 n AM a b e⟩,λn AM Fs no=>by obtain⟨a,b,d,e⟩:=q Fs no;exact fr n AM a b d e⟩
  .unfold Wt;split<;>simp[MM]
  .unfold Wt;split<;>simp[MM]
  .unfold YS;split
   .exact .inr (.inl ⟨_,rfl⟩)
   .exact .inr (.inr (.inr rfl))
end
end FT
namespace Bq
def aI{H:A6}{a b:Nat}{us vs:↑W}{ds:↑Ci}(eF:Bool)(BS:H[a]?=↥⟨.lst,us⟩)(BE:H[b]?=↥⟨.lst,vs⟩)(Fb:us.mapM (CD 7 H)=↥ds)(Bw:vs.mapM (CD 7 H)=↥ds)(ok:∀d∈ds,Ex 7 d=true):As eF (.ref a) (.ref b) H=.ok (.AN eF,H):=by
 have q:∀(n:Nat)(ws:↑W),H[n]?=↥⟨.lst,ws⟩->ws.mapM (CD 7 H)=↥ds->CD 8 H (.ref n)=↥(.CW false ds):=λn ws e r=>by show(match E5 H (.ref n)with|some (t,ws)=>(ws.mapM (CD 7 H)).map (Ci.CW t)|none=>none)=_;rw[GZ H e];erw[r,R0]
 unfold As;rw[q a us BS Fb,q b vs BE Bw];erw[dq 8 (d:=.CW false ds) (by simpa[Ex]using ok)];cases eF<;>rfl
theorem UI{α β KI:Type}{f:α->β}{r:β->Option KI}{g:α->KI}:∀{L:↑α},(∀x∈L,r (f x)=↥(g x))->(L.map f).mapM r=↥(L.map g)
 |[],_=>rfl
 |x::L,h=>by rw[DC,NL,h x γ,UI λy AP=>h y (by simp[AP])];rfl
end Bq
namespace FT
section
variable{C:Dc}{P:GH}{h:A6}{S:E0}{f:Nat->Nat}
noncomputable def ER(l:Lt):W:=.tup [.int (l.n:Int),.int (l.m:Int),.int (l.a:Int),.int (l.d.1:Int),.int (l.d.2:Int)]
noncomputable def Xy(l:Lt):Ci:=.CW true [.int (l.n:Int),.int (l.m:Int),.int (l.a:Int),.int (l.d.1:Int),.int (l.d.2:Int)]
def oU(H:A6)(l:Lt):CD 7 H (ER l)=↥(Xy l):=by simp[ER,Xy,CD]
def m3(l:Lt):DP (ER l)=true:=by simp[ER]
def Xx:Ak:=(AO (AZ (A1 A8 (B0 (B8 "Letter" "doors") Cl) (B0 G0 ζ)) (AC 4))
    (Fy (DI EO Ψ (A0 (BX (A0 ac (A0 (B0 (B8 "Letter" "mark") Cl) (A0 (B0 (B8 "Letter" "address") Cl) (A0 (A1 A8 XL η) (A0 (A1 A8 XL ζ) A2)))))) A2))))
def rV(c:DK C)(R:EC C h S):Nr [.ref C.r] h=.ok (.ref ⇑h,h++[⟨.lst,S.lets.map ER⟩]):=by
 have D8:=c.D8;have JF:=c.JF;have Dj:=c.Dj;have AF:=R.AF;have few:=R.few;have le:=R.le;have Ea:⇑S.lets<1000:=δ
 obtain⟨q,eq⟩:∃q:O,q=⟨.H5 (S.lets.map EI),S.lets.map λl=>.ref l.B1⟩:=⟨_,rfl⟩;obtain⟨G,OC⟩:∃G:A6,G=h.set (C.M+1) q:=ο;have WH:⇑G=⇑h:=by rw[OC];simp
 have s1:AZ (BU A2) (AC 1) [ι,none,none,none,none] h=.ok (.AT [ι,χ,none,none,none],h++[⟨.lst,[]⟩]):=by simp[nw,Ay]
 have gl:B0 (B8 "Run" "letters") π [ι,χ,none,none,none] (h++[⟨.lst,[]⟩])=.ok (.ref (C.M+1),h++[⟨.lst,[]⟩]):=by rw[Ia,v_var];exact E_ (C6 h R.B5 _) rfl
 have B1:=aP (it:=UZ (S.lets.map EI) (S.lets.map λl=>.ref l.B1)) (g:=Ei [(AC 2),(AC 3)]) (b:=Xx) ⇑S.lets (λj ρ H=>∃s2 s3 s4,j<=⇑S.lets/\ρ=[ι,χ,s2,s3,s4]/\H=G++[⟨.lst,(S.lets.take j).map ER⟩]) (λDv H=>∃ρ,Dv=.AT ρ/\ρ[1]?=↥↥(.ref ⇑h)/\H=G++[⟨.lst,S.lets.map ER⟩]) (by
  rintro j ρ H ⟨s2,s3,s4,Ar,rfl,rfl⟩;by_cases e:j=⇑S.lets
  .subst e;exact .inl ⟨by simp[UZ],_,rfl,rfl,by rw[iF]⟩
  .have DH:j< ⇑S.lets:=δ
   obtain⟨l,el⟩:∃l,l=S.lets[j]:=ο;have x:=R.lt l (UV (by rw[el];exact Jm _));have old:∀(n:Nat) o,h[n]?=↥o->C.T<=n->∀a,(G++a)[n]?=↥o:=λn o e t a=>C6 G (by rw[OC,EL δ];exact e) a;refine .inr ⟨.tup [.int (l.n:Int),.ref l.B1],?_,DH,[ι,χ,↥(.int (l.n:Int)),↥(.ref l.B1),s4],_,rfl,?_⟩
   .unfold UZ;rw[Ch,if_neg e,E7,E7,CT DH,<-el];rfl
   .have Lc:B8 "Letter" "doors" (.ref l.B1) (G++[⟨.lst,(S.lets.take j).map ER⟩])=.ok (.ref l.Du,_):=E_ (old _ _ x.Fw x.t1 _) rfl;have Oj:B8 "Letter" "mark" (.ref l.B1) (G++[⟨.lst,(S.lets.take j).map ER⟩])=.ok (.int (l.m:Int),_):=E_ (old _ _ x.Fw x.t1 _) rfl;have ga:B8 "Letter" "address" (.ref l.B1) (G++[⟨.lst,(S.lets.take j).map ER⟩])=.ok (.int (l.a:Int),_):=E_ (old _ _ x.Fw x.t1 _) rfl;have Gr:A8 (.ref l.Du) (.int (-1)) (G++[⟨.lst,(S.lets.take j).map ER⟩])=.ok (AY l.d,_):=W8 (us:=l.pre.map AY) (by rw[old _ _ x.CM x.CK];simp[HH]);have OY:∀H,G0 (.int 1) H=.ok (.int (-1),H):=λ_=>rfl;unfold Xx;have t:(S.lets.take (j+1)).map ER=(S.lets.take j).map ER++[ER l]:=by rw[Yt,CT DH,<-el];simp
    have ap:DI EO Ψ (A0 (BX (A0 ac (A0 (B0 (B8 "Letter" "mark") Cl) (A0 (B0 (B8 "Letter" "address") Cl) (A0 (A1 A8 XL η) (A0 (A1 A8 XL ζ) A2)))))) A2) [ι,χ,↥(.int (l.n:Int)),↥(.ref l.B1),↥(AY l.d)] (G++[⟨.lst,(S.lets.take j).map ER⟩])=.ok (.non,G++[⟨.lst,(S.lets.take (j+1)).map ER⟩]):=by
     rw[JB (n:=⇑h) (ws:=(S.lets.take j).map ER) (ws2:=(S.lets.take j).map ER) (us:=[ER l]) (ws':=(S.lets.take j).map ER++[ER l]) (r:=.non) (h1:=G++[⟨.lst,(S.lets.take j).map ER⟩]) (h2:=G++[⟨.lst,(S.lets.take j).map ER⟩]) rfl (by rw[<-WH];simp) ?_ (by rw[<-WH];simp) (by simp[EO]) (by simp[Ay];lia),t,<-WH]
     .simp
     .simp[Oj,ga,AY,Fp,Iu,Ay,ER,-VL]
    rw[B2,Dr,BQ,Ia,v_var,show[ι,χ,↥(.int (l.n:Int)),↥(.ref l.B1),s4][3]?=↥↥(.ref l.B1)from rfl,Cf,A3,Lc,A3,Ia,Bk,A3,OY,A3,Gr,A3,QS,if_pos γ,A3,B9,JK];rw[show([ι,χ,↥(.int (l.n:Int)),↥(.ref l.B1),s4]:BC).set 4 ↥(AY l.d)=[ι,χ,↥(.int (l.n:Int)),↥(.ref l.B1),↥(AY l.d)]from rfl,ap,A3];exact⟨_,_,rfl,_,_,_,DH,rfl,rfl⟩) K2 0 [ι,χ,none,none,none] (G++[⟨.lst,[]⟩]) ⟨_,_,_,IC _,rfl,rfl⟩ (by unfold K2;lia)
 obtain⟨_,_,G9,ρ,rfl,CY,rfl⟩:=B1;have hz:(G++[(⟨.lst,S.lets.map ER⟩:O)])[C.M+1]?=↥q:=C6 G (by rw[OC];exact IY R.el) _;have s2:WN (B0 (B8 "Run" "letters") π) (Ei [(AC 2),(AC 3)]) Xx [ι,χ,none,none,none] (h++[⟨.lst,[]⟩])=.ok (.AT ρ,h++[⟨.lst,S.lets.map ER⟩]):=by unfold WN S0 cA;rw[I_,gl,A3];erw[C6 h R.el];rw[tW _ _ (Eu R.el),<-eq,<-OC,G9];unfold rQ;erw[hz,eq];rw[OC,qZ R.el];rfl
 have e:Nr [.ref C.r] h=((ZW [ι,none,none,none,none] h).bind outF).bind λp=>settle h p.1 p.2:=rfl;rw[e];rw[show ZW=AO (AZ (BU A2) (AC 1)) (AO (WN (B0 (B8 "Run" "letters") π) (Ei [(AC 2),(AC 3)]) Xx) (B7 Ψ))from rfl,B2,s1,A3,B9,B2,s2,A3,B9,Gb,v_var,CY,Cf,A3,A3,IU,A3];exact Me h _ rfl (H8 _ _ m3)
end
section
variable{C:Dc}{P:GH}{h:A6}{S:E0}{f:Nat->Nat}
def EB.app(c:DK C)(k:Ft C P)(J:EB C P h S f)(g:A6):EB C P (h++g) S f:=J.to c k (λn AM=>by
 have D8:=c.D8;have kt:=k.t;have Rt:=k.g;have AF:=J.AF;refine GR ?_;rcases AM with⟨a,_⟩|⟨_,a⟩|⟨y,AP,rfl⟩
 .have:=c.Dj;lia
 .lia
 .exact Eu (J.IW y AP).1) (by have:=J.AF;simp;lia)
theorem HB.app(c:DK C)(k:Ft C P)(B:HB C P h S f)(g:A6):HB C P (h++g) S f:=⟨B.R.app g,B.L.app c k g,B.s⟩
def Jt(S:E0):↑Int:=S.lets.map λl=>(l.n:Int)
def age(J:EB C P h S f):LT.KB (Jt S)=Jt S:=by refine List.mergeSort_of_pairwise ?_;rw[Jt,Sl];exact J.so.imp λe=>decide_eq_true δ
end
section
variable{C:Dc}{P:GH}{h:A6}{S:E0}{f:Nat->Nat}
def adB(J:EB C P h S f){l:Lt}(AF:l∈S.lets):A8 (.ref (P.q+2)) (.int (l.n:Int)) h=.ok (Dw f l,h):=by
 obtain⟨C5,B3,es⟩:=sB AF;have nn:=J.nn;rw[CU,es,ET,HT]at nn;have Bm:h[P.q+2]?=↥⟨.Al (C5.map EI++EI l::B3.map EI),C5.map (Dw f)++Dw f l::B3.map (Dw f)⟩:=by rw[J.Bm,es];simp
 unfold A8;rw[eQ Bm,show Dy (C5.map EI++EI l::B3.map EI) (C5.map (Dw f)++Dw f l::B3.map (Dw f)) (.inl (l.n:Int))=↥(Dw f l)from Xm (WA (gO nn).1) γ]
def adL(J:EB C P h S f)(g:A6){s1 s2 s3 s4 s5:Option W}(FW:EB C P (h++g) S f)(few:⇑S.lets<64)(r:↑(Option W)):D_ (Aw NP (A0 Θ A2)) (KK::r) (h++g)=.ok (GC (.ref ⇑(h++g)),h++g++[⟨.lst,H9 (Jt S)⟩]):=by refine Lg (ws:=H9 (Jt S)) γ ?_;have so:=s8 S.lets FW.Bm few;rw[show(S.lets.map λl=>(l.n:Int))=Jt S from rfl,age FW]at so;simp[TN FW,so]
def eb:Ak:=(AO (M0 (A1 A8 Θ ac) (Ei [(AC 3),(AC 4),(AC 5)]))
    (Fy (DI EO Ψ (A0 (BX (A0 ac (A0 Cl (A0 XL (A0 (A1 A8 (A1 A8 (I 5) (B0 G0 ζ)) η) (A0 (A1 A8 (A1 A8 (I 5) (B0 G0 ζ)) ζ) A2)))))) A2))))
def adP(k:Ft C P)(c:DK C)(J:EB C P h S f)(AI:S.Be<64):UG [.ref P.q] h=.ok (.ref ⇑h,h++[⟨.lst,S.lets.map ER⟩]):=by
 have Ea:=J.Ea;have it:=adL (s1:=none) (s2:=none) (s3:=none) (s4:=none) (s5:=none) J [⟨.lst,[]⟩] (J.app c k _) δ [χ,none,none,none,none];rw[ET,EM]at it
 have B1:=TD (mi:=_) (it:=GC (.ref (⇑h+1))) (g:=AC 2) (b:=eb) (ρ:=[KK,χ,none,none,none,none]) (h:=h++[⟨.lst,[]⟩]) (h0:=h++[⟨.lst,[]⟩,⟨.lst,H9 (Jt S)⟩]) (H9 (Jt S)) (by simp[H9,Jt];lia)
  (λj ρ H=>∃s2 s3 s4 s5,ρ=[KK,χ,s2,s3,s4,s5]/\H=h++[⟨.lst,(S.lets.take j).map ER⟩,⟨.lst,H9 (Jt S)⟩]) (T:=λDv H=>∃ρ,Dv=.AT ρ/\ρ[1]?=↥↥(.ref ⇑h)/\H=h++[⟨.lst,S.lets.map ER⟩,⟨.lst,H9 (Jt S)⟩]) it (λj ρ H _ q=>by obtain⟨_,_,_,_,rfl,rfl⟩:=q;exact Nn γ j) ⟨none,none,none,none,rfl,rfl⟩ (by
  rintro j w ρ H D0 ⟨s2,s3,s4,s5,rfl,rfl⟩;have Ar:j< ⇑S.lets:=by have:=(List.getElem?_eq_some_iff.mp D0).1;simpa[H9,Jt]using this
  obtain⟨l,el⟩:∃l,l=S.lets[j]:=ο;have Iw:l∈S.lets:=by rw[el];exact Jm _
  obtain rfl:w=.int (l.n:Int):=by rw[H9,Jt,iL,E7,CT Ar,<-el]at D0;exact(Gc D0).symm
  obtain⟨H,CG⟩:∃H,H=h++[(⟨.lst,(S.lets.take j).map ER⟩:O),⟨.lst,H9 (Jt S)⟩]:=ο;rw[<-CG];have cM:EB C P H S f:=by rw[CG];exact J.app c k _
  have Km:H[⇑h]?=↥⟨.lst,(S.lets.take j).map ER⟩:=by rw[CG];simp
  have F5:=(cM.IW l (UV Iw)).1;have Gr:A8 (.ref (f l.n)) (.int (-1)) H=.ok (AY l.d,H):=W8 (us:=l.pre.map AY) (by rw[F5];simp[HH]);have OY:∀H,G0 (.int 1) H=.ok (.int (-1),H):=λ_=>rfl;refine⟨[KK,χ,↥(.int (l.n:Int)),s3,s4,s5],H,rfl,.AT [KK,χ,↥(.int (l.n:Int)),↥(.int (l.m:Int)),↥(.int (l.a:Int)),↥(.ref (f l.n))],_,?_,⟨_,_,_,_,rfl,rfl⟩⟩;have t:(S.lets.take (j+1)).map ER=(S.lets.take j).map ER++[ER l]:=by rw[Yt,CT Ar,<-el];simp
  have s1:M0 (A1 A8 Θ ac) (Ei [(AC 3),(AC 4),(AC 5)]) [KK,χ,↥(.int (l.n:Int)),s3,s4,s5] H=.ok (.AT [KK,χ,↥(.int (l.n:Int)),↥(.int (l.m:Int)),↥(.int (l.a:Int)),↥(.ref (f l.n))],H):=by simp[TN cM,adB cM Iw,Dw]
  unfold eb;rw[B2,s1,A3,B9,JK,JB (n:=⇑h) (us:=[ER l]) (ws':=(S.lets.take j).map ER++[ER l]) (r:=.non) (h1:=H) (h2:=H) rfl Km (by simp[OY,Gr,AY,Fp,Iu,Ay,ER]) Km (by simp[EO]) (by simp[Ay];lia),A3,CG,t];simp) (by
  rintro ρ H ⟨s2,s3,s4,s5,rfl,rfl⟩;refine⟨_,rfl,rfl,?_⟩;rw[Uz (by simp[H9,Jt])])
 obtain⟨_,_,G9,ρ,rfl,CY,rfl⟩:=B1.HM;have e:UG [.ref P.q] h=((b0 [KK,none,none,none,none,none] h).bind outF).bind λp=>settle h p.1 p.2:=rfl;have s1:AZ (BU A2) (AC 1) [KK,none,none,none,none,none] h=.ok (.AT [KK,χ,none,none,none,none],h++[⟨.lst,[]⟩]):=by simp[nw,Ay]
 rw[e,show b0=AO (AZ (BU A2) (AC 1)) (AO (Ew (D_ (Aw NP (A0 Θ A2))) (AC 2) eb) (B7 Ψ))from rfl,B2,s1,A3,B9,B2,LV,G9,A3,B9,Gb,v_var,CY,Cf,A3,A3,IU,A3];exact Me h _ rfl (H8 _ _ m3)
end
section
variable{C:Dc}{P:GH}{h:A6}{S:E0}{f:Nat->Nat}
def Mv(q:Nat)(e:Lt×Tl):W:=.tup [.int (e.1.n:Int),.int (e.1.m:Int),AY (Om e.1),.int (e.1.a:Int),.ref q,CR e.2]
def KX:Nat->↑(Lt×Tl)->↑W
 |_,[]=>[]
 |q,e::r=>Mv q e::KX (q+1) r
theorem lQ(x:Lt×Tl):∀(L:↑(Lt×Tl))(q:Nat),KX q (L++[x])=KX q L++[Mv (q+⇑L) x]
 |[],q=>rfl
 |e::r,q=>by rw[HT,KX,lQ x r,DV,show q+1+⇑r=q+(⇑r+1)by lia];rfl
theorem mY:∀(L:↑(Lt×Tl))(q:Nat),⇑(KX q L)=⇑L
 |[],_=>rfl
 |_::r,q=>by rw[KX,DV,mY r,DV]
def U_:Ak:=Fy (DI EO Ψ (A0 (BJ (BX (A0 ac (A0 (B0 (B8 "Letter" "mark") Cl) (A0 (A1 A8 (B0 (B8 "Letter" "doors") Cl) η) (A0 (B0 (B8 "Letter" "address") Cl) (A0 (Aw Dn (A0 (B0 (B8 "Letter" "doors") Cl) A2)) (A0 XL A2)))))))) A2))
def HK(h:A6)(E:↑(Lt×Tl)):A6:=h++(⟨.lst,KX (⇑h+1) E⟩::E.map λe=>HH e.1)
def mZ(c:DK C)(R:EC C h S)(hm:S.Cd<900000):Nq [.ref C.r] h=.ok (.ref ⇑h,HK h S.ended):=by
 have few:=R.few;have le:=R.le
 have B1:=TD (mi:=D_ (B0 (B8 "Run" "ended") π)) (it:=GC (.ref (C.M+2))) (g:=Ei [(AC 2),(AC 3),(AC 4)]) (b:=U_) (ρ:=[ι,χ,none,none,none]) (h:=HK h []) (h0:=HK h []) (S.ended.map NZ) (by simp;lia)
  (λj ρ H=>∃s2 s3 s4,ρ=[ι,χ,s2,s3,s4]/\H=HK h (S.ended.take j)) (T:=λDv H=>∃ρ,Dv=.AT ρ/\ρ[1]?=↥↥(.ref ⇑h)/\H=HK h S.ended) (Lg (C6 h R.Ik _) (by rw[Ia,v_var];exact E_ (C6 h R.B5 _) rfl)) (λj ρ H _ q=>by obtain⟨_,_,_,rfl,rfl⟩:=q;exact Nn (C6 h R.Ik _) j) ⟨none,none,none,rfl,rfl⟩ (by
  rintro j w ρ H D0 ⟨s2,s3,s4,rfl,CG⟩;have Ar:j< ⇑S.ended:=by have:=(List.getElem?_eq_some_iff.mp D0).1;simpa using this
  obtain⟨e,Ik⟩:∃e,e=S.ended[j]:=ο;obtain rfl:w=NZ e:=by rw[E7,CT Ar,<-Ik]at D0;exact(Gc D0).symm
  have t:S.ended.take (j+1)=S.ended.take j++[e]:=by rw[Yt,CT Ar,<-Ik];rfl
  have lt:⇑(S.ended.take j)=j:=by rw[OD];lia
  obtain⟨E,VU⟩:∃E,E=S.ended.take j:=ο;rw[<-VU]at t lt CG;have x:=R.lt e.1 (ak (by rw[Ik];exact Jm _));have pr:=R.pr e.1 (ak (by rw[Ik];exact Jm _));have Ly:⇑H=⇑h+1+j:=by rw[CG];simp[HK,lt];lia
  have gt:H[e.1.B1]?=↥(QY e.1):=by rw[CG];exact C6 h x.Fw _
  have Rp:H[e.1.Du]?=↥(HH e.1):=by rw[CG];exact C6 h x.CM _
  have Km:H[⇑h]?=↥⟨.lst,KX (⇑h+1) E⟩:=by rw[CG];simp[HK]
  have Oj:B8 "Letter" "mark" (.ref e.1.B1) H=.ok (.int (e.1.m:Int),H):=E_ gt rfl;have ga:B8 "Letter" "address" (.ref e.1.B1) H=.ok (.int (e.1.a:Int),H):=E_ gt rfl;have Lc:B8 "Letter" "doors" (.ref e.1.B1) H=.ok (.ref e.1.Du,H):=E_ gt rfl;have Qn:A8 (.ref e.1.Du) (.int 0) H=.ok (AY (Om e.1),H):=by refine E2 (k:=0) Rp ?_;cases Ao:e.1.pre<;>simp[Ao,Om]
  have T7:Dn [.ref e.1.Du] H=.ok (.ref ⇑H,H++[HH e.1]):=Py (GZ _ Rp) (by simp[Ay];lia);refine⟨[ι,χ,↥(.int (e.1.n:Int)),↥(.ref e.1.B1),↥(CR e.2)],H,by simp[NZ],.AT [ι,χ,↥(.int (e.1.n:Int)),↥(.ref e.1.B1),↥(CR e.2)],_,?_,⟨_,_,_,rfl,rfl⟩⟩;have Wy:BJ (BX (A0 ac (A0 (B0 (B8 "Letter" "mark") Cl) (A0 (A1 A8 (B0 (B8 "Letter" "doors") Cl) η) (A0 (B0 (B8 "Letter" "address") Cl) (A0 (Aw Dn (A0 (B0 (B8 "Letter" "doors") Cl) A2)) (A0 XL A2))))))) [ι,χ,↥(.int (e.1.n:Int)),↥(.ref e.1.B1),↥(CR e.2)] H=.ok (Mv ⇑H e,H++[HH e.1]):=by
   have z:BX (A0 ac (A0 (B0 (B8 "Letter" "mark") Cl) (A0 (A1 A8 (B0 (B8 "Letter" "doors") Cl) η) (A0 (B0 (B8 "Letter" "address") Cl) (A0 (Aw Dn (A0 (B0 (B8 "Letter" "doors") Cl) A2)) (A0 XL A2)))))) [ι,χ,↥(.int (e.1.n:Int)),↥(.ref e.1.B1),↥(CR e.2)] H=.ok (Mv ⇑H e,H++[HH e.1]):=by simp[Oj,ga,Lc,Qn,T7,Ay,Mv]
   rw[FJ,z,A3];exact hA (UK _ _) (by simp[G1,DP])
  unfold U_;rw[JK,JB (n:=⇑h) (us:=[Mv ⇑H e]) (ws:=KX (⇑h+1) E) (ws2:=KX (⇑h+1) E) (ws':=KX (⇑h+1) E++[Mv ⇑H e]) (r:=.non) (h1:=H) (h2:=H++[HH e.1]) rfl Km (by rw[Bn,Wy,A3,CJ];rfl) (C6 H Km _) (by simp[EO]) (by simp[Ay,mY];lia),A3,t,Ly];unfold HK;rw[lQ,CG,lt];simp[HK]) (by
  rintro ρ H ⟨s2,s3,s4,rfl,rfl⟩;exact⟨_,rfl,rfl,by rw[Uz γ]⟩)
 obtain⟨_,_,G9,ρ,rfl,CY,rfl⟩:=B1.HM;have e:Nq [.ref C.r] h=(ZS [ι,none,none,none,none] h).bind outF:=rfl;have s1:AZ (BU A2) (AC 1) [ι,none,none,none,none] h=.ok (.AT [ι,χ,none,none,none],HK h []):=by simp[nw,Ay,HK,KX]
 rw[e,show ZS=AO (AZ (BU A2) (AC 1)) (AO (Ew (D_ (B0 (B8 "Run" "ended") π)) (Ei [(AC 2),(AC 3),(AC 4)]) U_) (B7 Ψ))from rfl,B2,s1,A3,B9,B2,LV,G9,A3,B9,Gb,v_var,CY,Cf,A3];rfl
noncomputable def QF(d:Ae):Ci:=.CW true [.int (d.1:Nat),.int (d.2:Nat)]
noncomputable def Yf:Tl->Ci
 |.at d=>.CW true [.str (AL "at"),.int (d.1:Int),.int (d.2:Int)]
 |.drop h=>.CW true [.str (AL "drop"),.int (h:Int)]
 |.out d=>.CW true [.str (AL "out"),.int (d.1:Int),.int (d.2:Int)]
 |.Nm h=>.CW true [.str (AL "lost"),.int (h:Int)]
def Ua(e:Lt×Tl):Ci:=.CW true [.int (e.1.n:Int),.int (e.1.m:Int),QF (Om e.1),.int (e.1.a:Int),.CW false ((e.1.pre++[e.1.d]).map QF),Yf e.2]
def oQ(H:A6)(e:Lt×Tl){p:Nat}(z:H[p]?=↥(HH e.1)):CD 7 H (Mv p e)=↥(Ua e):=by
 have r:CD 6 H (.ref p)=↥(.CW false ((e.1.pre++[e.1.d]).map QF)):=by show(match E5 H (.ref p)with|some (t,ws)=>(ws.mapM (CD 5 H)).map (Ci.CW t)|none=>none)=_;rw[GZ H z];erw[UI (r:=CD 5 H) (f:=AY) (g:=QF) λd _=>by simp[AY,QF,CD],R0]
 have t:CD 6 H (CR e.2)=↥(Yf e.2):=by cases e.2<;>simp[CR,Yf,CD]
 have d:∀x,CD 6 H (AY x)=↥(QF x):=λx=>by simp[AY,QF,CD]
 show(match E5 H (Mv p e)with|some (t,ws)=>(ws.mapM (CD 6 H)).map (Ci.CW t)|none=>none)=_;simp[Mv,Ua,r,t,d,show ∀i,CD 6 H (.int i)=↥(.int i)from λ_=>rfl]
def aeV(e:Lt×Tl):Ex 7 (Ua e)=true:=by cases Bc:e.2<;>simp[Ua,Ex,QF,Yf,Bc]
theorem oR(H:A6):∀(L:↑(Lt×Tl))(q:Nat),(∀(i:Nat) e,L[i]?=↥e->H[q+i]?=↥(HH e.1))->(KX q L).mapM (CD 7 H)=↥(L.map Ua)
 |[],_,_=>rfl
 |e::r,q,z=>by rw[KX,NL,oQ H e (p:=q) (z 0 e rfl:),oR H r (q+1) λi x AJ=>by rw[show q+1+i=q+(i+1)by lia];exact z (i+1) x (AJ:)];rfl
def abZ(e:Lt×Tl):HV f e=Mv (f e.1.n) e:=rfl
def aam(i:Nat)(e:Lt×Tl)(z:S.ended[i]?=↥e):(HK h S.ended)[⇑h+1+i]?=↥(HH e.1):=by unfold HK;rw[show⇑h+1+i=⇑h+(1+i)by lia,Im,show 1+i=i+1 by lia,ES,E7,z];rfl
def aan(k:Ft C P)(c:DK C)(J:EB C P h S f)(b:Bool):As b (.ref ⇑h) (.ref (P.q+3)) (HK h S.ended)=.ok (.AN b,HK h S.ended):=by
 have FW:EB C P (HK h S.ended) S f:=J.app c k _;refine aI (ds:=S.ended.map Ua) b (by simp[HK]) FW.Qo.1 (oR _ _ _ aam) (UI λe he=>?_) λd hd=>?_
 .rw[abZ];exact oQ _ e (FW.IW e.1 (ak he)).1
 .obtain⟨e,_,rfl⟩:=List.mem_map.mp hd;exact aeV e
end
section
variable{C:Dc}{P:GH}{h:A6}{S:E0}{f:Nat->Nat}
def aiB{H:A6}{a b:Nat}(BS:H[a]?=↥⟨.lst,S.lets.map ER⟩)(BE:H[b]?=↥⟨.lst,S.lets.map ER⟩):As false (.ref a) (.ref b) H=.ok (.AN false,H):=
 aI (ds:=S.lets.map Xy) false BS BE (UI λl _=>oU H l) (UI λl _=>oU H l) λd hd=>by obtain⟨l,_,rfl⟩:=List.mem_map.mp hd;simp[Xy,Ex]
end
section
variable{C:Dc}{P:GH}{h h':A6}{S:E0}{f:Nat->Nat}
def RU(C:Dc)(n:Nat):Prop:=n< ⇑C.K/\C.K[n]?≠↥Ij
def abu{n:Nat}{o:O}(k:C.K[n]?=↥o)(ne:o≠Ij):RU C n:=⟨Eu k,λz=>ne (by rw[k]at z;cases z;rfl)⟩
def EC.same(R:EC C h S)(e:∀n,RU C n\/Fix C P n\/Ha S f n->h'[n]?=h[n]?)(AF:C.T<=⇑h'):EC C h' S:=by have q:∀n,C.M<=n/\n<C.M+3->h'[n]?=h[n]?:=λn AM=>e n (.inr (.inl (.inr (.inl AM))));refine⟨λn o k ne=>(e n (.inl (abu k ne))).trans (R.Bf n o k ne),(e _ (.inr (.inl (.inl rfl)))).trans R.B5,(q _ δ).trans R.CM,(q _ δ).trans R.el,(q _ δ).trans R.Ik,λl AF=>?_,R.Bz,R.nn,R.HL,R.IM,R.few,R.le,AF,R.pr⟩;exact(R.lt l AF).to (e _ (.inr (.inr ⟨l,AF,.inl rfl⟩))) (e _ (.inr (.inr ⟨l,AF,.inr (.inl rfl)⟩)))
theorem HB.same(c:DK C)(k:Ft C P)(B:HB C P h S f)(e:∀n,RU C n\/Fix C P n\/Ha S f n->h'[n]?=h[n]?)(AF:C.T<=⇑h'):HB C P h' S f:=
 ⟨B.R.same e AF,B.L.to c k (λn AM=>by
   rcases AM with a|a|⟨l,AF,rfl⟩
   .exact e n (.inl a)
   .exact e n (.inr (.inl (.inr (.inr a))))
   .exact e _ (.inr (.inr ⟨l,AF,.inr (.inr rfl)⟩))) AF,B.s⟩
end
section
variable{C Br:Dc}{P DY:GH}{h h':A6}{S F1 FD:E0}{f En f2:Nat->Nat}
def kD(c:DK C)(k:Ft C P){n:Nat}(e:Fix C P n):n<C.T:=by have:=c.JF;have:=c.Dj;have:=k.t;rcases e with e|e|e<;>lia
def abt(c:DK C){n:Nat}(e:RU C n):n<C.T:=by have:=c.D8;have:=c.Dj;have:=e.1;lia
def X4(B:HB C P h S f){n:Nat}(e:Ha S f n):C.T<=n/\n< ⇑h:=by
 obtain⟨l,AF,e⟩:=e;have x:=B.R.lt l AF;have y:=B.L.IW l AF;rcases e with rfl|rfl|rfl
 .exact⟨x.t1,Eu x.Fw⟩
 .exact⟨x.CK,Eu x.CM⟩
 .exact⟨y.2,Eu y.1⟩
structure Q8(C Br:Dc)(P DY:GH):Prop where
 t:C.T=Br.T
 a:∀n,Fix C P n->¬Fix Br DY n/\¬RU Br n
 b:∀n,Fix Br DY n->¬Fix C P n/\¬RU C n
structure TI(C Br:Dc)(P DY:GH)(h:A6)(S F1:E0)(f En:Nat->Nat):Prop where
 G5:HB C P h S f
 Cw:HB Br DY h F1 En
 s:∀n,Ha S f n->¬Ha F1 En n
theorem Q8.symm(t:Q8 C Br P DY):Q8 Br C DY P:=⟨t.t.symm,t.b,t.a⟩
def TI.symm(t:TI C Br P DY h S F1 f En):TI Br C DY P h F1 S En f:=⟨t.Cw,t.G5,λn a b=>t.s n b a⟩
theorem TI.app(c:DK C)(Dq:DK Br)(k:Ft C P)(k':Ft Br DY)(t:TI C Br P DY h S F1 f En)(g:A6):TI C Br P DY (h++g) S F1 f En:=⟨t.G5.app c k g,t.Cw.app Dq k' g,t.s⟩
def TI.move(w:Q8 C Br P DY)(c:DK C)(Dq:DK Br)(k:Ft C P)(k':Ft Br DY)(t:TI C Br P DY h S F1 f En)(B:HB C P h' FD f2)(l:⇑h<=⇑h')(P3:∀n,Ha FD f2 n->Ha S f n\/⇑h<=n)(fr:∀n,n< ⇑h->¬Fix C P n->¬Ha S f n->h'[n]?=h[n]?):TI C Br P DY h' FD F1 f2 En:=by
 have AF:=t.Cw.R.AF;have IP:=w.t;refine⟨B,t.Cw.same Dq k' (λn AM=>?_) δ,λn a b=>?_⟩
 .rcases AM with x|x|x
  .have:=abt Dq x;exact fr n δ (λz=>(w.a n z).2 x) (λz=>by have:=(X4 t.G5 z).1;lia)
  .have:=kD Dq k' x;exact fr n δ (λz=>(w.a n z).1 x) (λz=>by have:=(X4 t.G5 z).1;lia)
  .have:=X4 t.Cw x;exact fr n this.2 (λz=>by have:=kD c k z;lia) (λz=>t.s n z x)
 .rcases P3 n a with a|a
  .exact t.s n a b
  .have:=(X4 t.Cw b).2;lia
def TI.vz{ou:Nat}(w:Q8 C Br P DY)(c:DK C)(Dq:DK Br)(k:PB C P ou)(k':Ft Br DY)(t:TI C Br P DY h S F1 f En)(AI:S.Be<=60)(hm:S.Cd<900000){x:W}(d:TS C S x) :
  ∃v h1 h2 FD f2,LJ [.ref C.r,x] h=.ok (v,h1)/\Jd [.ref P.q,x] h1=.ok (v,h2)/\TI C Br P DY h2 FD F1 f2 En/\FD.Be<=S.Be+1/\FD.Cd<=S.Cd+1/\((∃t,v=CR t)\/(∃s,v=Ap s)\/(∃i,v=.int i)\/v=.non)/\∀n,n<C.T->¬Fix C P n->h1[n]?=h[n]?/\h2[n]?=h[n]?:=by
 obtain⟨v,h1,h2,FD,f2,AD,AH,K0,ce,Cd,hE,⟨l,P3,f1⟩,fr⟩:=w0 k c t.G5 AI hm d;refine⟨v,h1,h2,FD,f2,AD,AH,t.move w c Dq k.k k' K0 l P3 fr,ce,Cd,hE,λn AM Fs=>?_⟩;have:=t.G5.R.AF;have no:¬Ha S f n:=λz=>by have:=(X4 t.G5 z).1;lia
 exact⟨f1 n δ Fs no,fr n δ Fs no⟩
end
section
variable{C:Dc}{P:GH}{h:A6}{S:E0}{f:Nat->Nat}
def c5(mr mq:BB):DX:=Fq (Aa (A1 (As false) (CV "Run" "under" 0 Nr mr A2) (Aj 1 UG (A0 mq A2)))) (Aa (A1 (As false) (CV "Run" "journal" 0 Nq mr A2) (A1 A8 mq (pu (.str (AL "ended"))))))
def mA(k:Ft C P)(c:DK C)(B:HB C P h S f)(AI:S.Be<64)(hm:S.Cd<900000){mr mq:BB}{ρ:BC}(B5:∀g,mr ρ (h++g)=.ok (.ref C.r,h++g))(eq:∀g,mq ρ (h++g)=.ok (.ref P.q,h++g)):∃g,c5 mr mq ρ h=.ok (false,h++g):=by
 obtain⟨us,aL⟩:∃us:O,us=⟨.lst,S.lets.map ER⟩:=⟨_,rfl⟩;have xT:mr ρ h=.ok (.ref C.r,h):=by have:=B5 [];rwa [L2]at this
 have X1:CV "Run" "under" 0 Nr mr A2 ρ h=.ok (.ref ⇑h,h++[us]):=by rw[aL];exact Nt (h1:=h) xT B.R.B5 rfl (rV c B.R)
 have uO:=B.app c k [us];have N6:Aj 1 UG (A0 mq A2) ρ (h++[us])=.ok (.ref (⇑h+1),h++[us,us]):=by refine J5 (us:=[.ref P.q]) (h1:=h++[us]) (by rw[Bn,eq,A3,CJ];rfl) rfl ?_;rw[adP k c uO.L AI,EM,ET,<-aL];rfl
 have s1:As false (.ref ⇑h) (.ref (⇑h+1)) (h++[us,us])=.ok (.AN false,h++[us,us]):=aiB (S:=S) (by rw[Fx,aL];rfl) (by rw[Im,aL];rfl);have K0:=B.app c k [us,us];obtain⟨H,CG⟩:∃H,H=h++[us,us]:=ο;rw[<-CG]at K0 s1 N6;have XP:CV "Run" "journal" 0 Nq mr A2 ρ H=.ok (.ref ⇑H,HK H S.ended):=Nt (h1:=h) (by rw[CG];exact B5 _) K0.R.B5 rfl (mZ c K0.R hm);obtain⟨g,eg⟩:∃g,HK H S.ended=h++g:=⟨_,by rw[HK,CG,ET]⟩;have uP:HB C P (HK H S.ended) S f:=K0.app c k _;have Xg:A1 A8 mq (pu (.str (AL "ended"))) ρ (HK H S.ended)=.ok (.ref (P.q+3),HK H S.ended):=by have:=z9 uP.L;rw[eg]at this |-;rw[BQ,eq,A3,Bk,A3,this]
 have s2:=aan k c K0.L false;refine⟨g,?_⟩;unfold c5;rw[v_or,Hx,BQ,X1,A3,N6,A3,s1,A3,Hn,A3,if_neg γ,Hx,BQ,XP,A3,Xg,A3,s2,A3,Hn,eg]
end
noncomputable def GI(ns:↑Int)(u:Nat->Nat)(ou pr ps:Nat)(s11 s12 s13 s14 s15:Option W):BC:=[↥(.Dm (BI ns)),↥(.ref (u 1)),↥(.ref (u 2)),↥(.ref (u 3)),↥(.ref (u 4)),↥(.ref ou),↥(.ref (u 6)),↥(.ref (u 7)),↥(.ref (u 8)),↥(.ref pr),↥(.ref ps),s11,s12,s13,s14,s15]
def c9(R:Ak):Ak:=AO (AZ (A1 BY (Aj 2 E3 (A0 (I 11) (A0 (pu (.int 6)) A2))) τ) (AC 12))
    (AO (AZ (Aj 3 S6 (A0 (A1 A8 (I 10) (I 12)) (A0 (I 11) (A0 (I 5) A2)))) (AC 13))
    (AO (Bp (Aa (A1 (As false) (Aj 2 LJ (A0 (A1 A8 (I 9) (I 12)) (A0 (I 13) A2))) (Aj 2 Jd (A0 (A1 A8 (I 10) (I 12)) (A0 (I 13) A2))))) ST Bj) R))
def Rw:Ak:=Bp (c5 (A1 A8 (I 9) (I 14)) (A1 A8 (I 10) (I 14))) ST Bj
def WL:Ak:=c9 (Ew (Dg (A0 τ A2)) (AC 14) Rw)
section
variable{ns:↑Int}{u:Nat->Nat}{ou pr ps:Nat}{C Br:Dc}{P DY:GH}{h h':A6}{S F1:E0}{f En:Nat->Nat}
def lW{i:Nat}{us vs:↑W}(w:Q8 C Br P DY)(c:DK C)(Dq:DK Br)(k:PB C P ou)(k':Ft Br DY)(t:TI C Br P DY h S F1 f En)(AI:S.Be<=60)(hm:S.Cd<900000)(B6:h[pr]?=↥⟨.lst,us⟩)(AW:h[ps]?=↥⟨.lst,vs⟩)(ai8:us[i]?=ι)(sw:vs[i]?=KK)(nq:ps<C.T/\¬Fix C P ps){x y:Int}(DG:∀h,E3 [.int x,.int 6] h=.ok (.int y,h))(Xs:y%2=(i:Int))(R:Ak)(s12 s13 s14 s15:Option W) :
  ∃w h2 FD f2,c9 R (GI ns u ou pr ps ↥(.int x) s12 s13 s14 s15) h=R (GI ns u ou pr ps ↥(.int x) ↥(.int (i:Int)) ↥w s14 s15) h2/\TI C Br P DY h2 FD F1 f2 En/\FD.Be<=S.Be+1/\FD.Cd<=S.Cd+1/\∀n,n<C.T->¬Fix C P n->h2[n]?=h[n]?:=by
 obtain⟨z,d,G9⟩:=wU k c t.G5.L AI x;obtain⟨v,h1,h2,FD,f2,AD,AH,CK,ce,Cd,hE,fr⟩:=t.vz w c Dq k k' AI hm d;obtain⟨ρ,CY⟩:∃ρ:Option W->Option W->BC,ρ=λs t=>GI ns u ou pr ps ↥(.int x) s t s14 s15:=ο;have aiD:∀s t H,I 5 (ρ s t) H=.ok (.ref ou,H):=by rw[CY];exact λ_ _ _=>rfl
 have Y3:∀s t H,I 9 (ρ s t) H=.ok (.ref pr,H):=by rw[CY];exact λ_ _ _=>rfl
 have v10:∀s t H,I 10 (ρ s t) H=.ok (.ref ps,H):=by rw[CY];exact λ_ _ _=>rfl
 have v11:∀s t H,I 11 (ρ s t) H=.ok (.int x,H):=by rw[CY];exact λ_ _ _=>rfl
 have gj:∀s t H,I 12 (ρ ↥s t) H=.ok (s,H):=by rw[CY];exact λ_ _ _=>rfl
 have sh:∀s t H,I 13 (ρ s ↥t) H=.ok (t,H):=by rw[CY];exact λ_ _ _=>rfl
 have zl:A8 (.ref pr) (.int (i:Int)) h=.ok (.ref C.r,h):=E2 B6 ai8;have zi:A8 (.ref ps) (.int (i:Int)) h=.ok (.ref P.q,h):=E2 AW sw;have zj:A8 (.ref ps) (.int (i:Int)) h1=.ok (.ref P.q,h1):=E2 ((fr ps nq.1 nq.2).1.trans AW) sw;have s1:AZ (A1 BY (Aj 2 E3 (A0 (I 11) (A0 (pu (.int 6)) A2))) τ) (AC 12) (ρ s12 s13) h=.ok (.AT (ρ ↥(.int (i:Int)) s13),h):=by have q:Aj 2 E3 (A0 (I 11) (A0 (pu (.int 6)) A2)) (ρ s12 s13) h=.ok (.int y,h):=J5 (us:=[.int x,.int 6]) (h1:=h) (by rw[Bn,v11,A3,Bn,Bk,A3,CJ];rfl) rfl (DG h);rw[Dr,BQ,q,A3,Bk,A3,Kb,if_pos (show(0:Int)<2 by decide),Xs,CY];rfl
 have s2:AZ (Aj 3 S6 (A0 (A1 A8 (I 10) (I 12)) (A0 (I 11) (A0 (I 5) A2)))) (AC 13) (ρ ↥(.int (i:Int)) s13) h=.ok (.AT (ρ ↥(.int (i:Int)) ↥z),h):=by have q:Aj 3 S6 (A0 (A1 A8 (I 10) (I 12)) (A0 (I 11) (A0 (I 5) A2))) (ρ ↥(.int (i:Int)) s13) h=.ok (z,h):=J5 (us:=[.ref P.q,.int x,.ref ou]) (h1:=h) (by rw[Bn,BQ,v10,A3,gj,A3,zi,A3,Bn,v11,A3,Bn,aiD,A3,CJ];rfl) rfl G9;rw[Dr,q,CY];rfl
 have a1:Aj 2 LJ (A0 (A1 A8 (I 9) (I 12)) (A0 (I 13) A2)) (ρ ↥(.int (i:Int)) ↥z) h=.ok (v,h1):=J5 (us:=[.ref C.r,z]) (h1:=h) (by rw[Bn,BQ,Y3,A3,gj,A3,zl,A3,Bn,sh,A3,CJ];rfl) rfl AD;have a2:Aj 2 Jd (A0 (A1 A8 (I 10) (I 12)) (A0 (I 13) A2)) (ρ ↥(.int (i:Int)) ↥z) h1=.ok (v,h2):=J5 (us:=[.ref P.q,z]) (h1:=h1) (by rw[Bn,BQ,v10,A3,gj,A3,zj,A3,Bn,sh,A3,CJ];rfl) rfl AH;refine⟨z,h2,FD,f2,?_,CK,ce,Cd,λn a b=>(fr n a b).2⟩;show c9 R ((λs t=>GI ns u ou pr ps ↥(.int x) s t s14 s15) s12 s13) h=R ((λs t=>GI ns u ou pr ps ↥(.int x) s t s14 s15) ↥(.int (i:Int)) ↥z) h2;rw[<-CY];unfold c9;rw[B2,s1,A3,B9,B2,s2,A3,B9,B2,E6,Hx,BQ,a1,A3,a2,A3,ne_self h2 hE,A3,Hn,A3,if_neg γ,GQ,A3,B9]
def mB(c:DK C)(Dq:DK Br)(k:Ft C P)(k':Ft Br DY)(t:TI C Br P DY h S F1 f En)(AI:S.Be<64)(Jq:F1.Be<64)(hm:S.Cd<900000)(UO:F1.Cd<900000)(B6:h[pr]?=↥⟨.lst,[.ref C.r,.ref Br.r]⟩)(AW:h[ps]?=↥⟨.lst,[.ref P.q,.ref DY.q]⟩){s11 s12 s13 s14 s15:Option W} :
  ∃g s,Ew (Dg (A0 τ A2)) (AC 14) Rw (GI ns u ou pr ps s11 s12 s13 s14 s15) h=.ok (.AT (GI ns u ou pr ps s11 s12 s13 s s15),h++g):=by
 rw[LV];have:=Ends.HM (SI (mi:=Dg (A0 τ A2)) (g:=AC 14) (b:=Rw) (ρ:=GI ns u ou pr ps s11 s12 s13 s14 s15) (h:=h) (h0:=h) 0 2 δ (λj ρ H=>∃g s,ρ=GI ns u ou pr ps s11 s12 s13 s s15/\H=h++g) (T:=λDv H=>∃g s,Dv=.AT (GI ns u ou pr ps s11 s12 s13 s s15)/\H=h++g) (LR (n:=2) rfl δ) ⟨[],s14,rfl,γ⟩ (by
  rintro j _ _ Ar ⟨g,s,rfl,rfl⟩;refine⟨GI ns u ou pr ps s11 s12 s13 ψ s15,h++g,by simp[GI],?_⟩;obtain⟨ρ,CY⟩:∃ρ,ρ=GI ns u ou pr ps s11 s12 s13 ψ s15:=ο;have Y3:∀H,I 9 ρ H=.ok (.ref pr,H):=by rw[CY];exact λ_=>rfl
  have v10:∀H,I 10 ρ H=.ok (.ref ps,H):=by rw[CY];exact λ_=>rfl
  have Y2:∀H,I 14 ρ H=.ok (.int (j:Int),H):=by rw[CY];exact λ_=>rfl
  have t':=t.app c Dq k k' g;have fin:∀{g'},c5 (A1 A8 (I 9) (I 14)) (A1 A8 (I 10) (I 14)) ρ (h++g)=.ok (false,h++g++g')->Ends (Rw ρ (h++g)) (LD (λρ H=>∃g s,ρ=GI ns u ou pr ps s11 s12 s13 s s15/\H=h++g) λDv H=>∃g s,Dv=.AT (GI ns u ou pr ps s11 s12 s13 s s15)/\H=h++g):=λ{g'} e=>by unfold Rw;rw[E6,e,A3,if_neg γ,GQ];exact⟨_,_,rfl,g++g',_,CY,γ⟩
  rw[<-CY];have:j=0\/j=1:=δ
  rcases this with rfl|rfl
  .obtain⟨g',e⟩:=mA k c t'.G5 AI hm (mr:=A1 A8 (I 9) (I 14)) (mq:=A1 A8 (I 10) (I 14)) (ρ:=ρ) (λe1=>by rw[BQ,Y3,A3,Y2,A3];exact E2 (k:=0) (C6 _ (C6 _ B6 _) _) rfl) (λe1=>by rw[BQ,v10,A3,Y2,A3];exact E2 (k:=0) (C6 _ (C6 _ AW _) _) rfl);exact fin e
  .obtain⟨g',e⟩:=mA k' Dq t'.Cw Jq UO (mr:=A1 A8 (I 9) (I 14)) (mq:=A1 A8 (I 10) (I 14)) (ρ:=ρ) (λe1=>by rw[BQ,Y3,A3,Y2,A3];exact E2 (k:=1) (C6 _ (C6 _ B6 _) _) rfl) (λe1=>by rw[BQ,v10,A3,Y2,A3];exact E2 (k:=1) (C6 _ (C6 _ AW _) _) rfl);exact fin e) (λρ H⟨g,s,e,EE⟩=>⟨g,s,by rw[e],EE⟩))
 obtain⟨Dv,H,e,g,s,rfl,rfl⟩:=this;exact⟨g,s,e⟩
structure dS(C Br:Dc)(P DY:GH)(ou pr ps p:Nat):Prop where
 w:Q8 C Br P DY
 c:DK C
 Dq:DK Br
 k:PB C P ou
 k':PB Br DY ou
 f:∀n,n=pr\/n=ps\/n=p->n<C.T/\¬Fix C P n/\¬Fix Br DY n
def v5{p:Nat}(T:dS C Br P DY ou pr ps p)(t:TI C Br P DY h S F1 f En)(AI:S.Be<=60)(Jq:F1.Be<=60)(hm:S.Cd<800000)(UO:F1.Cd<800000)(B6:h[pr]?=↥⟨.lst,[.ref C.r,.ref Br.r]⟩)(AW:h[ps]?=↥⟨.lst,[.ref P.q,.ref DY.q]⟩){x:Int}(s12 s13 s14 s15:Option W) :
  ∃h' FD Ks f2 Ml NT NU NV,WL (GI ns u ou pr ps ↥(.int x) s12 s13 s14 s15) h=.ok (.AT (GI ns u ou pr ps ↥(.int x) NT NU NV s15),h')/\TI C Br P DY h' FD Ks f2 Ml/\FD.Be+Ks.Be<=S.Be+F1.Be+1/\FD.Cd+Ks.Cd<=S.Cd+F1.Cd+1/\∀n,n=pr\/n=ps\/n=p->h'[n]?=h[n]?:=by
 obtain⟨y,DG⟩:=N2 x 6 δ;have DG:∀h,E3 [.int x,.int 6] h=.ok (.int y,h):=DG;have AF:=t.G5.R.AF;have IP:=T.w.t;unfold WL;have:y%2=((0:Nat):Int)\/y%2=((1:Nat):Int):=δ
 rcases this with Xs|Xs
 .obtain⟨z,h2,FD,f2,e,CK,ce,Cd,fr⟩:=lW (ns:=ns) (u:=u) T.w T.c T.Dq T.k T.k'.k t AI δ B6 AW (i:=0) rfl rfl (let⟨a,b,_⟩:=T.f ps (.inr (.inl rfl));⟨a,b⟩) DG Xs (Ew (Dg (A0 τ A2)) (AC 14) Rw) s12 s13 s14 s15;have SO:∀n,n=pr\/n=ps\/n=p->h2[n]?=h[n]?:=λn AM=>let⟨a,b,_⟩:=T.f n AM;fr n a b
  have QN:=CK.G5.R.AF;obtain⟨g,s,AH⟩:=mB (ns:=ns) (u:=u) (ou:=ou) T.c T.Dq T.k.k T.k'.k CK δ δ δ δ ((SO pr (.inl rfl)).trans B6) ((SO ps (.inr (.inl rfl))).trans AW) (s11:=↥(.int x)) (s12:=↥(.int ((0:Nat):Int))) (s13:=↥z) (s14:=s14) (s15:=s15);refine⟨_,FD,F1,f2,En,_,_,_,e.trans AH,CK.app T.c T.Dq T.k.k T.k'.k g,δ,δ,λn AM=>?_⟩;have:=(T.f n AM).1;rw[GR δ,SO n AM]
 .obtain⟨z,h2,FD,f2,e,CK,ce,Cd,fr⟩:=lW (ns:=ns) (u:=u) T.w.symm T.Dq T.c T.k' T.k.k t.symm Jq δ B6 AW (i:=1) rfl rfl (let⟨a,_,b⟩:=T.f ps (.inr (.inl rfl));⟨δ,b⟩) DG Xs (Ew (Dg (A0 τ A2)) (AC 14) Rw) s12 s13 s14 s15;have SO:∀n,n=pr\/n=ps\/n=p->h2[n]?=h[n]?:=λn AM=>let⟨a,_,b⟩:=T.f n AM;fr n δ b
  have t3:=CK.symm;have QN:=t3.G5.R.AF;obtain⟨g,s,AH⟩:=mB (ns:=ns) (u:=u) (ou:=ou) T.c T.Dq T.k.k T.k'.k t3 δ δ δ δ ((SO pr (.inl rfl)).trans B6) ((SO ps (.inr (.inl rfl))).trans AW) (s11:=↥(.int x)) (s12:=↥(.int ((1:Nat):Int))) (s13:=↥z) (s14:=s14) (s15:=s15);refine⟨_,S,FD,f,f2,_,_,_,e.trans AH,t3.app T.c T.Dq T.k.k T.k'.k g,δ,δ,λn AM=>?_⟩;have:=(T.f n AM).1;rw[GR δ,SO n AM]
def w1{p:Nat}(T:dS C Br P DY ou pr ps p){cells:↑Int}(AF:⇑cells<=55){mi:GT}{h0:A6}(t:TI C Br P DY h S F1 f En)(s0:S.Be=0)(alU:F1.Be=0)(m0:S.Cd=0)(akc:F1.Cd=0)(B6:h[pr]?=↥⟨.lst,[.ref C.r,.ref Br.r]⟩)(AW:h[ps]?=↥⟨.lst,[.ref P.q,.ref DY.q]⟩)(Ao:h[p]?=↥⟨.lst,BI cells⟩){s11 s12 s13 s14 s15:Option W}(hi:mi (GI ns u ou pr ps s11 s12 s13 s14 s15) h0=.ok (GC (.ref p),h)) :
  Ends (Ew mi (AC 11) WL (GI ns u ou pr ps s11 s12 s13 s14 s15) h0) λDv h'=>∃FD Ks f2 Ml Ul NT NU NV,Dv=.AT (GI ns u ou pr ps Ul NT NU NV s15)/\TI C Br P DY h' FD Ks f2 Ml:=by
 rw[LV]
 refine Ends.HM (TD (mi:=mi) (it:=GC (.ref p)) (g:=AC 11) (b:=WL) (ρ:=GI ns u ou pr ps s11 s12 s13 s14 s15) (h:=h0) (h0:=h) (BI cells) (by simp[BI];lia)
  (λj ρ h'=>∃FD Ks f2 Ml Ul NT NU NV,ρ=GI ns u ou pr ps Ul NT NU NV s15/\TI C Br P DY h' FD Ks f2 Ml/\FD.Be+Ks.Be<=j/\FD.Cd+Ks.Cd<=j/\∀n,n=pr\/n=ps\/n=p->h'[n]?=h[n]?)
  hi (λj ρ h' _ q=>by obtain⟨FD,Ks,_,_,_,_,_,_,_,_,_,_,e⟩:=q;exact Nn ((e p (.inr (.inr rfl))).trans Ao) j) ⟨S,F1,f,En,s11,s12,s13,s14,rfl,t,δ,δ,λ_ _=>rfl⟩ ?_ ?_)
 .rintro j w _ H D0 ⟨FD,Ks,f2,Ml,Ul,NT,NU,NV,rfl,CK,ce,Cd,e⟩;erw[BI,E7]at D0;cases ex:cells[j]? with
  |none=>rw[ex]at D0;cases D0
  |some x=>rw[ex]at D0;cases D0;have Ar:=(List.getElem?_eq_some_iff.mp ex).1;obtain⟨h',vH,vI,Ev,xb,hR,hS,hT,BE,t3,akL,akh,fr⟩:=v5 (ns:=ns) (u:=u) T CK δ δ δ δ ((e pr (.inl rfl)).trans B6) ((e ps (.inr (.inl rfl))).trans AW) (x:=x) NT NU NV s15;refine⟨GI ns u ou pr ps ↥(.int x) NT NU NV s15,H,by simp[GI],?_⟩;exact⟨_,_,BE,vH,vI,Ev,xb,_,_,_,_,rfl,t3,δ,δ,λn AM=>(fr n AM).trans (e n AM)⟩
 .rintro _ h' ⟨FD,Ks,f2,Ml,Ul,NT,NU,NV,rfl,CK,_⟩;exact⟨FD,Ks,f2,Ml,Ul,NT,NU,NV,rfl,CK⟩
end
def ad1:([(AL "wires"),(AL "books"),(AL "plan"),(AL "done"),(AL "letters"),(AL "came"),(AL "ended")]:↑Str).Nodup:=ε
def jA(h:A6)(JE po C7 pp:Nat):OW [.ref JE,.ref po,.ref C7,.ref pp] h=.ok (.ref ⇑h,h++[⟨.Al PO,[.ref JE,.ref (⇑h+1),.ref pp,.int 0,.ref (⇑h+2),.int 0,.ref (⇑h+3)]⟩,⟨.lst,[.ref po,.ref C7]⟩,⟨.Al [],[]⟩,⟨.lst,[]⟩]):=by
 have q:Tu [(AL "wires"),(AL "books"),(AL "plan"),(AL "done"),(AL "letters"),(AL "came"),(AL "ended")] [π,(BU (A0 Ψ ω)),Cl,η,(KY false),η,(BU A2)] [↥(.ref JE),↥(.ref po),↥(.ref C7),↥(.ref pp)] h=.ok (.ref ⇑h,h++[⟨.Al PO,[.ref JE,.ref (⇑h+1),.ref pp,.int 0,.ref (⇑h+2),.int 0,.ref (⇑h+3)]⟩,⟨.lst,[.ref po,.ref C7]⟩,⟨.Al [],[]⟩,⟨.lst,[]⟩]):=by
  have a:P2 [π,(BU (A0 Ψ ω)),Cl,η,(KY false),η,(BU A2)] [↥(.ref JE),↥(.ref po),↥(.ref C7),↥(.ref pp)] (h++[⟨.Al [],[]⟩])=.ok ([.ref JE,.ref (⇑h+1),.ref pp,.int 0,.ref (⇑h+2),.int 0,.ref (⇑h+3)],h++[⟨.Al [],[]⟩,⟨.lst,[.ref po,.ref C7]⟩,⟨.Al [],[]⟩,⟨.lst,[]⟩]):=by simp[P2,KY,nw,Ay]
  unfold Tu;rw[a,A3];erw[Fx,Da,TQ];rw[if_pos ⟨ad1,ε⟩];rfl
 have e:OW [.ref JE,.ref po,.ref C7,.ref pp] h=(ao [↥(.ref JE),↥(.ref po),↥(.ref C7),↥(.ref pp)] h).bind outF:=rfl;rw[e];unfold ao;rw[Gb,FJ,q,A3];have s:Bq.settle h (.ref ⇑h) (h++[⟨.Al PO,[.ref JE,.ref (⇑h+1),.ref pp,.int 0,.ref (⇑h+2),.int 0,.ref (⇑h+3)]⟩,⟨.lst,[.ref po,.ref C7]⟩,⟨.Al [],[]⟩,⟨.lst,[]⟩])=.ok (.ref ⇑h,h++[⟨.Al PO,[.ref JE,.ref (⇑h+1),.ref pp,.int 0,.ref (⇑h+2),.int 0,.ref (⇑h+3)]⟩,⟨.lst,[.ref po,.ref C7]⟩,⟨.Al [],[]⟩,⟨.lst,[]⟩]):=by unfold Bq.settle;simp[DP]
 rw[s];rfl
def jJ{h:A6}{b:Nat}{B:↑↑Cs}(e:∀i,i< ⇑B+1->h[b+i]?=(G6 b B)[i]?):Db h b B:=by
 refine⟨(Cn ⇑B).map λi=>b+1+i,?_,γ,λi r B5=>?_⟩
 .have:=e 0 δ;rw[Nat.add_zero]at this;rw[this];simp[G6,Gv,Pe]
 .rw[E7]at B5;by_cases hi:i< ⇑B
  .rw[Sk hi]at B5;cases B5;show h[b+1+i]?=_;rw[show b+1+i=b+(i+1)by lia,e (i+1) δ];simp[G6,Ef,hi]
  .rw[Jl (hi:)]at B5;cases B5
def Db.to{h h':A6}{b:Nat}{B:↑↑Cs}(x:Db h b B)(e:∀n,n< ⇑h->h'[n]?=h[n]?):Db h' b B:=by obtain⟨rs,AD,l,r⟩:=x.ex;exact⟨rs,(e _ (Eu AD)).trans AD,l,λi q AW=>(e _ (Eu (r i q AW))).trans (r i q AW)⟩
def sG{h g:A6}{n:Nat}{ws:↑W}(p:h<+: g)(l:⇑h<=n)(e:g[n]?=↥⟨.lst,ws⟩)(LM:G1 ws=false):settle h (.ref n) g=.ok (.ref n,g):=by unfold Bq.settle;simp[Kc p,DP,l,e,LM]
section
variable{cs:↑Nat}{ws:ν}{A B:↑↑Cs}{ps:↑Co}(h:A6)
def Ke(h:A6)(cs:↑Nat)(ws:ν)(A B:↑↑Cs)(ps:↑Co):A6:=h++(PN (⇑h+3) (⇑h+5) (⇑h+6+⇑A) (⇑h+7+⇑A+⇑B) (⇑h+8+⇑A+⇑B) 0::(Iz ⇑h cs ws A B ps++[⟨.lst,[]⟩,⟨.Al [],[]⟩,⟨.lst,[]⟩]))
def g5:⇑(Ke h cs ws A B ps)=⇑h+8+⇑A+⇑B+3:=by unfold Ke;rw[EM,DV,EM,XI];simp;lia
def afj:(Ke h cs ws A B ps)[⇑h]?=↥(PN (⇑h+3) (⇑h+5) (⇑h+6+⇑A) (⇑h+7+⇑A+⇑B) (⇑h+8+⇑A+⇑B) 0):=by unfold Ke;simp
def afk{k:Nat}(AR:k< ⇑A+⇑B+7):(Ke h cs ws A B ps)[⇑h+1+k]?=(Iz ⇑h cs ws A B ps)[k]?:=by unfold Ke;rw[show⇑h+1+k=⇑h+(k+1)by lia,Im,ES,GR (by rw[XI];exact AR)]
def afi(k:Nat):(Ke h cs ws A B ps)[⇑h+8+⇑A+⇑B+k]?=([⟨.lst,[]⟩,⟨.Al [],[]⟩,⟨.lst,[]⟩]:A6)[k]?:=by
 unfold Ke;rw[show⇑h+8+⇑A+⇑B+k=⇑h+(⇑A+⇑B+7+k+1)by lia,Im,ES,NJ (by rw[XI];lia),XI]
 congr 1;lia
def aft:(Iz ⇑h cs ws A B ps)[2]?=↥(N3 cs ws (⇑h+4)):=by simp[Iz]
def afs:(Iz ⇑h cs ws A B ps)[3]?=↥(Hq ws):=by simp[Iz]
def afq{i:Nat}(hi:i< ⇑A+1):(Iz ⇑h cs ws A B ps)[4+i]?=(G6 (⇑h+5) A)[i]?:=by
 unfold Iz;rw[GR (by simp[MD];lia),GR (by simp[MD];lia),NJ γ]
 congr 1;simp
def afr{i:Nat}(hi:i< ⇑B+1):(Iz ⇑h cs ws A B ps)[5+⇑A+i]?=(G6 (⇑h+6+⇑A) B)[i]?:=by
 unfold Iz;rw[GR (by simp[MD];lia),NJ (by simp[MD];lia)]
 congr 1;simp[MD];lia
def afu:(Iz ⇑h cs ws A B ps)[6+⇑A+⇑B]?=↥⟨.lst,ps.map Ap⟩:=by
 unfold Iz;rw[NJ (by simp[MD];lia)];have:6+⇑A+⇑B- ⇑([⟨.lst,Bi cs⟩,⟨.lst,ws.map CH⟩,N3 cs ws (⇑h+4),Hq ws]++G6 (⇑h+5) A++G6 (⇑h+6+⇑A) B)=0:=by simp[MD];lia
 rw[this];rfl
end
noncomputable def JA(G:A6)(M:Nat)(ds:↑Nat):A6:=(Cn M).map λn=>if n∈ds then Ij else G.getD n Ij
section
variable{G:A6}{M:Nat}{ds:↑Nat}
def ew:⇑(JA G M ds)=M:=by simp[JA]
def bx{n:Nat}(AM:n<M):(JA G M ds)[n]?=↥(if n∈ds then Ij else G.getD n Ij):=by unfold JA;rw[E7,Sk AM];rfl
def mb{n:Nat}{o:O}(AM:n<M)(Bz:n∉ds)(e:G[n]?=↥o):(JA G M ds)[n]?=↥o:=by rw[bx AM,if_neg Bz,Ef,e];rfl
def aap{n:Nat}{o:O}(e:(JA G M ds)[n]?=↥o)(ne:o≠Ij):n<M/\n∉ds/\G[n]?=↥o:=by
 have AM:n<M:=by have:=Eu e;rwa [ew]at this
 rw[bx AM]at e;cases e
 split at ne
 .exact absurd rfl ne
 .rename_i Bz;refine⟨AM,Bz,?_⟩;rw[if_neg Bz,Ef]at*;cases q:G[n]? with
  |none=>rw[q]at ne;exact absurd rfl ne
  |some o=>rfl
def mc{X:A6}(l:⇑X<=M)(Bz:∀d∈ds,⇑X<=d)(e:∀n,n< ⇑X->G[n]?=X[n]?):∀n,n< ⇑X->(JA G M ds)[n]?=X[n]?:=λn AM=>by have q:=e n AM;rw[CT AM]at q |-;exact mb δ (λz=>by have:=Bz n z;lia) q
end
noncomputable def b3(L:Nat)(cs:↑Nat)(ws:ν)(A B:↑↑Cs)(ps:↑Co)(T:Nat)(K:A6):Dc:=
 ⟨cs,ws,A,B,ps,L,L+8+⇑A+⇑B,T,L+3,L+5,L+6+⇑A,L+7+⇑A+⇑B,K⟩
section
variable{h G:A6}{cs:↑Nat}{ws:ν}{A B:↑↑Cs}{ps:↑Co}{T:Nat}{ds:↑Nat}
def ed(ex:∀n,⇑h<=n->n< ⇑h+8+⇑A+⇑B+3->G[n]?=(Ke h cs ws A B ps)[n]?)(w8:⇑h∈ds)(dd:∀n∈ds,n<=⇑h)(Dj:⇑h+8+⇑A+⇑B+3<=T)(zP:T<=⇑G)(N:K3 cs ws)(HY:HC cs A)(HN:HC cs B)(P:Q5 ⇑cs ps) :
  DK (b3 ⇑h cs ws A B ps T (JA G (⇑h+8+⇑A+⇑B) ds))/\EC (b3 ⇑h cs ws A B ps T (JA G (⇑h+8+⇑A+⇑B) ds)) G ⟨[],0,[],[],0⟩:=by
 obtain⟨K,QH⟩:∃K,K=JA G (⇑h+8+⇑A+⇑B) ds:=ο;have Vc:∀{k:Nat},k< ⇑A+⇑B+7->K[⇑h+1+k]?=(Iz ⇑h cs ws A B ps)[k]?:=λ{k} AR=>by
  have q:=ex (⇑h+1+k) δ δ;rw[afk h AR]at q;have l:k< ⇑(Iz ⇑h cs ws A B ps):=by rw[XI];exact AR
  rw[CT l]at q |-;rw[QH];exact mb δ (λz=>by have:=dd _ z;lia) q
 rw[<-QH];constructor
 .refine⟨N,HY,HN,P,⟨⇑h+4,?_,?_⟩,jJ λi hi=>?_,jJ λi hi=>?_,?_,?_,?_,Dj⟩
  .have:=Vc (k:=2) δ;rw[aft]at this;exact this
  .have:=Vc (k:=3) δ;rw[afs]at this;exact this
  .have:=Vc (k:=4+i) (by have:i< ⇑A+1:=hi;lia);rw[afq (A:=A) h hi,show⇑h+1+(4+i)=⇑h+5+i by lia]at this;exact this
  .have:=Vc (k:=5+⇑A+i) (by have:i< ⇑B+1:=hi;lia);rw[afr (B:=B) h hi,show⇑h+1+(5+⇑A+i)=⇑h+6+⇑A+i by lia]at this;exact this
  .have:=Vc (k:=6+⇑A+⇑B) δ;rw[afu,show⇑h+1+(6+⇑A+⇑B)=⇑h+7+⇑A+⇑B by lia]at this;exact this
  .show K[⇑h]?=_;rw[QH,bx δ,if_pos w8]
  .show⇑K<=⇑h+8+⇑A+⇑B;rw[QH,ew];exact C1 _
 .have DT:∀k,k<3->G[⇑h+8+⇑A+⇑B+k]?=([⟨.lst,[]⟩,⟨.Al [],[]⟩,⟨.lst,[]⟩]:A6)[k]?:=λk AR=>(ex _ δ δ).trans (afi (cs:=cs) (ws:=ws) (A:=A) (B:=B) (ps:=ps) h k);refine⟨λn o k ne=>?_,?_,DT 0 δ,DT 1 δ,DT 2 δ,(λ_ x=>by cases x),Ss,Ss,(λ_ x=>by cases x),(λ_ x=>by cases x),ε,ε,zP,(λ_ x=>by cases x)⟩
  .have k:K[n]?=↥o:=k;rw[QH]at k;exact(aap k ne).2.2
  .exact(ex _ (C1 _) δ).trans (afj h)
end
noncomputable def G3(ns:↑Int)(xs:↑Nat):BC:=↥(.Dm (BI ns))::(xs.map (λx=>↥(.ref x))++Gd (15- ⇑xs) none)
def nc{ns:↑Int}{lo hi:Nat}(akb:lo<=hi)(alO:hi<=lo+10){cs:↑Nat}(O6:⇑cs<=6){h:A6}{ρ:BC}(h0:ρ[0]?=↥↥(.Dm (BI ns)))(h1:ρ[1]?=↥↥(.ref 0))(z:h[0]?=↥⟨.lst,Bi cs⟩) :
  ∃ps,Q5 ⇑cs ps/\ ⇑ps<=30/\BJ (Aj 2 N1 (A0 (BJ (D9 π (CC (pu (.int (lo:Int)))) (CC (pu (.int (hi:Int)))))) (A0 (Aw BZ υ) A2))) ρ h=.ok (.ref ⇑h,h++[⟨.lst,ps.map Ap⟩]):=by
 obtain⟨l,el⟩:∃l,He (BI ns) ↥(lo:Int) ↥(hi:Int)=BI l:=eM ns _ _;have Ea:⇑l<=10:=by
  have e:⇑(He (BI ns) ↥(lo:Int) ↥(hi:Int))=⇑l:=by rw[el];simp[BI]
  rw[<-e];unfold He;rw[EU.Ug,EU.Ug];simp;lia
 have s1:D9 π (CC (pu (.int (lo:Int)))) (CC (pu (.int (hi:Int)))) ρ h=.ok (.ref ⇑h,h++[⟨.lst,BI l⟩]):=by rw[NC,v_var,h0,Cf,A3,Xj,A3,Xj,A3];unfold MJ;erw[YP,el];rw[Gu _ (by simp[BI,Ay];lia)]
 have es:BJ (D9 π (CC (pu (.int (lo:Int)))) (CC (pu (.int (hi:Int))))) ρ h=.ok (.ref ⇑h,h++[⟨.lst,BI l⟩]):=by rw[FJ,s1,A3];exact KD (ws:=BI l) h _ (Kc (Ez _ _)) γ γ (bN _)
 obtain⟨ps,P,Pw,Ao⟩:=af0 Ea O6 (h:=h++[⟨.lst,BI l⟩]) (a:=⇑h) (by rw[Fx];rfl);have lc:BZ [.ref 0] (h++[⟨.lst,BI l⟩])=.ok (.int (⇑cs:Int),h++[⟨.lst,BI l⟩]):=by rw[H7 (C6 _ z _)];simp[Bi]
 have v1:∀h',I 1 ρ h'=.ok (.ref 0,h'):=λh'=>by rw[v_var,h1,Cf]
 have cf:A0 (BJ (D9 π (CC (pu (.int (lo:Int)))) (CC (pu (.int (hi:Int)))))) (A0 (Aw BZ υ) A2) ρ h=.ok ([.ref ⇑h,.int (⇑cs:Int)],h++[⟨.lst,BI l⟩]):=by rw[Bn,es,A3,Bn,GP,Bn,v1,A3,CJ,A3,A3,lc,A3,CJ,A3,A3]
 have q:=J5 (mf:=N1) (k:=2) cf rfl Ao;refine⟨ps,P,Pw,?_⟩;rw[FJ,q,A3];exact KD (ws:=ps.map Ap) h _ (Kc (GE (Ez _ _) _)) γ γ (H8 _ _ Ka)
def wR{ns:↑Int}(AF:⇑ns<=63){h:A6}{ρ:BC}(h0:ρ[0]?=↥↥(.Dm (BI ns))):∃l:↑Int,⇑l<=50/\D_ (BJ (A1 addW (BU (A0 ζ (A0 τ (A0 (pu (.int 9)) A2)))) (D9 π (CC (pu (.int 16))) (pu none)))) ρ h=.ok (GC (.ref ⇑h),h++[⟨.lst,BI l⟩]):=by
 obtain⟨l,el⟩:∃l,He (BI ns) ↥16 none=BI l:=eM ns _ _;have Ea:⇑l<=47:=by
  have e:⇑(He (BI ns) ↥16 none)=⇑l:=by rw[el];simp[BI]
  rw[<-e];unfold He;have:EU.Ct ⇑(BI ns) 0 ↥16=min 16 ⇑(BI ns):=EU.Ug _ _ 16;rw[this,EU.YK];simp[BI];lia
 refine⟨1::2::9::l,by simp;lia,?_⟩;have E4:BU (A0 ζ (A0 τ (A0 (pu (.int 9)) A2))) ρ h=.ok (.ref ⇑h,h++[⟨.lst,[.int 1,.int 2,.int 9]⟩]):=rfl;have s1:D9 π (CC (pu (.int 16))) (pu none) ρ (h++[⟨.lst,[.int 1,.int 2,.int 9]⟩])=.ok (.ref (⇑h+1),h++[⟨.lst,[.int 1,.int 2,.int 9]⟩]++[⟨.lst,BI l⟩]):=by rw[NC,v_var,h0,Cf,A3,Xj,A3,Bk,A3];unfold MJ;erw[YP,el];rw[Gu _ (by simp[BI,Ay];lia)];simp
 have a1:=Nv (h:=h++[⟨.lst,[.int 1,.int 2,.int 9]⟩]++[⟨.lst,BI l⟩]) (i:=⇑h) (j:=⇑h+1) (a:=[.int 1,.int 2,.int 9]) (b:=BI l) γ γ (by simp[BI,Ay];lia);have m:BJ (A1 addW (BU (A0 ζ (A0 τ (A0 (pu (.int 9)) A2)))) (D9 π (CC (pu (.int 16))) (pu none))) ρ h=.ok (.ref ⇑h,h++[⟨.lst,BI (1::2::9::l)⟩]):=by rw[FJ,BQ,E4,A3,s1,A3,a1,A3];exact KD (ws:=BI (1::2::9::l)) h _ (Kc (GE (GE (Ez _ _) _) _)) γ (by simp[BI]) (bN _)
 exact Lg (ws:=BI (1::2::9::l)) γ m
def vW{ns:↑Int}(AF:⇑ns<=63):∃(cs:↑Nat)(ws:ν)(po C7:Nat)(A B:↑↑Cs)(H:A6),(1<=⇑cs/\ ⇑cs<=6)/\K3 cs ws/\(∃T8∈DF cs ⇑cs,T8∉ends ws)/\HC cs A/\HC cs B/\2<=⇑H/\H[0]?=↥⟨.lst,Bi cs⟩/\H[1]?=↥⟨.lst,ws.map CH⟩/\Db H po A/\Db H C7 B/\S5 [.Dm (BI ns)] []=.ok (.tup [.ref 0,.ref 1,.ref po,.ref C7],H):=by
 obtain⟨C3,cH⟩:∃C3:A6,C3=[]:=ο;rw[<-cH];have LH:⇑C3=0:=by rw[cH];rfl
 obtain⟨cell,ec⟩:=iu C3 ns 0;have ec:M1 [.Dm (BI ns),.int 0] C3=.ok (.int cell,C3):=ec;obtain⟨cs,⟨By,O6⟩,Fl,em⟩:=wa cell;have em:=em C3;obtain⟨H1,cI⟩:∃H1:A6,H1=C3++[⟨.lst,Bi cs⟩]:=ο;rw[<-cI,LH]at em;have C5:⇑H1=1:=by rw[cI];simp[LH]
 have Fi:H1[0]?=↥⟨.lst,Bi cs⟩:=by rw[cI];have:=Fx C3 [⟨.lst,Bi cs⟩];rw[LH]at this;exact this
 obtain⟨ws,N,hd,D0⟩:=ahe cell cs By O6 Fl Fi;obtain⟨AU,Z_⟩:∃AU:A6,AU=H1++[⟨.lst,ws.map CH⟩]:=ο;rw[<-Z_,C5]at D0;have B3:⇑AU=2:=by rw[Z_];simp[C5]
 have F6:AU[1]?=↥⟨.lst,ws.map CH⟩:=by rw[Z_];have:=Fx H1 [⟨.lst,ws.map CH⟩];rw[C5]at this;exact this
 have Xu:AU[0]?=↥⟨.lst,Bi cs⟩:=by rw[Z_];exact C6 H1 Fi _
 obtain⟨po,C7,g,A,B,HY,HN,Kv,MC,BE⟩:=vB AF By O6 Fl Xu;refine⟨cs,ws,po,C7,A,B,AU++g,⟨By,O6⟩,N,hd,HY,HN,by rw[EM];lia,C6 _ Xu _,C6 _ F6 _,Kv,MC,?_⟩;have CM:S5 [.Dm (BI ns)] C3=(am [↥(.Dm (BI ns)),none,none,none,none,none] C3).bind outF:=rfl;rw[CM];unfold am;have t1:AZ (Aj 2 M1 (A0 π (A0 η A2))) (AC 1) [↥(.Dm (BI ns)),none,none,none,none,none] C3=.ok (.AT [↥(.Dm (BI ns)),↥(.int cell),none,none,none,none],C3):=by simp[ec]
 have CK:AZ (Aj 1 U9 υ) (AC 2) [↥(.Dm (BI ns)),↥(.int cell),none,none,none,none] C3=.ok (.AT [↥(.Dm (BI ns)),↥(.int cell),↥(.ref 0),none,none,none],H1):=by simp[em]
 have t3:AZ (Aj 2 OX (A0 Ψ ω)) (AC 3) [↥(.Dm (BI ns)),↥(.int cell),↥(.ref 0),none,none,none] H1=.ok (.AT [↥(.Dm (BI ns)),↥(.int cell),↥(.ref 0),↥(.ref 1),none,none],AU):=by simp[D0]
 have Mf:M0 (Aj 2 WV (A0 π ω)) (Ei [(AC 4),(AC 5)]) [↥(.Dm (BI ns)),↥(.int cell),↥(.ref 0),↥(.ref 1),none,none] AU=.ok (.AT [↥(.Dm (BI ns)),↥(.int cell),↥(.ref 0),↥(.ref 1),↥(.ref po),↥(.ref C7)],AU++g):=by simp[BE]
 rw[B2,t1,A3,B9,B2,CK,A3,B9,B2,t3,A3,B9,B2,Mf,A3,B9];rfl
noncomputable def b_:Option Nat->Ci
 |none=>.non
 |some i=>.int (i:Int)
def XK(r:Cs):Ci:=.CW true [.str r.p,b_ r.a,b_ r.b]
def afw(H:A6)(k:Nat):∀r:Cs,CD (k+2) H (EK r)=↥(XK r)
 |⟨p,a,b⟩=>by cases a<;>cases b<;>simp[EK,XK,CD,DA,b_]
def adl(k:Nat):∀r:Cs,Ex (k+2) (XK r)=true
 |⟨p,a,b⟩=>by cases a<;>cases b<;>simp[XK,b_,Ex]
def o4(k:Nat)(s:Co):Ex (k+2) (Kg s)=true:=by cases s<;>simp[Kg,Ex]
def gA{α:Type}{H:A6}{k n:Nat}{f:α->W}{g:α->Ci}{L:↑α}(e:H[n]?=↥⟨.lst,L.map f⟩)(IW:∀a,CD k H (f a)=↥(g a)):CD (k+1) H (.ref n)=↥(.CW false (L.map g)):=by erw[CD,GZ H e];rw[UI λx _=>IW x];rfl
theorem mL{α β KI:Type}{F:α->Option KI}{G:β->KI}{d:β}:∀{rs:↑α}{B:↑β},⇑rs=⇑B->(∀i r,rs[i]?=↥r->F r=↥(G (B.getD i d)))->rs.mapM F=↥(B.map G)
 |[],[],_,_=>rfl
 |r::rs,b::B,l,e=>by have h0:=e 0 r rfl;rw[NL,h0,mL (F:=F) (G:=G) (d:=d) (l:) λi q AW=>e (i+1) q AW];rfl
def Tj(b:↑Cs):Ci:=.CW false (b.map XK)
def bG{H:A6}{n:Nat}{B:↑↑Cs}(x:Db H n B):CD 7 H (.ref n)=↥(.CW false (B.map Tj)):=by
 obtain⟨rs,e,l,r⟩:=x.ex;erw[CD,GZ H e];rw[mL (F:=CD 6 H) (G:=Tj) (d:=[]) (l:) (λi w hw=>?_)]
 .rfl
 .rw[E7]at hw;cases q:rs[i]? with
  |none=>rw[q]at hw;cases hw
  |some z=>rw[q]at hw;cases hw;exact gA (r i z q) (afw H 3)
def bk(a b:↑Co):Ci:=.CW false [.CW false (a.map Kg),.CW false (b.map Kg)]
def oT{H:A6}{n a b:Nat}{ps Cr:↑Co}(e:H[n]?=↥⟨.lst,[.ref a,.ref b]⟩)(BS:H[a]?=↥⟨.lst,ps.map Ap⟩)(BE:H[b]?=↥⟨.lst,Cr.map Ap⟩):CD 7 H (.ref n)=↥(bk ps Cr):=by have BN:=gA BS (bJ 3 H);have rb:=gA BE (bJ 3 H);show(match E5 H (.ref n)with|some (t,ws)=>(ws.mapM (CD 6 H)).map (Ci.CW t)|none=>none)=_;rw[GZ H e];erw[NL,iW,BN,rb];rfl
def aff{H:A6}{n m a GL b Hm p F3 x Fd y QW:Nat}{A B:↑↑Cs}{ps Cr:↑Co}(Au:H[n]?=↥⟨.lst,[.ref a,.ref b,.ref p]⟩)(em:H[m]?=↥⟨.lst,[.ref GL,.ref Hm,.ref F3]⟩)(H6:Db H a A)(zN:Db H GL A)(GV:Db H b B)(zO:Db H Hm B)(AV:H[p]?=↥⟨.lst,[.ref x,.ref y]⟩)(aaH:H[F3]?=↥⟨.lst,[.ref Fd,.ref QW]⟩)(AJ:H[x]?=↥⟨.lst,ps.map Ap⟩)(aaR:H[Fd]?=↥⟨.lst,ps.map Ap⟩)(AP:H[y]?=↥⟨.lst,Cr.map Ap⟩)(Mt:H[QW]?=↥⟨.lst,Cr.map Ap⟩):As false (.ref n) (.ref m) H=.ok (.AN false,H):=by
 have BD:∀B:↑↑Cs,Ex 7 (.CW false (B.map Tj))=true:=λB=>by erw[Ex,OI,Pg];intro b _;erw[Pa,Tj,Ex,OI,Pg];exact λr _=>adl 3 r
 have op:Ex 7 (bk ps Cr)=true:=by erw[bk,Ex,VJ,List.all_nil,iU,Hz,OI,Pg];exact⟨λs _=>o4 3 s,λs _=>o4 3 s⟩
 refine aI (ds:=[.CW false (A.map Tj),.CW false (B.map Tj),bk ps Cr]) false Au em ?_ ?_ ?_
 .erw[NL,iW,bG H6,bG GV,oT AV AJ AP];rfl
 .erw[NL,iW,bG zN,bG zO,oT aaH aaR Mt];rfl
 .intro d hd;erw[IF,NI,or_false]at hd;rcases hd with rfl|rfl|rfl
  .exact BD A
  .exact BD B
  .exact op
def wZ{h:A6}{n a b i:Nat}{ps Cr:↑Co}(e:h[n]?=↥⟨.lst,[.ref a,.ref b]⟩)(BS:h[a]?=↥⟨.lst,ps.map Ap⟩)(BE:h[b]?=↥⟨.lst,Cr.map Ap⟩)(B1:⇑ps<=30)(e_:⇑Cr<=30){ρ:BC}(hi:ρ[i]?=↥↥(.ref n)):DZ 1 [] (D_ (I i)) (AC 0) (pu true) (BJ (Aw Dn Γ)) ρ h=.ok (.ref ⇑h,h++[⟨.lst,[.ref (⇑h+1),.ref (⇑h+2)]⟩,⟨.lst,ps.map Ap⟩,⟨.lst,Cr.map Ap⟩]):=by
 have c:=kS (mi:=D_ (I i)) (it:=GC (.ref n)) (g:=AC 0) (e:=BJ (Aw Dn Γ)) (ρ:=ρ) (h:=h) (h0:=h) (nl:=1) (caps:=[]) Gv (λa=>rfl) gE bl [.ref a,.ref b] (λw=>match w with
  |.ref r=>(h[r]?).getD ⟨.lst,[]⟩
  |_=>⟨.lst,[]⟩) (λρ=>∃s,ρ=[s]) γ (Lg e (by rw[v_var,hi];rfl)) ⟨none,rfl⟩ (λj H p _=>Nn (Cx p e) j) (by
   have one:∀{r:Nat}{us:↑Co}{H:A6},h[r]?=↥⟨.lst,us.map Ap⟩->⇑us<=30->h<+: H->BJ (Aw Dn Γ) [↥(.ref r)] H=.ok (.ref ⇑H,H++[(h[r]?).getD ⟨.lst,[]⟩]):=λ{r us H} q l p=>by have lw:Dn [.ref r] H=.ok (.ref ⇑H,H++[⟨.lst,us.map Ap⟩]):=Py (GZ _ (Cx p q)) (by rw[Ch];unfold Ay;lia);erw[FJ,GP,Bn,CJ,v_var,Da,Cf,A3,lw,q,Qx];exact Me H _ rfl (H8 _ _ Ka)
   rintro w hw ρ H ⟨s,rfl⟩ p;erw[IF,NI,or_false]at hw;rcases hw with rfl|rfl
   .exact⟨[↥(.ref a)],γ,⟨_,rfl⟩,one BS B1 p⟩
   .exact⟨[↥(.ref b)],γ,⟨_,rfl⟩,one BE e_ p⟩)
 rw[c];erw[DC,I1,BS,BE,Qx];rfl
section
variable{C:Dc}{P:GH}{G:A6}
def j9(R:EC C G ⟨[],0,[],[],0⟩)(st:G[P.q]?=↥(PR C P 0 0))(Fc:G[P.q+1]?=↥⟨.lst,[.ref P.po,.ref P.C7]⟩)(Bm:G[P.q+2]?=↥⟨.Al [],[]⟩)(Qo:G[P.q+3]?=↥⟨.lst,[]⟩):HB C P G ⟨[],0,[],[],0⟩ (λ_=>0):=
 ⟨R,⟨R.Bf,⟨IC _,γ⟩,st,Fc,Bm,⟨Qo,γ⟩,(λ_ x=>by cases x),(λ_ x=>by cases x),Ss,(λ_ x=>by cases x),(λ_ x=>by cases x),ε,R.AF,(λ_ x=>by cases x),.nil⟩,(λ_ x=>by cases x)⟩
def ah1(c:DK C)(R:EC C G ⟨[],0,[],[],0⟩){ρ:BC}(v:∀H,I 15 ρ H=.ok (.ref C.r,H)):∃H,Iv (A1 Φ (CV "Run" "under" 0 Nr (I 15) A2) (BU A2)) (Iv (A1 Φ (CV "Run" "journal" 0 Nq (I 15) A2) (BU A2)) (A1 Φ (CV "Run" "place" 0 Jv (I 15) A2) η)) ρ G=.ok (.AN true,H):=by
 have E4:∀h:A6,As true (.ref ⇑h) (.ref ⇑(h++[(⟨.lst,[]⟩:O)])) (h++[⟨.lst,[]⟩]++[⟨.lst,[]⟩])=.ok (.AN true,h++[⟨.lst,[]⟩]++[⟨.lst,[]⟩]):=λh=>aI (us:=[]) (vs:=[]) (ds:=[]) true (C6 _ (by rw[Fx];rfl) _) (by rw[Fx];rfl) rfl rfl (λ_ x=>by cases x);have Cp:∀h:A6,BU A2 ρ h=.ok (.ref ⇑h,h++[⟨.lst,[]⟩]):=λh=>by rw[JL,CJ,A3,Gu _ γ]
 have u:CV "Run" "under" 0 Nr (I 15) A2 ρ G=.ok (.ref ⇑G,G++[⟨.lst,[]⟩]):=Nt (h1:=G) (v _) R.B5 rfl (rV c R);obtain⟨H,CG⟩:∃H,H=G++[⟨.lst,[]⟩]++[⟨.lst,[]⟩]:=ο;have H2:EC C H ⟨[],0,[],[],0⟩:=by rw[CG];exact(R.app _).app _
 have j:CV "Run" "journal" 0 Nq (I 15) A2 ρ H=.ok (.ref ⇑H,H++[⟨.lst,[]⟩]):=Nt (h1:=H) (v _) H2.B5 rfl (mZ c H2 ε);have FQ:=E4 H;obtain⟨AU,kp⟩:∃AU,AU=H++[⟨.lst,[]⟩]++[⟨.lst,[]⟩]:=ο;have F0:EC C AU ⟨[],0,[],[],0⟩:=by rw[kp];exact(H2.app _).app _
 have p:CV "Run" "place" 0 Jv (I 15) A2 ρ AU=.ok (.int 0,AU):=Nt (h1:=AU) (v _) F0.B5 rfl (ft F0);refine⟨AU,?_⟩;rw[sk,BQ,u,A3,Cp,A3,E4,A3,Hn,A3,if_pos rfl,<-CG,sk,BQ,j,A3,Cp,A3,FQ,A3,Hn,A3,if_pos rfl,<-kp,BQ,p,A3,Bk,A3,Xf];rfl
end
def Db.pre{h g:A6}{b:Nat}{B:↑↑Cs}(x:Db h b B)(p:h<+: g):Db g b B:=by obtain⟨r,rfl⟩:=p;exact x.more r
def Hj.pre{h g:A6}{b:Nat}{cs:↑Nat}{ws:ν}(x:Hj h b cs ws)(p:h<+: g):Hj g b cs ws:=by obtain⟨r,rfl⟩:=p;exact x.more r
def mH{C:Dc}{X:A6}{q po C7 pp ou:Nat}(low:∀n,n< ⇑X->C.K[n]?=X[n]?)(w:X[1]?=↥⟨.lst,C.ws.map CH⟩)(a:Db X po C.A)(b:Db X C7 C.B)(p:X[pp]?=↥⟨.lst,C.ps.map Ap⟩)(o:X[ou]?=↥⟨.lst,(outD C).map AY⟩)(ne:outD C≠[])(t:q+4<=C.T)(g:C.M+3<=q):PB C ⟨q,1,po,C7,pp⟩ ou:=
 ⟨⟨(low _ (Eu w)).trans w,a.to low,b.to low,(low _ (Eu p)).trans p,t,g⟩,(low _ (Eu o)).trans o,ne⟩
def n2{C:Dc}{G:A6}{M n:Nat}{ds:↑Nat}(e:C.K=JA G M ds)(k:RU C n):n<M/\n∉ds:=by obtain⟨k1,k2⟩:=k;rw[e]at k1 k2;rw[ew]at k1;refine⟨k1,λz=>k2 ?_⟩;rw[bx k1,if_pos z]
structure Pz(C Br:Dc)(P DY:GH):Prop where
 a:C.r<C.M
 b:Br.r=C.M+3
 c:Br.r<Br.M
 d:Br.M+3<=P.q
 e:P.q+4<=DY.q
def ai3{C Br:Dc}{P DY:GH}{G:A6}{ds ds':↑Nat}(d:Pz C Br P DY)(t:C.T=Br.T)(AD:C.K=JA G C.M ds)(AH:Br.K=JA G Br.M ds')(m:∀n,n=C.r\/n=C.M\/n=C.M+1\/n=C.M+2->n∈ds'):Q8 C Br P DY:=by
 obtain⟨a,b,c,d,e⟩:=d;refine⟨t,λn AM=>⟨λz=>?_,λz=>?_⟩,λn AM=>⟨λz=>?_,λz=>?_⟩⟩
 .unfold Fix at AM z;lia
 .obtain⟨x,y⟩:=n2 AH z;unfold Fix at AM;exact y (m n δ)
 .unfold Fix at AM z;lia
 .have:=(n2 AD z).1;unfold Fix at AM;lia
def gS{C Br:Dc}{P DY:GH}(d:Pz C Br P DY){n:Nat}(h:(Br.M+3<=n/\n<P.q)\/DY.q+4<=n):¬Fix C P n/\¬Fix Br DY n:=by obtain⟨a,b,c,d,e⟩:=d;unfold Fix;lia
def ah0{cs:↑Nat}{ws:ν}{A B:↑↑Cs}{ps:↑Co}{h:A6}{Ro Ut po C7 pp:Nat}{w:W}(N:K3 cs ws)(HY:HC cs A)(HN:HC cs B)(P:Q5 ⇑cs ps)(Ra:Hj h Ut cs ws)(H6:Db h po A)(GV:Db h C7 B)(AV:h[pp]?=↥⟨.lst,ps.map Ap⟩)(AF:h[Ro]?=↥⟨.lst,[.ref pp,w]⟩){σ :Option W->BC}(ajY:∀h',I 3 (σ none) h'=.ok (.ref po,h'))(ajZ:∀h',I 4 (σ none) h'=.ok (.ref C7,h'))(aj_:∀h',I 6 (σ none) h'=.ok (.ref Ro,h'))(gw:∀h',I 7 (σ none) h'=.ok (.ref Ut,h'))(ajX:∀w h',I 15 (σ ↥w) h'=.ok (w,h'))(st:∀w h',AC 15 w (σ none) h'=.ok (.AT (σ ↥w),h')) :
  ∃H,AO (AZ (HW "Run" 4 Ju (A0 (I 7) (A0 XL (A0 Cl (A0 (A1 A8 (I 6) η) A2))))) (AC 15)) (B7 (Iv (A1 Φ (CV "Run" "under" 0 Nr (I 15) A2) (BU A2)) (Iv (A1 Φ (CV "Run" "journal" 0 Nq (I 15) A2) (BU A2)) (A1 Φ (CV "Run" "place" 0 Jv (I 15) A2) η)))) (σ none) h=.ok (.EX (.AN true),H):=by
 have fh:=fg N HN HY P Ra GV H6 AV;obtain⟨Z,cJ⟩:∃Z,Z=Ke h cs ws B A ps:=ο;have fh:Ju [.ref ⇑h,.ref Ut,.ref C7,.ref po,.ref pp] (h++[⟨.ins "Run" [],[]⟩])=.ok (.non,Z):=by rw[cJ];exact fh
 obtain⟨vt,vG⟩:=ed (h:=h) (G:=Z) (T:=⇑h+8+⇑B+⇑A+3) (ds:=[⇑h]) (λn _ _=>by rw[cJ]) (List.mem_singleton.mpr rfl) (λn AM=>ZK (List.mem_singleton.mp AM)) (C1 _) (by rw[cJ,g5];exact C1 _) N HN HY P;have Eo:A8 (.ref Ro) (.int 0) h=.ok (.ref pp,h):=E2 (k:=0) AF rfl;have mk:HW "Run" 4 Ju (A0 (I 7) (A0 XL (A0 Cl (A0 (A1 A8 (I 6) η) A2)))) (σ none) h=.ok (.ref ⇑h,Z):=by refine UH (us:=[.ref Ut,.ref C7,.ref po,.ref pp]) (h1:=h) ?_ rfl fh;erw[Bn,CJ,BQ,ajY,ajZ,aj_,gw,Bk,A3,Eo]
 obtain⟨jX,DT⟩:=ah1 vt vG (ρ:= σ χ) (ajX _);exact⟨jX,by rw[B2,Dr,mk,A3,st,A3,B9,Gb,DT];rfl⟩
def abT{ns:↑Int}(AF:⇑ns<=63):Ends (mK [.Dm (BI ns)] []) λw _=>w=.AN true:=by
 obtain⟨cs,ws,po,C7,A,B,C4,⟨By,O6⟩,N,⟨T8,yt,yu⟩,HY,HN,akF,sY,gz,Kv,MC,BS⟩:=vW AF;have c3:=HY.1;have WG:=HN.1;obtain⟨Q3,b8⟩:∃Q3,Q3=(DF cs ⇑cs).filter λd=>(Eg ws d).isNone:=ο;have Fw:=adZ N sY gz;rw[<-b8]at Fw;obtain⟨ou,dn⟩:∃ou,ou=⇑C4:=ο;obtain⟨Dd,Za⟩:∃Dd:A6,Dd=C4++[⟨.lst,Q3.map AY⟩]:=ο;rw[<-Za,<-dn]at Fw;have Bq:⇑Dd=ou+1:=by rw[Za,dn];simp
 have gZ:C4<+: Dd:=by rw[Za];exact Ez _ _
 have Xv:Dd[ou]?=↥⟨.lst,Q3.map AY⟩:=by rw[Za,dn,Fx];rfl
 have as:∀{m:BB}{k:Nat}{xs ys:↑Nat}{x:Nat}{h h':A6},m (G3 ns xs) h=.ok (.ref x,h')->AC k (.ref x) (G3 ns xs) h'=.ok (.AT (G3 ns ys),h')->AZ m (AC k) (G3 ns xs) h=.ok (.AT (G3 ns ys),h'):=λ{m k xs ys x h h'} a b=>by rw[Dr,a];exact b
 have t1:M0 (Aj 1 S5 Γ) (Ei [(AC 1),(AC 2),(AC 3),(AC 4)]) (G3 ns []) []=.ok (.AT (G3 ns [0,1,po,C7]),C4):=by have q:Aj 1 S5 Γ (G3 ns []) []=.ok (.tup [.ref 0,.ref 1,.ref po,.ref C7],C4):=J5 (us:=[.Dm (BI ns)]) (h1:=[]) rfl rfl BS;obtain⟨ρ,CY⟩:∃ρ,ρ=G3 ns []:=ο;rw[<-CY]at q |-;erw[sl,q,A3];rw[CY];rfl
 have CK:AZ (Aj 2 XR (A0 Ψ ω)) (AC 5) (G3 ns [0,1,po,C7]) C4=.ok (.AT (G3 ns [0,1,po,C7,ou]),Dd):=as (J5 (us:=[.ref 0,.ref 1]) (h1:=C4) rfl rfl Fw) rfl;have h3:=Cx gZ sY;have ajc:=Cx gZ gz;obtain⟨ps,dO,B1,Ao⟩:=nc (ns:=ns) (lo:=10) (hi:=14) δ δ O6 (h:=Dd) (ρ:=G3 ns [0,1,po,C7,ou]) rfl rfl h3;obtain⟨Cr,jQ,e_,eq⟩:=nc (ns:=ns) (lo:=13) (hi:=18) δ δ O6 (h:=Dd++[⟨.lst,ps.map Ap⟩]) (ρ:=G3 ns [0,1,po,C7,ou]) rfl rfl (C6 _ h3 _);obtain⟨EN,TU⟩:∃EN:A6,EN=Dd++[⟨.lst,ps.map Ap⟩,⟨.lst,Cr.map Ap⟩,⟨.lst,[.ref (ou+1),.ref (ou+2)]⟩]:=ο;have Zg:⇑EN=ou+4:=by rw[TU];simp[Bq]
 have X6:Dd<+: EN:=by rw[TU];exact Ez _ _
 have Y9:EN[ou+1]?=↥⟨.lst,ps.map Ap⟩:=by rw[TU,<-Bq,Fx];rfl
 have h4:EN[ou+2]?=↥⟨.lst,Cr.map Ap⟩:=by rw[TU,show ou+2=⇑Dd+1 by lia,Im];rfl
 have Uv:EN[ou+3]?=↥⟨.lst,[.ref (ou+1),.ref (ou+2)]⟩:=by rw[TU,show ou+3=⇑Dd+2 by lia,Im];rfl
 have k5:BJ (BU (A0 (BJ (Aj 2 N1 (A0 (BJ (D9 π (CC (pu (.int (10:Nat)))) (CC (pu (.int (14:Nat)))))) (A0 (Aw BZ υ) A2)))) (A0 (BJ (Aj 2 N1 (A0 (BJ (D9 π (CC (pu (.int (13:Nat)))) (CC (pu (.int (18:Nat)))))) (A0 (Aw BZ υ) A2)))) A2))) (G3 ns [0,1,po,C7,ou]) Dd=.ok (.ref (ou+3),EN):=by
  rw[FJ,JL,Bn,Ao,A3,Bn,eq,A3,CJ,A3,A3,A3,Gu _ (by simp[Ay]),A3];have:⇑(Dd++[⟨.lst,ps.map Ap⟩]++[⟨.lst,Cr.map Ap⟩]:A6)=ou+3:=by simp[Bq]
  have Cp:⇑(Dd++[⟨.lst,ps.map Ap⟩]:A6)=ou+2:=by simp[Bq]
  rw[this,Cp,Bq,ET,ET];have e:Dd++([⟨.lst,ps.map Ap⟩]++([⟨.lst,Cr.map Ap⟩]++[⟨.lst,[.ref (ou+1),.ref (ou+2)]⟩]))=EN:=by rw[TU];rfl
  rw[e];exact sG X6 δ Uv rfl
 have t3:=as (k:=6) (ys:=[0,1,po,C7,ou,ou+3]) k5 rfl;have few:=N.few;have q1:Dn [.ref 0] EN=.ok (.ref (ou+4),EN++[⟨.lst,Bi cs⟩]):=by rw[Py (GZ _ (Cx X6 h3)) (by simp[Bi,Ay];lia),Zg]
 have q2:Dn [.ref 1] (EN++[⟨.lst,Bi cs⟩])=.ok (.ref (ou+5),EN++[⟨.lst,Bi cs⟩]++[⟨.lst,ws.map CH⟩]):=by rw[Py (GZ _ (C6 _ (Cx X6 ajc) _)) (by simp[Ay];lia),EM,Zg];rfl
 obtain⟨G,Va⟩:∃G:A6,G=EN++[⟨.lst,Bi cs⟩]++[⟨.lst,ws.map CH⟩]:=ο;rw[<-Va]at q2;have dI:⇑G=ou+6:=by rw[Va];simp[Zg]
 have nm:=ng N (h:=G) (a:=ou+4) (b:=ou+5) (by rw[Va,<-Zg];exact C6 _ (Fx EN _) _) (by rw[Va,ET,show ou+5=⇑EN+1 by lia,Im];rfl);obtain⟨Fj,V_⟩:∃Fj:A6,Fj=G++[N3 cs ws (⇑G+1),Hq ws]:=ο;rw[<-V_]at nm;have dF:⇑Fj=ou+8:=by rw[V_];simp[dI]
 have Qh:EN<+: Fj:=by rw[V_,Va];exact GE (GE (Ez _ _) _) _
 have Ra:Hj Fj (ou+6) cs ws:=by
  refine⟨⇑G+1,?_,?_⟩
  .rw[V_,<-dI,Fx];rfl
  .rw[V_,Im];rfl
 have hF:AZ (HW "Net" 2 OV (A0 (Aw Dn υ) (A0 (Aw Dn ω) A2))) (AC 7) (G3 ns [0,1,po,C7,ou,ou+3]) EN=.ok (.AT (G3 ns [0,1,po,C7,ou,ou+3,ou+6]),Fj):=by
  have v1:∀h',I 1 (G3 ns [0,1,po,C7,ou,ou+3]) h'=.ok (.ref 0,h'):=λ_=>rfl;have v2:∀h',I 2 (G3 ns [0,1,po,C7,ou,ou+3]) h'=.ok (.ref 1,h'):=λ_=>rfl;have mT:HW "Net" 2 OV (A0 (Aw Dn υ) (A0 (Aw Dn ω) A2)) (G3 ns [0,1,po,C7,ou,ou+3]) EN=.ok (.ref ⇑G,Fj):=by refine UH (us:=[.ref (ou+4),.ref (ou+5)]) (h1:=G) ?_ rfl nm;rw[Bn,GP,Bn,v1,A3,CJ,A3,A3,q1,A3,Bn,GP,Bn,v2,A3,CJ,A3,A3,q2,A3,CJ,A3,A3]
  rw[dI]at mT;exact as mT rfl
 have Nw:C4<+: Fj:=gZ.trans (X6.trans Qh);obtain⟨a1,eV⟩:∃a1,a1=ou+8:=ο;obtain⟨a2,al1⟩:∃a2,a2=a1+(⇑A+1):=ο;obtain⟨CF,vn⟩:∃CF,CF=a2+(⇑B+1):=ο;have k1:=eL (i:=3) O6 HY (Kv.pre Nw) (ρ:=G3 ns [0,1,po,C7,ou,ou+3,ou+6]) rfl;rw[dF,<-eV]at k1;have k2:=eL (i:=4) O6 HN ((MC.pre Nw).more (G6 a1 A)) (ρ:=G3 ns [0,1,po,C7,ou,ou+3,ou+6]) rfl;have Zh:⇑(Fj++G6 a1 A)=a2:=by rw[EM,MD];lia
 rw[Zh]at k2;obtain⟨X,Rf⟩:∃X:A6,X=Fj++G6 a1 A++G6 a2 B:=ο;have RV:⇑X=CF:=by rw[Rf,EM,Zh,MD,vn]
 rw[<-Rf]at k2;have nN:Fj<+: X:=by rw[Rf];exact GE (Ez _ _) _
 have g_:=Qh.trans nN;have k3:=wZ (i:=6) (Cx g_ Uv) (Cx g_ Y9) (Cx g_ h4) B1 e_ (ρ:=G3 ns [0,1,po,C7,ou,ou+3,ou+6]) rfl;rw[RV]at k3;obtain⟨CZ,RO⟩:∃CZ:A6,CZ=X++[⟨.lst,[.ref (CF+1),.ref (CF+2)]⟩,⟨.lst,ps.map Ap⟩,⟨.lst,Cr.map Ap⟩,⟨.lst,[.ref a1,.ref a2,.ref CF]⟩]:=ο;have akG:⇑CZ=CF+4:=by rw[RO];simp[RV]
 have X8:X<+: CZ:=by rw[RO];exact Ez _ _
 have X7:Fj<+: CZ:=nN.trans X8;have YB:CZ[CF]?=↥⟨.lst,[.ref (CF+1),.ref (CF+2)]⟩:=by rw[RO,<-RV,Fx];rfl
 have h5:CZ[CF+1]?=↥⟨.lst,ps.map Ap⟩:=by rw[RO,<-RV,Im];rfl
 have sf:CZ[CF+2]?=↥⟨.lst,Cr.map Ap⟩:=by rw[RO,<-RV,Im];rfl
 have Uw:CZ[CF+3]?=↥⟨.lst,[.ref a1,.ref a2,.ref CF]⟩:=by rw[RO,<-RV,Im];rfl
 have Mf:AZ (BJ (BU (A0 (DZ 1 [] (D_ Cl) (AC 0) (pu true) (BJ (Aw Dn Γ))) (A0 (DZ 1 [] (D_ XL) (AC 0) (pu true) (BJ (Aw Dn Γ))) (A0 (DZ 1 [] (D_ (I 6)) (AC 0) (pu true) (BJ (Aw Dn Γ))) A2))))) (AC 8) (G3 ns [0,1,po,C7,ou,ou+3,ou+6]) Fj=.ok (.AT (G3 ns [0,1,po,C7,ou,ou+3,ou+6,CF+3]),CZ):=by
  refine as ?_ rfl;rw[FJ,JL,Bn,k1,A3,Bn,k2,A3,Bn,k3,A3,CJ,A3,A3,A3,A3,Gu _ (by simp[Ay]),A3];have:⇑(X++[⟨.lst,[.ref (CF+1),.ref (CF+2)]⟩,⟨.lst,ps.map Ap⟩,⟨.lst,Cr.map Ap⟩]:A6)=CF+3:=by simp[RV]
  rw[this,ET];have e:X++([⟨.lst,[.ref (CF+1),.ref (CF+2)]⟩,⟨.lst,ps.map Ap⟩,⟨.lst,Cr.map Ap⟩]++[⟨.lst,[.ref a1,.ref a2,.ref CF]⟩])=CZ:=by rw[RO];rfl
  rw[e];exact sG X7 δ Uw rfl
 have cj:Db CZ a1 A:=by have b:=jI (B:=A) Fj;rw[dF,<-eV]at b;exact b.pre ((by rw[Rf];exact Ez _ _:Fj++G6 a1 A<+: X).trans X8)
 have ck:Db CZ a2 B:=by have b:=jI (B:=B) (Fj++G6 a1 A);rw[Zh,<-Rf]at b;exact b.pre X8
 have ie:=Ra.pre X7;have gG:=fg N HY HN dO ie cj ck h5;obtain⟨FV,Zb⟩:∃FV,FV=Ke CZ cs ws A B ps:=ο;have gG:Ju [.ref ⇑CZ,.ref (ou+6),.ref a1,.ref a2,.ref (CF+1)] (CZ++[⟨.ins "Run" [],[]⟩])=.ok (.non,FV):=by rw[Zb];exact gG
 have SB:CZ<+: FV:=by rw[Zb];exact Ez _ _
 have dH:⇑FV=⇑CZ+8+⇑A+⇑B+3:=by rw[Zb];exact g5 CZ
 have I3:=fg N HN HY jQ (ie.pre SB) (ck.pre SB) (cj.pre SB) (Cx SB sf);obtain⟨HE,Zc⟩:∃HE,HE=Ke FV cs ws B A Cr:=ο;have I3:Ju [.ref ⇑FV,.ref (ou+6),.ref a2,.ref a1,.ref (CF+2)] (FV++[⟨.ins "Run" [],[]⟩])=.ok (.non,HE):=by rw[Zc];exact I3
 have bi:FV<+: HE:=by rw[Zc];exact Ez _ _
 have ib:⇑HE=⇑FV+8+⇑B+⇑A+3:=by rw[Zc];exact g5 FV
 obtain⟨F9,a7⟩:∃F9:A6,F9=HE++[⟨.lst,[.ref ⇑CZ,.ref ⇑FV]⟩]:=ο;have X5:HE<+: F9:=by rw[a7];exact Ez _ _
 have uH:F9.length=⇑HE+1:=by rw[a7];simp
 have ajb:F9[⇑HE]?=↥⟨.lst,[.ref ⇑CZ,.ref ⇑FV]⟩:=by rw[a7,Fx];rfl
 obtain⟨YG,dw⟩:∃ρ,ρ=G3 ns [0,1,po,C7,ou,ou+3,ou+6,CF+3]:=ο;have Kh:AZ (BU (A0 (HW "Run" 4 Ju (A0 (I 7) (A0 (A1 A8 (I 8) η) (A0 (A1 A8 (I 8) ζ) (A0 (A1 A8 (A1 A8 (I 8) τ) η) A2))))) (A0 (HW "Run" 4 Ju (A0 (I 7) (A0 (A1 A8 (I 8) ζ) (A0 (A1 A8 (I 8) η) (A0 (A1 A8 (A1 A8 (I 8) τ) ζ) A2))))) A2))) (AC 9) (G3 ns [0,1,po,C7,ou,ou+3,ou+6,CF+3]) CZ=.ok (.AT (G3 ns [0,1,po,C7,ou,ou+3,ou+6,CF+3,⇑HE]),F9):=by
  refine as ?_ rfl;rw[<-dw];have si:∀h',I 7 YG h'=.ok (.ref (ou+6),h'):=by rw[dw];exact λ_=>rfl
  have Rj:∀h',I 8 YG h'=.ok (.ref (CF+3),h'):=by rw[dw];exact λ_=>rfl
  have EP:∀{h:A6},CZ<+: h->A8 (.ref (CF+3)) (.int 0) h=.ok (.ref a1,h)/\A8 (.ref (CF+3)) (.int 1) h=.ok (.ref a2,h)/\A8 (.ref (CF+3)) (.int 2) h=.ok (.ref CF,h)/\A8 (.ref CF) (.int 0) h=.ok (.ref (CF+1),h)/\A8 (.ref CF) (.int 1) h=.ok (.ref (CF+2),h):=λp=>⟨E2 (k:=0) (Cx p Uw) rfl,E2 (k:=1) (Cx p Uw) rfl,E2 (k:=2) (Cx p Uw) rfl,E2 (k:=0) (Cx p YB) rfl,E2 (k:=1) (Cx p YB) rfl⟩;obtain⟨Eo,Cb,FO,zk,_⟩:=EP (List.prefix_refl CZ);obtain⟨et,J8,JY,_,aal⟩:=EP SB;have GX:HW "Run" 4 Ju (A0 (I 7) (A0 (A1 A8 (I 8) η) (A0 (A1 A8 (I 8) ζ) (A0 (A1 A8 (A1 A8 (I 8) τ) η) A2)))) YG CZ=.ok (.ref ⇑CZ,FV):=by refine UH (us:=[.ref (ou+6),.ref a1,.ref a2,.ref (CF+1)]) (h1:=CZ) ?_ rfl gG;erw[Bn,CJ,BQ,si,Rj,Bk,A3,Eo,Cb,FO,zk]
  have GY:HW "Run" 4 Ju (A0 (I 7) (A0 (A1 A8 (I 8) ζ) (A0 (A1 A8 (I 8) η) (A0 (A1 A8 (A1 A8 (I 8) τ) ζ) A2)))) YG FV=.ok (.ref ⇑FV,HE):=by refine UH (us:=[.ref (ou+6),.ref a2,.ref a1,.ref (CF+2)]) (h1:=FV) ?_ rfl I3;erw[Bn,CJ,BQ,si,Rj,Bk,A3,et,J8,JY,aal]
  rw[JL,Bn,GX,A3,Bn,GY,A3,CJ,A3,A3,A3,Gu _ (by simp[Ay]),<-a7]
 obtain⟨MO,SJ⟩:∃ρ,ρ=G3 ns [0,1,po,C7,ou,ou+3,ou+6,CF+3,⇑HE]:=ο;have Rj:∀h',I 8 MO h'=.ok (.ref (CF+3),h'):=by rw[SJ];exact λ_=>rfl
 have v2:∀h',I 2 MO h'=.ok (.ref 1,h'):=by rw[SJ];exact λ_=>rfl
 have Ri:∀h',I 3 MO h'=.ok (.ref po,h'):=by rw[SJ];exact λ_=>rfl
 have v4:∀h',I 4 MO h'=.ok (.ref C7,h'):=by rw[SJ];exact λ_=>rfl
 have v6:∀h',I 6 MO h'=.ok (.ref (ou+3),h'):=by rw[SJ];exact λ_=>rfl
 have Qi:CZ<+: F9:=SB.trans (bi.trans X5);have nJ:C4<+: CZ:=Nw.trans X7;have bh:EN<+: CZ:=Qh.trans X7;have Um:HX (Aa (A1 (As false) (I 8) (BU (A0 Cl (A0 XL (A0 (I 6) A2)))))) MO F9=.ok (false,F9):=by
  obtain⟨D,Of⟩:∃D:A6,D=F9++[⟨.lst,[.ref po,.ref C7,.ref (ou+3)]⟩]:=ο;have MZ:CZ<+: D:=by rw[Of];exact GE Qi _
  have aje:D[F9.length]?=↥⟨.lst,[.ref po,.ref C7,.ref (ou+3)]⟩:=by rw[Of,Fx];rfl
  have ahN:=aff (Cx MZ Uw) aje (cj.pre MZ) (Kv.pre (nJ.trans MZ)) (ck.pre MZ) (MC.pre (nJ.trans MZ)) (Cx MZ YB) (Cx (bh.trans MZ) Uv) (Cx MZ h5) (Cx (bh.trans MZ) Y9) (Cx MZ sf) (Cx (bh.trans MZ) h4);rw[sq,Hx,BQ,Rj,A3,JL,Bn,Ri,A3,Bn,v4,A3,Bn,v6,A3,CJ,A3,A3,A3,A3,Gu _ (by simp[Ay]),A3,<-Of,ahN,A3,Hn,A3];rw[if_pos (Kc (by rw[Of];exact Ez _ _))]
 have sb:=Cx Qi Uw;have ajj:=Cx Qi YB;have ajl:=Cx Qi h5;have nK:Fj++G6 a1 A<+: F9:=((by rw[Rf];exact Ez _ _:Fj++G6 a1 A<+: X).trans X8).trans Qi;have ajg:F9[a1]?=↥⟨.lst,Gv (a1+1) ⇑A⟩:=Cx nK (by rw[eV,<-dF,Fx];rfl);obtain⟨Vz,vm,ak_⟩:∃Vz,(G6 a1 A)[1]?=↥(FX Vz)/\ ⇑Vz<=12:=by
  cases L_:A with
  |nil=>rw[L_]at c3;simp at c3;lia
  |cons x r=>have:=(HY.2 0 δ).1;rw[L_]at this;exact⟨x,rfl,this⟩
 have s_:F9[a1+1]?=↥⟨.lst,Vz.map EK⟩:=Cx nK (by rw[show a1+1=⇑Fj+1 by lia,Im];exact vm);have ajh:F9[a2]?=↥⟨.lst,Gv (a2+1) ⇑B⟩:=by refine Cx (X8.trans Qi) ?_;rw[Rf,<-Zh,Fx];rfl
 obtain⟨sU,x_⟩:∃w:W,w=.tup [.str (AL "xxxx"),.non,.non]:=ο;obtain⟨P8,RR⟩:∃BH:A6,BH=F9.set (a1+1) ⟨.lst,sU::Vz.map EK⟩:=⟨_,rfl⟩;have GF:DI UX (A1 A8 (A1 A8 (I 8) η) η) (A0 η (A0 (BX (A0 (pu (.str (AL "xxxx"))) (A0 Ty (A0 Ty A2)))) A2)) MO F9=.ok (.non,P8):=by rw[RR];have Eo:A8 (.ref (CF+3)) (.int 0) F9=.ok (.ref a1,F9):=E2 (k:=0) sb rfl;have Cb:A8 (.ref a1) (.int 0) F9=.ok (.ref (a1+1),F9):=E2 (k:=0) ajg (by rw[ag0 δ]);exact JB (us:=[.int 0,sU]) (h1:=F9) (h2:=F9) (by rw[BQ,BQ,Rj,A3,Bk,A3,Eo,A3,Bk,A3,Cb]) s_ (by rw[x_];rfl) s_ (by simp[UX]) (by simp[Ay];lia)
 have sa:P8[CF+3]?=↥⟨.lst,[.ref a1,.ref a2,.ref CF]⟩:=by rw[RR,EL δ];exact sb
 have Xu:P8[a2]?=↥⟨.lst,Gv (a2+1) ⇑B⟩:=by rw[RR,EL δ];exact ajh
 obtain⟨M7,H0⟩:∃BH:A6,BH=P8.set a2 ⟨.lst,(Gv (a2+1) ⇑B).reverse⟩:=⟨_,rfl⟩;have Gh:DI XJ (A1 A8 (I 8) ζ) A2 MO P8=.ok (.non,M7):=by rw[H0];have Eo:A8 (.ref (CF+3)) (.int 1) P8=.ok (.ref a2,P8):=E2 (k:=1) sa rfl;exact JB (us:=[]) (h1:=P8) (h2:=P8) (by rw[BQ,Rj,A3,Bk,A3,Eo]) Xu rfl Xu rfl (by rw[List.length_reverse,bl];unfold Ay;lia)
 have aji:M7[CF+3]?=↥⟨.lst,[.ref a1,.ref a2,.ref CF]⟩:=by rw[H0,EL δ];exact sa
 have ajk:M7[CF]?=↥⟨.lst,[.ref (CF+1),.ref (CF+2)]⟩:=by rw[H0,EL δ,RR,EL δ];exact ajj
 have se:M7[CF+1]?=↥⟨.lst,ps.map Ap⟩:=by rw[H0,EL δ,RR,EL δ];exact ajl
 obtain⟨Go,cK⟩:∃BH:A6,BH=M7.set (CF+1) ⟨.lst,[]⟩:=⟨_,rfl⟩;have Rl:DI Vu (A1 A8 (A1 A8 (I 8) τ) η) A2 MO M7=.ok (.non,Go):=by rw[cK];have Eo:A8 (.ref (CF+3)) (.int 2) M7=.ok (.ref CF,M7):=E2 (k:=2) aji rfl;have Cb:A8 (.ref CF) (.int 0) M7=.ok (.ref (CF+1),M7):=E2 (k:=0) ajk rfl;exact JB (us:=[]) (h1:=M7) (h2:=M7) (by rw[BQ,BQ,Rj,A3,Bk,A3,Eo,A3,Bk,A3,Cb]) se rfl se rfl ε
 have akH:⇑Go=F9.length:=by rw[cK,H0,RR];simp
 have keep:∀n,n≠a1+1->n≠a2->n≠CF+1->Go[n]?=F9[n]?:=λn Cu Ca Ed=>by rw[cK,EL (λz=>Ed z.symm),H0,EL (λz=>Ca z.symm),RR,EL (λz=>Cu z.symm)]
 obtain⟨u,FZ⟩:∃u:Nat->Nat,u=λi=>[0,0,1,po,C7,0,ou+3,ou+6,CF+3].getD i 0:=ο;obtain⟨Dx,dp⟩:∃Dx,Dx=⇑Go:=ο;have G5:=jA Go 1 po C7 (ou+1);rw[<-dp]at G5;obtain⟨Hf,TB⟩:∃g:A6,g=[⟨.Al PO,[.ref 1,.ref (Dx+1),.ref (ou+1),.int 0,.ref (Dx+2),.int 0,.ref (Dx+3)]⟩,⟨.lst,[.ref po,.ref C7]⟩,⟨.Al [],[]⟩,⟨.lst,[]⟩]:=ο;rw[<-TB]at G5;have ad7:⇑Hf=4:=by rw[TB];rfl
 have Cw:=jA (Go++Hf) 1 C7 po (ou+2);have dE:⇑(Go++Hf)=Dx+4:=by rw[EM,ad7,dp]
 rw[dE]at Cw;obtain⟨g1,TC⟩:∃g:A6,g=[⟨.Al PO,[.ref 1,.ref (Dx+4+1),.ref (ou+2),.int 0,.ref (Dx+4+2),.int 0,.ref (Dx+4+3)]⟩,⟨.lst,[.ref C7,.ref po]⟩,⟨.Al [],[]⟩,⟨.lst,[]⟩]:=ο;rw[<-TC]at Cw;have ad8:⇑g1=4:=by rw[TC];rfl
 obtain⟨Zf,TW⟩:∃BH:A6,BH=Go++Hf++g1++[⟨.lst,[.ref Dx,.ref (Dx+4)]⟩]:=ο;have dD:⇑(Go++Hf++g1)=Dx+8:=by rw[EM,dE,ad8]
 have dG:⇑Zf=Dx+9:=by rw[TW,EM,dD];rfl
 have alo:∀n,n≠a1+1->n≠a2->n≠CF+1->n<F9.length->Go[n]?=F9[n]?:=λn Cu Ca Ed _=>keep n Cu Ca Ed;have sZ:∀{n:Nat}{o:O},EN[n]?=↥o->Go[n]?=↥o:=λ{n o} e=>by have:=Eu e;rw[keep n δ δ δ];exact Cx (bh.trans Qi) e
 have agt:AZ (BU (A0 (Aj 4 OW (A0 ac (A0 Cl (A0 XL (A0 (A1 A8 (I 6) η) A2))))) (A0 (Aj 4 OW (A0 ac (A0 XL (A0 Cl (A0 (A1 A8 (I 6) ζ) A2))))) A2))) (AC 10) MO Go=.ok (.AT (GI ns u ou ⇑HE (Dx+8) none none none none none),Zf):=by have Eo:A8 (.ref (ou+3)) (.int 0) Go=.ok (.ref (ou+1),Go):=E2 (k:=0) (sZ Uv) rfl;have Cb:A8 (.ref (ou+3)) (.int 1) (Go++Hf)=.ok (.ref (ou+2),Go++Hf):=E2 (k:=1) (C6 _ (sZ Uv) _) rfl;have By:Aj 4 OW (A0 ac (A0 Cl (A0 XL (A0 (A1 A8 (I 6) η) A2)))) MO Go=.ok (.ref Dx,Go++Hf):=J5 (us:=[.ref 1,.ref po,.ref C7,.ref (ou+1)]) (h1:=Go) (by erw[Bn,CJ,BQ,v2,Ri,v4,v6,Bk,A3,Eo]) rfl G5;have Cz:Aj 4 OW (A0 ac (A0 XL (A0 Cl (A0 (A1 A8 (I 6) ζ) A2)))) MO (Go++Hf)=.ok (.ref (Dx+4),Go++Hf++g1):=J5 (us:=[.ref 1,.ref C7,.ref po,.ref (ou+2)]) (h1:=Go++Hf) (by erw[Bn,CJ,BQ,v2,Ri,v4,v6,Bk,A3,Cb]) rfl Cw;rw[Dr,JL,Bn,By,A3,Bn,Cz,A3,CJ,A3,A3,A3,Gu _ (by simp[Ay]),A3,dD,<-TW,SJ,FZ];rfl
 obtain⟨cells,lcs,ec⟩:=wR AF (ρ:=GI ns u ou ⇑HE (Dx+8) none none none none none) (h:=Zf) rfl;obtain⟨K,RP⟩:∃K:A6,K=Zf++[⟨.lst,BI cells⟩]:=ο;rw[<-RP,dG]at ec;have uI:⇑K=Dx+10:=by rw[RP,EM,dG];rfl
 have ada:Go<+: K:=by rw[RP,TW];exact GE (GE (GE (Ez _ _) _) _) _
 have FG:∀n,n<F9.length->n≠a1+1->n≠a2->n≠CF+1->K[n]?=F9[n]?:=λn AM Cu Ca Ed=>by obtain⟨r,B5⟩:=ada;rw[<-B5,GR δ,keep n Cu Ca Ed]
 have eu:∀n,⇑CZ<=n->n<F9.length->K[n]?=F9[n]?:=λn a b=>FG n b δ δ δ;have c0:∀i o,Hf[i]?=↥o->K[Dx+i]?=↥o:=λi o e=>by
  have:(Go++Hf)[Dx+i]?=↥o:=by rw[dp,Im];exact e
  exact Cx (by rw[RP,TW];exact GE (GE (Ez _ _) _) _) this
 have c1:∀i o,g1[i]?=↥o->K[Dx+4+i]?=↥o:=λi o e=>by
  have:(Go++Hf++g1)[Dx+4+i]?=↥o:=by rw[<-dE,Im];exact e
  exact Cx (by rw[RP,TW];exact GE (Ez _ _) _) this
 have n4:⇑CZ<=⇑FV:=SB.length_le;have abz:⇑FV<=⇑HE:=bi.length_le;have WE:K[⇑HE]?=↥⟨.lst,[.ref ⇑CZ,.ref ⇑FV]⟩:=by rw[eu _ (IG n4 abz) (VB (Pf _) uH.symm)];exact ajb
 have abv:K[Dx+8]?=↥⟨.lst,[.ref Dx,.ref (Dx+4)]⟩:=by rw[RP];refine C6 _ ?_ _;rw[TW,<-dD,Fx];rfl
 have kc:K[Dx+9]?=↥⟨.lst,BI cells⟩:=by rw[RP,<-dG,Fx];rfl
 have x0:∀n,⇑CZ<=n->n< ⇑CZ+8+⇑A+⇑B+3->K[n]?=(Ke CZ cs ws A B ps)[n]?:=λn a b=>by rw[eu n a (GG (VB b dH.symm) (bi.trans X5).length_le),<-Zb];obtain⟨r,B5⟩:=bi.trans X5;rw[<-B5,GR (VB b dH.symm)]
 have Cu:∀n,⇑FV<=n->n< ⇑FV+8+⇑B+⇑A+3->K[n]?=(Ke FV cs ws B A Cr)[n]?:=λn a b=>by rw[eu n (IG n4 a) (GG (VB b ib.symm) X5.length_le),<-Zc];obtain⟨r,B5⟩:=X5;rw[<-B5,GR (VB b ib.symm)]
 obtain⟨VT,vq⟩:∃ds,ds=[⇑CZ]:=ο;obtain⟨F2,wI⟩:∃ds,ds=[⇑CZ,⇑CZ+8+⇑A+⇑B,⇑CZ+8+⇑A+⇑B+1,⇑CZ+8+⇑A+⇑B+2,⇑FV]:=ο;have eP:∀n,n∈VT↔n=⇑CZ:=λn=>by rw[vq];simp
 have b5:∀n,n∈F2↔n=⇑CZ\/n=⇑CZ+8+⇑A+⇑B\/n=⇑CZ+8+⇑A+⇑B+1\/n=⇑CZ+8+⇑A+⇑B+2\/n=⇑FV:=λn=>by rw[wI];simp
 obtain⟨NB,jS⟩:=ed (T:=⇑K) (ds:=VT) x0 ((eP _).mpr rfl) (λn AM=>ZK ((eP n).mp AM)) δ (C1 _) N HY HN dO;obtain⟨jO,H2⟩:=ed (T:=⇑K) (ds:=F2) Cu ((b5 _).mpr δ) (λn AM=>by have:=(b5 n).mp AM;lia) δ (C1 _) N HN HY jQ;obtain⟨C,OA⟩:∃C,C=b3 ⇑CZ cs ws A B ps ⇑K (JA K (⇑CZ+8+⇑A+⇑B) VT):=ο;obtain⟨Br,OB⟩:∃C,C=b3 ⇑FV cs ws B A Cr ⇑K (JA K (⇑FV+8+⇑B+⇑A) F2):=ο;rw[<-OA]at NB jS;rw[<-OB]at jO H2;have a4:C.M=⇑CZ+8+⇑A+⇑B:=by rw[OA];rfl
 have il:C.T=⇑K:=by rw[OA];rfl
 have cF:C.r=⇑CZ:=by rw[OA];rfl
 have ij:C.K=JA K (⇑CZ+8+⇑A+⇑B) VT:=by rw[OA];rfl
 have a5:Br.M=⇑FV+8+⇑B+⇑A:=by rw[OB];rfl
 have uT:Br.T=⇑K:=by rw[OB];rfl
 have cG:Br.r=⇑FV:=by rw[OB];rfl
 have ik:Br.K=JA K (⇑FV+8+⇑B+⇑A) F2:=by rw[OB];rfl
 have O9:∀n,n< ⇑Fj->K[n]?=Fj[n]?:=λn AM=>by rw[FG n δ δ δ δ];obtain⟨r,B5⟩:=X7.trans Qi;rw[<-B5,GR AM]
 have low:∀n,n< ⇑Fj->C.K[n]?=Fj[n]?:=by rw[ij];exact mc δ (λd hd=>by have:=(eP d).mp hd;lia) O9
 have adF:∀n,n< ⇑Fj->Br.K[n]?=Fj[n]?:=by rw[ik];exact mc δ (λd hd=>by have:=(b5 d).mp hd;lia) O9
 have sd:=Cx (X6.trans Qh) Xv;have sg:=Cx Nw gz;have ne:Q3≠[]:=λz=>by
  have UJ:T8∈Q3:=by
   rw[b8,List.mem_filter,tG];refine⟨yt,?_⟩;cases q:Eg ws T8 with
   |none=>rfl
   |some x=>exact absurd (eC q).1 yu
  rw[z]at UJ;cases UJ
 have nx:outD C=Q3:=by rw[OA,b8];rfl
 have ny:outD Br=Q3:=by rw[OB,b8];rfl
 have k0:PB C ⟨Dx,1,po,C7,ou+1⟩ ou:=mH low (by rw[OA];exact sg) (by rw[OA];exact Kv.pre Nw) (by rw[OA];exact MC.pre Nw) (by rw[OA];exact Cx Qh Y9) (by rw[nx];exact sd) (by rw[nx];exact ne) δ δ;have aao:PB Br ⟨Dx+4,1,C7,po,ou+2⟩ ou:=mH adF (by rw[OB];exact sg) (by rw[OB];exact MC.pre Nw) (by rw[OB];exact Kv.pre Nw) (by rw[OB];exact Cx Qh h4) (by rw[ny];exact sd) (by rw[ny];exact ne) δ δ;have Eh:Pz C Br ⟨Dx,1,po,C7,ou+1⟩ ⟨Dx+4,1,C7,po,ou+2⟩:=⟨by rw[cF,a4];lia,by rw[cG,a4];exact dH,by rw[cG,a5];lia,by show Br.M+3<=Dx;rw[a5];lia,C1 _⟩;have w:=ai3 (G:=K) (ds:=VT) (ds':=F2) Eh (by rw[il,uT]) (by rw[a4];exact ij) (by rw[a5];exact ik) (λn AM=>by rw[cF,a4]at AM;rw[b5];rcases AM with h|h|h|h<;>simp[h]);have alR:Dx+10=⇑K:=uI.symm;have T:dS C Br ⟨Dx,1,po,C7,ou+1⟩ ⟨Dx+4,1,C7,po,ou+2⟩ ou ⇑HE (Dx+8) (Dx+9):=⟨w,NB,jO,k0,aao,λn AM=>by
  have Mx:Br.M+3<=⇑HE/\ ⇑HE<Dx:=by rw[a5];lia
  rw[il];rcases AM with rfl|rfl|rfl
  .exact⟨δ,gS Eh (.inl Mx)⟩
  .exact⟨δ,gS Eh (.inr (C1 _))⟩
  .exact⟨δ,gS Eh (.inr (OP _))⟩⟩
 have t:TI C Br ⟨Dx,1,po,C7,ou+1⟩ ⟨Dx+4,1,C7,po,ou+2⟩ K ⟨[],0,[],[],0⟩ ⟨[],0,[],[],0⟩ (λ_=>0) (λ_=>0):=by refine⟨j9 jS (c0 0 _ (by rw[TB];rfl)) (c0 1 _ (by rw[TB];rfl)) (c0 2 _ (by rw[TB];rfl)) (c0 3 _ (by rw[TB];rfl)),j9 H2 (c1 0 _ (by rw[TC];rfl)) (c1 1 _ (by rw[TC];rfl)) (c1 2 _ (by rw[TC];rfl)) (c1 3 _ (by rw[TC];rfl)),λn a=>?_⟩;obtain⟨l,AF,_⟩:=a;cases AF
 obtain⟨Dv,hz,G9,FD,Ks,f2,Ml,rU,hR,hS,hT,rfl,tz⟩:=w1 T (cells:=cells) δ t rfl rfl rfl rfl (by rw[cF,cG];exact WE) abv kc ec;have Bf:=tz.G5.R.Bf;have up:∀{n:Nat}{o:O},Fj[n]?=↥o->o≠Ij->hz[n]?=↥o:=λ{n o} e ne=>Bf n o ((low n (Eu e)).trans e) ne;have uL:Hj hz (ou+6) cs ws:=by obtain⟨f,AD,AH⟩:=Ra.ex;exact⟨f,up AD (λz=>by cases z),up AH (λz=>by cases z)⟩
 have uN:Db hz po A:=T0 Bf ((Kv.pre Nw).to low);have uR:Db hz C7 B:=T0 Bf ((MC.pre Nw).to low);obtain⟨σ,eσ⟩:∃ σ :Option W->BC,σ =λs=>GI ns u ou ⇑HE (Dx+8) rU hR hS hT s:=ο;obtain⟨jX,DT⟩:=ah0 N HY HN dO uL uN uR (up (Cx Qh Y9) (λz=>by cases z)) (up (Cx Qh Uv) (λz=>by cases z)) (σ := σ) (by rw[eσ,FZ];exact λ_=>rfl) (by rw[eσ,FZ];exact λ_=>rfl) (by rw[eσ,FZ];exact λ_=>rfl) (by rw[eσ,FZ];exact λ_=>rfl) (by rw[eσ];exact λ_ _=>rfl) (by rw[eσ];exact λ_ _=>rfl);rw[show GI ns u ou ⇑HE (Dx+8) rU hR hS hT none= σ none by rw[eσ]]at G9;have CM:mK [.Dm (BI ns)] []=(RG (G3 ns []) []).bind outF:=rfl;rw[CM];have BE:RG=AO (M0 (Aj 1 S5 Γ) (Ei [(AC 1),(AC 2),(AC 3),(AC 4)])) (AO _ (AO (AZ (BJ (BU (A0 (BJ (Aj 2 N1 (A0 (BJ (D9 π (CC (pu (.int (10:Nat)))) (CC (pu (.int (14:Nat)))))) (A0 (Aw BZ υ) A2)))) (A0 (BJ (Aj 2 N1 (A0 (BJ (D9 π (CC (pu (.int (13:Nat)))) (CC (pu (.int (18:Nat)))))) (A0 (Aw BZ υ) A2)))) A2)))) (AC 6)) (AO _ (AO _ (AO _ (AO _ (AO _ (AO _ (AO _ (AO _ (AO (Ew _ (AC 11) WL) _))))))))))):=rfl;rw[BE,B2,t1,A3,B9,B2,CK,A3,B9,B2,t3,A3,B9,B2,hF,A3,B9,B2,Mf,A3,B9,B2,Kh,A3,B9,<-SJ,B2,E6,Um,A3,if_neg γ,GQ,A3,B9,B2,JK,GF,A3,A3,B9,B2,JK,Gh,A3,A3,B9,B2,JK,Rl,A3,A3,B9,B2,agt,A3,B9,B2,G9,A3,B9,DT];exact⟨_,_,rfl,rfl⟩
def ai5{P:C9}{w:Bl}{K:At}{mg:Str->Option A9}{f:A7}{Gn Cj Ii pm cd DS:A9}{E9 an:Option A7}{Bm:Array (Option A9)}(T:Dl K mg)(a:JN K Ff "law"=↥↥(.ref f))(l:K.lookup f=↥⟨Gn,E9,.func (KM "law" "law" (Lr KA) (L0 KA) (Bu KA) .none Cj Ii pm an cd DS),Bm⟩)(c:NK K cd "law"=true)(k:KL K (.ref f)=true) :
  (∃(f:A7)(Gn:A9)(E9 an:Option A7)(Cj Ii pm cd DS:A9)(Bm:Array (Option A9)),JN K Ff "law"=↥↥(.ref f)/\K.lookup f=↥⟨Gn,E9,.func (KM "law" "law" (Lr KA) (L0 KA) (Bu KA) .none Cj Ii pm an cd DS),Bm⟩/\NK K cd "law"=true/\KL K (.ref f)=true)/\∀base:BF,CL P w K mg base "law" KA ["_law_script","_law_counts_here","_law_wires_here","_law_old","_law_new","_law_outer_here","_law_plans","_law_net","_law_handed","_law_runs","_law_states","_law_cell","_law_which","_law_deed","_law_k","_law_third"] 10 RG:=
 ⟨⟨f,Gn,E9,an,Cj,Ii,pm,cd,DS,Bm,a,l,c,k⟩,λbase=>uz _ _ base T⟩
def aiO{l:i6}{q:C9}{loose:↑Str}{LY:(Str->Option A9)->BF->Prop}{N9:Bl->BF->Prop}{d:DefRec}{K:Params->At}(AM:l.most=↥63)(SV:d.params.defaults=[])(hd:d.name="law")(Wc:∀(w:Bl)(h:BF),N9 w h->(K w.params).In h)(T:∀(w:Bl)(mg:Str->Option A9)(h:BF),(K w.params).In h->h.Ns Ff mg->(∃(f:A7)(Gn:A9)(E9 an:Option A7)(Cj Ii pm cd DS:A9)(Bm:Array (Option A9)),JN (K w.params) Ff "law"=↥↥(.ref f)/\(K w.params).lookup f=↥⟨Gn,E9,.func (KM "law" "law" (Lr KA) (L0 KA) (Bu KA) .none Cj Ii pm an cd DS),Bm⟩/\NK (K w.params) cd "law"=true/\KL (K w.params) (.ref f)=true)/\∀base:BF,CL l.prog w (K w.params) mg base "law" KA ["_law_script","_law_counts_here","_law_wires_here","_law_old","_law_new","_law_outer_here","_law_plans","_law_net","_law_handed","_law_runs","_law_states","_law_cell","_law_which","_law_deed","_law_k","_law_third"] 10 RG) :
  iQ q loose LY N9 l.row.toRowW d [] (λf vs=>ZP f vs):=
 aiN (st:=KA) (x:="law") (k:=10) (m:=RG) AM SV ⟨rfl,ε,ε⟩ qb hd Wc T λns AF=>abT AF
end FT
end
namespace PySem.W.Fast
def tw4772753505378080960:=0
def tw6835515954532450359:=0
def tw349671538239528309:=0
def tw8365689669585370065:=0
def tw10864680122163466826:=0
def tw3506934249163733144:=0
def tw15264171617256193266:=0
def tw620245532532355638:=0
def tw3095590544877554559:=0
def tw7067510902746016823:=0
def tw6291463445554735171:=0
def tw14558807152404364038:=0
def tw8696970555275590309:=0
def tw11665515566029028647:=0
def tw4516094784810464410:=0
def tw7844997424732250965:=0
def tw9340414039403218678:=0
def tw9706362300698955730:=0
def tw11795438374880808720:=0
def tw11032297040768853365:=0
def tw9244203626193309484:=0
def tw4182774275077311926:=0
def tw8007953911230377111:=0
def tw11261010453124890130:=0
def tw5162456533869573889:=0
def tw12018905166845732887:=0
def tw8757367380600251302:=0
def tw11170928291297695523:=0
def tw5816056799000483774:=0
def tw11768709258660781779:=0
def tw10562556267031748695:=0
def tw11937401957503084916:=0
def tw2898707354408049405:=0
def tw10650474263592510116:=0
def tw9176094832330553205:=0
def tw14621128019435919101:=0
def tw11899021068643994091:=0
def tw11514688867816419125:=0
def tw7511245362373776654:=0
def tw6836502729671649393:=0
def tw10737829396598389:=0
def tw12728543006849596708:=0
def tw7550168931051586621:=0
def tw14994358482181637942:=0
def tw15609042515007198240:=0
def tw7173192121749124676:=0
def tw5346609373279755592:=0
def tw14967100220031115947:=0
def tw17129902554005096912:=0
def tw7209714455036354528:=0
def tw3202182573066400747:=0
def tw12639141102094560469:=0
def tw11561115869869629722:=0
def tw1918754733036116049:=0
def tw14166506562085025524:=0
def tw5876367016135271524:=0
def tw14497262322210903316:=0
def tw12350943794526086220:=0
def tw5057139692660889383:=0
def tw16377936327347377485:=0
def tw3445074361916976270:=0
def tw4008550762257705502:=0
def tw10399474725613250529:=0
def tw10197823913316522114:=0
def tw307727803156016299:=0
def tw2661481355196784468:=0
def tw5160863982510469150:=0
def tw7584977282539706998:=0
def tw11369503500952068258:=0
def tw12755509403356099253:=0
def tw15640289329365056016:=0
def tw11263329550936390874:=0
def tw8712775000087853330:=0
def tw6660366355383989253:=0
def tw16277137165582229656:=0
def tw14501575882695711479:=0
def tw1482632064804304957:=0
def tw4232156323552758882:=0
def tw17058156592584884611:=0
def tw14225432651683064329:=0
def tw7320796687877182277:=0
def tw7652430086433522666:=0
def tw3439572062786478895:=0
def tw16504994769715184612:=0
def tw4214237422617456062:=0
def tw15845616060361968382:=0
def tw4707693397696339232:=0
def tw16548490907393277393:=0
def tw13648501477052248471:=0
def tw12507481073226887167:=0
def tw6810364438154343725:=0
def tw2486991448690022517:=0
def tw10990143468480415165:=0
def tw5322486745555472582:=0
def tw17032348111603339365:=0
def tw15468801205492811601:=0
def tw16980038152373332189:=0
def tw16924485235347038263:=0
def tw3597444181576091743:=0
def tw13067705110779099301:=0
def tw7276973823170310599:=0
def tw5190052289890604384:=0
def tw4351327868882757363:=0
def tw2199236142013823554:=0
def tw11733947281301686472:=0
def tw16793880851758309014:=0
def tw17632567150345285479:=0
def tw1491831096144609322:=0
def tw7774141001097421858:=0
def tw3250798909279698714:=0
def tw3171347621925008590:=0
def tw9804046631082420267:=0
def tw5035500022433867655:=0
def tw10327519701628931335:=0
def tw14319909211384435193:=0
def tw9377490672894219344:=0
def tw18066872581588376915:=0
def tw16983656372346462647:=0
def tw8916926084794463250:=0
def tw12614297592214824400:=0
def tw5588861799838036408:=0
def tw9127599915878263627:=0
def tw17425511305761419672:=0
def tw2258289617215308958:=0
def tw6941906830527086971:=0
def tw14551783910273029099:=0
def tw15901082602263023274:=0
def tw2638009487209154618:=0
def tw10135592196070862242:=0
def tw16712127452964340356:=0
def tw17019774663796170538:=0
def tw7560153838219125765:=0
def tw4776924704505628290:=0
def tw2779382628454132155:=0
def tw18109228847914915370:=0
def tw2119152722064872884:=0
def tw9393485851213725814:=0
def tw6180004463877888024:=0
def tw13993921010546550201:=0
def tw15270566563054293923:=0
def tw4880952792415970217:=0
def tw6625477972742630947:=0
def tw4990833582369296705:=0
def tw2166159782393594805:=0
def tw13058031160998438574:=0
def tw13569828093057483318:=0
def tw14071787981766400535:=0
def tw6691913190613101129:=0
def tw17239936262166945825:=0
def tw9620268098572228401:=0
def tw11739082163644339622:=0
def tw3119483241486074720:=0
def tw17315995700808186966:=0
def tw2790945266790016775:=0
def tw290632850476235491:=0
def tw10779899141984104909:=0
def tw12712482233056917000:=0
def tw5957878394676503205:=0
def tw4633397158118264150:=0
def tw15042985734706842803:=0
def tw13666005548539767626:=0
def tw124902364196083848:=0
def tw10405719735288234179:=0
def tw1461289652874760331:=0
def tw50858768626760865:=0
def tw8420276642028046784:=0
def tw16520428997978354831:=0
def tw5916428227585312849:=0
def tw5768240785823463334:=0
def tw12318946175490807970:=0
def tw14047490856949851750:=0
def tw10840465986058583988:=0
def tw3358765517006623660:=0
def tw8468200635501748511:=0
def tw14601236634360184958:=0
def tw7937054658980344967:=0
def tw5627354011706883420:=0
def tw6199712000723347643:=0
def tw12069242629460450598:=0
def tw17379376180993073711:=0
def tw5869110956233556487:=0
def tw10702528696581665346:=0
def tw5163800708005496517:=0
def tw6956579802808084097:=0
def tw8282272118266346347:=0
def tw1317598496562829425:=0
def tw514647021323598757:=0
def tw9995912861282617807:=0
def tw16772721778731658002:=0
def tw3395683174499819712:=0
def tw8581981764198405972:=0
def tw2117201542782978904:=0
def tw9107749759983087429:=0
def tw5310195225419218593:=0
def tw5007301639214554764:=0
def tw9487869861672533176:=0
def tw4864921963172626598:=0
def tw6956293611187801527:=0
def tw9569399567149372754:=0
def tw4253643381772436426:=0
def tw17553411083997270887:=0
def tw8512638055107392163:=0
def tw15813985800294555458:=0
def tw6789711596423724044:=0
def tw9460403166250703069:=0
def tw353286404311829842:=0
def tw5213414559100345654:=0
def tw11446159588020829174:=0
def tw13782890639946239202:=0
def tw18042542792038234277:=0
def tw7639461260789026539:=0
def tw1026010386673461716:=0
def tw492423433030776172:=0
def tw17117694022345113828:=0
def tw9556515189568134714:=0
def tw6377823613694745578:=0
def tw4765837346056315502:=0
def tw11305366465912086094:=0
def tw14757373997068451775:=0
def tw15516571037696381083:=0
def tw16587330164258284578:=0
def tw13510690008126507660:=0
def tw4991049043847357845:=0
def tw17362888125858601050:=0
def tw12118854690791508521:=0
def tw7404856480781730666:=0
def tw15872917266646143010:=0
def tw14780726637462546815:=0
def tw9598629332420462117:=0
def tw15068856804675414092:=0
def tw1281014208671616622:=0
def tw16081134967698668794:=0
def tw14075657412158281883:=0
def tw1767742266511225611:=0
def tw2389105899647631992:=0
def tw8537884379750852316:=0
def tw12023676905687563574:=0
def tw15410533533618971482:=0
def tw240181145061736058:=0
def tw3367780944508737402:=0
def tw8176213242909633325:=0
def tw16168938673647010068:=0
def tw16711364595524951862:=0
def tw10978245749648905837:=0
def tw1713819640102443424:=0
def tw5554554372089044149:=0
def tw1533599073492593762:=0
def tw13189227681400596590:=0
def tw14915426373500137651:=0
def tw18273491755436210370:=0
def tw7611873846954752098:=0
def tw3152168936458803382:=0
def tw15015036284313259212:=0
def tw15432995213656961377:=0
def tw2768596731930452122:=0
def tw7268480266288190634:=0
def tw9696321549950275799:=0
def tw7632520223101656023:=0
def tw18368832826399832709:=0
def tw3640790694832413335:=0
def tw8866751152542325884:=0
def tw18402724427075555503:=0
def tw9977198246360247172:=0
def tw8567160210622993959:=0
def tw8487550004279685964:=0
end PySem.W.Fast
open PySem PySem.W PyProof.Rows B3 Bq FT
set_option maxRecDepth 100000 in
set_option maxHeartbeats 0 in
theorem PySem.Challenge.cw_nohalfway_k36_two_runs_holds : PySem.Challenge.rw_nohalfway_k36_two_runs.Holds := by
 w_on;o_law;k_head;(case hw=>w_witness2)
 k_fill
 refine FT.aiO (l:=PySem.Challenge.rw_nohalfway_k36_two_runs) rfl rfl rfl (λw h Y=>PySem.W.kIn_of Y) ?T
 case T=>
  intro w mg h IJ G
  refine' FT.ai5 ?T ?ya ?yl ?yc ?yk
  (case T=>constructor<;>first
    |(refine' Bq.y1 IJ G ?a ?l ?c ?k;(case a=>k_is);(case l=>k_is);(case c=>k_is);(case k=>k_is))
    |(refine' Bq.acn ?n ?g1 ?g2 ?g3 ?g4 ?a ?l ?c ?k ?i;(case n=>k_is);(case g1=>k_is);(case g2=>k_is);(case g3=>k_is);(case g4=>k_is);(case a=>k_is);(case l=>k_is);(case c=>k_is);(case k=>k_is);(case i=>k_is))
    |(refine' Bq.aci IJ G ?n ?mk ?kc ?a ?l ?c ?k ?i;(case n=>k_is);(case mk=>k_is);(case kc=>k_is);(case a=>k_is);(case l=>k_is);(case c=>k_is);(case k=>k_is);(case i=>k_is))
    |(refine' Bq.wT ?n ?g1 ?g2 ?g3 ?g4 ?u;(case n=>k_is);(case g1=>k_is);(case g2=>k_is);(case g3=>k_is);(case g4=>k_is);(case u=>(repeat' first|exact λ_ h=>absurd h NI|refine tX.2 ⟨?_,?_⟩|k_is)))
    |(refine' Bq.xW IJ G ?n ?e;(case n=>k_is);(case e=>k_exc))
    |(refine' Bq.agW IJ G ?n ?u;(case n=>k_is);(case u=>(repeat' first|exact λ_ h=>absurd h NI|refine tX.2 ⟨?_,?_⟩|(refine' Bq.agV ?va ?vb;(case va=>k_is);(case vb=>kts_exm)))))
    |(refine' Bq.wV IJ G ?z;(case z=>k_is))
    |(refine' PySem.W.mg_none_of IJ G ?a;(case a=>k_is))
    |(refine' Bq.wc IJ G ?z ?y ?hz ?e;(case z=>k_is);(case y=>k_is);(case hz=>exact ta rfl);(case e=>rfl)))
  case ya|yl|yc|yk=>k_is
