import PyProof.Rows.All
import Wide.All
import OpenK.AllK
import Wide.FinOn
import Lean
import PyProof.EqAt
import PyProof.EqKinds
import PyProof.TupleCall
import PySem.SetOps
import PyProof.TupleKey
import PyProof.SetKind
import PyProof.IsRules
import PyProof.Rows.SetFrom
import PyProof.DictWalks
import PyProof.CollectWalk
import PyProof.Rows.SortWalk
import PyProof.Rows.SortShell
import PyProof.NeKinds
import KE.KEqDict
import PyProof.SetRoads
import PyProof.AutoListH
import PyProof.DictValues
import PyProof.DictItems
import PyProof.DictItemsLoops
import KE.RegKIsAll
import KE.RegKTryMore
import PySem.Challenge.RW_nohalfway_k63_whole_lost_just_by_faults
set_option bootstrap.genMatcherCode false
set_option genSizeOf false
set_option compiler.extract_closed false
open PySem.Str renaming ofString -> AL, ofString -> SJ
open List renaming getElem?_eq_getElem -> C7, getD_eq_getElem?_getD -> EC, length_map -> CE, getElem?_cons_zero -> Dm, getElem?_cons_succ -> EX, size_toArray -> D_, getElem?_map -> Da, append_assoc -> Dd, length_cons -> Dn, range -> C8, getElem?_append_left -> GW, length_append -> F1, prefix_append -> FN, map_cons -> Do, mem_cons_of_mem -> Gw, mem_append_left -> Gx, length_nil -> Fg, getElem?_append_right -> Jp, mem_append_right -> IF, mem_of_getElem? -> IG, mem_cons_self -> Hs, mem_append -> Gj, getElem?_eq_none -> JE, replicate -> GG, mem_singleton -> IC, cons_append -> Ht, getElem_mem -> Hu, getElem?_set_self -> Ku, map_append -> JG, getElem?_set_ne -> ML, map_nil -> IE, mem_cons -> Ix, set_cons_zero -> Mz, append_nil -> La, take_append_drop -> PL, getElem?_of_mem -> PM, length_take -> N0, getElem?_range -> PN, replicate_succ -> Qf, flatten_cons -> PD, nil_append -> Nu, set_cons_succ -> Qd, filter_cons -> PG, not_mem_nil -> PI, filterMap_cons -> S6, length_replicate -> UJ, take_succ_eq_append_getElem -> gK, mem_of_mem_take -> US, find?_cons -> Qn, length_range -> SF, getElem?_replicate -> XD, getElem_of_mem -> UU, all_eq_true -> SH, nodup_nil -> Qp, take_of_length_le -> XF, length_pos_of_mem -> XG, getElem?_take -> UN, length_filter_le -> X6, map_take -> Ql, nodup_iff_pairwise_ne -> gM, length_eraseIdx_of_lt -> gN, mem_of_mem_drop -> X8, drop_eq_getElem_cons -> gP, any_eq_true -> UR, length_erase_of_mem -> gL, mem_singleton_self -> g_, prefix_rfl -> Ua, range_succ -> Ub, lookup -> Qs, eraseIdxIfInBounds_toArray -> s8, pairwise_map -> XU, nodup_append -> XX, eraseIdx_eq_take_drop_succ -> s9, mapM_cons -> Ud, length_singleton -> gc, map_map -> SI, findSome?_append -> gT, singleton_append -> gU, getElem_inj -> XK, length_drop -> XM, lookup_cons -> XO, eq_nil_of_length_eq_zero -> ru, mem_erase_of_ne -> gV, lookup_append -> gZ, getElem?_drop -> gp, all_map -> Ug, any_map -> Uh, length_mapIdx -> gq, filter_append -> gr, mem_of_find?_eq_some -> sS, findIdx?_eq_none_iff -> sT, take_add_one -> gv, eraseIdx_cons_succ -> sH, all_cons -> XZ, map_drop -> Xa, take_length -> gj, of_mem_zip -> gn, getElem?_toArray -> sD, dropLast_eq_take -> sF, mem_map -> XY, set_append_right -> sg, filterMap_append -> sh, range_eq_range' -> si, set_append_left -> sj, forall_mem_cons -> sk, mem_range -> hH, any_cons -> h3
open PySem.W renaming Frag -> Ap, kia_one -> JF, findIn -> Jn, keepIn -> KI, nsIn -> JH, emptyDict -> Nx, fnOf -> KM, codeIn -> My, instObj -> PJ, plainGet -> SG, methodCall_KW -> X3, hasDictIn -> UO, mg_of -> Qk, callWith_K -> X2, plainOver -> XS, exmOne -> Ue, excIn -> UY, hideAll -> XP, plainGet_of -> gX, isFn -> UX, lookIn -> Xb, kitOne -> Xc, methodObj -> gs, cellsFrom_some -> sL, takerIn -> gk, makesIn -> gm, OpenLaw -> gd, hideAll_get -> sl, of_hideAll -> sm, kitx_tuple -> sW, WalkO -> h5, kitx_none -> s_, kitx_bool -> sa, kitx_list -> sb, kitx_dict -> sd
open PySem renaming wpAny_bind -> Ag, Value -> A8, Shared -> AQ, wpAny_pure -> Bh, Addr -> A7, starEach -> CM, sizeLine -> CW, Program -> C9, wpAny -> An, model -> B4, mainGlobals -> FM, World -> Br, Around -> D2, compareOp -> G4, tupleKeyHash -> I_, mem_of_lookup -> Mx, Expr -> Aq, wpAny_truthy_bool -> MI, wpAny_newObj_type -> MJ, wpAny_mono -> HW, attributeBase -> Ky, foldedSetIterable -> Nw, Stmt -> BE, wpAny_callSpecial?_slot -> SA, Heap -> BF, cellsFrom -> IH, strIterType -> KJ, behindInMarks -> MN, keywordEach -> Kx, wpAny_call_entry -> PF, wpAny_typeNameOfWhole_keyiter -> X0, eval -> Bc, FuncData -> Hv, cLine -> Dg, backTo -> Fa, wpAny_holding -> Nt, wpAny_field -> MM, wpAny_seqItems -> PC, SetTable -> Iz, sysModules -> Ld, assignEach -> Le, wpAny_passesOwn -> Qm, wpAny_typeNameOf_keyiter -> XC, bootBuiltins -> O1, binaryOp -> Jq, wpAny_Call_Name_kw -> UW, tupleKind_room_in1 -> UL, wpAny_setField_rec -> UM, wpAny_execs_nil -> SC, wpAny_setState_of -> UQ, backToKw -> L0, NameKind -> L1, Scope -> FE, holding -> JI, codeAny_mono -> Qi, IsTupleKey -> O0, DictEntry -> N1, sizeLine_eq -> Qr, sliceBounds -> Qt, call_meets -> PO, wpAny_Call_method -> XT, ofAClassStatement -> XV, carriedByValue -> Uc, swapsWith -> O2, getMethod -> O3, call_meetsIn -> SK, letOwnedTupleGo -> XQ, evalArgs_none -> gY, relabel -> Lf, codeAny_builtin -> XI, step -> Dh, standAt -> MP, codeAny -> MQ, Keyword -> MR, wpAny_setField -> Xd, firstArgMember -> Xe, wpAny_pyIter_list -> gw, wpAny_dictEntries -> gx, callWith -> PP, wpAny_execs_cons -> gg, assign -> L2, wpAny_forIn_list -> gi, seqIndex? -> SL, wpAny_dictEpoch -> gf, newFunctionEnv -> hG, getItem -> PQ, subscripted -> Xi, valueAt -> PR, callerA -> PS, notedBy -> PT, hashByValue -> Xj, KeyKind -> hI, rawInt -> N4, IsPair -> N5, call -> Xf, Within -> h9, pyNext -> O5
open PySem.Heap renaming get?_push_of_some -> DU, get?_push_size -> Fx, lt_size -> E3, size_push -> Lb, SameBut -> Kz, get?_update_self -> X4, get?_update_other -> sN
open Nat renaming le_refl -> C5, lt_of_lt_of_le -> GH, ne_of_lt -> F0, reduceAdd -> HG, le_trans -> Iw, zero_le -> IB, lt_irrefl -> Lc, lt_of_le_of_lt -> Qc, lt_succ_self -> PE, le_add_right -> PH, lt_succ_of_lt -> SE, add_le_add_left -> UT, le_of_lt -> Qg, ne_of_gt -> Qh, reduceLT -> Qj, le_of_not_lt -> XN, reduceSub -> UZ, not_lt_zero -> XH, le_of_lt_succ -> gu, le_succ -> Uf, le_of_ble_eq_true -> sB, min_eq_left -> hE, mod_lt -> Uj, le_of_eq -> hA, lt_trans -> gy
open PySem.Value renaming ref -> Cq, none -> KL, type -> Nz, bool -> Qq, int -> SM, str -> SN, float -> gz
open Option.some renaming inj -> Fy
open Bool renaming and_eq_true -> ID, false_ne_true -> Kv, false_eq_true -> Kw, eq_iff_iff -> Qo, and_false -> SD, true_and -> X_, false_and -> hF, false_or -> h4, not_true -> h7, and_true -> h8
open Array renaming getElem?_eq_getElem -> MK, getD_eq_getD_getElem? -> S8, length_toList -> S7, getElem?_toList -> X5, append_assoc -> gQ
open PyProof.Rows renaming callWith_type1 -> Qa, IsTup -> XR, slot_tuple_getitem -> rz, kindOf -> KN, AllBare -> N2, Call_ -> sY, envOfC -> O4
open Classical renaming byContradiction -> Q_
open PySem.NameKind renaming free -> Jo
open False renaming elim -> HX
open PySem.Builtin.SmallTypes renaming nextOf -> S9, ownedTupleHandOut -> rm, ownedTupleIsFree -> rl
open Function renaming comp_def -> Ny, comp -> MO
open True renaming intro -> Iy
open PySem.Calls renaming callWith_builtin -> SB, spliced_cons -> UV, spliced_nil -> UP, evalArgs_plain -> X7, Name_function_global -> ro
open Option renaming map_some -> Nv, getD_some -> Qb, isSome_map -> gt, bind_some -> gh, isSome_some -> sX
open PySem.F renaming slot_dict_keyiterator_next -> X1, plainAttrs_list -> UK, slot_tuple_iterator_next -> Wy, plainAttrs_dict -> XE, slot_dict_get -> gR, args_dict_keyiterator_next_1 -> rr, entry_dict_keyiterator_next -> rt, slot_dict_itemiterator_iter -> rv, args_tuple_iterator_next_1 -> rx, entry_tuple_iterator_next -> rn, slot_dict_delitem -> sR, args_tuple_add_2 -> sU, entry_tuple_add -> sG, args_dict_get_2 -> sI, slot_list_index -> sK, slot_tuple_add -> sM, entry_dict_get -> sO, slot_dict_pop -> sA, slot_list_pop -> sQ, type_list_pop -> sf
open Int renaming toNat_natCast -> Qe, fdiv_eq_ediv_of_nonneg -> rp
open ForInStep renaming yield -> PK
open PySem.Heap.SameBut renaming update -> S5
open PySem.Builtin.Slice renaming slicePlaces -> Wz, sliceAdjust -> gO, sliceApplied -> rq
open PySem.Builtin.Tuple renaming tupleExact -> XA
open PySem.Builtin.List renaming listTooLong -> XB
open PySem.Obj renaming data_mapFields -> X9, isFreed_of_fields -> sC, mapSeq -> Ui
open PyProof.Rows.F renaming plain_set_update_loop -> gb, entry_set_update_loop -> sJ
open PySem.SetTable renaming insertAt -> XW, leap -> h6, sizeAbove -> sZ
open List.Perm renaming append_left -> gS
open PySem.Around renaming under_plainId -> gW, under -> hB
open PySem.Builtin.Dict_items renaming ownsTuple -> ry
open Sum.inl renaming injEq -> U_
open PySem.PassesOwn renaming never -> XJ
open Ne renaming symm -> N3
open PySem.Builtin.Range renaming rangeSize -> sV
open PySem.SeqAt renaming ne_of_list_tuple -> sP, RcAt -> Uk, EqAt -> Xg
open PySem.Data renaming cell -> SO, fields -> Xh
open PySem.Builtin.Dict renaming showsAll -> sE
open List.cons renaming injEq -> hD
open Sum renaming inl -> Qu, inr -> Qv
open List.Pairwise renaming nil -> se
open PySem.Code renaming isFrame -> hC
set_option Elab.async false
set_option linter.all false
set_option maxRecDepth 100000
noncomputable section
set_option hygiene false in
local macro_rules|`(π)=>`((I 0))|`(ς)=>`(↥(.int (a:Int)))|`(τ)=>`(↥(.int (j:Int)))|`(υ)=>`(↥(.ref ⇑h))|`(χ)=>`(↥(.ref n))|`(ψ)=>`((I 2))|`(ω)=>`((I 1))|`(Γ)=>`((pu (.int 2)))|`(Δ)=>`((J π A2))|`(Θ)=>`((I 3))|`(Ξ)=>`((Ay true))|`(Φ)=>`((B4 prog w))|`(Ψ)=>`((Ak false))|`(Ω)=>`((J ω A2))|`(ac)=>`((pu (.str (AL "go"))))|`(Cl)=>`((pu (.non)))|`(Fr)=>`((J ψ A2))|`(Tm)=>`((I 4))|`(Ty)=>`((.AO true,h))|`(XL)=>`((At (pu (.AO false))))|`(ST)=>`((.ref n))|`(KK)=>`(↥(AI d))
set_option hygiene false in
local macro_rules|`(γ)=>`(by simp)|`(δ)=>`(by lia)|`(ε)=>`(by decide)|`(ζ)=>`((pu (.int 1)))|`(η)=>`((pu (.int 0)))|`(ο)=>`(⟨_,rfl⟩)|`(θ)=>`(Inv X A3 σ H s)|`(ι)=>`(↥(.ref C.r))|`(μ)=>`(↑(A7×Obj))|`(ν)=>`(↑(AS×AS))|`(ξ)=>`((B4 X.prog X.w))
set_option hygiene false in
local macro_rules|`(($e :))=>`(by simpa using $e)
set_option hygiene false in
local macro_rules|`(tactic|erw [$[$a:term],*])=>`(tactic|simp only [$[$a:term],*])|`(tactic|erw [$[$a:term],*]$l:location)=>`(tactic|simp only [$[$a:term],*]$l:location)
set_option hygiene false in
local macro_rules|`(tactic|ac_nf)=>`(tactic|(unfold C6;intros;ac_rfl))
set_option hygiene false in
local macro_rules|`(tactic|exists $a)=>`(tactic|have:=$a P w base T)|`(tactic|exists $k,$m,$a,$b)=>`(tactic|(have h:=EG (P:=P) (w:=w) (base:=base) (k:=$k) (m:=$m) $a $b;refine h ?_;have:=$b))
set_option hygiene false in
local macro_rules|`(tactic|nofun)=>`(tactic|(intro X Db hw A_ AJ i A3 s σ H E Z hf st Ai;subst Db hw A_))
set_option hygiene false in
local macro_rules|`(⇑$x)=>`(($x).length)|`(↥$x)=>`(some $x)|`(↑$x)=>`(List $x)
set_option hygiene false in
local macro_rules| `(tactic|ac_rfl)=> `(tactic|repeat' first
 |(show Ab _ _ _ _;first|with_reducible refine ai0 ?_|(show Ab _ _ (.Name _ _) _;first|exact ai7 _|exact Oq (Di.Ot ‹_›)|exact Oq (Di.SS ‹_›)|exact Oq (Di.SU ‹_›)|exact Oq (Di.Ve ‹_›)|exact Oq (Di.SV ‹_›)|exact Oq (Di.RA ‹_›)|exact Oq (Di.SW ‹_›)|exact Oq (Di.IQ ‹_›)|exact Oq (Di.Ou ‹_›))|(show Ab _ _ (.Constant _ _ _) _;first|exact agj|exact ahG|exact ai1|exact agU)|(show Ab _ _ (.BinOp _ _ _ _) _;first|refine ahB ?_ ?_|refine ai3 ?_ ?_|refine agx ?_ ?_|refine agd ?_ ?_|refine agw ?_ ?_|refine aga ?_ ?_|refine ah1 ?_ ?_|refine ahE ?_ ?_)|(show Ab _ _ (.Compare _ _ _ _) _;first|refine agc (Cv.units ‹_›) ?_|refine agz (Cv.units ‹_›) ?_|refine agb (Cv.units ‹_›) ?_ ?_|refine agy (Cv.units ‹_›) ?_ ?_|refine ags ?_ ?_|refine agm ?_ ?_|refine agf ?_ ?_|refine age ?_ ?_|refine agk ?_ ?_|refine agW ?_ ?_|refine agh (Cv.units ‹_›) ?_ ?_|refine agT (Cv.units ‹_›) ?_ ?_|refine rZ QJ QJ UE UE ?_ ?_ ?_|refine rZ QJ au UE m_ ?_ ?_ ?_)|(show Ab _ _ (.BoolOp _ _ _) _;first|refine ahD ?_ ?_|refine agY ?_ ?_|refine agX ?_)|(show Ab _ _ (.UnaryOp _ _ _) _;first|refine agV ?_|refine ah0 ?_)|(show Ab _ _ (.IfExp _ _ _ _) _;first|refine agg ?_ ?_ ?_)|(show Ab _ _ (.Attribute _ _ _) _;first|refine fe (Di.jr ‹_›) ?_|refine fe (Di.js ‹_›) ?_|refine fe (Di.jt ‹_›) ?_)|(show Ab _ _ (.Subscript _ _ _) _;first|refine agl (Cv.units ‹_›) ?_ ?_ Te|refine ahz ?_ ?_ ?_)|(show Ab _ _ (.Tuple _ _ _) _;first|refine ai5 ?_)|(show Ab _ _ (.List _ _) _;first|refine agr ?_)|(show Ab _ _ (.Dict _ _ _) _;first|exact ahM|exact ahN)|(show Ab _ _ (.ListComp _ _ _ _) _;first|refine ahK _ _ (by rfl) ?_ ?_ ?_ (λ_ _ _ _ _ _ _=>?_)|refine ahJ _ _ (by rfl) ?_ ?_ ?_ (λ_ _ _ _ _ _ _=>?_))|(show Ab _ _ (.Call (.Name _ _) _ _ _) _;first|refine ahH ‹_› (Cv.mono ‹_› ε) ?_|refine agt ‹_› (Cv.mono ‹_› ε) ?_|refine ahC ‹_› (Di.uJ ‹_›) ?_|refine Wr (Vw _ ε) (Di.Va ‹_›) (Di.uK ‹_›) (by kernel_rfl) ?_|refine ai4 (Di.ib ‹_›) ?_|refine Wr (Vw _ ε) (Di.Va ‹_›) (Di.ib ‹_›) (by kernel_rfl) ?_|refine ago ‹_› (Di.il ‹_›) (Di.uM ‹_›) ?_|refine agn (Di.il ‹_›) ?_|refine agq (Di.bq ‹_›) (Di.cz ‹_›) ?_|refine agp (Di.bq ‹_›) ?_|refine Wr (Vw _ ε) (Di.Va ‹_›) (Di.bq ‹_›) (by kernel_rfl) ?_|refine ai2 (Di.ip ‹_›) ?_|refine Wr (Vw _ ε) (Di.Va ‹_›) (Di.ip ‹_›) (by kernel_rfl) ?_|refine ai6 (Di.i1 ‹_›) ?_|refine Wr (Vw _ ε) (Di.Va ‹_›) (Di.i1 ‹_›) (by kernel_rfl) ?_)|(show Ab _ _ (.Call (.Attribute _ _ _) _ _ _) _;first|refine agv ‹_› (Cv.mono ‹_› ε) ?_|refine agu ‹_› (Cv.mono ‹_› ε) ?_ ?_|refine ahF ?_ ?_|refine ahI ?_|refine ajh ?_|refine agi (Cv.units ‹_›) ?_ ?_|refine ahL (Cv.units ‹_›) ?_ ?_|refine ahO ?_ ?_|refine agZ ?_|refine ag_ ?_ ?_))
 |(show Fn _ _ _ _;first|(show Fn _ _ (.Compare _ _ _ _) _;first|refine ahs (Cv.units ‹_›) ?_|refine ahR (Cv.units ‹_›) ?_|refine ahr (Cv.units ‹_›) ?_ ?_|refine ahQ (Cv.units ‹_›) ?_ ?_|refine ahP ?_ ?_|refine ahx ?_ ?_|refine ahu ?_ ?_|refine aht ?_ ?_|refine ahw ?_ ?_|refine ahU ?_ ?_|refine ahv (Cv.units ‹_›) ?_ ?_|refine ahS (Cv.units ‹_›) ?_ ?_|refine r_ QJ QJ UE UE ?_ ?_ ?_|refine r_ QJ au UE m_ ?_ ?_ ?_)|with_reducible refine ahV ?_|refine ahT ?_|refine ahW ?_|refine ahX ?_)
 |(show Ks _ _ _ _;first|exact ahA|exact ahh|refine ahi ?_|refine ah_ ?_ ?_)
 |(show G1 _ _ _ _;first|(show G1 _ _ (.Expr _ _) _;first|exact aha|refine ahc ?_)|(show G1 _ _ (.Return _ _) _;first|exact ahm|refine ahl ?_)|(show G1 _ _ (.Assign _ _ _) _;first|refine aho ?_|refine ahZ _ _ _ (Bz.Bg ‹_›) (by rfl) ?_ ?_ ?_ (λ_ _ _ _ _ _ _=>?_)|refine ahn _ (Bz.Bg ‹_›) ?_|refine aiK ?_ ?_|refine ahb (Cv.units ‹_›) ?_ ?_ ?_|refine ahk ?_ ?_ ?_|refine fh (Di.jr ‹_›) ?_ ?_|refine fh (Di.js ‹_›) ?_ ?_|refine fh (Di.jt ‹_›) ?_ ?_)|(show G1 _ _ (.For _ _ _ _ _) _;first|refine ahd ?_ ?_ ?_|refine ahe ?_ ?_ ?_|refine ahf ?_ ?_ ?_)|exact aiL|exact ahj|refine ahg ?_ ?_ ?_|exact aj (Di.ah4 ‹_›)|exact aj (Di.ah5 ‹_›)|exact aj (Di.ah6 ‹_›)|exact aj (Di.ah7 ‹_›)|refine ahp _ (Bz.Bg ‹_›) (Di.ag8 ‹_›) ?_ (λ_=>?_)|refine ahq ?_ ?_)
 |refine aiO ‹_› (Cv.mono ‹_› ε) (λ_=>?_) (λ_=>?_)
 |exact ah9
 |refine ah8 ?_ ?_
 |refine ahY ?_ ?_
 |refine aiM ?_ ?_
 |refine ahy ?_
 |refine aiN ?_
 |exact aiH
 |refine aiI ?_
 |exact uT _ (hN:=of_decide_eq_true ( by kernel_rfl ))
 |exact uS _ (hN:=of_decide_eq_true ( by kernel_rfl ))
 |exact uU _ _ (hN:=of_decide_eq_true ( by kernel_rfl ))
 |exact tk
 |refine tj (λ_ _ _ _ _ _ _=>?_)
 |exact ai9 _ (Bz.Bg ‹_›)
 |refine aiB ?_
 |exact aiA
 |refine ai8 ?_ ?_
 |refine aiD (Di.uL ‹_›) ?_
 |refine aiE (Di.cz ‹_›) ?_
 |refine aiF (Di.cz ‹_›) ?_
 |refine aiG (Di.uN ‹_›) ?_
 |refine aiC ?_
 )
namespace BU
end BU
namespace BX
end BX
open PySem PySem.Spec BU BX
namespace BU
open PyProof.Rows
abbrev Key:=Sum Int Str
noncomputable def R1:Key->A8->Bool
 |.inl k,v=>Value.isInt k v
 |.inr x,v=>Value.isStrOf x v
noncomputable def aaJ(w:Br):Key->Int
 |.inl k=>hashInt k
 |.inr x=>hashStr w x
def Mh:∀{k:Key}{v:A8},R1 k v=true->(∃i t,k=Qu i/\v=SM i t)\/(∃x t,k=Qv x/\v=SN x t)
 |.inl i,v,h=>by obtain⟨t,e⟩:=Value.isInt_shape (k:=i) (v:=v) h;exact .inl ⟨i,t,rfl,e⟩
 |.inr x,v,h=>by obtain⟨t,e⟩:=Value.isStrOf_shape (x:=x) (v:=v) h;exact .inr ⟨x,t,rfl,e⟩
def aaK(i:Int)(t:Tok):R1 (.inl i) (.int i t)=true:=by simp[R1,Value.isInt]
def aaL(x:Str)(t:Tok):R1 (.inr x) (.str x t)=true:=by simp[R1,Value.isStrOf]
def aaM(a b:Int):decide ((Qu a:Key)=Qu b)=(a==b):=by
 by_cases e:a=b
 .subst e;simp
 .have h:¬(Qu a:Key)=Qu b:=λq=>e (Sum.inl.inj q);rw[decide_eq_false h];exact(beq_eq_false_iff_ne.mpr e).symm
def aaQ(a b:Str):decide ((Qv a:Key)=Qv b)=decide (a=b):=by
 by_cases e:a=b
 .subst e;simp
 .have h:¬(Qv a:Key)=Qv b:=λq=>e (Sum.inr.inj q);rw[decide_eq_false h,decide_eq_false e]
def aaN(a:Int)(b:Str):decide ((Qu a:Key)=Qv b)=false:=decide_eq_false (λq=>nomatch q)
def aaP(a:Str)(b:Int):decide ((Qv a:Key)=Qu b)=false:=decide_eq_false (λq=>nomatch q)
def HF(prog:C9)(w:Br):hI prog w Key where
 is:=R1
 hash:=aaJ w
 inj:=λv a b AG A4=>by
  rcases Mh AG with⟨i,t,rfl,rfl⟩|⟨x,t,rfl,rfl⟩
  .rcases Mh A4 with⟨j,u,rfl,e⟩|⟨y,u,rfl,e⟩
   .injection e with AA _;rw[AA]
   .exact nomatch e
  .rcases Mh A4 with⟨j,u,rfl,e⟩|⟨y,u,rfl,e⟩
   .exact nomatch e
   .injection e with AA _;rw[AA]
 byValue:=λk v h=>by rcases Mh h with⟨i,t,rfl,rfl⟩|⟨x,t,rfl,rfl⟩<;>rfl
 pyHash:=λCG h=>by
  rcases Mh CG with⟨i,t,rfl,rfl⟩|⟨x,t,rfl,rfl⟩
  .exact wpAny_pyHash_int h
  .exact wpAny_pyHash_str h
 eqBool:=λBQ CG h=>by
  rcases Mh BQ with⟨i,t,rfl,rfl⟩|⟨x,t,rfl,rfl⟩
  .rcases Mh CG with⟨j,u,rfl,rfl⟩|⟨y,u,rfl,rfl⟩
   .rw[aaM]at h;exact wpAny_eqBool_int h
   .rw[aaN]at h;exact SeqAt.EqAt.int_str i t y u _ _ _ _ h
  .rcases Mh CG with⟨j,u,rfl,rfl⟩|⟨y,u,rfl,rfl⟩
   .rw[aaP]at h;exact SeqAt.EqAt.str_int x t j u _ _ _ _ h
   .rw[aaQ]at h;exact wpAny_eqBool_str h
 «strs»:=λk x t v h=>by
  rcases Mh h with⟨i,u,rfl,e⟩|⟨y,u,rfl,e⟩
  .exact nomatch e
  .injection e with AA _;subst AA;cases v<;>rfl
def lG(prog:C9)(w:Br)(k:Key)(v:A8):(HF prog w).is k v=R1 k v:=rfl
def aaz(prog:C9)(w:Br)(i:Int)(t:Tok):(HF prog w).is (.inl i) (.int i t)=true:=aaK i t
def abz(prog:C9)(w:Br)(x:Str)(t:Tok):(HF prog w).is (.inr x) (.str x t)=true:=aaL x t
abbrev Et:=↑Key
inductive V where
 |non|AO (b:Bool)|int (i:Int)|str (x:Str)|Pf (b:Array UInt8)|RE (b:UInt64)|ref (a:A7)|ty (n:String)
 deriving DecidableEq
def RelV:V->A8->Prop
 |.non,u=>u=KL
 |.AO b,u=>u=Qq b
 |.int i,u=>∃t,u=SM i t
 |.str x,u=>∃t,u=SN x t
 |.Pf b,u=>∃t,u=Value.bytes b t
 |.RE b,u=>∃t,u=gz b t
 |.ref a,u=>u=Cq a
 |.ty n,u=>u=Nz n
abbrev Vals:↑V->↑A8->Prop:=Paired RelV
theorem Vals.length{xs:↑V}{us:↑A8}(r:Vals xs us):⇑xs=⇑us:=Paired.length r
theorem Vals.get:∀{xs:↑V}{us:↑A8}{i:Nat}{x:V},Vals xs us->xs[i]?=↥x->∃u,us[i]?=↥u/\RelV x u
 |_,_,_,_,.nil,e=>by simp at e
 |_,_,0,_,.cons r _,e=>by simp at e;subst e;exact⟨_,rfl,r⟩
 |_,_,i+1,x,.cons _ t,e=>by obtain⟨u,h1,h2⟩:=Vals.get (i:=i) (x:=x) t (e:);exact⟨u,(h1:),h2⟩
theorem Vals.set{x:V}{u:A8}(r:RelV x u):∀{xs:↑V}{us:↑A8}(i:Nat),Vals xs us->Vals (xs.set i x) (us.set i u)
 |_,_,_,.nil=>.nil
 |_,_,0,.cons _ t=>.cons r t
 |_,_,i+1,.cons q t=>.cons q (Vals.set r i t)
theorem Vals.append:∀{xs ys:↑V}{us ws:↑A8},Vals xs us->Vals ys ws->Vals (xs++ys) (us++ws)
 |_,_,_,_,.nil,s=>s
 |_,_,_,_,.cons r t,s=>.cons r (Vals.append t s)
theorem Vals.take:∀{xs:↑V}{us:↑A8}(n:Nat),Vals xs us->Vals (xs.take n) (us.take n)
 |_,_,0,_=>.nil
 |_,_,_+1,.nil=>.nil
 |_,_,n+1,.cons r t=>.cons r (Vals.take n t)
theorem Vals.drop:∀{xs:↑V}{us:↑A8}(n:Nat),Vals xs us->Vals (xs.drop n) (us.drop n)
 |_,_,0,r=>r
 |_,_,_+1,.nil=>.nil
 |_,_,n+1,.cons _ t=>Vals.drop n t
def IN:Option V->Option A8->Prop
 |some v,↥u=>RelV v u
 |none,none=>True
 |_,_=>False
def Fm{Bp:Type}:↑(Bp×V)->↑(Bp×A8)->Prop:=Paired λ(p:Bp×V)(q:Bp×A8)=>p.1=q.1/\RelV p.2 q.2
def Ck:Key->V
 |.inl i=>.int i
 |.inr x=>.str x
inductive F3 where
 |lst (xs:↑V)
 |tup (xs:↑V)
 |B8 (AC:↑(Key×V))|Dx (AC:↑(Et×V))
 |set (S:Int->Bool) (n:Nat)
 |ins (C Bs:A7) (B7:↑(Str×V))
 |own (x:A7)
 |Ri (B7:↑(Str×V))
 |met (f x:A7)
 |bC (lo hi:Int)
 |D7 (o:Obj) (u:F3)
 |OJ (ps:Array A8)
 |ext (φ:BF->Prop)
abbrev AD:=A7->Option F3
noncomputable def upd(H:AD)(a:A7)(o:F3):AD:=λb=>if b=a then↥o else H b
def EM{H:AD}{a:A7}{o:F3}:upd H a o a=↥o:=by unfold upd;rw[if_pos rfl]
def DK{H:AD}{a b:A7}{o:F3}(h:b≠a):upd H a o b=H b:=by unfold upd;rw[if_neg h]
def acK{H:AD}{a b:A7}{o u:F3}(h:H a=↥o)(h':H b=↥u)(d:o≠u):a≠b:=by intro e;subst e;rw[h]at h';exact d (Fy h')
def LD{H:AD}{a b:A7}{o:F3}(h:H a=↥o)(h':H b=none):a≠b:=by intro e;subst e;rw[h]at h';cases h'
def OE(H:AD)(k:Et)(a:A7):Prop:=H a=↥(.tup (k.map Ck))
section
variable(P:C9)(w:Br)(K:Ap)
def Ds(H:AD)(h:BF)(a:A7):F3->Prop
 |.lst xs=>⇑xs<=CW/\∃(its:↑A8)(n:Nat),Vals xs its/\h.get? a=some { cls:=.type "list",data:=.seq its.toArray n }
 |.tup xs=>⇑xs<=CW/\∃its:↑A8,Vals xs its/\IsTup h a its.toArray
 |.B8 AC=>⇑AC<=CW/\(a==Ld)=false/\∃vs,Fm AC vs/\h.DictOf (HF P w) a vs
 |.Dx AC=>⇑AC<=CW/\(a==Ld)=false/\∃xs:↑(Et×A7×A8),
     Paired (λ(p:Et×V)(q:Et×A7×A8)=>p.1=q.1/\OE H p.1 q.2.1/\RelV p.2 q.2.2) AC xs/\
     ∃o es BA,h.get? a=↥o/\o.ExactDict/\o.data=.dict es BA/\es.toList=xs.map (entryOfKey (tupleKind (HF P w)))/\(xs.map (·.1)).Nodup
 |.set S n=>h.SetOf (intKind P w) a S n
 |.ins C Bs B7=>H Bs=↥(.own a)/\ ⇑B7<=1000/\Bs≠a/\h.get? a=↥(PJ C Bs)/\
     ∃EK,h.Ns1 Bs EK/\(∀f,IN (B7.lookup f) (EK f))/\h9 EK (B7.map (·.1))
 |.own _=>∃o,h.get? a=↥o
 |.Ri B7=>∃EK,h.Ns1 a EK/\∀f,IN (B7.lookup f) (EK f)
 |.bC lo hi=>∃t u v,h.get? a=some { cls:=.type "range",data:=.fields #[.int lo t,.int hi u,.int 1 v] }
 |.D7 o u=>h.get? a=↥o/\Ds H h a u
 |.OJ ps=>h.get? a=some { cls:=.none,data:=.fields ps }
 |.met f x=>h.get? a=↥(gs (.ref f) (.ref x))
 |.ext φ=>φ h/\(∃o,h.get? a=↥o)/\∀h1 h2:BF,φ h1->(∀o,h1.get? a=↥o->h2.get? a=↥o)->φ h2
def Es(H:AD)(h:BF):Prop:=∀a o,H a=↥o->Ds P w H h a o
end
section
variable{P:C9}{w:Br}{K:Ap}{H A9:AD}{h h':BF}{a:A7}{o:F3}
theorem Ds.lt(x:Ds P w H h a o):a<h.objs.size:=by
 cases o with
 |lst xs=>obtain⟨_,_,_,_,e⟩:=x;exact E3 e
 |tup xs=>obtain⟨_,_,_,p⟩:=x;exact p.lt
 |B8 AC=>obtain⟨_,_,_,_,o,_,_,e,_⟩:=x;exact E3 e
 |Dx AC=>obtain⟨_,_,_,_,o,_,_,e,_⟩:=x;exact E3 e
 |set S n=>obtain⟨o,_,_,_,e,_⟩:=x;exact E3 e
 |ins C Bs B7=>obtain⟨_,_,_,e,_⟩:=x;exact E3 e
 |own y=>obtain⟨_,e⟩:=x;exact E3 e
 |Ri B7=>obtain⟨_,⟨_,_,_,e,_⟩,_⟩:=x;exact E3 e
 |bC lo hi=>obtain⟨_,_,_,e⟩:=x;exact E3 e
 |D7 BI u=>obtain⟨e,_⟩:=x;exact E3 e
 |OJ ps=>exact E3 (show h.get? a=↥_ from x)
 |met f y=>exact E3 (show h.get? a=↥_ from x)
 |ext φ=>obtain⟨_,⟨_,e⟩,_⟩:=x;exact E3 e
theorem Paired.dw{α β:Type}{F G:α->β->Prop}:∀{l₁:↑α}{l₂:↑β},Paired F l₁ l₂->(∀a b,F a b->G a b)->Paired G l₁ l₂
 |_,_,.nil,_=>.nil
 |_,_,.cons r t,f=>.cons (f _ _ r) (Paired.dw t f)
def Ds.N_(x:Ds P w H h a o)(k:∀b u,(b=a\/H b=↥(.own a))->h.get? b=↥u->h'.get? b=↥u)(ho:∀b,H b=↥(.own a)->A9 b=↥(.own a))(B9:∀b xs,H b=↥(.tup xs)->A9 b=↥(.tup xs)):Ds P w A9 h' a o:=by
 induction o with
 |lst xs=>obtain⟨z,its,n,r,e⟩:=x;exact⟨z,its,n,r,k _ _ (.inl rfl) e⟩
 |tup xs=>obtain⟨z,its,r,BI,e,c⟩:=x;exact⟨z,its,r,BI,k _ _ (.inl rfl) e,c⟩
 |B8 AC=>obtain⟨z,y,vs,r,BI,es,BA,e,c⟩:=x;exact⟨z,y,vs,r,BI,es,BA,k _ _ (.inl rfl) e,c⟩
 |Dx AC=>obtain⟨z,y,xs,r,BI,es,BA,e,c⟩:=x;exact⟨z,y,xs,Paired.dw r λp q z=>⟨z.1,B9 _ _ z.2.1,z.2.2⟩,BI,es,BA,k _ _ (.inl rfl) e,c⟩
 |set S n=>obtain⟨BI,es,BA,t,e,c⟩:=x;exact⟨BI,es,BA,t,k _ _ (.inl rfl) e,c⟩
 |ins C Bs B7=>obtain⟨d,z,ne,e,EK,⟨E1,es,BA,AE,c⟩,r⟩:=x;exact⟨ho _ d,z,ne,k _ _ (.inl rfl) e,EK,⟨E1,es,BA,k _ _ (.inr d) AE,c⟩,r⟩
 |own y=>obtain⟨BI,e⟩:=x;exact⟨BI,k _ _ (.inl rfl) e⟩
 |Ri B7=>obtain⟨EK,⟨E1,es,BA,e,c⟩,r⟩:=x;exact⟨EK,⟨E1,es,BA,k _ _ (.inl rfl) e,c⟩,r⟩
 |bC lo hi=>obtain⟨t,u,v,e⟩:=x;exact⟨t,u,v,k _ _ (.inl rfl) e⟩
 |D7 BI u C4=>obtain⟨e,q⟩:=x;exact⟨k _ _ (.inl rfl) e,C4 q⟩
 |OJ ps=>have e:h.get? a=some { cls:=.none,data:=.fields ps }:=x;show h'.get? a=some { cls:=.none,data:=.fields ps };exact k a _ (.inl rfl) e
 |met f y=>have e:h.get? a=↥(gs (.ref f) (.ref y)):=x;show h'.get? a=↥(gs (.ref f) (.ref y));exact k a _ (.inl rfl) e
 |ext φ=>obtain⟨p,⟨o,e⟩,st⟩:=x;exact⟨st _ _ p λo q=>k _ _ (.inl rfl) q,⟨o,k _ _ (.inl rfl) e⟩,st⟩
theorem Es.lt(x:Es P w H h)(e:H a=↥o):a<h.objs.size:=(x a o e).lt
def Es.fresh(x:Es P w H h)(e:h.objs.size<=a):H a=none:=by
 cases q:H a with
 |none=>rfl
 |some u=>exact absurd (GH (x.lt q) e) (Lc _)
def Es.kept(x:Es P w H h)(k:∀b u,h.get? b=↥u->h'.get? b=↥u):Es P w H h':=λa o e=>
 (x a o e).N_ (λb u _ q=>k b u q) (λ_ q=>q) λ_ _ q=>q
def Es.laid(x:Es P w H h)(k:∀b u,h.get? b=↥u->h'.get? b=↥u)(AT:h.objs.size<=a)(new:Ds P w (upd H a o) h' a o):Es P w (upd H a o) h':=λb u e=>by
 have AZ:=x.fresh AT;by_cases A4:b=a
 .subst A4;rw[EM]at e;cases e;exact new
 .rw[DK A4]at e;exact(x b u e).N_ (λc v _ q=>k c v q) (λc q=>by rw[DK (LD q AZ)];exact q) λc xs q=>by rw[DK (LD q AZ)];exact q
end
def Lz(H:AD)(a:A7)(u:F3):Prop:=H a=↥u\/∃o,H a=↥(.D7 o u)
def Lz.ok{P:C9}{w:Br}{H:AD}{h:BF}{a:A7}{u:F3}(r:Lz H a u)(x:Es P w H h):Ds P w H h a u:=by
 rcases r with r|⟨o,r⟩
 .exact x a u r
 .obtain⟨_,q⟩:=x a _ r;exact q
def Um:Option F3->Prop
 |some (.lst _)=>True
 |some (.B8 _)=>True
 |some (.Dx _)=>True
 |some (.set _ _)=>True
 |some (.ins _ _ _)=>True
 |some (.ext _)=>True
 |_=>False
section
variable{P:C9}{w:Br}{K:Ap}{H:AD}{h h':BF}{x e:A7}{o':F3}
def Es.write(ok:Es P w H h)(JW:Um (H x))(he:e=x\/H e=↥(.own x))(k:∀b u,b≠e->h.get? b=↥u->h'.get? b=↥u)(Tb:∃u,h'.get? e=↥u)(new:Ds P w (upd H x o') h' x o'):Es P w (upd H x o') h':=λb u q=>by
 have l3:∀c y,H c=↥(.own y)->c≠x:=λc y r z=>by subst z;rw[r]at JW;exact JW
 have abk:∀c xs,H c=↥(.tup xs)->c≠x:=λc xs r z=>by subst z;rw[r]at JW;exact JW
 by_cases A4:b=x
 .subst A4;rw[EM]at q;cases q;exact new
 .rw[DK A4]at q;by_cases RM:b=e
  .have Cp:H b=↥(.own x):=by
     rcases he with z|z
     .exact absurd (RM.trans z) A4
     .rw[RM];exact z
   rw[q]at Cp;cases Cp;obtain⟨v,CG⟩:=Tb;exact⟨v,by rw[RM];exact CG⟩
  .refine(ok b u q).N_ (λc v AJ r=>k c v ?_ r) (λc r=>by rw[DK (l3 c b r)];exact r) λc xs r=>by rw[DK (abk c xs r)];exact r
   rcases AJ with rfl|AJ
   .exact RM
   .rintro rfl;rcases he with z|z
    .exact l3 c b AJ z
    .rw[AJ]at z;cases z;exact A4 rfl
end
structure G0(B7 ex:↑A7)(H A9:AD)(h h':BF):Prop where
 keep:∀b o,h.get? b=↥o->H b=none->b∉B7->b∉ex->h'.get? b=↥o
 slot:∀b o,h.get? b=↥o->H b=none->b∈B7->b∉ex->∃C3,h'.get? b=some { o with slots:=C3 }
 free:∀b o,h.get? b=↥o->H b=none->b∉ex->A9 b=none
 there:∀b o,h.get? b=↥o->b∉ex->∃o',h'.get? b=↥o'
 JB:∀b xs,H b=↥(.tup xs)->A9 b=↥(.tup xs)
 Ha:∀b o u,H b=↥(.D7 o u)->A9 b=↥(.D7 o u)
 J9:∀b ps,H b=↥(.OJ ps)->∃more,A9 b=↥(.OJ (ps++more))
section
variable{B7 Nq ex aj0:↑A7}{H H1 AU:AD}{h h1 h2 h':BF}{a x e:A7}{o:F3}
def G0.any(u:G0 B7 ex H H1 h h1){b:A7}{BI:Obj}(q:h.get? b=↥BI)(n:H b=none)(AF:b∉ex):∃C3,h1.get? b=some { BI with slots:=C3 }:=by
 by_cases A4:b∈B7
 .exact u.slot b BI q n A4 AF
 .exact⟨BI.slots,u.keep b BI q n A4 AF⟩
def G0.trans(a:G0 B7 ex H H1 h h1)(b:G0 B7 ex H1 AU h1 h2):G0 B7 ex H AU h h2 where
 keep:=λc BI q n AJ AF=>b.keep c BI (a.keep c BI q n AJ AF) (a.free c BI q n AF) AJ AF
 slot:=λc BI q n AJ AF=>by obtain⟨C3,AA⟩:=a.slot c BI q n AJ AF;obtain⟨eV,AE⟩:=b.slot c _ AA (a.free c BI q n AF) AJ AF;exact⟨eV,AE⟩
 free:=λc BI q n AF=>by obtain⟨o',AA⟩:=a.there c BI q AF;exact b.free c o' AA (a.free c BI q n AF) AF
 there:=λc BI q AF=>by obtain⟨o',AA⟩:=a.there c BI q AF;exact b.there c o' AA AF
 JB:=λc xs q=>b.JB c xs (a.JB c xs q)
 Ha:=λc BI xs q=>b.Ha c BI xs (a.Ha c BI xs q)
 J9:=λc ps q=>by obtain⟨GP,AA⟩:=a.J9 c ps q;obtain⟨HR,AE⟩:=b.J9 c _ AA;exact⟨GP++HR,by rw[AE,gQ]⟩
def G0.kept(k:∀b u,h.get? b=↥u->h'.get? b=↥u):G0 B7 ex H H h h':=
 ⟨λb BI q _ _ _=>k b BI q,λb BI q _ _ _=>⟨BI.slots,k b BI q⟩,λ_ _ _ n _=>n,λb BI q _=>⟨BI,k b BI q⟩,λ_ _ q=>q,λ_ _ _ q=>q,λ_ ps q=>⟨#[],by rw[q];simp⟩⟩
def G0.refl:G0 B7 ex H H h h:=G0.kept λ_ _ q=>q
def G0.laid(k:∀b u,h.get? b=↥u->h'.get? b=↥u)(AT:h.objs.size<=a)(AZ:H a=none):G0 B7 ex H (upd H a o) h h' where
 keep:=λb u q _ _ _=>k b u q
 slot:=λb u q _ _ _=>⟨u.slots,k b u q⟩
 free:=λb u q n _=>by rw[DK (F0 (GH (E3 q) AT))];exact n
 there:=λb u q _=>⟨u,k b u q⟩
 JB:=λb xs q=>by rw[DK (LD q AZ)];exact q
 Ha:=λb u xs q=>by rw[DK (LD q AZ)];exact q
 J9:=λb ps q=>⟨#[],by rw[DK (LD q AZ),q];simp⟩
def G0.write(JW:Um (H x))(he:e=x\/H e=↥(.own x))(k:∀b u,b≠e->h.get? b=↥u->h'.get? b=↥u)(Tb:∃u,h'.get? e=↥u):G0 B7 ex H (upd H x o) h h':=by
 have AF:∀b,H b=none->b≠x:=λb n z=>by subst z;rw[n]at JW;exact JW
 have A4:∀b,H b=none->b≠e:=λb n z=>by
  subst z;rcases he with r|r
  .exact AF b n r
  .rw[n]at r;cases r
 have hm:∀b u,H b=↥u->¬Um ↥u->b≠x:=λb u q nm z=>by subst z;rw[q]at JW;exact nm JW
 refine⟨λb u q n _ _=>k b u (A4 b n) q,λb u q n _ _=>⟨u.slots,k b u (A4 b n) q⟩,λb u q n _=>by rw[DK (AF b n)];exact n,λb u q _=>?_,
  λb xs q=>by rw[DK (hm b _ q λz=>z)];exact q,λb u xs q=>by rw[DK (hm b _ q λz=>z)];exact q,λb ps q=>⟨#[],by rw[DK (hm b _ q λz=>z),q];simp⟩⟩
 by_cases RM:b=e
 .subst RM;exact Tb
 .exact⟨u,k b u RM q⟩
end
noncomputable def a_(h:BF)(H:AD):↑A7:=(C8 h.objs.size).filter λa=>(H a).isSome
def OQ(h:BF)(H:AD):BF:=XP h (a_ h H)
def yD(h:BF)(H:AD):(OQ h H).objs.size=h.objs.size:=PySem.W.hideAll_size _ _
def yC{h:BF}{H:AD}{b:A7}{o:Obj}(e:h.get? b=↥o)(n:H b=none):(OQ h H).get? b=↥o:=
 sl _ e λhm=>by have q:(H b).isSome=true:=(List.mem_filter.mp hm).2;rw[n]at q;simp at q
def abP{h:BF}{H:AD}{b:A7}{o:Obj}(e:(OQ h H).get? b=↥o):h.get? b=↥o/\H b=none:=by
 have Bi:h.get? b=↥o:=sm (a_ h H) e;refine⟨Bi,?_⟩;cases q:H b with
 |none=>rfl
 |some x=>have hm:b∈a_ h H:=List.mem_filter.mpr ⟨List.mem_range.mpr (E3 Bi),by simp[q]⟩;have z:(OQ h H).get? b=none:=PySem.W.hideAll_none (a_ h H) hm;rw[z]at e;cases e
noncomputable def sy(g h:BF)(L:A7):μ:=(C8 h.objs.size).filterMap λa=>if a=L\/(g.get? a).isSome=true then none else(h.get? a).map λo=>(a,o)
def rest(g h:BF)(L d:A7):μ:=(sy g h L).filter λp=>decide (p.1≠d)
structure Mod(K:Ap)(mg:Str->Option A8)(base:BF):Prop where
 R3:K.In base
 glob:base.Ns FM mg
 blt:∃Gi,base.Ns builtinsNs Gi/\∀x:Str,x≠"__name__"->Gi x=O1 x
 nolimit:base.NoLimit
structure Ar where
 prog:C9
 w:Br
 K:Ap
 mg:Str->Option A8
 base:BF
 A:D2
 N:↑Str
 GE:AQ
 L3:AD
 env:Env
 outer:↑Env
 stack:↑Env
 ex:↑A7
 fn:Str->Bool
 calm:Bool
 D1:μ
 DC:A8->AQ->Prop
def Ew(l:↑Env):↑A7:=l.filterMap (·.frame)
abbrev Ar.B7(X:Ar):↑A7:=Ew X.outer
def Y7(sc:FE)(x:Str):Prop:=sc.names.lookup x=↥.local\/sc.names.lookup x=↥.cell\/sc.names.lookup x=↥.free
def Loc(sc:FE)(x:Str):Prop:=sc.names.lookup x=↥.local\/sc.names.lookup x=↥.cell
def Look(env:Env)(h:BF)(m:Str->Option A8)(x:Str)(u:A8):Prop:=
 (env.kindOf x=↥.local/\m x=↥u)\/((env.kindOf x=↥.cell\/env.kindOf x=↥.free)/\∃c,env.cells.lookup x=↥c/\h.IsCell c ↥u)
structure Ar.Ok(X:Ar):Prop where
 mod:Mod X.K X.mg X.base
 kind:X.env.scope.kind=.function
 glob:X.env.globals=FM
 blt:X.env.builtins=builtinsNs
 above:X.GE.heap.objs.size<=X.env.locals
 inj:∀x y c,X.env.cells.lookup x=↥c->X.env.cells.lookup y=↥c->x=y
 has:∀x,(X.env.kindOf x=↥.cell\/X.env.kindOf x=↥.free)->∃c,X.env.cells.lookup x=↥c
 SX:∀x c,X.fn x=true->X.env.cells.lookup x=↥c->X.GE.heap.objs.size<=c
 hd:X.calm=true->X.A.handled=none
 frames:X.A.frames=↥X.stack
 WM:X.stack=X.outer\/(X.stack=X.env::X.outer/\X.env.frame=↥X.env.locals)
 cf:∀b∈X.ex,b≠X.env.locals/\∀x c,X.env.cells.lookup x=↥c->c≠b
 bs:∀b o,X.base.get? b=↥o->X.GE.heap.get? b=↥o/\X.L3 b=none
 Nf:X.base.objs.size<=X.GE.heap.objs.size
 UC:∀b o,X.base.get? b=↥o->b∉X.ex
 Vs:∀b∈X.ex,b∉X.B7
 JP:X.GE.heap.FunFrames X.base X.outer
 P6:∀b∈X.B7,X.L3 b=none
structure Inv(X:Ar)(A3:μ)(σ :↑(Option V))(H:AD)(s:AQ):Prop where
 ok:X.Ok
 os:s.os=X.GE.os
 bare:N2 s.gens
 base:G0 X.B7 X.ex X.L3 H X.GE.heap s.heap
 loc:∃m,s.heap.Ns X.env.locals m/\∀(i:Nat)(x:Str)(v:V),X.N[i]?=↥x-> σ[i]?=↥↥v->Y7 X.env.scope x->∃u,RelV v u/\Look X.env s.heap m x u
 cell:∀x c,X.env.cells.lookup x=↥c->∃v,s.heap.IsCell c v
 free:H X.env.locals=none
 KV:∀x c,X.env.cells.lookup x=↥c->H c=none
 pin:∀p∈X.D1++A3,s.heap.get? p.1=↥p.2/\H p.1=none/\p.1≠X.env.locals/\p.1∉X.B7/\∀v,p.2.data≠.cell v
 B0:Es X.prog X.w H s.heap
 len:⇑σ =⇑X.N
section
variable{X:Ar}{A3:μ}{σ :↑(Option V)}{H A9:AD}{s:AQ}{h':BF}
def Ar.Ok.abf(ok:X.Ok){b:A7}{o:Obj}(e:X.base.get? b=↥o):b∉X.B7:=λA4=>by have:=(ok.JP.mem A4).1;rw[e]at this;cases this
theorem Inv.bs(Z:θ):∀b o,X.base.get? b=↥o->s.heap.get? b=↥o/\H b=none:=λb o e=>
 ⟨Z.base.keep b o (Z.ok.bs b o e).1 (Z.ok.bs b o e).2 (Z.ok.abf e) (Z.ok.UC b o e),Z.base.free b o (Z.ok.bs b o e).1 (Z.ok.bs b o e).2 (Z.ok.UC b o e)⟩
def Inv.BN(Z:θ):∀b o,X.base.get? b=↥o->s.heap.get? b=↥o:=λb o e=>(Z.bs b o e).1
theorem Inv.mod(Z:θ):Mod X.K X.mg X.base:=Z.ok.mod
def Inv.F8(Z:θ):X.K.In s.heap:=Z.ok.mod.R3.keeps Z.BN
theorem Inv.lt(Z:θ):X.env.locals<s.heap.objs.size:=let⟨_,AZ,_⟩:=Z.loc;AZ.lt
def Inv.QR(Z:θ):X.GE.heap.objs.size<=s.heap.objs.size:=Iw Z.ok.above (Qg Z.lt)
def Inv.abh(Z:θ){a:A7}(h:s.heap.objs.size<=a):a∉X.B7:=λA4=>by obtain⟨_,o,ho,_⟩:=Z.ok.JP.mem A4;exact absurd (GH (E3 ho) (Iw Z.QR h)) (Lc _)
def Inv.RB(Z:θ):∀x c,X.env.cells.lookup x=↥c->c≠X.env.locals:=λx c e z=>by obtain⟨v,o,ho,hd⟩:=Z.cell x c e;obtain⟨m,⟨o',es,BA,IS,PA,_⟩,_⟩:=Z.loc;rw[z,IS]at ho;cases ho;rw[PA]at hd;cases hd
theorem Inv.JP(Z:θ):s.heap.FunFrames X.base X.outer:=by
 have all:∀(l:↑Env),(∀b∈Ew l,b∈X.B7)->X.GE.heap.FunFrames X.base l->s.heap.FunFrames X.base l:=by
  intro l;induction l with
  |nil=>intro _ _;trivial
  |cons env r C4=>intro AP AH;obtain⟨AN,⟨L,o,hf,AZ,ho,hd⟩,BH⟩:=AH;have HQ:L∈X.B7:=AP L (by unfold Ew;rw[S6,hf];exact Hs);obtain⟨C3,e⟩:=Z.base.slot L o ho (Z.ok.P6 L HQ) HQ λz=>Z.ok.Vs L z HQ;exact⟨AN,⟨L,_,hf,AZ,e,hd⟩,C4 (λb A4=>AP b (by unfold Ew;rw[S6,hf];exact Gw _ A4)) BH⟩
 exact all X.outer (λ_ A4=>A4) Z.ok.JP
theorem Inv.stack(Z:θ):s.heap.FunFrames X.base X.stack:=by
 rcases Z.ok.WM with e|⟨e,hf⟩
 .rw[e];exact Z.JP
 .rw[e];obtain⟨m,AZ,_⟩:=Z.loc;refine .cons (by rw[Z.ok.kind];decide) hf AZ ?_ Z.JP;exact Heap.get?_none_of_le (Iw Z.ok.Nf Z.ok.above)
def Inv.aO(Z:θ):∀b∈Ew X.stack,b∈X.env.locals::X.B7:=λb A4=>by
 rcases Z.ok.WM with e|⟨e,hf⟩
 .rw[e]at A4;exact Gw _ A4
 .rw[e]at A4;unfold Ew at A4;rw[S6,hf]at A4;exact A4
def Inv.e_(Z:θ):∀b∈Ew X.stack,H b=none:=λb A4=>by
 rcases List.mem_cons.mp (Z.aO b A4)with e|A4
 .rw[e];exact Z.free
 .obtain⟨_,o,ho,_⟩:=Z.ok.JP.mem A4;exact Z.base.free b o ho (Z.ok.P6 b A4) λz=>Z.ok.Vs b z A4
def Inv.step{g':Array GenState}{t':Nat}{d':Drawn}{ch:↑A7}(Z:θ)(NE:∀b∈ch,(b∈X.ex\/X.GE.heap.objs.size<=b)/\b≠X.env.locals/\(∀x c,X.env.cells.lookup x=↥c->c≠b)/\∀p∈X.D1++A3,p.1≠b)(keep:∀b o,b≠X.env.locals->b∉X.B7->b∉ch->s.heap.get? b=↥o->H b=none->h'.get? b=↥o)(slot:∀b o,b≠X.env.locals->b∈X.B7->b∉ch->s.heap.get? b=↥o->H b=none->∃C3,h'.get? b=some { o with slots:=C3 })(free:∀b o,b∉ch->s.heap.get? b=↥o->H b=none->A9 b=none)(there:∀b o,b∉ch->s.heap.get? b=↥o->∃o',h'.get? b=↥o')(JB:∀b xs,H b=↥(.tup xs)->A9 b=↥(.tup xs))(Ha:∀b o u,H b=↥(.D7 o u)->A9 b=↥(.D7 o u))(J9:∀b ps,H b=↥(.OJ ps)->∃more,A9 b=↥(.OJ (ps++more)))(ns:∀m,s.heap.Ns X.env.locals m->h'.Ns X.env.locals m)(B0:Es X.prog X.w A9 h')(Ai:N2 g') :
  Inv X A3 σ A9 { s with heap:=h',gens:=g',drawn:=d',toks:=t' }:=by
 have kx:∀b o,X.GE.heap.get? b=↥o->b≠X.env.locals:=λb o e=>F0 (GH (E3 e) Z.ok.above);have Zp:∀b o,X.GE.heap.get? b=↥o->b∉X.ex->b∉ch:=λb o e AF A4=>by
  rcases(NE b A4).1 with z|z
  .exact AF z
  .exact absurd (GH (E3 e) z) (Lc _)
 have cellK:∀x c,X.env.cells.lookup x=↥c->∀v,s.heap.IsCell c v->h'.IsCell c v:=λx c e v⟨o,ho,hd⟩=>by
  have W4:c∉ch:=λz=>(NE c z).2.2.1 x c e rfl;by_cases AJ:c∈X.B7
  .obtain⟨C3,q⟩:=slot c o (Z.RB x c e) AJ W4 ho (Z.KV x c e);exact⟨_,q,hd⟩
  .exact⟨o,keep c o (Z.RB x c e) AJ W4 ho (Z.KV x c e),hd⟩
 refine⟨Z.ok,Z.os,Ai,⟨λb o e n A4 AF=>?_,λb o e n A4 AF=>?_,λb o e n AF=>?_,λb o e AF=>?_,λb xs e=>JB b xs (Z.base.JB b xs e),λb o xs e=>Ha b o xs (Z.base.Ha b o xs e),λb ps e=>?_⟩,?_,λx c e=>?_,?_,λx c e=>?_,λp AT=>?_,B0,Z.len⟩
 .exact keep b o (kx b o e) A4 (Zp b o e AF) (Z.base.keep b o e n A4 AF) (Z.base.free b o e n AF)
 .obtain⟨C3,AA⟩:=Z.base.slot b o e n A4 AF;obtain⟨eV,AE⟩:=slot b _ (kx b o e) A4 (Zp b o e AF) AA (Z.base.free b o e n AF);exact⟨eV,AE⟩
 .obtain⟨o',AA⟩:=Z.base.there b o e AF;exact free b o' (Zp b o e AF) AA (Z.base.free b o e n AF)
 .obtain⟨o',AA⟩:=Z.base.there b o e AF;exact there b o' (Zp b o e AF) AA
 .obtain⟨GP,AA⟩:=Z.base.J9 b ps e;obtain⟨HR,AE⟩:=J9 b _ AA;exact⟨GP++HR,by rw[AE,gQ]⟩
 .obtain⟨m,AZ,AH⟩:=Z.loc;refine⟨m,ns m AZ,λi x v AA AE Cd=>?_⟩;obtain⟨u,r,l⟩:=AH i x v AA AE Cd;refine⟨u,r,?_⟩;rcases l with l|⟨k,c,e,z⟩
  .exact .inl l
  .exact .inr ⟨k,c,e,cellK x c e _ z⟩
 .obtain⟨v,z⟩:=Z.cell x c e;exact⟨v,cellK x c e v z⟩
 .obtain⟨m,⟨o,_,_,ho,_⟩,_⟩:=Z.loc;exact free _ o (λz=>(NE _ z).2.1 rfl) ho Z.free
 .obtain⟨v,o,ho,hd⟩:=Z.cell x c e;exact free c o (λz=>(NE c z).2.2.1 x c e rfl) ho (Z.KV x c e)
 .obtain⟨e,n,ne,Il,d⟩:=Z.pin p AT;have W4:p.1∉ch:=λz=>(NE p.1 z).2.2.2 p AT rfl;exact⟨keep p.1 p.2 ne Il W4 e n,free p.1 p.2 W4 e n,ne,Il,d⟩
def Inv.un{t':Nat}(Z:θ)(u:G0 X.B7 [] H A9 s.heap h')(B0:Es X.prog X.w A9 h'):Inv X A3 σ A9 { s with heap:=h',toks:=t' }:=by
 obtain⟨m,⟨o,es,BA,ho,r⟩,_⟩:=id Z.loc;obtain⟨C3,HQ⟩:=u.any ho Z.free γ;exact Z.step (g':=s.gens) (d':=s.drawn) (ch:=[]) (λ_ z=>nomatch z) (λb o _ A4 _ e n=>u.keep b o e n A4 γ) (λb o _ A4 _ e n=>u.slot b o e n A4 γ) (λb o _ e n=>u.free b o e n γ) (λb o _ e=>u.there b o e γ) u.JB u.Ha u.J9 (λEB hm=>by obtain⟨o',es',No,IS,Bf⟩:=hm;rw[ho]at IS;cases IS;exact⟨_,es',No,HQ,Bf⟩) B0 Z.bare
def Inv.call{g':Array GenState}{t':Nat}{d':Drawn}{ch:↑A7}(Z:θ)(u:G0 (Ew X.stack) ch H A9 s.heap h')(B0:Es X.prog X.w A9 h')(Ai:N2 g')(NE:∀b∈ch,(b∈X.ex\/X.GE.heap.objs.size<=b)/\b≠X.env.locals/\(∀x c,X.env.cells.lookup x=↥c->c≠b)/\∀p∈X.D1++A3,p.1≠b) :
  Inv X A3 σ A9 { s with heap:=h',gens:=g',drawn:=d',toks:=t' }:=by
 obtain⟨m,⟨o,es,BA,ho,r⟩,_⟩:=id Z.loc;obtain⟨C3,HQ⟩:=u.any ho Z.free λz=>(NE _ z).2.1 rfl;exact Z.step (ch:=ch) NE (λb o HQ A4 AJ e n=>u.keep b o e n (λz=>(List.mem_cons.mp (Z.aO b z)).elim HQ A4) AJ) (λb o _ _ AJ e n=>u.any e n AJ) (λb o AJ e n=>u.free b o e n AJ) (λb o AJ e=>u.there b o e AJ) u.JB u.Ha u.J9 (λEB hm=>by obtain⟨o',es',No,IS,Bf⟩:=hm;rw[ho]at IS;cases IS;exact⟨_,es',No,HQ,Bf⟩) B0 Ai
def Inv.turned{t':Nat}{it:A7}(Z:θ)(k:∀b o,b≠it->s.heap.get? b=↥o->h'.get? b=↥o)(AZ:H it=none)(HQ:it≠X.env.locals)(h1:it∈X.ex\/X.GE.heap.objs.size<=it)(h2:∀x c,X.env.cells.lookup x=↥c->c≠it)(AY:∀p∈X.D1++A3,p.1≠it):Inv X A3 σ H { s with heap:=h',toks:=t' }:=by
 have Q3:∀b u,H b=↥u->b≠it:=λb u e z=>by rw[z,AZ]at e;cases e
 refine Z.step (g':=s.gens) (d':=s.drawn) (ch:=[it]) (λb A4=>?_) (λb o _ _ AJ e _=>k b o (λz=>AJ (by simp[z])) e) (λb o _ _ AJ e _=>⟨o.slots,k b o (λz=>AJ (by simp[z])) e⟩) (λ_ _ _ _ n=>n)
  (λb o AJ e=>⟨o,k b o (λz=>AJ (by simp[z])) e⟩) (λ_ _ e=>e) (λ_ _ _ e=>e) (λb ps e=>⟨#[],by rw[e];simp⟩) (λm hm=>?_) (λb u e=>?_) Z.bare
 .have e:b=it:=by simpa using A4
  subst e;exact⟨h1,HQ,h2,AY⟩
 .obtain⟨o,es,BA,ho,r⟩:=hm;exact⟨o,es,BA,k _ o (N3 HQ) ho,r⟩
 .refine(Z.B0 b u e).N_ (λc v AJ q=>k c v ?_ q) (λ_ q=>q) λ_ _ q=>q;rcases AJ with z|z
  .rw[z];exact Q3 b u e
  .exact Q3 c _ z
def Inv.tok(Z:θ)(t:Nat):Inv X A3 σ H { s with toks:=t }:=Z.un (h':=s.heap) (t':=t) G0.refl Z.B0
theorem Inv.kept{t':Nat}(Z:θ)(k:∀b u,s.heap.get? b=↥u->h'.get? b=↥u):Inv X A3 σ H { s with heap:=h',toks:=t' }:=Z.un (G0.kept k) (Z.B0.kept k)
theorem Inv.laid{a:A7}{o:F3}{t':Nat}(Z:θ)(k:∀b u,s.heap.get? b=↥u->h'.get? b=↥u)(AT:s.heap.objs.size<=a)(new:Ds X.prog X.w (upd H a o) h' a o) :
  Inv X A3 σ (upd H a o) { s with heap:=h',toks:=t' }:=Z.un (G0.laid k AT (Z.B0.fresh AT)) (Z.B0.laid k AT new)
theorem Inv.write{x e:A7}{o:F3}{t':Nat}(Z:θ)(JW:Um (H x))(he:e=x\/H e=↥(.own x))(k:∀b u,b≠e->s.heap.get? b=↥u->h'.get? b=↥u)(Tb:∃u,h'.get? e=↥u)(new:Ds X.prog X.w (upd H x o) h' x o):Inv X A3 σ (upd H x o) { s with heap:=h',toks:=t' }:=Z.un (G0.write JW he k Tb) (Z.B0.write JW he k Tb new)
def Inv.mC{mL:μ}(Z:θ)(h:∀p∈mL,s.heap.get? p.1=↥p.2/\H p.1=none/\p.1≠X.env.locals/\p.1∉X.B7/\∀v,p.2.data≠.cell v):Inv X mL σ H s:=
 ⟨Z.ok,Z.os,Z.bare,Z.base,Z.loc,Z.cell,Z.free,Z.KV,λp AT=>(List.mem_append.mp AT).elim (λz=>Z.pin p (Gx _ z)) (h p),Z.B0,Z.len⟩
def l0{N:↑Str}(hN:N.Nodup){i j:Nat}{x:Str}(a:N[i]?=↥x)(b:N[j]?=↥x):i=j:=by obtain⟨h1,AA⟩:=List.getElem?_eq_some_iff.mp a;obtain⟨h2,AE⟩:=List.getElem?_eq_some_iff.mp b;exact(XK hN).mp (AA.trans AE.symm)
def r6{M:Model}{A:D2}{E:A8->AQ->Prop}{i:Nat}{x:Str}{v:V}{u:A8}{Q:Unit->AQ->Prop}(Z:θ)(hN:X.N.Nodup)(hi:X.N[i]?=↥x)(AF:Loc X.env.scope x)(r:RelV v u)(h:∀s',Inv X A3 (σ.set i ↥v) H s'->(∃a,Kz a s.heap s'.heap/\(a=X.env.locals\/X.env.cells.lookup x=↥a))->Q () s')(hf:X.fn x=true\/X.env.scope.names.lookup x=↥.local:=by first|exact .inl rfl|exact .inr rfl|assumption):An M A (storeName X.env x u) Q E s:=by
 obtain⟨m,AZ,AH⟩:=id Z.loc;have wk:(X.env.scope.kind==.class||(X.env.scope.kind==.module&&X.env.locals !=X.env.globals))=false:=by rw[Z.ok.kind];rfl
 have hiσ :i< ⇑σ :=by rw[Z.len];exact(List.getElem?_eq_some_iff.mp hi).1
 have RB:=Z.RB;have tracked:∀{a:A7}{h':BF},(∃o,s.heap.get? a=↥o/\H a=none)->Kz a s.heap h'->Es X.prog X.w H h':=λ{a h'} AG AP b BI e=>by
  obtain⟨_,_,Ys⟩:=AG;refine(Z.B0 b BI e).N_ (λc Cb AJ q=>(AP.2 c ?_).trans q) (λ_ q=>q) λ_ _ q=>q;rintro rfl;rcases AJ with rfl|AJ
  .rw[Ys]at e;cases e
  .rw[Ys]at AJ;cases AJ
 rcases AF with AN|AN
 .refine wpAny_storeName_local AN AZ (λh' e4 AP=>?_) wk;obtain⟨abq,_,_,xo,_⟩:=id AZ;refine h _ ⟨Z.ok,Z.os,Z.bare,⟨λb o e n A4 AF=>?_,λb o e n A4 AF=>?_,Z.base.free,λb o e AF=>?_,Z.base.JB,Z.base.Ha,Z.base.J9⟩,⟨_,e4,λj y JC AA AE Cd=>?_⟩,λy c e=>?_,Z.free,Z.KV,λp AT=>?_,tracked ⟨abq,xo,Z.free⟩ AP,(Z.len:)⟩ ⟨_,AP,.inl rfl⟩
  .exact(AP.2 b (F0 (GH (E3 e) Z.ok.above))).trans (Z.base.keep b o e n A4 AF)
  .obtain⟨C3,AA⟩:=Z.base.slot b o e n A4 AF;exact⟨C3,(AP.2 b (F0 (GH (E3 e) Z.ok.above))).trans AA⟩
  .obtain⟨o',AA⟩:=Z.base.there b o e AF;exact⟨o',(AP.2 b (F0 (GH (E3 e) Z.ok.above))).trans AA⟩
  .by_cases Ac:j=i
   .subst Ac;rw[hi]at AA;cases AA;rw[Ku hiσ]at AE;cases AE;exact⟨u,r,.inl ⟨AN,γ⟩⟩
   .rw[ML (N3 Ac)]at AE;obtain⟨Jd,Bf,q⟩:=AH j y JC AA AE Cd;refine⟨Jd,Bf,?_⟩;rcases q with⟨k,e⟩|⟨k,c,e,z⟩
    .refine .inl ⟨k,?_⟩;have:y≠x:=λe=>Ac (l0 hN AA (e▸hi));simp[this,e]
    .exact .inr ⟨k,c,e,z.sameBut AP (RB y c e)⟩
  .obtain⟨Cb,z⟩:=Z.cell y c e;exact⟨Cb,z.sameBut AP (RB y c e)⟩
  .obtain⟨e,n,ne,Il,d⟩:=Z.pin p AT;exact⟨(AP.2 p.1 ne).trans e,n,ne,Il,d⟩
 .have cL:X.fn x=true:=by
    rcases hf with z|z
    .exact z
    .rw[z]at AN;cases AN
  obtain⟨c,AJ⟩:=Z.ok.has x (.inl AN);obtain⟨Cb,z⟩:=Z.cell x c AJ;refine wpAny_storeName_cell Z.ok.kind AN AJ z (λh' Mc AP=>?_);obtain⟨GS,km,xr⟩:=id z;refine h { s with heap:=h' } ⟨Z.ok,Z.os,Z.bare,⟨λb o e n A4 AF=>?_,λb o e n A4 AF=>?_,Z.base.free,λb o e AF=>?_,Z.base.JB,Z.base.Ha,Z.base.J9⟩,⟨m,AZ.sameBut AP (N3 (RB x c AJ)),λj y JC AA AE Cd=>?_⟩,λy Gb e=>?_,Z.free,Z.KV,λp AT=>?_,tracked ⟨GS,km,Z.KV x c AJ⟩ AP,(Z.len:)⟩ ⟨c,AP,.inr AJ⟩
  .exact(AP.2 b (F0 (GH (E3 e) (Z.ok.SX x c cL AJ)))).trans (Z.base.keep b o e n A4 AF)
  .obtain⟨C3,AA⟩:=Z.base.slot b o e n A4 AF;exact⟨C3,(AP.2 b (F0 (GH (E3 e) (Z.ok.SX x c cL AJ)))).trans AA⟩
  .obtain⟨o',AA⟩:=Z.base.there b o e AF;exact⟨o',(AP.2 b (F0 (GH (E3 e) (Z.ok.SX x c cL AJ)))).trans AA⟩
  .by_cases Ac:j=i
   .subst Ac;rw[hi]at AA;cases AA;rw[Ku hiσ]at AE;cases AE;exact⟨u,r,.inr ⟨.inl AN,c,AJ,Mc⟩⟩
   .rw[ML (N3 Ac)]at AE;obtain⟨Jd,Bf,q⟩:=AH j y JC AA AE Cd;refine⟨Jd,Bf,?_⟩;rcases q with q|⟨k,Gb,e,F_⟩
    .exact .inl q
    .refine .inr ⟨k,Gb,e,F_.sameBut AP ?_⟩;rintro rfl;exact Ac (l0 hN AA (Z.ok.inj _ _ _ e AJ▸hi))
  .by_cases kV:Gb=c
   .subst kV;exact⟨_,Mc⟩
   .obtain⟨H5,Ez⟩:=Z.cell y Gb e;exact⟨H5,Ez.sameBut AP kV⟩
  .obtain⟨e,n,ne,Il,d⟩:=Z.pin p AT;refine⟨(AP.2 p.1 ?_).trans e,n,ne,Il,d⟩;intro q;rw[q,km]at e;have Cp:GS=p.2:=Fy e;exact d Cb (by rw[<-Cp];exact xr)
def ea{M:Model}{A:D2}{E:A8->AQ->Prop}{i:Nat}{x:Str}{v:V}{u:A8}{Q:Unit->AQ->Prop}(Z:θ)(hN:X.N.Nodup)(hi:X.N[i]?=↥x)(AF:Loc X.env.scope x)(r:RelV v u)(h:∀s',Inv X A3 (σ.set i ↥v) H s'->Q () s')(hf:X.fn x=true\/X.env.scope.names.lookup x=↥.local:=by first|exact .inl rfl|exact .inr rfl|assumption):An M A (storeName X.env x u) Q E s:=
 r6 Z hN hi AF r (λs' HH _=>h s' HH) hf
def Inv.iG{s':AQ}{ch:↑A7}(Z:θ)(ho:s'.os=s.os)(u:G0 (Ew X.stack) ch H A9 s.heap s'.heap)(B0:Es X.prog X.w A9 s'.heap)(Ai:N2 s'.gens)(NE:∀b∈ch,(b∈X.ex\/X.GE.heap.objs.size<=b)/\b≠X.env.locals/\(∀x c,X.env.cells.lookup x=↥c->c≠b)/\∀p∈X.D1++A3,p.1≠b):Inv X A3 σ A9 s':=by obtain⟨h',g',d',t',o'⟩:=s';have e:o'=s.os:=ho;subst e;exact Z.call (g':=g') (t':=t') (d':=d') u B0 Ai NE
end
abbrev Ev:=A8->Option A7->AD->Prop
abbrev St:=↑(Option V)
abbrev CY:=V->AD->Prop
abbrev TE:=St->AD->CY->Prop
abbrev TT:=St->AD->(Bool->AD->Prop)->Prop
abbrev Fb:=St->AD->(↑V->AD->Prop)->Prop
structure Ends where
 AM:St->AD->Prop
 Dq:CY
 BN:St->AD->Prop:=λ_ _=>False
 D6:St->AD->Prop:=λ_ _=>False
abbrev F4:=Ends->St->AD->Prop
def H6(X:Ar)(A3:μ)(σ :St)(Q:CY)(u:A8)(s':AQ):Prop:=∃v A9,Inv X A3 σ A9 s'/\RelV v u/\Q v A9
def Y6(X:Ar)(A3:μ)(σ :St)(Q:Bool->AD->Prop)(b:Bool)(s':AQ):Prop:=∃A9,Inv X A3 σ A9 s'/\Q b A9
def t2(X:Ar)(A3:μ)(σ :St)(Q:↑V->AD->Prop)(us:↑A8)(s':AQ):Prop:=∃vs A9,Inv X A3 σ A9 s'/\Vals vs us/\Q vs A9
def QD(X:Ar)(A3:μ)(D:Ends)(f:Flow)(s':AQ):Prop:=
 match f with
 |.next=>∃ σ' A9,Inv X A3 σ' A9 s'/\D.AM σ' A9
 |.brk=>∃ σ' A9,Inv X A3 σ' A9 s'/\D.BN σ' A9
 |.cont=>∃ σ' A9,Inv X A3 σ' A9 s'/\D.D6 σ' A9
 |.ret u=>∃v σ' A9,Inv X A3 σ' A9 s'/\RelV v u/\D.Dq v A9
def Ah(X:Ar)(e:Aq)(t:TE):Prop:=
 ∀(A3:μ)(s:AQ)(σ :St)(H:AD)(Q:CY),θ->t σ H Q->An ξ X.A (Bc e X.env) (H6 X A3 σ Q) X.DC s
def EY(X:Ar)(e:Aq)(t:TT):Prop:=
 ∀(A3:μ)(s:AQ)(σ :St)(H:AD)(Q:Bool->AD->Prop),θ->t σ H Q->An ξ X.A (isTrue e X.env (Bc e X.env)) (Y6 X A3 σ Q) X.DC s
def Jt(X:Ar)(e:Aq)(t:TT):Prop:=
 ∀(whole:Sem A8)(A3:μ)(s:AQ)(σ :St)(H:AD)(Q:Bool->AD->Prop),θ->t σ H Q->An ξ X.A (isTrue e X.env whole) (Y6 X A3 σ Q) X.DC s
def Jt.pt{X:Ar}{e:Aq}{t:TT}(h:Jt X e t):EY X e t:=h _
def H9(X:Ar)(es:↑Aq)(t:Fb):Prop:=
 ∀(pos:Pos)(A3:μ)(s:AQ)(σ :St)(H:AD)(Q:↑V->AD->Prop),θ->t σ H Q->An ξ X.A (spliced (Fa pos (CM es X.env))) (t2 X A3 σ Q) X.DC s
def DX(X:Ar)(st:BE)(t:F4):Prop:=
 ∀(A3:μ)(s:AQ)(σ :St)(H:AD)(D:Ends),θ->t D σ H->An ξ X.A (exec st X.env) (QD X A3 D) X.DC s
def HK(X:Ar)(st:↑BE)(t:F4):Prop:=
 ∀(A3:μ)(s:AQ)(σ :St)(H:AD)(D:Ends),θ->t D σ H->An ξ X.A (execs st X.env) (QD X A3 D) X.DC s
def Ba{α:Type}{t:Sem α}{Q Hf:α->AQ->Prop}{M:Model}{A:D2}{E:A8->AQ->Prop}{s:AQ}(h:An M A t Q E s)(HD:∀a s,Q a s->Hf a s):An M A t Hf E s:=HW h HD λ_ _ x=>x
section
variable{X:Ar}
def bin{a b:Aq}{BW tb:TE}(AG:Ah X a BW)(A4:Ah X b tb){A3:μ}{s:AQ}{σ :St}{H:AD}{R:V->V->AD->Prop}(Z:θ)(h:BW σ H λx H1=>tb σ H1 λy AU=>R x y AU){α:Type}{Q:α->AQ->Prop}{f:A8->A8->Sem α}(hf:∀v u s2 x y AU,Inv X A3 σ AU s2->RelV x v->RelV y u->R x y AU->An ξ X.A (f v u) Q X.DC s2) :
  An ξ X.A (Bc a X.env) (λv Cx=>An ξ X.A (Bc b X.env) (λu Jb=>An ξ X.A (f v u) Q X.DC Jb) X.DC Cx) X.DC s:=by
 refine Ba (AG A3 s σ H _ Z h) λv s1⟨x,H1,Ad,Aw,q1⟩=>?_;refine Ba (A4 A3 s1 σ H1 _ Ad q1) λu s2⟨y,AU,Bj,BL,q2⟩=>?_;exact hf v u s2 x y AU Bj Aw BL q2
def qq(i:Nat):TE:=λσ H Q=>∃v,σ[i]?=↥↥v/\Q v H
def QU(v:V):TE:=λ_ H Q=>Q v H
def acS{i:Nat}{x:Str}{pos:Pos}(hN:X.N[i]?=↥x)(CG:Y7 X.env.scope x)(hd:(x==("__debug__" :Str))=false:=by decide)(LW:(x==("__classdict__" :Str))=false:=by decide):Ah X (.Name x pos) (qq i):=by
 intro A3 s σ H Q Z h;obtain⟨v,e,h⟩:=h;obtain⟨m,AZ,AH⟩:=Z.loc;obtain⟨u,r,l⟩:=AH i x v hN e CG;have fin:H6 X A3 σ Q u s:=⟨v,H,Z,r,h⟩;rcases l with⟨AN,hm⟩|⟨AN,c,AJ,kW⟩
 .exact wpAny_Name (wpAny_loadName_local Z.ok.kind AN AZ hm fin) hd
 .rcases AN with AN|AN
  .exact wpAny_Name (wpAny_loadName_cell Z.ok.kind AN AJ kW fin) hd
  .exact wpAny_Name (wpAny_loadName_free Z.ok.kind AN AJ kW fin LW) hd
def aco{i j pos}:Ah X (.Constant (.int i) j pos) (QU (.int i)):=λ_ _ _ H _ Z h=>wpAny_Constant_int ⟨.int i,H,Z.tok _,⟨_,rfl⟩,h⟩
def acb{b j pos}:Ah X (.Constant (.bool b) j pos) (QU (.AO b)):=λ_ _ _ H _ Z h=>Constant_bool ⟨.AO b,H,Z,rfl,h⟩
def acw{j pos}:Ah X (.Constant .none j pos) (QU .non):=λ_ _ _ H _ Z h=>Constant_none ⟨.non,H,Z,rfl,h⟩
def m8{x j pos}:Ah X (.Constant (.str x) j pos) (QU (.str x)):=λ_ _ _ H _ Z h=>Calls.Constant_str ⟨.str x,H,Z.tok _,⟨_,rfl⟩,h⟩
def Eh(X:Ar)(x:Str):Prop:=X.env.kindOf x=↥.globalImplicit
def WQ{E:A8->AQ->Prop}{A3:μ}{s:AQ}{σ :St}{H:AD}{x:Str}{u:A8}{pos:Pos}{Q:A8->AQ->Prop}(Z:θ)(Ai:Eh X x)(hm:X.mg x=↥u)(h:Q u s)(hd:(x==("__debug__" :Str))=false:=by decide):An ξ X.A (Bc (.Name x pos) X.env) Q E s:=
 ro Z.ok.kind Ai (Calls.loadGlobal_global (by rw[Z.ok.glob];exact Z.mod.glob.keeps Z.BN) hm h) hd
def O_{E:A8->AQ->Prop}{A3:μ}{s:AQ}{σ :St}{H:AD}{x:Str}{u:A8}{pos:Pos}{Q:A8->AQ->Prop}(Z:θ)(Ai:Eh X x)(hm:X.mg x=none)(CG:O1 x=↥u)(h:Q u s)(AZ:x≠"__name__":=by decide)(hd:(x==("__debug__" :Str))=false:=by decide):An ξ X.A (Bc (.Name x pos) X.env) Q E s:=by obtain⟨Gi,h1,h2⟩:=Z.mod.blt;exact ro Z.ok.kind Ai (Calls.loadGlobal_builtin (by rw[Z.ok.glob];exact Z.mod.glob.keeps Z.BN) hm (by rw[Z.ok.blt];exact h1.keeps Z.BN) ((h2 x AZ).trans CG) h) hd
def acm{x:Str}{v:V}{u:A8}{pos:Pos}(Ai:Eh X x)(hm:X.mg x=↥u)(r:RelV v u)(hd:(x==("__debug__" :Str))=false:=by decide):Ah X (.Name x pos) (QU v):=
 λ_ _ _ H _ Z h=>WQ Z Ai hm ⟨v,H,Z,r,h⟩ hd
def acd{x:Str}{v:V}{u:A8}{pos:Pos}(Ai:Eh X x)(hm:X.mg x=none)(CG:O1 x=↥u)(r:RelV v u)(AZ:x≠"__name__":=by decide)(hd:(x==("__debug__" :Str))=false:=by decide):Ah X (.Name x pos) (QU v):=
 λ_ _ _ H _ Z h=>O_ Z Ai hm CG ⟨v,H,Z,r,h⟩ AZ hd
variable{a b:Aq}{BW tb:TE}{pos:Pos}
def tJ(X:Ar)(op:CmpOp)(a b:Aq)(t:TE):Prop:=
 ∀(A3:μ)(s:AQ)(σ :St)(H:AD)(Q:CY),θ->t σ H Q->
  An ξ X.A (Bc a X.env) (λv Cx=>An ξ X.A (Bc b X.env) (λu Jb=>An ξ X.A (G4 op v u) (H6 X A3 σ Q) X.DC Jb) X.DC Cx) X.DC s
def abe(b:Aq){op:CmpOp}(h:op≠.In)(h2:op≠.NotIn):MN op b=false:=by
 have AA:(op==CmpOp.In)=false:=by cases op<;>first|rfl|exact absurd rfl h
 have AE:(op==CmpOp.NotIn)=false:=by cases op<;>first|rfl|exact absurd rfl h2
 cases b<;>simp[MN,AA,AE]
noncomputable def ft(t:TE):TT:=λσ H Q=>t σ H λx H1=>∃c,x=.AO c/\Q c H1
def ajP{op:CmpOp}{t:TE}(h:tJ X op a b t)(h1:MN op b=false:=by first|exact abe _ ε ε|rfl):EY X (.Compare a [op] [b] pos) (ft t):=by intro A3 s σ H Q Z hw;refine wpAny_isTrue_Compare1 (Ba (h A3 s σ H _ Z hw) λv s1 h1=>Ba h1 λu s2 h2=>Ba h2 λc s3⟨x,H1,Ad,Aw,q1⟩=>?_) h1;obtain⟨d,rfl,q⟩:=q1;cases Aw;exact MI ⟨H1,Ad,q⟩
def adw{e:Aq}{t:TE}(h:Ah X e t)(he:∀whole,isTrue e X.env whole=(do let v <-whole;MP e.pos;JI [v] (truthy v)):=by intro _;rfl):EY X e (ft t):=by intro A3 s σ H Q Z hw;refine isTrue_plain (Ba (h A3 s σ H _ Z hw) λv s1⟨x,H1,Ad,Aw,q1⟩=>?_) (he _);obtain⟨d,rfl,q⟩:=q1;cases Aw;exact MI ⟨H1,Ad,q⟩
variable{GY aS:TT}{rest:↑Aq}
noncomputable def rA(t u:TT):TT:=λσ H Q=>t σ H λc H1=>if c=true then u σ H1 Q else Q false H1
noncomputable def qe(t u:TT):TT:=λσ H Q=>t σ H λc H1=>if c=true then Q true H1 else u σ H1 Q
noncomputable def qc(t:TT):TT:=λσ H Q=>t σ H λc H1=>Q (!c) H1
def ae2(AG:EY X a GY):Jt X (.BoolOp .And [a] pos) GY:=by
 intro OP A3 s σ H Q Z h;refine isTrue_and (Ba (AG A3 s σ H Q Z h) λc s1 e=>?_);cases c with
 |true=>exact isTrue_and_nil e
 |false=>exact e
def adT(AG:EY X a GY):Jt X (.BoolOp .Or [a] pos) GY:=by
 intro OP A3 s σ H Q Z h;refine isTrue_or (Ba (AG A3 s σ H Q Z h) λc s1 e=>?_);cases c with
 |false=>exact isTrue_or_nil e
 |true=>exact e
def ae1(AG:EY X a GY)(A4:Jt X (.BoolOp .And (b::rest) pos) aS):Jt X (.BoolOp .And (a::b::rest) pos) (rA GY aS):=by
 intro OP A3 s σ H Q Z h;refine isTrue_and (Ba (AG A3 s σ H _ Z h) λc s1⟨H1,Ad,q1⟩=>?_);cases c with
 |true=>exact A4 OP A3 s1 σ H1 Q Ad q1
 |false=>exact⟨H1,Ad,q1⟩
def adS(AG:EY X a GY)(A4:Jt X (.BoolOp .Or (b::rest) pos) aS):Jt X (.BoolOp .Or (a::b::rest) pos) (qe GY aS):=by
 intro OP A3 s σ H Q Z h;refine isTrue_or (Ba (AG A3 s σ H _ Z h) λc s1⟨H1,Ad,q1⟩=>?_);cases c with
 |true=>exact⟨H1,Ad,q1⟩
 |false=>exact A4 OP A3 s1 σ H1 Q Ad q1
def adv(AG:EY X a GY):EY X (.UnaryOp .Not a pos) (qc GY):=by intro A3 s σ H Q Z h;exact isTrue_not (AG A3 s σ H (λc H1=>Q (!c) H1) Z h)
noncomputable def rB(BW tb:TE):TE:=λσ H Q=>BW σ H λx H1=>∃c,x=.AO c/\if c=true then tb σ H1 Q else Q (.AO false) H1
noncomputable def qf(BW tb:TE):TE:=λσ H Q=>BW σ H λx H1=>∃c,x=.AO c/\if c=true then Q (.AO true) H1 else tb σ H1 Q
noncomputable def qd(BW:TE):TE:=λσ H Q=>BW σ H λx H1=>∃c,x=.AO c/\Q (.AO (!c)) H1
def acy{op}{t:TE}(h:Ah X a t):Ah X (.BoolOp op [a] pos) t:=λA3 s σ H Q Z hw=>BoolOp_one (h A3 s σ H Q Z hw)
def aca(AG:Ah X a BW)(A4:Ah X (.BoolOp .And (b::rest) pos) tb):Ah X (.BoolOp .And (a::b::rest) pos) (rB BW tb):=by
 intro A3 s σ H Q Z h;refine BoolOp_and (Ba (AG A3 s σ H _ Z h) λv s1⟨x,H1,Ad,Aw,q1⟩=>?_);obtain⟨c,rfl,q1⟩:=q1;cases Aw;refine MI ?_;cases c with
 |true=>exact A4 A3 s1 σ H1 Q Ad q1
 |false=>exact⟨.AO false,H1,Ad,rfl,q1⟩
def acz(AG:Ah X a BW)(A4:Ah X (.BoolOp .Or (b::rest) pos) tb):Ah X (.BoolOp .Or (a::b::rest) pos) (qf BW tb):=by
 intro A3 s σ H Q Z h;refine BoolOp_or (Ba (AG A3 s σ H _ Z h) λv s1⟨x,H1,Ad,Aw,q1⟩=>?_);obtain⟨c,rfl,q1⟩:=q1;cases Aw;refine MI ?_;cases c with
 |false=>exact A4 A3 s1 σ H1 Q Ad q1
 |true=>exact⟨.AO true,H1,Ad,rfl,q1⟩
def acx(AG:Ah X a BW):Ah X (.UnaryOp .Not a pos) (qd BW):=by intro A3 s σ H Q Z h;refine UnaryOp_ (Ba (AG A3 s σ H _ Z h) λv s1⟨x,H1,Ad,Aw,q1⟩=>?_);obtain⟨c,rfl,q1⟩:=q1;cases Aw;exact not_of (MI ⟨.AO (!c),H1,Ad,rfl,q1⟩)
noncomputable def rK(t:TT)(BW tb:TE):TE:=λσ H Q=>t σ H λc H1=>if c=true then BW σ H1 Q else tb σ H1 Q
def acn{c:Aq}(AJ:EY X c GY)(AG:Ah X a BW)(A4:Ah X b tb):Ah X (.IfExp c a b pos) (rK GY BW tb):=by
 intro A3 s σ H Q Z h;refine wpAny_IfExp (Ba (AJ A3 s σ H _ Z h) λd s1⟨H1,Ad,q1⟩=>?_);cases d with
 |true=>exact AG A3 s1 σ H1 Q Ad q1
 |false=>exact A4 A3 s1 σ H1 Q Ad q1
end
def Eu(K:Ap)(H:AD)(a:A7)(xs:↑V):Prop:=
 Lz H a (.lst xs)\/
  ∃(o:Obj)(its:Array A8)(n:Nat),K.lookup a=↥o/\o.cls=.type "list"/\o.dict=none/\o.data=.seq its n/\its.size<=CW/\Vals xs its.toList
def Ek(K:Ap)(H:AD)(a:A7)(xs:↑V):Prop:=
 Lz H a (.tup xs)\/
  ∃(o:Obj)(its:Array A8)(n:Nat),K.lookup a=↥o/\o.cls=.type "tuple"/\o.data=.seq its n/\its.size<=CW/\Vals xs its.toList
noncomputable def tP:A8->Option V
 |.none=>↥.non
 |.bool b=>↥(.AO b)
 |.int i _=>↥(.int i)
 |.str x _=>↥(.str x)
 |.bytes b _=>↥(.Pf b)
 |.float b _=>↥(.RE b)
 |.ref a=>↥(.ref a)
 |.type n=>↥(.ty n)
 |_=>none
def RelV.abs{x:V}{u:A8}(r:RelV x u):tP u=↥x:=by
 cases x with
 |non=>cases r;rfl
 |AO _=>cases r;rfl
 |int _=>obtain⟨t,rfl⟩:=r;rfl
 |str _=>obtain⟨t,rfl⟩:=r;rfl
 |Pf _=>obtain⟨t,rfl⟩:=r;rfl
 |RE _=>obtain⟨t,rfl⟩:=r;rfl
 |ref _=>cases r;rfl
 |ty _=>cases r;rfl
def RelV.inj{x y:V}{u:A8}(r:RelV x u)(q:RelV y u):x=y:=Fy (r.abs.symm.trans q.abs)
theorem Vals.inj:∀{xs ys:↑V}{us:↑A8},Vals xs us->Vals ys us->xs=ys
 |_,_,_,.nil,.nil=>rfl
 |_,_,_,.cons r t,.cons Bf t'=>by rw[r.inj Bf,Vals.inj t t']
section
variable{X:Ar}{A3:μ}{σ :St}{H:AD}{s:AQ}{a:A7}{xs ys:↑V}
def Inv.list(Z:θ)(h:Eu X.K H a xs):∃its:↑A8,Vals xs its/\PlainL s.heap a its.toArray/\ ⇑xs<=CW:=by
 rcases h with h|⟨o,its,n,AN,AJ,hd,AP,hz,r⟩
 .obtain⟨z,its,n,r,e⟩:=h.ok Z.B0;exact⟨its,r,⟨_,n,e,rfl,rfl,rfl⟩,z⟩
 .refine⟨its.toList,r,⟨o,n,Z.F8 a o AN,AJ,hd,(AP:)⟩,?_⟩;have e:=⇑r;erw[S7]at e;lia
def Inv.tuple(Z:θ)(h:Ek X.K H a xs):∃its:↑A8,Vals xs its/\IsTup s.heap a its.toArray/\ ⇑xs<=CW:=by
 rcases h with h|⟨o,its,n,AN,AJ,AP,hz,r⟩
 .obtain⟨z,its,r,p⟩:=h.ok Z.B0;exact⟨its,r,p,z⟩
 .refine⟨its.toList,r,⟨o,Z.F8 a o AN,AJ,n,(AP:)⟩,?_⟩;have e:=⇑r;erw[S7]at e;lia
def Inv.di(Z:θ)(h:Eu X.K H a xs)(h':Eu X.K H a ys):xs=ys:=by
 obtain⟨its,r,⟨o,n,e,_,_,d⟩,_⟩:=Z.list h;obtain⟨its',Bf,⟨o',W2,Bi,_,_,d'⟩,_⟩:=Z.list h';rw[e]at Bi;cases Bi;rw[d]at d';injection d' with d1 _;have:its=its':=(congrArg Array.toList d1:)
 subst this;exact r.inj Bf
def Inv.g6(Z:θ)(h:Ek X.K H a xs)(h':Ek X.K H a ys):xs=ys:=by
 obtain⟨its,r,⟨o,e,_,n,d⟩,_⟩:=Z.tuple h;obtain⟨its',Bf,⟨o',Bi,_,W2,d'⟩,_⟩:=Z.tuple h';rw[e]at Bi;cases Bi;rw[d]at d';injection d' with d1 _;have:its=its':=(congrArg Array.toList d1:)
 subst this;exact r.inj Bf
end
abbrev Ar.Kl(X:Ar)(E:A8->AQ->Prop):Ar:={ X with DC:=E }
abbrev Ar.Fq(X:Ar):Ar:=X.Kl λ_ _=>False
theorem Ar.Ok.Kl{X:Ar}(ok:X.Ok)(E:A8->AQ->Prop):(X.Kl E).Ok:=
 ⟨ok.mod,ok.kind,ok.glob,ok.blt,ok.above,ok.inj,ok.has,ok.SX,ok.hd,ok.frames,ok.WM,ok.cf,ok.bs,ok.Nf,ok.UC,ok.Vs,ok.JP,ok.P6⟩
def Ar.Ok.Kj{X:Ar}{E:A8->AQ->Prop}(ok:(X.Kl E).Ok):X.Ok:=
 ⟨ok.mod,ok.kind,ok.glob,ok.blt,ok.above,ok.inj,ok.has,ok.SX,ok.hd,ok.frames,ok.WM,ok.cf,ok.bs,ok.Nf,ok.UC,ok.Vs,ok.JP,ok.P6⟩
section
variable{X:Ar}{A3:μ}{σ :St}{H:AD}{s:AQ}{E:A8->AQ->Prop}
theorem Inv.Kl(Z:θ)(E:A8->AQ->Prop):Inv (X.Kl E) A3 σ H s:=⟨Z.ok.Kl E,Z.os,Z.bare,Z.base,Z.loc,Z.cell,Z.free,Z.KV,Z.pin,Z.B0,Z.len⟩
theorem Inv.Kj(Z:Inv (X.Kl E) A3 σ H s):θ:=⟨Z.ok.Kj,Z.os,Z.bare,Z.base,Z.loc,Z.cell,Z.free,Z.KV,Z.pin,Z.B0,Z.len⟩
theorem QD.Kj{D:Ends}{f:Flow}{s':AQ}(h:QD (X.Kl E) A3 D f s'):QD X A3 D f s':=by
 cases f with
 |next=>obtain⟨σ',A9,Z,q⟩:=h;exact⟨σ',A9,Z.Kj,q⟩
 |brk=>obtain⟨σ',A9,Z,q⟩:=h;exact⟨σ',A9,Z.Kj,q⟩
 |cont=>obtain⟨σ',A9,Z,q⟩:=h;exact⟨σ',A9,Z.Kj,q⟩
 |ret u=>obtain⟨v,σ',A9,Z,r,q⟩:=h;exact⟨v,σ',A9,Z.Kj,r,q⟩
theorem Ah.Fq{e:Aq}{t:TE}(h:Ah X.Fq e t):Ah X e t:=λA3 s σ H Q Z hw=>
 HW (h A3 s σ H Q (Z.Kl _) hw) (λ_ _⟨v,A9,HH,r,q⟩=>⟨v,A9,HH.Kj,r,q⟩) λ_ _ z=>HX z
theorem EY.Fq{e:Aq}{t:TT}(h:EY X.Fq e t):EY X e t:=λA3 s σ H Q Z hw=>
 HW (h A3 s σ H Q (Z.Kl _) hw) (λ_ _⟨A9,HH,q⟩=>⟨A9,HH.Kj,q⟩) λ_ _ z=>HX z
theorem HK.Fq{st:↑BE}{t:F4}(h:HK X.Fq st t):HK X st t:=λA3 s σ H D Z hw=>
 HW (h A3 s σ H D (Z.Kl _) hw) (λ_ _ q=>q.Kj) λ_ _ z=>HX z
end
section
variable{X:Ar}{st:BE}{rest:↑BE}{t u:F4}{e:Aq}{te:TE}{pos:Pos}
def aW:F4:=λD σ H=>D.AM σ H
noncomputable def qk(t u:F4):F4:=λD σ H=>t { D with AM:=u D } σ H
def ads:HK X [] aW:=λ_ _ σ H _ Z h=>SC ⟨σ,H,Z,h⟩
def adp(h1:DX X st t)(h2:HK X rest u):HK X (st::rest) (qk t u):=by
 intro A3 s σ H D Z h;refine gg (Ba (h1 A3 s σ H { D with AM:=u D } Z h) λf s1 q=>?_);cases f with
 |next=>obtain⟨σ',A9,HH,q⟩:=q;exact h2 A3 s1 σ' A9 D HH q
 |ret v=>exact q
 |brk=>exact q
 |cont=>exact q
def adt(h1:DX X st t):HK X [st] t:=by
 intro A3 s σ H D Z h;refine gg (Ba (h1 A3 s σ H D Z h) λf s1 q=>?_);cases f with
 |next=>exact SC q
 |ret v=>exact q
 |brk=>exact q
 |cont=>exact q
def adi:DX X (.Pass pos) aW:=λ_ _ σ H _ Z h=>wpAny_Pass ⟨σ,H,Z,h⟩
def Inv.quiet{A3:μ}{σ :St}{H:AD}{s:AQ}(Z:θ):interactive X.env=false:=by simp[interactive,Z.ok.kind]
def aeT{x j pos pos'}:DX X (.Expr (.Constant (.str x) j pos) pos') aW:=λ_ s σ H _ Z h=>wpAny_Expr (Calls.Constant_str (show QD X _ _ .next { s with toks:=s.toks+1 }from⟨σ,H,Z.tok _,h⟩)) Z.quiet
noncomputable def rI(te:TE):F4:=λD σ H=>te σ H λ_ H1=>D.AM σ H1
def ade(he:Ah X e te)(AP:O2 e none pos.line X.env=pure false:=by rfl):DX X (.Expr e pos) (rI te):=by intro A3 s σ H D Z h;exact wpAny_Expr_any (Ba (he A3 s σ H _ Z h) λv s1⟨x,H1,Ad,Aw,q1⟩=>⟨σ,H1,Ad,q1⟩) Z.quiet AP
def qi(te:TE):F4:=λD σ H=>te σ H D.Dq
def adk(he:Ah X e te):DX X (.Return ↥e pos) (qi te):=by intro A3 s σ H D Z h;exact wpAny_Return_some (Ba (he A3 s σ H _ Z h) λv s1⟨x,H1,Ad,Aw,q1⟩=>⟨x,σ,H1,Ad,Aw,q1⟩)
def qj:F4:=λD _ H=>D.Dq .non H
def adl:DX X (.Return none pos) qj:=λ_ _ σ H _ Z h=>wpAny_Return_none ⟨.non,σ,H,Z,rfl,h⟩
noncomputable def rL(c:TT)(t u:F4):F4:=λD σ H=>c σ H λb H1=>if b=true then t D σ H1 else u D σ H1
def adg{c:Aq}{a b:↑BE}{H2:TT}(AJ:EY X c H2)(AG:HK X a t)(A4:HK X b u):DX X (.If c a b pos) (rL H2 t u):=by
 intro A3 s σ H D Z h;refine wpAny_If (Ba (AJ A3 s σ H _ Z h) λd s1⟨H1,Ad,q1⟩=>?_);cases d with
 |true=>exact AG A3 s1 σ H1 D Ad q1
 |false=>exact A4 A3 s1 σ H1 D Ad q1
def rO:F4:=λ_ _ _=>False
def adh:DX X st rO:=λ_ _ _ _ _ _ h=>h.elim
def adq{LK:↑BE}:HK X LK rO:=λ_ _ _ _ _ _ h=>h.elim
end
abbrev Ju:=V->St->AD->(St->AD->Prop)->Prop
abbrev OD:=↑V->St->AD->(St->AD->Prop)->Prop
def HJ(X:Ar)(target:Aq)(t:Ju):Prop:=
 ∀(A3:μ)(s:AQ)(σ :St)(H:AD)(v:V)(u:A8)(Q:St->AD->Prop),θ->RelV v u->t v σ H Q->
  An ξ X.A (L2 target X.env u) (λ_ s'=>∃ σ' A9,Inv X A3 σ' A9 s'/\Q σ' A9) X.DC s
def L7(X:Ar)(ts:↑Aq)(t:OD):Prop:=
 ∀(A3:μ)(s:AQ)(σ :St)(H:AD)(vs:↑V)(us:↑A8)(Q:St->AD->Prop),θ->Vals vs us->t vs σ H Q->
  An ξ X.A (assignInOrder ((Le ts X.env).map (·.2)) us) (λ_ s'=>∃ σ' A9,Inv X A3 σ' A9 s'/\Q σ' A9) X.DC s
abbrev cG:=V->V->V->AD->(AD->Prop)->Prop
def hX(X:Ar)(t:cG):Prop:=
 ∀(A3:μ)(s:AQ)(σ :St)(H:AD)(o i v:V)(CL Hc u:A8)(Q:AD->Prop),θ->RelV o CL->RelV i Hc->RelV v u->t o i v H Q->
  An ξ X.A (setItem CL Hc u) (λ_ s'=>∃A9,Inv X A3 σ A9 s'/\Q A9) X.DC s
section
variable{X:Ar}{pos:Pos}
def Ym(i:Nat):Ju:=λv σ H Q=>Q (σ.set i ↥v) H
def WD{i:Nat}{x:Str}(hN:X.N.Nodup)(hi:X.N[i]?=↥x)(AF:Loc X.env.scope x)(hf:X.fn x=true\/X.env.scope.names.lookup x=↥.local:=by first|exact .inl rfl|exact .inr rfl|assumption):HJ X (.Name x pos) (Ym i):=by intro A3 s σ H v u Q Z r h;exact wpAny_assign_Name (ea Z hN hi AF r (λs' HH=>⟨_,H,HH,h⟩) hf)
def jL:OD:=λvs σ H Q=>vs=[]/\Q σ H
noncomputable def jK(t:Ju)(u:OD):OD:=λvs σ H Q=>∃v r,vs=v::r/\t v σ H λσ' A9=>u r σ' A9 Q
def mA:L7 X [] jL:=by intro A3 s σ H vs us Q Z r h;obtain⟨e,h⟩:=h;subst e;cases r;exact assignInOrder_nil ⟨σ,H,Z,h⟩
def fQ{e:Aq}{es:↑Aq}{t:Ju}{u:OD}(h1:HJ X e t)(h2:L7 X es u)(AP:(Le (e::es) X.env).map (·.2)=L2 e X.env::(Le es X.env).map (·.2):=by rfl):L7 X (e::es) (jK t u):=by
 intro A3 s σ H vs us Q Z r h;obtain⟨v,gJ,AA,h⟩:=h;subst AA;cases r with
 |cons r Ki=>rw[AP];refine assignInOrder_cons (Ba (h1 A3 s σ H _ _ _ Z r h) λ_ s1⟨σ1,H1,Ad,q1⟩=>?_);exact h2 A3 s1 σ1 H1 _ _ Q Ad Ki q1
noncomputable def jN(K:Ap)(n:Nat)(t:OD):Ju:=λv σ H Q=>∃a xs,v=.ref a/\Ek K H a xs/\ ⇑xs=n/\t xs σ H Q
def m9{es:↑Aq}{k:Nat}{t:OD}{n:Nat}(AJ:X.calm=true)(h:L7 X es t)(AZ:⇑(Le es X.env)=n:=by rfl)(Fj:(Le es X.env).findIdx? (·.1)=none:=by rfl):HJ X (.Tuple es k pos) (jN X.K n t):=by intro A3 s σ H v u Q Z r hw;obtain⟨a,xs,AA,Aa,AH,hw⟩:=hw;subst AA;cases r;obtain⟨its,Bw,B9,hz⟩:=Z.tuple Aa;refine assign_Tuple_tuple (Z.ok.hd AJ) B9 (by simp[AZ,<-AH,⇑Bw]) Fj λh' AF=>?_;have Ad:Inv X A3 σ H { s with heap:=h' }:=Z.kept (t':=s.toks) λb o e=>AF b o (F0 (E3 e)) e;exact h A3 _ σ H xs _ Q Ad (Bw:) hw
noncomputable def jM(to Tq:TE)(t:cG):Ju:=λv σ H Q=>to σ H λo H1=>Tq σ H1 λi AU=>t o i v AU λC1=>Q σ C1
def acU {o i:Aq} {to Tq:TE} {t:cG} (ho:Ah X o to) (hi:Ah X i Tq) (AP:hX X t)(AG:∀v,L2 (.Subscript o i pos) X.env v=(do
    let CL <-JI [v] (Bc o X.env)
    let Hc <-JI [v,CL] (Bc i X.env)
    MP pos
    JI [v,CL,Hc] (setItem CL Hc v)
    release [v,CL,Hc] []):=by intro _;rfl):HJ X (.Subscript o i pos) (jM to Tq t):=by
 intro A3 s σ H v u Q Z r h;rw[AG];refine Ag (Nt (Ba (ho A3 s σ H _ Z h) λCL s1⟨x,H1,Ad,Aw,q1⟩=>?_));refine Ag (Nt (Ba (hi A3 s1 σ H1 _ Ad q1) λHc s2⟨y,AU,Bj,BL,q2⟩=>?_));refine Ag (wpAny_standAt (Ag (Nt (Ba (AP A3 s2 σ AU x y v CL Hc u _ Bj Aw BL r q2) λ_ s3⟨C1,DD,Dk⟩=>?_))));exact wpAny_release ⟨σ,C1,DD,Dk⟩
noncomputable def fs(te:TE)(g:Ju):F4:=λD σ H=>te σ H λx H1=>g x σ H1 D.AM
def mR{CB e:Aq}{te:TE}{g:Ju}(he:Ah X e te)(Ai:HJ X CB g)(AP:swapsWithSole [CB] e pos.line X.env=pure false:=by rfl)(hw:swappedStores [CB] e X.env=pure none:=by rfl)(h1:(Le [CB] X.env).map (·.2)=[L2 CB X.env]:=by rfl):DX X (.Assign [CB] e pos) (fs te g):=by intro A3 s σ H D Z h;refine wpAny_Assign_stores (Ba (he A3 s σ H _ Z h) λv s1⟨x,H1,Ad,Aw,q1⟩=>?_) AP hw;rw[h1];exact Ba (Ai A3 s1 σ H1 x v _ Ad Aw q1) λ_ s2 q=>q
def adm{i:Nat}{x:Str}{e:Aq}{te:TE}{pos':Pos}(hN:X.N.Nodup)(hi:X.N[i]?=↥x)(AF:Loc X.env.scope x)(he:Ah X e te)(AP:O2 e ↥(.Name x pos') pos.line X.env=pure false:=by rfl)(hf:X.fn x=true\/X.env.scope.names.lookup x=↥.local:=by first|exact .inl rfl|exact .inr rfl|assumption) :
  DX X (.Assign [.Name x pos'] e pos) (fs te (Ym i)):=by
 intro A3 s σ H D Z h;refine wpAny_Assign_Name (Ba (he A3 s σ H _ Z h) λv s1⟨y,H1,Ad,Aw,q1⟩=>?_) AP;exact ea Ad hN hi AF Aw (λs2 Bj=>⟨_,H1,Bj,q1⟩) hf
end
section
variable{X:Ar}{pos:Pos}
noncomputable def qr(c:TT)(tb:F4):F4:=λD σ H=>∃W:Nat->St->AD->Prop,(∃m,W m σ H)/\∀m σ H,W m σ H->
 c σ H λb H1=>if b=true then ∃N:St->AD->Prop,(∀ σ' A9,N σ' A9->∃EB,EB<m/\W EB σ' A9)/\tb { D with AM:=N,D6:=N,BN:=D.AM } σ H1 else D.AM σ H1
def ado{c:Aq}{body:↑BE}{H2:TT}{tb:F4}(AT:PassesOwn ξ X.A X.env X.DC)(AJ:EY X c H2)(A4:HK X body tb):DX X (.While c body [] pos) (qr H2 tb):=by
 intro A3 s σ H D Z h;obtain⟨W,⟨m0,OO⟩,turn⟩:=h;refine wpAny_While (codeAny_whileLoop (λn s'=>∃ σ' A9,Inv X A3 σ' A9 s'/\W n σ' A9) ?_ m0 ⟨σ,H,Z,OO⟩);rintro n s1 ⟨σ1,H1,Ad,G6⟩;refine Qm AT (Ba (AJ A3 s1 σ1 H1 _ Ad (turn n σ1 H1 G6)) λb s2⟨AU,Bj,q2⟩=>?_);cases b with
 |true=>
  obtain⟨N,hN,q2⟩:=q2;rw[if_pos rfl];refine Qm AT (Ba (A4 A3 s2 σ1 AU _ Bj q2) λf s3 Dk=>?_);cases f with
  |next=>obtain⟨σ3,C1,DD,S0⟩:=Dk;obtain⟨EB,hm,Wo⟩:=hN σ3 C1 S0;exact⟨EB,hm,σ3,C1,DD,Wo⟩
  |cont=>obtain⟨σ3,C1,DD,S0⟩:=Dk;obtain⟨EB,hm,Wo⟩:=hN σ3 C1 S0;exact⟨EB,hm,σ3,C1,DD,Wo⟩
  |brk=>exact Dk
  |ret v=>exact Dk
 |false=>rw[if_neg Kv];exact SC ⟨σ1,AU,Bj,q2⟩
end
structure It where
 go:Nat->AD->Prop
 Wu:Nat->AD->V->AD->Prop
 stop:Nat->AD->Prop
def Km(X:Ar)(A3:μ)(H:AD)(b:A7):Prop:=
 H b=none/\b≠X.env.locals/\b∉X.B7/\(b∈X.ex\/X.GE.heap.objs.size<=b)/\(∀x c,X.env.cells.lookup x=↥c->c≠b)/\∀p∈X.D1++A3,p.1≠b
def Inv.Ma{X:Ar}{A3:μ}{σ :St}{H A9:AD}{s:AQ}{b:A7}(Z:θ)(A4:s.heap.objs.size<=b)(AZ:A9 b=none):Km X A3 A9 b:=by
 refine⟨AZ,Qh (GH Z.lt A4),Z.abh A4,.inr (Iw Z.QR A4),λx c e z=>?_,λp AT z=>?_⟩
 .obtain⟨v,q⟩:=Z.cell x c e;exact absurd (GH q.lt (by rw[z];exact A4)) (Lc _)
 .exact absurd (GH (E3 (Z.pin p AT).1) (by rw[z];exact A4)) (Lc _)
structure Turn(P:C9)(w:Br)(K:Ap)(CB:Aq)(BS:It)(BP:↑A7)(it:A7)(Ho:Nat->BF->Prop):Prop where
 mem:it∈BP
 obj:∀i h,Ho i h->∀b∈BP,∃o,h.get? b=↥o/\∀v,o.data≠.cell v
 keep:∀i h h',Ho i h->(∀b∈BP,∀o,h.get? b=↥o->h'.get? b=↥o)->Ho i h'
 item:∀(X:Ar),X.prog=P->X.w=w->X.K=K->X.calm=true->∀(i:Nat)(A3:μ)(s:AQ)(σ :St)(H:AD)(E:A8->AQ->Prop),θ->(∀b∈BP,Km X A3 H b)->Ho i s.heap->BS.go i H->
  An (B4 P w) X.A (O5 (.ref it)) (λr s1=>∃u,r=↥u/\
   An (B4 P w) X.A (XQ CB (.ref it) u) (λ_ s2=>∃x A9,Inv X A3 σ A9 s2/\RelV x u/\BS.Wu i H x A9/\Ho (i+1) s2.heap/\∀b∈BP,A9 b=none) E s1) E s
 done:∀(X:Ar),X.prog=P->X.w=w->X.K=K->X.calm=true->∀(i:Nat)(A3:μ)(s:AQ)(σ :St)(H:AD)(E:A8->AQ->Prop),θ->(∀b∈BP,Km X A3 H b)->Ho i s.heap->BS.stop i H->
  An (B4 P w) X.A (O5 (.ref it)) (λr s1=>r=none/\Inv X A3 σ H s1) E s
 self:∀(A:D2)(i:Nat)(s:AQ)(Q:A8->AQ->Prop)(E:A8->AQ->Prop),Ho i s.heap->Q (.ref it) s->An (B4 P w) A (pyIter (.ref it)) Q E s
abbrev TI:=St->AD->(It->AD->Prop)->Prop
def hV(X:Ar)(A3:μ)(σ :St)(CB:Aq)(R:It->AD->Prop)(aC:A8)(s2:AQ):Prop:=
 ∃(it:A7)(BP:↑A7)(Ho:Nat->BF->Prop)(BS:It)(A9:AD),aC=.ref it/\Inv X A3 σ A9 s2/\Turn X.prog X.w X.K CB BS BP it Ho/\Ho 0 s2.heap/\(∀b∈BP,Km X A3 A9 b)/\R BS A9
def He(X:Ar)(CB iter:Aq)(Iv:TI):Prop:=
 ∀(A3:μ)(s:AQ)(σ :St)(H:AD)(R:It->AD->Prop),θ->Iv σ H R->
  An ξ X.A (Bc iter X.env) (λv s1=>An ξ X.A (pyIter v) (hV X A3 σ CB R) X.DC s1) X.DC s
def TX{M:Model}{A:D2}{E:A8->AQ->Prop}{s:AQ}{CB:Aq}{it:A7}{u:A8}{o:Obj}{n:String}{vs:Array A8}{Q:Unit->AQ->Prop}(ho:s.heap.get? it=↥o)(AJ:o.cls=.type n)(hd:o.data=.fields vs)(AZ:["enumerate","zip","dict_itemiterator","dict_reverseitemiterator","odict_iterator","itertools.zip_longest","itertools.pairwise"].contains n=false)(HD:Q () s):An M A (XQ CB (.ref it) u) Q E s:=by
 unfold XQ
 cases CB<;>first
  |exact Bh HD
  |(cases u<;>first
      |exact Bh HD
      |(refine Ag (wpAny_load ho ?_)
        rw[AJ,hd];show An M A (if(["enumerate","zip","dict_itemiterator","dict_reverseitemiterator","odict_iterator","itertools.zip_longest","itertools.pairwise"].contains n&&vs[0]?==↥(N4 _))=true then _ else _) Q E s;rw[if_neg (by intro h;rw[AZ,hF]at h;cases h)];exact Bh HD))
noncomputable def c1(K:Ap)(a:A7):It:=
 ⟨λi H=>∃xs x,Eu K H a xs/\xs[i]?=↥x,λi H x A9=>A9=H/\∀xs,Eu K H a xs->xs[i]?=↥x,λi H=>∃xs,Eu K H a xs/\ ⇑xs<=i⟩
noncomputable def c4(K:Ap)(a:A7):It:=
 ⟨λi H=>∃xs x,Ek K H a xs/\xs[i]?=↥x,λi H x A9=>A9=H/\∀xs,Ek K H a xs->xs[i]?=↥x,λi H=>∃xs,Ek K H a xs/\ ⇑xs<=i⟩
noncomputable def Uu(lo:Int)(n:Nat):It:=⟨λi _=>i<n,λi H x A9=>A9=H/\x=.int (lo+i),λi _=>n<=i⟩
def agM{P:C9}{w:Br}{K:Ap}{CB:Aq}(a it:A7):Turn P w K CB (c1 K a) [it] it (λi h=>h.IsListIter it a i) where
 mem:=γ
 obj:=λi h st b A4=>by
  have e:b=it:=(A4:)
  subst e;obtain⟨o,e,c,d⟩:=st;exact⟨o,e,λv z=>by rw[d]at z;cases z⟩
 keep:=λi h h' st k=>st.at λo e=>k it γ o e
 item:=by nofun;obtain⟨xs,x,Aa,AF⟩:=Ai;obtain⟨its,Bw,p,hz⟩:=Z.list Aa;obtain⟨u,BQ,FJ⟩:=Bw.get AF;obtain⟨f0,f1,f2,E9,f4,G9⟩:=hf it γ;refine wpAny_pyNext_list_item st p.isList (x:=u) (BQ:) λh' H0 HT=>?_;have Ad:Inv X A3 σ H { s with heap:=h' }:=Z.turned (t':=s.toks) (λb o A4 e=>(HT.2 b A4).trans e) f0 f1 E9 f4 G9;obtain⟨o,e,c,d⟩:=id H0;exact⟨u,rfl,TX (s:={ s with heap:=h' }) e c d ε ⟨x,H,Ad,FJ,⟨rfl,λys AX=>by rw[Z.di AX Aa];exact AF⟩,H0,λb A4=>(hf b A4).1⟩⟩
 done:=by nofun;obtain⟨xs,Aa,AF⟩:=Ai;obtain⟨its,Bw,p,hz⟩:=Z.list Aa;obtain⟨f0,f1,f2,E9,f4,G9⟩:=hf it γ;have AH:=⇑Bw;exact wpAny_pyNext_list_end (Z.ok.hd AJ) st p.isList (by simp;lia) λh' BC=>⟨rfl,Z.turned (t':=s.toks) (λb o A4 e=>BC b o A4 e) f0 f1 E9 f4 G9⟩
 self:=λ_ _ _ _ _ st h=>wpAny_pyIter_listiter st h
def agQ{P:C9}{w:Br}{K:Ap}{CB:Aq}(a it:A7):Turn P w K CB (c4 K a) [it] it (λi h=>h.IsTupleIter it a i) where
 mem:=γ
 obj:=λi h st b A4=>by
  have e:b=it:=(A4:)
  subst e;obtain⟨o,e,c,d⟩:=st;exact⟨o,e,λv z=>by rw[d]at z;cases z⟩
 keep:=λi h h' st k=>st.at λo e=>k it γ o e
 item:=by nofun;obtain⟨xs,x,Aa,AF⟩:=Ai;obtain⟨its,Bw,p,hz⟩:=Z.tuple Aa;obtain⟨u,BQ,FJ⟩:=Bw.get AF;obtain⟨f0,f1,f2,E9,f4,G9⟩:=hf it γ;refine wpAny_pyNext_tuple_item st (show s.heap.IsTuple a its.toArray from p) (x:=u) (BQ:) λh' H0 HT=>?_;have Ad:Inv X A3 σ H { s with heap:=h' }:=Z.turned (t':=s.toks) (λb o A4 e=>(HT.2 b A4).trans e) f0 f1 E9 f4 G9;obtain⟨o,e,c,d⟩:=id H0;exact⟨u,rfl,TX (s:={ s with heap:=h' }) e c d ε ⟨x,H,Ad,FJ,⟨rfl,λys AX=>by rw[Z.g6 AX Aa];exact AF⟩,H0,λb A4=>(hf b A4).1⟩⟩
 done:=by nofun;obtain⟨xs,Aa,AF⟩:=Ai;obtain⟨its,Bw,p,hz⟩:=Z.tuple Aa;obtain⟨f0,f1,f2,E9,f4,G9⟩:=hf it γ;have AH:=⇑Bw;exact wpAny_pyNext_tuple_end (Z.ok.hd AJ) st (show s.heap.IsTuple a its.toArray from p) (by simp;lia) λh' BC=>⟨rfl,Z.turned (t':=s.toks) (λb o A4 e=>BC b o A4 e) f0 f1 E9 f4 G9⟩
 self:=λ_ _ _ _ _ st h=>wpAny_pyIter_tupleiter st h
def agO{P:C9}{w:Br}{K:Ap}{CB:Aq}(it:A7)(lo:Int)(n:Nat):Turn P w K CB (Uu lo n) [it] it (λi h=>IsRangeIter h it (lo+(i:Nat)*1) ((n:Int)-(i:Nat)) 1) where
 mem:=γ
 obj:=λi h st b A4=>by
  have e:b=it:=(A4:)
  subst e;exact⟨_,st,λv z=>by have F_:Xh _=SO v:=z;cases F_⟩
 keep:=λi h h' st k=>k it γ _ st
 item:=by nofun;obtain⟨f0,f1,f2,E9,f4,G9⟩:=hf it γ;have W:=Walks.range (prog:=X.prog) (w:=X.w) (Z.ok.hd AJ) it lo 1 n;refine W.item i s _ _ Ai st λv h' DW CG H0 FT=>?_;obtain⟨t,rfl⟩:=CG;have Ad:Inv X A3 σ H { s with heap:=h',toks:=DW }:=Z.turned (λb o A4 e=>FT b o (A4:) e) f0 f1 E9 f4 G9;refine⟨_,rfl,TX (s:={ s with heap:=h',toks:=DW }) (n:="range_iterator") H0 rfl rfl ε ⟨.int (lo+i),H,Ad,⟨t,?_⟩,⟨rfl,rfl⟩,H0,λb A4=>(hf b A4).1⟩⟩;rw[Int.mul_one]
 done:=by nofun;obtain⟨f0,f1,f2,E9,f4,G9⟩:=hf it γ;exact wpAny_pyNext_range_end (Z.ok.hd AJ) st (by have:n<=i:=Ai;lia) λh' BC=>⟨rfl,Z.turned (t':=s.toks) (λb o A4 e=>BC b o A4 e) f0 f1 E9 f4 G9⟩
 self:=λ_ _ _ _ _ st h=>wpAny_pyIter_rangeiter st h
section
variable{X:Ar}{CB:Aq}
def nz{A3:μ}{σ :St}{H:AD}{s:AQ}{R:It->AD->Prop}{E:A8->AQ->Prop}{lo hi:Int}{t u v:Tok}{DW:Nat}(Z:θ)(h1: -(2^62)<=lo)(h2:lo<2^62)(AY: -(2^62)<=hi)(Ch:hi<2^62)(q:R (Uu lo (hi-lo).toNat) H):An ξ X.A (pyIter (.ref s.heap.objs.size)) (hV X A3 σ CB R) E { s with heap:=s.heap.push { cls:=.type "range",data:=.fields #[.int lo t,.int hi u,.int 1 v] },toks:=DW }:=by
 refine wpAny_pyIter_range (IsRange.new ..) (small_one h1 h2 AY Ch) ?_;have Ad:Inv X A3 σ H { s with heap:=s.heap.push { cls:=.type "range",data:=.fields #[.int lo t,.int hi u,.int 1 v] },toks:=DW }:=Z.kept λb o e=>DU _ e
 refine⟨(s.heap.push { cls:=.type "range",data:=.fields #[.int lo t,.int hi u,.int 1 v] }).objs.size,[(s.heap.push { cls:=.type "range",data:=.fields #[.int lo t,.int hi u,.int 1 v] }).objs.size],_,_,H,rfl,
  Ad.kept (t':=DW) λb o e=>DU _ e,agO _ lo (hi-lo).toNat,?_,λb A4=>?_,q⟩
 .have AA:lo+((0:Nat):Int)*1=lo:=γ
  have AE:(((hi-lo).toNat:Nat):Int)-((0:Nat):Int)=sV lo hi 1:=by rw[rangeSize_one];split<;>lia
  show IsRangeIter _ _ (lo+((0:Nat):Int)*1) ((((hi-lo).toNat:Nat):Int)-((0:Nat):Int)) 1;rw[AA,AE];exact Fx _ rfl
 .have e:b=(s.heap.push { cls:=.type "range",data:=.fields #[.int lo t,.int hi u,.int 1 v] }).objs.size:=by simpa using A4
  subst e;exact Ad.Ma (C5 _) (Ad.B0.fresh (C5 _))
def z7(BW:Fb):TI:=λσ H R=>BW σ H λvs H1=>∃j:Int,vs=[.int j]/\-(2^62)<=j/\j<2^62/\R (Uu 0 j.toNat) H1
def z8(BW:Fb):TI:=λσ H R=>BW σ H λvs H1=>∃i j:Int,vs=[.int i,.int j]/\(-(2^62)<=i/\i<2^62/\-(2^62)<=j/\j<2^62)/\R (Uu i (j-i).toNat) H1
def ad1{a:Aq}{BW:Fb}{p pos:Pos}(Ai:Eh X "range")(hm:X.mg "range"=none)(AG:H9 X [a] BW)(AP:CM [a] X.env=[(false,Bc a X.env)]:=by rfl):He X CB (.Call (.Name "range" p) [a] [] pos) (z7 BW):=by
 intro A3 s σ H R Z h;refine Call_ (O_ Z Ai hm boot_range (Qa (Ba (AG pos A3 s σ H _ Z h) λus s1⟨vs,H1,Ad,Aw,q1⟩=>?_) AP rfl));obtain⟨j,e,q1,q2,q⟩:=q1;subst e;cases Aw with
 |cons r Ki=>cases Ki;obtain⟨t,rfl⟩:=r;exact call_range_1 (nz Ad δ δ q1 q2 (q:))
def ae4{a b:Aq}{BW:Fb}{p pos:Pos}(Ai:Eh X "range")(hm:X.mg "range"=none)(AG:H9 X [a,b] BW)(AP:CM [a,b] X.env=[(false,Bc a X.env),(false,Bc b X.env)]:=by rfl)(I6:CM [b] X.env=[(false,Bc b X.env)]:=by rfl) :
  He X CB (.Call (.Name "range" p) [a,b] [] pos) (z8 BW):=by
 intro A3 s σ H R Z h;refine Call_ (O_ Z Ai hm boot_range (Qa (Ba (AG pos A3 s σ H _ Z h) λus s1⟨vs,H1,Ad,Aw,q1⟩=>?_) (by rw[AP,I6]) (by rw[I6];rfl)));obtain⟨i,j,e,⟨q1,q2,Dk,LH⟩,q⟩:=q1;subst e;cases Aw with
 |cons r Ki=>
  cases Ki with
  |cons Bf Ki=>cases Ki;obtain⟨t,rfl⟩:=r;obtain⟨t',rfl⟩:=Bf;exact call_range_2 (nz Ad q1 q2 Dk LH q)
noncomputable def aU(Iv:TI)(g:Ju)(tb:F4):F4:=λD σ H=>Iv σ H λBS H1=>∃W:Nat->Nat->St->AD->Prop,(∃m,W 0 m σ H1)/\∀i m σ H,W i m σ H->
 (BS.stop i H/\D.AM σ H)\/(BS.go i H/\∃N:St->AD->Prop,(∀ σ' A9,N σ' A9->∃EB,EB<m/\W (i+1) EB σ' A9)/\∀x A9,BS.Wu i H x A9->g x σ A9 λσ2 AU=>tb { D with AM:=N,D6:=N,BN:=D.AM } σ2 AU)
noncomputable def WE(BP:↑A7)(h:BF):μ:=BP.filterMap λb=>(h.get? b).map λo=>(b,o)
def Zm{BP:↑A7}{h:BF}{b:A7}{o:Obj}(A4:b∈BP)(e:h.get? b=↥o):(b,o)∈WE BP h:=List.mem_filterMap.mpr ⟨b,A4,by rw[e];rfl⟩
def abQ{BP:↑A7}{h:BF}{p:A7×Obj}(AT:p∈WE BP h):p.1∈BP/\h.get? p.1=↥p.2:=by
 obtain⟨b,A4,e⟩:=List.mem_filterMap.mp AT;cases q:h.get? b with
 |none=>rw[q]at e;cases e
 |some o=>rw[q]at e;have Bi:(b,o)=p:=Fy e;subst Bi;exact⟨A4,q⟩
def Inv.pinned{A3:μ}{σ :St}{H:AD}{s:AQ}{BP:↑A7}(Z:θ)(hf:∀b∈BP,Km X A3 H b)(ho:∀b∈BP,∃o,s.heap.get? b=↥o/\∀v,o.data≠.cell v):Inv X (A3++WE BP s.heap) σ H s:=
 Z.mC λp AT=>(List.mem_append.mp AT).elim (λz=>Z.pin p (IF _ z)) λz=>by obtain⟨A4,e⟩:=abQ z;obtain⟨f0,f1,f2,_⟩:=hf p.1 A4;obtain⟨o,Bi,d⟩:=ho p.1 A4;rw[e]at Bi;cases Bi;exact⟨e,f0,f1,f2,d⟩
def Inv.ae{A3 pl:μ}{σ :St}{H:AD}{s:AQ}(Z:Inv X (A3++pl) σ H s):θ:=Z.mC λp AT=>Z.pin p (IF _ (Gx _ AT))
def eb{iter:Aq}{body:↑BE}{Iv:TI}{g:Ju}{tb:F4}{pos:Pos}(AT:PassesOwn ξ X.A X.env X.DC)(AJ:X.calm=true)(hi:He X CB iter Iv)(Ai:HJ X CB g)(A4:HK X body tb)(AP:∀x,Nw iter X.env x=pure x:=by intro _;rfl):DX X (.For CB iter body [] pos) (aU Iv g tb):=by
 intro A3 s σ H D Z h;refine wpAny_For (Ba (hi A3 s σ H _ Z h) λv s1 h1=>Ba h1 λaC s2 h2=>?_) AP;obtain⟨it,BP,Ho,BS,AU,e,Bj,T,MB,f2,W,⟨m0,OO⟩,turn⟩:=h2;subst e;have stat:∀{A9:AD},(∀b∈BP,A9 b=none)->∀b∈BP,Km X A3 A9 b:=λAZ b A4=>⟨AZ b A4,(f2 b A4).2⟩;refine codeAny_forLoop_any (λn s'=>∃i σ' A9,Inv X A3 σ' A9 s'/\Ho i s'.heap/\(∀b∈BP,A9 b=none)/\W i n σ' A9) ?_ m0 ⟨0,σ,AU,Bj,MB,λb A4=>(f2 b A4).1,OO⟩;rintro n s3 ⟨i,σ3,C1,DD,r3,Yj,Wo⟩;rcases turn i n σ3 C1 Wo with⟨stop,qn⟩|⟨go,N,hN,Dh⟩
 .refine Qm AT (Ba (T.done X rfl rfl rfl AJ i A3 s3 σ3 C1 X.DC DD (stat Yj) r3 stop) λr s4⟨BH,Lw⟩=>?_);subst BH;exact SC ⟨σ3,C1,Lw,qn⟩
 .refine Qm AT (Ba (T.item X rfl rfl rfl AJ i A3 s3 σ3 C1 X.DC DD (stat Yj) r3 go) λr s4⟨u,BH,Ch⟩=>?_);subst BH;refine Qm AT (Ba Ch λ_ s5⟨x,Er,O8,S3,fj,Tn,Yk⟩=>?_);have tB:=O8.pinned (stat Yk) (T.obj _ _ Tn);refine Qm AT (Ba (Ai _ s5 σ3 Er x u _ tB S3 (Dh x Er fj)) λ_ s6⟨σ6,EP,RX,NV⟩=>?_);refine Qm AT (Ba (A4 _ s6 σ6 EP _ RX NV) λf s7 LI=>?_);have again:∀{σ7:St}{Ei:AD},Inv X (A3++WE BP s5.heap) σ7 Ei s7->N σ7 Ei->∃m,m<n/\∃i σ' A9,Inv X A3 σ' A9 s7/\Ho i s7.heap/\(∀b∈BP,A9 b=none)/\W i m σ' A9:=λ{σ7 Ei} L4 W3=>by
   obtain⟨EB,hm,fZ⟩:=hN σ7 Ei W3;refine⟨EB,hm,i+1,σ7,Ei,L4.ae,T.keep _ _ _ Tn λb A4 o e=>(L4.pin (b,o) (IF _ (IF _ (Zm A4 e)))).1,λb A4=>?_,fZ⟩;obtain⟨o,e,d⟩:=T.obj _ _ Tn b A4;exact(L4.pin (b,o) (IF _ (IF _ (Zm A4 e)))).2.1
  cases f with
  |next=>obtain⟨σ7,Ei,L4,W3⟩:=LI;exact again L4 W3
  |cont=>obtain⟨σ7,Ei,L4,W3⟩:=LI;exact again L4 W3
  |brk=>obtain⟨σ7,Ei,L4,LI⟩:=LI;exact⟨σ7,Ei,L4.ae,LI⟩
  |ret v=>obtain⟨ah3,σ7,Ei,L4,S4,LI⟩:=LI;exact⟨ah3,σ7,Ei,L4.ae,S4,LI⟩
end
abbrev EZ:=V->V->AD->CY->Prop
def Dp(X:Ar)(f:A8->A8->Sem A8)(r:EZ):Prop:=
 ∀(A3:μ)(s:AQ)(σ :St)(H:AD)(x y:V)(v u:A8)(Q:CY),θ->RelV x v->RelV y u->r x y H Q->
  An ξ X.A (f v u) (H6 X A3 σ Q) X.DC s
def bS(X:Ar)(f:A8->Sem A8)(r:V->AD->CY->Prop):Prop:=
 ∀(A3:μ)(s:AQ)(σ :St)(H:AD)(x:V)(v:A8)(Q:CY),θ->RelV x v->r x H Q->
  An ξ X.A (f v) (H6 X A3 σ Q) X.DC s
def K1(X:Ar)(f:A8)(r:↑V->AD->CY->Prop):Prop:=
 ∀(A3:μ)(s:AQ)(σ :St)(H:AD)(xs:↑V)(us:↑A8)(Q:CY),θ->Vals xs us->r xs H Q->
  An ξ X.A (call f us) (H6 X A3 σ Q) X.DC s
def tM(X:Ar)(r:V->AD->(Bool->AD->Prop)->Prop):Prop:=
 ∀(A3:μ)(s:AQ)(σ :St)(H:AD)(x:V)(v:A8)(Q:Bool->AD->Prop),θ->RelV x v->r x H Q->
  An ξ X.A (truthy v) (Y6 X A3 σ Q) X.DC s
noncomputable def Tp(r:EZ)(BW tb:TE):TE:=λσ H Q=>BW σ H λx H1=>tb σ H1 λy AU=>r x y AU Q
noncomputable def qp(r:V->AD->CY->Prop)(BW:TE):TE:=λσ H Q=>BW σ H λx H1=>r x H1 Q
noncomputable def Ip(C:Int->Int->Prop)(g:Int->Int->V):EZ:=λx y H Q=>∃i j,x=.int i/\y=.int j/\C i j/\Q (g i j) H
noncomputable def LJ(g:Int->Int->V):EZ:=λx y H Q=>∃i j,x=.int i/\y=.int j/\Q (g i j) H
def ny(g:Int->V):V->AD->CY->Prop:=λx H Q=>∃i,x=.int i/\Q (g i) H
section
variable{X:Ar}{a b c:Aq}{BW tb H2:TE}{pos:Pos}
def d5(AG:Ah X a BW)(A4:Ah X b tb){A3:μ}{s:AQ}{σ :St}{H:AD}{R:V->V->AD->Prop}(Z:θ)(h:BW σ H λx H1=>tb σ H1 λy AU=>R x y AU){Q:A8->AQ->Prop}{f:A8->A8->Sem A8}(hf:∀v u s2 x y AU,Inv X A3 σ AU s2->RelV x v->RelV y u->R x y AU->An ξ X.A (f v u) Q X.DC s2) :
  An ξ X.A (Bc a X.env) (λv Cx=>An ξ X.A (Bc b X.env) (λu Jb=>An ξ X.A (f v u) Q X.DC Jb) X.DC Cx) X.DC s:=by
 refine Ba (AG A3 s σ H _ Z h) λv s1⟨x,H1,Ad,Aw,q1⟩=>?_;refine Ba (A4 A3 s1 σ H1 _ Ad q1) λu s2⟨y,AU,Bj,BL,q2⟩=>?_;exact hf v u s2 x y AU Bj Aw BL q2
def QK{op:Operator}{r:EZ}(ho:Dp X (Jq op) r)(AG:Ah X a BW)(A4:Ah X b tb):Ah X (.BinOp a op b pos) (Tp r BW tb):=by intro A3 s σ H Q Z h;exact wpAny_BinOp (d5 AG A4 Z h λv u s2 x y AU Bj Au Bo q=>ho A3 s2 σ AU x y v u Q Bj Au Bo q)
def acR{op:UnaryOp}{r:V->AD->CY->Prop}(ho:bS X (unaryOp op) r)(AG:Ah X a BW):Ah X (.UnaryOp op a pos) (qp r BW):=by intro A3 s σ H Q Z h;exact UnaryOp_ (Ba (AG A3 s σ H _ Z h) λv s1⟨x,H1,Ad,Aw,q1⟩=>ho A3 s1 σ H1 x v Q Ad Aw q1)
def W8{f:A8->A8->Sem A8}{C:Int->Int->Prop}{g:Int->Int->Int}(rule:∀(i j:Int)(t u:Tok)(s:AQ)(Q:A8->AQ->Prop)(E:A8->AQ->Prop),C i j->Q (.int (g i j) s.toks) { s with toks:=s.toks+1 }->An ξ X.A (f (.int i t) (.int j u)) Q E s) :
  Dp X f (Ip C λi j=>.int (g i j)):=by
 intro A3 s σ H x y v u Q Z Au Bo h;obtain⟨i,j,rfl,rfl,AJ,q⟩:=h;obtain⟨t,rfl⟩:=Au;obtain⟨t',rfl⟩:=Bo;exact rule i j t t' s _ _ AJ ⟨.int (g i j),H,Z.tok _,⟨_,rfl⟩,q⟩
def fE{f:A8->A8->Sem A8}{g:Int->Int->Int}(rule:∀(i j:Int)(t u:Tok)(s:AQ)(Q:A8->AQ->Prop)(E:A8->AQ->Prop),Q (.int (g i j) s.toks) { s with toks:=s.toks+1 }->An ξ X.A (f (.int i t) (.int j u)) Q E s) :
  Dp X f (LJ λi j=>.int (g i j)):=by
 intro A3 s σ H x y v u Q Z Au Bo h;obtain⟨i,j,rfl,rfl,q⟩:=h;obtain⟨t,rfl⟩:=Au;obtain⟨t',rfl⟩:=Bo;exact rule i j t t' s _ _ ⟨.int (g i j),H,Z.tok _,⟨_,rfl⟩,q⟩
def ZS{f:A8->A8->Sem A8}{g:Int->Int->Bool}(rule:∀(i j:Int)(t u:Tok)(s:AQ)(Q:A8->AQ->Prop)(E:A8->AQ->Prop),Q (.bool (g i j)) s->An ξ X.A (f (.int i t) (.int j u)) Q E s) :
  Dp X f (LJ λi j=>.AO (g i j)):=by
 intro A3 s σ H x y v u Q Z Au Bo h;obtain⟨i,j,rfl,rfl,q⟩:=h;obtain⟨t,rfl⟩:=Au;obtain⟨t',rfl⟩:=Bo;exact rule i j t t' s _ _ ⟨.AO (g i j),H,Z,rfl,q⟩
def S_(i j:Int):Prop:=0<j/\j<1073741824
def O6(i j:Int):Prop:=0<=j/\j<=1000000/\i.natAbs<2^64
def L8(i j:Int):Prop:=(-(2^64)<i/\i<2^64)\/(-(2^64)<j/\j<2^64)
def L8.ok{i j:Int}(h:L8 i j):IntMulOk i j:=by
 rcases h with⟨h1,h2⟩|⟨h1,h2⟩
 .exact .of_left (intBits_le_64 h1 h2)
 .exact .of_right (intBits_le_64 h1 h2)
def afe(k:Nat):(0:Int)<=2^k:=by rw[two_pow_cast];exact Int.natCast_nonneg _
def adA:Dp X (Jq .Add) (LJ λi j=>.int (i+j)):=fE λ_ _ _ _ _ _ _ q=>add_int q
def adM:Dp X (Jq .Sub) (LJ λi j=>.int (i-j)):=fE λ_ _ _ _ _ _ _ q=>sub_int q
def adI:Dp X (Jq .Mult) (Ip L8 λi j=>.int (i*j)):=W8 λ_ _ _ _ _ _ _ AJ q=>mul_int q AJ.ok
def adG:Dp X (Jq .FloorDiv) (Ip S_ λi j=>.int (i/j)):=W8 λi j _ _ _ _ _ AJ q=>by have h1:(0:Int)<j:=AJ.1;have h2:j<1073741824:=AJ.2;exact floordiv_int δ (by rw[rp i δ];exact q) (.inl (PyProof.noPylong_small δ))
def adH:Dp X (Jq .Mod) (Ip (λ_ j=>0<j) λi j=>.int (i%j)):=W8 λi j _ _ _ _ _ AJ q=>by have h1:(0:Int)<j:=AJ;exact mod_int' δ (by rw[Int.fmod_eq_emod_of_nonneg i δ];exact q)
def adJ:Dp X (Jq .Pow) (Ip O6 λi j=>.int (i^j.toNat)):=W8 λ_ _ _ _ _ _ _ AJ q=>pow_int_small AJ.1 AJ.2.1 AJ.2.2 q
def adL:Dp X (Jq .RShift) (Ip (λ_ j=>0<=j) λi j=>.int (i/2^j.toNat)):=W8 λi j _ _ _ _ _ AJ q=>
 rshift_int AJ (by rw[rp i (afe _)];exact q)
def adD:Dp X (Jq .BitAnd) (LJ λi j=>.int (Builtin.bitAnd i j)):=fE λ_ _ _ _ _ _ _ q=>and_int q
def afh{f:A8->Sem A8}{g:Int->Int}(rule:∀(i:Int)(t:Tok)(s:AQ)(Q:A8->AQ->Prop)(E:A8->AQ->Prop),Q (.int (g i) s.toks) { s with toks:=s.toks+1 }->An ξ X.A (f (.int i t)) Q E s) :
  bS X f (ny λi=>.int (g i)):=by
 intro A3 s σ H x v Q Z Au h;obtain⟨i,rfl,q⟩:=h;obtain⟨t,rfl⟩:=Au;exact rule i t s _ _ ⟨.int (g i),H,Z.tok _,⟨_,rfl⟩,q⟩
def afi:bS X (unaryOp .USub) (ny λi=>.int (-i)):=afh λ_ _ _ _ _ q=>neg_int q
end
section
variable{X:Ar}{a b c:Aq}{BW tb H2:TE}{pos:Pos}
def jB{A3:μ}{σ :St}{H:AD}{s:AQ}{Q:CY}{k k':Bool}(Z:θ)(q:Q (.AO k) H)(e:k=k'):H6 X A3 σ Q (.bool k') s:=by subst e;exact⟨.AO k,H,Z,rfl,q⟩
def au:Dp X (G4 .Lt) (LJ λi j=>.AO (decide (i<j))):=ZS λ_ _ _ _ _ _ _ q=>lt_int q
def QJ:Dp X (G4 .LtE) (LJ λi j=>.AO (decide (i<=j))):=ZS λ_ _ _ _ _ _ _ q=>le_int q
def ml:Dp X (G4 .Gt) (LJ λi j=>.AO (decide (j<i))):=ZS λ_ _ _ _ _ _ _ q=>gt_int q
def mj:Dp X (G4 .GtE) (LJ λi j=>.AO (decide (j<=i))):=ZS λ_ _ _ _ _ _ _ q=>ge_int q
def mm:Dp X (G4 .Is) (λx y H Q=>y=.non/\Q (.AO (decide (x=.non))) H):=by
 intro A3 s σ H x y v u Q Z Au Bo h;obtain⟨rfl,q⟩:=h;cases Bo;refine is_none_gen (jB Z q ?_)
 cases x<;>first
  |(cases Au;rfl)
  |(obtain⟨t,rfl⟩:=Au;rfl)
def mq:Dp X (G4 .IsNot) (λx y H Q=>y=.non/\Q (.AO (!decide (x=.non))) H):=by
 intro A3 s σ H x y v u Q Z Au Bo h;obtain⟨rfl,q⟩:=h;cases Bo;refine isnot_none_gen (jB Z q ?_)
 cases x<;>first
  |(cases Au;rfl)
  |(obtain⟨t,rfl⟩:=Au;rfl)
def Dp.or{f:A8->A8->Sem A8}{r Bf:EZ}(h:Dp X f r)(h':Dp X f Bf):Dp X f (λx y H Q=>r x y H Q\/Bf x y H Q):=by
 intro A3 s σ H x y v u Q Z Au Bo q;rcases q with q|q
 .exact h A3 s σ H x y v u Q Z Au Bo q
 .exact h' A3 s σ H x y v u Q Z Au Bo q
def Hx(b:Aq){op:CmpOp}(h:op≠.In:=by decide)(h2:op≠.NotIn:=by decide):MN op b=false:=by
 have AA:(op==CmpOp.In)=false:=by cases op<;>first|rfl|exact absurd rfl h
 have AE:(op==CmpOp.NotIn)=false:=by cases op<;>first|rfl|exact absurd rfl h2
 cases b<;>simp[MN,AA,AE]
def M8{op:CmpOp}{r:EZ}(ho:Dp X (G4 op) r)(AG:Ah X a BW)(A4:Ah X b tb)(hm:MN op b=false):Ah X (.Compare a [op] [b] pos) (Tp r BW tb):=by intro A3 s σ H Q Z h;exact wpAny_Compare1 (d5 AG A4 Z h λv u s2 x y AU Bj Au Bo q=>ho A3 s2 σ AU x y v u Q Bj Au Bo q) hm
noncomputable def qm(t:TE):TT:=λσ H Q=>t σ H λx A9=>∃k,x=.AO k/\Q k A9
def M9{op:CmpOp}{r:EZ}(ho:Dp X (G4 op) r)(AG:Ah X a BW)(A4:Ah X b tb)(hm:MN op b=false):EY X (.Compare a [op] [b] pos) (qm (Tp r BW tb)):=by
 intro A3 s σ H Q Z h;refine wpAny_isTrue_Compare1 (Ba (AG A3 s σ H _ Z h) λv s1⟨x,H1,Ad,Aw,q1⟩=>Ba (A4 A3 s1 σ H1 _ Ad q1) λu s2⟨y,AU,Bj,BL,q2⟩=>
  Ba (ho A3 s2 σ AU x y v u _ Bj Aw BL q2) λc s3⟨z,C1,DD,FI,k,e,Dk⟩=>?_) hm
 subst e;cases FI;exact MI ⟨C1,DD,Dk⟩
noncomputable def fv(r Bf:EZ)(BW tb H2:TE):TE:=λσ H Q=>BW σ H λx H1=>tb σ H1 λy AU=>r x y AU λz C1=>∃k,z=.AO k/\
 (if k=true then H2 σ C1 λCb E5=>Bf y Cb E5 Q else Q (.AO false) C1)
def acf{op K8:CmpOp}{r Bf:EZ}(ho:Dp X (G4 op) r)(IS:Dp X (G4 K8) Bf)(AG:Ah X a BW)(A4:Ah X b tb)(AJ:Ah X c H2)(hm:lastMarks [op,K8] [b,c]=false:=by with_unfolding_all rfl):Ah X (.Compare a [op,K8] [b,c] pos) (fv r Bf BW tb H2):=by
 intro A3 s σ H Q Z h;refine Compare_chain (Ba (AG A3 s σ H _ Z h) λv s1⟨x,H1,Ad,Aw,q1⟩=>chain_link (Ba (A4 A3 s1 σ H1 _ Ad q1) λu s2⟨y,AU,Bj,BL,q2⟩=>
  Ba (ho A3 s2 σ AU x y v u _ Bj Aw BL q2) λd s3⟨z,C1,DD,FI,k,e,Dk⟩=>?_)) hm
 subst e;cases FI;refine MI ?_;cases k with
 |false=>exact ite_ff ⟨.AO false,C1,DD,rfl,Dk⟩
 |true=>exact ite_tt (chain_last (Ba (AJ A3 s3 σ C1 _ DD Dk) λCb s4⟨F_,E5,Lw,NW,LH⟩=>IS A3 s4 σ E5 y F_ u Cb Q Lw BL NW LH))
def adu{op K8:CmpOp}{r Bf:EZ}(ho:Dp X (G4 op) r)(IS:Dp X (G4 K8) Bf)(AG:Ah X a BW)(A4:Ah X b tb)(AJ:Ah X c H2)(hm:lastMarks [op,K8] [b,c]=false:=by with_unfolding_all rfl):EY X (.Compare a [op,K8] [b,c] pos) (qm (fv r Bf BW tb H2)):=by
 intro A3 s σ H Q Z h;refine isTrue_chain (Ba (AG A3 s σ H _ Z h) λv s1⟨x,H1,Ad,Aw,q1⟩=>test_link (Ba (A4 A3 s1 σ H1 _ Ad q1) λu s2⟨y,AU,Bj,BL,q2⟩=>
  Ba (ho A3 s2 σ AU x y v u _ Bj Aw BL q2) λd s3⟨z,C1,DD,FI,k,e,Dk⟩=>?_)) hm
 subst e;cases FI;refine MI ?_;cases k with
 |false=>obtain⟨k',Bi,Cp⟩:=Dk;cases Bi;exact ite_ff ⟨C1,DD,Cp⟩
 |true=>refine ite_tt (test_last (Ba (AJ A3 s3 σ C1 _ DD Dk) λCb s4⟨F_,E5,Lw,NW,LH⟩=>Ba (IS A3 s4 σ E5 y F_ u Cb _ Lw BL NW LH) λd' s5⟨Ez,Er,O8,S3,k2,AE,QL⟩=>?_));subst AE;cases S3;exact MI ⟨Er,O8,QL⟩
def tN(K:Ap)(x:V)(H:AD)(k:Bool):Prop:=
 match x with
 |.non=>k=false
 |.AO b=>k=b
 |.int i=>k=(i !=0)
 |.str y=>⇑y<=CW/\k=((⇑y:Int) !=0)
 |.Pf y=>y.size<=CW/\k=((y.size:Int) !=0)
 |.ref p=>(∃xs,Eu K H p xs/\k=!xs.isEmpty)\/(∃xs,Ek K H p xs/\k=!xs.isEmpty)\/∃AC,H p=↥(.B8 AC)/\k=!AC.isEmpty
 |_=>False
def yZ{Bp:Type}{AC:↑(Bp×V)}{vs:↑(Bp×A8)}(r:Fm AC vs):(!vs.isEmpty)=!AC.isEmpty:=by cases r<;>rfl
def kH{xs:↑V}{its:↑A8}(r:Vals xs its):(!its.toArray.isEmpty)=!xs.isEmpty:=by cases r<;>simp
def T6:(CW:Nat)<2^63:=by rw[Qr];decide
def ajT:tM X (λx H Q=>∃k,tN X.K x H k/\Q k H):=by
 intro A3 s σ H x v Q Z Au h;obtain⟨k,e,q⟩:=h;have AH:=T6;have AP:CW=16777216:=Qr;cases x with
 |non=>cases Au;have Bi:k=false:=e;subst Bi;exact truthy_none ⟨H,Z,q⟩
 |AO b=>cases Au;have Bi:k=b:=e;subst Bi;exact MI ⟨H,Z,q⟩
 |int i=>obtain⟨t,rfl⟩:=Au;have Bi:k=(i !=0):=e;subst Bi;exact PySem.P.truthy_int ⟨H,Z,q⟩
 |str y=>obtain⟨t,rfl⟩:=Au;obtain⟨AX,Bi⟩:⇑y<=CW/\k=((⇑y:Int) !=0):=e;subst Bi;exact PySem.P.truthy_str δ ⟨H,Z.tok _,q⟩
 |Pf y=>obtain⟨t,rfl⟩:=Au;obtain⟨AX,Bi⟩:y.size<=CW/\k=((y.size:Int) !=0):=e;subst Bi;exact PySem.W.truthy_bytes δ ⟨H,Z.tok _,q⟩
 |ref p=>
  cases Au;have Bi:(∃xs,Eu X.K H p xs/\k=!xs.isEmpty)\/(∃xs,Ek X.K H p xs/\k=!xs.isEmpty)\/∃AC,H p=↥(.B8 AC)/\k=!AC.isEmpty:=e;rcases Bi with⟨xs,AF,Bi⟩|⟨xs,AF,Bi⟩|⟨AC,AF,Bi⟩
  .subst Bi;obtain⟨its,r,pl,hz⟩:=Z.list AF;have hlen:=⇑r;exact wpAny_truthy_list pl.isList (by erw[D_];lia) ⟨H,Z.tok _,by rw[kH r];exact q⟩
  .subst Bi;obtain⟨its,r,pl,hz⟩:=Z.tuple AF;have hlen:=⇑r;exact truthy_tuple pl (by erw[D_];lia) ⟨H,Z.tok _,by rw[kH r];exact q⟩
  .subst Bi;obtain⟨hz,Mb,vs,r,m⟩:⇑AC<=CW/\(p==Ld)=false/\∃vs,Fm AC vs/\s.heap.DictOf (HF X.prog X.w) p vs:=Z.B0 p _ AF;have hlen:⇑AC=⇑vs:=Paired.length r;exact wpAny_truthy_dict Mb m δ ⟨H,Z.tok _,by rw[yZ r];exact q⟩
 |_=>exact(show False from e).elim
def adC:Dp X (Jq .Add) (λx y H Q=>∃i j,x=.str i/\y=.str j/\ ⇑i+⇑j<=CW/\Q (.str (i++j)) H):=by intro A3 s σ H x y v u Q Z Au Bo h;obtain⟨i,j,rfl,rfl,hz,q⟩:=h;obtain⟨t,rfl⟩:=Au;obtain⟨t',rfl⟩:=Bo;exact add_str (λt' DW=>⟨.str (i++j),H,Z.tok _,⟨_,rfl⟩,q⟩) hz
def vals1{x:V}{us:↑A8}(r:Vals [x] us):∃u,us=[u]/\RelV x u:=by
 cases r with
 |cons Aw BL=>cases BL;exact⟨_,rfl,Aw⟩
def vals2{x y:V}{us:↑A8}(r:Vals [x,y] us):∃u Cb,us=[u,Cb]/\RelV x u/\RelV y Cb:=by
 cases r with
 |cons Aw BL=>
  cases BL with
  |cons FI NW=>cases NW;exact⟨_,_,rfl,Aw,FI⟩
def tv:K1 X (.type "int") (λxs H Q=>(∃i,xs=[.int i]/\Q (.int i) H)\/∃k,xs=[.AO k]/\Q (.int (if k then 1 else 0)) H):=by
 intro A3 s σ H xs us Q Z r h;rcases h with⟨i,rfl,q⟩|⟨k,rfl,q⟩
 .obtain⟨u,rfl,t,rfl⟩:=vals1 r;exact call_int_int ⟨.int i,H,Z,⟨_,rfl⟩,q⟩
 .obtain⟨u,rfl,Aw⟩:=vals1 r;cases Aw;exact call_int_bool ⟨.int (if k then 1 else 0),H,Z.tok _,⟨_,rfl⟩,q⟩
def u3:K1 X (.type "str") (λxs H Q=>∃i,xs=[.int i]/\i.natAbs.log2<1920/\Q (.str (toString i)) H):=by intro A3 s σ H xs us Q Z r h;obtain⟨i,rfl,hz,q⟩:=h;obtain⟨u,rfl,t,rfl⟩:=vals1 r;exact PySem.P.str_of_int hz ⟨.str _,H,Z.tok _,⟨_,rfl⟩,q⟩
def hU(K:Ap)(x:V)(H:AD)(n:Nat):Prop:=
 match x with
 |.str y=>⇑y<=CW/\n=⇑y
 |.Pf y=>y.size<=CW/\n=y.size
 |.ref p=>(∃xs,Eu K H p xs/\n=⇑xs)\/∃xs,Ek K H p xs/\n=⇑xs
 |_=>False
def tx:K1 X (.builtin "len") (λxs H Q=>∃x n,xs=[x]/\hU X.K x H n/\Q (.int n) H):=by
 intro A3 s σ H xs us Q Z r h;obtain⟨x,n,rfl,e,q⟩:=h;obtain⟨u,rfl,Au⟩:=vals1 r;have AH:=T6;have AP:CW=16777216:=Qr;cases x with
 |str y=>obtain⟨t,rfl⟩:=Au;obtain⟨AX,Bi⟩:⇑y<=CW/\n=⇑y:=e;subst Bi;exact len_str δ ⟨.int _,H,Z.tok _,⟨_,rfl⟩,q⟩
 |Pf y=>obtain⟨t,rfl⟩:=Au;obtain⟨AX,Bi⟩:y.size<=CW/\n=y.size:=e;subst Bi;exact PySem.W.len_bytes δ ⟨.int _,H,Z.tok _,⟨_,rfl⟩,q⟩
 |ref p=>
  cases Au;have Bi:(∃xs,Eu X.K H p xs/\n=⇑xs)\/∃xs,Ek X.K H p xs/\n=⇑xs:=e;rcases Bi with⟨xs,AF,Bi⟩|⟨xs,AF,Bi⟩
  .subst Bi;obtain⟨its,Bf,pl,hz⟩:=Z.list AF;have hlen:=⇑Bf;exact Calls.call_len_list pl.isList (by erw[D_];lia) ⟨.int ⇑xs,H,Z.tok _,⟨_,by erw[D_];rw[hlen]⟩,q⟩
  .subst Bi;obtain⟨its,Bf,pl,hz⟩:=Z.tuple AF;have hlen:=⇑Bf;exact len_tuple pl (by erw[D_];lia) ⟨.int ⇑xs,H,Z.tok _,⟨_,by erw[D_];rw[hlen]⟩,q⟩
 |_=>exact(show False from e).elim
end
structure Ra(h:BF)(x Bs C:A7)(EK:Str->Option A8):Prop where
 obj:h.get? x=↥(PJ C Bs)
 ns:h.Ns1 Bs EK
 ne:Bs≠x
def aao{h:BF}{Bs:A7}{EK:Str->Option A8}(n:h.Ns1 Bs EK):∃E1,h.get? Bs=↥E1/\∀name,Xb name E1=↥(EK name):=by
 obtain⟨o,es,BA,ho,hd,AN,_,hm⟩:=n;refine⟨o,ho,λname=>?_⟩;have e:=hm name;unfold nsFind findBy at e;rw[<-Array.find?_toList]at e;unfold Xb;rw[hd];dsimp only
 split
 .rename_i y q;rw[q]at e;exact congrArg some e
 .rename_i q;rw[q]at e;have a:es.toList.any (·.refKey)=false:=by
   rw[List.any_eq_false];intro y AX;obtain⟨z,t,YO⟩:=AN y (Array.mem_toList_iff.mp AX);simp[DictEntry.refKey,YO]
  have G_:¬es.toList.any (·.refKey)=true:=by rw[a];exact Kv
  rw[if_neg G_];exact congrArg some e
def Ra.look{h:BF}{x Bs C:A7}{EK:Str->Option A8}(Z:Ra h x Bs C EK):∃E1,PySem.W.InstAt h x (PJ C Bs) C ↥E1/\∀name,Xb name E1=↥(EK name):=
 let⟨E1,ho,AH⟩:=aao Z.ns
 ⟨E1,⟨Z.obj,rfl,rfl,ho⟩,AH⟩
section
variable{prog:C9}{w:Br}{A:D2}{E:A8->AQ->Prop}{s:AQ}{K:Ap}{x Bs C f:A7}{EK:Str->Option A8}{name:Str}{v:A8}
def get_map{expr:Bool}{Q:A8->AQ->Prop}(X:K.In s.heap)(Z:Ra s.heap x Bs C EK)(Ai:SG K C name=true)(hh:UO K C=true)(AG:Jn K (.ref C) name=↥none)(CG:EK name=↥v)(Zv:PySem.W.handedIn v=true)(h:Q v { s with toks:=s.toks+1 }) :
  An Φ A (getAttr (.ref x) name expr) Q E s:=by
 obtain⟨E1,BS,AH⟩:=Z.look;exact PySem.W.get_value X BS (gX Ai).1 (PySem.W.findObj_own hh AG rfl (by rw[AH,CG])) Zv h
def wv{pl:Sem Bool}{Q:A8×↑A8->AQ->Prop}(X:K.In s.heap)(Z:Ra s.heap x Bs C EK)(Ai:SG K C name=true)(hf:Jn K (.ref C) name=↥↥(.ref f))(B9:UX K (.ref f)=true)(CG:EK name=none)(h:Q (.ref f,[.ref x]) s) :
  An Φ A (O3 (.ref x) name pl) Q E s:=by
 obtain⟨E1,BS,AH⟩:=Z.look;exact PySem.W.method_fn X BS (gX Ai).1 (gX Ai).2 hf (beq_iff_eq.mp B9) (by show(Xb name E1).map (·.isSome)=↥false;rw[AH,CG];rfl) h
def aej{ns:↑Str}{Q:Unit->AQ->Prop}(X:K.In s.heap)(Z:Ra s.heap x Bs C EK)(AP:Jn K (.ref C) "__setattr__"=↥↥(.builtin "object.__setattr__"))(AT:XS K C=true)(B9:gk K C name=↥none)(hh:UO K C=true)(hw:h9 EK ns)(hsz:⇑ns<=CW)(h:∀h',Ra h' x Bs C (λy=>if y=name then↥v else EK y)->Kz Bs s.heap h'->Q () { s with heap:=h',toks:=s.toks+2 }) :
  An Φ A (setAttr (.ref x) name v) Q E s:=by
 obtain⟨E1,BS,AH⟩:=Z.look;refine PySem.W.set_plain X BS AP (PySem.W.osa_open (s:={ s with toks:=s.toks+1 }) (r:=none) X BS AT B9 λb=>?_);obtain⟨cd,AJ,PA⟩:=PySem.W.any_some hh;have AF:s.heap.get? x=↥⟨.ref C,↥Bs,.plain,#[]⟩:=Z.obj;refine Ag (Bh (Ag (Ag (wpAny_loadPart AF (Ag (PySem.W.Looks.here (s:={ s with toks:=s.toks+1 }) (PySem.W.looks_clsIn X AJ) ?_))))));rw[PA];refine Bh (a:=↥Bs) (Ag (Bh (Ag ?_)));refine wpAny_nsSet1 (s:={ s with toks:=s.toks+1 }) Z.ns λh' YR I6=>?_;obtain⟨dX,aiz,aiy,xn,EA,wi⟩:=YR.count (PySem.Within.cons name v hw);refine Ag (wpAny_lookBehind xn (by rw[EA];exact pastItsLine_dict (Iw wi (by rw[Dn];lia))) ?_);exact Bh (h _ ⟨(I6.2 _ (N3 Z.ne)).trans Z.obj,YR,Z.ne⟩ I6)
def aaW {R:Result->AQ->Prop} {vs:↑A8} {kw:↑(Str×A8)} (X:K.In s.heap) (hm:gm K C=true)(hi:Jn K (.ref C) "__init__"=↥↥(.ref f)) (hf:PySem.W.typeIn K (.ref f)=↥(.type "function"))(h:MQ Φ (A.under (.builtin "type.__call__" ⟨.ref C::vs,kw⟩)) (.call (.ref f) ⟨.ref (s.heap.objs.size+1)::vs,kw⟩) (PySem.W.InitBack (s.heap.objs.size+1) R)
    { s with heap:=(s.heap.push Nx).push (PJ C s.heap.objs.size) }) :
  MQ Φ A (.call (.ref C) ⟨vs,kw⟩) R s:=by
 obtain⟨hh,g,d,t,os⟩:=s;exact PySem.W.make_core (PySem.W.makes_of X hm) (PySem.W.looks_findIn X hi) (λself=>PySem.W.bind_fn X self hf) (.inl rfl) h
end
noncomputable def Hl(f:Str)(v:V):↑(Str×V)->↑(Str×V)
 |[]=>[(f,v)]
 |(g,x)::r=>if g=f then(g,v)::r else(g,x)::Hl f v r
theorem lu(f g:Str)(v:V):∀B7:↑(Str×V),(Hl f v B7).lookup g=if g=f then↥v else B7.lookup g
 |[]=>by
  show Qs g [(f,v)]=_;by_cases h:g=f
  .have A4:(g==f)=true:=beq_iff_eq.mpr h;erw[Qs,A4,if_pos h]
  .have A4:(g==f)=false:=beq_eq_false_iff_ne.mpr h;erw[Qs,A4,if_neg h]
 |(k,x)::r=>by
  have C4:=lu f g v r;rw[show Hl f v ((k,x)::r)=(if k=f then(k,v)::r else(k,x)::Hl f v r)from rfl];by_cases AN:k=f
  .rw[if_pos AN];by_cases h:g=k
   .have A4:(g==k)=true:=beq_iff_eq.mpr h;erw[Qs,A4,if_pos (h.trans AN)]
   .have A4:(g==k)=false:=beq_eq_false_iff_ne.mpr h;erw[Qs,A4,if_neg (λe:g=f=>h (e.trans AN.symm))]
  .rw[if_neg AN];by_cases h:g=k
   .have A4:(g==k)=true:=beq_iff_eq.mpr h;erw[Qs,A4,if_neg (λe:g=f=>AN (h.symm.trans e))]
   .have A4:(g==k)=false:=beq_eq_false_iff_ne.mpr h;erw[Qs,A4];exact C4
theorem da(f:Str)(v:V):∀B7:↑(Str×V),f∈(Hl f v B7).map (·.1)/\∀g,g∈B7.map (·.1)->g∈(Hl f v B7).map (·.1)
 |[]=>⟨by simp[Hl],λg h=>by simp at h⟩
 |(k,x)::r=>by
  obtain⟨CZ,Fk⟩:=da f v r;rw[show Hl f v ((k,x)::r)=(if k=f then(k,v)::r else(k,x)::Hl f v r)from rfl];by_cases AN:k=f
  .rw[if_pos AN];subst AN;exact⟨γ,λg h=>(h:)⟩
  .rw[if_neg AN];refine⟨?_,λg h=>?_⟩
   .rw[Do];exact Gw _ CZ
   .rw[Do]at h |-;rcases List.mem_cons.mp h with e|e
    .exact List.mem_cons.mpr (.inl e)
    .exact Gw _ (Fk g e)
theorem lp(f:Str)(v:V):∀B7:↑(Str×V),⇑(Hl f v B7)<=⇑B7+1
 |[]=>by simp[Hl]
 |(k,x)::r=>by
  have C4:=lp f v r;rw[show Hl f v ((k,x)::r)=(if k=f then(k,v)::r else(k,x)::Hl f v r)from rfl];by_cases AN:k=f
  .rw[if_pos AN,Dn,Dn];lia
  .rw[if_neg AN,Dn,Dn];lia
def IN.some_of{v:V}{o:Option A8}(r:IN ↥v o):∃u,o=↥u/\RelV v u:=by
 cases o with
 |none=>exact(show False from r).elim
 |some u=>exact⟨u,rfl,r⟩
def IN.none_of{o:Option A8}(r:IN none o):o=none:=by
 cases o with
 |none=>rfl
 |some u=>exact(show False from r).elim
def wd{v:V}{u:A8}(r:RelV v u):PySem.W.handedIn u=true:=by
 cases v with
 |non=>cases(show u=KL from r);rfl
 |AO b=>cases(show u=Qq b from r);rfl
 |int i=>obtain⟨t,e⟩:=(show ∃t,u=SM i t from r);cases e;rfl
 |str x=>obtain⟨t,e⟩:=(show ∃t,u=SN x t from r);cases e;rfl
 |Pf b=>obtain⟨t,e⟩:=(show ∃t,u=Value.bytes b t from r);cases e;rfl
 |RE b=>obtain⟨t,e⟩:=(show ∃t,u=gz b t from r);cases e;rfl
 |ref a=>cases(show u=Cq a from r);rfl
 |ty n=>cases(show u=Nz n from r);rfl
section
variable{P:C9}{w:Br}{K:Ap}{H A9:AD}{h h':BF}{a C Bs:A7}{B7 Nq:↑(Str×V)}
def a8(B0:Es P w H h)(e:H a=↥(.ins C Bs B7)):∃EK,Ra h a Bs C EK/\(∀f,IN (B7.lookup f) (EK f))/\h9 EK (B7.map (·.1))/\ ⇑B7<=1000/\H Bs=↥(.own a):=by obtain⟨d,z,ne,BI,EK,n,r,q⟩:=(show Ds P w H h a (.ins C Bs B7)from B0 a _ e);exact⟨EK,⟨BI,n,ne⟩,r,q,z,d⟩
end
structure Jr(K:Ap)(C:A7):Prop where
 CD:SG K C Str.empty=true
 hd:UO K C=true
 po:XS K C=true
 OH:Jn K (.ref C) "__setattr__"=↥↥(.builtin "object.__setattr__")
def Jr.get{K:Ap}{C:A7}(c:Jr K C)(f:Str):SG K C f=true:=c.CD
def R_(K:Ap)(C:A7)(f:Str):Prop:=Jn K (.ref C) f=↥none
def R_.agB{K:Ap}{C:A7}{f:Str}(n:R_ K C f):gk K C f=↥none:=by unfold gk;rw[show Jn K (.ref C) f=↥none from n];rfl
structure Meth(K:Ap)(C:A7)(m:Str)(f:A7):Prop where
 at_:Jn K (.ref C) m=↥↥(.ref f)
 fn:UX K (.ref f)=true
 Bu:KI K (.ref f)=true
section
variable{X:Ar}{A3:μ}{σ :St}{H:AD}{s:AQ}{a C Bs:A7}{B7:↑(Str×V)}{f:Str}{v:V}{A:D2}{E:A8->AQ->Prop}
def ww{b:Bool}{Q:A8->AQ->Prop}(Z:θ)(e:H a=↥(.ins C Bs B7))(c:Jr X.K C)(n:R_ X.K C f)(l:B7.lookup f=↥v)(h:∀u s',Inv X A3 σ H s'->RelV v u->Q u s'):An ξ A (getAttr (.ref a) f b) Q E s:=by obtain⟨EK,O,r,_,_,_⟩:=a8 Z.B0 e;obtain⟨u,BQ,FJ⟩:=IN.some_of (v:=v) (o:=EK f) (by rw[<-l];exact r f);exact get_map Z.F8 O (c.get f) c.hd n BQ (wd FJ) (h u _ (Z.tok _) FJ)
def Yn{m:Str}{g:A7}{pl:Sem Bool}{Q:A8×↑A8->AQ->Prop}(Z:θ)(e:H a=↥(.ins C Bs B7))(c:Jr X.K C)(k:Meth X.K C m g)(l:B7.lookup m=none)(h:Q (.ref g,[.ref a]) s):An ξ A (O3 (.ref a) m pl) Q E s:=by obtain⟨EK,O,r,_,_,_⟩:=a8 Z.B0 e;have AZ:EK m=none:=IN.none_of (by rw[<-l];exact r m);exact wv Z.F8 O (c.get m) k.at_ k.fn AZ h
def ael{y:V}{u:A8}{Q:Unit->AQ->Prop}(Z:θ)(e:H a=↥(.ins C Bs B7))(c:Jr X.K C)(n:R_ X.K C f)(AH:⇑B7<1000)(Bo:RelV y u)(h:∀s',Inv X A3 σ (upd H a (.ins C Bs (Hl f y B7))) s'->Q () s'):An ξ A (setAttr (.ref a) f u) Q E s:=by
 obtain⟨EK,O,r,Iv,_,ho⟩:=a8 Z.B0 e;have hz:⇑(B7.map (·.1))<=CW:=by rw[CE,Qr];lia
 refine aej Z.F8 O c.OH c.po n.agB c.hd Iv hz λh' c8 HT=>h _ ?_;have hd:∃o,h'.get? Bs=↥o:=let⟨o,_,_,Bi,_⟩:=c8.ns;⟨o,Bi⟩
 refine Z.write (x:=a) (e:=Bs) (by rw[e];exact Iy) (.inr ho) (λb q A4 z=>(HT.2 b A4).trans z) hd ?_;refine⟨by rw[DK O.ne];exact ho,?_,O.ne,c8.obj,_,c8.ns,λg=>?_,λg Ai=>?_⟩
 .have:=lp f y B7;lia
 .show IN ((Hl f y B7).lookup g) (if g=f then↥u else EK g);rw[lu];by_cases q:g=f
  .rw[if_pos q,if_pos q];exact Bo
  .rw[if_neg q,if_neg q];exact r g
 .by_cases q:g=f
  .rw[q];exact(da f y B7).1
  .refine(da f y B7).2 g (Iv g λz=>Ai ?_);show(if g=f then↥u else EK g)=none;rw[if_neg q];exact z
def Inv.made(Z:θ):Inv X A3 σ (upd (upd H s.heap.objs.size (.own (s.heap.objs.size+1))) (s.heap.objs.size+1) (.ins C s.heap.objs.size []))
  { s with heap:=(s.heap.push Nx).push (PJ C s.heap.objs.size) }:=by
 have AA:(s.heap.push Nx).get? s.heap.objs.size=↥Nx:=Fx s.heap rfl;have AE:((s.heap.push Nx).push (PJ C s.heap.objs.size)).get? (s.heap.objs.size+1)=↥(PJ C s.heap.objs.size):=by
  have:=Fx (s.heap.push Nx) (o:=PJ C s.heap.objs.size) rfl
  rwa [Lb]at this
 have Cd:(s.heap.push Nx).Ns s.heap.objs.size (λ_=>none):=⟨Nx,#[],_,AA,rfl,(λe he=>absurd he γ),λ_=>rfl⟩;have Ad:=Z.laid (a:=s.heap.objs.size) (o:=.own (s.heap.objs.size+1)) (h':=s.heap.push Nx) (t':=s.toks) (λb u q=>DU _ q) (C5 _) ⟨_,AA⟩;refine Ad.laid (a:=s.heap.objs.size+1) (o:=.ins C s.heap.objs.size []) (t':=s.toks) (λb u q=>DU _ q) (hA (Lb _ _)) ?_;have ne:s.heap.objs.size≠s.heap.objs.size+1:=F0 (PE _);refine⟨by rw[DK ne,EM],IB _,ne,AE,λ_=>none,(Heap.Ns1.of_empty Cd).at λo q=>DU _ q,λ_=>Iy,λy AX=>absurd rfl AX⟩
def uF{prog:C9}{w:Br}{env:Env}{e:Aq}{f:Str}{pos:Pos}{s:AQ}{Q:A8->AQ->Prop}(A4:Ky e f env (Bc e env)=Bc e env)(h:An Φ A (Bc e env) (λo Cx=>An Φ A (getAttr o f true) Q E Cx) E s):An Φ A (Bc (.Attribute e f pos) env) Q E s:=
 Attribute_any_ h (by rw[arm_eval_Attribute,A4])
end
noncomputable def rJ(K:Ap)(BW:TE)(f:Str):TE:=λσ H Q=>BW σ H λx H1=>∃a C Bs B7 v,x=.ref a/\H1 a=↥(.ins C Bs B7)/\Jr K C/\R_ K C f/\B7.lookup f=↥v/\Q v H1
def oC(K:Ap)(BW OL:TE)(f:Str):F4:=λD σ H=>OL σ H λy H1=>BW σ H1 λx AU=>∃a C Bs B7,x=.ref a/\AU a=↥(.ins C Bs B7)/\Jr K C/\R_ K C f/\ ⇑B7<1000/\
 D.AM σ (upd AU a (.ins C Bs (Hl f y B7)))
section
variable{X:Ar}{o e value:Aq}{f:Str}{pos pos' Na:Pos}{BW OL:TE}
def ack(he:Ah X e BW)(A4:Ky e f X.env (Bc e X.env)=Bc e X.env):Ah X (.Attribute e f pos) (rJ X.K BW f):=by intro A3 s σ H Q Z h;refine uF A4 (Ba (he A3 s σ H _ Z h) λu s1⟨x,H1,Ad,Au,a,C,Bs,B7,v,ex,BJ,c,n,l,q⟩=>?_);subst ex;obtain rfl:u=Cq a:=Au;exact ww Ad BJ c n l λJd s2 Bj FJ=>⟨v,H1,Bj,FJ,q⟩
def adf(AG:Ah X o BW)(CG:Ah X value OL)(AP:O2 value ↥(.Attribute o f pos') pos.line X.env=pure false):DX X (.Assign [.Attribute o f pos'] value pos) (oC X.K BW OL f):=by intro A3 s σ H D Z h;refine plainObj_wpAny_Assign_Attribute (Ba (CG A3 s σ H _ Z h) λu s1⟨y,H1,Ad,Bo,q⟩=>Ba (AG A3 s1 σ H1 _ Ad q) λCL s2⟨x,AU,Bj,Au,a,C,Bs,B7,ex,BJ,c,n,l,q2⟩=>?_) AP;subst ex;obtain rfl:CL=Cq a:=Au;exact ael Bj BJ c n l Bo λs3 DD=>⟨σ,_,DD,q2⟩
def ajm {pl:Sem Bool} {m:Str} {apos:Pos} {args:↑Aq} {A3:μ} {s:AQ} {σ :St} {H:AD} {Q:A8->AQ->Prop} {te:TE} (he:Ah X e te) (Z:θ)(h:te σ H λx H1=>∃a C Bs B7 g,x=.ref a/\H1 a=↥(.ins C Bs B7)/\Jr X.K C/\Meth X.K C m g/\B7.lookup m=none/\
    ∀s1,Inv X A3 σ H1 s1->An ξ X.A (PP pos (.ref g) [.ref a] (Fa pos (CM args X.env)) (L0 pos (Kx [] X.env))) Q X.DC s1)
  (B9:Bc (.Call (.Attribute e m apos) args [] pos) X.env=(do
    let CL <-Bc e X.env
    MP apos.atName
    let(f,first) <-JI [CL] (O3 CL m pl)
    PP pos f first (Fa pos (CM args X.env)) (L0 pos (Kx [] X.env)))) :
  An ξ X.A (Bc (.Call (.Attribute e m apos) args [] pos) X.env) Q X.DC s:=by
 refine X3 (pl:=pl) (Ba (he A3 s σ H _ Z h) λu s1⟨x,H1,Ad,Au,a,C,Bs,B7,g,ex,BJ,c,k,l,q⟩=>?_) B9;subst ex;obtain rfl:u=Cq a:=Au;exact Yn Ad BJ c k l (q s1 Ad)
end
section
variable{X:Ar}{A3:μ}{σ :St}{H:AD}{s:AQ}{A:D2}{E:A8->AQ->Prop}{Q:A8->AQ->Prop}{c:A8}{b:Bool}
inductive M0(K:Ap)(H:AD):V->A8->Prop where
 |non:M0 K H .non (.type "NoneType")
 |AO (x:Bool):M0 K H (.AO x) (.type "bool")
 |int (i:Int):M0 K H (.int i) (.type "int")
 |str (x:Str):M0 K H (.str x) (.type "str")
 |RE (x:UInt64):M0 K H (.RE x) (.type "float")
 |lst {a:A7} {xs:↑V} (e:H a=↥(.lst xs)):M0 K H (.ref a) (.type "list")
 |D7 {a:A7} {o:Obj} {xs:↑V} (e:H a=↥(.D7 o (.lst xs))):M0 K H (.ref a) (.type "list")
 |tup {a:A7} {xs:↑V} (e:H a=↥(.tup xs)):M0 K H (.ref a) (.type "tuple")
 |B8 {a:A7} {AC:↑(Key×V)} (e:H a=↥(.B8 AC)):M0 K H (.ref a) (.type "dict")
 |Dx {a:A7} {AC:↑(Et×V)} (e:H a=↥(.Dx AC)):M0 K H (.ref a) (.type "dict")
 |ins {a C Bs:A7} {B7:↑(Str×V)} (e:H a=↥(.ins C Bs B7)) (cl:Jr K C) (AG:Jn K (.ref C) "__class__"=↥↥(.builtin "object.__class__"))
    (AZ:PySem.W.specialIn K (.builtin "object.__class__") "__get__"=↥↥(.builtin "getset_descriptor.__get__")) (Zu:PySem.W.takesIn K (.builtin "object.__class__")=↥true)
    (hm:PySem.W.mroIn K C (.type "object")=↥true):M0 K H (.ref a) (.ref C)
def eN{x:V}{u t:A8}(Z:θ)(Au:RelV x u)(ty:M0 X.K H x t)(e:Xc X.K t c=↥b)(h:∀DW,Q (.bool b) { s with toks:=DW }) :
  An ξ A (call (.builtin "isinstance") [u,c]) Q E s:=by
 cases ty with
 |non=>cases(show u=KL from Au);exact JF s_ Z.F8 Iy e (λz=>nomatch z) h
 |AO y=>cases(show u=Qq y from Au);exact JF sa Z.F8 Iy e (λz=>nomatch z) h
 |int i=>obtain⟨t,q⟩:=(show ∃t,u=SM i t from Au);cases q;exact JF PySem.W.kitx_int Z.F8 Iy e (λz=>nomatch z) h
 |str y=>obtain⟨t,q⟩:=(show ∃t,u=SN y t from Au);cases q;exact JF PySem.W.kitx_str Z.F8 Iy e (λz=>nomatch z) h
 |RE y=>obtain⟨t,q⟩:=(show ∃t,u=gz y t from Au);cases q;exact JF PySem.W.kitx_float Z.F8 Iy e (λz=>nomatch z) h
 | @lst a xs BJ=>cases(show u=Cq a from Au);obtain⟨_,_,n,_,h1⟩:=(show Ds X.prog X.w H s.heap a (.lst xs)from Z.B0 a _ BJ);exact JF sb Z.F8 ⟨_,h1,rfl⟩ e (λz=>nomatch z) h
 | @D7 a BI xs BJ=>cases(show u=Cq a from Au);obtain⟨_,_,_,n,_,h1⟩:=(show Ds X.prog X.w H s.heap a (.D7 BI (.lst xs))from Z.B0 a _ BJ);exact JF sb Z.F8 ⟨_,h1,rfl⟩ e (λz=>nomatch z) h
 | @tup a xs BJ=>cases(show u=Cq a from Au);obtain⟨_,_,_,p⟩:=(show Ds X.prog X.w H s.heap a (.tup xs)from Z.B0 a _ BJ);obtain⟨o,h1,h2,_⟩:=p;exact JF sW Z.F8 ⟨o,h1,h2⟩ e (λz=>nomatch z) h
 | @B8 a AC BJ=>cases(show u=Cq a from Au);obtain⟨_,_,vs,_,p⟩:=(show Ds X.prog X.w H s.heap a (.B8 AC)from Z.B0 a _ BJ);obtain⟨o,es,BA,h1,h2,_⟩:=p;exact JF sd Z.F8 ⟨o,h1,h2.1⟩ e (λz=>nomatch z) h
 | @Dx a AC BJ=>cases(show u=Cq a from Au);obtain⟨_,_,xs,_,o,es,BA,h1,h2,_⟩:=(show Ds X.prog X.w H s.heap a (.Dx AC)from Z.B0 a _ BJ);exact JF sd Z.F8 ⟨o,h1,h2.1⟩ e (λz=>nomatch z) h
 | @ins a C Bs B7 BJ cl AG AZ Zu hm=>cases(show u=Cq a from Au);obtain⟨EK,O,_⟩:=a8 Z.B0 BJ;obtain⟨E1,BS,_⟩:=O.look;exact JF (PySem.W.kitx_own (cl.get _) cl.hd AG AZ Zu hm) Z.F8 BS e (λz=>nomatch z) h
end
structure Cv(k:Nat)(A:D2):Prop where
 hd:A.handled=none
 Eo:A.depth+3*k+5<recursionLimit
 un:A.units+16*k+200<Dg
def Cv.mono{j k:Nat}{A:D2}(r:Cv k A)(h:j<=k):Cv j A:=⟨r.hd,by have:=r.Eo;lia,by have:=r.un;lia⟩
theorem Cv.deeper{k:Nat}{A:D2}(r:Cv (k+1) A)(env:Env):Cv k (A.deeper env):=
 ⟨r.hd,by have:=r.Eo;show A.depth+1+3*k+5<_;lia,by have:=r.un;show A.units+3+16*k+200<_;lia⟩
theorem Cv.in1{k:Nat}{A:D2}(r:Cv (k+1) A):Cv k A.in1:=
 ⟨r.hd,by have:=r.Eo;show A.depth+3*k+5<_;lia,by have:=r.un;show A.units+1+16*k+200<_;lia⟩
def aaV{A:D2}{C:A7}{us:↑A8}{kw:↑(Str×A8)}:(A.under (.builtin "type.__call__" ⟨.ref C::us,kw⟩)).depth=A.depth+1:=by
 first|rfl|simp[hB,Code.weight,Code.isCreation,Code.isGuard,Code.isCaller,Code.frames,hC,guardIds]
def aaX{A:D2}{C:A7}{us:↑A8}{kw:↑(Str×A8)}:(A.under (.builtin "type.__call__" ⟨.ref C::us,kw⟩)).units=A.units+1:=by
 first|rfl|simp[hB,Code.cUnits,Code.frames,hC]
def Cv.make{k:Nat}{A:D2}(r:Cv (k+1) A)(C:A7)(us:↑A8)(kw:↑(Str×A8)):Cv k (A.under (.builtin "type.__call__" ⟨.ref C::us,kw⟩)):=
 ⟨r.hd,by have:=r.Eo;rw[aaV];lia,by have:=r.un;rw[aaX];lia⟩
theorem Cv.depth{k:Nat}{A:D2}(r:Cv k A):A.depth<recursionLimit:=by have:=r.Eo;lia
theorem Cv.units{k:Nat}{A:D2}(r:Cv k A):A.units+64<Dg:=by have:=r.un;lia
def aX:Fb:=λ_ H Q=>Q [] H
noncomputable def aT(BW:TE)(agF:Fb):Fb:=λσ H Q=>BW σ H λx H1=>agF σ H1 λxs AU=>Q (x::xs) AU
section
variable{X:Ar}{e:Aq}{es:↑Aq}{te:TE}{t:Fb}{pos:Pos}
def UF:H9 X [] aX:=λ_ _ _ _ H Q Z h=>UP ⟨[],H,Z,.nil,h⟩
def S2(AG:Ah X e te)(BH:H9 X es t)(AP:CM (e::es) X.env=(false,Bc e X.env)::CM es X.env:=by rfl):H9 X (e::es) (aT te t):=by intro pos A3 s σ H Q Z h;rw[AP];show An _ _ (spliced ((false,Bc e X.env)::Fa pos (CM es X.env))) _ _ s;refine UV (Ba (AG A3 s σ H _ Z h) λu s1⟨x,H1,Ad,Aw,q1⟩=>?_);exact Ba (BH pos A3 s1 σ H1 _ Ad q1) λus s2⟨xs,AU,Bj,BL,q2⟩=>⟨x::xs,AU,Bj,.cons Aw BL,q2⟩
def qo(t:Fb):TE:=λσ H Q=>t σ H λxs H1=>⇑xs<=CW/\∀p,H1 p=none->Q (.ref p) (upd H1 p (.tup xs))
def rM(t:Fb):TE:=λσ H Q=>t σ H λxs H1=>⇑xs<=CW/\∀p,H1 p=none->Q (.ref p) (upd H1 p (.lst xs))
def acQ{Cn}(h:H9 X es t):Ah X (.Tuple es Cn pos) (qo t):=by intro A3 s σ H Q Z Aa;refine wpAny_Tuple_spliced (Ba (h pos A3 s σ H _ Z Aa) λus s1⟨xs,H1,Ad,r,z,q⟩=>⟨by rw[<- ⇑r];exact z,?_⟩);have hf:H1 s1.heap.objs.size=none:=Ad.B0.fresh (C5 _);refine⟨.ref s1.heap.objs.size,upd H1 s1.heap.objs.size (.tup xs),Ad.laid (t':=s1.toks) (λb u e=>DU _ e) (C5 _) ?_,rfl,q _ hf⟩;exact⟨z,us,r,⟨_,Fx _ rfl,rfl,_,rfl⟩⟩
def acr(h:H9 X es t):Ah X (.List es pos) (rM t):=by intro A3 s σ H Q Z Aa;refine wpAny_List_spliced (Ba (h pos A3 s σ H _ Z Aa) λus s1⟨xs,H1,Ad,r,z,q⟩=>⟨by rw[<- ⇑r];exact z,?_⟩);have hf:H1 s1.heap.objs.size=none:=Ad.B0.fresh (C5 _);refine⟨.ref s1.heap.objs.size,upd H1 s1.heap.objs.size (.lst xs),Ad.laid (t':=s1.toks) (λb u e=>DU _ e) (C5 _) ?_,rfl,q _ hf⟩;exact⟨z,us,0,r,Fx _ rfl⟩
end
abbrev CH:=↑V->AD->CY->Ev->Prop
abbrev L9:=↑Env->AD->AQ->Ev->A8->AQ->Prop
structure N7(P:C9)(w:Br)(K:Ap)(mg:Str->Option A8)(base:BF)(A:D2)(outer:↑Env)(s:AQ)(H:AD):Prop where
 frames:A.frames=↥outer
 mod:Mod K mg base
 bs:∀b o,base.get? b=↥o->s.heap.get? b=↥o/\H b=none
 Nf:base.objs.size<=s.heap.objs.size
 JP:s.heap.FunFrames base outer
 P6:∀b∈Ew outer,H b=none
 B0:Es P w H s.heap
 bare:N2 s.gens
def hK(outer:↑Env)(P:C9)(w:Br)(K:Ap)(H:AD)(s:AQ)(Q:CY)(u:A8)(s':AQ):Prop:=
 ∃v A9,s'.os=s.os/\N2 s'.gens/\G0 (Ew outer) [] H A9 s.heap s'.heap/\Es P w A9 s'.heap/\RelV v u/\Q v A9
def t5(CX:L9)(outer:↑Env)(P:C9)(w:Br)(K:Ap)(H:AD)(s:AQ)(Q:CY)(E:Ev)(r:Result)(s':AQ):Prop:=
 match r with
 |.ok (.ret u)=>hK outer P w K H s Q u s'
 |.ok _=>False
 |.error e=>CX outer H s E e s'
structure Ib(P:C9)(w:Br)(K:Ap)(mg:Str->Option A8)(base:BF)(CX:L9)(k:Nat)(f:A7)(fd:Hv)(ps:↑Str)(sp:CH):Prop where
 len:∀vs H Q E,sp vs H Q E->⇑vs=⇑ps
 run:∀(A:D2)(outer:↑Env)(s:AQ)(H:AD)(args:Args)(us:↑A8)(vs:↑V)(Q:CY)(E:Ev),Cv k A->N7 P w K mg base A outer s H->BindsTo s fd args (ps.zip us)->Vals vs us->sp vs H Q E->
  MQ (B4 P w) A (.call (.ref f) args) (t5 CX outer P w K H s Q E) s
def Ib.imp{P:C9}{w:Br}{K:Ap}{mg:Str->Option A8}{base:BF}{CX:L9}{k:Nat}{f:A7}{fd:Hv}{ps:↑Str}{sp pN:CH}(F:Ib P w K mg base CX k f fd ps sp)(h:∀vs H Q E,pN vs H Q E->sp vs H Q E):Ib P w K mg base CX k f fd ps pN:=
 ⟨λvs H Q E q=>F.len vs H Q E (h _ _ _ _ q),λA outer s H args us vs Q E BH he A4 CG AP=>F.run A outer s H args us vs Q E BH he A4 CG (h _ _ _ _ AP)⟩
def N7.make{P:C9}{w:Br}{K:Ap}{mg:Str->Option A8}{base:BF}{A:D2}{outer:↑Env}{s:AQ}{H:AD}(e:N7 P w K mg base A outer s H)(C:A7)(us:↑A8)(kw:↑(Str×A8)) :
  N7 P w K mg base (A.under (.builtin "type.__call__" ⟨.ref C::us,kw⟩)) outer s H:=⟨by first|exact e.frames|(simpa[hB,Code.envs,hC,pushEnvs]using e.frames),e.mod,e.bs,e.Nf,e.JP,e.P6,e.B0,e.bare⟩
theorem N7.in1{P:C9}{w:Br}{K:Ap}{mg:Str->Option A8}{base:BF}{A:D2}{outer:↑Env}{s:AQ}{H:AD}(e:N7 P w K mg base A outer s H) :
  N7 P w K mg base A.in1 outer s H:=⟨e.frames,e.mod,e.bs,e.Nf,e.JP,e.P6,e.B0,e.bare⟩
section
variable{X:Ar}{A3:μ}{σ :St}{H:AD}{s s':AQ}
def Inv.cW(Z:θ):N7 X.prog X.w X.K X.mg X.base X.A X.stack s H:=
 ⟨Z.ok.frames,Z.ok.mod,Z.bs,Iw Z.ok.Nf Z.QR,Z.stack,Z.e_,Z.B0,Z.bare⟩
def Inv.after{Q:CY}{u:A8}(Z:θ)(h:hK X.stack X.prog X.w X.K H s Q u s'):H6 X A3 σ Q u s':=by obtain⟨v,A9,os,bare,un,B0,r,q⟩:=h;obtain⟨hh,g,d,t,fF⟩:=s';obtain rfl:fF=s.os:=os;exact⟨v,A9,Z.call (h':=hh) (g':=g) (d':=d) (t':=t) (ch:=[]) un B0 bare (λb z=>absurd z γ),r,q⟩
end
noncomputable def rD(sp:CH)(HY:↑V)(E:Ev)(t:Fb):TE:=λσ H Q=>t σ H λvs H1=>sp (vs++HY) H1 Q E
noncomputable def aV(C:A7)(m:Str)(sp:CH)(HY:↑V)(E:Ev)(BW:TE)(t:Fb):TE:=λσ H Q=>BW σ H λx H1=>∃a Bs B7,x=.ref a/\H1 a=↥(.ins C Bs B7)/\B7.lookup m=none/\
 t σ H1 λvs AU=>sp (x::(vs++HY)) AU Q E
def rN(C:A7)(sp:CH)(HY:↑V)(E:Ev)(t:Fb):TE:=λσ H Q=>t σ H λvs H1=>∀x Bs,H1 x=none->H1 Bs=none->Bs≠x->
 sp (.ref x::(vs++HY)) (upd (upd H1 Bs (.own x)) x (.ins C Bs [])) (λv AU=>v=.non/\Q (.ref x) AU) E
def Binds(K:Ap)(fd:Hv)(ps:↑Str)(ds:↑A8):Prop:=
 ∀(s:AQ)(us:↑A8),K.In s.heap->⇑(us++ds)=⇑ps->BindsTo s fd ⟨us,[]⟩ (ps.zip (us++ds))
def Binds.all{K:Ap}{fd:Hv}{ps:↑Str}(h:∀us:↑A8,⇑us=⇑ps->bindArgs fd ⟨us,[]⟩=pure (ps.zip us)):Binds K fd ps []:=λs us _ AH=>by rw[La]at AH |-;exact .of_eq (h us AH)
def Passes(CX:L9)(X:Ar)(E:Ev):Prop:=∀(A3:μ)(σ :St)(H:AD)(s:AQ)(e:A8)(s':AQ),θ->CX X.stack H s E e s'->X.DC e s'
section
variable{X:Ar}{CX:L9}{k:Nat}{f C:A7}{fd:Hv}{ps:↑Str}{sp:CH}{HY:↑V}{ds:↑A8}{E:Ev}{x m:Str}{p pos apos:Pos}{e o:Aq}{es:↑Aq}{BW:TE}{t:Fb}
def f7{A3:μ}{σ :St}{H:AD}{s:AQ}{Q:CY}{us:↑A8}{vs:↑V}(F:Ib X.prog X.w X.K X.mg X.base CX k f fd ps sp)(BH:Cv k X.A)(A4:Binds X.K fd ps ds)(hd:Vals HY ds)(AF:Passes CX X E)(Z:θ)(r:Vals vs us)(h:sp (vs++HY) H Q E):An ξ X.A (call (.ref f) us) (H6 X A3 σ Q) X.DC s:=by
 have BL:Vals (vs++HY) (us++ds):=r.append hd;have AH:⇑(us++ds)=⇑ps:=by rw[<- ⇑BL];exact F.len _ _ _ _ h
 refine wpAny_call (Qi (F.run X.A X.stack s H ⟨us,[]⟩ (us++ds) (vs++HY) Q E BH Z.cW (A4 s us Z.F8 AH) BL h) λr s' Aa=>?_);cases r with
 |error e=>exact AF A3 σ H s e s' Z Aa
 |ok CK=>
  cases CK with
  |ret u=>exact Z.after Aa
  |next=>exact HX Aa
  |brk=>exact HX Aa
  |cont=>exact HX Aa
def ace(F:Ib X.prog X.w X.K X.mg X.base CX k f fd ps sp)(BH:Cv k X.A)(Ai:Eh X x)(hm:X.mg x=↥(.ref f))(AN:KI X.K (.ref f)=true)(A4:Binds X.K fd ps ds)(hd:Vals HY ds)(AF:Passes CX X E)(AG:H9 X (e::es) t)(Md:(x==("__debug__" :Str))=false:=by decide)(he:CM (e::es) X.env=(false,Bc e X.env)::CM es X.env:=by rfl)(GN:(Fa pos (CM es X.env)).any (·.1)=false:=by rfl) :
  Ah X (.Call (.Name x p) (e::es) [] pos) (rD sp HY E t):=by
 intro A3 s σ H Q Z h;refine UW (WQ Z Ai hm ?_ Md);refine X2 (h₀:=X.base) Z.ok.mod.R3 AN (Ba (AG pos A3 s σ H _ Z h) λus s1⟨vs,H1,Ad,r,q⟩=>⟨Ad.F8,?_⟩) he GN;exact f7 F BH A4 hd AF Ad r q
def acu {pl:Sem Bool} (he:Ah X o BW) (c:Jr X.K C) (hm:Meth X.K C m f) (F:Ib X.prog X.w X.K X.mg X.base CX k f fd ps sp) (BH:Cv k X.A) (A4:Binds X.K fd ps ds) (hd:Vals HY ds) (AF:Passes CX X E) (AG:H9 X (e::es) t)(Fj:CM (e::es) X.env=(false,Bc e X.env)::CM es X.env:=by rfl) (GN:(Fa pos (CM es X.env)).any (·.1)=false:=by rfl)(B9:Bc (.Call (.Attribute o m apos) (e::es) [] pos) X.env=(do
    let CL <-Bc o X.env
    MP apos.atName
    let(f,first) <-JI [CL] (O3 CL m pl)
    PP pos f first (Fa pos (CM (e::es) X.env)) (L0 pos (Kx [] X.env))):=by rfl) :
  Ah X (.Call (.Attribute o m apos) (e::es) [] pos) (aV C m sp HY E BW t):=by
 intro A3 s σ H Q Z h;refine X3 (pl:=pl) (Ba (he A3 s σ H _ Z h) λu s1⟨x,H1,Ad,Au,a,Bs,B7,ex,BJ,l,q⟩=>?_) B9;subst ex;obtain rfl:u=Cq a:=Au;refine Yn Ad BJ c hm l ?_;refine X2 (first:=[.ref a]) (h₀:=X.base) Z.ok.mod.R3 hm.Bu (Ba (AG pos A3 s1 σ H1 _ Ad q) λus s2⟨vs,AU,Bj,r,q2⟩=>⟨Bj.F8,?_⟩) Fj GN;exact f7 (us:=.ref a::us) (vs:=.ref a::vs) F BH A4 hd AF Bj (.cons rfl r) q2
def acv {pl:Sem Bool} (he:Ah X o BW) (c:Jr X.K C) (hm:Meth X.K C m f) (F:Ib X.prog X.w X.K X.mg X.base CX k f fd ps sp) (BH:Cv k X.A) (A4:Binds X.K fd ps ds) (hd:Vals HY ds) (AF:Passes CX X E)(B9:Bc (.Call (.Attribute o m apos) [] [] pos) X.env=(do
    let CL <-Bc o X.env
    MP apos.atName
    let(f,first) <-JI [CL] (O3 CL m pl)
    PP pos f first (Fa pos (CM [] X.env)) (L0 pos (Kx [] X.env))):=by rfl) :
  Ah X (.Call (.Attribute o m apos) [] [] pos) (aV C m sp HY E BW aX):=by
 intro A3 s σ H Q Z h;refine X3 (pl:=pl) (Ba (he A3 s σ H _ Z h) λu s1⟨x,H1,Ad,Au,a,Bs,B7,ex,BJ,l,q⟩=>?_) B9;subst ex;obtain rfl:u=Cq a:=Au;refine Yn Ad BJ c hm l ?_;exact PySem.W.callWith_K0 (first:=[.ref a]) Ad.F8 hm.Bu (f7 (us:=[.ref a]) (vs:=[.ref a]) F BH A4 hd AF Ad (.cons rfl .nil) q)
structure Y3(K:Ap)(C f:A7):Prop where
 makes:gm K C=true
 init:Jn K (.ref C) "__init__"=↥↥(.ref f)
 fn:UX K (.ref f)=true
 Bu:KI K (.ref C)=true
def aee{A3:μ}{σ :St}{H:AD}{s:AQ}{Q:CY}{us:↑A8}{vs:↑V}(M:Y3 X.K C f)(F:Ib X.prog X.w X.K X.mg X.base CX k f fd ps sp)(BH:Cv (k+1) X.A)(A4:Binds X.K fd ps ds)(hd:Vals HY ds)(AF:Passes CX X E)(Z:θ)(r:Vals vs us)(h:∀x Bs,H x=none->H Bs=none->Bs≠x->sp (.ref x::(vs++HY)) (upd (upd H Bs (.own x)) x (.ins C Bs [])) (λv AU=>v=.non/\Q (.ref x) AU) E) :
  An ξ X.A (call (.ref C) us) (H6 X A3 σ Q) X.DC s:=by
 have Aa:=h (s.heap.objs.size+1) s.heap.objs.size (Z.B0.fresh (Uf _)) (Z.B0.fresh (C5 _)) (F0 (PE _));have Bj:=Inv.made (C:=C) Z;have BL:Vals (V.ref (s.heap.objs.size+1)::(vs++HY)) (Cq (s.heap.objs.size+1)::(us++ds)):=.cons rfl (r.append hd);have AH:⇑(Cq (s.heap.objs.size+1)::us++ds)=⇑ps:=by have e:=⇑BL;rw[F.len _ _ _ _ Aa]at e;exact e.symm
 refine wpAny_call (aaW (f:=f) Z.F8 M.makes M.init (beq_iff_eq.mp M.fn) (Qi (F.run _ X.stack _ _ ⟨Cq (s.heap.objs.size+1)::us,[]⟩ (Cq (s.heap.objs.size+1)::(us++ds)) _ _ E (BH.make C us [])
  (Bj.cW.make C us []) (A4 _ (Cq (s.heap.objs.size+1)::us) Bj.F8 AH) BL Aa) λr s' VO=>?_))
 cases r with
 |error e=>exact AF A3 σ _ _ e s' Bj VO
 |ok CK=>
  cases CK with
  |ret u=>obtain⟨v,A9,DD,Bw,ev,Dk⟩:=Bj.after VO;subst ev;exact⟨Bw,⟨V.ref (s.heap.objs.size+1),A9,DD,rfl,Dk⟩⟩
  |next=>exact HX VO
  |brk=>exact HX VO
  |cont=>exact HX VO
def acs(M:Y3 X.K C f)(F:Ib X.prog X.w X.K X.mg X.base CX k f fd ps sp)(BH:Cv (k+1) X.A)(Ai:Eh X x)(hm:X.mg x=↥(.ref C))(A4:Binds X.K fd ps ds)(hd:Vals HY ds)(AF:Passes CX X E)(AG:H9 X (e::es) t)(Md:(x==("__debug__" :Str))=false:=by decide)(he:CM (e::es) X.env=(false,Bc e X.env)::CM es X.env:=by rfl)(GN:(Fa pos (CM es X.env)).any (·.1)=false:=by rfl) :
  Ah X (.Call (.Name x p) (e::es) [] pos) (rN C sp HY E t):=by
 intro A3 s σ H Q Z h;refine UW (WQ Z Ai hm ?_ Md);refine X2 (h₀:=X.base) Z.ok.mod.R3 M.Bu (Ba (AG pos A3 s σ H _ Z h) λus s1⟨vs,H1,Ad,r,q⟩=>⟨Ad.F8,?_⟩) he GN;exact aee M F BH A4 hd AF Ad r q
end
section
variable{X:Ar}{CX:L9}{k:Nat}{f C:A7}{fd:Hv}{ps ks:↑Str}{sp:CH}{E:Ev}{x m:Str}{p pos apos aih:Pos}{e o:Aq}{es:↑Aq}{aij:↑MR}{te BW:TE}{t DW:Fb}{nm:Option Str}
variable{g:↑A8->↑A8->↑A8}{aj2:↑V->↑V->↑V}
end
structure Bz(N P:↑Str)(sc:FE):Prop where
 kind:sc.kind=.function
 co:sc.isCoroutine=false
 gen:sc.isGenerator=false
 Bg:N.Nodup
 pre:N.take ⇑P=P
 par:∀x∈P,sc.names.lookup x=↥.local\/sc.names.lookup x=↥.cell
 abg:∀y∈sc.names,y.2≠.free
theorem i8{KN:Str->Option L1}{x:Str}:∀{binds:↑(Str×A8)}{m:Str->Option A8},(∀v,(x,v)∉binds)->bindL KN binds m x=m x
 |[],_,_=>rfl
 |(n,v)::r,m,h=>by
  unfold bindL;rw[i8 λw hw=>h w (Gw _ hw)]
  split
  .have:x≠n:=by rintro rfl;exact h v Hs
   simp[this]
  .rfl
theorem i6{KN:Str->Option L1}{x:Str}:∀{binds:↑(Str×A8)}{m:Str->Option A8},(∀v,(x,v)∉binds)->bindC KN binds m x=m x
 |[],_,_=>rfl
 |(n,v)::r,m,h=>by
  unfold bindC;rw[i6 λw hw=>h w (Gw _ hw)]
  split
  .rfl
  .have:x≠n:=by rintro rfl;exact h v Hs
   simp[this]
theorem i7{KN:Str->Option L1}{x:Str}{v:A8}:∀{P:↑Str}{vs:↑A8}{i:Nat}{m:Str->Option A8},P.Nodup->P[i]?=↥x->vs[i]?=↥v->KN x=↥.local->
  bindL KN (P.zip vs) m x=↥v
 |[],_,_,_,_,h,_,_=>by simp at h
 |_::_,[],_,_,_,_,h,_=>by simp at h
 |p::P,w::vs,0,m,Bg,h1,h2,AN=>by simp at h1 h2;subst h1;subst h2;show bindL KN ((p,w)::P.zip vs) m p=_;unfold bindL;rw[i8 λv CG=>(List.nodup_cons.mp Bg).1 (gn CG).1,if_pos AN];simp
 |p::P,w::vs,i+1,m,Bg,h1,h2,AN=>by show bindL KN ((p,w)::P.zip vs) m x=_;unfold bindL;exact i7 (i:=i) (List.nodup_cons.mp Bg).2 (h1:) (h2:) AN
theorem i5{KN:Str->Option L1}{x:Str}{v:A8}:∀{P:↑Str}{vs:↑A8}{i:Nat}{m:Str->Option A8},P.Nodup->P[i]?=↥x->vs[i]?=↥v->KN x≠↥.local->
  bindC KN (P.zip vs) m x=↥v
 |[],_,_,_,_,h,_,_=>by simp at h
 |_::_,[],_,_,_,_,h,_=>by simp at h
 |p::P,w::vs,0,m,Bg,h1,h2,AN=>by simp at h1 h2;subst h1;subst h2;show bindC KN ((p,w)::P.zip vs) m p=_;unfold bindC;rw[i6 λv CG=>(List.nodup_cons.mp Bg).1 (gn CG).1,if_neg AN];simp
 |p::P,w::vs,i+1,m,Bg,h1,h2,AN=>by show bindC KN ((p,w)::P.zip vs) m x=_;unfold bindC;exact i5 (i:=i) (List.nodup_cons.mp Bg).2 (h1:) (h2:) AN
noncomputable def start(N:↑Str)(vs:↑V):St:=vs.map some++GG (⇑N- ⇑vs) none
noncomputable def KQ(CX:L9)(P:C9)(w:Br)(K:Ap)(mg:Str->Option A8)(base:BF)(N:↑Str)(qual:Str)(scope:FE)(f:A7)(cd:A8)(A:D2)(outer:↑Env)(s:AQ)(H:AD)(E:Ev):Ar where
 prog:=P
 w:=w
 K:=K
 mg:=mg
 base:=base
 A:=A.deeper (O4 qual scope s.heap.objs.size f cd)
 N:=N
 GE:=s
 L3:=H
 env:=O4 qual scope s.heap.objs.size f cd
 outer:=outer
 stack:=O4 qual scope s.heap.objs.size f cd::outer
 ex:=[]
 calm:=true
 fn:=λ_=>true
 D1:=[]
 DC:=λe s'=>An (B4 P w) (A.deeper (O4 qual scope s.heap.objs.size f cd)) (leaving (O4 qual scope s.heap.objs.size f cd) e) (λ_ KB=>CX outer H s E e KB) (λBi KB=>CX outer H s E Bi KB) s'
def d7{sc:FE}{n:Nat}{x:Str}(h:sc.names.lookup x=↥.cell):∃c,(IH n sc.names []).lookup x=↥c:=by have q:=sL sc.names n [] (.inl h);exact Option.isSome_iff_exists.mp q
def yW{CX:L9}{P:C9}{w:Br}{K:Ap}{mg:Str->Option A8}{base:BF}{N ps:↑Str}{qual:Str}{scope:FE}{f:A7}{cd:A8}{A:D2}{outer:↑Env}{s s1:AQ}{H:AD}{E:Ev}{us:↑A8}{vs:↑V}(S:Bz N ps scope)(hd:A.handled=none)(E8:N7 P w K mg base A outer s H)(AH:⇑vs=⇑ps)(r:Vals vs us)(x:InCallC s s.heap.objs.size (bindL (O4 qual scope s.heap.objs.size f cd).kindOf (ps.zip us) λ_=>none) (IH (s.heap.objs.size+1) scope.names []) (bindC (O4 qual scope s.heap.objs.size f cd).kindOf (ps.zip us) λ_=>none) s1) :
  Inv (KQ CX P w K mg base N qual scope f cd A outer s H E) [] (start N vs) H s1:=by
 have GN:⇑ps<=⇑N:=by have:=congrArg List.length S.pre;rw[N0]at this;lia
 obtain⟨h1,DW,rfl,AN⟩:=x.done;have W6:∀b:A7,b∉(KQ CX P w K mg base N qual scope f cd A outer s H E).ex:=λb z=>absurd (show b∈([]:↑A7)from z) γ
 refine⟨⟨E8.mod,S.kind,rfl,rfl,C5 _,λy z c h1 h2=>?_,λy AX=>?_,λy c _ h=>?_,λ_=>hd,Around.frames_deeper E8.frames,.inr ⟨rfl,rfl⟩,λb z=>absurd z (W6 b),E8.bs,E8.Nf,λb _ _=>W6 b,λb z=>absurd z (W6 b),E8.JP,E8.P6⟩,
  rfl,E8.bare,G0.kept AN,⟨_,x.toInCall.ns,λi y v h1 h2 AY=>?_⟩,λy c h=>⟨_,x.cell y c h⟩,E8.B0.fresh (C5 _),λy c h=>?_,λp AT=>absurd (show p∈([]:μ)from AT) γ,E8.B0.kept AN,?_⟩
 .exact name_of_addr x.apart (Mx h1) (Mx h2)
 .have AX:scope.names.lookup y=↥.cell\/scope.names.lookup y=↥.free:=AX;rcases AX with AX|AX
  .exact d7 AX
  .exact absurd rfl (S.abg _ (Mx AX))
 .exact Qg (x.above y c (Mx h))
 .have hi:i< ⇑vs:=by
    unfold start at h2;by_cases hi:i< ⇑vs
    .exact hi
    .rw[Jp (hi:)]at h2;rw[XD]at h2
     split at h2<;>cases h2
  have AG:vs[i]?=↥v:=by
   unfold start at h2;rw[GW (hi:),Da]at h2;cases e:vs[i]? with
   |none=>rw[e]at h2;cases h2
   |some a=>rw[e]at h2;cases h2;rfl
  obtain⟨u,BQ,Bw⟩:=r.get AG;have AT:ps[i]?=↥y:=by rw[<-S.pre,List.getElem?_take_of_lt δ];exact h1
  have ku:ps.Nodup:=by rw[<-S.pre];exact S.Bg.sublist (List.take_sublist _ _)
  refine⟨u,Bw,?_⟩;rcases S.par y (IG AT)with k|k
  .exact .inl ⟨k,i7 ku AT BQ k⟩
  .obtain⟨c,e⟩:=d7 (n:=s.heap.objs.size+1) k;refine .inr ⟨.inl k,c,e,?_⟩;have q:=x.cell y c e;rw[i5 ku AT BQ (by show scope.names.lookup y≠_;rw[k];decide)]at q;exact q
 .exact E8.B0.fresh (Qg (x.above y c (Mx h)))
 .unfold start;show _=⇑N;rw[F1,CE,UJ];lia
def jE {CX:L9} {P:C9} {w:Br} {K:Ap} {mg:Str->Option A8} {base:BF} {k:Nat} {f:A7} {name qual:Str} {params:Arguments} {body:↑BE} {scope:FE} {ZG Ck doc pm FS D6 GS:A8} {an E1:Option A7}{Om:Array (Option A8)} {N ps:↑Str} {sp:CH} (lk:K.lookup f=↥⟨GS,E1,.func (KM name qual params body scope ZG Ck doc pm an FS D6),Om⟩) (LW:My K FS qual=true) (S:Bz N ps scope)(len:∀vs H Q E,sp vs H Q E->⇑vs=⇑ps)(cx:∀(A:D2)(outer:↑Env)(s:AQ)(H:AD)(vs:↑V)(Q:CY)(E:Ev),Cv k (A.deeper (O4 qual scope s.heap.objs.size f FS))->sp vs H Q E->
    ∃t,HK (KQ CX P w K mg base N qual scope f FS A outer s H E) body t/\t { AM:=λ_ A9=>Q .non A9,Dq:=Q } (start N vs) H) :
  Ib P w K mg base CX (k+1) f (KM name qual params body scope ZG Ck doc pm an FS D6) ps sp:=by
 refine⟨len,λA outer s H args us vs Q E BH E8 A4 r Ll=>?_⟩;have AH:=len _ _ _ _ Ll;have IK:K.In s.heap:=E8.mod.R3.keeps λb o e=>(E8.bs b o e).1;have lim:s.heap.NoLimit:=E8.mod.nolimit.keeps λb o e=>(E8.bs b o e).1;have yJ:∀y∈ps.zip us,scope.names.lookup y.1=↥.local\/(scope.names.lookup y.1=↥.cell/\((IH (s.heap.objs.size+1) scope.names []).lookup y.1).isSome=true):=λ⟨n,v⟩ AX=>by
  rcases S.par n (gn AX).1 with q|q
  .exact .inl q
  .exact .inr ⟨q,sL _ _ _ (.inl q)⟩
 refine codeAny_call_function BH.depth (IK _ _ lk) rfl S.co S.gen rfl (PySem.W.codeRec_of IK LW) (A4 _ _ _ _ ?_);refine wpAny_newFunctionEnv_cells S.kind yJ λenv he s1 x=>?_;subst he;refine⟨lim.keeps x.toInCall.keep,codeAny_func ?_⟩;obtain⟨t,B9,Aa⟩:=cx A outer s H vs Q E (BH.deeper _) Ll;have Z:Inv (KQ CX P w K mg base N qual scope f FS A outer s H E) [] (start N vs) H s1:=yW S BH.hd E8 AH r x;refine HW (B9 [] s1 (start N vs) H _ Z Aa) (λCK s' AP=>?_) λe s' AP=>AP;have fin:∀{σ' :St}{A9:AD}{v:V}{u:A8},Inv (KQ CX P w K mg base N qual scope f FS A outer s H E) [] σ' A9 s'->RelV v u->Q v A9->hK outer P w K H s Q u s':=
  λ{σ' A9 v u} BS Bw q=>⟨v,A9,BS.os,BS.bare,BS.base,BS.B0,Bw,q⟩
 cases CK with
 |ret u=>obtain⟨v,σ',A9,BS,Bw,q⟩:=AP;exact fin BS Bw q
 |next=>obtain⟨σ',A9,BS,q⟩:=AP;exact fin (v:=V.non) (u:=KL) BS rfl q
 |brk=>obtain⟨_,_,_,q⟩:=AP;exact HX q
 |cont=>obtain⟨_,_,_,q⟩:=AP;exact HX q
section
variable{X:Ar}{x:Str}{p pos:Pos}{e:Aq}{es:↑Aq}{t:Fb}{id T:String}{r:↑V->AD->CY->Prop}
noncomputable def WN(r:↑V->AD->CY->Prop)(t:Fb):TE:=λσ H Q=>t σ H λvs H1=>r vs H1 Q
def ay(AJ:K1 X (.builtin id) r)(Ai:Eh X x)(hm:X.mg x=none)(CG:O1 x=↥(.builtin id))(AG:H9 X (e::es) t)(AZ:x≠"__name__":=by decide)(Md:(x==("__debug__" :Str))=false:=by decide)(he:CM (e::es) X.env=(false,Bc e X.env)::CM es X.env:=by rfl)(GN:(Fa pos (CM es X.env)).any (·.1)=false:=by rfl):Ah X (.Call (.Name x p) (e::es) [] pos) (WN r t):=by intro A3 s σ H Q Z h;refine UW (O_ Z Ai hm CG ?_ AZ Md);exact PyProof.Rows.callWith_builtin1 (Ba (AG pos A3 s σ H _ Z h) λus s1⟨vs,H1,Ad,Aw,q1⟩=>AJ A3 s1 σ H1 vs us Q Ad Aw q1) he GN
def WB(AJ:K1 X (.type T) r)(Ai:Eh X x)(hm:X.mg x=none)(CG:O1 x=↥(.type T))(AG:H9 X (e::es) t)(AZ:x≠"__name__":=by decide)(Md:(x==("__debug__" :Str))=false:=by decide)(he:CM (e::es) X.env=(false,Bc e X.env)::CM es X.env:=by rfl)(GN:(Fa pos (CM es X.env)).any (·.1)=false:=by rfl):Ah X (.Call (.Name x p) (e::es) [] pos) (WN r t):=by intro A3 s σ H Q Z h;refine UW (O_ Z Ai hm CG ?_ AZ Md);exact Qa (Ba (AG pos A3 s σ H _ Z h) λus s1⟨vs,H1,Ad,Aw,q1⟩=>AJ A3 s1 σ H1 vs us Q Ad Aw q1) he GN
end
end BU
namespace EQ
open PyProof.Rows
section
open PySem.SeqAt
open PySem.AutoSeq1 (wpAny_loadPart')
open PySem.MeetsSeq PySem.MeetsSeq2 PySem.MeetsSeq3
end
section
variable{prog:C9}{w:Br}{A:D2}{E:A8->AQ->Prop}{s:AQ}
def tU{t b:A7}{vs ws:↑A8}{Q:A8->AQ->Prop}(B9:IsTup s.heap t vs.toArray)(A4:IsTup s.heap b ws.toArray)(CG:vs≠[])(h1:ws=[]->Q (.ref t) s)(h2:ws≠[]->Q (.ref s.heap.objs.size) { s with heap:=s.heap.push { cls:=.type "tuple",data:=.seq (vs++ws).toArray } })(hsz:⇑vs+⇑ws<=CW):An Φ A (Jq .Add (.ref t) (.ref b)) Q E s:=by
 obtain⟨⟨cls,dd,data,C3⟩,ho,AJ,n,hd⟩:=id B9;obtain⟨⟨ait,SY,data2,QO⟩,YT,kU,GQ,hd2⟩:=id A4;simp only at AJ hd kU hd2;subst AJ hd kU hd2;have e:vs.toArray++ws.toArray=(vs++ws).toArray:=γ
 by_cases hw:ws=[]
 .exact concat_meets ⟨_,ho,rfl⟩ ⟨_,YT,rfl⟩ noFill_tuple_add seq_tuple_add sM sG (sU _ _)
    (tuple_addW1 t b vs.toArray ws.toArray n GQ dd SY C3 QO (CG:) (by simp[hw])) ⟨ho,YT,h1 hw⟩
 .refine concat_meets ⟨_,ho,rfl⟩ ⟨_,YT,rfl⟩ noFill_tuple_add seq_tuple_add sM sG (sU _ _)
    (tuple_addW2 t b vs.toArray ws.toArray n GQ dd SY C3 QO (CG:) (hw:) (by rw[D_,D_];exact hsz)) ⟨ho,YT,?_⟩
  rw[e];exact h2 hw
noncomputable def Cu(n d:Nat):Option Int->Nat
 |none=>d
 |some v=>if v<0 then(v+(n:Int)).toNat else min v.toNat n
def bE(n d:Nat):Cu n d none=d:=rfl
def Tj(n d k:Nat):Cu n d ↥(k:Int)=min k n:=by show(if(k:Int)<0 then((k:Int)+(n:Int)).toNat else min (k:Int).toNat n)=min k n;rw[if_neg δ,Qe]
def aeg(n d:Nat)(hd:d<=n)(o:Option Int):Cu n d o<=n:=by
 cases o with
 |none=>exact hd
 |some v=>
  show(if v<0 then(v+(n:Int)).toNat else min v.toNat n)<=n;by_cases CG:v<0
  .rw[if_pos CG];lia
  .rw[if_neg CG];exact Nat.min_le_right _ _
def iK(v:Int)(n d:Nat):(if v<0 then max (v+(n:Int)) 0 else min v (n:Int))=((Cu n d ↥v:Nat):Int):=by
 show(if v<0 then max (v+(n:Int)) 0 else min v (n:Int))=(((if v<0 then(v+(n:Int)).toNat else min v.toNat n):Nat):Int);by_cases CG:v<0
 .erw[if_pos CG];lia
 .erw[if_neg CG];lia
def sq(lo hi:Option Int)(n:Nat):gO lo hi 1 (n:Int)=(((Cu n 0 lo:Nat):Int),((Cu n n hi:Nat):Int)):=by
 have h1:¬((1:Int)<0):=δ
 unfold gO;erw[h1,if_false];refine Prod.ext ?_ ?_
 .cases lo with
  |none=>rfl
  |some v=>exact iK v n 0
 .cases hi with
  |none=>rfl
  |some v=>exact iK v n n
def aeF(i j:Nat):Wz (i:Int) (j:Int) 1=j-i:=by
 unfold Wz;have h1:(1:Int)>0:=δ
 erw[h1,if_true,Int.ediv_one]
 split<;>lia
def pM{v:A8}{o:Option Int}{Q:Option Int->AQ->Prop}(p:IsPart v o)(h:Q o s):An Φ A (Builtin.Slice.slicePartIndex v) Q E s:=by
 cases p with
 |none=>exact slicePart_none h
 |int i t=>exact slicePart_int h
def aev{C3:A7}{DL IZ:A8}{lo hi:Option Int}{n:Nat}{Q:Int×Int×Nat->AQ->Prop}(AP:s.heap.IsSliceOf C3 DL IZ .none)(pl:IsPart DL lo)(pu:IsPart IZ hi)(h:Q (((Cu n 0 lo:Nat):Int),1,Cu n n hi-Cu n 0 lo) s):An Φ A (rq (.ref C3) (pure (n:Int))) Q E s:=by obtain⟨os,RR,kX,Yr⟩:=id AP;unfold rq Builtin.Slice.sliceFields;refine Ag (Ag (MM RR Yr (x:=DL) rfl (Ag (MM RR Yr (x:=IZ) rfl (Ag (MM RR Yr (x:=.none) rfl (Bh ?_)))))));refine Ag (slicePart_none ?_);show An _ _ (if((1:Int)==0)=true then _ else _) _ _ s;rw[if_neg ε];refine Ag (pM pl (Ag (pM pu (Ag (Bh ?_)))));show An _ _ (match gO lo hi 1 (n:Int)with|(lo,hi)=>pure (lo,(1:Int),Wz lo hi 1)) _ _ s;rw[sq lo hi n];show An _ _ (pure (((Cu n 0 lo:Nat):Int),(1:Int),Wz ((Cu n 0 lo:Nat):Int) ((Cu n n hi:Nat):Int) 1)) _ _ s;rw[aeF];exact Bh h
def aeC(xs:Array A8)(i k:Nat):((C8 k).filterMap λ(m:Nat)=>xs[((i:Int)+(m:Int)*1).toNat]?).toArray=((xs.toList.drop i).take k).toArray:=by
 have e:(λ(m:Nat)=>xs[((i:Int)+(m:Int)*1).toNat]?)=λm=>xs[i+m]?:=by
  funext m
  have:((i:Int)+(m:Int)*1).toNat=i+m:=δ
  rw[this]
 rw[e];have:=pick_run xs i k;rw[List.filterMap_map]at this;have AE:((λx=>xs[x]?)∘λx=>i+x)=λm=>xs[i+m]?:=rfl;rw[AE]at this;rw[this]
def wu{t C3:A7}{items:Array A8}{DL IZ:A8}{lo hi:Option Int}{Q:A8->AQ->Prop}(B9:IsTup s.heap t items)(AP:s.heap.IsSliceOf C3 DL IZ .none)(pl:IsPart DL lo)(pu:IsPart IZ hi)(hw:¬(Cu items.size 0 lo=0/\Cu items.size items.size hi=items.size))(h:Q (.ref s.heap.objs.size) { s with heap:=s.heap.push { cls:=.type "tuple",data:=.seq ((items.toList.drop (Cu items.size 0 lo)).take (Cu items.size items.size hi-Cu items.size 0 lo)).toArray } })(hsz:items.size<=CW):An Φ A (PQ (.ref t) (.ref C3)) Q E s:=by
 have Zt:sizeOk (.seq ((items.toList.drop (Cu items.size 0 lo)).take (Cu items.size items.size hi-Cu items.size 0 lo)).toArray):=by show((items.toList.drop (Cu items.size 0 lo)).take (Cu items.size items.size hi-Cu items.size 0 lo)).toArray.size<=CW;rw[D_,N0,XM,S7];lia
 have Ac:Cu items.size items.size hi<=items.size:=aeg _ _ (C5 _) hi;obtain⟨os,RR,kX,Yr⟩:=id AP;have x6:s.TypeIs (.ref C3) "slice":=⟨os,RR,kX⟩;unfold PQ
 try with_reducible refine Nt ?_
 first|refine Ag (Bh ?_)|skip
 refine Ag (wpAny_sequenceKey B9.typeIs ε ?_)
 refine Ag (SA (name:=SJ "__getitem__") B9.typeIs rz
  (PF rz B9.typeIs entry_tuple_getitem ?_ (args_tuple_getitem _ _)))
 show An _ _ (Builtin.Tuple.tupleItemsOf (.ref t)>>=_) _ _ s;refine Ag (tupleItemsOf_ B9 ?_);refine Ag (wpAny_typeOf x6 ?_);rw[if_pos ε];refine Ag (aev AP pl pu ?_);have xm:¬((((Cu items.size 0 lo:Nat):Int)==0&&(1:Int)==1&&(Cu items.size items.size hi-Cu items.size 0 lo)==items.size)=true):=by intro q;rw[ID,ID]at q;have q1:((Cu items.size 0 lo:Nat):Int)=0:=eq_of_beq q.1.1;have q2:Cu items.size items.size hi-Cu items.size 0 lo=items.size:=eq_of_beq q.2;exact hw ⟨δ,δ⟩
 show An _ _ (if(((Cu items.size 0 lo:Nat):Int)==0&&(1:Int)==1&&(Cu items.size items.size hi-Cu items.size 0 lo)==items.size)=true then _ else _) _ _ s;rw[if_neg xm,aeC]
 first
  |exact Ag (m:=XA _) (MJ (Bh ⟨_,rfl,Bh h⟩) Zt)
  |exact Ag (m:=XA _) (MJ (Ag (Bh (Bh ⟨_,rfl,Bh h⟩))) Zt)
  |exact Ag (Ag (m:=XA _) (MJ (Bh (Bh ⟨_,rfl,Bh h⟩)) Zt))
  |exact Ag (Ag (m:=XA _) (MJ (Bh ⟨_,rfl,Bh h⟩) Zt))
end
end EQ
namespace BU
open PyProof.Rows
abbrev Sh:=St->AD->(Option Int->AD->Prop)->Prop
def Uo(X:Ar)(e:Option Aq)(t:Sh):Prop:=
 ∀(A3:μ)(s:AQ)(σ :St)(H:AD)(Q:Option Int->AD->Prop),θ->t σ H Q->
  An ξ X.A (evalPart e X.env) (λu s'=>∃o A9,Inv X A3 σ A9 s'/\IsPart u o/\Q o A9) X.DC s
def qb:Sh:=λ_ H Q=>Q none H
noncomputable def qg(t:TE):Sh:=λσ H Q=>t σ H λx H1=>∃i,x=.int i/\Q ↥i H1
section
variable{X:Ar}{e:Aq}{te:TE}{lo hi:Option Aq}{JA aY:Sh}{pos DB:Pos}
def aeO:Uo X none qb:=by intro A3 s σ H Q Z h;rw[evalPart_none];exact Bh ⟨none,H,Z,.none,h⟩
def aeP(h:Ah X e te):Uo X ↥e (qg te):=by intro A3 s σ H Q Z hw;rw[evalPart_some];refine Ba (h A3 s σ H _ Z hw) λu s1⟨x,H1,Ad,Aw,q1⟩=>?_;obtain⟨i,rfl,q⟩:=q1;obtain⟨t,rfl⟩:=Aw;exact⟨↥i,H1,Ad,.int i t,q⟩
def R6(X:Ar)(r:V->Option Int->Option Int->AD->CY->Prop):Prop:=
 ∀(A3:μ)(s:AQ)(σ :St)(H:AD)(x:V)(v DL IZ:A8)(lo hi:Option Int)(C3:A7)(Q:CY),θ->RelV x v->s.heap.IsSliceOf C3 DL IZ .none->IsPart DL lo->IsPart IZ hi->r x lo hi H Q->
  ∃T id,typeLookup (.type T) "__getitem__"=pure ↥(.builtin id)/\s.TypeIs v T/\An ξ X.A (PQ v (.ref C3)) (H6 X A3 σ Q) X.DC s
def R6.or{r Bf:V->Option Int->Option Int->AD->CY->Prop}(h:R6 X r)(h':R6 X Bf):R6 X (λx lo hi H Q=>r x lo hi H Q\/Bf x lo hi H Q):=by
 intro A3 s σ H x v DL IZ lo hi C3 Q Z Au AP pl pu q;rcases q with q|q
 .exact h A3 s σ H x v DL IZ lo hi C3 Q Z Au AP pl pu q
 .exact h' A3 s σ H x v DL IZ lo hi C3 Q Z Au AP pl pu q
noncomputable def ql(r:V->Option Int->Option Int->AD->CY->Prop)(te:TE)(JA aY:Sh):TE:=λσ H Q=>te σ H λx H1=>JA σ H1 λl AU=>aY σ AU λu C1=>r x l u C1 Q
def ad0{r:V->Option Int->Option Int->AD->CY->Prop}(BH:R6 X r)(he:Ah X e te)(AH:Uo X lo JA)(BQ:Uo X hi aY):Ah X (.Subscript e (.Slice lo hi none DB) pos) (ql r te JA aY):=by intro A3 s σ H Q Z h;refine Subscript_ (Ba (he A3 s σ H _ Z h) λv s1⟨x,H1,Ad,Aw,q1⟩=>?_);refine wpAny_Slice (Ba (AH A3 s1 σ H1 _ Ad q1) λDL s2⟨l,AU,Bj,pl,q2⟩=>Ba (BQ A3 s2 σ AU _ Bj q2) λIZ s3⟨u,C1,DD,pu,Dk⟩=>?_);rw[evalPart_none];refine Bh ?_;have Lw:Inv X A3 σ C1 { s3 with heap:=s3.heap.push { cls:=.type "slice",data:=.fields #[DL,IZ,.none] } }:=DD.kept (t':=s3.toks) λb BI q=>DU _ q;obtain⟨T,id,DO,B9,Ai⟩:=BH A3 { s3 with heap:=s3.heap.push { cls:=.type "slice",data:=.fields #[DL,IZ,.none] } } σ C1 x v DL IZ l u s3.heap.objs.size Q Lw Aw (Heap.IsSliceOf.new ..) pl pu Dk;show An ξ X.A (subscriptTail e (.Slice lo hi none DB) v (.ref s3.heap.objs.size)) (H6 X A3 σ Q) X.DC { s3 with heap:=s3.heap.push { cls:=.type "slice",data:=.fields #[DL,IZ,.none] } };exact tail_any (ops:=[.ref s3.heap.objs.size,v]) B9 DO Ai (by with_unfolding_all rfl)
noncomputable def Pi(xs:↑V)(lo hi:Option Int):↑V:=(xs.drop (EQ.Cu ⇑xs 0 lo)).take (EQ.Cu ⇑xs ⇑xs hi-EQ.Cu ⇑xs 0 lo)
def hu(xs:↑V)(lo hi:Option Int):⇑(Pi xs lo hi)<=⇑xs:=by unfold Pi;rw[N0,XM];lia
def nx(K:Ap):V->Option Int->Option Int->AD->CY->Prop:=λx lo hi H Q=>∃a xs,x=.ref a/\Ek K H a xs/\
 ¬(EQ.Cu ⇑xs 0 lo=0/\EQ.Cu ⇑xs ⇑xs hi=⇑xs)/\∀p,H p=none->Q (.ref p) (upd H p (.tup (Pi xs lo hi)))
def aeu:R6 X (nx X.K):=by
 intro A3 s σ H x v DL IZ lo hi C3 Q Z Au AP pl pu h;obtain⟨a,xs,rfl,AF,hw,q⟩:=h;cases Au;obtain⟨its,r,B9,hz⟩:=Z.tuple AF;have hlen:its.toArray.size=⇑xs:=by rw[D_];exact r.length.symm
 refine⟨"tuple",_,PyProof.Rows.slot_tuple_getitem.lookup,B9.typeIs,?_⟩;refine EQ.wu B9 AP pl pu (by rw[hlen];exact hw) ?_ (by rw[hlen];exact hz);rw[hlen];refine⟨.ref s.heap.objs.size,_,Z.laid (t':=s.toks) (o:=.tup (Pi xs lo hi)) (λb BI q=>DU _ q) (C5 _) ?_,rfl,q _ (Z.B0.fresh (C5 _))⟩;exact⟨Iw (hu xs lo hi) hz,_,(r.drop (EQ.Cu ⇑xs 0 lo)).take (EQ.Cu ⇑xs ⇑xs hi-EQ.Cu ⇑xs 0 lo),IsTup.new _ _⟩
def m5(K:Ap):EZ:=λx y H Q=>∃a b xs ys,x=.ref a/\y=.ref b/\Ek K H a xs/\Ek K H b ys/\xs≠[]/\ ⇑xs+⇑ys<=CW/\
 (ys=[]->Q (.ref a) H)/\(ys≠[]->∀p,H p=none->Q (.ref p) (upd H p (.tup (xs++ys))))
def Vals.dQ{xs:↑V}{us:↑A8}(r:Vals xs us):us=[]↔xs=[]:=by
 cases r with
 |nil=>simp
 |cons _ _=>simp
def adF:Dp X (Jq .Add) (m5 X.K):=by intro A3 s σ H x y v u Q Z Au Bo h;obtain⟨a,b,xs,ys,rfl,rfl,AG,A4,AF,hz,q1,q2⟩:=h;cases Au;cases Bo;obtain⟨its,Aw,Em,_⟩:=Z.tuple AG;obtain⟨HE,BL,DB,_⟩:=Z.tuple A4;refine EQ.tU Em DB (λz=>AF (Aw.dQ.mp z)) (λz=>⟨.ref a,H,Z,rfl,q1 (BL.dQ.mp z)⟩) (λz=>?_) (by rw[<- ⇑Aw,<- ⇑BL];exact hz);refine⟨.ref s.heap.objs.size,_,Z.laid (t':=s.toks) (o:=.tup (xs++ys)) (λb BI q=>DU _ q) (C5 _) ?_,rfl,q2 (λw=>z (BL.dQ.mpr w)) _ (Z.B0.fresh (C5 _))⟩;exact⟨by rw[F1];exact hz,_,Aw.append BL,IsTup.new _ _⟩
end
noncomputable def Lm(n:Nat)(i:Int):Option Nat:=if 0<=i then(if i<n then↥i.toNat else none)else if-(n:Int)<=i then↥(i+n).toNat else none
def Jm{α:Type}(xs:↑α)(i:Int):Option α:=(Lm ⇑xs i).bind λj=>xs[j]?
def kL{n:Nat}{i:Int}{j:Nat}(h:Lm n i=↥j):SL i n=↥j/\j<n/\-(n:Int)<=i/\i<n:=by
 unfold Lm at h;by_cases h0:0<=i
 .rw[if_pos h0]at h;by_cases h1:i<n
  .rw[if_pos h1]at h;have e:i.toNat=j:=Fy h;exact⟨by rw[seqIndex_of h0 h1,e],δ,δ,h1⟩
  .rw[if_neg h1]at h;cases h
 .rw[if_neg h0]at h;by_cases h1: -(n:Int)<=i
  .rw[if_pos h1]at h;have e:(i+n).toNat=j:=Fy h;exact⟨by rw[seqIndex_neg δ h1,e],δ,h1,δ⟩
  .rw[if_neg h1]at h;cases h
def bY{α:Type}{xs:↑α}{i:Int}{v:α}(h:Jm xs i=↥v):∃j,SL i ⇑xs=↥j/\xs[j]?=↥v/\j< ⇑xs/\-(⇑xs:Int)<=i/\i< ⇑xs:=by
 unfold Jm at h;cases e:Lm ⇑xs i with
 |none=>rw[e]at h;cases h
 |some j=>rw[e]at h;obtain⟨h1,h2,AY,Ch⟩:=kL e;exact⟨j,h1,h,h2,AY,Ch⟩
def cD(b:Aq):Prop:=∀o i,Xi b false o i=operate [o,i] (PQ o i)
def N9(X:Ar)(r:EZ):Prop:=
 ∀(value slice:Aq)(A3:μ)(s:AQ)(σ :St)(H:AD)(x y:V)(v u:A8)(Q:CY),θ->RelV x v->RelV y u->r x y H Q->
  Xi slice false v u=operate [v,u] (PQ v u)->An ξ X.A (subscriptTail value slice v u) (H6 X A3 σ Q) X.DC s
def OB(X:Ar)(id:String)(r:V->↑V->AD->CY->Prop):Prop:=
 ∀(A3:μ)(s:AQ)(σ :St)(H:AD)(x:V)(xs:↑V)(v:A8)(us:↑A8)(Q:CY),θ->RelV x v->Vals xs us->r x xs H Q->
  An ξ X.A (call (.builtin id) (v::us)) (H6 X A3 σ Q) X.DC s
section
variable{X:Ar}{a b:Aq}{BW tb:TE}{pos:Pos}
def N9.or{r Bf:EZ}(h:N9 X r)(h':N9 X Bf):N9 X (λx y H Q=>r x y H Q\/Bf x y H Q):=by
 intro value slice A3 s σ H x y v u Q Z Au Bo q AP;rcases q with q|q
 .exact h value slice A3 s σ H x y v u Q Z Au Bo q AP
 .exact h' value slice A3 s σ H x y v u Q Z Au Bo q AP
def OB.or{id:String}{r Bf:V->↑V->AD->CY->Prop}(h:OB X id r)(h':OB X id Bf):OB X id (λx xs H Q=>r x xs H Q\/Bf x xs H Q):=by
 intro A3 s σ H x xs v us Q Z Au rs q;rcases q with q|q
 .exact h A3 s σ H x xs v us Q Z Au rs q
 .exact h' A3 s σ H x xs v us Q Z Au rs q
def acp{r:EZ}(BH:N9 X r)(AG:Ah X a BW)(A4:Ah X b tb)(AP:cD b):Ah X (.Subscript a b pos) (Tp r BW tb):=by intro A3 s σ H Q Z h;exact Subscript_ (d5 AG A4 Z h λv u s2 x y AU Bj Au Bo q=>BH a b A3 s2 σ AU x y v u Q Bj Au Bo q (AP _ _))
def ng(K:Ap):EZ:=λx y H Q=>∃p xs i v,x=.ref p/\y=.int i/\Eu K H p xs/\Jm xs i=↥v/\Q v H
def ni(K:Ap):EZ:=λx y H Q=>∃p xs i v,x=.ref p/\y=.int i/\Ek K H p xs/\Jm xs i=↥v/\Q v H
def nh:EZ:=λx y H Q=>∃z i c,x=.str z/\y=.int i/\ ⇑z<=CW/\Jm z.cps.toList i=↥c/\Q (.str ⟨#[c]⟩) H
def aaA:N9 X (ng X.K):=by
 intro value slice A3 s σ H x y v u Q Z Au Bo h AP;obtain⟨p,xs,i,z,rfl,rfl,Aa,he,q⟩:=h;cases Au;obtain⟨t,rfl⟩:=Bo;obtain⟨its,r,pl,hz⟩:=Z.list Aa;obtain⟨j,h1,h2,AY,Ch,EH⟩:=bY he;obtain⟨w,C2,IX⟩:=r.get h2;have AH:=⇑r;have AZ:=T6;have fin:H6 X A3 σ Q w s:=⟨z,H,Z,IX,q⟩;by_cases h0:0<=i
 .have Ac:i.toNat=j:=by
    rw[seqIndex_of h0 EH]at h1;exact Fy h1
  exact item_listR pl.isList h0 δ (by rw[Ac];simpa using C2) fin AP
 .have Ac:(i+(its.toArray.size:Int)).toNat=j:=by
    rw[seqIndex_neg δ Ch]at h1;rw[D_,<-AH];exact Fy h1
  exact subscriptTail_builtinR (x:=w) pl.isList.typeIs slot_list_getitem.lookup
   (wpAny_getItem_list_neg (Q:=λr s'=>r=w/\H6 X A3 σ Q r s') pl.isList δ (by rw[D_]<;>lia) δ (by rw[Ac];simpa using C2) ⟨rfl,fin⟩) AP
def R0:N9 X (ni X.K):=by
 intro value slice A3 s σ H x y v u Q Z Au Bo h AP;obtain⟨p,xs,i,z,rfl,rfl,Aa,he,q⟩:=h;cases Au;obtain⟨t,rfl⟩:=Bo;obtain⟨its,r,pl,hz⟩:=Z.tuple Aa;obtain⟨j,h1,h2,AY,Ch,EH⟩:=bY he;obtain⟨w,C2,IX⟩:=r.get h2;have AH:=⇑r;have AZ:=T6;have fin:H6 X A3 σ Q w s:=⟨z,H,Z,IX,q⟩
 exact subscriptTail_builtinR (x:=w) pl.typeIs slot_tuple_getitem.lookup
  (getItem_tuple (j:=j) (Q:=λr s'=>r=w/\H6 X A3 σ Q r s') pl δ δ (by rw[D_,<-AH];exact h1) (C2:) ⟨rfl,fin⟩) AP
def aaC:N9 X nh:=by
 intro value slice A3 s σ H x y v u Q Z Au Bo h AP;obtain⟨z,i,c,rfl,rfl,hz,he,q⟩:=h;obtain⟨t,rfl⟩:=Au;obtain⟨t',rfl⟩:=Bo;obtain⟨j,h1,h2,AY,Ch,EH⟩:=bY he;have AH:⇑z.cps.toList=⇑z:=by simp[Str.length]
 rw[AH]at h1 Ch EH;have AZ:=T6;exact tail_any (typeIs_str s z t) slot_str_getitem.lookup (getItem_str (c:=c) (by have AA:decide (i< -(2^63:Int))=false:=decide_eq_false δ;have AE:decide (i≥2^63)=false:=decide_eq_false δ;rw[AA,AE,Bool.or_false]) (by rw[h1];simpa using h2) ⟨.str ⟨#[c]⟩,H,Z.tok _,⟨_,rfl⟩,q⟩) AP
def ek(K:Ap):EZ:=λx y H Q=>ng K x y H Q\/ni K x y H Q\/nh x y H Q
def aaB:N9 X (ek X.K):=aaA.or (R0.or aaC)
def aaY(its:↑A8)(n j:Nat)(u:A8):Ui (·.setIfInBounds j u) { cls:=.type "list",data:=.seq its.toArray n }={ cls:=.type "list",data:=.seq (its.set j u).toArray n }:=by simp[Ui]
theorem Inv.lst{A3:μ}{σ :St}{H:AD}{s:AQ}{p:A7}{xs:↑V}(Z:θ)(h:H p=↥(.lst xs)) :
  ∃(its:↑A8)(n:Nat),Vals xs its/\s.heap.get? p=some { cls:=.type "list",data:=.seq its.toArray n }/\ ⇑xs<=CW:=by
 obtain⟨z,its,n,r,e⟩:=Z.B0 p _ h;exact⟨its,n,r,e,z⟩
def Inv.aat{A3:μ}{σ :St}{H:AD}{s:AQ}{p:A7}{xs ys:↑V}{its its':↑A8}{n W2:Nat}{f:Obj->Obj}(Z:θ)(h:H p=↥(.lst xs))(ho:s.heap.get? p=some { cls:=.type "list",data:=.seq its.toArray n })(hf:f { cls:=.type "list",data:=.seq its.toArray n }={ cls:=.type "list",data:=.seq its'.toArray W2 })(r:Vals ys its')(hz:⇑ys<=CW)(t:Nat) :
  Inv X A3 σ (upd H p (.lst ys)) { s with heap:=s.heap.update p f,toks:=t }:=by
 have e:(s.heap.update p f).get? p=some { cls:=.type "list",data:=.seq its'.toArray W2 }:=by rw[X4 f ho (by rw[hf]<;>rfl),hf]
 refine Z.write (x:=p) (e:=p) (by rw[h];trivial) (.inl rfl) (λb u A4 q=>(sN _ _ (N3 A4)).trans q) ⟨_,e⟩ ?_;exact⟨hz,its',W2,r,e⟩
def nu:V->V->V->AD->(AD->Prop)->Prop:=λo i v H Q=>∃p xs k j,o=.ref p/\i=.int k/\H p=↥(.lst xs)/\Lm ⇑xs k=↥j/\Q (upd H p (.lst (xs.set j v)))
def set_list:hX X nu:=by
 intro A3 s σ H o i v CL Hc u Q Z Ft afL Bw h;obtain⟨p,xs,k,j,rfl,rfl,AT,Ac,q⟩:=h;cases Ft;obtain⟨t,rfl⟩:=afL;obtain⟨its,n,r,ho,hz⟩:=Z.lst AT;obtain⟨h1,h2,AY,Ch⟩:=kL Ac;have AH:=⇑r;have AZ:=T6;have HH:Inv X A3 σ (upd H p (.lst (xs.set j v))) { s with heap:=s.heap.update p (Ui (·.setIfInBounds j u)) }:=
  Z.aat AT ho (aaY its n j u) (r.set Bw j) (by rw[List.length_set];exact hz) s.toks
 by_cases h0:0<=k
 .have AN:k.toNat=j:=by
    rw[seqIndex_of h0 Ch]at h1;exact Fy h1
  exact PySem.W.ki_setAt ho h0 δ (by rw[D_,<-AH];exact Ch) (by rw[AN];exact⟨_,HH,q⟩)
 .have AN:(k+(its.toArray.size:Int)).toNat=j:=by
    rw[seqIndex_neg δ AY]at h1;rw[D_,<-AH];exact Fy h1
  exact PySem.W.ki_setBack ho δ (by rw[D_,<-AH];exact AY) δ (by rw[AN];exact⟨_,HH,q⟩)
def aex(lo hi:Option Int)(n:Nat):(Qt lo hi none n).1=((EQ.Cu n 0 lo:Nat):Int)/\(Qt lo hi none n).2.1=((EQ.Cu n n hi:Nat):Int)/\(Qt lo hi none n).2.2=1:=by
 refine⟨?_,?_,rfl⟩
 .cases lo with
  |none=>simp[Qt,EQ.Cu]
  |some i=>
   erw[Qt,EQ.Cu,Option.getD_none,show(1:Int)>0 by decide,if_true];by_cases h:i<0
   .erw[h,if_true]<;>lia
   .erw[h,if_false]<;>lia
 .cases hi with
  |none=>simp[Qt,EQ.Cu]
  |some i=>
   erw[Qt,EQ.Cu,Option.getD_none,show(1:Int)>0 by decide,if_true];by_cases h:i<0
   .erw[h,if_true]<;>lia
   .erw[h,if_false]<;>lia
def aew(its:↑A8)(lo hi:Option Int):slicePick its.toArray lo hi none=((its.drop (EQ.Cu ⇑its 0 lo)).take (EQ.Cu ⇑its ⇑its hi-EQ.Cu ⇑its 0 lo)).toArray:=by obtain⟨h1,h2,AY⟩:=aex lo hi its.toArray.size;unfold slicePick;rw[h1,h2,AY];erw[sliceRange_one,pick_run,D_]<;>rfl
def nv(K:Ap):V->Option Int->Option Int->AD->CY->Prop:=λx lo hi H Q=>∃a xs,x=.ref a/\Eu K H a xs/\∀p,H p=none->Q (.ref p) (upd H p (.lst (Pi xs lo hi)))
def aet:R6 X (nv X.K):=by intro A3 s σ H x v DL IZ lo hi C3 Q Z Au AP pl pu h;obtain⟨a,xs,rfl,AF,q⟩:=h;cases Au;obtain⟨its,r,B9,hz⟩:=Z.list AF;have hlen:=⇑r;refine⟨"list",_,slot_list_getitem.lookup,B9.isList.typeIs,?_⟩;refine wpAny_getItem_list_slice B9.isList AP pl pu .none γ ?_ (by rw[D_]<;>lia);rw[aew,<-hlen];refine⟨.ref s.heap.objs.size,_,Z.laid (t':=s.toks) (o:=.lst (Pi xs lo hi)) (λb BI q=>DU _ q) (C5 _) ?_,rfl,q _ (Z.B0.fresh (C5 _))⟩;exact⟨Iw (hu xs lo hi) hz,_,0,(r.drop (EQ.Cu ⇑xs 0 lo)).take (EQ.Cu ⇑xs ⇑xs hi-EQ.Cu ⇑xs 0 lo),Fx _ rfl⟩
def K1.or{f:A8}{r Bf:↑V->AD->CY->Prop}(h:K1 X f r)(h':K1 X f Bf):K1 X f (λxs H Q=>r xs H Q\/Bf xs H Q):=by
 intro A3 s σ H xs us Q Z rs q;rcases q with q|q
 .exact h A3 s σ H xs us Q Z rs q
 .exact h' A3 s σ H xs us Q Z rs q
def u0:K1 X (.type "list") (λxs H Q=>∃p ys,xs=[.ref p]/\(Eu X.K H p ys\/Ek X.K H p ys)/\∀l,H l=none->Q (.ref l) (upd H l (.lst ys))):=by
 intro A3 s σ H xs us Q Z r h;obtain⟨p,ys,rfl,Aa,q⟩:=h;obtain⟨u,rfl,Au⟩:=vals1 r;cases Au
 have fin:∀(its:↑A8),Vals ys its->⇑ys<=CW->∀(h':BF)(Gb:Nat),(∀b o',s.heap.get? b=↥o'->h'.get? b=↥o')->
   h'.get? s.heap.objs.size=some { cls:=.type "list",dict:=none,data:=.seq its.toArray Gb,slots:= #[] }->H6 X A3 σ Q (.ref s.heap.objs.size) { s with heap:=h' }:=λits Bf hz h' Gb Bu e=>
  ⟨.ref s.heap.objs.size,_,Z.laid (t':=s.toks) Bu (C5 _) (show Ds X.prog X.w _ h' _ (.lst ys)from⟨hz,its,Gb,Bf,e⟩),rfl,q _ (Z.B0.fresh (C5 _))⟩
 rcases Aa with Aa|Aa
 .obtain⟨its,Bf,pl,hz⟩:=Z.list Aa;have hlen:=⇑Bf;obtain⟨o,ho,AJ,n,hd⟩:=pl.isList;exact call_list_seq p (.inl rfl) ho AJ hd (λh' Gb Bu e=>fin its Bf hz h' Gb Bu e) (by erw[D_]<;>lia)
 .obtain⟨its,Bf,pl,hz⟩:=Z.tuple Aa;have hlen:=⇑Bf;obtain⟨o,ho,AJ,n,hd⟩:=pl;exact call_list_seq p (.inr rfl) ho AJ hd (λh' Gb Bu e=>fin its Bf hz h' Gb Bu e) (by erw[D_]<;>lia)
def u4:K1 X (.type "tuple") (λxs H Q=>∃p ys,xs=[.ref p]/\((Eu X.K H p ys/\∀l,H l=none->Q (.ref l) (upd H l (.tup ys)))\/(Ek X.K H p ys/\Q (.ref p) H))):=by
 intro A3 s σ H xs us Q Z r h;obtain⟨p,ys,rfl,h⟩:=h;obtain⟨u,rfl,Au⟩:=vals1 r;cases Au;rcases h with⟨Aa,q⟩|⟨Aa,q⟩
 .obtain⟨its,Bf,pl,hz⟩:=Z.list Aa;have hlen:=⇑Bf;refine call_tuple_list pl.isList (λh' Bu=>?_) (by erw[D_]<;>lia);have Ad:Inv X A3 σ H { s with heap:=h' }:=Z.kept (t':=s.toks) Bu;have Bj:Inv X A3 σ (upd H h'.objs.size (.tup ys)) { s with heap:=h'.push { cls:=.type "tuple",data:=.seq its.toArray } }:=
   Ad.laid (t':=s.toks) (λb o e=>DU _ e) (C5 _) (show Ds X.prog X.w _ _ _ (.tup ys)from⟨hz,its,Bf,IsTup.new _ _⟩)
  exact⟨.ref h'.objs.size,_,Bj,rfl,q _ (Ad.B0.fresh (C5 _))⟩
 .obtain⟨its,Bf,pl,hz⟩:=Z.tuple Aa;exact call_tuple_same pl ⟨.ref p,H,Z,rfl,q⟩
def g8(K:Ap)(T:String)(x:V)(H:AD):Prop:=match x with
 |.str _=>T="str"
 |.int _=>T="int"
 |.ref p=>(T="list"/\∃xs,Eu K H p xs)\/(T="tuple"/\∃o,K.lookup p=↥o/\o.cls=.type "tuple"/\o.dict=none)\/
     (T="dict"/\((∃AC,H p=↥(.B8 AC))\/∃AC,H p=↥(.Dx AC)))\/(T="set"/\∃S n,H p=↥(.set S n))
 |_=>False
def qw{A3:μ}{σ :St}{H:AD}{s:AQ}{T:String}{x:V}{v:A8}(Z:θ)(r:RelV x v)(ty:g8 X.K T x H) :
  s.TypeIs v T/\∀a,v=.ref a->∃BI,s.heap.get? a=↥BI/\BI.dict=none:=by
 cases x with
 |str z=>obtain⟨t,rfl⟩:=r;cases(show T="str" from ty);exact⟨typeIs_str s z t,λ_ e=>nomatch e⟩
 |int i=>obtain⟨t,rfl⟩:=r;cases(show T="int" from ty);exact⟨typeIs_int s i t,λ_ e=>nomatch e⟩
 |ref p=>
  cases r;rcases ty with⟨rfl,xs,Aa⟩|⟨rfl,o,AN,AJ,hd⟩|⟨rfl,AN⟩|⟨rfl,S,n,AN⟩
  .obtain⟨its,_,pl,_⟩:=Z.list Aa;refine⟨pl.isList.typeIs,λa e=>?_⟩;cases e;obtain⟨o,n,e,c,hd,_⟩:=pl;exact⟨o,e,hd⟩
  .refine⟨⟨o,Z.F8 p o AN,AJ⟩,λa e=>?_⟩;cases e;exact⟨o,Z.F8 _ o AN,hd⟩
  .have z:∃o,s.heap.get? p=↥o/\o.ExactDict:=by
     rcases AN with⟨AC,AN⟩|⟨AC,AN⟩
     .obtain⟨_,_,_,_,o,_,_,e,ex,_⟩:=Z.B0 p _ AN;exact⟨o,e,ex⟩
     .obtain⟨_,_,_,_,o,_,_,e,ex,_⟩:=Z.B0 p _ AN;exact⟨o,e,ex⟩
   obtain⟨o,e,ex⟩:=z;refine⟨⟨o,e,ex.1⟩,λa AE=>?_⟩;cases AE;exact⟨o,e,ex.2.1⟩
  .obtain⟨o,_,_,_,e,ex,_⟩:=Z.B0 p _ AN;refine⟨⟨o,e,ex.1⟩,λa AE=>?_⟩;cases AE;exact⟨o,e,ex.2.1⟩
 |_=>exact HX ty
noncomputable def rC(K:Ap)(T:String)(r:V->↑V->AD->CY->Prop)(to:TE):TE:=λσ H Q=>to σ H λx H1=>g8 K T x H1/\r x [] H1 Q
noncomputable def fu(K:Ap)(T:String)(r:V->↑V->AD->CY->Prop)(to:TE)(t:Fb):TE:=λσ H Q=>to σ H λx H1=>g8 K T x H1/\t σ H1 λxs AU=>r x xs AU Q
variable{o e:Aq}{es:↑Aq}{to:TE}{t:Fb}{name:Str}{apos D5:Pos}{T id:String}{r:V->↑V->AD->CY->Prop}
def n6(WA:PlainAttrs T)(slot:Slot T name id)(eA:typeOf (.builtin id)=pure (.type "method_descriptor"))(hm:OB X id r)(ho:Ah X o to)(cw:Ky o name X.env (Bc o X.env)=Bc o X.env:=by rfl)(cQ:(apos.endLine==D5.line)=true:=by rfl):Ah X (.Call (.Attribute o name apos) [] [] D5) (rC X.K T r to):=by intro A3 s σ H Q Z h;refine wpAny_Call_method0_late cw cQ (Ba (ho A3 s σ H _ Z h) λv s1⟨x,H1,Ad,Aw,ty,q1⟩=>?_);obtain⟨h1,h2⟩:=qw Ad Aw ty;exact⟨T,id,WA,slot,eA,h1,h2,SB rfl (gY (hm A3 s1 σ H1 x [] v [] Q Ad Aw .nil q1))⟩
def fP (WA:PlainAttrs T) (slot:Slot T name id) (eA:typeOf (.builtin id)=pure (.type "method_descriptor")) (hm:OB X id r) (ho:Ah X o to) (AG:H9 X (e::es) t)(cw:Ky o name X.env (Bc o X.env)=Bc o X.env:=by rfl)(y8:((Fa D5 (CM (e::es) X.env)).all (λx=>!x.1)&&(L0 D5 (Kx [] X.env)).all (λx=>x.1.isSome)
    &&decide (⇑(e::es)+⇑([]:↑MR)+(if([]:↑MR).isEmpty then 0 else 1)<30))=true:=by rfl)
  (cQ:(apos.endLine==D5.line)=true:=by rfl) (AP:CM (e::es) X.env=(false,Bc e X.env)::CM es X.env:=by rfl) (xy:(Fa D5 (CM es X.env)).any (·.1)=false:=by rfl) :
  Ah X (.Call (.Attribute o name apos) (e::es) [] D5) (fu X.K T r to t):=by
 intro A3 s σ H Q Z h;refine wpAny_Call_method_late cw y8 cQ rfl (Ba (ho A3 s σ H _ Z h) λv s1⟨x,H1,Ad,Aw,ty,q1⟩=>?_);obtain⟨h1,h2⟩:=qw Ad Aw ty;refine⟨T,id,WA,slot,eA,h1,h2,?_⟩;have Gq:=AG D5 A3 s1 σ H1 _ Ad q1;rw[AP]at Gq |-;refine SB (by show(false||(Fa D5 (CM es X.env)).any (·.1))=false;rw[xy]<;>rfl) (X7 ?_);exact Ba Gq λus s2⟨vs,AU,Bj,BL,q2⟩=>hm A3 s2 σ AU x vs v us Q Bj Aw BL q2
end
def Uy(X:Ar)(id:String)(r:V->↑V->AD->CY->Prop):Prop:=
 ∀(A3:μ)(s:AQ)(σ :St)(H:AD)(x:V)(xs:↑V)(v:A8)(us:↑A8)(Q:CY),θ->RelV x v->Vals xs us->r x xs H Q->
  An ξ X.A (call (.builtin id) (v::us)) (H6 X A3 σ Q) X.DC s
def Vals.one:∀{x:V}{us:↑A8},Vals [x] us->∃u,us=[u]/\RelV x u
 |_,_,.cons r .nil=>⟨_,rfl,r⟩
def Vals.two:∀{x y:V}{us:↑A8},Vals [x,y] us->∃u v,us=[u,v]/\RelV x u/\RelV y v
 |_,_,_,.cons r (.cons q .nil)=>⟨_,_,rfl,r,q⟩
def Vals.zero:∀{us:↑A8},Vals [] us->us=[]
 |_,.nil=>rfl
theorem Vals.dropLast{xs:↑V}{us:↑A8}(h:Vals xs us):Vals xs.dropLast us.dropLast:=by
 induction h with
 |nil=>exact .nil
 |cons r t C4=>
  cases t with
  |nil=>exact .nil
  |cons q t'=>exact .cons r C4
theorem Vals.eraseIdx:∀{xs:↑V}{us:↑A8}(i:Nat),Vals xs us->Vals (xs.eraseIdx i) (us.eraseIdx i)
 |_,_,_,.nil=>.nil
 |_,_,0,.cons _ t=>t
 |_,_,i+1,.cons r t=>.cons r (Vals.eraseIdx i t)
theorem Vals.rep{xs:↑V}{us:↑A8}(h:Vals xs us):∀k:Nat,Vals (GG k xs).flatten (GG k us).flatten
 |0=>.nil
 |k+1=>by rw[Qf,Qf,PD,PD];exact Vals.append h (Vals.rep h k)
def vA{α:Type}(l:↑α):l.eraseIdx (⇑l-1)=l.dropLast:=by
 induction l with
 |nil=>rfl
 |cons a r C4=>
  cases r with
  |nil=>rfl
  |cons b r=>
   have e:⇑(a::b::r)-1=(⇑(b::r)-1)+1:=by have h1:⇑(a::b::r)=⇑r+2:=rfl;have h2:⇑(b::r)=⇑r+1:=rfl;lia
   rw[e,sH,C4]
   all_goals rfl
theorem ll{α:Type}:∀(l:↑α)(i:Nat),⇑(l.eraseIdx i)<=⇑l
 |[],_=>C5 _
 |_::_,0=>Uf _
 |_::r,i+1=>Nat.succ_le_succ (ll r i)
theorem foldl_rep(its:↑A8):∀(k:Nat)(acc:↑A8),
  List.foldl (λCn CT=>Cn++CT) acc.toArray (GG k its.toArray)=(acc++(GG k its).flatten).toArray
 |0,acc=>γ
 |k+1,acc=>by
  have e:acc.toArray++its.toArray=(acc++its).toArray:=γ
  have AE:(acc++its)++(GG k its).flatten=acc++(GG (k+1) its).flatten:=by rw[Qf,PD,Dd]
  rw[<-AE,<-foldl_rep its k (acc++its),<-e,Qf,List.foldl_cons]
section
variable{X:Ar}{A3:μ}{σ :St}{H:AD}{s:AQ}{l b:A7}{xs ys zs:↑V}
def Inv.WS{its its':↑A8}{n:Nat}{f:Array A8->Array A8}{t':Nat}(Z:θ)(HP:H l=↥(.lst xs))(e:s.heap.get? l=some { cls:=.type "list",data:=.seq its.toArray n })(hf:f its.toArray=its'.toArray)(CG:Vals ys its')(hz:⇑ys<=CW) :
  Inv X A3 σ (upd H l (.lst ys)) { s with heap:=s.heap.update l (Ui f),toks:=t' }:=by
 have q:=PySem.IsL.update e f;rw[hf]at q;refine Z.write (x:=l) (e:=l) (by rw[HP];exact trivial) (.inl rfl) (λJJ u A4 BQ=>(sN s.heap (Ui f) (N3 A4)).trans BQ) ⟨_,q⟩ ?_;exact⟨hz,its',_,CG,q⟩
def Inv.dm{its:↑A8}{t':Nat}(Z:θ)(CG:Vals ys its)(hz:⇑ys<=CW) :
  Inv X A3 σ (upd H s.heap.objs.size (.lst ys)) { s with heap:=s.heap.push { cls:=.type "list",data:=.seq its.toArray },toks:=t' }:=
 Z.laid (λ_ _ q=>DU _ q) (C5 _) ⟨hz,its,0,CG,Fx _ rfl⟩
theorem Inv.fresh(Z:θ):H s.heap.objs.size=none:=Z.B0.fresh (C5 _)
def Inv.Ob(Z:θ)(HP:H l=↥(.lst xs)):⇑xs<=CW/\∃(its:↑A8)(n:Nat),Vals xs its/\ ⇑xs=⇑its/\s.heap.get? l=some { cls:=.type "list",data:=.seq its.toArray n }:=by obtain⟨z,its,n,r,e⟩:=Z.B0 l _ HP;exact⟨z,its,n,r,⇑r,e⟩
def l2{n:Nat}(h:n<=CW):XB n=false:=by unfold XB;exact decide_eq_false δ
end
section
variable{X:Ar}
def m2:V->List V->AD->CY->Prop:=λx vs H Q=>∃l xs y,x=.ref l/\vs=[y]/\H l=some (.lst xs)/\ ⇑xs<CW/\Q .non (upd H l (.lst (xs++[y])))
theorem lJ:Uy X "list.append" m2:=by intro A3 s σ H x vs v us Q Z Au Bw h;obtain⟨l,xs,y,rfl,rfl,HP,hz,q⟩:=h;cases Au;obtain⟨u,rfl,FJ⟩:=Bw.one;obtain⟨z,its,n,r,AH,e⟩:=Z.Ob HP;refine PO F.slot_list_append ⟨_,e,rfl⟩ F.entry_list_append (F.args_list_append_2 _ _) (PySem.list_append l its.toArray n u (by rw[D_];lia)) ⟨e,?_⟩;refine⟨.non,_,Z.WS (its':=its++[u]) HP e γ (r.append (.cons FJ .nil)) ?_,rfl,q⟩;rw[F1,gc];lia
def af4:V->List V->AD->CY->Prop:=λx vs H Q=>∃l b xs zs,x=.ref l/\vs=[.ref b]/\H l=some (.lst xs)/\H b=some (.lst zs)/\ ⇑xs+⇑zs<=CW/\Q .non (upd H l (.lst (xs++zs)))
theorem ajn:Uy X "list.extend" af4:=by
 intro A3 s σ H x vs v us Q Z Au Bw h;obtain⟨l,b,xs,zs,rfl,rfl,HP,GA,hz,q⟩:=h;cases Au;obtain⟨u,rfl,FJ⟩:=Bw.one;cases FJ;obtain⟨z,its,n,r,AH,e⟩:=Z.Ob HP;obtain⟨Ez,HE,GQ,BL,Td,AE⟩:=Z.Ob GA;have hsz:its.toArray.size+HE.toArray.size<=CW:=by rw[D_,D_];lia
 have cR:¬(!its.toArray.isEmpty&&XB (its.toArray.size+HE.toArray.size))=true:=by rw[l2 hsz,SD];exact Kv
 refine PO F.slot_list_extend ⟨_,e,rfl⟩ F.entry_list_extend (F.args_list_extend_2 _ _)
  (AutoSeq1.list_extend_list_list_0 l its.toArray n b HE.toArray GQ cR (by rw[D_];lia) δ) ⟨e,AE,?_⟩
 refine⟨.non,_,Z.WS (its':=its++HE) HP e γ (r.append BL) ?_,rfl,q⟩;rw[F1];lia
def nk:V->↑V->AD->CY->Prop:=λx vs H Q=>∃l xs y,x=.ref l/\vs=[]/\H l=↥(.lst xs)/\xs[⇑xs-1]?=↥y/\Q y (upd H l (.lst xs.dropLast))
theorem lK:Uy X "list.pop" nk:=by
 intro A3 s σ H x vs v us Q Z Au Bw h;obtain⟨l,xs,y,rfl,rfl,HP,AX,q⟩:=h;cases Au;have eC:=Bw.zero;subst eC;obtain⟨z,its,n,r,AH,e⟩:=Z.Ob HP;obtain⟨u,BQ,FJ⟩:=r.get AX;have xc:its.toArray[its.toArray.size-1]?=↥u:=by show its.toArray[⇑its-1]?=↥u;rw[<-X5,<-AH];exact BQ
 refine PO F.slot_list_pop ⟨_,e,rfl⟩ F.entry_list_pop (F.args_list_pop_1 _) (MeetsSeq.list_pop_last l its.toArray n u xc (by rw[D_];lia)) ⟨e,?_⟩;refine⟨y,_,Z.WS (its':=its.dropLast) HP e ?_ r.dropLast ?_,FJ,q⟩
 .show its.toArray.eraseIdxIfInBounds (its.toArray.size-1)=its.dropLast.toArray;rw[D_,s8,vA]
 .rw[List.length_dropLast];lia
def nq:V->↑V->AD->CY->Prop:=λx vs H Q=>∃l xs i k y,x=.ref l/\vs=[.int i]/\H l=↥(.lst xs)/\-(2^63)<=i/\i<2^63/\SL i ⇑xs=↥k/\xs[k]?=↥y/\Q y (upd H l (.lst (xs.eraseIdx k)))
theorem lL:Uy X "list.pop" nq:=by
 intro A3 s σ H x vs v us Q Z Au Bw h;obtain⟨l,xs,i,k,y,rfl,rfl,HP,h1,h2,AN,AX,q⟩:=h;cases Au;obtain⟨u,rfl,FJ⟩:=Bw.one;obtain⟨t,rfl⟩:=FJ;obtain⟨z,its,n,r,AH,e⟩:=Z.Ob HP;obtain⟨w,hw,IX⟩:=r.get AX
 refine PO F.slot_list_pop ⟨_,e,rfl⟩ F.entry_list_pop (F.args_list_pop_2 _ _)
  (MeetsSeq.list_pop_at l its.toArray n i t k w (fitsIndex_both h1 h2) (by rw[D_,<-AH];exact AN) (by rw[<-X5];exact hw) (by rw[D_];lia)) ⟨e,?_⟩
 refine⟨y,_,Z.WS (its':=its.eraseIdx k) HP e ?_ (r.eraseIdx k) ?_,IX,q⟩
 .show its.toArray.eraseIdxIfInBounds k=(its.eraseIdx k).toArray;rw[s8]
 .have:=ll xs k;lia
def m6:V->↑V->AD->CY->Prop:=λx vs H Q=>∃l xs,x=.ref l/\vs=[]/\H l=↥(.lst xs)/\Q .non (upd H l (.lst []))
theorem ac6:Uy X "list.clear" m6:=by intro A3 s σ H x vs v us Q Z Au Bw h;obtain⟨l,xs,rfl,rfl,HP,q⟩:=h;cases Au;have eC:=Bw.zero;subst eC;obtain⟨z,its,n,r,AH,e⟩:=Z.Ob HP;refine PO F.slot_list_clear ⟨_,e,rfl⟩ F.entry_list_clear (F.args_list_clear_1 _) (AutoSeq1.list_clear_list_0 l its.toArray n (by rw[D_];lia)) ⟨e,?_⟩;exact⟨.non,_,Z.WS (its':=[]) (ys:=[]) HP e rfl .nil (IB _),rfl,q⟩
def m4:EZ:=λx y H Q=>∃l b xs zs,x=.ref l/\y=.ref b/\H l=↥(.lst xs)/\H b=↥(.lst zs)/\ ⇑xs+⇑zs<=CW/\∀p,H p=none->Q (.ref p) (upd H p (.lst (xs++zs)))
def adE:Dp X (Jq .Add) m4:=by
 intro A3 s σ H x y v u Q Z Au Bo h;obtain⟨l,b,xs,zs,rfl,rfl,HP,GA,hz,q⟩:=h;cases Au;cases Bo;obtain⟨z,its,n,r,AH,e⟩:=Z.Ob HP;obtain⟨Ez,HE,GQ,BL,Td,AE⟩:=Z.Ob GA;refine PySem.P.add_list e AE ?_ (by rw[D_,D_];lia);have BJ:its.toArray++HE.toArray=(its++HE).toArray:=γ
 rw[BJ];exact⟨.ref _,_,Z.dm (t':=s.toks) (r.append BL) (by rw[F1];lia),rfl,q _ Z.fresh⟩
def nr:EZ:=λx y H Q=>∃l k xs,x=.ref l/\y=.int k/\H l=↥(.lst xs)/\-(2^63)<=k/\k<2^63/\ ⇑xs*k.toNat<=CW/\
 ∀p,H p=none->Q (.ref p) (upd H p (.lst (GG k.toNat xs).flatten))
def len_rep{α:Type}(xs:↑α)(k:Nat):(GG k xs).flatten.length=k*⇑xs:=by
 induction k with
 |zero=>simp
 |succ k C4=>rw[Qf,PD,F1,C4,Nat.succ_mul,Nat.add_comm]
theorem adK:Dp X (Jq .Mult) nr:=by
 intro A3 s σ H x y v u Q Z Au Bo h;obtain⟨l,k,xs,rfl,rfl,HP,h1,h2,hz,q⟩:=h;cases Au;obtain⟨t,rfl⟩:=Bo;obtain⟨z,its,n,r,AH,e⟩:=Z.Ob HP;have hlen:its.toArray.size*k.toNat<=CW:=by rw[D_,<-AH];exact hz
 have wj:¬its.toArray.size*k.toNat>(2^63-1)/8:=by
  have:(CW:Nat)<=(2^63-1)/8:=ε
  lia
 have y9:¬(!Builtin.List.listFitsIndex k)=true:=by rw[fitsIndex_both h1 h2];exact Kv
 have cR:¬XB (its.toArray.size*k.toNat)=true:=by rw[l2 hlen];exact Kv
 have xl:List.foldl (λCn CT=>Cn++CT) #[] (GG (if its.toArray.isEmpty=true then 0 else k.toNat) its.toArray)=(GG k.toNat its).flatten.toArray:=by
  have f0:∀m:Nat,List.foldl (λCn CT=>Cn++CT) #[] (GG m its.toArray)=(GG m its).flatten.toArray:=λm=>by have:=foldl_rep its m [];rw[Nu]at this;exact this
  rw[f0];cases its with
  |nil=>simp
  |cons a Bf=>rw[if_neg γ]
 refine wpAny_binaryOp_repeat_ref (T:="list") (U:="int") ε ⟨_,e,rfl⟩ (λs'=>typeIs_int s' k t) noFill_list_mul F.fills_int_mul F.slot_int_rmul repeat_list F.slot_int_index.lookup
  (PO F.slot_int_rmul (typeIs_int s k t) F.entry_int_rmul (F.args_int_rmul_2 _ _) (int___rmul___int_list k t l its.toArray n)
    ⟨e,rfl,⟨_,e,rfl⟩,PO F.slot_list_mul ⟨_,e,rfl⟩ F.entry_list_mul (F.args_list_mul_2 _ _) (AutoListH.list___mul___list_int_3 l its.toArray n k t y9 wj cR) ⟨e,?_⟩⟩)
 rw[xl];exact⟨.ref _,_,Z.dm (t':=s.toks) (r.rep k.toNat) (by rw[len_rep,Nat.mul_comm];exact hz),rfl,q _ Z.fresh⟩
end
section
variable{prog:C9}{w:Br}{A:D2}{E:A8->AQ->Prop}{s:AQ}
end
section
variable{X:Ar}
end
section
variable{Bp:Type}[DecidableEq Bp]
noncomputable def Hr(AC:↑(Bp×V))(k:Bp):Option V:=(AC.find? λCN=>decide (CN.1=k)).map (·.2)
noncomputable def putK(AC:↑(Bp×V))(k:Bp)(v:V):↑(Bp×V):=
 if(AC.any λCN=>decide (CN.1=k))=true then AC.map (λCN=>if CN.1=k then(CN.1,v)else CN)else AC++[(k,v)]
noncomputable def MY(AC:↑(Bp×V))(k:Bp):↑(Bp×V):=AC.filter λCN=>decide (CN.1≠k)
def afw{k:Bp}:Hr ([]:↑(Bp×V)) k=none:=rfl
def Wn{p:Bp×V}{r:↑(Bp×V)}{k:Bp}(e:p.1=k):Hr (p::r) k=↥p.2:=by simp[Hr,Qn,e]
def Wm{p:Bp×V}{r:↑(Bp×V)}{k:Bp}(e:¬p.1=k):Hr (p::r) k=Hr r k:=by simp[Hr,Qn,e]
theorem qV(k:Bp):∀AC:↑(Bp×V),(AC.any λCN=>decide (CN.1=k))=(Hr AC k).isSome
 |[]=>rfl
 |p::r=>by
  rw[h3];by_cases e:p.1=k
  .erw[Wn e,decide_eq_true e,Bool.true_or,sX]
  .rw[Wm e,decide_eq_false e,h4];exact qV k r
def lq(AC:↑(Bp×V))(k:Bp)(v:V):⇑(putK AC k v)<=⇑AC+1:=by
 unfold putK
 split
 .rw[CE];lia
 .rw[F1,Dn,Fg];lia
def IN.T0{o:Option V}{u:Option A8}(r:IN o u):o.isSome=u.isSome:=by
 cases o with
 |none=>cases u with
  |none=>rfl
  |some _=>exact(show False from r).elim
 |some _=>cases u with
  |none=>exact(show False from r).elim
  |some _=>rfl
theorem IN.getD{o:Option V}{u:Option A8}{d:V}{d':A8}(r:IN o u)(Hm:RelV d d'):RelV (o.getD d) (u.getD d'):=by
 cases o with
 |none=>cases u with
  |none=>exact Hm
  |some _=>exact(show False from r).elim
 |some _=>cases u with
  |none=>exact(show False from r).elim
  |some _=>exact r
def Fm.val{AC:↑(Bp×V)}{vs:↑(Bp×A8)}(r:Fm AC vs)(k:Bp):IN (Hr AC k) (PR vs k):=by
 unfold Fm at r;induction r with
 |nil=>exact Iy
 | @cons p q ps En h t C4=>
   obtain⟨h1,h2⟩:=h;by_cases e:p.1=k
   .have Bi:q.1=k:=h1.symm.trans e;have b:PR (q::En) k=↥q.2:=by simp[PR,Qn,Bi]
    rw[Wn e,b];exact h2
   .have Bi:¬q.1=k:=λz=>e (h1.trans z);have b:PR (q::En) k=PR En k:=by simp[PR,Qn,Bi]
    rw[Wm e,b];exact C4
theorem Fm.any{AC:↑(Bp×V)}{vs:↑(Bp×A8)}(r:Fm AC vs)(k:Bp):(AC.any λCN=>decide (CN.1=k))=vs.any λCN=>decide (CN.1=k):=by
 unfold Fm at r;induction r with
 |nil=>rfl
 |cons h t C4=>rw[h3,h3,C4,h.1]
def Fm.et{AC:↑(Bp×V)}{vs:↑(Bp×A8)}(r:Fm AC vs)(k:Bp){y:V}{u:A8}(Bo:RelV y u) :
  Fm (AC.map λCN=>if CN.1=k then(CN.1,y)else CN) (vs.map λCN=>if CN.1=k then(CN.1,u)else CN):=by
 unfold Fm at r |-;induction r with
 |nil=>exact .nil
 | @cons p q ps En h t C4=>
   rw[Do,Do];refine .cons ?_ C4;obtain⟨h1,h2⟩:=h;by_cases e:p.1=k
   .rw[if_pos e,if_pos (h1.symm.trans e)];exact⟨h1,Bo⟩
   .rw[if_neg e,if_neg (λz=>e (h1.trans z))];exact⟨h1,h2⟩
def Fm.put{AC:↑(Bp×V)}{vs:↑(Bp×A8)}(r:Fm AC vs)(k:Bp){y:V}{u:A8}(Bo:RelV y u):Fm (putK AC k y) (stored vs k u):=by
 unfold putK stored;rw[r.any k];by_cases e:(vs.any λCN=>decide (CN.1=k))=true
 .rw[if_pos e,if_pos e];exact r.et k Bo
 .rw[if_neg e,if_neg e];exact Paired.snoc r ⟨rfl,Bo⟩
def Fm.drop{AC:↑(Bp×V)}{vs:↑(Bp×A8)}(r:Fm AC vs)(k:Bp):Fm (MY AC k) (without vs k):=by
 unfold Fm at r |-;unfold MY without;induction r with
 |nil=>exact .nil
 | @cons p q ps En h t C4=>
   obtain⟨h1,h2⟩:=h;rw[PG,PG];by_cases e:p.1=k
   .have a:¬decide (p.1≠k)=true:=by simp[e]
    have b:¬decide (q.1≠k)=true:=by simp[h1.symm.trans e]
    rw[if_neg a,if_neg b];exact C4
   .have Bi:¬q.1=k:=λz=>e (h1.trans z);have a:decide (p.1≠k)=true:=by simp[e]
    have b:decide (q.1≠k)=true:=by simp[Bi]
    rw[if_pos a,if_pos b];exact .cons ⟨h1,h2⟩ C4
theorem Fm.length{AC:↑(Bp×V)}{vs:↑(Bp×A8)}(r:Fm AC vs):⇑AC=⇑vs:=Paired.length r
def jc(AC:↑(Bp×V))(k:Bp):⇑(MY AC k)<=⇑AC:=X6 _ _
end
def Px{P:C9}{w:Br}{k:Key}{u:A8}(r:RelV (Ck k) u):(HF P w).is k u=true:=by
 cases k with
 |inl i=>obtain⟨t,e⟩:=(show ∃t,u=SM i t from r);subst e;exact aaz P w i t
 |inr x=>obtain⟨t,e⟩:=(show ∃t,u=SN x t from r);subst e;exact abz P w x t
theorem kJ{P:C9}{w:Br}:∀{ks:↑Key}{us:↑A8},Vals (ks.map Ck) us->ItemsAre (HF P w) ks us
 |[],_,r=>by rw[IE]at r;cases r;exact .nil
 |k::ks,_,r=>by
  rw[Do]at r;cases r with
  |cons h t=>exact .cons (Px h) (kJ t)
abbrev KT(H:AD):↑(Et×V)->↑(Et×A7×A8)->Prop:=Paired λp q=>p.1=q.1/\OE H p.1 q.2.1/\RelV p.2 q.2.2
def KT.val{H:AD}{AC:↑(Et×V)}{xs:↑(Et×A7×A8)}(r:KT H AC xs)(k:Et):IN (Hr AC k) ((atKey xs k).map (·.2)):=by
 induction r with
 |nil=>exact Iy
 | @cons p q ps En h t C4=>
   obtain⟨h1,_,h2⟩:=h;by_cases e:p.1=k
   .have Bi:q.1=k:=h1.symm.trans e;have b:atKey (q::En) k=↥q.2:=by simp[atKey,Qn,Bi]
    rw[Wn e,b];exact h2
   .have Bi:¬q.1=k:=λz=>e (h1.trans z);have b:atKey (q::En) k=atKey En k:=by simp[atKey,Qn,Bi]
    rw[Wm e,b];exact C4
def KT.et{H:AD}{AC:↑(Et×V)}{xs:↑(Et×A7×A8)}(r:KT H AC xs)(k:Et){y:V}{u:A8}(Bo:RelV y u) :
  KT H (AC.map λCN=>if CN.1=k then(CN.1,y)else CN) (xs.map (putAt k u)):=by
 induction r with
 |nil=>exact .nil
 | @cons p q ps En h t C4=>
   rw[Do,Do];refine .cons ?_ C4;obtain⟨h1,h2,AY⟩:=h;unfold putAt;by_cases e:p.1=k
   .rw[if_pos e,if_pos (h1.symm.trans e)];exact⟨h1,h2,Bo⟩
   .rw[if_neg e,if_neg (λz=>e (h1.trans z))];exact⟨h1,h2,AY⟩
def KT.put{H:AD}{AC:↑(Et×V)}{xs:↑(Et×A7×A8)}(r:KT H AC xs)(k:Et){b:A7}{y:V}{u:A8}(A4:OE H k b)(Bo:RelV y u) :
  KT H (putK AC k y) (storedH xs k b u):=by
 have e:(AC.any λCN=>decide (CN.1=k))=(atKey xs k).isSome:=by rw[qV,(r.val k).T0,gt]
 unfold putK storedH;rw[e];by_cases q:(atKey xs k).isSome=true
 .rw[if_pos q,if_pos q];exact r.et k Bo
 .rw[if_neg q,if_neg q];exact Paired.snoc r ⟨rfl,A4,Bo⟩
def KT.keeps{H A9:AD}{AC:↑(Et×V)}{xs:↑(Et×A7×A8)}(r:KT H AC xs)(B9:∀b ys,H b=↥(.tup ys)->A9 b=↥(.tup ys)):KT A9 AC xs:=
 Paired.dw r λ_ _ z=>⟨z.1,B9 _ _ z.2.1,z.2.2⟩
section
variable{P:C9}{w:Br}{K:Ap}{H:AD}{h:BF}{a:A7}
def o1{u:F3}(ok:Es P w H h)(e:Lz H a u):Ds P w H h a u:=e.ok ok
def Oy{AC:↑(Key×V)}(ok:Es P w H h)(e:Lz H a (.B8 AC)):⇑AC<=CW/\(a==Ld)=false/\∃vs,Fm AC vs/\h.DictOf (HF P w) a vs:=
 show Ds P w H h a (.B8 AC)from o1 ok e
def Pj{AC:↑(Key×V)}(ok:Es P w H h)(e:H a=↥(.B8 AC)):⇑AC<=CW/\(a==Ld)=false/\∃vs,Fm AC vs/\h.DictOf (HF P w) a vs:=Oy ok (.inl e)
def R2{ks:↑Key}(ok:Es P w H h)(e:H a=↥(.tup (ks.map Ck))):(tupleKind (HF P w)).is h ks a:=by obtain⟨_,its,r,o,h1,h2,n,AY⟩:=(show Ds P w H h a (.tup (ks.map Ck))from ok a _ e);exact⟨o,its.toArray,n,h1,h2,AY,(kJ r:)⟩
def RC{AC:↑(Et×V)}(ok:Es P w H h)(e:Lz H a (.Dx AC)):⇑AC<=CW/\(a==Ld)=false/\
  ∃xs,KT H AC xs/\h.DictOfH (tupleKind (HF P w)) a xs:=by
 obtain⟨z,y,xs,r,o,es,BA,h1,h2,AY,Ch,EH⟩:=(show Ds P w H h a (.Dx AC)from o1 ok e);refine⟨z,y,xs,r,o,es,BA,h1,h2,AY,Ch,λx AF=>?_,EH⟩;have all:∀{l:↑(Et×V)}{m:↑(Et×A7×A8)},KT H l m->∀x∈m,O0 (HF P w) h x.1 x.2.1:=by
  intro l m q;induction q with
  |nil=>intro x AF;exact nomatch AF
  | @cons p q ps En Aa t C4=>
    intro x AF;rcases List.mem_cons.mp AF with e|AF
    .subst e;exact R2 ok (by rw[<-Aa.1];exact Aa.2.1)
    .exact C4 x AF
 exact all r x AF
end
def Jh(H:AD)(a:A7)(y:V)(r:Option V):Prop:=
 (∃AC k,Lz H a (.B8 AC)/\y=Ck k/\r=Hr AC k)\/∃AC k b,Lz H a (.Dx AC)/\y=.ref b/\OE H k b/\r=Hr AC k
def Q6(H:AD)(a:A7)(y v:V)(A9:AD):Prop:=
 (∃AC k,H a=↥(.B8 AC)/\y=Ck k/\ ⇑AC<CW/\A9=upd H a (.B8 (putK AC k v)))\/
 ∃AC k b,H a=↥(.Dx AC)/\y=.ref b/\OE H k b/\ ⇑AC<CW/\A9=upd H a (.Dx (putK AC k v))
theorem Jh.k{H:AD}{a:A7}{AC:↑(Key×V)}{k:Key}(e:H a=↥(.B8 AC)):Jh H a (Ck k) (Hr AC k):=.inl ⟨AC,k,.inl e,rfl,rfl⟩
def Jh.t{H:AD}{a b:A7}{AC:↑(Et×V)}{k:Et}(e:H a=↥(.Dx AC))(BC:OE H k b):Jh H a (.ref b) (Hr AC k):=.inr ⟨AC,k,b,.inl e,rfl,BC,rfl⟩
theorem Q6.k{H:AD}{a:A7}{AC:↑(Key×V)}{k:Key}{v:V}(e:H a=↥(.B8 AC))(AH:⇑AC<CW):Q6 H a (Ck k) v (upd H a (.B8 (putK AC k v))):=.inl ⟨AC,k,e,rfl,AH,rfl⟩
def Q6.t{H:AD}{a b:A7}{AC:↑(Et×V)}{k:Et}{v:V}(e:H a=↥(.Dx AC))(BC:OE H k b)(AH:⇑AC<CW) :
  Q6 H a (.ref b) v (upd H a (.Dx (putK AC k v))):=.inr ⟨AC,k,b,e,rfl,BC,AH,rfl⟩
section
variable{X:Ar}{A3:μ}{σ :St}{H:AD}{s:AQ}{a:A7}{y v:V}{u r:A8}{o:Option V}{A:D2}{E:A8->AQ->Prop}
def Inv.big(Z:θ):Ld<s.heap.objs.size:=by have h:FM<s.heap.objs.size:=(Z.mod.glob.keeps Z.BN).lt;exact gy ε h
def jT{Q:A8->AQ->Prop}(BQ:A.units+16<Dg)(Z:θ)(g:Jh H a y ↥v)(Bo:RelV y u)(h:∀Cb s',Inv X A3 σ H s'->RelV v Cb->Q Cb s') :
  An ξ A (PQ (.ref a) u) Q E s:=by
 rcases g with⟨AC,k,e,DY,l⟩|⟨AC,k,b,e,DY,BC,l⟩
 .subst DY;obtain⟨z,hd,vs,rel,dd⟩:=Oy Z.B0 e;obtain⟨Cb,hw,IX⟩:=IN.some_of (v:=v) (o:=PR vs k) (by rw[l];exact rel.val k);exact wpAny_getItem_of (Px Bo) dd.mapOf hw (h Cb _ (Z.tok _) IX)
 .subst DY;cases(show u=Cq b from Bo);obtain⟨z,hd,xs,rel,dd⟩:=RC Z.B0 e;obtain⟨Cb,hw,IX⟩:=IN.some_of (v:=v) (o:=(atKey xs k).map (·.2)) (by rw[l];exact rel.val k);obtain⟨p,AT,e7⟩:=Option.map_eq_some_iff.mp hw;refine wpAny_getItem_heap (UL (Qc (UT (by decide:1<=16) _) BQ)) (R2 Z.B0 BC) dd AT ?_;rw[e7];exact h Cb _ (Z.tok _) IX
def vJ{Q:A8->AQ->Prop}(BQ:A.units+16<Dg)(Z:θ)(g:Jh H a y o)(Bo:RelV y u)(h:∀s',Inv X A3 σ H s'->Q (.bool o.isSome) s') :
  An ξ A (G4 .In u (.ref a)) Q E s:=by
 rcases g with⟨AC,k,e,DY,l⟩|⟨AC,k,b,e,DY,BC,l⟩
 .subst DY;obtain⟨z,hd,vs,rel,dd⟩:=Oy Z.B0 e;refine wpAny_in_of (Px Bo) hd dd.mapOf ?_;rw[<-(rel.val k).T0,<-l];exact h _ (Z.tok _)
 .subst DY;cases(show u=Cq b from Bo);obtain⟨z,hd,xs,rel,dd⟩:=RC Z.B0 e;refine wpAny_in_heap (UL (Qc (UT (by decide:1<=16) _) BQ)) (R2 Z.B0 BC) hd dd ?_;have q:=(rel.val k).T0;rw[gt]at q;rw[<-q,<-l];exact h _ (Z.tok _)
def vK{Q:A8->AQ->Prop}(BQ:A.units+16<Dg)(Z:θ)(g:Jh H a y o)(Bo:RelV y u)(h:∀s',Inv X A3 σ H s'->Q (.bool (!o.isSome)) s') :
  An ξ A (G4 .NotIn u (.ref a)) Q E s:=by
 rcases g with⟨AC,k,e,DY,l⟩|⟨AC,k,b,e,DY,BC,l⟩
 .subst DY;obtain⟨z,hd,vs,rel,dd⟩:=Oy Z.B0 e;refine wpAny_notIn_of (Px Bo) hd dd.mapOf ?_;rw[<-(rel.val k).T0,<-l];exact h _ (Z.tok _)
 .subst DY;cases(show u=Cq b from Bo);obtain⟨z,hd,xs,rel,dd⟩:=RC Z.B0 e;refine wpAny_notIn_heap (UL (Qc (UT (by decide:1<=16) _) BQ)) (R2 Z.B0 BC) hd dd ?_;have q:=(rel.val k).T0;rw[gt]at q;rw[<-q,<-l];exact h _ (Z.tok _)
def ZH{h':BF}{t':Nat}{BI:F3}(Z:θ)(JW:Um (H a))(AP:Kz a s.heap h')(he:∃q,h'.get? a=↥q)(new:Ds X.prog X.w (upd H a BI) h' a BI) :
  Inv X A3 σ (upd H a BI) { s with heap:=h',toks:=t' }:=
 Z.write (x:=a) (e:=a) JW (.inl rfl) (λb q A4 z=>(AP.2 b A4).trans z) he new
def dH{P:C9}{w:Br}{A9:AD}{h':BF}{AC:↑(Key×V)}{vs:↑(Key×A8)}(z:⇑AC<=CW)(hd:(a==Ld)=false)(rel:Fm AC vs)(dd:h'.DictOf (HF P w) a vs) :
  Ds P w A9 h' a (.B8 AC):=⟨z,hd,vs,rel,dd⟩
def vM{A9:AD}{Q:Unit->AQ->Prop}(BQ:A.units+16<Dg)(Z:θ)(g:Q6 H a y v A9)(Bo:RelV y u)(Bw:RelV v r)(h:∀s',Inv X A3 σ A9 s'->Q () s') :
  An ξ A (setItem (.ref a) u r) Q E s:=by
 rcases g with⟨AC,k,e,DY,l,Bt⟩|⟨AC,k,b,e,DY,BC,l,Bt⟩
 .subst DY Bt;obtain⟨z,hd,vs,rel,dd⟩:=Pj Z.B0 e;have hz:⇑vs<=CW:=by rw[<- ⇑rel];exact z
  have AH:⇑(putK AC k v)<=CW:=by have:=lq AC k v;lia
  refine wpAny_setItem_pairs (hsz:=hz) (Px Bo) dd λh' Ng AP=>h _ ?_;have he:∃q,h'.get? a=↥q:=let⟨q,_,_,Aa,_⟩:=Ng;⟨q,Aa⟩
  exact ZH Z (by rw[e];exact Iy) AP he (dH AH hd (rel.put k Bw) Ng)
 .subst DY Bt;cases(show u=Cq b from Bo);obtain⟨z,hd,xs,rel,dd⟩:=RC Z.B0 (.inl e);have hz:⇑xs<=CW:=by rw[<-Paired.length rel];exact z
  have AH:⇑(putK AC k v)<=CW:=by have:=lq AC k v;lia
  refine wpAny_setItem_heap (hsz:=hz) (UL (Qc (UT (by decide:1<=16) _) BQ)) (R2 Z.B0 BC) dd λh' Ng AP=>h _ ?_;obtain⟨q,es,BA,Aa,h2,AY,Ch,_,EH⟩:=Ng;refine ZH Z (by rw[e];exact Iy) AP ⟨q,Aa⟩ ⟨AH,hd,_,(rel.put k BC Bw).keeps λc ys ec=>?_,q,es,BA,Aa,h2,AY,Ch,EH⟩;rw[DK (acK ec e (λz=>nomatch z))];exact ec
end
section
variable{X:Ar}{A3:μ}{σ :St}{H:AD}{s:AQ}{a:A7}{AC:↑(Key×V)}{k:Key}{u:A8}{A:D2}{E:A8->AQ->Prop}
def aiu{Q:Unit->AQ->Prop}(Z:θ)(e:H a=↥(.B8 AC))(Bo:RelV (Ck k) u)(l:(Hr AC k).isSome=true)(h:∀s',Inv X A3 σ (upd H a (.B8 (MY AC k))) s'->Q () s') :
  An ξ A (delItem (.ref a) u) Q E s:=by
 obtain⟨z,hd,vs,rel,dd⟩:=Pj Z.B0 e
 refine wpAny_delItem_slot dd.typeIs ε sR
  (SK sR dd.typeIs PySem.F.entry_dict_delitem (PySem.F.args_dict_delitem_2 _ _) (meets_dict_delitem_pairs (HF X.prog X.w) a (Px Bo)) ⟨vs,dd,by rw[<- ⇑rel];exact z,by rw[<-(rel.val k).T0];exact l,λh' Ng AP=>h _ ?_⟩)
 have he:∃q,h'.get? a=↥q:=let⟨q,_,_,Aa,_⟩:=Ng;⟨q,Aa⟩
 exact ZH Z (by rw[e];exact Iy) AP he (dH (Iw (jc AC k) z) hd (rel.drop k) Ng)
def vL{v:V}{more:↑A8}{Q:A8->AQ->Prop}(Z:θ)(e:H a=↥(.B8 AC))(Bo:RelV (Ck k) u)(l:Hr AC k=↥v)(hm:more=[]\/∃x,more=[x])(h:∀Cb s',Inv X A3 σ (upd H a (.B8 (MY AC k))) s'->RelV v Cb->Q Cb s'):An ξ A (call (.builtin "dict.pop") (.ref a::u::more)) Q E s:=by
 obtain⟨z,hd,vs,rel,dd⟩:=Pj Z.B0 e;obtain⟨Cb,hw,IX⟩:=IN.some_of (v:=v) (o:=PR vs k) (by rw[<-l];exact rel.val k);have AT:(keyPart u).isSome=true:=by
  cases k with
  |inl i=>obtain⟨t,q⟩:=(show ∃t,u=SM i t from Bo);subst q;rfl
  |inr x=>obtain⟨t,q⟩:=(show ∃t,u=SN x t from Bo);subst q;rfl
 have AG:argsOk "dict.pop" ⟨.ref a::u::more,[]⟩:=by
  rcases hm with q|⟨x,q⟩
  .subst q;exact PySem.F.args_dict_pop_2 _ _
  .subst q;exact PySem.F.args_dict_pop_3 _ _ _
 refine SK sA dd.typeIs PySem.F.entry_dict_pop AG (meets_dict_pop_there (HF X.prog X.w) a (Px Bo) more hm AT)
  ⟨vs,Cb,dd,by rw[<- ⇑rel];exact z,hw,λh' Ng AP=>h Cb _ ?_ IX⟩
 have he:∃q,h'.get? a=↥q:=let⟨q,_,_,Aa,_⟩:=Ng;⟨q,Aa⟩
 exact ZH Z (by rw[e];exact Iy) AP he (dH (Iw (jc AC k) z) hd (rel.drop k) Ng)
end
def c7(i:Aq):Prop:=∀CL Hc,Xi i false CL Hc=operate [CL,Hc] (PQ CL Hc)
def ag4{prog:C9}{w:Br}{A:D2}{E:A8->AQ->Prop}{s:AQ}{env:Env}{value slice:Aq}{pos:Pos}{T id:String}{Q:A8->AQ->Prop}(AH:typeLookup (.type T) "__getitem__"=pure ↥(.builtin id))(AP:c7 slice)(h:An Φ A (Bc value env) (λo Cx=>An Φ A (Bc slice env) (λi Jb=>Jb.TypeIs o T/\An Φ A (PQ o i) Q E Jb) E Cx) E s) :
  An Φ A (Bc (.Subscript value slice pos) env) Q E s:=by
 refine Subscript_ (HW h (λo Cx NH=>HW NH (λi Jb OV=>?_) λ_ _ x=>x) λ_ _ x=>x);obtain⟨DO,OV⟩:=OV;unfold subscriptTail;refine Ag ?_;rw[getitemInPython_of_ne DO.not_modules];refine Ag (wpAny_specialOf DO AH ?_);have fin:An Φ A (Xi slice false o i) (λr QS=>An Φ A (letTemporaryGo value o r>>=λ_=>pure r) Q E QS) E Jb:=by rw[AP o i];exact wpAny_operating (HW OV (λr QS OW=>Ag (wpAny_letTemporaryGo (Bh OW))) λ_ _ x=>x)
 first
  |exact Bh (Ag fin)
  |exact Ag (Bh (Ag fin))
  |exact Ag fin
def jX{X:Ar}{A3:μ}{σ :St}{H:AD}{s:AQ}{a:A7}{y:V}{o:Option V}(Z:θ)(g:Jh H a y o):s.TypeIs (.ref a) "dict":=by
 rcases g with⟨AC,k,e,_,_⟩|⟨AC,k,b,e,_,_,_⟩
 .obtain⟨_,_,vs,_,dd⟩:=Oy Z.B0 e;exact dd.typeIs
 .obtain⟨_,_,xs,_,dd⟩:=RC Z.B0 e;exact dd.typeIs
noncomputable def rE(H3 ty:TE):TE:=λσ H Q=>H3 σ H λx H1=>ty σ H1 λy AU=>∃a v,x=.ref a/\Jh AU a y ↥v/\Q v AU
noncomputable def oB(H3 ty OL:TE):F4:=λD σ H=>OL σ H λv H1=>H3 σ H1 λx AU=>ty σ AU λy C1=>∃a E5,x=.ref a/\Q6 C1 a y v E5/\D.AM σ E5
section
variable{X:Ar}{o i e value:Aq}{pos pos' Na:Pos}{H3 ty OL:TE}
def acg(BQ:X.A.units+16<Dg)(ho:Ah X o H3)(hi:Ah X i ty)(AP:c7 i):Ah X (.Subscript o i pos) (rE H3 ty):=by intro A3 s σ H Q Z h;refine ag4 PySem.F.slot_dict_getitem.lookup AP (Ba (ho A3 s σ H _ Z h) λu s1⟨x,H1,Ad,Au,q1⟩=>Ba (hi A3 s1 σ H1 _ Ad q1) λHc s2⟨y,AU,Bj,Bo,a,v,ex,g,q2⟩=>?_);subst ex;obtain rfl:u=Cq a:=Au;exact⟨jX Bj g,jT BQ Bj g Bo λCb s3 DD IX=>⟨v,AU,DD,IX,q2⟩⟩
def adb(BQ:X.A.units+16<Dg)(ho:Ah X o H3)(hi:Ah X i ty)(CG:Ah X value OL)(AP:O2 value ↥(.Subscript o i pos') pos.line X.env=pure false) :
  DX X (.Assign [.Subscript o i pos'] value pos) (oB H3 ty OL):=by
 intro A3 s σ H D Z h;refine wpAny_Assign_Subscript (Ba (CG A3 s σ H _ Z h) λr s1⟨v,H1,Ad,Bw,q1⟩=>Ba (ho A3 s1 σ H1 _ Ad q1) λu s2⟨x,AU,Bj,Au,q2⟩=>Ba (hi A3 s2 σ AU _ Bj q2) λHc s3⟨y,C1,DD,Bo,a,E5,ex,g,Dk⟩=>?_) AP;subst ex;obtain rfl:u=Cq a:=Au;exact vM BQ DD g Bo Bw λs4 Lw=>⟨σ,E5,Lw,Dk⟩
end
def vP{P:C9}{w:Br}{H:AD}(h:BF)(A4:Ld<h.objs.size):Ds P w H (h.push { cls:=.type "dict",data:=.dict #[] }) h.objs.size (.B8 []):=
 ⟨IB _,beq_eq_false_iff_ne.mpr (N3 (F0 A4)),[],.nil,Heap.DictOf.new h⟩
def vZ{P:C9}{w:Br}{H:AD}(h:BF)(A4:Ld<h.objs.size):Ds P w H (h.push { cls:=.type "dict",data:=.dict #[] }) h.objs.size (.Dx []):=
 ⟨IB _,beq_eq_false_iff_ne.mpr (N3 (F0 A4)),[],.nil,_,#[],0,Fx _ rfl,⟨rfl,rfl,rfl⟩,rfl,rfl,Qp⟩
def fw:TE:=λ_ H Q=>∀p,H p=none->Q (.ref p) (upd H p (.B8 []))
def rG:TE:=λ_ H Q=>∀p,H p=none->Q (.ref p) (upd H p (.Dx []))
section
variable{X:Ar}{pos:Pos}
def WC:Ah X (.Dict [] [] pos) fw:=λA3 s σ H Q Z h=>
 wpAny_Dict_empty ⟨.ref s.heap.objs.size,_,Z.laid (a:=s.heap.objs.size) (o:=.B8 []) (t':=s.toks) (λ_ _ q=>DU _ q) (C5 _) (vP s.heap Z.big),rfl,h _ (Z.B0.fresh (C5 _))⟩
def aci:Ah X (.Dict [] [] pos) rG:=λA3 s σ H Q Z h=>
 wpAny_Dict_empty ⟨.ref s.heap.objs.size,_,Z.laid (a:=s.heap.objs.size) (o:=.Dx []) (t':=s.toks) (λ_ _ q=>DU _ q) (C5 _) (vZ s.heap Z.big),rfl,h _ (Z.B0.fresh (C5 _))⟩
end
structure QA(X:Ar)(o:Aq)(m:Str)(apos:Pos)(e:Aq)(D5:Pos):Prop where
 base:Ky o m X.env (Bc o X.env)=Bc o X.env
 few:((Fa D5 (CM [e] X.env)).all (λx=>!x.1)&&(L0 D5 (Kx [] X.env)).all (λx=>x.1.isSome)
  &&decide (⇑([e]:↑Aq)+⇑([]:↑MR)+(if([]:↑MR).isEmpty then 0 else 1)<30))=true
 line:(apos.endLine==D5.line)=true
 trees:Fa D5 (CM [e] X.env)=[(false,Bc e X.env)]
def Y2(H:AD)(a:A7):Prop:=(∃AC,Lz H a (.B8 AC))\/∃AC,Lz H a (.Dx AC)
def aA{X:Ar}{A3:μ}{σ :St}{H:AD}{s:AQ}{a:A7}(Z:θ)(d:Y2 H a) :
  s.TypeIs (.ref a) "dict"/\(∀b,Cq a=.ref b->∃BI,s.heap.get? b=↥BI/\BI.dict=none)/\(a==Ld)=false:=by
 rcases d with⟨AC,e⟩|⟨AC,e⟩
 .obtain⟨_,hd,vs,_,dd⟩:=Oy Z.B0 e;refine⟨dd.typeIs,λb q=>?_,hd⟩;cases q;obtain⟨BI,_,_,h1,h2,_⟩:=dd;exact⟨BI,h1,h2.2.1⟩
 .obtain⟨_,hd,xs,_,dd⟩:=RC Z.B0 e;refine⟨dd.typeIs,λb q=>?_,hd⟩;cases q;obtain⟨BI,_,_,h1,h2,_⟩:=dd;exact⟨BI,h1,h2.2.1⟩
section
variable{X:Ar}{A3:μ}{σ :St}{H:AD}{s:AQ}{a:A7}{y d:V}{u r:A8}{o:Option V}{A:D2}{E:A8->AQ->Prop}
def vI{Q:A8->AQ->Prop}(BQ:A.units+16<Dg)(Z:θ)(g:Jh H a y o)(Bo:RelV y u)(h:∀Cb s',Inv X A3 σ H s'->RelV (o.getD .non) Cb->Q Cb s') :
  An ξ A (call (.builtin "dict.get") [.ref a,u]) Q E s:=by
 rcases g with⟨AC,k,e,DY,l⟩|⟨AC,k,b,e,DY,BC,l⟩
 .subst DY;obtain⟨z,hd,vs,rel,dd⟩:=Oy Z.B0 e;refine SK gR dd.typeIs sO (sI _ _) (meets_dict_get (HF X.prog X.w) a (Px Bo) hd) ⟨_,dd.mapOf,h _ _ (Z.tok _) ?_⟩;rw[l];exact(rel.val k).getD rfl
 .subst DY;cases(show u=Cq b from Bo);obtain⟨z,hd,xs,rel,dd⟩:=RC Z.B0 e;refine SK gR dd.typeIs sO (sI _ _) (meetsH_dict_get (tupleKind (HF X.prog X.w)) a b hd) ⟨UL (Qc (UT (by decide:1<=16) _) BQ),k,xs,R2 Z.B0 BC,dd,h _ _ (Z.tok _) ?_⟩;rw[l];exact(rel.val k).getD rfl
end
noncomputable def rF(H3 ty:TE):TE:=λσ H Q=>H3 σ H λx H1=>∃a,x=.ref a/\Y2 H1 a/\ty σ H1 λy AU=>∃o,Jh AU a y o/\Q (o.getD .non) AU
def rH(H3 ty:TE):TE:=λσ H Q=>H3 σ H λx H1=>∃a,x=.ref a/\Y2 H1 a/\ty σ H1 λy AU=>∃AC k v,AU a=↥(.B8 AC)/\y=Ck k/\Hr AC k=↥v/\Q v (upd AU a (.B8 (MY AC k)))
section
variable{X:Ar}{o e f:Aq}{apos D5:Pos}{H3 ty ajU:TE}
def ach(BQ:X.A.units+16<Dg)(ho:Ah X o H3)(he:Ah X e ty)(m:QA X o "get" apos e D5):Ah X (.Call (.Attribute o "get" apos) [e] [] D5) (rF H3 ty):=by intro A3 s σ H Q Z h;refine XT m.base m.few m.line XE gR PySem.F.type_dict_get (Ba (ho A3 s σ H _ Z h) λu s1⟨x,H1,Ad,Au,a,ex,d,q1⟩=>?_);subst ex;obtain rfl:u=Cq a:=Au;obtain⟨t1,C_,_⟩:=aA Ad d;refine⟨t1,C_,?_⟩;rw[m.trees];refine SB rfl (X7 (UV (Ba (he A3 s1 σ H1 _ Ad q1) λHc s2⟨y,AU,Bj,Bo,CL,g,q2⟩=>UP ?_)));exact vI BQ Bj g Bo λCb s3 DD IX=>⟨_,AU,DD,IX,q2⟩
def acj(ho:Ah X o H3)(he:Ah X e ty)(m:QA X o "pop" apos e D5):Ah X (.Call (.Attribute o "pop" apos) [e] [] D5) (rH H3 ty):=by intro A3 s σ H Q Z h;refine XT m.base m.few m.line XE sA PySem.F.type_dict_pop (Ba (ho A3 s σ H _ Z h) λu s1⟨x,H1,Ad,Au,a,ex,d,q1⟩=>?_);subst ex;obtain rfl:u=Cq a:=Au;obtain⟨t1,C_,_⟩:=aA Ad d;refine⟨t1,C_,?_⟩;rw[m.trees];refine SB rfl (X7 (UV (Ba (he A3 s1 σ H1 _ Ad q1) λHc s2⟨y,AU,Bj,Bo,AC,k,v,BJ,DY,l,q2⟩=>UP ?_)));subst DY;exact vL Bj BJ Bo l (.inl rfl) λCb s3 DD IX=>⟨v,_,DD,IX,q2⟩
end
section
variable{X:Ar}{A3:μ}{σ :St}{H:AD}{s:AQ}{a:A7}{AC:↑(Key×V)}{A:D2}{E:A8->AQ->Prop}
end
section
variable{X:Ar}{A3:μ}{σ :St}{H:AD}{s:AQ}{a:A7}{y:V}{u:A8}{A:D2}{E:A8->AQ->Prop}
end
end BU
namespace h_
open PySem PySem.W PySem.Calls PyProof.Rows
def yU{P:Params}{h:BF}:∀(ns:↑Int)(vs:↑A8),WellAll P h vs (ns.map WData.int)->IntsAre vs ns:=by
 intro ns;induction ns with
 |nil=>intro vs w;rw[IE]at w;cases w;exact .nil
 |cons n ns C4=>
  intro vs w;rw[Do]at w;cases w with
  |cons a b=>cases a;exact .cons _ _ (C4 _ b)
def aeh{l:OpenLaw}{n:Nat}(AZ:l.most=↥n){P:Params}{h:BF}{args:↑WData}{vals:↑A8}(YU:l.row.toRowW.claim.pre args=true)(eD:WellAll P h vals args) :
  ∃a vs ns,vals=[Cq a]/\args=[WData.list (ns.map WData.int)]/\h.get? a=some { cls:=.type "list",data:=.seq vs.toArray }/\IntsAre vs ns/\ ⇑ns<=n:=by
 have y2:WShape.hasAll [] args [.list .int]=true:=(pre_splitW YU).1;have AJ:l.pre.holds [] { args:=args }=true:=(pre_splitW YU).2;obtain⟨d,r,rfl,h1,h2⟩:=hasAllW_cons y2;obtain rfl:=hasAllW_nil h2;obtain⟨xs,rfl,AY⟩:=hasW_list h1;obtain⟨ns,rfl⟩:=items_int AY;have hlen:⇑ns<=n:=by
  unfold OpenLaw.pre at AJ;have Ch:(WTm.not (.lt (.lit (.int (n:Int))) (.len (.arg 0)))).holds [] { args:=[.list (ns.map .int)] }=true:=by have Ch:=(holds_andW AJ).1;rw[AZ]at Ch;exact Ch
  have EH:=condW_of Ch (w_not (w_lt w_lit (w_len_list (w_arg rfl))));rw[CE]at EH;refine XN λq=>?_;have Cp:(n:Int)<((⇑ns:Nat):Int):=δ
  first
   |(rw[decide_eq_true Cp]at EH;exact absurd EH ε)
   |(simp at EH;lia)
 cases eD with
 |cons G6 H5=>
  cases H5;cases G6 with
  |list ho cu=>exact⟨_,_,ns,rfl,rfl,ho,yU ns _ cu,hlen⟩
def aeQ(l:OpenLaw)(args:↑WData):l.row.toRowW.claim.post args (.bool true) args=true:=
 postW_of (r:=l.row.toRowW) (X:=(true==true))
  (show WShape.has [] (.bool true) .bool=true by first|rfl|decide|simp[WShape.has,WShape.arms,WShape.armsAll])
  (show(WTm.eq .res (.lit (.bool true))).value [] { args:=args,res:=↥(.bool true),after:=args }=↥(.bool (true==true))from w_eq_bool (w_res rfl) w_lit) rfl
def uE {l:OpenLaw} {n:Nat} {q:C9} {loose:↑Str} {LO:(Str->Option A8)->BF->Prop} {MW:Br->BF->Prop} {d:DefRec}(AZ:l.most=↥n) (RO:d.params.defaults=[])(call:∀(w:Br)(GE Cx:AQ)(mg Gi:Str->Option A8)(IR:A7)(o:Obj)(pm cd doc:A8)(a:A7)(vs:↑A8)(ns:↑Int),
    Ground q loose [] LO w GE mg Gi Cx.heap->MW w Cx.heap->
    Cx.heap.get? IR=↥o->o.data=.func (docDef d.name d.params d.body d.scope pm cd doc)->Cx.heap.CodeRec cd d.name->mg d.name=↥(.ref IR)->
    Cx.heap.get? a=some { cls:=.type "list",data:=.seq vs.toArray }->IntsAre vs ns->⇑ns<=n->Cx.gens= #[]->
    MQ (B4 l.prog w) PS (.call (.ref IR) ⟨[.ref a],[]⟩) (λr s'=>r=.ok (.ret (.bool true))/\OldK Cx.heap s'.heap/\s'.os=Cx.os/\N2 s'.gens) Cx) :
  WalkO q loose LO MW l.row.toRowW d [] (λf vs=>Xf f vs):=by
 intro w GE Cx mg Gi G Y IR o pm cd doc ZG Ck ho hd LW ix cy Ai args vals as YU aj7 aic eD aj9;obtain rfl:ZG=.none:=Dflts.none ix RO;obtain rfl:Ck=.none:=Dflts.noKw ix;obtain⟨a,vs,ns,rfl,rfl,e5,hints,hlen⟩:=aeh AZ YU eD;refine enter_call (Qi (call w GE Cx mg Gi IR o pm cd doc a vs ns G Y ho (fd_plain hd) LW cy e5 hints hlen Ai) λr s' Aa=>?_);obtain⟨rfl,h2,AY,Ch⟩:=Aa;exact⟨.inl ⟨.bool true,.bool true,[],rfl,λ_=>rfl,.bool true,aeQ l _,λ_=>⟨se,λ_ hm=>(nomatch hm)⟩⟩,h2,AY,Ch⟩
section
variable{prog:C9}{w:Br}{A:D2}{E:A8->AQ->Prop}{s:AQ}{K:Frag}
end
end h_
namespace BU
open PyProof.Rows
theorem qX:∀{vs:↑A8}{ns:↑Int},IntsAre vs ns->Vals (ns.map V.int) vs
 |_,_,.nil=>.nil
 |_,_,.cons n t h=>.cons ⟨t,rfl⟩ (qX h)
def c9(H:AD):Prop:=∀b,H b=none\/∃o xs,H b=↥(.D7 o (.lst xs))
def aab{P:C9}{w:Br}{K:Ap}{mg Gi:Str->Option A8}{CX:L9}{k:Nat}{IR a:A7}{fd:Hv}{x:Str}{sp:CH}{Cx:AQ}{vs:↑A8}{ns:↑Int}(IK:K.In Cx.heap)(kk:Cx.heap.Ns FM mg)(A4:Cx.heap.Ns builtinsNs Gi)(wg:∀x:Str,x≠"__name__"->Gi x=O1 x)(yM:Cx.heap.NoLimit)(Ai:Cx.gens= #[])(AG:Cx.heap.get? a=some { cls:=.type "list",data:=.seq vs.toArray })(hi:IntsAre vs ns)(AH:⇑ns<=CW)(BH:Cv k PS)(F:∀base:BF,K.In base->base.Ns FM mg->Ib P w K mg base CX k IR fd [x] sp)(wh:∀(s:AQ)(u:A8),BindsTo s fd ⟨[u],[]⟩ [(x,u)])(Ll:∀H:AD,c9 H->Eu K H a (ns.map V.int)->sp [.ref a] H (λv _=>v=.AO true) λ_ _ _=>False)(cp:∀H e s',CX [] H Cx (λ_ _ _=>False) e s'->False) :
  MQ (B4 P w) PS (.call (.ref IR) ⟨[.ref a],[]⟩) (λr s'=>r=.ok (.ret (.bool true))/\OldK Cx.heap s'.heap/\s'.os=Cx.os/\N2 s'.gens) Cx:=by
 have Bw:=qX hi;have aah:=⇑hi
 have core:∀H:AD,c9 H->Eu K H a (ns.map V.int)->Es P w H Cx.heap->(∀b,H b≠none->b=a)->(H a≠none->K.lookup a=none)->
   MQ (B4 P w) PS (.call (.ref IR) ⟨[.ref a],[]⟩) (λr s'=>r=.ok (.ret (.bool true))/\OldK Cx.heap s'.heap/\s'.os=Cx.os/\N2 s'.gens) Cx:=by
  intro H TY Mb B0 Gq A_;have i2:∀{b:A7}{o:Obj},Cx.heap.get? b=↥o->H b=none->(OQ Cx.heap H).get? b=↥o:=λe n=>yC e n;have W6:∀{b:A7}{o:Obj}{es:Array N1}{BA:Nat},Cx.heap.get? b=↥o->o.data=.dict es BA->H b=none:=λ{b o es BA} e d=>by
   cases q:H b with
   |none=>rfl
   |some u=>have Bi:b=a:=Gq b (by rw[q];simp);subst Bi;rw[AG]at e;cases e;have d':Data.seq vs.toArray _=Data.dict es BA:=d;cases d'
  have Zq:∀{b:A7}{m:Str->Option A8},Cx.heap.Ns b m->(OQ Cx.heap H).Ns b m:=λ{b m}⟨o,es,BA,e,d,r⟩=>⟨o,es,BA,i2 e (W6 e d),d,r⟩;have iz:K.In (OQ Cx.heap H):=λb o e=>i2 (IK b o e) (by
   cases q:H b with
   |none=>rfl
   |some u=>have Bi:b=a:=Gq b (by rw[q];simp);subst Bi;rw[A_ (by rw[q];simp)]at e;cases e)
  have RL:Mod K mg (OQ Cx.heap H):=⟨iz,Zq kk,⟨Gi,Zq A4,wg⟩,let⟨Vz,h1,h2⟩:=yM;⟨Vz,Zq h1,h2⟩⟩;have E8:N7 P w K mg (OQ Cx.heap H) PS [] Cx H:=⟨rfl,RL,λb o e=>abP e,hA (yD _ _),trivial,λb A4=>absurd (show b∈([]:↑A7)from A4) γ,B0,.of_eq Ai⟩;refine Qi ((F _ iz (Zq kk)).run PS [] Cx H ⟨[.ref a],[]⟩ [.ref a] [.ref a] _ _ BH E8 (wh Cx (.ref a)) (.cons rfl .nil) (Ll H TY Mb)) λr s' h=>?_;cases r with
  |error e=>exact(cp H e s' h).elim
  |ok CK=>
   cases CK with
   |next=>exact HX h
   |brk=>exact HX h
   |cont=>exact HX h
   |ret u=>
    obtain⟨v,A9,os,bare,un,xt,Bf,q⟩:=h;have Cp:v=.AO true:=q;subst Cp;obtain rfl:u=Qq true:=Bf;refine⟨rfl,OldK.of_keep λb o e=>?_,os,bare⟩;cases q:H b with
    |none=>exact un.keep b o e q (by intro z;exact absurd (show b∈([]:↑A7)from z) γ) γ
    |some u=>
     rcases TY b with z|⟨BI,xs,z⟩
     .rw[q]at z;cases z
     .have Ez:=un.Ha b BI _ z;obtain⟨AA,_⟩:=B0 b _ z;obtain⟨AE,_⟩:=xt b _ Ez;rw[e]at AA;cases AA;exact AE
 cases AN:K.lookup a with
 |some o=>have e:=IK a o AN;rw[AG]at e;cases e;refine core (λ_=>none) (λ_=>.inl rfl) (.inr ⟨_,vs.toArray,_,AN,rfl,rfl,rfl,by rw[D_,aah];exact AH,(Bw:)⟩) (λb u z=>by have F_:(none:Option F3)=↥u:=z;cases F_) (λb z=>absurd rfl z) λz=>absurd rfl z
 |none=>
  refine core (λb=>if b=a then↥(.D7 { cls:=.type "list",data:=.seq vs.toArray } (.lst (ns.map V.int)))else none) (λb=>?_) (.inl (.inr ⟨{ cls:=.type "list",data:=.seq vs.toArray },if_pos rfl⟩)) (λb u z=>?_) (λb z=>?_) λ_=>AN
  .by_cases A4:b=a
   .exact .inr ⟨_,_,if_pos A4⟩
   .exact .inl (if_neg A4)
  .by_cases A4:b=a
   .have F_:=(if_pos A4).symm.trans z;cases F_;subst A4;exact⟨AG,by rw[CE];exact AH,vs,_,Bw,AG⟩
   .have F_:=(if_neg A4).symm.trans z;cases F_
  .by_cases A4:b=a
   .exact A4
   .exact absurd (if_neg A4) z
def afZ {l:gd} {n k:Nat} {q:C9} {loose:↑Str} {LO:(Str->Option A8)->BF->Prop} {MW:Br->BF->Prop} {d:DefRec} {K:Params->Ap} {CX:Br->L9} {sp:Br->CH} {x:Str}(AZ:l.most=↥n) (YR:n<=CW) (RO:d.params.defaults=[]) (BH:Cv k PS)(VG:∀(w:Br)(h:BF),MW w h->(K w.params).In h)(F:∀(w:Br)(mg:Str->Option A8)(IR:A7)(h:BF),(K w.params).In h->h.Ns FM mg->mg d.name=↥(.ref IR)->
    ∃fd:Hv,(∀(s:AQ)(u:A8),BindsTo s fd ⟨[u],[]⟩ [(x,u)])/\
     ∀base:BF,(K w.params).In base->base.Ns FM mg->Ib l.prog w (K w.params) mg base (CX w) k IR fd [x] (sp w))
  (Ll:∀(w:Br)(H:AD)(a:A7)(ns:↑Int),⇑ns<=n->c9 H->Eu (K w.params) H a (ns.map V.int)->sp w [.ref a] H (λv _=>v=.AO true) λ_ _ _=>False)
  (cp:∀(w:Br)(H:AD)(s:AQ)(e:A8)(s':AQ),CX w [] H s (λ_ _ _=>False) e s'->False) :
  h5 q loose LO MW l.row.toRowW d [] (λf vs=>Xf f vs):=by
 refine h_.uE AZ RO λw GE Cx mg Gi IR o pm cd doc a vs ns G Y ho hd LW cy e5 hints hlen Ai=>?_;have IK:=VG w _ Y;obtain⟨fd,A4,iy⟩:=F w mg IR _ IK G.T.g cy;exact aab IK G.T.g G.T.b G.T.builtins G.T.nolimit Ai e5 hints (Iw hlen YR) BH iy A4 (λH TY Mb=>Ll w H a ns hlen TY Mb) λH e s'=>cp w H Cx e s'
noncomputable def inClass(s:BE)(j:Nat):BE:=match s with
 |.ClassDef _ _ _ body _ _ _ _ _ _ _=>body.getD j (.Pass ⟨0,0,0,0⟩)
 |_=>.Pass ⟨0,0,0,0⟩
noncomputable def M4(s:BE):Arguments:=match s with
 |.FunctionDef _ a _ _ _ _ _ _ _ _=>a
 |_=>{ posonlyargs:=[],args:=[],vararg:=none,kwonlyargs:=[],kw_defaults:=[],kwarg:=none,defaults:=[] }
noncomputable def KR(s:BE):↑BE:=match s with
 |.FunctionDef _ _ b _ _ _ _ _ _ _=>b
 |_=>[]
noncomputable def Bn(s:BE):FE:=match s with
 |.FunctionDef _ _ _ _ _ _ sc _ _ _=>sc
 |_=>{ kind:=.function,names:=[],isGenerator:=false,isCoroutine:=false }
abbrev hc:L9:=λ_ _ _ _ _ _=>False
abbrev hO:Ev:=λ_ _ _=>False
structure O7(K:Ap)(x qual:Str)(st:BE)(f:A7)(fd:Hv):Prop where
 ex:∃(GS:A8)(E1:Option A7)(Ck doc pm:A8)(an:Option A7)(FS D6:A8)(Om:Array (Option A8)),
  fd=KM x qual (M4 st) (KR st) (Bn st) .none Ck doc pm an FS D6/\K.lookup f=↥⟨GS,E1,.func fd,Om⟩/\My K FS qual=true
 Bu:KI K (.ref f)=true
section
variable{P:C9}{w:Br}{K:Ap}{mg:Str->Option A8}{base:BF}
def O7.ok {x qual:Str} {st:BE} {f:A7} {fd:Hv} {N ps:↑Str} {k:Nat} {sp:CH} (F:O7 K x qual st f fd) (S:Bz N ps (Bn st)) (len:∀vs H Q E,sp vs H Q E->⇑vs=⇑ps)(cx:∀(FS:A8)(A:D2)(outer:↑Env)(s:AQ)(H:AD)(vs:↑V)(Q:CY)(E:Ev),Cv k (A.deeper (O4 qual (Bn st) s.heap.objs.size f FS))->sp vs H Q E->
    ∃t,HK (KQ hc P w K mg base N qual (Bn st) f FS A outer s H E).Fq (KR st) t/\t { AM:=λ_ A9=>Q .non A9,Dq:=Q } (start N vs) H):Ib P w K mg base hc (k+1) f fd ps sp:=by
 obtain⟨GS,E1,Ck,doc,pm,an,FS,D6,Om,rfl,lk,LW⟩:=F.ex;refine jE lk LW S len λA outer s H vs Q E BH Ll=>?_;obtain⟨t,h,q⟩:=cx FS A outer s H vs Q E BH Ll;exact⟨t,h.Fq,q⟩
def O7.binds{x qual:Str}{st:BE}{f:A7}{fd:Hv}{ps:↑Str}(F:O7 K x qual st f fd)(h:∀(Ck doc pm:A8)(an:Option A7)(FS D6:A8)(us:↑A8),⇑us=⇑ps->bindArgs (KM x qual (M4 st) (KR st) (Bn st) .none Ck doc pm an FS D6) ⟨us,[]⟩=pure (ps.zip us)):Binds K fd ps []:=by obtain⟨GS,E1,Ck,doc,pm,an,FS,D6,Om,rfl,lk,LW⟩:=F.ex;exact .all (h Ck doc pm an FS D6)
def RH{x qual:Str}{st:BE}{f:A7}{GS:A8}{E1 an:Option A7}{Om:Array (Option A8)}{Ck doc pm FS D6:A8}(l:K.lookup f=↥⟨GS,E1,.func (KM x qual (M4 st) (KR st) (Bn st) .none Ck doc pm an FS D6),Om⟩)(c:My K FS qual=true)(k:KI K (.ref f)=true):O7 K x qual st f (KM x qual (M4 st) (KR st) (Bn st) .none Ck doc pm an FS D6):=⟨⟨GS,E1,Ck,doc,pm,an,FS,D6,Om,rfl,l,c⟩,k⟩
end
section
variable{X:Ar}
end
def QE(H A9:AD):Prop:=∀b o,H b=↥o->A9 b=↥o
def QE.refl(H:AD):QE H H:=λ_ _ h=>h
def QE.trans{H H1 AU:AD}(a:QE H H1)(b:QE H1 AU):QE H AU:=λc o h=>b c o (a c o h)
def QE.free{H A9:AD}(e:QE H A9){l:A7}(h:A9 l=Option.none):H l=Option.none:=by
 cases q:H l with
 |none=>rfl
 |some o=>rw[e l o q]at h;cases h
section
variable{X:Ar}
end
section
variable{Bp:Type}[DecidableEq Bp]
end
noncomputable def I4(env:Env):↑(Str×L1)->↑(Str×A7)->↑(Str×A7)
 |[],cs=>cs
 |(x,k)::r,cs=>I4 env r (if k==.free then(x,(env.cells.lookup x).getD 0)::cs else cs)
theorem iN{env:Env}:∀(names:↑(Str×L1))(cs:↑(Str×A7)),(∀p∈names,p.2=.free->∃c,env.cells.lookup p.1=↥c)->
 (forIn (m:=Sem) names cs λ(x:Str×L1) cs=>if(x.2==Jo)=true then do
   let a <-cellOf env x.1
   pure (PK ((x.1,a)::cs))else pure (PK cs))=pure (I4 env names cs)
 |[],cs,_=>rfl
 |(x,k)::r,cs,h=>by
  rw[List.forIn_cons];have C4:=iN (env:=env) r;by_cases AN:k=.free
  .subst AN;obtain⟨c,AJ⟩:=h (x,.free) Hs rfl;have AA:cellOf env x=pure c:=by unfold cellOf;rw[AJ]
   erw[beq_self_eq_true,if_true,I4,AA,AJ,Qb,pure_bind];exact C4 _ λp AT=>h p (Gw _ AT)
  .have A4:(k==Jo)=false:=by simpa using AN
   erw[A4,Kw,if_false,I4,pure_bind];exact C4 _ λp AT=>h p (Gw _ AT)
def iM{env:Env}{scope:FE}(h:∀p∈scope.names,p.2=.free->∃c,env.cells.lookup p.1=↥c):closureFor scope env=pure (I4 env scope.names []):=by
 have e:=iN (env:=env) scope.names [] h;unfold closureFor
 refine Eq.trans (b:=(forIn (m:=Sem) scope.names [] λ(x:Str×L1) cs=>if(x.2==Jo)=true then do
   let a <-cellOf env x.1
   pure (PK ((x.1,a)::cs))else pure (PK cs))>>=pure) rfl ?_
 rw[e];rfl
theorem iL{env:Env}{x:Str}:∀(names:↑(Str×L1))(cs:↑(Str×A7)),(∀p∈names,p.2=.free->∃c,env.cells.lookup p.1=↥c)->
  (I4 env names cs).lookup x=if(x,Jo)∈names then env.cells.lookup x else cs.lookup x
 |[],cs,_=>by simp[I4]
 |(y,k)::r,cs,h=>by
  rw[I4,iL r _ λp AT=>h p (Gw _ AT)];by_cases hm:(x,Jo)∈r
  .rw[if_pos hm,if_pos (Gw _ hm)]
  .rw[if_neg hm];by_cases AN:k=.free
   .subst AN;obtain⟨c,AJ⟩:=h (y,.free) Hs rfl;by_cases AF:x=y
    .subst AF;rw[if_pos Hs];simp[XO,AJ]
    .have nm:¬(x,Jo)∈(y,Jo)::r:=λz=>by
       rcases List.mem_cons.mp z with e|e
       .exact AF (by injection e)
       .exact hm e
     rw[if_neg nm];have A4:(x==y)=false:=(AF:)
     simp[XO,A4]
   .have A4:(k==Jo)=false:=by simpa using AN
    have nm:¬(x,Jo)∈(y,k)::r:=λz=>by
     rcases List.mem_cons.mp z with e|e
     .exact AN (by injection e with _ AE;exact AE.symm)
     .exact hm e
    rw[if_neg nm];simp[A4]
def tY {prog:C9} {w:Br} {A:D2} {R:Result->AQ->Prop} {s:AQ} {elt target iter:Aq} {ifs:↑Aq} {scope:FE} {pos:Pos} {it acc:A8} {env:Env} (Z:Nat->AQ->Prop)(turn:∀n s,Z n s->An Φ A (O5 it) (λr Cx=>match r with
    |none=>R (.ok .next) Cx
    |some v=>An (B4 prog w) A (XQ target it v) (λ_ r8=>An (B4 prog w) A (L2 target env v) (λ_ Jb=>
       An Φ A (forIn ifs true λc r=>if r=true then do let ok <-isTrue c env (Bc c env);pure (PK ok)else pure (PK r)) (λok QS=>
        if ok=true then An Φ A (Bc elt env) (λx aR=>
         An Φ A (call (.builtin "list.append") [acc,x]) (λ_ r9=>∃m,m<n/\Z m r9) (PT Φ A env λe s'=>R (.error e) s') aR) (PT Φ A env λe s'=>R (.error e) s') QS
        else ∃m,m<n/\Z m QS) (PT Φ A env λe s'=>R (.error e) s') Jb) (PT Φ A env λe s'=>R (.error e) s') r8) (PT Φ A env λe s'=>R (.error e) s') Cx) (PT Φ A env λe s'=>R (.error e) s') s)
  (n:Nat) (h:Z n s):MQ Φ A (.compLoop (.ListComp elt [⟨target,iter,ifs,0⟩] scope pos) 0 it acc env) R s:=by
 refine codeAny_loop rfl Z (λn s VE=>?_) n h;show An _ A ((compTurn (.ListComp elt [⟨target,iter,ifs,0⟩] scope pos) 0 it acc env).onRaise (λx=>do noteFrame x env;theTreesLotGoes x)) _ _ s;refine wpAny_noted ?_;rw[compTurn_list];refine Ag (wpAny_standAt (Ag (HW (turn n s VE) (λr Cx NH=>?_) λ_ _ h'=>h')));cases r with
 |none=>exact Bh NH
 |some v=>
  refine Ag (HW NH (λ_ r8 xh=>?_) λ_ _ h'=>h');refine Ag (HW xh (λ_ Jb OV=>Ag (HW OV (λok QS OW=>?_) λ_ _ h'=>h')) λ_ _ h'=>h');cases ok with
  |false=>exact Bh ⟨rfl,OW⟩
  |true=>exact Ag (Ag (HW OW (λx aR Sz=>Ag (HW Sz (λ_ r9 Ik=>Bh (Bh ⟨rfl,Ik⟩)) λ_ _ h'=>h')) λ_ _ h'=>h'))
abbrev Gc(X:Ar)(scope:FE)(N:↑Str)(cl:↑(Str×A7))(C:A7)(s:AQ)(H:AD)(BP:↑A7):Ar where
 prog:=X.prog
 w:=X.w
 K:=X.K
 mg:=X.mg
 base:=X.base
 A:=X.A
 N:=N
 GE:=s
 L3:=H
 env:=compEnvC scope cl C X.env
 outer:=X.stack
 stack:=X.stack
 ex:=BP
 calm:=X.calm
 fn:=λx=>scope.names.lookup x==↥.cell
 D1:=[]
 DC:=λ_ _=>False
noncomputable def Nd(nl:Nat)(caps:↑Nat)(σ :St):St:=GG nl none++caps.map λj=> σ.getD j none
noncomputable def a9:Option L1->Bool
 |some .cell=>true
 |some .free=>true
 |_=>false
structure Ls(sc:FE)(NA:↑Str)(scope:FE)(N:↑Str)(nl:Nat)(caps:↑Nat):Prop where
 kind:scope.kind=.function
 uniq:∀x∈scope.names,scope.names.lookup x.1=↥x.2
 free:∀x∈scope.names,x.2=.free->a9 (sc.names.lookup x.1)=true
 len:⇑N=nl+⇑caps
 tT:∀k j,caps[k]?=↥j->∃x,NA[j]?=↥x/\N[nl+k]?=↥x/\scope.names.lookup x=↥.free/\a9 (sc.names.lookup x)=true
def Vg(sc:FE)(NA:↑Str)(scope:FE)(N:↑Str)(nl:Nat)(caps:↑Nat):Bool:=
 (scope.kind==.function)&&scope.names.all (λx=>scope.names.lookup x.1==↥x.2&&(x.2 !=.free||a9 (sc.names.lookup x.1)))&&
 (⇑N==nl+⇑caps)&&(caps.zipIdx.all λkN=>match NA[kN.1]? with
   |none=>false
   |some x=>N[nl+kN.2]?==↥x&&scope.names.lookup x==↥.free&&a9 (sc.names.lookup x))
def Ls.of{sc:FE}{NA:↑Str}{scope:FE}{N:↑Str}{nl:Nat}{caps:↑Nat}(h:Vg sc NA scope N nl caps=true):Ls sc NA scope N nl caps:=by
 unfold Vg at h;rw[ID,ID,ID]at h;obtain⟨⟨⟨h1,h2⟩,AY⟩,Ch⟩:=h;rw[SH]at h2 Ch;refine⟨eq_of_beq h1,λx AF=>?_,λx AF e=>?_,eq_of_beq AY,λk j e=>?_⟩
 .have:=h2 x AF;rw[ID]at this;exact eq_of_beq this.1
 .have:=h2 x AF;rw[ID]at this;have q:=this.2;rw[e]at q;simpa using q
 .have m:(j,k)∈caps.zipIdx:=by
    rw[List.mem_zipIdx_iff_getElem?];exact e
  have q:=Ch _ m;dsimp only at q
  split at q
  .cases q
  .rename_i x ex;rw[ID,ID]at q;exact⟨x,ex,eq_of_beq q.1.1,eq_of_beq q.1.2,q.2⟩
def Ls.locs{sc:FE}{NA:↑Str}{scope:FE}{N:↑Str}{nl:Nat}{caps:↑Nat}(S:Ls sc NA scope N nl caps):∀x∈scope.names,x.2=.local->scope.names.lookup x.1=↥.local:=λx AF e=>e▸S.uniq x AF
theorem d8:∀(ns:↑(Str×L1))(n:Nat)(a b:↑(Str×A7)),IH n ns (a++b)=IH n ns a++b
 |[],_,_,_=>rfl
 |(x,k)::r,n,a,b=>by
  unfold IH
  split
  .exact d8 r (n+1) ((x,n)::a) b
  .exact d8 r n a b
theorem ZF{x:Str}{c:A7}:∀(ns:↑(Str×L1))(n:Nat)(a:↑(Str×A7)),(x,c)∈IH n ns a->(x,NameKind.cell)∈ns\/(x,c)∈a
 |[],_,_,h=>.inr h
 |(y,k)::r,n,a,h=>by
  unfold IH at h
  split at h
  .rename_i AN;rcases ZF r _ _ h with z|z
   .exact .inl (Gw _ z)
   .rcases List.mem_cons.mp z with e|z
    .injection e with AA AE;subst AA;rw[eq_of_beq AN];exact .inl Hs
    .exact .inr z
  .rcases ZF r _ _ h with z|z
   .exact .inl (Gw _ z)
   .exact .inr z
def acN{M:Model}{A:D2}{E:A8->AQ->Prop}{s:AQ}{scope:FE}{globals:A7}{cl:↑(Str×A7)}{qual:Str}{env:Env}{Q:Env->AQ->Prop}(HD:Q { scope:=scope,locals:=s.heap.objs.size,globals:=globals,cells:=IH (s.heap.objs.size+1) scope.names cl,qual:=qual,func:=none,code:=env.code,frame:=env.frame,builtins:=env.builtins } { s with heap:=pushCells (s.heap.push { cls:=.type "dict",data:=.dict #[] }) scope.names }) :
  An M A (hG scope globals cl [] qual none .none ↥env) Q E s:=by
 erw[hG,sX,if_true];refine Ag (wpAny_alloc ?_);refine Ag (wpAny_layCells _ (λname kind cells=>by cases yI:kind==NameKind.cell<;>simp[yI]) _ _ _ _ ?_);rw[show({ s with heap:=s.heap.push { cls:=.type "dict",data:=.dict #[] } }:AQ).heap.objs.size=s.heap.objs.size+1 from Lb ..];exact Ag (Bh (Bh HD))
def er{scope:FE}{env:Env}{x:Str}{k:L1}(h:(Lf scope env).names.lookup x=↥k):(x,k)∈scope.names\/(k=.cell/\(x,Jo)∈scope.names):=by
 have m:=Mx h;obtain⟨⟨y,q⟩,AX,e⟩:=List.mem_map.mp m;dsimp only at e
 split at e
 .rename_i AJ;injection e with AA AE;subst AA;have hf:q=.free:=by
   rw[ID,ID]at AJ;exact eq_of_beq AJ.1.1
  subst hf;exact .inr ⟨AE.symm,AX⟩
 .injection e with AA AE;subst AA;subst AE;exact .inl AX
def WO(Iv:TI)(g:Ju)(H2:TT)(te:TE)(nl:Nat)(caps:↑Nat):TE:=λσ H Q=>
 Iv σ H λBS H1=>∀acc,H1 acc=none->∃W:Nat->Nat->St->AD->Prop,(∃m,W 0 m (Nd nl caps σ) (upd H1 acc (.lst [])))/\
  ∀i m σ' A9,W i m σ' A9->(BS.stop i A9/\Q (.ref acc) A9)\/
   (BS.go i A9/\∀x AU,BS.Wu i A9 x AU->g x σ' AU λσ2 C1=>H2 σ2 C1 λb E5=>
      if b=true then te σ2 E5 λy Er=>∃ys,Er acc=↥(.lst ys)/\ ⇑ys<CW/\∃EB,EB<m/\W (i+1) EB σ2 (upd Er acc (.lst (ys++[y])))
      else ∃EB,EB<m/\W (i+1) EB σ2 E5)
section
variable{X:Ar}{elt target iter:Aq}{ifs:↑Aq}{scope:FE}{pos:Pos}{N:↑Str}{nl:Nat}{caps:↑Nat}{Iv:TI}{g:Ju}{H2:TT}{te:TE}
def QB(X:Ar)(ifs:↑Aq)(t:TT):Prop:=
 ∀(A3:μ)(s:AQ)(σ :St)(H:AD)(Q:Bool->AD->Prop),θ->t σ H Q->
  An ξ X.A (forIn ifs true λc r=>if r=true then do let ok <-isTrue c X.env (Bc c X.env);pure (PK ok)else pure (PK r)) (Y6 X A3 σ Q) X.DC s
def ag7:TT:=λ_ H Q=>Q true H
def ady:QB X [] ag7:=λ_ _ _ H _ Z h=>wpAny_tests_nil ⟨H,Z,h⟩
def adz{c:Aq}{t:TT}(h:EY X c t):QB X [c] t:=λA3 s σ H Q Z hw=>wpAny_tests_one (h A3 s σ H Q Z hw)
def yV{A3:μ}{σ :St}{H:AD}{s s4:AQ}{cl:↑(Str×A7)}{BP:↑A7}(S:Ls X.env.scope X.N scope N nl caps)(Z:θ)(k1:∀x c,cl.lookup x=↥c->X.env.cells.lookup x=↥c\/(scope.names.lookup x=↥.cell/\s.heap.objs.size<c/\s4.heap.IsCell c none))(k2:∀x,(x,Jo)∈scope.names->cl.lookup x=X.env.cells.lookup x)(k3:∀x,scope.names.lookup x=↥.cell->∃c,cl.lookup x=↥c/\s.heap.objs.size<c)(ZT:∀x y c,cl.lookup x=↥c->cl.lookup y=↥c->x=y)(hf:∀b∈BP,Km X A3 H b)(DI:∀b∈BP,b<s.heap.objs.size)(RR:s4.os=s.os)(Ai:s4.gens=s.gens)(AZ:∃m,s4.heap.Ns s.heap.objs.size m)(AN:∀b o,s.heap.get? b=↥o->s4.heap.get? b=↥o) :
  Inv (Gc X scope N cl s.heap.objs.size s H BP) [] (Nd nl caps σ) H s4:=by
 refine⟨⟨Z.ok.mod,?_,Z.ok.glob,Z.ok.blt,C5 _,ZT,λx AF=>?_,λx c z e=>?_,Z.ok.hd,Z.ok.frames,.inl rfl,λb A4=>⟨F0 (DI b A4),λx c e=>(k1 x c e).elim (λe=>(hf b A4).2.2.2.2.1 x c e) λe=>Qh (gy (DI b A4) e.2.1)⟩,Z.bs,Iw Z.ok.Nf Z.QR,λb o e A4=>?_,λb A4 AP=>?_,Z.stack,Z.e_⟩,
  RR,?_,G0.kept AN,?_,λx c e=>?_,Z.B0.fresh (C5 _),λx c e=>(k1 x c e).elim (Z.KV x c) λe=>Z.B0.fresh (Qg e.2.1),λp AT=>absurd (show p∈([]:μ)from AT) γ,Z.B0.kept AN,?_⟩
 .show(Lf scope X.env).kind=.function;exact S.kind
 .have AF:(Lf scope X.env).names.lookup x=↥.cell\/(Lf scope X.env).names.lookup x=↥.free:=AF;have hm:(x,Jo)∈scope.names\/scope.names.lookup x=↥.cell:=by
   rcases AF with h|h
   .rcases er h with m|⟨_,m⟩
    .exact .inr (S.uniq _ m)
    .exact .inl m
   .rcases er h with m|⟨e,_⟩
    .exact .inl m
    .cases e
  rcases hm with hm|hm
  rotate_left
  .obtain⟨c,e,_⟩:=k3 x hm;exact⟨c,e⟩
  have Aa:=S.free _ hm rfl;have AJ:∃c,X.env.cells.lookup x=↥c:=by
   apply Z.ok.has x;show X.env.scope.names.lookup x=↥.cell\/X.env.scope.names.lookup x=↥.free;cases e:X.env.scope.names.lookup x with
   |none=>rw[e]at Aa;cases Aa
   |some k=>
    rw[e]at Aa
    cases k<;>first
     |exact .inl rfl
     |exact .inr rfl
     |cases Aa
  obtain⟨c,e⟩:=AJ;exact⟨c,by show cl.lookup x=↥c;rw[k2 x hm];exact e⟩
 .obtain⟨Gb,Bi,q⟩:=k3 x (eq_of_beq z);rw[show cl.lookup x=↥c from e]at Bi;cases Bi;exact Qg q
 .rcases(hf b A4).2.2.2.1 with z|z
  .exact Z.ok.UC b o e z
  .exact absurd (GH (E3 (Z.ok.bs b o e).1) z) (Lc _)
 .rcases List.mem_cons.mp (Z.aO b AP)with z|z
  .exact(hf b A4).2.1 z
  .exact(hf b A4).2.2.1 z
 .rw[Ai];exact Z.bare
 .obtain⟨m,AZ⟩:=AZ;refine⟨m,AZ,λi x v h1 h2 AY=>?_⟩;have hN:N[i]?=↥x:=h1;unfold Nd at h2;by_cases hi:i<nl
  .rw[GW (hi:),XD,if_pos hi]at h2;cases h2
  .rw[Jp (hi:),UJ,Da]at h2;cases e:caps[i-nl]? with
   |none=>rw[e]at h2;cases h2
   |some j=>
    rw[e]at h2;have h2: σ.getD j none=↥v:=Fy h2;obtain⟨y,AA,AE,dJ,JO⟩:=S.tT _ _ e;have Cd:(y,Jo)∈scope.names:=Mx dJ;have Jw:Y7 X.env.scope y:=by
     cases q:X.env.scope.names.lookup y with
     |none=>rw[q]at JO;cases JO
     |some k=>
      rw[q]at JO
      cases k<;>first
       |exact .inr (.inl q)
       |exact .inr (.inr q)
       |cases JO
    have El:nl+(i-nl)=i:=δ
    rw[El,hN]at AE;cases AE;have AP: σ[j]?=↥↥v:=by
     rw[EC]at h2;cases q: σ[j]? with
     |none=>rw[q]at h2;cases h2
     |some o=>rw[q]at h2;exact congrArg some h2
    obtain⟨m0,_,AH⟩:=Z.loc;obtain⟨u,r,l⟩:=AH j x v AA AP Jw;refine⟨u,r,.inr ⟨?_,?_⟩⟩
    .show(Lf scope X.env).names.lookup x=↥.cell\/(Lf scope X.env).names.lookup x=↥.free;rcases AY with AY|AY|AY
     .have AY:(Lf scope X.env).names.lookup x=↥.local:=AY;rcases er AY with z|⟨z,_⟩
      .have Ez:scope.names.lookup x=↥.local:=S.locs _ z rfl;rw[Ez]at dJ;cases dJ
      .cases z
     .exact .inl AY
     .exact .inr AY
    .have Aa:X.env.scope.names.lookup x≠↥.local:=λz=>by rw[z]at JO;cases JO
     rcases l with⟨z,_⟩|⟨_,c,Ff,Ez⟩
     .exact absurd z Aa
     .refine⟨c,?_,Ez.keeps AN⟩;show cl.lookup x=↥c;rw[k2 x Cd];exact Ff
 .rcases k1 x c e with e|e
  .obtain⟨v,z⟩:=Z.cell x c e;exact⟨v,z.keeps AN⟩
  .exact⟨_,e.2.2⟩
 .show⇑(Nd nl caps σ)=⇑N;unfold Nd;rw[F1,UJ,CE,S.len]
def yX{A3:μ}{σ σ' :St}{H A9:AD}{s s':AQ}{cl:↑(Str×A7)}{BP:↑A7}{h':BF}(Z:θ)(hf:∀b∈BP,Km X A3 H b)(BS:Inv (Gc X scope N cl s.heap.objs.size s H BP) [] σ' A9 s')(AP:Kz s.heap.objs.size s'.heap h'):Inv X A3 σ A9 { s' with heap:=h' }:=by
 have ne:∀b o,s.heap.get? b=↥o->b≠s.heap.objs.size:=λb o e=>F0 (E3 e);have u:G0 (Ew X.stack) BP H A9 s.heap s'.heap:=BS.base;have fr:A9 s.heap.objs.size=none:=BS.free;refine Z.iG (ch:=BP) (s':={ s' with heap:=h' }) BS.os ⟨λb o e n A4 AF=>(AP.2 b (ne b o e)).trans (u.keep b o e n A4 AF),λb o e n A4 AF=>?_,u.free,λb o e AF=>?_,u.JB,u.Ha,u.J9⟩ (λb o e=>?_) BS.bare λb A4=>?_
 .obtain⟨C3,q⟩:=u.slot b o e n A4 AF;exact⟨C3,(AP.2 b (ne b o e)).trans q⟩
 .obtain⟨o',q⟩:=u.there b o e AF;exact⟨o',(AP.2 b (ne b o e)).trans q⟩
 .refine(BS.B0 b o e).N_ (λc v AJ q=>(AP.2 c ?_).trans q) (λ_ q=>q) λ_ _ q=>q;rintro rfl;rcases AJ with z|z
  .rw[<-z,fr]at e;cases e
  .rw[fr]at z;cases z
 .obtain⟨_,f1,_,E9,f4,G9⟩:=hf b A4;exact⟨E9,f1,f4,G9⟩
def hr {A3:μ} {σ :St} {s2:AQ} {AU:AD} {it:A7} {BP:↑A7} {Ho:Nat->BF->Prop} {BS:It} {E:A8->AQ->Prop} {Q:AD->Prop} {W:Nat->Nat->St->AD->Prop} {m0:Nat}(S:Ls X.env.scope X.N scope N nl caps) (AJ:X.calm=true) (Bj:Inv X A3 σ AU s2) (T:Turn X.prog X.w X.K target BS BP it Ho) (MB:Ho 0 s2.heap) (f2:∀b∈BP,Km X A3 AU b)(Ai:∀cl C s H BP,HJ (Gc X scope N cl C s H BP) target g) (B9:∀cl C s H BP,QB (Gc X scope N cl C s H BP) ifs H2) (he:∀cl C s H BP,Ah (Gc X scope N cl C s H BP) elt te)(OO:W 0 m0 (Nd nl caps σ) (upd AU s2.heap.objs.size (.lst [])))(turn:∀i m σ' A9,W i m σ' A9->(BS.stop i A9/\Q A9)\/
    (BS.go i A9/\∀x C1,BS.Wu i A9 x C1->g x σ' C1 λσ2 E5=>H2 σ2 E5 λb Er=>
       if b=true then te σ2 Er λy EP=>∃ys,EP s2.heap.objs.size=↥(.lst ys)/\ ⇑ys<CW/\∃EB,EB<m/\W (i+1) EB σ2 (upd EP s2.heap.objs.size (.lst (ys++[y])))
       else ∃EB,EB<m/\W (i+1) EB σ2 Er))
  (Uq:A8->A7->Result->AQ->Prop)
  (x3:∀(C:A7) s' A9,(∃m,s'.heap.Ns C m)->Km X A3 A9 C->(∀h',Kz C s'.heap h'->Inv X A3 σ A9 { s' with heap:=h' })->Q A9->Uq (.ref s2.heap.objs.size) C (.ok .next) s') :
  An ξ X.A (newList []) (λacc QS=>An ξ X.A (hG scope X.env.globals (I4 X.env scope.names []) [] X.env.qual none .none ↥X.env) (λiI aR=>
   MQ ξ X.A (.compStart (.ListComp elt [⟨target,iter,ifs,0⟩] scope pos) 0 (.ref it) acc { iI with scope:=Lf scope X.env }) (Uq acc iI.locals) aR) E QS) E s2:=by
 have Ys:∀p∈scope.names,p.2=.free->∃c,X.env.cells.lookup p.1=↥c:=λp AT e=>by
  have q:=S.free p AT e;apply Bj.ok.has p.1;show X.env.scope.names.lookup p.1=↥.cell\/X.env.scope.names.lookup p.1=↥.free;cases AE:X.env.scope.names.lookup p.1 with
  |none=>rw[AE]at q;cases q
  |some k=>
   rw[AE]at q
   cases k<;>first
    |exact .inl rfl
    |exact .inr rfl
    |cases q
 have RN:∀x,(I4 X.env scope.names []).lookup x=if(x,Jo)∈scope.names then X.env.cells.lookup x else none:=λx=>iL scope.names [] Ys
 have aj3:AU s2.heap.objs.size=none:=Bj.B0.fresh (C5 _);refine MJ (acN ?_);dsimp only;have DD:Inv X A3 σ (upd AU s2.heap.objs.size (.lst [])) { s2 with heap:=s2.heap.push { cls:=.type "list",dict:=none,data:=.seq ([]:↑A8).toArray } }:=Bj.dm (its:=[]) (ys:=[]) (t':=s2.toks) .nil (IB _);generalize Sx:({ s2 with heap:=s2.heap.push { cls:=.type "list",dict:=none,data:=.seq ([]:↑A8).toArray } }:AQ)=s3 at DD;have cM:s2.heap.push { cls:=.type "list",dict:=none,data:=.seq ([]:↑A8).toArray }=s3.heap:=by rw[<-Sx]
 rw[cM];have mc:∀b o,s2.heap.get? b=↥o->s3.heap.get? b=↥o:=λb o e=>by rw[<-cM];exact DU _ e
 have aes:s3.heap.objs.size=s2.heap.objs.size+1:=by rw[<-cM,Lb]
 have kc:=d8 scope.names (s3.heap.objs.size+1) [] (I4 X.env scope.names []);have ok:=cellsFrom_ok scope.names (s3.heap.push { cls:=.type "dict",data:=.dict #[] }) (s3.heap.objs.size+1) [] ⟨λ_ _ hm=>(nomatch hm),se⟩ (by rw[Lb];exact C5 _);have kl:=(Heap.Ns.new s3.heap (.type "dict")).keeps (pushCells_keeps scope.names _);have ZV:∀b o,s3.heap.get? b=↥o->(pushCells (s3.heap.push { cls:=.type "dict",data:=.dict #[] }) scope.names).get? b=↥o:=λb o e=>pushCells_keeps _ _ b o (DU _ e);rw[Lb]at ok;rw[Nu]at kc;rw[kc];generalize pushCells (s3.heap.push { cls:=.type "dict",data:=.dict #[] }) scope.names=NH at kl ZV ok |-;have old:∀x c,X.env.cells.lookup x=↥c->c<s3.heap.objs.size:=λx c e=>by obtain⟨v,z⟩:=DD.cell x c e;exact z.lt
 have k0:∀x c,(IH (s3.heap.objs.size+1) scope.names []++I4 X.env scope.names []).lookup x=↥c->((x,c)∈IH (s3.heap.objs.size+1) scope.names []/\scope.names.lookup x=↥.cell/\s3.heap.objs.size<c/\NH.IsCell c none)\/X.env.cells.lookup x=↥c:=λx c e=>by
  rw[gZ]at e;cases AA:(IH (s3.heap.objs.size+1) scope.names []).lookup x with
  |some Gb=>
   rw[AA]at e;have e:Gb=c:=Fy e;subst e;have m:=Mx AA;rcases ZF _ _ _ m with z|z
   .exact .inl ⟨m,S.uniq _ z,(ok.empty _ _ m).2,(ok.empty _ _ m).1⟩
   .cases z
  |none=>
   rw[AA]at e;have e:(I4 X.env scope.names []).lookup x=↥c:=e;rw[RN]at e
   split at e
   .exact .inr e
   .cases e
 have k2:∀x,(x,Jo)∈scope.names->(IH (s3.heap.objs.size+1) scope.names []++I4 X.env scope.names []).lookup x=X.env.cells.lookup x:=λx AF=>by
  rw[gZ];cases AA:(IH (s3.heap.objs.size+1) scope.names []).lookup x with
  |some Gb=>
   rcases ZF _ _ _ (Mx AA)with z|z
   .have q1:=S.uniq _ z;have q2:=S.uniq _ AF;dsimp only at q1 q2;rw[q1]at q2;cases q2
   .cases z
  |none=>show(I4 X.env scope.names []).lookup x=_;rw[RN,if_pos AF]
 have k3:∀x,scope.names.lookup x=↥.cell->∃c,(IH (s3.heap.objs.size+1) scope.names []++I4 X.env scope.names []).lookup x=↥c/\s3.heap.objs.size<c:=λx AF=>by obtain⟨c,e⟩:=d7 (n:=s3.heap.objs.size+1) AF;exact⟨c,by rw[gZ,e];rfl,(ok.empty _ _ (Mx e)).2⟩
 have ZT:∀x y c,(IH (s3.heap.objs.size+1) scope.names []++I4 X.env scope.names []).lookup x=↥c->(IH (s3.heap.objs.size+1) scope.names []++I4 X.env scope.names []).lookup y=↥c->x=y:=λx y c h1 h2=>by
  rcases k0 x c h1 with Ff|Ff<;>rcases k0 y c h2 with Ez|Ez
  .exact name_of_addr ok.apart Ff.1 Ez.1
  .exact absurd (old y c Ez) (Nat.not_lt_of_gt Ff.2.2.1)
  .exact absurd (old x c Ff) (Nat.not_lt_of_gt Ez.2.2.1)
  .exact DD.ok.inj x y c Ff Ez
 have k1:∀x c,(IH (s3.heap.objs.size+1) scope.names []++I4 X.env scope.names []).lookup x=↥c->X.env.cells.lookup x=↥c\/(scope.names.lookup x=↥.cell/\s3.heap.objs.size<c/\NH.IsCell c none):=λx c e=>(k0 x c e).elim (λz=>.inr z.2) .inl;generalize IH (s3.heap.objs.size+1) scope.names []++I4 X.env scope.names []=cl at k0 k1 k2 k3 ZT |-;have kj:∀b∈BP,b<s2.heap.objs.size:=λb A4=>by obtain⟨o,e,_⟩:=T.obj 0 _ MB b A4;exact E3 e
 have E9:∀b∈BP,Km X A3 (upd AU s2.heap.objs.size (.lst [])) b:=λb A4=>by obtain⟨GL,a1⟩:=f2 b A4;exact⟨by rw[DK (F0 (kj b A4))];exact GL,a1⟩
 have cS:∀b∈BP,b<s3.heap.objs.size:=λb A4=>by rw[aes];exact SE (kj b A4)
 have loop:∀s4:AQ,s4={ s3 with heap:=NH }->
   MQ ξ X.A (.compLoop (.ListComp elt [⟨target,iter,ifs,0⟩] scope pos) 0 (.ref it) (.ref s2.heap.objs.size) (compEnvC scope cl s3.heap.objs.size X.env))
    (Uq (.ref s2.heap.objs.size) s3.heap.objs.size) s4:=by
  intro s4 Sy;have Lw:Inv (Gc X scope N cl s3.heap.objs.size s3 (upd AU s2.heap.objs.size (.lst [])) BP) [] (Nd nl caps σ) (upd AU s2.heap.objs.size (.lst [])) s4:=
   yV S DD (by rw[Sy];exact k1) k2 k3 ZT E9 cS (by rw[Sy]) (by rw[Sy]) ⟨_,by rw[Sy];exact kl⟩ (by rw[Sy];exact ZV)
  have af1:Ho 0 s4.heap:=T.keep 0 _ _ MB λb A4 o e=>by rw[Sy];exact ZV b o (mc b o e)
  generalize Lk:Gc X scope N cl s3.heap.objs.size s3 (upd AU s2.heap.objs.size (.lst [])) BP=B at Lw;have stat:∀{A9:AD},(∀b∈BP,A9 b=none)->∀b∈BP,Km B [] A9 b:=λ{A9} AZ b A4=>by
   subst Lk;obtain⟨GL,a1,a2,HM,NB,Sk⟩:=E9 b A4;refine⟨AZ b A4,F0 (cS b A4),λz=>?_,.inl A4,λx c e=>?_,λp AT=>absurd (show p∈([]:μ)from AT) γ⟩
   .rcases List.mem_cons.mp (DD.aO b z)with q|q
    .exact a1 q
    .exact a2 q
   .rcases k1 x c e with e|e
    .exact NB x c e
    .exact Qh (gy (cS b A4) e.2.1)
  have yA:HJ B target g:=by subst Lk;exact Ai _ _ _ _ _
  have xb:QB B ifs H2:=by subst Lk;exact B9 _ _ _ _ _
  have xC:Ah B elt te:=by subst Lk;exact he _ _ _ _ _
  have Vp:B.prog=X.prog:=by subst Lk;rfl
  have C2:B.w=X.w:=by subst Lk;rfl
  have Nm:B.K=X.K:=by subst Lk;rfl
  have KU:B.A=X.A:=by subst Lk;rfl
  have Vo:B.env=compEnvC scope cl s3.heap.objs.size X.env:=by subst Lk;rfl
  have jh:B.calm=true:=by subst Lk;exact AJ
  have uX:B.DC=λ_ _=>False:=by subst Lk;rfl
  rw[<-Vp,<-C2,<-KU,<-Vo];refine tY (λn s'=>∃i σ' A9,Inv B [] σ' A9 s'/\Ho i s'.heap/\(∀b∈BP,A9 b=none)/\W i n σ' A9) ?_ m0 ⟨0,_,_,Lw,af1,λb A4=>(E9 b A4).1,OO⟩;rintro n s5 ⟨i,σ5,Er,O8,Tn,Yk,Tv⟩;have away:∀{α:Type}{t:Sem α}{hY:α->AQ->Prop}{t6:A8->AQ->Prop}{OH:AQ},An (B4 B.prog B.w) B.A t hY B.DC OH->An (B4 B.prog B.w) B.A t hY t6 OH:=λh=>HW h (λ_ _ q=>q) λe s' z=>by rw[uX]at z;cases z
  rcases turn i n σ5 Er Tv with⟨stop,q⟩|⟨go,Dh⟩
  .have d:=T.done B Vp C2 Nm jh i [] s5 σ5 Er (PT (B4 B.prog B.w) B.A B.env λe s'=>Uq (.ref s2.heap.objs.size) s3.heap.objs.size (.error e) s') O8 (stat Yk) Tn stop;rw[<-Vp,<-C2]at d;refine Ba d λr s6⟨BH,RX⟩=>?_;subst BH;refine x3 _ s6 Er ?_ (DD.Ma (C5 _) ?_) (λh' NG=>?_) q
   .obtain⟨m,AZ,_⟩:=RX.loc;rw[Vo]at AZ;exact⟨m,AZ⟩
   .have z:=RX.free;rw[Vo]at z;exact z
   .subst Lk;exact yX DD E9 RX NG
  .have d:=T.item B Vp C2 Nm jh i [] s5 σ5 Er (PT (B4 B.prog B.w) B.A B.env λe s'=>Uq (.ref s2.heap.objs.size) s3.heap.objs.size (.error e) s') O8 (stat Yk) Tn go;rw[<-Vp,<-C2]at d;refine Ba d λr s6⟨u,BH,EJ⟩=>?_;subst BH;refine Ba EJ λ_ s7⟨x,Ei,L4,S4,aiS,eY,xT⟩=>?_;have tC:=L4.pinned (stat xT) (T.obj _ _ eY);refine away (Ba (yA _ s7 σ5 Ei x u _ tC S4 (Dh x Ei aiS)) λ_ EF⟨σ8,Q8,tD,QM⟩=>?_);refine away (Ba (xb _ EF σ8 Q8 _ tD QM) λb GU⟨FO,hR,lz⟩=>?_);have again:∀{σa:St}{Fz:AD}{OH:AQ},Inv B ([]++WE BP s7.heap) σa Fz OH->(∃EB,EB<n/\W (i+1) EB σa Fz)->∃m,m<n/\∃i σ' A9,Inv B [] σ' A9 OH/\Ho i OH.heap/\(∀b∈BP,A9 b=none)/\W i m σ' A9:=λ{σa Fz OH} bw⟨EB,hm,afV⟩=>by
    refine⟨EB,hm,i+1,σa,Fz,bw.ae,T.keep _ _ _ eY λb A4 o e=>(bw.pin (b,o) (IF _ (IF _ (Zm A4 e)))).1,λb A4=>?_,afV⟩;obtain⟨o,e,d⟩:=T.obj _ _ eY b A4;exact(bw.pin (b,o) (IF _ (IF _ (Zm A4 e)))).2.1
   cases b with
   |false=>exact again hR lz
   |true=>show An _ _ (Bc elt B.env) _ _ GU;refine away (Ba (xC _ GU σ8 FO _ hR lz) λaiT WK⟨y,hl,t9,Bo,ys,AG,hz,adU⟩=>?_);refine away (Ba (lJ _ WK σ8 hl (.ref s2.heap.objs.size) [y] (.ref s2.heap.objs.size) [aiT] (λ_ hQ=>hQ=upd hl s2.heap.objs.size (.lst (ys++[y]))) t9 rfl (.cons Bo .nil) ⟨_,ys,y,rfl,rfl,AG,hz,rfl⟩) λ_ bD⟨z,hQ,tA,_,vc⟩=>?_);subst vc;exact again tA adU
 exact codeAny_compStart_list (loop _ (by rw[<-Sx])) (T.self X.A 0 _ _ _ (T.keep 0 _ _ MB λb A4 o e=>ZV b o (mc b o e)) (loop _ (by rw[<-Sx])))
def kd{A3:μ}{σ :St}{s:AQ}{H:AD}(S:Ls X.env.scope X.N scope N nl caps)(Z:θ):∀p∈scope.names,p.2=.free->∃c,X.env.cells.lookup p.1=↥c:=λp AT e=>by
 have q:=S.free p AT e;apply Z.ok.has p.1;show X.env.scope.names.lookup p.1=↥.cell\/X.env.scope.names.lookup p.1=↥.free;cases AE:X.env.scope.names.lookup p.1 with
 |none=>rw[AE]at q;cases q
 |some k=>
  rw[AE]at q
  cases k<;>first
   |exact .inl rfl
   |exact .inr rfl
   |cases q
def n7(S:Ls X.env.scope X.N scope N nl caps)(AJ:X.calm=true)(hi:He X target iter Iv)(Ai:∀cl C s H BP,HJ (Gc X scope N cl C s H BP) target g)(B9:∀cl C s H BP,QB (Gc X scope N cl C s H BP) ifs H2)(he:∀cl C s H BP,Ah (Gc X scope N cl C s H BP) elt te)(AP:∀x,Nw iter X.env x=pure x:=by intro _;rfl):Ah X (.ListComp elt [⟨target,iter,ifs,0⟩] scope pos) (WO Iv g H2 te nl caps):=by intro A3 s σ H Q Z h;rw[eval_ListComp];refine wpAny_comprehension_free (use:=none) rfl AP (iM (kd S Z)) S.kind S.locs ?_;refine Ba (hi A3 s σ H _ Z h) λv s1 h1=>Ba h1 λaC s2 h2=>?_;obtain⟨it,BP,Ho,BS,AU,e,Bj,T,MB,f2,k⟩:=h2;subst e;obtain⟨W,⟨m0,OO⟩,turn⟩:=k s2.heap.objs.size (Bj.B0.fresh (C5 _));refine hr (Q:=λA9=>Q (.ref s2.heap.objs.size) A9) S AJ Bj T MB f2 Ai B9 he OO turn (λacc C=>compPost ξ X.A X.DC none (H6 X A3 σ Q) acc C) ?_;intro C s' A9 AZ _ VE q;obtain⟨m,AZ⟩:=AZ;exact⟨m,AZ,λh' NG=>⟨.ref s2.heap.objs.size,A9,VE h' NG,rfl,q⟩⟩
def aeS{i:Nat}{y:Str}{py pQ:Pos}(S:Ls X.env.scope X.N scope N nl caps)(AJ:X.calm=true)(hN:X.N.Nodup)(AX:X.N[i]?=↥y)(AH:X.env.kindOf y=↥.local)(hi:He X target iter Iv)(Ai:∀cl C s H BP,HJ (Gc X scope N cl C s H BP) target g)(B9:∀cl C s H BP,QB (Gc X scope N cl C s H BP) ifs H2)(he:∀cl C s H BP,Ah (Gc X scope N cl C s H BP) elt te)(RS:O2 (.ListComp elt [⟨target,iter,ifs,0⟩] scope pos) ↥(.Name y py) pQ.line X.env=pure true:=by rfl)(AP:∀x,Nw iter X.env x=pure x:=by intro _;rfl):DX X (.Assign [.Name y py] (.ListComp elt [⟨target,iter,ifs,0⟩] scope pos) pQ) (fs (WO Iv g H2 te nl caps) (Ym i)):=by
 intro A3 s σ H De Z h;rw[exec_Assign_Name_used _ _ _ _ RS];refine Ag (wpAny_standAt (Ag ?_));show An _ X.A (do let _ <-comprehension (.ListComp elt [⟨target,iter,ifs,0⟩] scope pos) scope X.env _ (newList []) false (Bc iter X.env) ↥(L2 (.Name y py) X.env)) _ _ s;refine Ag (HW (wpAny_comprehension_free (use:=↥(L2 (.Name y py) X.env)) (Q:=λ_ s'=>QD X A3 De .next s') rfl AP (iM (kd S Z)) S.kind S.locs ?_) (λ_ s' Aa=>Bh (Bh Aa)) λ_ _ e=>e);refine Ba (hi A3 s σ H _ Z h) λv s1 h1=>Ba h1 λaC s2 h2=>?_;obtain⟨it,BP,Ho,BS,AU,e,Bj,T,MB,f2,k⟩:=h2;subst e;obtain⟨W,⟨m0,OO⟩,turn⟩:=k s2.heap.objs.size (Bj.B0.fresh (C5 _));refine hr (Q:=λA9=>De.AM (σ.set i ↥(.ref s2.heap.objs.size)) A9) S AJ Bj T MB f2 Ai B9 he OO turn (λacc C=>compPost ξ X.A X.DC ↥(L2 (.Name y py) X.env) (λ_ s'=>QD X A3 De .next s') acc C) ?_;intro C s' A9 AZ JQ VE q;obtain⟨m,AZ⟩:=AZ;show An _ X.A (L2 (.Name y py) X.env (.ref s2.heap.objs.size)) _ _ s';have HH:Inv X A3 σ A9 s':=VE s'.heap (Heap.SameBut.refl _ _);refine wpAny_assign_Name (r6 (v:=.ref s2.heap.objs.size) HH hN AX (.inl AH) (show RelV (V.ref _) _ from rfl) (λKB t8 y1=>?_) (.inr AH));obtain⟨a,y0,AG⟩:=y1;obtain⟨Pg,Bm,Cc,FF,M3,Vd⟩:=JQ;have ac9:C≠a:=by
  rcases AG with z|z
  .rw[z];exact Bm
  .exact λw=>M3 y a z w.symm
 refine⟨m,AZ.sameBut y0 ac9,λh' NG=>?_⟩;exact⟨_,A9,t8.turned (t':=KB.toks) (it:=C) (λb o A4 e=>(NG.2 b A4).trans e) Pg Bm FF M3 Vd,q⟩
end
structure Sb(P:C9)(w:Br)(outer:↑Env)(H A9:AD)(s:AQ)(a:A7)(C GL:A8)(B:BF)(s':AQ):Prop where
 os:s'.os=s.os
 bare:N2 s'.gens
 un:G0 (Ew outer) [] H A9 s.heap s'.heap
 RF:Heap.FlyingW B outer a C GL s'.heap
 old:∀b o,s.heap.get? b=↥o->H b=none->b∉Ew outer->B.get? b=↥o
 aZ:∀b o,s.heap.get? b=↥o->b∉Ew outer->∃o',B.get? b=↥o'
 B0:Es P w A9 B
 AG:A9 a=none
noncomputable def Im(P:C9)(w:Br):L9:=λouter H s E e s'=>∃(a:A7)(C GL:A8)(B:BF)(A9:AD),e=.ref a/\Sb P w outer H A9 s a C GL B s'/\E C ↥a A9
section
variable{X:Ar}{A3:μ}{σ :St}{H A9:AD}{s s':AQ}{a:A7}{C GL:A8}{B:BF}
def Es.part(x:Es X.prog X.w H s.heap)(k:∀b u,(H b).isSome=true->s.heap.get? b=↥u->B.get? b=↥u):Es X.prog X.w H B:=λb o e=>
 (x b o e).N_ (λc u AJ q=>k c u (by rcases AJ with rfl|AJ<;>simp[*]) q) (λ_ q=>q) λ_ _ q=>q
def jI{env:Env}{outer:↑Env}{L:A7}(h:env.frame=↥L){b:A7}(A4:b∈Ew (env::outer)):b=L\/b∈Ew outer:=by unfold Ew at A4;rw[S6,h]at A4;exact List.mem_cons.mp A4
def Inv.aaf{M:Model}{A:D2}{E:A8->AQ->Prop}{h':BF}{vs:↑A8}{Q:Unit->AQ->Prop}(Z:θ)(Fj:X.stack=X.env::X.outer)(NF:X.env.frame=↥X.env.locals)(hex:X.ex=[])(Gq:A.frames=↥X.stack)(AF:Heap.MadeExcOf s.heap h' a C vs)(HD:∀GL B KB,Sb X.prog X.w X.outer X.L3 H X.GE a C GL B KB->Q () KB):An M A (leaving X.env (.ref a)) Q E { s with heap:=h' }:=by
 have yF:∀env∈X.stack,∀b,env.frame=↥b->b∈Ew X.stack:=λenv he b A4=>List.mem_filterMap.mpr ⟨env,he,A4⟩;have GA:∀b o,s.heap.get? b=↥o->b∉Ew X.stack->(XP s.heap (Ew X.stack)).get? b=↥o:=λb o q n=>sl _ q n;have OS:∀b o,X.GE.heap.get? b=↥o->b∉Ew X.outer->b∉Ew X.stack:=λb o q n z=>by
  rw[Fj]at z;rcases jI NF z with r|r
  .subst r;exact absurd (GH (E3 q) Z.ok.above) (Lc _)
  .exact n r
 have J3:∀b,b∉X.ex:=λb z=>by rw[hex]at z;cases z
 refine PySem.wpAny_leaves_madeW (base:=XP s.heap (Ew X.stack)) (h:=s.heap) (by rw[Gq,Fj]) NF (λb o q=>sm _ q) (by have:=PySem.W.funFrames_hide (as:=Ew X.stack) Z.stack yF;rw[Fj]at this |-;exact this) AF λRK t Cn CT EN QX=>?_;refine HD (.ref t) (XP s.heap (Ew X.stack)) _ ⟨Z.os,Z.bare,⟨?_,?_,?_,?_,Z.base.JB,Z.base.Ha,Z.base.J9⟩,Cn,?_,?_,?_,?_⟩
 .exact λb o q n A4 _=>Cn.1 b o (GA b o (Z.base.keep b o q n A4 (J3 b)) (OS b o q A4))
 .intro b o q n A4 _;obtain⟨C3,q1⟩:=Z.base.slot b o q n A4 (J3 b);obtain⟨_,o',Cp,Il⟩:=Z.ok.JP.mem A4;rw[q]at Cp;cases Cp;obtain⟨QO,q2⟩:=QX b _ (AF.keeps b _ q1) Il;exact⟨QO,q2⟩
 .exact λb o q n _=>Z.base.free b o q n (J3 b)
 .intro b o q _;by_cases A4:b∈Ew X.outer
  .obtain⟨_,o',Cp,_⟩:=Cn.2.2.1.mem A4;exact⟨o',Cp⟩
  .obtain⟨o',Cp⟩:=Z.base.there b o q (J3 b);exact⟨o',Cn.1 b o' (GA b o' Cp (OS b o q A4))⟩
 .exact λb o q n A4=>GA b o (Z.base.keep b o q n A4 (J3 b)) (OS b o q A4)
 .intro b o q A4;obtain⟨o',Cp⟩:=Z.base.there b o q (J3 b);exact⟨o',GA b o' Cp (OS b o q A4)⟩
 .exact Es.part (X:=X) (s:=s) Z.B0 λb u AP q=>GA b u q λz=>by rw[Z.e_ b z]at AP;cases AP
 .cases q:H a with
  |none=>rfl
  |some o=>
   have k:∀o:F3,Ds X.prog X.w H s.heap a o->∃u,s.heap.get? a=↥u:=λo x=>by
    induction o with
    |lst xs=>obtain⟨_,_,_,_,e⟩:=x;exact⟨_,e⟩
    |tup xs=>obtain⟨_,_,_,_,e,_⟩:=x;exact⟨_,e⟩
    |B8 AC=>obtain⟨_,_,_,_,o,_,_,e,_⟩:=x;exact⟨_,e⟩
    |Dx AC=>obtain⟨_,_,_,_,o,_,_,e,_⟩:=x;exact⟨_,e⟩
    |set S n=>obtain⟨o,_,_,_,e,_⟩:=x;exact⟨_,e⟩
    |ins C Bs B7=>obtain⟨_,_,_,e,_⟩:=x;exact⟨_,e⟩
    |own y=>obtain⟨_,e⟩:=x;exact⟨_,e⟩
    |Ri B7=>obtain⟨_,⟨_,_,_,e,_⟩,_⟩:=x;exact⟨_,e⟩
    |bC lo hi=>obtain⟨_,_,_,e⟩:=x;exact⟨_,e⟩
    |D7 BI u=>obtain⟨e,_⟩:=x;exact⟨_,e⟩
    |OJ ps=>exact⟨_,(show s.heap.get? a=↥_ from x)⟩
    |met f y=>exact⟨_,(show s.heap.get? a=↥_ from x)⟩
    |ext φ=>obtain⟨_,⟨_,e⟩,_⟩:=x;exact⟨_,e⟩
   obtain⟨u,e⟩:=k o (Z.B0 a o q);rw[AF.new]at e;cases e
def Inv.aag{M:Model}{A:D2}{E:A8->AQ->Prop}{Q:Unit->AQ->Prop}(Z:θ)(Fj:X.stack=X.env::X.outer)(NF:X.env.frame=↥X.env.locals)(hex:X.ex=[])(Gq:A.frames=↥X.stack)(f:Sb X.prog X.w X.stack H A9 s a C GL B s')(HD:∀KB,Sb X.prog X.w X.outer X.L3 A9 X.GE a C GL B KB->Q () KB):An M A (leaving X.env (.ref a)) Q E s':=by
 have OS:∀b o,X.GE.heap.get? b=↥o->b∉Ew X.outer->b∉Ew X.stack:=λb o q n z=>by
  rw[Fj]at z;rcases jI NF z with r|r
  .subst r;exact absurd (GH (E3 q) Z.ok.above) (Lc _)
  .exact n r
 have xv:∀b,b∈Ew X.outer->b∈Ew X.stack:=λb z=>by rw[Fj];unfold Ew;rw[S6,NF];exact Gw _ z
 have J3:∀b,b∉X.ex:=λb z=>by rw[hex]at z;cases z
 have no:∀b:A7,b∉([]:↑A7):=λb z=>by cases z
 obtain⟨os,bare,un,RF,old,aZ,B0,AG⟩:=f;rw[Fj]at RF;refine PySem.wpAny_leaves_onW (by rw[Gq,Fj]) NF RF λRK Cn CT=>?_;refine HD _ ⟨os.trans Z.os,bare,⟨?_,?_,?_,?_,λb xs q=>un.JB b xs (Z.base.JB b xs q),λb o u q=>un.Ha b o u (Z.base.Ha b o u q),?_⟩,Cn,?_,?_,B0,AG⟩
 .exact λb o q n A4 _=>Cn.1 b o (old b o (Z.base.keep b o q n A4 (J3 b)) (Z.base.free b o q n (J3 b)) (OS b o q A4))
 .intro b o q n A4 _;obtain⟨C3,q1⟩:=Z.base.slot b o q n A4 (J3 b);obtain⟨_,o',Cp,Il⟩:=Z.ok.JP.mem A4;rw[q]at Cp;cases Cp;obtain⟨ajR,q2⟩:=un.slot b _ q1 (Z.base.free b o q n (J3 b)) (xv b A4) (no b);obtain⟨QO,Dk⟩:=CT b _ q2 Il;exact⟨QO,Dk⟩
 .intro b o q n _;obtain⟨o',Cp⟩:=Z.base.there b o q (J3 b);exact un.free b o' Cp (Z.base.free b o q n (J3 b)) (no b)
 .intro b o q _;by_cases A4:b∈Ew X.outer
  .obtain⟨_,o',Cp,_⟩:=Cn.2.2.1.mem A4;exact⟨o',Cp⟩
  .obtain⟨o',Cp⟩:=Z.base.there b o q (J3 b);obtain⟨EE,q2⟩:=aZ b o' Cp (OS b o q A4);exact⟨EE,Cn.1 b EE q2⟩
 .intro b ps q;obtain⟨GP,AA⟩:=Z.base.J9 b ps q;obtain⟨HR,AE⟩:=un.J9 b _ AA;exact⟨GP++HR,by rw[AE,gQ]⟩
 .exact λb o q n A4=>old b o (Z.base.keep b o q n A4 (J3 b)) (Z.base.free b o q n (J3 b)) (OS b o q A4)
 .intro b o q A4;obtain⟨o',Cp⟩:=Z.base.there b o q (J3 b);exact aZ b o' Cp (OS b o q A4)
end
def uW{K:Ap}{h:BF}{C:A7}{Vc:↑A8}{newId:String}(X:K.In h)(q:UY K C Vc newId=true) :
  ∃bm N nm q bs hdct sn sub ab col dd k0 k1 k2 k3 k5 mN,h.get? C=↥(excClassObj nm q C N bs bm hdct sn sub ab col dd k0 k1 k2 k3 k5 newId)/\h.Ns N mN/\mN "__init__"=none/\OwnTail h Vc bm:=by
 unfold UY at q
 split at q
 .rename_i dd cd C3 ho
  split at q
  .rename_i Lr bm k0 k1 k2 k3 n k5 hm AP;erw[ID,beq_iff_eq,Bool.not_eq_true']at q;obtain⟨⟨⟨⟨⟨rfl,rfl⟩,k_⟩,B9⟩,B0⟩,YS⟩:=q;obtain⟨nm,bs,mro,ns,qn,hd,sn,sub,ab,col,del⟩:=cd;dsimp only at hm k_ B0 YS;subst hm k_;have y3:C3= #[k0,k1,k2,k3,↥(.builtin n),k5]:=by
    obtain⟨l⟩:=C3;simp only at AP;rw[AP]
   subst y3;exact⟨bm,ns,nm,qn,bs,hd,sn,sub,ab,col,dd,k0,k1,k2,k3,k5,_,X _ _ ho,.of_isNs (PySem.W.isNs_of_in X B0),PySem.W.nsMap_none_of_in X B0 YS,PySem.W.tail_of_in X B9⟩
  .cases q
 .cases q
noncomputable def qh(X:Ar)(C:A7):F4:=λ_ σ H=>∀A3 s h' a vs,θ->Heap.MadeExcOf s.heap h' a (.ref C) vs->X.DC (.ref a) { s with heap:=h' }
section
variable{X:Ar}{x:Str}{np D5 pos JL:Pos}{C:A7}{Vc:↑A8}{B newId yS:String}{m:Str}{j:Nat}
def adj(FB:ExcBaseFacts B newId yS Vc)(q:UY X.K C Vc newId=true)(hm:X.mg x=↥(.ref C))(AJ:X.calm=true:=by rfl)(Ai:Eh X x:=by rfl)(hd:(x==("__debug__" :Str))=false:=by decide) :
  DX X (.Raise ↥(.Call (.Name x np) [.Constant (.str m) j JL] [] D5) none pos) (qh X C):=by
 intro A3 s σ H D Z h;obtain⟨bm,N,nm,qn,bs,hdct,sn,sub,ab,col,dd,k0,k1,k2,k3,k5,mN,JQ,hN,YS,hn⟩:=uW Z.mod.R3 q;refine wpAny_Raise_call_subT (mN:=mN) (C:=C) (nm:=nm) (q:=qn) (N:=N) (bs:=bs) (bm:=bm) (hdct:=hdct) (sn:=sn) (sub:=sub) (ab:=ab) (col:=col) (dd:=dd) (k0:=k0) (k1:=k1) (k2:=k2) (k3:=k3) (k5:=k5) FB (hn.hasType FB.hasBase) (Z.ok.hd AJ) rfl YS (WQ Z Ai hm ⟨rfl,?_⟩ hd);refine X7 (UV (Ba (m8 (X:=X) (x:=m) (j:=j) (pos:=JL) A3 s σ H (λ_ H1=>H1=H) Z rfl) λu s1⟨v,H1,Ad,Aw,AA⟩=>?_));subst AA;refine UP ⟨rfl,sB rfl,Ad.BN _ _ JQ,hN.keeps Ad.BN,hn.keeps Ad.BN,λh' a AF=>h A3 s1 h' a _ Ad AF⟩
def agS{P:C9}{w:Br}{K:Ap}{mg:Str->Option A8}{base:BF}{N:↑Str}{qual:Str}{scope:FE}{f:A7}{cd:A8}{A:D2}{outer:↑Env}{s0:AQ}{C0:AD}{E:Ev}{σ :St}{H:AD}{De:Ends}(h:∀a,H a=none->E (.ref C) ↥a H):qh (KQ (Im P w) P w K mg base N qual scope f cd A outer s0 C0 E) C De σ H:=λA3 s h' a vs Z AF=>
 Z.aaf (C:=.ref C) rfl rfl rfl Z.ok.frames AF λGL B KB CK=>⟨a,.ref C,GL,B,H,rfl,CK,h a CK.AG⟩
def ac_{P:C9}{w:Br}{K:Ap}{mg:Str->Option A8}{base:BF}{N:↑Str}{qual:Str}{scope:FE}{f:A7}{cd:A8}{A:D2}{outer:↑Env}{s0:AQ}{C0:AD}{E:Ev} :
  Passes (Im P w) (KQ (Im P w) P w K mg base N qual scope f cd A outer s0 C0 E) E:=λA3 σ H s e s' Z AF=>by
 obtain⟨a,C,GL,B,A9,rfl,CK,KX⟩:=AF;exact Z.aag (X:=KQ (Im P w) P w K mg base N qual scope f cd A outer s0 C0 E) rfl rfl rfl Z.ok.frames CK λKB xP=>⟨a,C,GL,B,A9,rfl,xP,KX⟩
end
abbrev uV(a:A7)(C:A8):F3:=.ext λh=>∃BI,h.get? a=↥BI/\BI.cls=C
section
variable{X:Ar}{A3:μ}{σ :St}{H A9:AD}{s s':AQ}{a:A7}{C GL:A8}{B:BF}{RK:BF}
def Sb.inv(f:Sb X.prog X.w X.stack H A9 s a C GL B s')(Z:θ)(st:B.StaysIn RK)(P4:RK.FunFrames B X.stack)(up:s'.heap.UpToSlots RK):Inv X A3 σ A9 { s' with heap:=RK }:=by
 have no:∀b:A7,b∉([]:↑A7):=λb z=>by cases z
 refine Z.iG (s':={ s' with heap:=RK }) (ch:=[]) f.os ⟨λb o q n A4 _=>st b o (f.old b o q n A4),λb o q n A4 _=>?_,f.un.free,λb o q _=>?_,f.un.JB,f.un.Ha,f.un.J9⟩ (f.B0.kept λb u q=>st b u q) f.bare (λb A4=>nomatch A4)
 .obtain⟨C3,q1⟩:=f.un.slot b o q n A4 (no b);obtain⟨_,o',Cp,Il⟩:=Z.stack.mem A4;rw[q]at Cp;cases Cp;obtain⟨QO,q2⟩:=up b _ q1 Il;exact⟨QO,q2⟩
 .by_cases A4:b∈Ew X.stack
  .obtain⟨_,o',Cp,_⟩:=P4.mem A4;exact⟨o',Cp⟩
  .obtain⟨o',Cp⟩:=f.aZ b o q A4;exact⟨o',st b o' Cp⟩
end
def cB(X:Ar)(e:Aq)(t:TE)(E:Ev):Prop:=∀(A3:μ)(s:AQ)(σ :St)(H:AD)(Q:CY),θ->t σ H Q->
 An ξ X.A (Bc e X.env) (H6 X A3 σ Q) (λx s'=>∃H1 s1,Inv X A3 σ H1 s1/\Im X.prog X.w X.stack H1 s1 E x s') s
section
variable{X:Ar}{k:Nat}{f C:A7}{fd:Hv}{ps:↑Str}{sp:CH}{E:Ev}{x:Str}{p pos:Pos}{e:Aq}{es:↑Aq}{t:Fb}
end
abbrev Ar.marked(X:Ar)(a:A7):Ar:={ X with A:=X.A.mark ↥(.ref a),calm:=false,DC:=λ_ _=>False }
section
variable{X:Ar}{A3:μ}{σ :St}{H A9:AD}{s s':AQ}{a:A7}
theorem Ar.Ok.marked(ok:X.Ok)(a:A7):(X.marked a).Ok:=
 ⟨ok.mod,ok.kind,ok.glob,ok.blt,ok.above,ok.inj,ok.has,ok.SX,(λz=>Bool.noConfusion z),ok.frames,ok.WM,ok.cf,ok.bs,ok.Nf,ok.UC,ok.Vs,ok.JP,ok.P6⟩
theorem Inv.marked(Z:θ)(a:A7):Inv (X.marked a) A3 σ H s:=⟨Z.ok.marked a,Z.os,Z.bare,Z.base,Z.loc,Z.cell,Z.free,Z.KV,Z.pin,Z.B0,Z.len⟩
def Inv.unmarked(ok:X.Ok)(Z:Inv (X.marked a) A3 σ H s):θ:=⟨ok,Z.os,Z.bare,Z.base,Z.loc,Z.cell,Z.free,Z.KV,Z.pin,Z.B0,Z.len⟩
end
section
variable{X:Ar}{i:Nat}{x n:Str}{W:A7}{e:Aq}{te:TE}{E:Ev}{SR:BE}{To:↑BE}{ts:F4}{UG np AT pos:Pos}
end
section
variable{prog:C9}{w:Br}{A:D2}{E:A8->AQ->Prop}{s:AQ}
def abZ{it t:A7}{i:Nat}{items:Array A8}{x:A8}{Q:A8->AQ->Prop}(hit:s.heap.IsTupleIter it t i)(B9:s.heap.IsTuple t items)(AF:items[i]?=↥x)(HD:∀h',h'.IsTupleIter it t (i+1)->Kz it s.heap h'->Q x { s with heap:=h' }):An Φ A (S9 (.ref it)) Q E s:=by
 obtain⟨o,ho,AJ,hd⟩:=id hit;obtain⟨ol,Sv,_,nl,Ta⟩:=B9;unfold S9
 refine Ag (SA (name:=SJ "__next__") hit.typeIs Wy
  (PF Wy hit.typeIs rn ?_ (rx _)))
 show An _ _ (field (.ref it) 0>>=_) _ _ s;refine Ag (MM ho hd (x:=.ref t) rfl ?_);show An _ _ (if(Cq t==KL)=true then _ else _) _ _ s;rw[if_neg (show¬((Cq t==KL)=true)from Kv)];show An _ _ (field (.ref it) 1>>=_) _ _ s;refine Ag (MM ho hd (x:=.int i 0) rfl ?_);show An _ _ (seqItems? (.ref t)>>=_) _ _ s;refine Ag (PC Sv Ta ?_);erw[Qe,AF];refine Ag (Xd ho hd γ (Bh ⟨x,rfl,Bh (HD _ ?_ (S5 ..))⟩));exact⟨_,X4 _ ho (sC (X9 hd _)),(Obj.cls_mapFields ..).trans AJ,by
  rw[X9 hd];simp[N4]⟩
def acO{it t:A7}{i:Nat}{items:Array A8}{Q:A8->AQ->Prop}(hh:A.handled=none)(hit:s.heap.IsTupleIter it t i)(B9:s.heap.IsTuple t items)(AF:items[i]?=none)(KX:∀h' e,Heap.ExtBut it s.heap h'->(∃o,h'.get? e=↥o/\o.cls=.type "StopIteration")->E (.ref e) { s with heap:=h' }):An Φ A (S9 (.ref it)) Q E s:=by
 obtain⟨o,ho,AJ,hd⟩:=id hit;obtain⟨ol,Sv,_,nl,Ta⟩:=B9;unfold S9
 refine Ag (SA (name:=SJ "__next__") hit.typeIs Wy
  (PF Wy hit.typeIs rn ?_ (rx _)))
 show An _ _ (field (.ref it) 0>>=_) _ _ s;refine Ag (MM ho hd (x:=.ref t) rfl ?_);show An _ _ (if(Cq t==KL)=true then _ else _) _ _ s;rw[if_neg (show¬((Cq t==KL)=true)from Kv)];show An _ _ (field (.ref it) 1>>=_) _ _ s;refine Ag (MM ho hd (x:=.int i 0) rfl ?_);show An _ _ (seqItems? (.ref t)>>=_) _ _ s;refine Ag (PC Sv Ta ?_);erw[Qe,AF];refine Ag (wpAny_rule (Ag (Xd ho hd γ ?_)));show An _ _ (newExc (.type "StopIteration") []>>=_) _ _ _;refine Ag ?_;erw[newExc,newTuple];refine Ag (MJ ?_ (by size_fits));refine Ag (m:=Xe _ _) (wpAny_of_eq (a:=KL) (by first|rfl|(erw[Xe];rfl)) ?_);refine MJ ?_ (by size_fits);erw[raiseNew];refine Ag (wpAny_handled ?_)
 first|rw[show A.in1.handled=none from hh]|rw[hh]
 refine Ag (Bh (wpAny_throw ?_));exact KX _ _ (((S5 ..).extBut.push _).push _) ⟨_,Fx _ rfl,rfl⟩
def vV(hh:A.handled=none)(it l:A7)(Jy:l≠it)(items:Array A8) :
  Draws prog w A it [it,l] items.size (λi v=>items[i]?=↥v) (λi h=>h.IsTupleIter it l i/\h.IsTuple l items) where
 live:=λ_ _ st=>let⟨o,ho,_⟩:=st.1;⟨o,ho⟩
 frame:=λ_ _ _ st AN=>⟨st.1.at λo e=>AN it γ o e,st.2.at λo e=>AN l γ o e⟩
 item:=λi s Q E hi st HD=>by refine abZ st.1 st.2 (x:=items[i]) (by simp[hi]) λh' YN NG=>?_;exact HD _ h' s.toks (by simp[hi]) ⟨YN,st.2.extBut NG.extBut Jy⟩ NG
 done:=λs Q E st KX=>acO hh st.1 st.2 γ KX
end
def Inv.Vx{X:Ar}{A3:μ}{σ :St}{H:AD}{s:AQ}{h':BF}{t':Nat}{ch:↑A7}(Z:θ)(k:∀b o,b∉ch->s.heap.get? b=↥o->h'.get? b=↥o)(hf:∀b∈ch,Km X A3 H b):Inv X A3 σ H { s with heap:=h',toks:=t' }:=by
 have Q3:∀b u,H b=↥u->b∉ch:=λb u e z=>by rw[(hf b z).1]at e;cases e
 refine Z.step (g':=s.gens) (d':=s.drawn) (ch:=ch) (λb A4=>?_) (λb o _ _ AJ e _=>k b o AJ e) (λb o _ _ AJ e _=>⟨o.slots,k b o AJ e⟩) (λ_ _ _ _ n=>n)
  (λb o AJ e=>⟨o,k b o AJ e⟩) (λ_ _ e=>e) (λ_ _ _ e=>e) (λb ps e=>⟨#[],by rw[e];simp⟩) (λm hm=>?_) (λb u e=>?_) Z.bare
 .obtain⟨_,f1,_,E9,f4,G9⟩:=hf b A4;exact⟨E9,f1,f4,G9⟩
 .obtain⟨o,es,BA,ho,r⟩:=hm;exact⟨o,es,BA,k _ o (λz=>(hf _ z).2.1 rfl) ho,r⟩
 .refine(Z.B0 b u e).N_ (λc v AJ q=>k c v ?_ q) (λ_ q=>q) λ_ _ q=>q;rcases AJ with z|z
  .rw[z];exact Q3 b u e
  .exact Q3 c _ z
def Inv.g7{X:Ar}{A3:μ}{σ :St}{H:AD}{s:AQ}{h':BF}{t':Nat}{ch:↑A7}{T:A7}{xs:↑V}{its:↑A8}(Z:θ)(k:∀b o,b∉ch->s.heap.get? b=↥o->h'.get? b=↥o)(hf:∀b∈ch,Km X A3 H b)(DO:s.heap.objs.size<=T)(B9:XR h' T its.toArray)(Bw:Vals xs its)(hz:⇑xs<=CW):Inv X A3 σ (upd H T (.tup xs)) { s with heap:=h',toks:=t' }:=by
 have Q3:∀b u,H b=↥u->b∉ch:=λb u e z=>by rw[(hf b z).1]at e;cases e
 have AZ:H T=none:=Z.B0.fresh DO;have neT:∀b o,s.heap.get? b=↥o->b≠T:=λb o e=>F0 (GH (E3 e) DO)
 refine Z.step (g':=s.gens) (d':=s.drawn) (ch:=ch) (λb A4=>?_) (λb o _ _ AJ e _=>k b o AJ e) (λb o _ _ AJ e _=>⟨o.slots,k b o AJ e⟩) (λb o _ e n=>by rw[DK (neT b o e)];exact n)
  (λb o AJ e=>⟨o,k b o AJ e⟩) (λb ys e=>by rw[DK (LD e AZ)];exact e) (λb _ _ e=>by rw[DK (LD e AZ)];exact e) (λb ps e=>⟨#[],by rw[DK (LD e AZ),e];simp⟩) (λm hm=>?_) (λb u e=>?_) Z.bare
 .obtain⟨_,f1,_,E9,f4,G9⟩:=hf b A4;exact⟨E9,f1,f4,G9⟩
 .obtain⟨o,es,BA,ho,r⟩:=hm;exact⟨o,es,BA,k _ o (λz=>(hf _ z).2.1 rfl) ho,r⟩
 .by_cases A4:b=T
  .subst A4;rw[EM]at e;cases e;exact⟨hz,its,Bw,B9⟩
  .rw[DK A4]at e;refine(Z.B0 b u e).N_ (λc v AJ q=>k c v ?_ q) (λc q=>by rw[DK (LD q AZ)];exact q) λc ys q=>by rw[DK (LD q AZ)];exact q
   rcases AJ with z|z
   .rw[z];exact Q3 b u e
   .exact Q3 c _ z
noncomputable def c3(x:Str):It:=⟨λi _=>i<x.cps.size,λi H v A9=>A9=H/\∃c,x.cps[i]?=↥c/\v=.str ⟨#[c]⟩,λi _=>i=x.cps.size⟩
def r1{prog:C9}{w:Br}{A:D2}(hh:A.handled=none)(Z:A7)(x:Str)(t:Tok):Walks prog w A Z [Z] [Z] x.cps.size (SignAt x) (λi h=>h.IsStrIter Z (KJ x) x t i):=by
 unfold KJ;cases AG:x.cps.all (· <128)
 .rw[if_neg Kv];exact Walks.strWide hh Z x t
 .rw[if_pos rfl];exact Walks.strAscii hh Z x t
def vU{prog:C9}{w:Br}{A:D2}(hh:A.handled=none)(Z:A7)(x:Str)(t:Tok):Draws prog w A Z [Z] x.cps.size (λi v=>∃c u,x.cps[i]?=↥c/\v=.str ⟨#[c]⟩ u) (λi h=>h.IsStrIter Z (KJ x) x t i):=by
 unfold KJ;cases AG:x.cps.all (· <128)
 .rw[if_neg Kv];exact Draws.strWide hh Z x t
 .rw[if_pos rfl];exact Draws.strAscii hh Z x t
def aea(x:Str):["enumerate","zip","dict_itemiterator","dict_reverseitemiterator","odict_iterator","itertools.zip_longest","itertools.pairwise"].contains (KJ x)=false:=by
 unfold KJ
 split<;>decide
def agP{P:C9}{w:Br}{K:Ap}{CB:Aq}(it:A7)(x:Str)(t:Tok):Turn P w K CB (c3 x) [it] it (λi h=>h.IsStrIter it (KJ x) x t i) where
 mem:=γ
 obj:=λi h st b A4=>by
  have e:b=it:=(A4:)
  subst e;obtain⟨o,e,c,d⟩:=st;exact⟨o,e,λv z=>by rw[d]at z;cases z⟩
 keep:=λi h h' st k=>by obtain⟨o,e,r⟩:=st;exact⟨o,k it γ o e,r⟩
 item:=by nofun;have W:=r1 (prog:=X.prog) (w:=X.w) (A:=X.A) (Z.ok.hd AJ) it x t;refine W.item i s _ _ Ai st λv h' DW CG H0 FT=>?_;obtain⟨c,u,Mc,rfl⟩:=CG;have Ad:Inv X A3 σ H { s with heap:=h',toks:=DW }:=Z.Vx (ch:=[it]) FT hf;obtain⟨o,e,Bm,d1⟩:=id H0;exact⟨_,rfl,TX (s:={ s with heap:=h',toks:=DW }) e Bm d1 (aea x) ⟨.str ⟨#[c]⟩,H,Ad,⟨u,rfl⟩,⟨rfl,c,Mc,rfl⟩,H0,λb A4=>(hf b A4).1⟩⟩
 done:=by nofun;have W:=r1 (prog:=X.prog) (w:=X.w) (A:=X.A) (Z.ok.hd AJ) it x t;have hi:i=x.cps.size:=Ai;subst hi;exact W.done s _ _ st λh' DW FT=>⟨rfl,Z.Vx (ch:=[it]) FT hf⟩
 self:=λA i s Q E st h=>by
  unfold KJ at st;cases AG:x.cps.all (· <128)
  .rw[AG,if_neg Kv]at st;exact wpAny_pyIter_striter_wide st h
  .rw[AG,if_pos rfl]at st;exact wpAny_pyIter_striter_ascii st h
section
variable{X:Ar}{CB:Aq}
end
def bz(K:Ap)(l:A7):It:=⟨λi H=>∃xs x,Eu K H l xs/\xs[i]?=↥x,λi H v A9=>∃p x,H p=none/\A9=upd H p (.tup [.int (i:Int),x])/\v=.ref p/\∀xs,Eu K H l xs->xs[i]?=↥x,λi H=>∃xs,Eu K H l xs/\ ⇑xs=i⟩
def agK{P:C9}{w:Br}{K:Ap}{elts:↑Aq}{FT:Nat}{pos:Pos}(e it l:A7)(ka:e≠it) :
  Turn P w K (.Tuple elts FT pos) (bz K l) [e,it] e (λi h=>(∃old,IsEnum h e it i old)/\h.IsListIter it l i) where
 mem:=γ
 obj:=λi h st b A4=>by
  obtain⟨⟨old,he⟩,o,AA,c,d⟩:=st;rcases List.mem_cons.mp A4 with z|z
  .subst z;exact⟨_,he,λv z=>by have F_:Xh _=SO v:=z;cases F_⟩
  .have z:b=it:=by simpa using z
   subst z;exact⟨o,AA,λv z=>by rw[d]at z;cases z⟩
 keep:=λi h h' st k=>by obtain⟨⟨old,he⟩,hit⟩:=st;exact⟨⟨old,k e γ _ he⟩,hit.at λo x=>k it γ o x⟩
 item:=by
  nofun;obtain⟨xs,x,Aa,AF⟩:=Ai;obtain⟨its,Bw,pl,hz⟩:=Z.list Aa;obtain⟨⟨old,he⟩,hit⟩:=st;have HQ:=pl.isList;have hle:l≠e:=λz=>by subst z;obtain⟨o,ho,Jx,_⟩:=HQ;rw[he]at ho;cases ho;have Jx:Nz "enumerate"=Nz "list":=Jx;injection Jx with Jx;exact absurd Jx ε
  have Su:l≠it:=λz=>by subst z;obtain⟨o,ho,Jx,_⟩:=HQ;obtain⟨o',IS,P9,_⟩:=hit;rw[IS]at ho;cases ho;rw[Jx]at P9;injection P9 with P9;exact absurd P9 ε
  have W:=WalksT.enumerate (prog:=X.prog) (w:=X.w) (A:=X.A) (Z.ok.hd AJ) e it l ka hle Su its.toArray;have hlen:=⇑Bw;have kf:i< ⇑xs:=(List.getElem?_eq_some_iff.mp AF).1;refine W.item i s _ _ (by rw[D_,<-hlen];exact kf) ⟨⟨old,he⟩,hit,HQ⟩ λT vals h' DW Db DO x7 RL AN=>?_;obtain⟨t,u,BQ,rfl⟩:=Db;obtain⟨Jd,eB,FJ⟩:=Bw.get AF;have HC:Jd=u:=by rw[sD]at BQ;rw[eB]at BQ;exact Fy BQ
  subst HC;refine⟨_,rfl,?_⟩;refine W.go elts FT pos i T { s with heap:=h',toks:=DW } _ _ RL λh2 MB Tc=>?_;have jQ:T∉[e,it]:=W.apart i T h' RL;have keep:∀b o,b∉[e,it]->s.heap.get? b=↥o->h2.get? b=↥o:=λb o A4 q=>Tc b o A4 (AN b o A4 q);have VP:XR h2 T (#[.int i t,Jd]:Array A8):=by obtain⟨o,ho,r⟩:=x7;exact⟨o,Tc T o jQ ho,r⟩
  have AZ:H T=none:=Z.B0.fresh DO;have Bj:Inv X A3 σ (upd H T (.tup [.int (i:Int),x])) { s with heap:=h2,toks:=DW }:=Z.g7 (its:=[.int i t,Jd]) (ch:=[e,it]) keep hf DO VP (.cons ⟨t,rfl⟩ (.cons FJ .nil)) (by show 2<=CW;decide);refine⟨.ref T,upd H T (.tup [.int (i:Int),x]),Bj,rfl,⟨T,x,AZ,rfl,rfl,λys AX=>by rw[Z.di AX Aa];exact AF⟩,⟨MB.1,MB.2.1⟩,λb A4=>?_⟩;have nb:b≠T:=λz=>jQ (z▸A4);rw[DK nb];exact(hf b A4).1
 done:=by
  nofun;obtain⟨xs,Aa,AF⟩:=Ai;obtain⟨its,Bw,pl,hz⟩:=Z.list Aa;obtain⟨⟨old,he⟩,hit⟩:=st;have HQ:=pl.isList;have hle:l≠e:=λz=>by subst z;obtain⟨o,ho,Jx,_⟩:=HQ;rw[he]at ho;cases ho;have Jx:Nz "enumerate"=Nz "list":=Jx;injection Jx with Jx;exact absurd Jx ε
  have Su:l≠it:=λz=>by subst z;obtain⟨o,ho,Jx,_⟩:=HQ;obtain⟨o',IS,P9,_⟩:=hit;rw[IS]at ho;cases ho;rw[Jx]at P9;injection P9 with P9;exact absurd P9 ε
  have W:=WalksT.enumerate (prog:=X.prog) (w:=X.w) (A:=X.A) (Z.ok.hd AJ) e it l ka hle Su its.toArray;have El:i=its.toArray.size:=by rw[D_,<- ⇑Bw];exact AF.symm
  subst El;exact W.done s _ _ ⟨⟨old,he⟩,hit,HQ⟩ λh' DW FT=>⟨rfl,Z.Vx (ch:=[e,it]) FT hf⟩
 self:=λA i s Q E st h=>by obtain⟨⟨old,he⟩,_⟩:=st;exact wpAny_pyIter_enum he h
section
variable{X:Ar}{elts:↑Aq}{FT:Nat}{Na:Pos}
def z6(K:Ap)(BW:Fb):TI:=λσ H R=>BW σ H λvs H1=>∃l,vs=[.ref l]/\(∃xs,Eu K H1 l xs)/\R (bz K l) H1
def acW{a:Aq}{BW:Fb}{p pos:Pos}(Ai:Eh X "enumerate")(hm:X.mg "enumerate"=none)(AG:H9 X [a] BW)(AP:CM [a] X.env=[(false,Bc a X.env)]:=by rfl):He X (.Tuple elts FT Na) (.Call (.Name "enumerate" p) [a] [] pos) (z6 X.K BW):=by
 have A4:O1 "enumerate"=↥(.type "enumerate"):=by kernel_rfl
 intro A3 s σ H R Z h;refine sY (O_ Z Ai hm A4 (Qa (Ba (AG pos A3 s σ H _ Z h) λus s1⟨vs,H1,Ad,Aw,q1⟩=>?_) AP rfl));obtain⟨l,e,⟨xs,Aa⟩,q⟩:=q1;subst e;obtain⟨u,rfl,FJ⟩:=vals1 Aw;cases FJ;obtain⟨its,Bw,pl,hz⟩:=Ad.list Aa;refine call_enumerate_list pl.isList λh' he hit hsz AN=>?_;have Bj:Inv X A3 σ H1 { s1 with heap:=h' }:=Ad.kept (t':=s1.toks) AN;refine wpAny_pyIter_enum he ?_;refine⟨s1.heap.objs.size+1,[s1.heap.objs.size+1,s1.heap.objs.size],_,_,H1,rfl,Bj,agK _ _ l (Nat.succ_ne_self _),⟨⟨_,he⟩,hit⟩,λb A4=>?_,q⟩;have A4:b=s1.heap.objs.size+1\/b=s1.heap.objs.size:=(A4:)
 rcases A4 with z|z
 .subst z;exact Ad.Ma (Uf _) (Ad.B0.fresh (Uf _))
 .subst z;exact Ad.Ma (C5 _) (Ad.B0.fresh (C5 _))
end
abbrev ao(h:BF)(x:Str)(t:Tok):BF:=h.push { cls:=.type (KJ x),data:=.fields #[.str x t,.int 0 0] }
abbrev aG(h:BF)(x:Str)(t:Tok)(l:A7):BF:=(ao h x t).push { cls:=.type "tuple_iterator",data:=.fields #[.ref l,.int 0 0] }
abbrev aH(h:BF)(x:Str)(t:Tok)(l:A7):BF:=(aG h x t l).push { cls:=.type "tuple",data:=.seq #[.ref h.objs.size,.ref (ao h x t).objs.size] }
abbrev aI(h:BF)(x:Str)(t:Tok)(l:A7):BF:=(aH h x t l).push { cls:=.type "tuple",data:=.seq #[.none,.none] }
abbrev Rj(h:BF)(x:Str)(t:Tok)(l:A7):BF:=(aI h x t l).push { cls:=.type "zip",data:=.fields #[.none,.bool false,.bool false,.ref (aG h x t l).objs.size,.ref (aH h x t l).objs.size] }
set_option maxHeartbeats 4000000 in
def aa_(x:Str)(t:Tok)(Cm:A7)(ys:Array A8) :
  Meets (Builtin.«zip.__new__» ⟨[.type "zip",.str x t,.ref Cm],[]⟩) (λ_ R s=>s.heap.IsTuple Cm ys/\R (.ok (.ret (.ref (aI s.heap x t Cm).objs.size))) { s with heap:=Rj s.heap x t Cm }):=
 .of_wp λprog w A R s h=>by
   obtain⟨AT,g,d,DW,os⟩:=s;obtain⟨Td,h⟩:=h;have Pq:=sub_zip;have x1:Heap.IsTuple (Shared.heap ⟨AT.push { cls:=.type (KJ x),data:=.fields #[.str x t,.int 0 0] },g,d,DW,os⟩) Cm ys:=Heap.IsTuple.push Td _
   wp_walk using wpAny_pyIter_strU,wpAny_pyIter_tuple x1
   exact⟨_,rfl,h⟩
theorem u5 {prog:C9} {w:Br} {A:D2} {E:A8->AQ->Prop} {s:AQ} {x:Str} {t:Tok} {Cm:A7} {ys:Array A8} {Q:A8->AQ->Prop} (Td:s.heap.IsTuple Cm ys)(h:∀h',IsZip h' (s.heap.objs.size+4) (s.heap.objs.size+2) (s.heap.objs.size+3) .none->N5 h' (s.heap.objs.size+2) (.ref s.heap.objs.size) (.ref (s.heap.objs.size+1))->
    N5 h' (s.heap.objs.size+3) .none .none->h'.IsStrIter s.heap.objs.size (KJ x) x t 0->h'.IsTupleIter (s.heap.objs.size+1) Cm 0->h'.objs.size=s.heap.objs.size+5->
    (∀c o,s.heap.get? c=↥o->h'.get? c=↥o)->Q (.ref (s.heap.objs.size+4)) { s with heap:=h' }) :
  An Φ A (call (.type "zip") [.str x t,.ref Cm]) Q E s:=by
 refine callType_new F.called_zip ε (F.typeCall_zip_2 _ _) (F.newCall_zip_2 _ _) (λobj=>F.args_object_init_3 obj _ _) F.entry_zip_new (aa_ x t Cm ys) ⟨Td,?_⟩;have Ff:(ao s.heap x t).objs.size=s.heap.objs.size+1:=Lb ..;have Ez:(aG s.heap x t Cm).objs.size=s.heap.objs.size+2:=by rw[Lb,Ff]
 have Wv:(aH s.heap x t Cm).objs.size=s.heap.objs.size+3:=by rw[Lb,Ez]
 have Ww:(aI s.heap x t Cm).objs.size=s.heap.objs.size+4:=by rw[Lb,Wv]
 have fm:(Rj s.heap x t Cm).objs.size=s.heap.objs.size+5:=by rw[Lb,Ww]
 have Lh:(Rj s.heap x t Cm).get? (aI s.heap x t Cm).objs.size=↥_:=Fx _ rfl;have g4:(Rj s.heap x t Cm).get? (aH s.heap x t Cm).objs.size=↥_:=DU _ (Fx _ rfl);have g3:(Rj s.heap x t Cm).get? (aG s.heap x t Cm).objs.size=↥_:=DU _ (DU _ (Fx _ rfl));have g2:(Rj s.heap x t Cm).get? (ao s.heap x t).objs.size=↥_:=DU _ (DU _ (DU _ (Fx _ rfl)));have g1:(Rj s.heap x t Cm).get? s.heap.objs.size=↥_:=DU _ (DU _ (DU _ (DU _ (Fx _ rfl))));show _/\_;rw[Ez,Wv,Ww]at Lh;rw[Ff,Ez]at g3;rw[Wv]at g4;rw[Ff]at g2;rw[Ww];exact⟨⟨_,Lh,rfl⟩,h _ Lh g3 g4 ⟨_,g1,rfl,rfl⟩ ⟨_,g2,rfl,rfl⟩ fm λc o x=>
  DU _ (DU _ (DU _ (DU _ (DU _ x))))⟩
def hS(K:Ap)(x:Str)(l:A7):It:=⟨λi H=>i<x.cps.size/\∃ys y,Ek K H l ys/\ys[i]?=↥y,
 λi H v A9=>∃p c y,x.cps[i]?=↥c/\H p=none/\A9=upd H p (.tup [.str ⟨#[c]⟩,y])/\v=.ref p/\∀ys,Ek K H l ys->ys[i]?=↥y,
 λi H=>∃ys,Ek K H l ys/\i=min x.cps.size ⇑ys⟩
section
variable{prog:C9}{w:Br}{A:D2}{E:A8->AQ->Prop}{s:AQ}
def na{n a b:Nat}(h:a≠b):n+a≠n+b:=λe=>h (Nat.add_left_cancel e)
def S1{n a:Nat}:n≠n+(a+1):=F0 (Nat.lt_add_of_pos_right (Nat.succ_pos a))
def r7{n b:Nat}(h:b∈[n,n+1,n+3,n+4]):b∈[n,n+1,n+2,n+3,n+4]:=by erw[Ix]at h |-;rcases h with h|h|h|h|h<;>simp[h]
def bV(h:BF)(n:A7)(f0:A8)(x:Str)(t:Tok)(l:A7)(i:Nat):Prop:=IsZip h (n+4) (n+2) (n+3) f0/\N5 h (n+2) ST (.ref (n+1))/\(∃a b,N5 h (n+3) a b)/\h.IsStrIter n (KJ x) x t i/\h.IsTupleIter (n+1) l i
theorem ly {n l:A7} {x:Str} {t:Tok} {i:Nat} {ys:Array A8} {Q:Option A8->AQ->Prop} (hh:A.in1.handled=none) (ln:l<n) (B9:s.heap.IsTuple l ys) (st:bV s.heap n .none x t l i) (CZ:i<=x.cps.size) (Fk:i<=ys.size)(HD:∀c y u h' DW,x.cps[i]?=↥c->ys[i]?=↥y->bV h' n (N4 s.heap.objs.size) x t l (i+1)->N5 h' s.heap.objs.size (.str ⟨#[c]⟩ u) y->
    (∀b o,b∉[n,n+1,n+3,n+4]->s.heap.get? b=↥o->h'.get? b=↥o)->Q ↥(.ref s.heap.objs.size) { s with heap:=h',toks:=DW })
  (KX:i=x.cps.size\/i=ys.size->∀h' DW,(∀b o,b∉[n,n+1,n+3,n+4]->s.heap.get? b=↥o->h'.get? b=↥o)->Q none { s with heap:=h',toks:=DW }) :
  An Φ A (O5 (.ref (n+4))) Q E s:=by
 obtain⟨hz,T_,⟨a,b,VF⟩,h1,h2⟩:=st;have YL:=vU (prog:=prog) (w:=w) (A:=A.in1) hh n x t;have YM:=vV (prog:=prog) (w:=w) (A:=A.in1) hh (n+1) l (F0 (SE ln)) ys;have FH:∀{b:A7},b∉[n,n+1,n+3,n+4]->b≠n/\b≠n+1/\b≠n+3/\b≠n+4:=λh=>(h:)
 have f1:∀{b:Nat}{h h':BF}{i:Nat},Kz (n+(b+1)) h h'->h.IsStrIter n (KJ x) x t i->h'.IsStrIter n (KJ x) x t i:=λAP st=>YL.frame _ _ _ st λc AJ o e=>AP.extBut c o (by rw[List.mem_singleton.mp AJ];exact S1) e;have f2:∀{b:A7}{h h':BF}{i:Nat},Kz b h h'->n+1≠b->n<=b->h.IsTupleIter (n+1) l i/\h.IsTuple l ys->h'.IsTupleIter (n+1) l i/\h'.IsTuple l ys:=λAP FH nb st=>YM.frame _ _ _ st λc AJ o e=>AP.extBut c o (by
  rcases List.mem_cons.mp AJ with rfl|AJ
  .exact FH
  .rw[List.mem_singleton.mp AJ];exact F0 (GH ln nb)) e
 have DO:s.TypeIs (.ref (n+4)) "zip":=⟨_,hz,rfl⟩;unfold O5
 have fin:∀h' e DW,(∀b o,b∉[n,n+1,n+3,n+4]->s.heap.get? b=↥o->h'.get? b=↥o)->(i=x.cps.size\/i=ys.size)->(∃o,h'.get? e=↥o/\o.cls=.type "StopIteration")->An Φ A (do
   if<-isInstance (.ref e) (.type "StopIteration")then pure none else throw (.ref e)) Q E { s with heap:=h',toks:=DW }:=λh' e DW AN he⟨o,ho,AJ⟩=>Ag (wpAny_isInstance (T:="StopIteration") (b:=true) ⟨o,ho,AJ⟩ isSubtype_stop (Bh (KX he h' DW AN)))
 refine Ag (wpAny_attempt (SA (name:=SJ "__next__") DO F.slot_zip_next (PF F.slot_zip_next DO F.entry_zip_next ?_ (F.args_zip_next_1 _))));show An _ _ (field (.ref (n+4)) 2>>=_) _ _ _;refine Ag (MM hz rfl (x:=.bool false) rfl ?_);show An _ _ (field (.ref (n+4)) 3>>=_) _ _ _;refine Ag (MM hz rfl (x:=.ref (n+2)) rfl ?_);refine Ag (PC T_ rfl ?_);show An _ _ (rl (.ref (n+4))>>=_) _ _ _;refine Ag ?_;unfold rl;refine Ag (MM hz rfl (x:=.none) rfl (Bh ?_));erw[if_true];refine Ag (wpAny_rule ?_);refine Ag (MM hz rfl (x:=.ref (n+3)) rfl ?_);refine Ag (UM hz γ λNH Zx RT=>?_);replace Zx:IsZip NH (n+4) (n+2) (n+3) .ellipsis:=Zx;refine Ag ?_;erw[List.zipIdx_cons,List.zipIdx_nil,List.forIn_cons,List.forIn_nil];refine Ag (Ag (wpAny_onRaise ?_));show An _ _ (S9 ST>>=_) _ _ _;have pz:=f1 RT h1;by_cases D0:i<x.cps.size
 .refine Ag (YL.item i _ _ _ D0 pz λv OV ajV AF aec OT=>Bh ?_);obtain⟨c,u,AF,rfl⟩:=AF;have j1:N5 OV (n+3) a b:=OT.extBut _ _ S1.symm (RT.extBut _ _ (na ε) VF);refine Ag (PC j1 rfl ?_);refine Ag (wpAny_updateSeq_pair j1 λOW ct OU=>?_);replace ct:N5 OW (n+3) (.str ⟨#[c]⟩ u) b:=ct;refine Ag (wpAny_letGo (Bh ?_));refine Ag (Ag (wpAny_onRaise ?_));show An _ _ (S9 (.ref (n+1))>>=_) _ _ _;have r2:=f2 OU (na ε) (PH _ _) (f2 OT S1.symm (C5 _) (f2 RT (na ε) (PH _ _) ⟨h2,B9⟩));have jw:IsZip OW (n+4) (n+2) (n+3) .ellipsis:=OU.extBut _ _ (na ε) (OT.extBut _ _ S1.symm Zx);by_cases Cm:i<ys.size
  .refine Ag (YM.item i _ _ _ Cm r2 λy Sz ajW AX af3 Pr=>Bh ?_);have j2:N5 Sz (n+3) (.str ⟨#[c]⟩ u) b:=Pr.extBut _ _ (na ε) ct;refine Ag (PC j2 rfl ?_);refine Ag (wpAny_updateSeq_pair j2 λIk Yo Ps=>?_);replace Yo:N5 Ik (n+3) (.str ⟨#[c]⟩ u) y:=Yo;refine Ag (wpAny_letGo (Bh (Bh ?_)));refine Ag (PC Yo rfl ?_);refine Ag (wpAny_newTuple ?_);have hsz:Ik.objs.size=s.heap.objs.size:=by rw[Ps.1,Pr.1,OU.1,OT.1,RT.1]
   have jy:IsZip Ik (n+4) (n+2) (n+3) .ellipsis:=Ps.extBut _ _ (na ε) (Pr.extBut _ _ (na ε) jw);have kh:∀b o,b∉[n,n+1,n+3,n+4]->s.heap.get? b=↥o->Ik.get? b=↥o:=λb o A4 e=>
    let⟨Bm,Cc,FF,M3⟩:=FH A4
    Ps.extBut _ _ FF (Pr.extBut _ _ Cc (OU.extBut _ _ FF (OT.extBut _ _ Bm (RT.extBut _ _ M3 e))))
   have kq:n+4<Ik.objs.size:=E3 jy;show An _ _ (rm (.ref (n+4)) (.ref Ik.objs.size)>>=_) _ _ _;refine Ag ?_;unfold rm;have xg:IsZip (Ik.push { cls:=.type "tuple",data:=.seq #[.str ⟨#[c]⟩ u,y] }) (n+4) (n+2) (n+3) .ellipsis:=DU _ jy;refine Ag (UM xg γ λy5 eE kn=>?_);replace eE:IsZip y5 (n+4) (n+2) (n+3) (N4 Ik.objs.size):=eE;refine UM eE γ λZz Zy ko=>?_;replace Zy:IsZip Zz (n+4) (n+2) (n+3) (N4 Ik.objs.size):=Zy;have up:∀c o,c≠n+4->Ik.get? c=↥o->Zz.get? c=↥o:=λc o Bm e=>ko.extBut _ _ Bm (kn.extBut _ _ Bm (DU _ e));have kS:N5 Zz Ik.objs.size (.str ⟨#[c]⟩ u) y:=ko.extBut _ _ (Qh kq) (kn.extBut _ _ (Qh kq) (Fx _ rfl));refine Bh ⟨_,rfl,?_⟩;rw[hsz]at Zy kS |-;refine Bh (HD c y u Zz _ AF AX ⟨Zy,up _ _ (na ε) (kh _ _ γ T_),⟨_,_,up _ _ (na ε) Yo⟩,?_,?_⟩ kS λb o A4 e=>up b o (FH A4).2.2.2 (kh b o A4 e))
   .exact YL.frame _ _ _ (f1 Ps (f1 Pr (f1 OU aec))) λc AJ o e=>up c o (by rw[List.mem_singleton.mp AJ];exact S1) e
   .exact(YM.frame _ _ _ (f2 Ps (na ε) (PH _ _) af3) λc AJ o e=>up c o (by
      rcases List.mem_cons.mp AJ with rfl|AJ
      .exact na ε
      .rw[List.mem_singleton.mp AJ];exact F0 (GH ln (PH _ _))) e).1
  .obtain rfl:i=ys.size:=δ
   refine Ag (YM.done _ _ _ r2 λSz e Pr he=>?_);obtain⟨fD,RQ,VJ⟩:=he;have jx:IsZip Sz (n+4) (n+2) (n+3) .ellipsis:=Pr _ _ (na ε) jw;have cK:e≠n+4:=λx=>by subst x;rw[jx]at RQ;cases RQ;simp at VJ
   exact UM jx γ λIk _ Ps=>fin Ik e _ (λb o A4 x=>
    let⟨Bm,Cc,FF,M3⟩:=FH A4
    Ps.extBut _ _ M3 (Pr _ _ Cc (OU.extBut _ _ FF (OT.extBut _ _ Bm (RT.extBut _ _ M3 x))))) (.inr rfl) ⟨fD,Ps.extBut _ _ cK RQ,VJ⟩
 .obtain rfl:i=x.cps.size:=δ
  refine Ag (YL.done _ _ _ pz λOV e OT he=>?_);obtain⟨fD,RQ,VJ⟩:=he;have kr:IsZip OV (n+4) (n+2) (n+3) .ellipsis:=OT _ _ S1.symm Zx;have cK:e≠n+4:=λx=>by subst x;rw[kr]at RQ;cases RQ;simp at VJ
  exact UM kr γ λOW _ OU=>fin OW e _ (λb o A4 x=>
   let⟨Bm,Cc,FF,M3⟩:=FH A4
   OU.extBut _ _ M3 (OT _ _ Bm (RT.extBut _ _ M3 x))) (.inl rfl) ⟨fD,OU.extBut _ _ cK RQ,VJ⟩
end
def afd{P:C9}{w:Br}{K:Ap}{elts:↑Aq}{FT:Nat}{pos:Pos}(x:Str)(t:Tok){l n:A7}(ln:l<n) :
  Turn P w K (.Tuple elts FT pos) (hS K x l) [n,n+1,n+2,n+3,n+4] (n+4) (λi h=>bV h n .none x t l i) where
 mem:=γ
 obj:=λi h st b A4=>by
  obtain⟨hz,T_,⟨a,JJ,VF⟩,⟨EL,AA,Bm,d1⟩,EE,AE,Cc,Eb⟩:=st;have A4:b=n\/b=n+1\/b=n+2\/b=n+3\/b=n+4:=(A4:)
  rcases A4 with q|q|q|q|q<;>subst q
  .exact⟨EL,AA,λv z=>by rw[d1]at z;cases z⟩
  .exact⟨EE,AE,λv z=>by rw[Eb]at z;cases z⟩
  .exact⟨_,T_,λv z=>by have F_:Data.seq _ _=SO v:=z;cases F_⟩
  .exact⟨_,VF,λv z=>by have F_:Data.seq _ _=SO v:=z;cases F_⟩
  .exact⟨_,hz,λv z=>by have F_:Xh _=SO v:=z;cases F_⟩
 keep:=λi h h' st k=>by obtain⟨hz,T_,⟨a,JJ,VF⟩,⟨EL,AA,Aw⟩,EE,AE,BL⟩:=st;exact⟨k _ γ _ hz,k _ γ _ T_,⟨a,JJ,k _ γ _ VF⟩,⟨EL,k _ γ _ AA,Aw⟩,EE,k _ γ _ AE,BL⟩
 item:=by
  nofun;obtain⟨hi,ys,y,Aa,AX⟩:=Ai;obtain⟨its,Bw,B9,xd⟩:=Z.tuple Aa;have hlen:=⇑Bw;have kf:i< ⇑ys:=(List.getElem?_eq_some_iff.mp AX).1;refine ly (Z.ok.hd AJ) ln B9 st (Qg hi) (by rw[D_];lia) (λc g9 u h' DW cJ DB H0 Sk AN=>?_) λh=>h.elim (λh=>absurd h (F0 hi)) λh=>absurd h (by rw[D_];lia);obtain⟨Jd,eB,FJ⟩:=Bw.get AX;obtain rfl:Jd=g9:=by rw[sD,eB]at DB;exact Fy DB
  obtain⟨a1,a2,HM,NB,iQ⟩:=H0;refine⟨_,rfl,wpAny_letOwnedTupleGo_zip a1 λh2 xe Sw=>?_⟩;have QR:n+4<s.heap.objs.size:=E3 st.1;have acD:∀b∈[n,n+1,n+2,n+3,n+4],b≠s.heap.objs.size:=λb A4=>by
   have A4:b=n\/b=n+1\/b=n+2\/b=n+3\/b=n+4:=(A4:)
   change(n:Nat)+4<s.heap.objs.size at QR;have:(b:Nat)<=n+4:=by rcases A4 with q|q|q|q|q<;>subst q<;>simp
   exact F0 (Qc this QR)
  have VP:XR h2 s.heap.objs.size ([.str ⟨#[c]⟩ u,Jd]:↑A8).toArray:=⟨_,Sw.extBut _ _ (Qh QR) Sk,rfl,_,rfl⟩;have AZ:H s.heap.objs.size=none:=Z.B0.fresh (C5 _);have Bj:Inv X A3 σ (upd H s.heap.objs.size (.tup [.str ⟨#[c]⟩,y])) { s with heap:=h2,toks:=DW }:=Z.g7 (its:=[.str ⟨#[c]⟩ u,Jd]) (ch:=[n,n+1,n+3,n+4]) (λb o A4 q=>Sw.extBut b o (λz=>A4 (by simp[z])) (AN b o A4 q)) (λb A4=>hf b (r7 A4)) (C5 _) VP (.cons ⟨u,rfl⟩ (.cons FJ .nil)) (by show 2<=CW;decide);refine⟨.ref s.heap.objs.size,_,Bj,rfl,⟨s.heap.objs.size,c,y,cJ,AZ,rfl,rfl,λzs xf=>by rw[Z.g6 xf Aa];exact AX⟩,⟨xe,Sw.extBut _ _ (na ε) a2,?_,?_,?_⟩,λb A4=>?_⟩
  .obtain⟨a,b,HM⟩:=HM;exact⟨a,b,Sw.extBut _ _ (na ε) HM⟩
  .obtain⟨EL,AA,Aw⟩:=NB;exact⟨EL,Sw.extBut _ _ S1 AA,Aw⟩
  .obtain⟨EE,AE,BL⟩:=iQ;exact⟨EE,Sw.extBut _ _ (na ε) AE,BL⟩
  .rw[DK (acD b A4)];exact(hf b A4).1
 done:=by
  nofun;obtain⟨ys,Aa,hi⟩:=Ai;obtain⟨its,Bw,B9,xd⟩:=Z.tuple Aa;have hlen:=⇑Bw;have z:its.toArray.size=⇑ys:=by rw[D_,hlen]
  refine ly (Z.ok.hd AJ) ln B9 st δ δ (λc g9 u h' DW cJ DB _ _ _=>?_) λ_ h' DW FT=>⟨rfl,Z.Vx (ch:=[n,n+1,n+3,n+4]) FT λb A4=>hf b (r7 A4)⟩;have:=(Array.getElem?_eq_some_iff.mp cJ).1;have:=(Array.getElem?_eq_some_iff.mp DB).1;lia
 self:=λA i s Q E st h=>wpAny_pyIter_zip st.1 h
section
variable{X:Ar}{elts:↑Aq}{FT:Nat}{Na:Pos}
def z9(K:Ap)(BW:Fb):TI:=λσ H R=>BW σ H λvs H1=>∃x l,vs=[.str x,.ref l]/\(∃ys,Ek K H1 l ys)/\R (hS K x l) H1
def ae6{a b:Aq}{BW:Fb}{p pos:Pos}(Ai:Eh X "zip")(hm:X.mg "zip"=none)(AG:H9 X [a,b] BW)(AP:CM [a,b] X.env=[(false,Bc a X.env),(false,Bc b X.env)]:=by rfl)(I6:CM [b] X.env=[(false,Bc b X.env)]:=by rfl) :
  He X (.Tuple elts FT Na) (.Call (.Name "zip" p) [a,b] [] pos) (z9 X.K BW):=by
 have A4:O1 "zip"=↥(.type "zip"):=by kernel_rfl
 intro A3 s σ H R Z h;refine sY (O_ Z Ai hm A4 (Qa (Ba (AG pos A3 s σ H _ Z h) λus s1⟨vs,H1,Ad,Aw,q1⟩=>?_) (by rw[AP,I6]) (by rw[I6];rfl)));obtain⟨x,l,e,⟨ys,Aa⟩,q⟩:=q1;subst e;obtain⟨u,g9,rfl,⟨t,rfl⟩,FJ⟩:=vals2 Aw;cases FJ;obtain⟨its,Bw,B9,hz⟩:=Ad.tuple Aa;have Ee:l<s1.heap.objs.size:=let⟨_,e,_⟩:=B9;E3 e
 refine u5 (show s1.heap.IsTuple l its.toArray from B9) λh' a1 a2 HM NB Sk iQ AN=>?_;have Bj:Inv X A3 σ H1 { s1 with heap:=h' }:=Ad.kept (t':=s1.toks) AN;refine wpAny_pyIter_zip a1 ?_;refine⟨s1.heap.objs.size+4,[s1.heap.objs.size,s1.heap.objs.size+1,s1.heap.objs.size+2,s1.heap.objs.size+3,s1.heap.objs.size+4],_,_,H1,rfl,Bj,afd x t Ee,⟨a1,a2,⟨_,_,HM⟩,NB,Sk⟩,λb A4=>?_,q⟩;have A4:s1.heap.objs.size<=b:=by erw[Ix,PI,or_false]at A4;rcases A4 with q|q|q|q|q<;>rw[q]<;>first|exact C5 _|exact PH _ _
 exact Ad.Ma A4 (Ad.B0.fresh A4)
end
end BU
namespace Xk
open PySem PySem.SetTable
theorem d3(xs:Array Nat)(j:Nat)(AP:xs.toList.Pairwise (· <·)):∀fuel lo hi,hi<=lo+fuel->lo<=hi->hi<=xs.size->(∀k,k<lo->xs.getD k j<j)->(∀k,hi<=k->k<xs.size->j<=xs.getD k j)->
  below.go xs j fuel lo hi<=xs.size/\(∀k,k<below.go xs j fuel lo hi->xs.getD k j<j)/\(∀k,below.go xs j fuel lo hi<=k->k<xs.size->j<=xs.getD k j)
 |0,lo,hi,h1,h2,AY,Ch,EH=>by
  have e:lo=hi:=δ
  subst e;exact⟨AY,Ch,EH⟩
 |fuel+1,lo,hi,h1,h2,AY,Ch,EH=>by
  have mono:∀a b,a<=b->b<xs.size->xs.getD a j<=xs.getD b j:=by
   intro a b VH A4;rcases Nat.eq_or_lt_of_le VH with rfl|VH
   .exact C5 _
   have:=List.pairwise_iff_getElem.mp AP a b (by simp;lia) (A4:) VH;erw[Array.getElem_toList]at this;rw[S8,S8,MK δ,MK A4];exact Qg this
  unfold below.go;by_cases h:lo<hi
  .rw[if_pos h];dsimp only;by_cases q:xs.getD ((lo+hi)/2) j<j
   .rw[if_pos q];refine d3 xs j AP fuel _ hi δ δ AY (λk AN=>?_) EH;exact Qc (mono k ((lo+hi)/2) δ δ) q
   .rw[if_neg q];refine d3 xs j AP fuel lo _ δ δ δ Ch λk AN NG=>?_;exact Iw (Nat.not_lt.mp q) (mono _ k AN NG)
  .rw[if_neg h];have e:lo=hi:=δ
   subst e;exact⟨AY,Ch,EH⟩
def i3{xs:Array Nat}(AP:xs.toList.Pairwise (· <·))(j:Nat):below xs j<=xs.size/\(∀y∈xs.toList.take (below xs j),y<j)/\(∀y∈xs.toList.drop (below xs j),j<=y):=by
 obtain⟨a,b,c⟩:=d3 xs j AP xs.size 0 xs.size δ δ (C5 _) (λk AN=>absurd AN (XH _)) (λk h1 h2=>absurd h2 δ);refine⟨a,λy AX=>?_,λy AX=>?_⟩
 .obtain⟨k,AN,rfl⟩:=UU AX;have RP:k<below xs j/\k<xs.size:=by simpa[N0,Nat.lt_min]using AN
  have:=b k RP.1;rw[S8,MK RP.2]at this;simpa using this
 .obtain⟨k,AN,rfl⟩:=UU AX;have RP:below xs j+k<xs.size:=by simp at AN;lia
  have:=c (below xs j+k) (PH _ _) RP;rw[S8,MK RP]at this;simpa using this
def eM{α:Type}(xs:Array α)(p:Nat)(x:α):(insertAt xs p x).toList=xs.toList.take p++x::xs.toList.drop p:=by unfold insertAt;simp[Array.toList_extract,List.extract_eq_take_drop];exact XF γ
structure Tab(t:Iz)(n:Nat):Prop where
 SZ:t.dummies= #[]
 Ms:t.place.size=n
 Th:t.place.toList.Pairwise (· <·)
 le:∀j∈t.place.toList,j<=t.mask
def slot_of{t:Iz}{n:Nat}(T:Tab t n)(j:Nat):(∃i,t.slot j=.live i/\t.place.toList[i]?=↥j)\/(t.slot j=.empty/\j∉t.place.toList):=by
 obtain⟨a,b,c⟩:=i3 T.Th j;unfold slot;dsimp only;by_cases h:t.place[below t.place j]?=↥j
 .left
  refine⟨below t.place j,?_,(h:)⟩;rw[h];simp
 .right
  constructor
  .have:(t.place[below t.place j]?==↥j)=false:=by simpa using h
   rw[this,T.SZ];simp[has]
  .intro m;have EB:=m;rw[<-PL (below t.place j) t.place.toList]at EB;rcases List.mem_append.mp EB with EB|EB
   .exact absurd (b j EB) (Lc _)
   .cases hd:t.place.toList.drop (below t.place j)with
    |nil=>rw[hd]at EB;cases EB
    |cons y r=>
     have AX:t.place[below t.place j]?=↥y:=by
      have:(t.place.toList.drop (below t.place j))[0]?=↥y:=by rw[hd];rfl
      rw[gp]at this;simpa using this
     have BH:=T.Th;rw[<-PL (below t.place j) t.place.toList,hd]at BH;have BH:=(List.pairwise_append.mp BH).2.1;rw[hd]at EB;rcases List.mem_cons.mp EB with rfl|EB
     .exact h AX
     .have h1:=(List.pairwise_cons.mp BH).1 j EB;have h2:=c y (by rw[hd];simp);lia
def aez{t:Iz}{n:Nat}(T:Tab t n){j:Nat}(m:j∈t.place.toList):∃i,t.slot j=.live i/\t.place.toList[i]?=↥j:=by
 rcases slot_of T j with h|h
 .exact h
 .exact absurd m h.2
def aey{t:Iz}{n:Nat}(T:Tab t n){j:Nat}(m:j∉t.place.toList):t.slot j=.empty:=by
 rcases slot_of T j with⟨i,h,e⟩|h
 .exact absurd (IG e) m
 .exact h.1
def ae0{t:Iz}{n:Nat}(T:Tab t n){j:Nat}(m:j∉t.place.toList)(Ac:j<=t.mask):∃p,(t.put j).2=p/\p<=n/\Tab (t.put j).1 (n+1)/\(t.put j).1.place.toList=t.place.toList.take p++j::t.place.toList.drop p/\(t.put j).1={ t with place:=(t.put j).1.place }:=by
 obtain⟨a,b,c⟩:=i3 T.Th j;have e:(t.put j).1.place.toList=t.place.toList.take (below t.place j)++j::t.place.toList.drop (below t.place j):=by unfold put;exact eM _ _ _
 have BV:(t.put j).1.dummies= #[]:=by unfold put;simp[has,T.SZ]
 have em:(t.put j).1.mask=t.mask:=rfl;refine⟨below t.place j,rfl,T.Ms▸a,⟨BV,?_,?_,?_⟩,e,?_⟩
 .have:(t.put j).1.place.toList.length=n+1:=by
    rw[e,F1,Dn,N0,XM];have:=T.Ms;erw[S7];lia
  simpa using this
 .rw[e];have BH:=T.Th;rw[<-PL (below t.place j) t.place.toList]at BH;obtain⟨Aw,BL,FI⟩:=List.pairwise_append.mp BH;refine List.pairwise_append.mpr ⟨Aw,List.pairwise_cons.mpr ⟨λy AX=>?_,BL⟩,λx AF y AX=>?_⟩
  .rcases Nat.eq_or_lt_of_le (c y AX)with q|q
   .exact absurd (q▸X8 AX) m
   .exact q
  .rcases List.mem_cons.mp AX with rfl|AX
   .exact b x AF
   .exact FI x AF y AX
 .intro y AX;rw[em];rw[e]at AX;rcases List.mem_append.mp AX with AX|AX
  .exact T.le y (US AX)
  .rcases List.mem_cons.mp AX with rfl|AX
   .exact Ac
   .exact T.le y (X8 AX)
 .have Ya:(t.put j).1.dummies=t.dummies:=BV.trans T.SZ.symm;show(t.put j).1=_;have:(t.put j).1={ t with place:=(t.put j).1.place,dummies:=(t.put j).1.dummies }:=rfl;rw[this,Ya]
noncomputable def M1(mask:Nat)(p:Probe):Probe:=
 if p.more>0 then{ p with j:=p.j+1,more:=p.more-1 }else
 { p with j:=(leap mask p.i p.perturb).1,more:=runEnd mask (leap mask p.i p.perturb).1-(leap mask p.i p.perturb).1,i:=(leap mask p.i p.perturb).1,perturb:=(leap mask p.i p.perturb).2 }
def iT(t:Iz)(p:Probe):t.advance p=M1 t.mask p:=rfl
noncomputable def mT(mask:Nat)(i q:Nat):Probe:={ j:=i,more:=runEnd mask i-i,i,perturb:=q,dummy:=none }
def Ef(mask:Nat)(h:Int):Nat->Probe
 |0=>mT mask (bits h%(mask+1)) (bits h)
 |n+1=>M1 mask (Ef mask h n)
noncomputable def B2(mask:Nat)(h:Int):Nat->Nat×Nat
 |0=>(bits h%(mask+1),bits h)
 |n+1=>leap mask (B2 mask h n).1 (B2 mask h n).2
def J_(mask i:Nat):Nat:=runEnd mask i-i
def FY(mask:Nat)(h:Int):Nat->Nat
 |0=>0
 |n+1=>FY mask h n+J_ mask (B2 mask h n).1+1
def afO(mask i:Nat):J_ mask i<=9:=by unfold J_ runEnd;split<;>lia
def f5(mask i:Nat):i<=runEnd mask i:=by unfold runEnd;split<;>lia
theorem pL(mask:Nat)(h:Int):∀n,FY mask h n<=10*n
 |0=>C5 _
 |n+1=>by have:=pL mask h n;have:=afO mask (B2 mask h n).1;unfold FY;lia
def sr{mask i q r:Nat}(BH:r<J_ mask i):M1 mask { j:=i+r,more:=J_ mask i-r,i:=i,perturb:=q,dummy:=none }={ j:=i+(r+1),more:=J_ mask i-(r+1),i:=i,perturb:=q,dummy:=none }:=by unfold M1;rw[if_pos (by show J_ mask i-r>0;lia)];erw[Probe.mk.injEq];refine⟨δ,δ,trivial,trivial,trivial⟩
def su{mask i q:Nat}:M1 mask { j:=i+J_ mask i,more:=J_ mask i-J_ mask i,i:=i,perturb:=q,dummy:=none }=mT mask (leap mask i q).1 (leap mask i q).2:=by unfold M1;rw[if_neg (by show¬(J_ mask i-J_ mask i>0);lia)];rfl
theorem ee(mask:Nat)(h:Int):∀L r,r<=J_ mask (B2 mask h L).1->Ef mask h (FY mask h L+r)={ j:=(B2 mask h L).1+r,more:=J_ mask (B2 mask h L).1-r,i:=(B2 mask h L).1,perturb:=(B2 mask h L).2,dummy:=none }
 |0,0,_=>rfl
 |L,r+1,BH=>by have:=ee mask h L r δ;show M1 mask (Ef mask h (FY mask h L+r))=_;rw[this];exact sr δ
 |L+1,0,_=>by have:=ee mask h L (J_ mask (B2 mask h L).1) (C5 _);show M1 mask (Ef mask h (FY mask h L+J_ mask (B2 mask h L).1))=_;rw[this,su];rfl
def tc(h:Int):bits h<2^64:=by unfold bits;have:=Int.emod_lt_of_pos h (b:=2^64) ε;have:=Int.emod_nonneg h (b:=2^64) ε;lia
theorem l6(mask:Nat)(h:Int):∀n,(B2 mask h n).2=bits h/32^n
 |0=>by simp[B2]
 |n+1=>by show(B2 mask h n).2/32=_;rw[l6 mask h n,Nat.div_div_eq_div_mul,Nat.pow_succ]
def aaq(mask:Nat)(h:Int)(n:Nat)(AZ:13<=n):(B2 mask h n).2=0:=by
 rw[l6];apply Nat.div_eq_of_lt;have h1:=tc h;have h2:32^13<=32^n:=Nat.pow_le_pow_right ε AZ;have AY:(2:Nat)^64<32^13:=ε
 lia
noncomputable def LY(mask:Nat):Nat->Nat->Nat
 |0,i=>i
 |n+1,i=>(LY mask n i*5+1)%(mask+1)
theorem l5(mask:Nat)(h:Int):∀m,(B2 mask h (13+m)).1=LY mask m (B2 mask h 13).1
 |0=>rfl
 |m+1=>by have e:(B2 mask h (13+(m+1))).2=0:=aaq mask h _ δ;have AE:(B2 mask h (13+m)).2/32=0:=e;show((B2 mask h (13+m)).1*5+1+(B2 mask h (13+m)).2/32)%(mask+1)=_;rw[AE,l5 mask h m];rfl
theorem Zb(mask:Nat)(a:Nat):∀b i,LY mask (a+b) i=LY mask b (LY mask a i)
 |0,_=>rfl
 |b+1,i=>by show(LY mask (a+b) i*5+1)%(mask+1)=_;rw[Zb mask a b i];rfl
noncomputable def av(mask:Nat):Nat->Nat->↑Nat
 |0,_=>[]
 |n+1,i=>i::av mask n ((i*5+1)%(mask+1))
theorem lj(mask i:Nat):∀n,LY mask n ((i*5+1)%(mask+1))=LY mask (n+1) i
 |0=>rfl
 |n+1=>by show(LY mask n _*5+1)%_=_;rw[lj mask i n];rfl
theorem dy(mask:Nat):∀n i j,j∈av mask n i->∃m,m<n/\LY mask m i=j
 |0,_,_,h=>by cases h
 |n+1,i,j,h=>by
  rcases List.mem_cons.mp h with rfl|h
  .exact⟨0,δ,rfl⟩
  .obtain⟨m,h1,h2⟩:=dy mask n _ j h;exact⟨m+1,δ,by rw[<-lj];exact h2⟩
structure IJ(mask:Nat):Prop where
 all:∀j,j<=mask->j∈av mask (mask+1) 0
 back:LY mask (mask+1) 0=0
def IJ.reach{mask:Nat}(C:IJ mask){i j:Nat}(hi:i<=mask)(Ac:j<=mask):∃m,m<=mask/\LY mask m i=j:=by
 obtain⟨a,a1,a2⟩:=dy _ _ _ _ (C.all i hi);obtain⟨b,b1,F6⟩:=dy _ _ _ _ (C.all j Ac);by_cases h:a<=b
 .refine⟨b-a,δ,?_⟩;rw[<-a2,<-Zb,show a+(b-a)=b by lia,F6]
 .refine⟨mask+1-a+b,δ,?_⟩;rw[<-a2,<-Zb,show a+(mask+1-a+b)=(mask+1)+b by lia,Zb,C.back,F6]
def dF{mask:Nat}(h:(C8 (mask+1)).all (λj=>(av mask (mask+1) 0).contains j)=true)(b:LY mask (mask+1) 0=0):IJ mask:=
 ⟨λj Ac=>by have:=List.all_eq_true.mp h j (List.mem_range.mpr δ);exact List.contains_iff_mem.mp this,b⟩
def jS:IJ 7:=dF (by decide+kernel) (by decide+kernel)
def jR:IJ 31:=dF (by decide+kernel) (by decide+kernel)
def iO:IJ 127:=dF (by decide+kernel) (by decide+kernel)
def dr(mask:Nat)(h:Int):∀n,(B2 mask h n).1<=mask
 |0=>gu (Uj _ δ)
 |n+1=>gu (Uj _ δ)
def IJ.leap{mask:Nat}(C:IJ mask)(h:Int){j:Nat}(Ac:j<=mask):∃L,L<mask+15/\(B2 mask h L).1=j:=by obtain⟨m,h1,h2⟩:=C.reach (dr mask h 13) Ac;exact⟨13+m,δ,by rw[l5];exact h2⟩
def IJ.cover{mask:Nat}(C:IJ mask)(h:Int){j:Nat}(Ac:j<=mask):∃n,n<10*turns mask/\(Ef mask h n).j=j:=by
 obtain⟨L,h1,h2⟩:=C.leap h Ac;refine⟨FY mask h L,?_,?_⟩
 .have:=pL mask h L;unfold turns;lia
 .have:=ee mask h L 0 (IB _);erw[Nat.add_zero]at this;rw[this];exact h2
def xX{P:↑Nat}{mask:Nat}(AP:P.Pairwise (· <·))(AZ:⇑P<=mask):∃j,j<=mask/\j∉P:=by
 apply Q_;intro no;have all:∀j,j<=mask->j∈P:=λj Ac=>Q_ λz=>no ⟨j,Ac,z⟩;have Bg:(C8 (mask+1)).Nodup:=List.nodup_range;have sub:∀x∈C8 (mask+1),x∈P:=λx AF=>all x (by have:=List.mem_range.mp AF;lia);have key:∀(l:↑Nat),l.Nodup->∀(P:↑Nat),(∀x∈l,x∈P)->⇑l<=⇑P:=by
  intro l;induction l with
  |nil=>intro _ P _;simp
  |cons a r C4=>intro Bg P sub;obtain⟨FH,GQ⟩:=List.nodup_cons.mp Bg;have AG:=sub a γ;have:=C4 GQ (P.erase a) (λx AF=>(gV (by intro e;subst e;exact FH AF)).mpr (sub x (by simp[AF])));rw[gL AG]at this;have:0< ⇑P:=XG AG;simp;lia
 have:=key _ Bg P sub;simp at this;lia
def least(p:Nat->Prop):(∃n,p n)->∃n,p n/\∀m,m<n->¬p m:=by
 rintro⟨n,h⟩;induction n using Nat.strongRecOn with
 |_ n C4=>
  by_cases q:∃m,m<n/\p m
  .obtain⟨m,GP,HR⟩:=q;exact C4 m GP HR
  .exact⟨n,h,λm hm AT=>q ⟨m,hm,AT⟩⟩
def IJ.first{mask:Nat}(C:IJ mask){P:↑Nat}(AP:P.Pairwise (· <·))(AZ:⇑P<=mask)(h:Int):∃N,N<10*turns mask/\(Ef mask h N).j∉P/\∀m,m<N->(Ef mask h m).j∈P:=by obtain⟨j,Jz,Ka⟩:=xX AP AZ;obtain⟨n,FH,GQ⟩:=C.cover h Jz;obtain⟨N,Y4,Y5⟩:=least (λn=>(Ef mask h n).j∉P) ⟨n,by rw[GQ];exact Ka⟩;refine⟨N,?_,Y4,λm hm=>Q_ (Y5 m hm)⟩;have:¬n<N:=λz=>Y5 n z (by rw[GQ];exact Ka);lia
theorem lv(mask:Nat)(h:Int):∀n,(Ef mask h n).dummy=none
 |0=>rfl
 |n+1=>by
  show(M1 mask (Ef mask h n)).dummy=none;unfold M1
  split<;>exact lv mask h n
def f6{mask i:Nat}(hi:i<=mask):runEnd mask i<=mask:=by unfold runEnd;split<;>lia
structure hW(mask:Nat)(p:Probe):Prop where
 i:p.i<=mask
 j:p.j+p.more<=mask
theorem lx(mask:Nat)(h:Int):∀n,hW mask (Ef mask h n)
 |0=>by have:=dr mask h 0;have h2:=f6 this;have AY:=f5 mask (B2 mask h 0).1;exact⟨this,by show(B2 mask h 0).1+(runEnd mask (B2 mask h 0).1-(B2 mask h 0).1)<=mask;lia⟩
 |n+1=>by
  obtain⟨a,b⟩:=lx mask h n;show hW mask (M1 mask (Ef mask h n));unfold M1
  split
  .rename_i q;refine⟨a,?_⟩;show(Ef mask h n).j+1+((Ef mask h n).more-1)<=mask;lia
  .have h1:(h6 mask (Ef mask h n).i (Ef mask h n).perturb).1<=mask:=gu (Uj _ δ);have h2:=f6 h1;have AY:=f5 mask (h6 mask (Ef mask h n).i (Ef mask h n).perturb).1;refine⟨h1,?_⟩;show(h6 mask (Ef mask h n).i (Ef mask h n).perturb).1+(runEnd mask _-_)<=mask;lia
def adx(mask:Nat)(h:Int)(n:Nat):(Ef mask h n).j<=mask:=by have:=(lx mask h n).j;lia
section
variable{α:Type}
structure Kr(t:Iz)(es:Array (Int×α)):Prop where
 tab:Tab t es.size
 vH:IJ t.mask
 room:es.size<=t.mask
def Kr.len{t:Iz}{es:Array (Int×α)}(Z:Kr t es):⇑t.place.toList=es.size:=(Z.tab.Ms:)
theorem Kr.first{t:Iz}{es:Array (Int×α)}(Z:Kr t es)(h:Int):∃N,N<10*turns t.mask/\(Ef t.mask h N).j∉t.place.toList/\∀m,m<N->(Ef t.mask h m).j∈t.place.toList:=
 Z.vH.first Z.tab.Th (by rw[Z.len];exact Z.room) h
theorem Kr.fits{t:Iz}{es:Array (Int×α)}(Z:Kr t es):t.fits es.size=true:=by unfold SetTable.fits SetTable.fill;rw[Z.tab.SZ,Z.tab.Ms];have:=Z.room;simp;lia
theorem mQ{t:Iz}{es:Array (Int×α)}(Z:Kr t es)(f:Nat->Int)(h:Int){N:Nat}(h1:(Ef t.mask h N).j∉t.place.toList)(h2:∀m,m<N->(Ef t.mask h m).j∈t.place.toList) :
  ∀fuel n,n<=N->N-n<fuel->
  probe.go t f h fuel (Ef t.mask h n)=↥(.empty (Ef t.mask h N).j none)\/
  ∃m i e,n<=m/\m<N/\t.slot (Ef t.mask h m).j=.live i/\es[i]?=↥e/\probe.go t f h fuel (Ef t.mask h n)=↥(.candidate (Ef t.mask h m).j i (Ef t.mask h (m+1)))
 |0,n,_,aj5=>δ
 |fuel+1,n,AZ,iy=>by
  unfold probe.go;by_cases q:n=N
  .subst q;rw[aey Z.tab h1];exact .inl (by dsimp only;rw[lv])
  .obtain⟨i,s1,s2⟩:=aez Z.tab (h2 n δ);have hi:i<es.size:=by rw[<-Z.len];exact(List.getElem?_eq_some_iff.mp s2).1
   by_cases w:f i=h
   .exact .inr ⟨n,i,_,C5 _,δ,s1,MK hi,by rw[s1];dsimp only;rw[if_pos (w:),iT];rfl⟩
   .rw[s1];dsimp only;rw[if_neg (w:),iT];exact(mQ Z f h h1 h2 fuel (n+1) δ δ).imp_right λ⟨m,VQ,e,a1,a⟩=>⟨m,VQ,e,δ,a⟩
def yT{es:Array α}{p:Nat}{e:α}(AT:p<=es.size):(insertAt es p e).size=es.size+1:=by
 have:(insertAt es p e).toList.length=es.size+1:=by rw[eM,F1,Dn,N0,XM,S7];lia
 simpa using this
def lF{es:Array α}{p:Nat}{x e:α}:e∈(insertAt es p x).toList↔e=x\/e∈es.toList:=by
 rw[eM]
 conv=>rhs;rw[<-PL p es.toList]
 erw[Gj,Ix];exact⟨λh=>h.elim (λh=>.inr (.inl h)) λh=>h.imp_right .inr,λh=>h.elim (λh=>.inr (.inl h)) λh=>h.imp_right .inr⟩
end
structure Own(M:Nat)(owner:Array (Option Nat))(a:↑Nat):Prop where
 Ms:owner.size=M+1
 Bg:a.Nodup
 le:∀j∈a,j<=M
 of:∀j k:Nat,owner[j]?=↥↥k↔a[k]?=↥j
def Own.free{M:Nat}{owner:Array (Option Nat)}{a:↑Nat}(O:Own M owner a){j:Nat}(Ac:j<=M):(owner.getD j ↥0).isNone=true↔j∉a:=by
 have AP:j<owner.size:=by have:=O.Ms;lia
 rw[S8,MK AP,Qb];constructor
 .intro h m;obtain⟨k,AN,rfl⟩:=UU m;have:=(O.of _ k).mpr (C7 AN);rw[MK AP]at this;rw[Fy this]at h;cases h
 .intro h;cases e:owner[j]with
  |none=>rfl
  |some k=>exact absurd (IG ((O.of j k).mp (by rw[MK AP,e]))) h
theorem jH{M:Nat}{owner:Array (Option Nat)}{a:↑Nat}(O:Own M owner a)(h:Int):∀fuel L,(∃L5,L<=L5/\L5<L+fuel/\(B2 M h L5).1∉a)->
  ∃j,layClean.free M owner fuel (B2 M h L).1 (B2 M h L).2=↥j/\j<=M/\j∉a
 |0,L,⟨L5,h1,h2,_⟩=>δ
 |fuel+1,L,⟨L5,h1,h2,AY⟩=>by
  unfold layClean.free;have hle:=dr M h L;have aid:=f6 hle;have aj6:=f5 M (B2 M h L).1;cases hf:(C8 (runEnd M (B2 M h L).1+1-(B2 M h L).1)).find? λk=>(owner.getD ((B2 M h L).1+k) ↥0).isNone with
  |some k=>have AN:=List.mem_range.mp (sS hf);exact⟨_,rfl,δ,(O.free δ).mp (by have:=List.find?_some hf;exact this)⟩
  |none=>
   have ne:L≠L5:=by rintro rfl;exact List.find?_eq_none.mp hf 0 (List.mem_range.mpr δ) ((O.free δ).mpr AY)
   exact jH O h fuel (L+1) ⟨L5,δ,δ,AY⟩
def dV{l P:↑Nat}(Bg:l.Nodup)(sub:∀x∈l,x∈P):⇑l<=⇑P:=by
 induction l generalizing P with
 |nil=>simp
 |cons a r C4=>obtain⟨FH,GQ⟩:=List.nodup_cons.mp Bg;have AG:=sub a γ;have:=C4 GQ (P:=P.erase a) (λx AF=>(gV (by intro e;subst e;exact FH AF)).mpr (sub x (by simp[AF])));rw[gL AG]at this;have:0< ⇑P:=XG AG;simp;lia
def xY{M:Nat}(C:IJ M){owner:Array (Option Nat)}{a:↑Nat}(O:Own M owner a)(AH:⇑a<=M)(h:Int):∃j,layClean.free M owner (turns M) (bits h%(M+1)) (bits h)=↥j/\j<=M/\j∉a:=by
 obtain⟨j,Jz,Ka⟩:∃j,j<=M/\j∉a:=by apply Q_;intro no;have:=dV (List.nodup_range (n:=M+1)) (P:=a) λx AF=>Q_ λz=>no ⟨x,by have:=List.mem_range.mp AF;lia,z⟩;simp at this;lia
 obtain⟨L5,D0,Cm⟩:=C.leap h Jz;exact jH O h (turns M) 0 ⟨L5,IB _,by unfold turns;lia,by rw[Cm];exact Ka⟩
noncomputable def aN(M:Nat)(acc:Option (Array (Option Nat)×Nat))(h:Int):Option (Array (Option Nat)×Nat):=do
 let(owner,k) <-acc
 let j <-layClean.free M owner (turns M) (bits h%(M+1)) (bits h)
 pure (owner.setIfInBounds j ↥k,k+1)
def aad(M:Nat)(AP:Array Int):layClean M AP=(AP.toList.foldl (aN M) ↥(Array.replicate (M+1) none,0)).map (·.1):=by unfold layClean;rw[<-Array.foldl_toList];rfl
def Own.add{M:Nat}{owner:Array (Option Nat)}{a:↑Nat}(O:Own M owner a){j:Nat}(Ac:j<=M)(AZ:j∉a):Own M (owner.setIfInBounds j (some ⇑a)) (a++[j]):=by
 have AP:j<owner.size:=by have:=O.Ms;lia
 refine⟨by simp[O.Ms],?_,?_,λi k=>?_⟩
 .refine List.nodup_append.mpr ⟨O.Bg,γ,λx AF y AX=>?_⟩;simp at AX;subst AX;intro e;subst e;exact AZ AF
 .intro i hi;rcases List.mem_append.mp hi with hi|hi
  .exact O.le i hi
  .simp at hi;lia
 .rw[Array.getElem?_setIfInBounds,List.getElem?_append];by_cases q:j=i
  .subst q;rw[if_pos rfl,if_pos AP];constructor
   .intro e;have e:=Fy (Fy e);subst e;rw[if_neg (Lc _)];simp
   .intro e
    split at e
    .exact absurd (IG e) AZ
    .have:k- ⇑a<1:=(List.getElem?_eq_some_iff.mp e).1;rw[show k=⇑a by lia]
  .rw[if_neg q,O.of i k]
   split
   .rfl
   .rw[JE δ];refine⟨(λe=>nomatch e),λe=>?_⟩;obtain⟨l,e⟩:=List.getElem?_eq_some_iff.mp e;simp at l e;exact absurd e q
theorem jF{M:Nat}(C:IJ M):∀(AP:↑Int)(owner:Array (Option Nat))(a:↑Nat),Own M owner a->⇑a+⇑AP<=M->
  ∃aw G_,AP.foldl (aN M) ↥(owner,⇑a)=↥(aw,⇑G_)/\Own M aw G_/\ ⇑G_=⇑a+⇑AP
 |[],owner,a,O,_=>⟨owner,a,rfl,O,rfl⟩
 |h::AP,owner,a,O,AH=>by
  erw[Dn]at AH;obtain⟨j,f1,f2,E9⟩:=xY C O δ h;obtain⟨aw,G_,Aw,BL,FI⟩:=jF C AP _ _ (O.add f2 E9) (by simp;lia);refine⟨aw,G_,?_,BL,by simp at FI |-;lia⟩;have Dh:aN M ↥(owner,⇑a) h=↥(owner.setIfInBounds j (some ⇑a),⇑(a++[j])):=by unfold aN;erw[Option.bind_eq_bind,gh,f1];simp
  rw[List.foldl_cons,Dh];exact Aw
section
variable{α:Type}
theorem jA{es:↑α}:∀{l:↑Nat},(∀k∈l,k< ⇑es)->⇑(l.filterMap (es[·]?))=⇑l
 |[],_=>rfl
 |k::l,AN=>by rw[S6,C7 (AN k γ)];simp[jA (es:=es) (l:=l) λx AF=>AN x (by simp[AF])]
def abO{M:Nat}(C:IJ M){es:Array (Int×α)}(AH:es.size<=M)(finger moves:Nat)(led plain:Bool) :
  ∃t' order,laid M finger moves led plain (es.map (·.1))=↥(t',order)/\t'.mask=M/\
   (order.filterMap (es[·]?)).size=es.size/\Kr t' (order.filterMap (es[·]?))/\∀e,e∈(order.filterMap (es[·]?)).toList↔e∈es.toList:=by
 obtain⟨owner,a,Bm,O,dj⟩:=jF C (es.map (·.1)).toList (Array.replicate (M+1) none) [] ⟨γ,γ,γ,λj k=>by
  rw[Array.getElem?_replicate]
  split<;>simp⟩ (AH:)
 have dj:⇑a=es.size:=(dj:)
 have Bm:layClean M (es.map (·.1))=↥owner:=by rw[aad];rw[show(List.length ([]:↑Nat))=0 from rfl]at Bm;rw[Bm];rfl
 obtain⟨live,dO⟩:∃live,live=(C8 (M+1)).filterMap λj=>(owner.getD j none).map (j,·):=ο;have mem:∀j k,(j,k)∈live↔a[k]?=↥j:=by
  intro j k;rw[dO,List.mem_filterMap,<-O.of j k];erw[S8,hH,Option.map_eq_some_iff,Prod.mk.injEq];constructor
  .rintro⟨i,hi,y,e,rfl,rfl⟩;cases q:owner[i]? with
   |none=>rw[q]at e;cases e
   |some x=>rw[q]at e;exact congrArg some e
  .intro e;have:=(Array.getElem?_eq_some_iff.mp e).1;exact⟨j,by have:=O.Ms;lia,k,by rw[e];rfl,rfl,rfl⟩
 have rise:(live.map (·.1)).Pairwise (· <·):=by rw[dO,XU];refine List.Pairwise.filterMap _ (R:=(· <·)) ?_ (List.pairwise_lt_range:);intro i VQ yE b A4 JJ cv;obtain⟨_,_,rfl⟩:=Option.map_eq_some_iff.mp A4;obtain⟨_,_,rfl⟩:=Option.map_eq_some_iff.mp cv;exact yE
 have JU:⇑live=es.size:=by
  apply Nat.le_antisymm
  .have:=dV (rise.imp λh=>F0 h) (P:=a) (λx AF=>by
     obtain⟨p,Em,rfl⟩:=List.mem_map.mp AF;exact IG ((mem p.1 p.2).mp Em))
   simp at this;lia
  .have:=dV O.Bg (P:=live.map (·.1)) (λx AF=>by
     obtain⟨k,AN,rfl⟩:=UU AF;exact List.mem_map.mpr ⟨(a[k],k),(mem _ _).mpr (C7 AN),rfl⟩)
   simp at this;lia
 have adN:∀k∈live.map (·.2),k< ⇑es.toList:=λk AN=>by obtain⟨p,Em,rfl⟩:=List.mem_map.mp AN;have:=(List.getElem?_eq_some_iff.mp ((mem p.1 p.2).mp Em)).1;simp;lia
 have Pn:((live.map (·.2)).toArray.filterMap (es[·]?)).toList=(live.map (·.2)).filterMap (es.toList[·]?):=by rw[Array.toList_filterMap];simp
 have hsz:((live.map (·.2)).toArray.filterMap (es[·]?)).size=es.size:=by
  have:((live.map (·.2)).toArray.filterMap (es[·]?)).toList.length=es.size:=by rw[Pn,jA adN];simp[JU]
  simpa using this
 refine⟨_,_,by
  unfold laid;rw[Bm];show↥_=_;rw[<-dO],rfl,hsz,⟨⟨rfl,?_,?_,?_⟩,C,by rw[hsz];exact AH⟩,λe=>?_⟩
 .rw[hsz];simp[JU]
 .simpa using rise
 .intro j Ac;have Ac:j∈live.map (·.1):=by simpa using Ac
  obtain⟨p,Em,rfl⟩:=List.mem_map.mp Ac;exact O.le _ (IG ((mem p.1 p.2).mp Em))
 .rw[Pn,List.mem_filterMap];constructor
  .rintro⟨k,_,q⟩;exact IG q
  .intro q;obtain⟨k,AN,rfl⟩:=UU q;have yH:k< ⇑a:=by rw[dj];simpa using AN
   exact⟨k,List.mem_map.mpr ⟨(a[k],k),(mem _ _).mpr (C7 yH),rfl⟩,C7 AN⟩
end
section
variable{prog:C9}{w:Br}{A:D2}{E:A8->AQ->Prop}{s:AQ}{K:Type}[DecidableEq K]{knd:KeyKind prog w K}
def l1{ks:↑K}{a:A7}{n:Nat}{Q:Bool->AQ->Prop}(AN:O0 knd s.heap ks a)(h:Q false s):An Φ A (XV (n+1) (.ref a)) Q E s:=by
 have DO:=AN.typeIs;obtain⟨o,items,m,ho,_,hd,hi⟩:=AN;unfold XV;refine Ag (wpAny_typeOf DO ?_);dsimp only;rw[if_pos (by rfl)];refine Ag (Bh ?_);erw[h7,Kw,if_false];refine Ag (PC ho hd ?_);refine Ag ?_;rw[<-Array.forIn_toList];refine gi _ (λrest r s'=>r.1=none/\s'=s/\∀v∈rest,Uc v=true) _ ?_ ?_ _ _ ⟨rfl,rfl,hi.byValue⟩
 .rintro v rest r s' ⟨BH,rfl,al⟩;have e:XV n v=pure false:=by
   have:=al v Hs;cases v<;>first|(simp[Uc]at this;done)|(unfold XV;rfl)
  rw[e];exact Ag (Bh (Bh ⟨rfl,rfl,λu BQ=>al u (Gw _ BQ)⟩))
 .rintro⟨Aw,BL⟩ s' ⟨BH,rfl,_⟩;simp only at BH;subst BH;exact Bh h
theorem tl{ks:↑K}{a:A7}{Q:Bool->AQ->Prop}(AN:O0 knd s.heap ks a)(h:∀b,Q b s):An Φ A (Xj 8 (.ref a)) Q E s:=by
 have DO:=AN.typeIs;obtain⟨o,items,m,ho,_,hd,hi⟩:=AN;unfold Xj;refine Ag (wpAny_specialOf DO F.slot_tuple_hash.lookup ?_);refine Ag (PC ho hd ?_);erw[Qb];refine Ag ?_;rw[<-Array.forIn_toList];refine gi _ (λrest r s'=>r.1=none/\s'=s/\∀v∈rest,Uc v=true) _ ?_ ?_ _ _ ⟨rfl,rfl,hi.byValue⟩
 .rintro v rest r s' ⟨BH,rfl,al⟩;have e:∃b,Xj 7 v=pure b:=by
   have:=al v Hs;cases v<;>first|(simp[Uc]at this;done)|(unfold Xj;exact⟨_,rfl⟩)
  obtain⟨b,e⟩:=e;rw[e];refine Ag (Bh ?_);cases b with
  |true=>exact Bh ⟨rfl,rfl,λu BQ=>al u (Gw _ BQ)⟩
  |false=>exact Bh (Bh (h _))
 .rintro⟨Aw,BL⟩ s' ⟨BH,rfl,_⟩;simp only at BH;subst BH;exact Bh (h _)
def O9(knd:KeyKind prog w K)(ok:A7->Prop)(h:BF)(S:↑↑K)(v:A8):Prop:=∃ks b,v=.ref b/\O0 knd h ks b/\ks∈S/\ok b
def O9.to{ok mZ:A7->Prop}{h h':BF}{S DG:↑↑K}{v:A8}(x:O9 knd ok h S v)(m:∀b o,ok b->h.get? b=↥o->h'.get? b=↥o)(s:∀ks∈S,ks∈DG)(k:∀b,ok b->mZ b):O9 knd mZ h' DG v:=
 let⟨ks,b,e,⟨o,i,n,ho,r⟩,q,z⟩:=x;⟨ks,b,e,⟨o,i,n,m b o z ho,r⟩,s ks q,k b z⟩
def abi{ks:↑K}{x:A7}{ok:A7->Prop}{S:↑↑K}(AF:O0 knd s.heap ks x):∀(l:↑A8),(∀y∈l,O9 knd ok s.heap S y)->∀{Q:Bool->AQ->Prop},Q false s->An Φ A (searchCouldBeSeen (.ref x) l) Q E s:=by
 intro l AH Q h;unfold searchCouldBeSeen;refine Ag ?_;refine gi _ (λrest r s'=>r.1=none/\s'=s/\∀y∈rest,O9 knd ok s.heap S y) _ ?_ ?_ _ _ ⟨rfl,rfl,AH⟩
 .rintro v rest r s' ⟨BH,rfl,al⟩;obtain⟨J5,b,rfl,A4,_⟩:=al v Hs;have Sl:=λu(BQ:u∈rest)=>al u (Gw _ BQ);dsimp only;by_cases q:(x==b)=true
  .rw[if_pos (by simp[q])];exact Bh ⟨rfl,rfl,Sl⟩
  .rw[if_neg (by simp[Uc];simpa using q)];exact Ag (wpAny_eqIsQuiet_tuple AF (Ag (wpAny_eqIsQuiet_tuple A4 (Ag (l1 AF (Ag (l1 A4 (Bh ⟨rfl,rfl,Sl⟩))))))))
 .rintro⟨Aw,BL⟩ s' ⟨BH,rfl,_⟩;simp only at BH;subst BH;exact Bh h
def aei{α:Type}{c:Bool}{m:Sem Bool}{U R:Sem α}{Q:α->AQ->Prop}(hm:∀{Q:Bool->AQ->Prop},Q false s->An Φ A m Q E s)(h:An Φ A R Q E s) :
  An Φ A (if c=true then m>>=λb=>if b=true then U else R else R) Q E s:=by
 split
 .exact Ag (hm (by rw[if_neg γ];exact h))
 .exact h
theorem pJ{a x:A7}{o:Obj}{BA:Nat}{t:Iz}{es:Array (Int×A8)}{ks:↑K}{ok:A7->Prop}{S:↑↑K}(BQ:A.units<Dg)(ho:s.heap.get? a=↥o)(hd:o.data=.set es BA t)(Z:Kr t es)(X:∀e∈es.toList,O9 knd ok s.heap S e.2)(AF:O0 knd s.heap ks x)(no:ks∉S)(ZQ:t.mask%2=1){N:Nat}(hN:N<10*turns t.mask)(h1:(Ef t.mask (I_ knd ks) N).j∉t.place.toList)(h2:∀m,m<N->(Ef t.mask (I_ knd ks) m).j∈t.place.toList){Q:SetFound->AQ->Prop}(q:Q (.free (Ef t.mask (I_ knd ks) N).j false) s) :
  ∀(fuel n:Nat)(st:Option Probe),n<=N->N-n<fuel->st.getD (t.probeStart (I_ knd ks))=Ef t.mask (I_ knd ks) n->
   An Φ A (setSearchFrom a (.ref x) (I_ knd ks) true fuel st) Q E s
 |0,n,_,_,z,_=>δ
 |fuel+1,n,st,AZ,hf,Fj=>by
  unfold setSearchFrom;refine Ag (UQ ho hd Z.fits ?_);dsimp only;rw[if_neg (by unfold SetTable.gaveWay;simp[ZQ]),Fj];unfold SetTable.probe;have G:=mQ Z (λi=>(es[i]?.map (·.1)).getD 0) (I_ knd ks) h1 h2 (10*turns t.mask) n AZ δ;generalize hz:probe.go t _ (I_ knd ks) (10*turns t.mask) (Ef t.mask (I_ knd ks) n)=z;rcases G with g|⟨m,i,e,GP,HR,C3,El,g⟩
  .have g:=hz.symm.trans g;subst g;exact Bh q
  .have g:=hz.symm.trans g;subst g;dsimp only;obtain⟨J5,b,BC,T4,ms,_⟩:=X e (by rw[<-X5]at El;exact IG El);have El:es[i]?=↥(e.1,.ref b):=by rw[El,<-BC]
   refine aei (λh=>abi (S:=S) (ok:=ok) AF _ (λy AX=>?_) h) ?_
   .obtain⟨e,he,rfl⟩:=List.mem_map.mp AX;exact X e (by simp at he;simpa using he.1)
   .rw[El];refine Ag (Nt (wpAny_eqBool_tuple BQ T4 AF ?_));refine Ag (UQ ho hd Z.fits ?_);have ne:decide (J5=ks)=false:=decide_eq_false λz=>no (z▸ms);rw[ne];dsimp only;rw[if_neg γ,show t.sameMemory t.moves t.mask=↥true by unfold SetTable.sameMemory;simp];dsimp only;rw[if_pos rfl,C3];dsimp only;rw[El];refine Ag (wpAny_isSame_ref_self ?_);rw[if_pos rfl];refine Ag (Bh ?_);dsimp only;rw[if_neg γ];exact pJ BQ ho hd Z X AF no ZQ hN h1 h2 q fuel (m+1) _ δ δ rfl
def OC(knd:KeyKind prog w K)(ok:A7->Prop)(h:BF)(a:A7)(S:↑↑K):Prop:=
 ∃o es BA t,h.get? a=↥o/\o.ExactSet/\o.data=.set es BA t/\Kr t es/\(∀e∈es.toList,O9 knd ok h S e.2)/\es.size=⇑S/\((t.mask=7/\es.size<5)\/(t.mask=31/\es.size<19)\/(t.mask=127/\es.size<77))
end
section
variable{prog:C9}{w:Br}{A:D2}{E:A8->AQ->Prop}{s:AQ}{K:Type}[DecidableEq K]{knd:KeyKind prog w K}
def iu{h:BF}{a:A7}{o:Obj}{es es':Array (Int×A8)}{BA:Nat}{t t':Iz}(ho:h.get? a=↥o)(AF:o.ExactSet)(hd:o.data=.set es BA t):∃o',(h.update a (Obj.putSet es' t')).get? a=↥o'/\o'.ExactSet/\o'.data=.set es' (BA+1) t':=by
 refine⟨_,X4 _ ho (by rw[putSet_of es' t' hd];rfl),?_,?_⟩
 .rw[putSet_of es' t' hd];exact AF
 .rw[putSet_of es' t' hd]
def afK{a:A7}{o:Obj}{BA:Nat}{t:Iz}{es:Array (Int×A8)}{M wanted:Nat}{Q:Unit->AQ->Prop}(ho:s.heap.get? a=↥o)(AF:o.ExactSet)(hd:o.data=.set es BA t)(Z:Kr t es)(C:IJ M)(AH:es.size<=M)(RL:sZ wanted=M+1)(hm:M<=127)(h:∀es' t' o' h',Kz a s.heap h'->h'.get? a=↥o'->o'.ExactSet->o'.data=.set es' (BA+1) t'->t'.mask=M->Kr t' es'->es'.size=es.size->(∀e,e∈es'.toList↔e∈es.toList)->Q () { s with heap:=h' }) :
  An Φ A (setRelay a wanted) Q E s:=by
 unfold setRelay;refine Ag (UQ ho hd Z.fits ?_);dsimp only;rw[if_neg (by rw[RL];show¬(M+1>CW);rw[Qr];lia)];obtain⟨t',order,Aw,BL,S4,WI,ae3⟩:=abO C AH t.finger (t.movedTo M) t.led t.plain;have e:t.relaid (es.map (·.1)) wanted=↥(t',order):=by unfold SetTable.relaid;rw[RL];exact Aw
 rw[e];have Dh:An Φ A (if((order.filterMap (es[·]?)).size !=es.size)=true then(do unsupported "internal:set-table-lost-an-element";pure (order.filterMap (es[·]?),t'))else pure (order.filterMap (es[·]?),t')) (λr s'=>An Φ A (storeSet a r.1 r.2) Q E s') E s:=by rw[if_neg (by rw[S4];simp)];refine Bh ?_;obtain⟨o',g1,g2,g3⟩:=iu (es':=order.filterMap (es[·]?)) (t':=t') ho AF hd;exact wpAny_storeSet_of ho hd (h _ t' o' _ (S5 _ _ _) g1 g2 g3 BL WI S4 ae3) (by rw[S4,Qr];lia)
 exact Ag Dh
def tQ{ok:A7->Prop}{a x:A7}{S:↑↑K}{ks:↑K}{Q:Bool->AQ->Prop}(BQ:A.units<Dg)(T:OC knd ok s.heap a S)(AF:O0 knd s.heap ks x)(B0:ok x)(na:∀b,ok b->b≠a)(no:ks∉S)(Mb:⇑S<76)(h:∀b h',Kz a s.heap h'->OC knd ok h' a (S++[ks])->Q b { s with heap:=h' }) :
  An Φ A (setAddHashed a (.ref x) (I_ knd ks)) Q E s:=by
 obtain⟨o,es,BA,t,ho,hex,hd,Z,X,AZ,BH⟩:=T;obtain⟨C,ZQ⟩:IJ t.mask/\t.mask%2=1:=by
  rcases BH with⟨e,_⟩|⟨e,_⟩|⟨e,_⟩<;>rw[e]
  .exact⟨jS,rfl⟩
  .exact⟨jR,rfl⟩
  .exact⟨iO,rfl⟩
 obtain⟨N,tE,Y4,Y5⟩:=Z.first (I_ knd ks);unfold setAddHashed setAddHashedIn;refine Nt (Ag (UQ ho hd Z.fits ?_));dsimp only;rw[if_neg (by simp[byScan,Value.scannable])];unfold setSearch;refine Ag (pJ BQ ho hd Z X AF no ZQ tE Y4 Y5 ?_ 100000 0 none (IB _) (by
  have:turns t.mask<=142:=by unfold turns;lia
  lia) rfl)
 dsimp only;refine Ag (UQ ho hd Z.fits ?_);dsimp only;obtain⟨p,Em,DB,Sg,-,I5⟩:=ae0 Z.tab Y4 (adx _ _ _);generalize Ac:(Ef t.mask (I_ knd ks) N).j=j at*;have Gy:=yT (e:=(I_ knd ks,Cq x)) DB
 have fin:∀pl:Bool,An Φ A (do
       storeSet a (XW es (t.put j).2 (I_ knd ks,Cq x)) { (t.put j).1 with plain:=pl }
       if(!false&&({ (t.put j).1 with plain:=pl }:Iz).tooFull)=true then do
          setRelay a (SetTable.grown (es.size+1))
          pure true
        else pure true) Q E s:=by
  intro pl;have I5:(t.put j).1.mask=t.mask:=by rw[I5]
  have Ad:Kr { (t.put j).1 with plain:=pl } (XW es (t.put j).2 (I_ knd ks,Cq x)):=⟨⟨Sg.SZ,by rw[Em,Gy];exact Sg.Ms,Sg.Th,Sg.le⟩,by rw[<-I5]at C;exact C,by rw[Em,Gy];show es.size+1<=(t.put j).1.mask;lia⟩;rw[Em]at Ad |-;obtain⟨EL,g1,g2,g3⟩:=iu (es':=XW es p (I_ knd ks,Cq x)) (t':={ (t.put j).1 with plain:=pl }) ho hex hd;have oa:=S5 s.heap a (Obj.putSet (XW es p (I_ knd ks,Cq x)) { (t.put j).1 with plain:=pl });have done:∀(h':BF)(es':Array (Int×A8))(t':Iz)(o':Obj)(No:Nat),Kz a s.heap h'->h'.get? a=↥o'->o'.ExactSet->o'.data=.set es' No t'->Kr t' es'->es'.size=es.size+1->(∀e,e∈es'.toList↔e=(I_ knd ks,Cq x)\/e∈es.toList)->((t'.mask=7/\es'.size<5)\/(t'.mask=31/\es'.size<19)\/(t'.mask=127/\es'.size<77))->Q true { s with heap:=h' }:=by
   intro h' es' t' o' No HT q1 q2 Dk LH QL NV LI;have m:∀b o,ok b->s.heap.get? b=↥o->h'.get? b=↥o:=λb o z e=>(HT.2 b (na b z)).trans e;refine h true h' HT ⟨o',es',No,t',q1,q2,Dk,LH,λe he=>?_,by rw[QL,AZ];simp,LI⟩;rcases(NV e).mp he with rfl|he
   .exact O9.to (S:=[ks]) ⟨ks,x,rfl,AF,g_ _,B0⟩ m (λk AN=>IF _ AN) λ_ z=>z
   .exact(X e he).to m (λk AN=>Gx _ AN) λ_ z=>z
  refine Ag (wpAny_storeSet_of ho hd ?_ (by rw[Gy,Qr];lia));have agC:({ (t.put j).1 with plain:=pl }:Iz).tooFull=decide ((es.size+1)*5≥t.mask*3):=by unfold SetTable.tooFull SetTable.fill;rw[Ad.tab.Ms,Ad.tab.SZ,Gy];show decide ((es.size+1+0)*5≥(t.put j).1.mask*3)=_;rw[I5]
  rw[agC];by_cases full:(es.size+1)*5≥t.mask*3
  .rw[if_pos (full:)];obtain⟨M,Bm,Cc,FF,M3,Vd⟩:∃M,IJ M/\sZ (SetTable.grown (es.size+1))=M+1/\M<=127/\es.size+1<=M/\((M=7/\es.size+1<5)\/(M=31/\es.size+1<19)\/(M=127/\es.size+1<77)):=by
    rcases BH with⟨e,l⟩|⟨e,l⟩|⟨e,l⟩
    .rw[show es.size=4 by lia];exact⟨31,jR,by decide+kernel,ε⟩
    .rw[show es.size=18 by lia];exact⟨127,iO,by decide+kernel,ε⟩
    .lia
   refine Ag (afK g1 g2 g3 Ad Bm (by rw[Gy];exact M3) Cc FF λes' t' o' h' HT q1 q2 Dk LH QL NV LI=>Bh ?_);exact done h' es' t' o' _ (oa.trans HT) q1 q2 Dk QL (by rw[NV,Gy]) (λe=>by rw[LI e,lF]) (by rw[LH,NV,Gy];exact Vd)
  .rw[if_neg (full:)];refine Bh (done _ _ _ EL _ oa g1 g2 g3 Ad Gy (λe=>lF) ?_);rw[Gy];show((t.put j).1.mask=7/\_)\/((t.put j).1.mask=31/\_)\/((t.put j).1.mask=127/\_);lia
 split
 .exact Ag (tl AF λb=>by cases b<;>exact fin _)
 .exact Ag (Bh (fin _))
end
open PyProof.Rows
section
variable{prog:C9}{w:Br}{A:D2}{E:A8->AQ->Prop}{s:AQ}{K:Type}[DecidableEq K]{knd:hI prog w K}
section
variable{R:Result->AQ->Prop}{Z:A7}{BP wr:↑A7}{G:Array GenState->Array GenState->Prop}{n:Nat}{P:Nat->A8->Prop}{St:Nat->AQ->Prop}
def Keyed(knd:hI prog w K)(keys:↑↑K)(P:Nat->A8->Prop)(no:↑A7)(h:BF):Prop:=∀i v,P i v->∃ks,keys[i]?=↥ks/\O9 knd (· ∉no) h [ks] v
def OC.moved{ok:A7->Prop}{h h':BF}{S:A7}{L:↑↑K}(T:OC knd ok h S L)(aaT:∀o,h.get? S=↥o->h'.get? S=↥o)(m:∀b o,ok b->h.get? b=↥o->h'.get? b=↥o):OC knd ok h' S L:=
 let⟨o,es,BA,t,ho,hex,hd,Z,X,r⟩:=T
 ⟨o,es,BA,t,aaT o ho,hex,hd,Z,λe he=>(X e he).to m (λ_ z=>z) λ_ z=>z,r⟩
def dq(W:WalksS prog w A.in1 Z BP wr G n P St)(S:A7)(j0:S∉BP)(keys:↑↑K)(AZ:⇑keys=n)(Bg:keys.Nodup)(A4:n<77)(BQ:A.in1.units<Dg) :
  ∀(k i:Nat)(s:AQ),n-i=k->i<=n->St i s->Keyed knd keys P (S::wr) s.heap->OC knd (· ∉S::wr) s.heap S (keys.take i)->
   (∀s',Moved (S::wr) G s s'->OC knd (· ∉S::wr) s'.heap S keys->R (.ok (.ret .none)) s')->
   MQ Φ A (.builtin "set.update.loop" ⟨[.ref S,.ref Z],[]⟩) R s:=by
 have x5:S∉wr:=λh=>j0 (W.sub _ h);have Pq:∀b∈wr,b∈S::wr:=λb A4=>Gw _ A4;have keep:∀{s s':AQ}{L:↑↑K},Moved wr G s s'->OC knd (· ∉S::wr) s.heap S L->OC knd (· ∉S::wr) s'.heap S L:=λm T=>
  T.moved (λo e=>m.heap S o x5 e) λb o nb e=>m.heap b o (λz=>nb (Pq b z)) e
 intro k;induction k with
 |zero=>
  intro i s AN hi Fj V6 T TZ;obtain rfl:i=n:=δ
  refine XI sJ ?_;rw[gW gb _];refine Ag (W.done s _ _ Fj λs' hm=>?_);rw[<-AZ,gj]at T;exact Bh (TZ s' (hm.mono Pq) (keep hm T))
 |succ k C4=>
  intro i s AN hi Fj V6 T TZ;have DI:i<n:=δ
  refine XI sJ ?_;rw[gW gb _];refine Ag (W.item i s _ _ DI Fj λv s' Db xa hm=>?_);have Sg:=keep hm T;obtain⟨ks,DH,J5,b,rfl,T4,yL,nb⟩:=V6 i v Db;obtain rfl:=List.mem_singleton.mp yL;have T4:O0 knd s'.heap J5 b:=let⟨o,it,c,ho,r⟩:=T4;⟨o,it,c,hm.heap b o (λz=>nb (Pq b z)) ho,r⟩
  show An _ A.in1 (JI [Cq b] (setAdd S (.ref b))>>=_) _ _ s';refine Ag (Nt ?_);unfold setAdd;refine Nt (Ag (wpAny_pyHash_tuple BQ T4 ?_));have AA:keys.take (i+1)=keys.take i++[J5]:=by rw[gv,DH];rfl
  have no:J5∉keys.take i:=λz=>by have:=Bg.sublist (List.take_sublist (i+1) keys);rw[AA,XX]at this;exact this.2.2 _ z _ (g_ _) rfl
  refine tQ (s:={ s' with toks:=s'.toks+(⇑J5+1) }) BQ Sg T4 nb (λb z e=>z (e▸Hs)) no (by rw[N0];lia) λc h' HT tL=>?_;have Vt:∀JJ o,JJ∉S::wr->s'.heap.get? JJ=↥o->h'.get? JJ=↥o:=λJJ o acE e=>by rw[HT.2 JJ (λz=>acE (by rw[z];exact Hs))];exact e
  refine Bh ⟨plainId_quiet gb _,C4 (i+1) _ δ DI (W.frame _ s' _ _ xa (PH _ _) λJJ cv o e=>?_) (λj v p=>?_) (by rw[AA];exact tL) λKB yP x4=>?_⟩
  .rw[HT.2 JJ (λh:JJ=S=>j0 (by rw[<-h];exact cv))];exact e
  .obtain⟨ks,e,x⟩:=V6 j v p;exact⟨ks,e,x.to (λb o nb e=>Vt b o nb (hm.heap b o (λz=>nb (Pq b z)) e)) (λ_ z=>z) λ_ z=>z⟩
  .exact TZ KB (Moved.trans W.gtrans ((hm.mono Pq).then_heap (PH _ _) Vt) yP) x4
end
noncomputable def Mr(led:Bool):Obj:={ cls:=.type "set",dict:=none,data:=.set #[] 0 (.fresh 0 0 led) }
theorem aek(a:A8){Q₁:A8->AQ->Prop}(h:Q₁ (.ref s.heap.objs.size) { s with heap:=s.heap.push (Mr (!w.params.followText "set-order")) }):MQ Φ A (.call (.builtin "set.__new__") { pos:=[.type "set",a] }) (wants Q₁ E) s:=by
 have Pq:=sub_set_self;refine codeAny_of_tree ?_;refine Ag (wpAny_of_eq (F.newCall_set_1 a) (Bh ⟨plainId_quiet F.plain_set_new _,XI F.entry_set_new ?_⟩));rw[gW F.plain_set_new _];obtain⟨AT,g,d,DW,os⟩:=s;have nn:∀{A:D2}{Q:A8->AQ->Prop}{E:A8->AQ->Prop},Q (.ref AT.objs.size) ⟨AT.push (Mr (!w.params.followText "set-order")),g,d,DW,os⟩->An Φ A (newSet (.type "set")) Q E ⟨AT,g,d,DW,os⟩:=λ{A Q E} Aa=>by unfold newSet setsByText;exact Ag (Ag (wpAny_askSetting (Bh (MJ Aa))))
 unfold Builtin.«set.__new__»;generalize hN:newSet=aiq at nn |-
 wp_walk
 exact nn (Bh h)
set_option maxHeartbeats 3200000 in
theorem u2{l:A7}{items:Array A8}{keys:↑↑K}{Q:A8->AQ->Prop}(hh:A.handled=none)(BQ:A.units+64<Dg)(AH:s.heap.IsList l items)(AN:⇑keys=items.size)(Bg:keys.Nodup)(A4:items.size<77)(hi:∀(i:Nat) v,items[i]?=↥v->∃b ks,v=.ref b/\keys[i]?=↥ks/\O0 knd s.heap ks b)(h:∀(h':BF)(DW:Nat),(∃o es BA t,h'.get? s.heap.objs.size=↥o/\o.ExactSet/\o.data=.set es BA t/\t.fits es.size=true/\es.size=⇑keys)->(∀b o,s.heap.get? b=↥o->h'.get? b=↥o)->Q (.ref s.heap.objs.size) { s with heap:=h',toks:=DW }) :
  An Φ A (call (.type "set") [.ref l]) Q E s:=by
 obtain⟨c,JA,ajB⟩:=F.called_set.mro;have ajA:=F.called_set.made;have Pq:=F.called_set.sub;refine wpAny_call (codeAny_of_tree ?_);show An _ _ (callAny (.type "set") _) _ _ _;refine Bh ⟨Code.quiet_builtin _ (by decide+kernel),XI F.entry_type_call ?_⟩;rw[Around.under_plain (weight_type_call_type "set" [.ref l] []) rfl];have h1:=F.called_set.notType;have h2:=F.called_set.canCreate;have aj4:=F.typeCall_set_1 (.ref l)
 repeat (any_goals (first|assumption|wp_step))
 refine Qi (aek (.ref l) (E:=E) (Q₁:=λobj Cx=>∃led:Bool,obj=.ref s.heap.objs.size/\Cx={ s with heap:=s.heap.push (Mr led) }) ⟨_,rfl,rfl⟩) λr Cx BH=>?_;rcases r with e|CK
 .exact BH
 .cases CK with
  |ret obj=>
   obtain⟨led,rfl,rfl⟩:=BH;have Mb:(s.heap.push (Mr led)).get? s.heap.objs.size=↥(Mr led):=Fx _ rfl;have DO:Shared.TypeIs { s with heap:=s.heap.push (Mr led) } (.ref s.heap.objs.size) "set":=⟨_,Mb,rfl⟩;have Su:=F.called_set.init.lookup;have Yp:=F.called_set.init.bind (.ref s.heap.objs.size)
   repeat (any_goals (first|assumption|wp_step))
   refine Qi (codeAny_call_builtin (R:=wants (λr Jb=>r=.none/\Q (.ref s.heap.objs.size) Jb) E) F.called_set.init.plain F.entry_set_init (check_set_init_1 DO ?_)) λaef Jb e9=>?_
   .obtain⟨ol,Sv,RN,nl,Ta⟩:=AH;obtain⟨ak7,abx,ak8,adO⟩:=ol;simp only at RN Ta;subst RN;subst Ta;have xu:(s.heap.push (Mr led)).get? l=some { cls:=.type "list",dict:=abx,data:=.seq items nl,slots:=adO }:=DU _ Sv;have aif:=F.sub_list_set;have aie:=F.sub_list_frozenset;have Jy:(Nz "list"==Nz "dict")=false:=ε
    have cP:(s.heap.push (Mr led)).IsList l items:=⟨_,xu,rfl,nl,rfl⟩;unfold Builtin.«set.__init__» noKeywords Builtin.Frozenset.updateFrom;generalize x2:pyIter=He
    wp_walk
    subst x2;refine gw cP ?_;refine Ag (wpAny_runValue ?_);have ki:l<s.heap.objs.size:=E3 Sv;have ce:(s.heap.push (Mr led)).objs.size=s.heap.objs.size+1:=Lb _ _;have jO:∀b o,s.heap.get? b=↥o->((s.heap.push (Mr led)).push { cls:=.type "list_iterator",data:=.fields #[.ref l,.int 0 0] }).get? b=↥o:=λb o e=>DU _ (DU _ e);have Vt:∀b o,s.heap.get? b=↥o->b∉s.heap.objs.size::[(s.heap.push (Mr led)).objs.size]:=λb o e=>by have:=E3 e;rw[ce];erw[Ix,PI,or_false,not_or];exact⟨F0 this,F0 (SE this)⟩
    refine dq (knd:=knd) ((Walks.list (by simp[hh]) _ l (by rw[ce];exact F0 (SE ki)) items).toS) s.heap.objs.size (by
     rw[ce];erw[Ix,PI,or_false,not_or];exact⟨F0 (PE _),Qh ki⟩) keys AN Bg A4 (by erw[Around.in1_units];lia) (items.size-0) 0 _ δ (IB _)
     ⟨⟨_,Fx _ rfl,rfl,rfl⟩,(cP.push _)⟩ (λi v p=>?_) ⟨_,#[],0,_,DU _ Mb,⟨rfl,rfl,rfl⟩,rfl,⟨⟨rfl,rfl,by simp[SetTable.fresh],by simp[SetTable.fresh]⟩,jS,IB _⟩,λe he=>(by simp at he),rfl,.inl ⟨rfl,ε⟩⟩ λs' hm T=>?_
    .obtain⟨b,ks,rfl,q,o,it,c,ho,r⟩:=hi i v p;exact⟨ks,q,ks,b,rfl,⟨o,it,c,jO b o ho,r⟩,g_ _,Vt b o ho⟩
    .obtain⟨h',g',d',agD,fF⟩:=s';obtain rfl:g'=s.gens:=hm.gens;obtain rfl:d'=s.drawn:=hm.drawn;obtain rfl:fF=s.os:=hm.os;obtain⟨o,es,BA,t,q1,q2,Dk,LH,QL,NV,LI⟩:=T;exact Bh (Bh ⟨rfl,h h' agD ⟨o,es,BA,t,q1,q2,Dk,LH.fits,NV⟩ λb o e=>hm.heap b o (Vt b o e) (jO b o e)⟩)
   .rcases aef with e|xS
    .exact e9
    .cases xS with
     |ret r=>
      obtain⟨rfl,Aa⟩:=e9
      repeat (any_goals (first|assumption|wp_step))
     |_=>cases e9
  |_=>cases BH
end
end Xk
namespace LT
open PyProof.Rows
def Q7(h:BF)(d:A7)(es:Array N1)(BA:Nat):Prop:=∃o,h.get? d=↥o/\o.ExactDict/\o.data=.dict es BA
def Q7.at{h h':BF}{d:A7}{es:Array N1}{BA:Nat}(x:Q7 h d es BA)(e:∀o,h.get? d=↥o->h'.get? d=↥o):Q7 h' d es BA:=let⟨o,ho,r⟩:=x;⟨o,e _ ho,r⟩
def Q7.typeIs{s:AQ}{d:A7}{es:Array N1}{BA:Nat}(x:Q7 s.heap d es BA):s.TypeIs (.ref d) "dict":=let⟨o,ho,c,_⟩:=x;⟨o,ho,c.1⟩
section
variable{prog:C9}{w:Br}{A:D2}{E:A8->AQ->Prop}{s:AQ}{es:Array N1}
theorem afF{d:A7}{BA:Nat}{Q:A8->AQ->Prop}(hd:(d==Ld)=false)(hm:Q7 s.heap d es BA)(HD:Q (.ref s.heap.objs.size) { s with heap:=s.heap.push { cls:=.type "dict_keyiterator",data:=.fields #[.ref d,.int 0 0,.int es.size 0,.int BA 0] } }) :
  An Φ A (pyIter (.ref d)) Q E s:=by
 have DO:s.TypeIs (.ref d) "dict":=hm.typeIs;obtain⟨o,ho,AJ,kZ⟩:=hm;refine wpAny_pyIter_slot DO F.slot_dict_iter (PF F.slot_dict_iter DO F.entry_dict_iter ?_ (F.args_dict_iter_1 _));unfold Builtin.«dict.__iter__»;refine Ag ?_;unfold Builtin.Dict.dictSlotNone;refine Ag (wpAny_notOrdered_dict DO ?_);show An _ _ (pure (Cq d)) _ _ s;refine Bh ?_;show An _ _ (sE d>>=_) _ _ s;unfold sE;rw[if_neg (by rw[hd];exact Kv)];refine Ag (Bh ?_);refine Ag (gx ho kZ ?_);refine Ag (gf ho kZ ?_);refine Ag (MJ (Bh ⟨_,rfl,"dict_keyiterator",_,⟨_,Fx _ rfl,rfl⟩,F.slot_dict_keyiterator_next.lookup,?_⟩));simpa[N4]using HD
def afE{it d:A7}{i BA:Nat}{Q:Option A8->AQ->Prop}(hit:s.heap.IsKeyIter it d i es.size BA)(hm:Q7 s.heap d es BA)(yN:i<es.size)(HD:∀h',h'.IsKeyIter it d (i+1) es.size BA->Kz it s.heap h'->Q (↥es[i].key) { s with heap:=h' }) :
  An Φ A (O5 (.ref it)) Q E s:=by
 obtain⟨o,ho,AJ,hd⟩:=id hit;obtain⟨E1,VN,LW,VK⟩:=id hm;unfold O5
 refine Ag (wpAny_attempt (SA (name:=SJ "__next__") hit.typeIs X1
  (PF X1 hit.typeIs rt ?_ (rr _))))
 refine Ag (Bh ?_);refine Ag ?_;refine Ag ?_
 first|refine Ag (X0 hit.typeIs (Bh ?_))|refine Ag (XC hit.typeIs (Bh ?_))
 refine Ag (wpAny_fieldsOf ho hd ?_);have e6:ry "dict_keyiterator"=false:=ε
 erw[e6,Kw,if_false];show An _ _ (if(Cq d==KL)=true then _ else _) _ _ s;rw[if_neg (show¬((Cq d==KL)=true)from Kv)];refine Ag (Bh ?_);refine Ag (gx VN VK ?_);rw[if_neg γ];refine Ag (Bh ?_);refine Ag (gf VN VK ?_);rw[if_neg γ];refine Bh ?_;erw[show¬((i:Int)<0)from δ,if_false,Qe,MK yN];refine Ag ?_
 first|refine Ag (X0 hit.typeIs (Bh ?_))|refine Ag (XC hit.typeIs (Bh ?_))
 refine Ag (wpAny_isOneOf_keyiter hit.typeIs ?_);show An _ _ (setField (.ref it) 1 (N4 ((i:Int)+1))>>=_) _ _ s;refine Ag (Xd ho hd γ ?_);have YN:(s.heap.update it (Obj.mapFields (·.setIfInBounds 1 (N4 ((i:Int)+1))))).IsKeyIter it d (i+1) es.size BA:=
  ⟨_,X4 _ ho (sC (X9 hd _)),(Obj.cls_mapFields ..).trans AJ,by rw[X9 hd];simp[N4]⟩
 refine Ag (Nt ?_);refine Ag (wpAny_isOneOf_keyiter (s:={ s with heap:=s.heap.update it (Obj.mapFields (·.setIfInBounds 1 (N4 ((i:Int)+1)))) }) YN.typeIs ?_);show An _ _ (pure es[i].key) _ _ _;exact Bh (Bh ⟨_,rfl,Bh (HD _ YN (S5 ..))⟩)
def afD{it d:A7}{BA:Nat}{Q:Option A8->AQ->Prop}(hh:A.handled=none)(hit:s.heap.IsKeyIter it d es.size es.size BA)(hm:Q7 s.heap d es BA)(HD:∀h',Heap.ExtBut it s.heap h'->Q none { s with heap:=h' }):An Φ A (O5 (.ref it)) Q E s:=by
 obtain⟨o,ho,AJ,hd⟩:=id hit;obtain⟨E1,VN,LW,VK⟩:=id hm;unfold O5
 refine Ag (wpAny_attempt (SA (name:=SJ "__next__") hit.typeIs X1
  (PF X1 hit.typeIs rt ?_ (rr _))))
 refine Ag (Bh ?_);refine Ag ?_;refine Ag ?_
 first|refine Ag (X0 hit.typeIs (Bh ?_))|refine Ag (XC hit.typeIs (Bh ?_))
 refine Ag (wpAny_fieldsOf ho hd ?_);have e6:ry "dict_keyiterator"=false:=ε
 erw[e6,Kw,if_false];show An _ _ (if(Cq d==KL)=true then _ else _) _ _ s;rw[if_neg (show¬((Cq d==KL)=true)from Kv)];refine Ag (Bh ?_);refine Ag (gx VN VK ?_);rw[if_neg γ];refine Ag (Bh ?_);refine Ag (gf VN VK ?_);rw[if_neg γ];refine Bh ?_;erw[show¬((es.size:Int)<0)from δ,if_false,Qe,Array.getElem?_eq_none (C5 es.size)];refine Ag ?_
 first|refine Ag (X0 hit.typeIs (Bh ?_))|refine Ag (XC hit.typeIs (Bh ?_))
 show An _ _ (setField (.ref it) 0 .none>>=_) _ _ s;refine Ag (Xd ho hd γ ?_);show An _ _ (newExc (.type "StopIteration") []>>=_) _ _ _;refine Ag ?_;erw[newExc,newTuple];refine Ag (MJ ?_ (by size_fits));refine Ag (m:=Xe _ _) (wpAny_of_eq (a:=KL) (by first|rfl|(erw[Xe];rfl)) ?_);refine MJ ?_ (by size_fits);erw[raiseNew];refine Ag (wpAny_handled ?_);rw[show A.in1.handled=none from hh];refine Ag (Bh (wpAny_throw ?_));refine Ag (wpAny_isInstance (T:="StopIteration") (b:=true) ⟨_,Fx _ rfl,rfl⟩ isSubtype_stop ?_);exact Bh (HD _ (((S5 ..).extBut.push _).push _))
end
end LT
namespace BX
open PySem BU
inductive W where
 |non|AO (b:Bool)|int (i:Int)|str (x:Str)|tup (ws:↑W)|I8 (ws:↑W)|Df (ws:↑W)|ref (n:Nat)|P2 (c:Str)
inductive Q9 where
 |lst|B8 (ks:↑Key)|Gn (ks:↑Key)|Dx (ks:↑Et)|ins (c:Str) (ns:↑Str)
 deriving DecidableEq
structure O where
 k:Q9
 ws:↑W
abbrev A5:=↑O
def Ia(K:Ap)(c:Str)(C:A7):Prop:=JH K FM c=↥↥(.ref C)
def cF(K:Ap)(H:AD)(a:A7)(xs:↑V):Prop:=(∃o,H a=↥(.D7 o (.lst xs)))\/∃(o:Obj)(its:Array A8)(n:Nat),K.lookup a=↥o/\o.cls=.type "list"/\o.dict=none/\o.data=.seq its n/\its.size<=CW/\Vals xs its.toList
def cF.Ci{K:Ap}{H:AD}{a:A7}{xs:↑V}(h:cF K H a xs):Eu K H a xs:=h.elim (λ⟨o,e⟩=>.inl (.inr ⟨o,e⟩)) .inr
mutual
noncomputable def AW(K:Ap)(φ:↑A7)(H:AD):W->V->Prop
 |.non,v=>v=.non
 |.AO b,v=>v=.AO b
 |.int i,v=>v=.int i
 |.str x,v=>v=.str x
 |.tup ws,v=>∃a xs,v=.ref a/\H a=↥(.tup xs)/\Al K φ H ws xs
 |.I8 ws,v=>∃a xs,v=.ref a/\Ek K H a xs/\Al K φ H ws xs
 |.Df ws,v=>∃a xs,v=.ref a/\cF K H a xs/\Al K φ H ws xs
 |.ref n,v=>∃a,v=.ref a/\φ[n]?=↥a
 |.P2 c,v=>∃a C,v=.ref a/\Ia K c C/\H a=↥(uV a (.ref C))
noncomputable def Al(K:Ap)(φ:↑A7)(H:AD):↑W->↑V->Prop
 |[],vs=>vs=[]
 |w::ws,vs=>∃v r,vs=v::r/\AW K φ H w v/\Al K φ H ws r
end
def Still:F3->Prop
 |.tup _=>True
 |.D7 _ _=>True
 |.ext _=>True
 |_=>False
structure Aj(φ:↑A7)(H:AD)(BM:↑A7)(A9:AD):Prop where
 p:φ<+: BM
 t:∀b o,H b=↥o->Still o->A9 b=↥o
section
variable{K:Ap}{φ BM CQ:↑A7}{H A9 AU:AD}
def Aj.refl(φ:↑A7)(H:AD):Aj φ H φ H:=⟨Ua,λ_ _ e _=>e⟩
theorem Aj.trans(a:Aj φ H BM A9)(b:Aj BM A9 CQ AU):Aj φ H CQ AU:=⟨a.p.trans b.p,λc o e s=>b.t c o (a.t c o e s) s⟩
def GD{α:Type}{l dc:↑α}(p:l<+: dc){n:Nat}{a:α}(e:l[n]?=↥a):dc[n]?=↥a:=by obtain⟨r,rfl⟩:=p;rw[GW (List.getElem?_eq_some_iff.mp e).1];exact e
def Ek.ex(x:Aj φ H BM A9){a:A7}{xs:↑V}(h:Ek K H a xs):Ek K A9 a xs:=by
 rcases h with(h|⟨o,h⟩)|h
 .exact .inl (.inl (x.t _ _ h trivial))
 .exact .inl (.inr ⟨o,x.t _ _ h trivial⟩)
 .exact .inr h
mutual
theorem AW.ex(x:Aj φ H BM A9):∀{w:W}{v:V},AW K φ H w v->AW K BM A9 w v
 |.non,_,h|.AO _,_,h|.int _,_,h|.str _,_,h=>by simpa only[AW]using h
 |.tup _,_,h=>by erw[AW]at h |-;obtain⟨a,xs,e,q,r⟩:=h;exact⟨a,xs,e,x.t _ _ q trivial,Al.ex x r⟩
 |.I8 _,_,h=>by erw[AW]at h |-;obtain⟨a,xs,e,q,r⟩:=h;exact⟨a,xs,e,Ek.ex x q,Al.ex x r⟩
 |.Df _,_,h=>by erw[AW]at h |-;obtain⟨a,xs,e,q,r⟩:=h;exact⟨a,xs,e,q.elim (λ⟨o,q⟩=>.inl ⟨o,x.t _ _ q trivial⟩) .inr,Al.ex x r⟩
 |.ref _,_,h=>by erw[AW]at h |-;obtain⟨a,e,q⟩:=h;exact⟨a,e,GD x.p q⟩
 |.P2 _,_,h=>by erw[AW]at h |-;obtain⟨a,C,e,c,q⟩:=h;exact⟨a,C,e,c,x.t _ _ q trivial⟩
theorem Al.ex(x:Aj φ H BM A9):∀{ws:↑W}{vs:↑V},Al K φ H ws vs->Al K BM A9 ws vs
 |[],_,h=>by simpa only[Al]using h
 |_::_,_,h=>by erw[Al]at h |-;obtain⟨v,r,e,q,t⟩:=h;exact⟨v,r,e,AW.ex x q,Al.ex x t⟩
end
def Al.nil:Al K φ H [] []:=by erw[Al]
def Al.cons{w:W}{ws:↑W}{v:V}{vs:↑V}(a:AW K φ H w v)(b:Al K φ H ws vs):Al K φ H (w::ws) (v::vs):=by erw[Al];exact⟨v,vs,rfl,a,b⟩
theorem Al.length:∀{ws:↑W}{vs:↑V},Al K φ H ws vs->⇑ws=⇑vs
 |[],_,h=>by erw[Al]at h;subst h;rfl
 |_::_,_,h=>by erw[Al]at h;obtain⟨v,r,rfl,_,t⟩:=h;simp[Al.length t]
theorem Al.get:∀{ws:↑W}{vs:↑V}{i:Nat}{w:W},Al K φ H ws vs->ws[i]?=↥w->∃v,vs[i]?=↥v/\AW K φ H w v
 |[],_,_,_,_,e=>by simp at e
 |_::_,_,0,_,h,e=>by erw[Al]at h;obtain⟨v,r,rfl,q,_⟩:=h;simp at e;subst e;exact⟨v,rfl,q⟩
 |_::_,_,i+1,w,h,e=>by erw[Al]at h;obtain⟨v,r,rfl,_,t⟩:=h;obtain⟨u,h1,h2⟩:=Al.get (i:=i) (w:=w) t (e:);exact⟨u,(h1:),h2⟩
theorem Al.append:∀{ws us:↑W}{vs ys:↑V},Al K φ H ws vs->Al K φ H us ys->Al K φ H (ws++us) (vs++ys)
 |[],_,_,_,h,t=>by erw[Al]at h;subst h;exact t
 |_::_,_,_,_,h,t=>by erw[Al]at h;obtain⟨v,r,rfl,q,s⟩:=h;exact .cons q (Al.append s t)
theorem Al.take:∀(n:Nat){ws:↑W}{vs:↑V},Al K φ H ws vs->Al K φ H (ws.take n) (vs.take n)
 |0,_,_,_=>(Al.nil:)
 |_+1,[],_,h=>by erw[Al]at h;subst h;simpa using Al.nil
 |n+1,_::_,_,h=>by erw[Al]at h;obtain⟨v,r,rfl,q,t⟩:=h;exact .cons q (Al.take n t)
theorem Al.drop:∀(n:Nat){ws:↑W}{vs:↑V},Al K φ H ws vs->Al K φ H (ws.drop n) (vs.drop n)
 |0,_,_,h=>h
 |_+1,[],_,h=>by erw[Al]at h;subst h;simpa using Al.nil
 |n+1,_::_,_,h=>by erw[Al]at h;obtain⟨v,r,rfl,_,t⟩:=h;exact Al.drop n t
theorem Al.set{w:W}{v:V}(q:AW K φ H w v):∀(n:Nat){ws:↑W}{vs:↑V},Al K φ H ws vs->Al K φ H (ws.set n w) (vs.set n v)
 |_,[],_,h=>by erw[Al]at h;subst h;simpa using Al.nil
 |0,_::_,_,h=>by erw[Al]at h;obtain⟨u,r,rfl,_,t⟩:=h;exact .cons q t
 |n+1,_::_,_,h=>by erw[Al]at h;obtain⟨u,r,rfl,p,t⟩:=h;exact .cons p (Al.set q n t)
end
def Mv(K:Ap)(H:AD)(a:A7)(xs:↑V):Q9->Prop
 |.lst=>H a=↥(.lst xs)
 |.B8 ks=>∃AC,H a=↥(.B8 AC)/\AC.map (·.1)=ks/\AC.map (·.2)=xs
 |.Gn ks=>∃o AC,H a=↥(.D7 o (.B8 AC))/\AC.map (·.1)=ks/\AC.map (·.2)=xs
 |.Dx ks=>∃AC,H a=↥(.Dx AC)/\AC.map (·.1)=ks/\AC.map (·.2)=xs
 |.ins c ns=>∃C Bs B7,Ia K c C/\H a=↥(.ins C Bs B7)/\B7.map (·.1)=ns/\B7.map (·.2)=xs
structure DM(K:Ap)(φ:↑A7)(h:A5)(H:AD):Prop where
 Bg:φ.Nodup
 len:⇑φ=⇑h
 BI:∀(n:Nat) o a,h[n]?=↥o->φ[n]?=↥a->∃xs,Mv K H a xs o.k/\Al K φ H o.ws xs
abbrev B5:=↑(Option W)
structure DF where
 K:Ap
 DS:↑A7
 C0:AD
 Mu:Str->AD->Prop
structure Rel(F:DF)(φ:↑A7)(h:A5)(H:AD)(σ :St)(ρ:B5):Prop where
 hd:DM F.K φ h H
 x0:Aj F.DS F.C0 φ H
 len:⇑σ =⇑ρ
 C3:∀(i:Nat) w,ρ[i]?=↥↥w->∃v,σ[i]?=↥↥v/\AW F.K φ H w v
inductive R(α:Type) where
 |ok (a:α)|exc (c:Str) (h:A5)|bad
noncomputable def R.bind{α β:Type}:R α->(α->R β)->R β
 |.ok a,k=>k a
 |.exc c h,_=>.exc c h
 |.bad,_=>.bad
abbrev M(α:Type):=B5->A5->R (α×A5)
def eQ(F:DF)(φ:↑A7)(H:AD)(c:Str)(h':A5):Prop:=∀BM A9,Aj φ H BM A9->DM F.K BM h' A9->F.Mu c A9
def EU{α β:Type}(rel:Ap->↑A7->AD->α->β->Prop)(F:DF)(φ:↑A7)(H:AD)(σ :St)(ρ:B5)(Q:β->AD->Prop):R (α×A5)->Prop
 |.ok (a,h')=>∀b BM A9,Rel F BM h' A9 σ ρ->Aj φ H BM A9->rel F.K BM A9 a b->Q b A9
 |.exc c h'=>eQ F φ H c h'
 |.bad=>False
def MF{α β:Type}(rel:Ap->↑A7->AD->α->β->Prop)(F:DF)(m:M α)(σ :St)(H:AD)(Q:β->AD->Prop):Prop:=∃φ ρ h,Rel F φ h H σ ρ/\EU rel F φ H σ ρ Q (m ρ h)
def m3(_:Ap)(_:↑A7)(_:AD)(a b:Bool):Prop:=b=a
abbrev BB:=M W
abbrev DT:=M Bool
abbrev E6:=M ↑W
abbrev CA(F:DF)(m:BB):TE:=MF AW F m
abbrev Hn(F:DF)(m:DT):TT:=MF m3 F m
abbrev GY(F:DF)(m:E6):Fb:=MF Al F m
noncomputable def bd{α β:Type}(m:M α)(k:α->M β):M β:=λρ h=>(m ρ h).bind λp=>k p.1 ρ p.2
section
variable{F:DF}{φ BM:↑A7}{H A9:AD}{σ :St}{ρ:B5}{h:A5}{α β MH fq:Type}{rel:Ap->↑A7->AD->α->β->Prop}{bB:Ap->↑A7->AD->MH->fq->Prop}
def EU.ex{Q:β->AD->Prop}(x:Aj φ H BM A9):∀{r:R (α×A5)},EU rel F φ H σ ρ Q r->EU rel F BM A9 σ ρ Q r
 |.ok (_,_),k=>λb CQ AU r y z=>k b CQ AU r (x.trans y) z
 |.exc _ _,k=>λCQ AU y d=>k CQ AU (x.trans y) d
 |.bad,k=>k
def EU.imp{Q Hf:β->AD->Prop}(f:∀b H,Q b H->Hf b H):∀{r:R (α×A5)},EU rel F φ H σ ρ Q r->EU rel F φ H σ ρ Hf r
 |.ok (_,_),k=>λb CQ AU r y z=>f _ _ (k b CQ AU r y z)
 |.exc _ _,k=>k
 |.bad,k=>k
theorem EU.bd{m:M α}{k:α->M MH}{Q:fq->AD->Prop}{Hf:β->AD->Prop}(q:EU bB F φ H σ ρ Q (bd m k ρ h))(f:∀a b By h1 H1,Rel F By h1 H1 σ ρ->Aj φ H By H1->rel F.K By H1 a b->EU bB F By H1 σ ρ Q (k a ρ h1)->Hf b H1):EU rel F φ H σ ρ Hf (m ρ h):=by
 unfold BX.bd at q;cases e:m ρ h with
 |ok p=>rw[e]at q;obtain⟨a,h1⟩:=p;exact λb By H1 r x z=>f a b By h1 H1 r x z (EU.ex x q)
 |exc c h'=>rw[e]at q;exact q
 |bad=>rw[e]at q;cases q
theorem MF.bd{m:M α}{k:α->M MH}{Q:fq->AD->Prop}{Hf:β->AD->Prop}(q:MF bB F (bd m k) σ H Q)(f:∀a b By ρ h1 H1,Rel F By h1 H1 σ ρ->rel F.K By H1 a b->EU bB F By H1 σ ρ Q (k a ρ h1)->Hf b H1):MF rel F m σ H Hf:=by obtain⟨φ,ρ,h,r,q⟩:=q;exact⟨φ,ρ,h,r,q.bd λa b By h1 H1 r x z q=>f a b By ρ h1 H1 r z q⟩
end
section
variable{K:Ap}{φ:↑A7}{h:A5}{H:AD}{F:DF}{σ :St}{ρ:B5}
def Mv.is{a:A7}{xs:↑V}{k:Q9}(q:Mv K H a xs k):∃o,H a=↥o:=by
 cases k with
 |lst=>exact⟨_,q⟩
 |B8 ks=>obtain⟨_,e,_⟩:=q;exact⟨_,e⟩
 |Gn ks=>obtain⟨_,_,e,_⟩:=q;exact⟨_,e⟩
 |Dx ks=>obtain⟨_,e,_⟩:=q;exact⟨_,e⟩
 |ins c ns=>obtain⟨C,Bs,B7,_,e,_⟩:=q;exact⟨_,e⟩
def Mv.same{A9:AD}{a:A7}{xs:↑V}{k:Q9}(q:Mv K H a xs k)(e:A9 a=H a):Mv K A9 a xs k:=by cases k<;>erw[Mv]at q |-<;>rw[e]<;>exact q
def DM.has(d:DM K φ h H){a:A7}(m:a∈φ):∃o,H a=↥o:=by
 obtain⟨n,e⟩:=PM m;have AZ:n< ⇑h:=by rw[<-d.len];exact(List.getElem?_eq_some_iff.mp e).1
 obtain⟨xs,q,_⟩:=d.BI n _ a (C7 AZ) e;exact q.is
def DM.out(d:DM K φ h H){p:A7}(AT:H p=none):p∉φ:=λm=>by obtain⟨o,e⟩:=d.has m;rw[AT]at e;cases e
def Aj.lay{p:A7}{o:F3}(AT:H p=none):Aj φ H φ (upd H p o):=⟨Ua,λb u e _=>by rw[DK (LD e AT)];exact e⟩
def Aj.VZ{p:A7}{o:F3}(AT:H p=none):Aj φ H (φ++[p]) (upd H p o):=⟨FN _ _,(Aj.lay (φ:=φ) AT).t⟩
def Aj.put{p:A7}{o u:F3}(e:H p=↥u)(s:¬Still u):Aj φ H φ (upd H p o):=⟨Ua,λb v q z=>by
 rw[DK]
 .exact q
 .rintro rfl;rw[e]at q;cases q;exact s z⟩
def DM.over{A9:AD}(d:DM K φ h H)(x:Aj φ H φ A9)(k:∀a∈φ,A9 a=H a):DM K φ h A9:=⟨d.Bg,d.len,λn o a AA AE=>by obtain⟨xs,q,r⟩:=d.BI n o a AA AE;exact⟨xs,q.same (k a (IG AE)),r.ex x⟩⟩
theorem DM.lay{p:A7}{o:F3}(d:DM K φ h H)(AT:H p=none):DM K φ h (upd H p o):=d.over (Aj.lay AT) λa m=>DK λz=>d.out AT (z▸m)
def DM.new{p:A7}{ho:F3}{k:Q9}{ws:↑W}{xs:↑V}(d:DM K φ h H)(AT:H p=none)(q:Mv K (upd H p ho) p xs k)(r:Al K φ H ws xs):DM K (φ++[p]) (h++[⟨k,ws⟩]) (upd H p ho):=by
 have x:=Aj.VZ (φ:=φ) (o:=ho) AT;refine⟨?_,by simp[d.len],λn o a AA AE=>?_⟩
 .rw[XX];exact⟨d.Bg,γ,λa AG b A4 z=>d.out AT (by rw[<-List.mem_singleton.mp A4,<-z];exact AG)⟩
 .by_cases AZ:n< ⇑h
  .rw[GW AZ]at AA;rw[GW (by rw[d.len];exact AZ)]at AE;obtain⟨ys,Cp,Bf⟩:=d.BI n o a AA AE;exact⟨ys,Cp.same (DK λz=>d.out AT (z▸IG AE)),Bf.ex x⟩
  .have e4:n=⇑h:=by
     have:=(List.getElem?_eq_some_iff.mp AA).1;simp at this;lia
   subst e4;simp at AA;rw[<-d.len]at AE;simp at AE;subst AA AE;exact⟨xs,q,r.ex x⟩
theorem DM.put{n:Nat}{a:A7}{o o':O}{u ho:F3}{xs:↑V}(d:DM K φ h H)(Az:h[n]?=↥o)(BJ:φ[n]?=↥a)(HC:H a=↥u)(st:¬Still u)(q:Mv K (upd H a ho) a xs o'.k)(r:Al K φ H o'.ws xs):DM K φ (h.set n o') (upd H a ho):=by
 have x:Aj φ H φ (upd H a ho):=Aj.put HC st;refine⟨d.Bg,by simp[d.len],λm EE b AA AE=>?_⟩;by_cases hm:n=m
 .subst hm;rw[Ku (List.getElem?_eq_some_iff.mp Az).1]at AA;rw[BJ]at AE;cases AA;cases AE;exact⟨xs,q,r.ex x⟩
 .rw[ML hm]at AA;obtain⟨ys,Cp,Bf⟩:=d.BI m EE b AA AE;refine⟨ys,Cp.same (DK λz=>?_),Bf.ex x⟩;subst z;obtain⟨CZ,Jz⟩:=List.getElem?_eq_some_iff.mp BJ;obtain⟨Fk,Ka⟩:=List.getElem?_eq_some_iff.mp AE;exact hm ((XK d.Bg).mp (Jz.trans Ka.symm))
theorem DM.at(d:DM K φ h H){n:Nat}{o:O}{v:V}(e:h[n]?=↥o)(q:AW K φ H ST v):∃a xs,v=.ref a/\φ[n]?=↥a/\Mv K H a xs o.k/\Al K φ H o.ws xs:=by erw[AW]at q;obtain⟨a,rfl,BJ⟩:=q;obtain⟨xs,q,r⟩:=d.BI n o a e BJ;exact⟨a,xs,rfl,BJ,q,r⟩
def Rel.to{BM:↑A7}{h':A5}{A9:AD}(r:Rel F φ h H σ ρ)(d:DM F.K BM h' A9)(x:Aj φ H BM A9):Rel F BM h' A9 σ ρ:=⟨d,r.x0.trans x,r.len,λi w e=>by obtain⟨v,AA,q⟩:=r.C3 i w e;exact⟨v,AA,q.ex x⟩⟩
theorem Rel.set{i:Nat}{w:W}{v:V}(r:Rel F φ h H σ ρ)(hi:i< ⇑ρ)(q:AW F.K φ H w v):Rel F φ h H (σ.set i ↥v) (ρ.set i ↥w):=⟨r.hd,r.x0,by simp[r.len],λj Cb e=>by
 by_cases Ac:i=j
 .subst Ac;rw[Ku hi]at e;cases e;exact⟨v,Ku (by rw[r.len];exact hi),q⟩
 .rw[ML Ac]at e |-;exact r.C3 j Cb e⟩
def AW.GX{n:Nat}{a:A7}(e:φ[n]?=↥a):AW K φ H ST (.ref a):=by erw[AW];exact⟨a,rfl,e⟩
def Za{p:A7}(d:DM K φ h H):(φ++[p])[⇑h]?=↥p:=by rw[<-d.len];simp
end
section
variable{F:DF}
abbrev FP(t' t:TE):Prop:=∀ σ H Q,t' σ H Q->t σ H Q
abbrev RY(t' t:TT):Prop:=∀ σ H Q,t' σ H Q->t σ H Q
abbrev bx(t' t:Fb):Prop:=∀ σ H Q,t' σ H Q->t σ H Q
abbrev Kn(t' t:F4):Prop:=∀De σ H,t' De σ H->t De σ H
def pu{α:Type}(a:α):M α:=λ_ h=>.ok (a,h)
noncomputable def I(i:Nat):BB:=λρ h=>match ρ[i]? with
 |some ↥w=>.ok (w,h)
 |_=>.bad
def yv(i:Nat):FP (CA F (I i)) (qq i):=by
 rintro σ H Q ⟨φ,ρ,h,r,q⟩;unfold I at q
 split at q
 .rename_i w e;obtain⟨v,AA,a⟩:=r.C3 i w e;exact⟨v,AA,q v φ H r (Aj.refl _ _) a⟩
 .exact q.elim
def VT{w:W}{v:V}(a:∀φ H,AW F.K φ H w v):FP (CA F (pu w)) (QU v):=by rintro σ H Q ⟨φ,ρ,h,r,q⟩;exact q v φ H r (Aj.refl _ _) (a _ _)
def A1(f:W->W->A5->R (W×A5))(a b:BB):BB:=bd a λx=>bd b λy _ h=>f x y h
def IL(F:DF)(r:EZ)(f:W->W->A5->R (W×A5)):Prop:=∀ σ ρ φ h H x y G6 H5 Q,Rel F φ h H σ ρ->AW F.K φ H G6 x->AW F.K φ H H5 y->EU AW F φ H σ ρ Q (f G6 H5 h)->r x y H Q
def Fl{r:EZ}{f:W->W->A5->R (W×A5)}{a b:BB}(ho:IL F r f):FP (CA F (A1 f a b)) (Tp r (CA F a) (CA F b)):=λσ H Q q=>
 q.bd λx v φ ρ h H1 r ER q=>⟨φ,ρ,h,r,q.bd λy u CQ h2 AU BL CT Gl q=>ho σ ρ CQ h2 AU v u x y Q BL (ER.ex CT) Gl q⟩
def B3(f:W->A5->R (W×A5))(a:BB):BB:=bd a λx _ h=>f x h
def tO(F:DF)(r:V->AD->CY->Prop)(f:W->A5->R (W×A5)):Prop:=∀ σ ρ φ h H x w Q,Rel F φ h H σ ρ->AW F.K φ H w x->EU AW F φ H σ ρ Q (f w h)->r x H Q
def yu{r:V->AD->CY->Prop}{f:W->A5->R (W×A5)}{a:BB}(ho:tO F r f):FP (CA F (B3 f a)) (qp r (CA F a)):=λσ H Q q=>
 q.bd λx v φ ρ h H1 r ER q=>ho σ ρ φ h H1 v x Q r ER q
def A2:E6:=pu []
def J(a:BB)(r:E6):E6:=bd a λx=>bd r λxs=>pu (x::xs)
def VV:bx (GY F A2) aX:=by rintro σ H Q ⟨φ,ρ,h,r,q⟩;exact q [] φ H r (Aj.refl _ _) .nil
def a0{a:BB}{m:E6}:bx (GY F (J a m)) (aT (CA F a) (GY F m)):=λσ H Q q=>
 q.bd λx v φ ρ h H1 r ER q=>⟨φ,ρ,h,r,q.bd λxs vs CQ h2 AU BL CT as q=>q (v::vs) CQ AU BL (Aj.refl _ _) (.cons (ER.ex CT) as)⟩
def B1:Nat:=1000000
def As(m:E6):BB:=bd m λxs=>if ⇑xs<=B1 then pu (.tup xs)else λ_ _=>.bad
def yt{m:E6}:FP (CA F (As m)) (qo (GY F m)):=λσ H Q q=>
 q.bd λxs vs φ ρ h H1 r as q=>by
   by_cases AH:⇑xs<=B1
   .rw[if_pos AH]at q;refine⟨by rw[<- ⇑as];exact Iw AH ε,λp AT=>?_⟩;refine q (.ref p) φ _ (r.to (r.hd.lay AT) (Aj.lay AT)) (Aj.lay AT) ?_;erw[AW];exact⟨p,vs,rfl,EM,as.ex (Aj.lay AT)⟩
   .rw[if_neg AH]at q;cases q
noncomputable def nw(k:Q9)(ws:↑W)(h:A5):R (W×A5):=if ⇑ws<=B1 then .ok (.ref ⇑h,h++[⟨k,ws⟩])else .bad
def QI{φ:↑A7}{h:A5}{H:AD}{σ :St}{ρ:B5}{Q:CY}{k:Q9}{ws:↑W}{xs:↑V}{ho:F3}{p:A7}(r:Rel F φ h H σ ρ)(q:EU AW F φ H σ ρ Q (nw k ws h))(AT:H p=none)(o:Mv F.K (upd H p ho) p xs k)(as:Al F.K φ H ws xs):Q (.ref p) (upd H p ho):=by
 unfold nw at q
 split at q
 .exact q (.ref p) (φ++[p]) _ (r.to (r.hd.new AT o as) (Aj.VZ AT)) (Aj.VZ AT) (.GX (Za r.hd))
 .exact q.elim
def dW{φ:↑A7}{h:A5}{H:AD}{σ :St}{ρ:B5}{Q:CY}{k:Q9}{ws:↑W}(q:EU AW F φ H σ ρ Q (nw k ws h)):⇑ws<=B1:=by
 unfold nw at q
 split at q
 .assumption
 .exact q.elim
def Bd(m:E6):BB:=bd m λxs _ h=>nw .lst xs h
def zS{m:E6}:FP (CA F (Bd m)) (rM (GY F m)):=λσ H Q q=>
 q.bd λxs vs φ ρ h H1 r as q=>⟨by rw[<- ⇑as];exact Iw (dW q) ε,λp AT=>QI r q AT EM as⟩
noncomputable def MX{α:Type}(k:Bool->M α):W->M α
 |.AO b=>k b
 |_=>λ_ _=>.bad
def AV(m:BB):DT:=bd m (MX pu)
def Uz{α β:Type}{rel:Ap->↑A7->AD->α->β->Prop}{k:Bool->M α}{φ:↑A7}{h:A5}{H:AD}{σ :St}{ρ:B5}{Q:β->AD->Prop}{w:W}{v:V}(a:AW F.K φ H w v)(q:EU rel F φ H σ ρ Q (MX k w ρ h)):∃c,v=.AO c/\EU rel F φ H σ ρ Q (k c ρ h):=by cases w<;>first|exact q.elim|(erw[AW]at a;exact⟨_,a,q⟩)
def KY{m:BB}:RY (Hn F (AV m)) (ft (CA F m)):=λσ H Q q=>
 q.bd λx v φ ρ h H1 r ER q=>let⟨c,e,q⟩:=Uz ER q;⟨c,e,q c φ H1 r (Aj.refl _ _) rfl⟩
def F9(a b:DT):DT:=bd a λc=>if c=true then b else pu false
def FU(a b:DT):DT:=bd a λc=>if c=true then pu true else b
def Du(a:DT):DT:=bd a λc=>pu (!c)
def zA{a b:DT}:RY (Hn F (F9 a b)) (rA (Hn F a) (Hn F b)):=λσ H Q q=>
 q.bd λx c φ ρ h H1 r e q=>by
   cases e;cases x with
   |true=>exact⟨φ,ρ,h,r,q⟩
   |false=>exact q false φ H1 r (Aj.refl _ _) rfl
def yg{a b:DT}:RY (Hn F (FU a b)) (qe (Hn F a) (Hn F b)):=λσ H Q q=>
 q.bd λx c φ ρ h H1 r e q=>by
   cases e;cases x with
   |false=>exact⟨φ,ρ,h,r,q⟩
   |true=>exact q true φ H1 r (Aj.refl _ _) rfl
def ye{a:DT}:RY (Hn F (Du a)) (qc (Hn F a)):=λσ H Q q=>
 q.bd λx c φ ρ h H1 r e q=>by cases e;exact q _ φ H1 r (Aj.refl _ _) rfl
def Kc(a b:BB):BB:=bd a (MX λc=>if c=true then b else pu (.AO false))
def WX(a b:BB):BB:=bd a (MX λc=>if c=true then pu (.AO true)else b)
def PU(a:BB):BB:=bd a (MX λc=>pu (.AO (!c)))
def NX{K:Ap}{φ:↑A7}{H:AD}(b:Bool):AW K φ H (.AO b) (.AO b):=by erw[AW]
def zB{a b:BB}:FP (CA F (Kc a b)) (rB (CA F a) (CA F b)):=λσ H Q q=>
 q.bd λx v φ ρ h H1 r ER q=>by
   obtain⟨c,e,q⟩:=Uz ER q;refine⟨c,e,?_⟩;cases c with
   |true=>exact⟨φ,ρ,h,r,q⟩
   |false=>exact q _ φ H1 r (Aj.refl _ _) (NX _)
def yh{a b:BB}:FP (CA F (WX a b)) (qf (CA F a) (CA F b)):=λσ H Q q=>
 q.bd λx v φ ρ h H1 r ER q=>by
   obtain⟨c,e,q⟩:=Uz ER q;refine⟨c,e,?_⟩;cases c with
   |false=>exact⟨φ,ρ,h,r,q⟩
   |true=>exact q _ φ H1 r (Aj.refl _ _) (NX _)
def yf{a:BB}:FP (CA F (PU a)) (qd (CA F a)):=λσ H Q q=>
 q.bd λx v φ ρ h H1 r ER q=>let⟨c,e,q⟩:=Uz ER q;⟨c,e,q _ φ H1 r (Aj.refl _ _) (NX _)⟩
def NM{α:Type}(c:DT)(a b:M α):M α:=bd c λk=>if k=true then a else b
def zP{c:DT}{a b:BB}:FP (CA F (NM c a b)) (rK (Hn F c) (CA F a) (CA F b)):=λσ H Q q=>
 q.bd λx k φ ρ h H1 r e q=>by cases e;cases x<;>exact⟨φ,ρ,h,r,q⟩
inductive FK where
 |AM (ρ:B5)|Dq (w:W)|BN (ρ:B5)|D6 (ρ:B5)
abbrev Af:=M FK
def ED(F:DF)(φ:↑A7)(H:AD)(De:Ends):R (FK×A5)->Prop
 |.ok (.AM EO,h')=>∀ σ' BM A9,Rel F BM h' A9 σ' EO->Aj φ H BM A9->De.AM σ' A9
 |.ok (.BN EO,h')=>∀ σ' BM A9,Rel F BM h' A9 σ' EO->Aj φ H BM A9->De.BN σ' A9
 |.ok (.D6 EO,h')=>∀ σ' BM A9,Rel F BM h' A9 σ' EO->Aj φ H BM A9->De.D6 σ' A9
 |.ok (.Dq w,h')=>∀v BM A9,DM F.K BM h' A9->Aj φ H BM A9->AW F.K BM A9 w v->De.Dq v A9
 |.exc c h'=>eQ F φ H c h'
 |.bad=>False
noncomputable def GF(F:DF)(m:Af):F4:=λDe σ H=>∃φ ρ h,Rel F φ h H σ ρ/\ED F φ H De (m ρ h)
def ED.ex{φ BM:↑A7}{H A9:AD}{De:Ends}(x:Aj φ H BM A9):∀{r:R (FK×A5)},ED F φ H De r->ED F BM A9 De r
 |.ok (.AM _,_),k|.ok (.BN _,_),k|.ok (.D6 _,_),k=>λσ' CQ AU r y=>k σ' CQ AU r (x.trans y)
 |.ok (.Dq _,_),k=>λv CQ AU d y a=>k v CQ AU d (x.trans y) a
 |.exc _ _,k=>λCQ AU y d=>k CQ AU (x.trans y) d
 |.bad,k=>k
theorem ED.bd{α β:Type}{rel:Ap->↑A7->AD->α->β->Prop}{m:M α}{k:α->Af}{φ:↑A7}{h:A5}{H:AD}{σ :St}{ρ:B5}{De:Ends}{Hf:β->AD->Prop}(q:ED F φ H De (bd m k ρ h))(f:∀a b By h1 H1,Rel F By h1 H1 σ ρ->Aj φ H By H1->rel F.K By H1 a b->ED F By H1 De (k a ρ h1)->Hf b H1):EU rel F φ H σ ρ Hf (m ρ h):=by
 unfold BX.bd at q;cases e:m ρ h with
 |ok p=>rw[e]at q;obtain⟨a,h1⟩:=p;exact λb By H1 r x z=>f a b By h1 H1 r x z (ED.ex x q)
 |exc c h'=>rw[e]at q;exact q
 |bad=>rw[e]at q;cases q
theorem GF.bd{α β:Type}{rel:Ap->↑A7->AD->α->β->Prop}{m:M α}{k:α->Af}{H:AD}{σ :St}{De:Ends}{Hf:β->AD->Prop}(q:GF F (bd m k) De σ H)(f:∀a b By ρ h1 H1,Rel F By h1 H1 σ ρ->rel F.K By H1 a b->ED F By H1 De (k a ρ h1)->Hf b H1):MF rel F m σ H Hf:=by obtain⟨φ,ρ,h,r,q⟩:=q;exact⟨φ,ρ,h,r,ED.bd q λa b By h1 H1 r x z q=>f a b By ρ h1 H1 r z q⟩
def B_:Af:=λρ h=>.ok (.AM ρ,h)
noncomputable def AK(a b:Af):Af:=λρ h=>(a ρ h).bind λp=>match p with
 |(.AM EO,h')=>b EO h'
 |p=>.ok p
def eI:Kn (GF F B_) aW:=by rintro De σ H ⟨φ,ρ,h,r,q⟩;exact q σ φ H r (Aj.refl _ _)
def yo{a b:Af}:Kn (GF F (AK a b)) (qk (GF F a) (GF F b)):=by
 rintro De σ H ⟨φ,ρ,h,r,q⟩;refine⟨φ,ρ,h,r,?_⟩;unfold AK at q;cases e:a ρ h with
 |ok p=>
  rw[e]at q;obtain⟨f,h1⟩:=p;cases f with
  |AM EO=>exact λσ' BM A9 Bf x=>⟨BM,EO,h1,Bf,ED.ex x q⟩
  |_=>exact q
 |exc c h'=>rw[e]at q;exact q
 |bad=>rw[e]at q;cases q
def EV(a:BB):Af:=bd a λ_=>B_
def zK{a:BB}:Kn (GF F (EV a)) (rI (CA F a)):=λDe σ H q=>
 q.bd λx v φ ρ h H1 r ER q=>q σ φ H1 r (Aj.refl _ _)
def At(a:BB):Af:=bd a λw _ h=>.ok (.Dq w,h)
def ym{a:BB}:Kn (GF F (At a)) (qi (CA F a)):=λDe σ H q=>
 q.bd λx v φ ρ h H1 r ER q=>q v φ H1 r.hd (Aj.refl _ _) ER
def yn:Kn (GF F (At (pu .non))) qj:=by rintro De σ H ⟨φ,ρ,h,r,q⟩;exact q .non φ H r.hd (Aj.refl _ _) (by erw[AW])
def BZ(c:DT)(a b:Af):Af:=bd c λk=>if k=true then a else b
def zQ{c:DT}{a b:Af}:Kn (GF F (BZ c a b)) (rL (Hn F c) (GF F a) (GF F b)):=λDe σ H q=>
 q.bd λx k φ ρ h H1 r e q=>by cases e;cases x<;>exact⟨φ,ρ,h,r,q⟩
abbrev DN:=W->Af
noncomputable def A6(i:Nat):DN:=λw ρ h=>if i< ⇑ρ then .ok (.AM (ρ.set i ↥w),h)else .bad
noncomputable def ME(F:DF)(g:DN):Ju:=λv σ H Q=>∃φ ρ h w,Rel F φ h H σ ρ/\AW F.K φ H w v/\ED F φ H ⟨Q,λ_ _=>False,λ_ _=>False,λ_ _=>False⟩ (g w ρ h)
abbrev Y1(t' t:Ju):Prop:=∀v σ H Q,t' v σ H Q->t v σ H Q
def VU(i:Nat):Y1 (ME F (A6 i)) (Ym i):=by
 rintro v σ H Q ⟨φ,ρ,h,w,r,a,q⟩;unfold A6 at q
 split at q
 .rename_i hi;exact q _ φ H (r.set hi a) (Aj.refl _ _)
 .exact q.elim
def AR(a:BB)(g:DN):Af:=bd a g
end
end BX
namespace BX
inductive Co where
 |non|AO (b:Bool)|int (i:Int)|str (x:Str)|Ci (t:Bool) (ds:↑Co)
mutual
noncomputable def G7(K:Ap)(H:AD):Co->V->Prop
 |.non,v=>v=.non
 |.AO b,v=>v=.AO b
 |.int i,v=>v=.int i
 |.str x,v=>v=.str x
 |.Ci t ds,v=>∃a xs,v=.ref a/\(if t=true then Ek K H a xs else Eu K H a xs)/\II K H ds xs
noncomputable def II(K:Ap)(H:AD):↑Co->↑V->Prop
 |[],vs=>vs=[]
 |d::ds,vs=>∃v r,vs=v::r/\G7 K H d v/\II K H ds r
end
mutual
noncomputable def eqT:Co->Co->Bool
 |.non,d=>match d with
  |.non=>true
  |_=>false
 |.AO a,d=>match d with
  |.AO b=>a==b
  |.int b=>(if a then 1 else 0)==b
  |_=>false
 |.int a,d=>match d with
  |.AO b=>a==(if b then 1 else 0)
  |.int b=>a==b
  |_=>false
 |.str a,d=>match d with
  |.str b=>a==b
  |_=>false
 |.Ci t xs,d=>match d with
  |.Ci u ys=>t==u&&Gg xs ys
  |_=>false
noncomputable def Gg:↑Co->↑Co->Bool
 |[],ys=>ys.isEmpty
 |x::xs,ys=>match ys with
  |y::ys=>eqT x y&&Gg xs ys
  |[]=>false
end
noncomputable def GB:Nat->Co->Bool
 |0,.Ci _ _=>false
 |n+1,.Ci _ ds=>ds.all (GB n)
 |_,_=>true
def N6(K:Ap)(H:AD)(d:Co)(u:A8):Prop:=∃x,G7 K H d x/\RelV x u
section
variable{X:Ar}{A3:μ}{σ :St}{H:AD}{s:AQ}{K:Ap}
theorem II.length:∀{ds:↑Co}{vs:↑V},II K H ds vs->⇑ds=⇑vs
 |[],_,h=>by erw[II]at h;subst h;rfl
 |_::_,_,h=>by erw[II]at h;obtain⟨v,r,rfl,_,t⟩:=h;simp[II.length t]
theorem II.get:∀{ds:↑Co}{vs:↑V}{i:Nat}{d:Co},II K H ds vs->ds[i]?=↥d->∃v,vs[i]?=↥v/\G7 K H d v
 |[],_,_,_,_,e=>by simp at e
 |_::_,_,0,_,h,e=>by erw[II]at h;obtain⟨v,r,rfl,q,_⟩:=h;simp at e;subst e;exact⟨v,rfl,q⟩
 |_::_,_,i+1,d,h,e=>by erw[II]at h;obtain⟨v,r,rfl,_,t⟩:=h;obtain⟨u,h1,h2⟩:=II.get (i:=i) (d:=d) t (e:);exact⟨u,(h1:),h2⟩
def kK{ds:↑Co}{xs:↑V}{its:↑A8}(q:II K H ds xs)(r:Vals xs its):∀(i:Nat) d u,ds[i]?=↥d->its[i]?=↥u->N6 K H d u:=λi d u AA AE=>by obtain⟨v,Cd,a⟩:=q.get AA;obtain⟨Jd,Jw,Bw⟩:=r.get Cd;rw[AE]at Jw;cases Jw;exact⟨v,a,Bw⟩
inductive R5(s:AQ)(P:Co->A8->Prop):Co->A8->Prop where
 |non:R5 s P .non .none
 |AO (b:Bool):R5 s P (.AO b) (.bool b)
 |int (i:Int) (t:Tok):R5 s P (.int i) (.int i t)
 |str (x:Str) (t:Tok):R5 s P (.str x) (.str x t)
 |tup (a:A7) (ds:↑Co) (its:↑A8) (h:s.heap.IsTuple a its.toArray) (l:⇑ds=⇑its) (p:∀(i:Nat) d u,ds[i]?=↥d->its[i]?=↥u->P d u):R5 s P (.Ci true ds) (.ref a)
 |lst (a:A7) (ds:↑Co) (its:↑A8) (h:s.heap.IsList a its.toArray) (l:⇑ds=⇑its) (p:∀(i:Nat) d u,ds[i]?=↥d->its[i]?=↥u->P d u):R5 s P (.Ci false ds) (.ref a)
def bG(Z:θ){d:Co}{u:A8}(h:N6 X.K H d u):R5 s (N6 X.K H) d u:=by
 obtain⟨x,a,r⟩:=h;cases d with
 |non=>erw[G7]at a;subst a;cases r;exact .non
 |AO b=>erw[G7]at a;subst a;cases r;exact .AO b
 |int i=>erw[G7]at a;subst a;obtain⟨t,rfl⟩:=r;exact .int i t
 |str i=>erw[G7]at a;subst a;obtain⟨t,rfl⟩:=r;exact .str i t
 |Ci t ds=>
  erw[G7]at a;obtain⟨p,xs,rfl,Aa,al⟩:=a;cases r;cases t with
  |true=>obtain⟨its,Bw,B9,_⟩:=Z.tuple Aa;exact .tup p ds its B9 (al.length.trans ⇑Bw) (kK al Bw)
  |false=>obtain⟨its,Bw,B9,_⟩:=Z.list Aa;exact .lst p ds its B9.isList (al.length.trans ⇑Bw) (kK al Bw)
theorem c_:∀{xs ys:↑Co},⇑xs≠⇑ys->Gg xs ys=false
 |[],[],h=>absurd rfl h
 |[],_::_,_=>by erw[Gg];rfl
 |_::_,[],_=>by erw[Gg]
 |x::xs,y::ys,h=>by erw[Gg];rw[c_ (λe=>h (by simp[e])),SD]
def Mg(xs ys:↑Co)(j:Nat):Bool:=match xs[j]?,ys[j]? with
 |some x,↥y=>eqT x y
 |_,_=>true
def tS(f:Nat->Bool)(n:Nat):(C8 (n+1)).all f=(f 0&&(C8 n).all λj=>f (j+1)):=by rw[List.range_succ_eq_map,XZ,Ug];rfl
theorem cb:∀{xs ys:↑Co},⇑xs=⇑ys->(C8 ⇑xs).all (Mg xs ys)=Gg xs ys
 |[],[],_=>by simp[Gg]
 |[],_::_,h=>by simp at h
 |_::_,[],h=>by simp at h
 |x::xs,y::ys,h=>by
  rw[Dn,tS];have e:(λj=>Mg (x::xs) (y::ys) (j+1))=Mg xs ys:=by funext j;simp[Mg]
  rw[e,cb (h:)];erw[Gg];rfl
def YB{f:Co->Bool}{ds:↑Co}(h:ds.all f=true){i:Nat}{d:Co}(e:ds[i]?=↥d):f d=true:=List.all_eq_true.mp h d (IG e)
theorem cZ:∀(n:Nat){d:Co},GB n d=true->eqT d d=true
 |_,.non,_|_,.AO _,_|_,.int _,_|_,.str _,_=>by simp[eqT]
 |0,.Ci _ _,o=>by cases o
 |n+1,.Ci t ds,o=>by
  erw[eqT,beq_self_eq_true,X_];have go:∀l:↑Co,l.all (GB n)=true->Gg l l=true:=λl=>by
   induction l with
   |nil=>intro _;simp[Gg]
   |cons x l C4=>intro h;rw[XZ,ID]at h;erw[Gg];rw[cZ n h.1,C4 h.2];rfl
  exact go ds o
def iW(Z:θ):∀(n:Nat){d1 Eb:Co}{x:V},GB n d1=true->GB n Eb=true->G7 X.K H d1 x->G7 X.K H Eb x->d1=Eb:=by
 intro n;induction n with
 |zero=>
  intro d1 Eb x EL EE a1 a2
  cases d1<;>cases Eb<;>erw[G7]at a1 a2<;>first
   |(cases EL;done)
   |(cases EE;done)
   |(subst a1;cases a2;done)
   |(subst a1;cases a2;rfl)
 |succ n C4=>
  intro d1 Eb x EL EE a1 a2
  cases d1<;>cases Eb<;>erw[G7]at a1 a2<;>first
   |(subst a1;cases a2;done)
   |(subst a1;cases a2;rfl)
   |(obtain⟨_,_,e,_⟩:=a2;subst a1;cases e;done)
   |(obtain⟨_,_,e,_⟩:=a1;subst a2;cases e;done)
   |skip
  .rename_i t1 Fh C_ Fi;obtain⟨p,xs,rfl,h1,q1⟩:=a1;obtain⟨Dv,ys,e,h2,q2⟩:=a2;cases e;have key:t1=C_/\xs=ys:=by
    cases t1<;>cases C_
    .exact⟨rfl,Z.di h1 h2⟩
    .obtain⟨_,_,D0,_⟩:=Z.list h1;obtain⟨_,_,Cm,_⟩:=Z.tuple h2;exact absurd rfl (sP D0.isList Cm)
    .obtain⟨_,_,D0,_⟩:=Z.tuple h1;obtain⟨_,_,Cm,_⟩:=Z.list h2;exact absurd rfl (sP Cm.isList D0)
    .exact⟨rfl,Z.g6 h1 h2⟩
   obtain⟨rfl,rfl⟩:=key;have:Fh=Fi:=by
    have AH:=q1.length.trans q2.length.symm;apply List.ext_getElem?;intro i;by_cases hi:i< ⇑Fh
    .have AA:=C7 hi;have AE:=C7 (l:=Fi) (i:=i) δ;obtain⟨v,ev,E7⟩:=q1.get AA;obtain⟨JC,j5,bv⟩:=q2.get AE;rw[ev]at j5;cases j5;rw[AA,AE,C4 (YB EL AA) (YB EE AE) E7 bv]
    .rw[JE δ,JE δ]
   rw[this]
def jl(Z:θ):∀(n:Nat){d1 Eb:Co}{u v:A8}{A:D2},GB n d1=true->GB n Eb=true->N6 X.K H d1 u->N6 X.K H Eb v->A.units+n<Dg->
  Xg A s u v (eqT d1 Eb)/\Uk A s u v (eqT d1 Eb)/\SeqAt.RcNeAt A s u v (!eqT d1 Eb):=by
 intro n;induction n with
 |zero=>
  intro d1 Eb u v A EL EE a1 a2 BQ;have h1:=bG Z a1;have h2:=bG Z a2
  cases h1<;>cases h2<;>first
   |(cases EL;done)
   |(cases EE;done)
   |(erw[eqT,h7,Bool.not_false];refine⟨?_,?_,?_⟩<;>with_reducible first|exact .same _|exact .none_none|exact .none_bool _|exact .none_int _ _|exact .none_str _ _|exact .bool_none _|exact .bool_bool _ _|exact .bool_int _ _ _|exact .bool_str _ _ _|exact .int_none _ _|exact .int_bool _ _ _|exact .int_int _ _ _ _|exact .int_str _ _ _ _|exact .str_none _ _|exact .str_bool _ _ _|exact .str_int _ _ _ _|exact .str_str _ _ _ _)
 |succ n C4=>
  intro d1 Eb u v A EL EE a1 a2 BQ;have GO:A.units<Dg:=δ
  have h1:=bG Z a1;have h2:=bG Z a2
  have item:∀{Fh Fi:↑Co}{K_ HE:↑A8},Fh.all (GB n)=true->Fi.all (GB n)=true->⇑Fh=⇑K_->⇑Fi=⇑HE->(∀(i:Nat) d u,Fh[i]?=↥d->K_[i]?=↥u->N6 X.K H d u)->(∀(i:Nat) d u,Fi[i]?=↥d->HE[i]?=↥u->N6 X.K H d u)->
    ∀j(h1:j<K_.toArray.size)(h2:j<HE.toArray.size),Xg A.in1 s K_.toArray[j] HE.toArray[j] (Mg Fh Fi j):=λ{Fh Fi K_ HE} k1 k2 JU Lo Em DB j h1 h2=>by
   have Jz:j< ⇑Fh:=by rw[JU];simpa using h1
   have Ka:j< ⇑Fi:=by rw[Lo];simpa using h2
   have:=(C4 (A:=A.in1) (YB k1 (C7 Jz)) (YB k2 (C7 Ka)) (Em j _ K_.toArray[j] (C7 Jz) (by simp at h1;simp[h1])) (DB j _ HE.toArray[j] (C7 Ka) (by simp at h2;simp[h2])) (by show A.units+1+n<Dg;lia)).1;unfold Mg;rw[C7 Jz,C7 Ka];exact this
  have same:∀{Em DB:A7},u=.ref Em->v=.ref DB->Uk A s (.ref Em) (.ref DB) (eqT d1 Eb)->Xg A s (.ref Em) (.ref DB) (eqT d1 Eb):=λ{Em DB} AA AE w=>by
   by_cases AT:Em=DB
   .subst AT AA AE;obtain⟨Cn,b1,Aw⟩:=id a1;obtain⟨CT,F6,BL⟩:=id a2;have:Cn=CT:=RelV.inj Aw BL;subst this;rw[iW Z (n+1) EL EE b1 F6,cZ _ EE];exact SeqAt.EqAt.same _
   .exact SeqAt.EqAt.of_refs AT w
  cases h1<;>cases h2<;>first
   |(erw[eqT,h7,Bool.not_false];refine⟨?_,?_,?_⟩<;>with_reducible first|exact .same _|exact .none_none|exact .none_bool _|exact .none_int _ _|exact .none_str _ _|exact .bool_none _|exact .bool_bool _ _|exact .bool_int _ _ _|exact .bool_str _ _ _|exact .int_none _ _|exact .int_bool _ _ _|exact .int_int _ _ _ _|exact .int_str _ _ _ _|exact .str_none _ _|exact .str_bool _ _ _|exact .str_int _ _ _ _|exact .str_str _ _ _ _|exact .none_tuple ‹_› GO|exact .none_list ‹_› GO|exact .bool_tuple _ ‹_› GO|exact .bool_list _ ‹_› GO|exact .int_tuple _ _ ‹_› GO|exact .int_list _ _ ‹_› GO|exact .str_tuple _ _ ‹_› GO|exact .str_list _ _ ‹_› GO|exact .tuple_none ‹_› GO|exact .list_none ‹_› GO|exact .tuple_bool _ ‹_› GO|exact .list_bool _ ‹_› GO|exact .tuple_int _ _ ‹_› GO|exact .list_int _ _ ‹_› GO|exact .tuple_str _ _ ‹_› GO|exact .list_str _ _ ‹_› GO)
   |skip
  .rename_i Em Fh K_ t1 JU q1 DB Fi HE C_ Lo q2;have Bm:=SeqAt.RcAt.tuples (e:=Mg Fh Fi) t1 C_ GO (item EL EE JU Lo q1 q2);have Cc:=SeqAt.RcNeAt.tuples (e:=Mg Fh Fi) t1 C_ GO (item EL EE JU Lo q1 q2);have eq:((C8 (min K_.toArray.size HE.toArray.size)).all (Mg Fh Fi)&&K_.toArray.size==HE.toArray.size)=eqT (.Ci true Fh) (.Ci true Fi):=by
    rw[D_,D_,<-JU,<-Lo];erw[eqT,beq_self_eq_true,X_];by_cases AH:⇑Fh=⇑Fi
    .rw[<-AH,Nat.min_self,cb AH,beq_self_eq_true,h8]
    .rw[c_ AH];have:(⇑Fh==⇑Fi)=false:=by simpa using AH
     rw[this,SD]
   rw[eq]at Bm Cc;exact⟨same rfl rfl Bm,Bm,Cc⟩
  .rename_i Em Fh K_ t1 JU q1 DB Fi HE C_ Lo q2;have Bm:Uk A s (.ref Em) (.ref DB) (eqT (.Ci true Fh) (.Ci false Fi)):=by erw[eqT];exact SeqAt.RcAt.tuple_list t1 C_ GO
   exact⟨same rfl rfl Bm,Bm,by erw[eqT];exact SeqAt.RcNeAt.tuple_list t1 C_ GO⟩
  .rename_i Em Fh K_ t1 JU q1 DB Fi HE C_ Lo q2;have Bm:Uk A s (.ref Em) (.ref DB) (eqT (.Ci false Fh) (.Ci true Fi)):=by erw[eqT];exact SeqAt.RcAt.list_tuple t1 C_ GO
   exact⟨same rfl rfl Bm,Bm,by erw[eqT];exact SeqAt.RcNeAt.list_tuple t1 C_ GO⟩
  .rename_i Em Fh K_ t1 JU q1 DB Fi HE C_ Lo q2;have hsz:(K_.toArray.size=HE.toArray.size)=(⇑Fh=⇑Fi):=by rw[D_,D_,<-JU,<-Lo]
   by_cases AH:⇑Fh=⇑Fi
   .have Bm:=SeqAt.RcAt.lists (e:=Mg Fh Fi) t1 C_ (by rw[hsz];exact AH) GO (item EL EE JU Lo q1 q2);have Cc:=SeqAt.RcNeAt.lists (e:=Mg Fh Fi) t1 C_ (by rw[hsz];exact AH) GO (item EL EE JU Lo q1 q2);rw[D_,<-JU,cb AH]at Bm Cc;have e:Gg Fh Fi=eqT (.Ci false Fh) (.Ci false Fi):=by simp[eqT]
    rw[e]at Bm Cc;exact⟨same rfl rfl Bm,Bm,Cc⟩
   .have hz:(K_.toArray.size !=HE.toArray.size)=true:=by
      rw[D_,D_,<-JU,<-Lo];simpa using AH
    have e:eqT (.Ci false Fh) (.Ci false Fi)=false:=by erw[eqT];rw[c_ AH,SD]
    have Bm:Uk A s (.ref Em) (.ref DB) (eqT (.Ci false Fh) (.Ci false Fi)):=by rw[e];exact SeqAt.RcAt.lists_lengths t1 C_ hz GO
    exact⟨same rfl rfl Bm,Bm,by rw[e];exact SeqAt.RcNeAt.lists_lengths t1 C_ hz GO⟩
open Classical in
def M2(K:Ap)(H:AD)(d:Co)(u:A8):Bool:=if h:∃d',GB 7 d'=true/\N6 K H d' u then eqT (Classical.choose h) d else false
def u9(Z:θ){d d1:Co}{u:A8}(o:GB 7 d=true)(h:N6 X.K H d u):M2 X.K H d1 u=eqT d d1:=by have AF:∃d',GB 7 d'=true/\N6 X.K H d' u:=⟨d,o,h⟩;unfold M2;rw[dif_pos AF];obtain⟨o',Fw,G_,Bf⟩:=Classical.choose_spec AF;obtain⟨x,a,r⟩:=h;have:Fw=x:=Bf.inj r;subst this;rw[iW Z 7 o' o G_ a]
theorem YC(Z:θ){d1:Co}{x:V}{v:A8}{A:D2}(BQ:A.units+8<Dg)(EL:GB 7 d1=true)(a1:G7 X.K H d1 x)(Au:RelV x v):∀{ds:↑Co}{xs:↑V}{its:↑A8},II X.K H ds xs->Vals xs its->ds.all (GB 7)=true->
  (∀u∈its,Xg A s u v (M2 X.K H d1 u))/\its.map (M2 X.K H d1)=ds.map λy=>eqT y d1
 |[],_,_,q,r,_=>by erw[II]at q;subst q;cases r;exact⟨(λu BQ=>nomatch BQ),rfl⟩
 |d::ds,_,_,q,r,o=>by
  erw[II]at q;obtain⟨w,wr,rfl,E7,bX⟩:=q;cases r with
  |cons Aw BL=>
   rw[XZ,ID]at o;obtain⟨h1,h2⟩:=YC Z BQ EL a1 Au bX BL o.2;have e:=u9 Z (d1:=d1) o.1 ⟨w,E7,Aw⟩;refine⟨λJd hm=>?_,by rw[Do,Do,e,h2]⟩;rcases List.mem_cons.mp hm with z|hm
   .subst z;rw[e];exact(jl Z 7 (A:=A) o.1 EL ⟨w,E7,Aw⟩ ⟨x,a1,Au⟩ δ).1
   .exact h1 Jd hm
def any_map{α:Type}(l:↑α)(f:α->Bool):l.any f=(l.map f).any id:=by simp[Uh]
def b7(K:Ap)(b:Bool):EZ:=λx y H Q=>∃d1 t ds,G7 K H d1 x/\G7 K H (.Ci t ds) y/\GB 7 d1=true/\ds.all (GB 7)=true/\Q (.AO (if b then ds.any (λy=>eqT y d1)else !ds.any λy=>eqT y d1)) H
def ar(BQ:X.A.units+64<Dg):Dp X (G4 .In) (b7 X.K true)/\Dp X (G4 .NotIn) (b7 X.K false):=by
 refine⟨?_,?_⟩<;>
 .intro A3 s σ H x y v u Q Z Au Bo h;obtain⟨d1,t,ds,a1,a2,EL,EE,q⟩:=h;erw[G7]at a2;obtain⟨p,xs,rfl,Aa,al⟩:=a2;cases Bo;cases t with
  |true=>
   obtain⟨its,Bw,B9,_⟩:=Z.tuple Aa;obtain⟨h1,h2⟩:=YC Z (A:=X.A.in1) (d1:=d1) (by show X.A.units+1+8<Dg;lia) EL a1 Au al Bw EE;have e:its.any (M2 X.K H d1)=ds.any λy=>eqT y d1:=by rw[any_map,h2,<-any_map]
   erw[if_true,Kw,if_false]at q;rw[<-e]at q
   first
    |exact SeqAt.in_tupleAt (M2 X.K H d1) B9 (λw hw=>h1 w (hw:)) ⟨.AO _,H,Z,rfl,(q:)⟩
    |exact SeqAt.notIn_tupleAt (M2 X.K H d1) B9 (λw hw=>h1 w (hw:)) ⟨.AO _,H,Z,rfl,(q:)⟩
  |false=>
   obtain⟨its,Bw,B9,_⟩:=Z.list Aa;obtain⟨h1,h2⟩:=YC Z (A:=X.A.in1) (d1:=d1) (by show X.A.units+1+8<Dg;lia) EL a1 Au al Bw EE;have e:its.any (M2 X.K H d1)=ds.any λy=>eqT y d1:=by rw[any_map,h2,<-any_map]
   erw[if_true,Kw,if_false]at q;rw[<-e]at q
   first
    |exact SeqAt.in_listAt (M2 X.K H d1) B9.isList (λw hw=>h1 w (hw:)) ⟨.AO _,H,Z,rfl,(q:)⟩
    |exact SeqAt.notIn_listAt (M2 X.K H d1) B9.isList (λw hw=>h1 w (hw:)) ⟨.AO _,H,Z,rfl,(q:)⟩
def ei(K:Ap)(b:Bool):EZ:=λx y H Q=>∃d1 Eb,G7 K H d1 x/\G7 K H Eb y/\GB 8 d1=true/\GB 8 Eb=true/\Q (.AO (if b then eqT d1 Eb else !eqT d1 Eb)) H
def aq(BQ:X.A.units+64<Dg):Dp X (G4 .Eq) (ei X.K true)/\Dp X (G4 .NotEq) (ei X.K false):=by
 refine⟨?_,?_⟩<;>
 .intro A3 s σ H x y v u Q Z Au Bo h;obtain⟨d1,Eb,a1,a2,EL,EE,q⟩:=h;have z:=jl Z 8 (A:=X.A) EL EE ⟨x,a1,Au⟩ ⟨y,a2,Bo⟩ δ
  first
   |exact z.2.1 X.prog X.w X.DC _ ⟨.AO _,H,Z,rfl,q⟩
   |exact z.2.2 X.prog X.w X.DC _ ⟨.AO _,H,Z,rfl,q⟩
end
noncomputable def E2(h:A5):W->Option (Bool×↑W)
 |.tup ws=>↥(true,ws)
 |.I8 ws=>↥(true,ws)
 |.Df ws=>↥(false,ws)
 |.ref n=>match h[n]? with
  |some ⟨.lst,ws⟩=>↥(false,ws)
  |_=>none
 |_=>none
section
variable{K:Ap}{φ:↑A7}{h:A5}{H:AD}{F:DF}{σ :St}{ρ:B5}{X:Ar}
def Ja(d:DM K φ h H){w:W}{v:V}{t:Bool}{ws:↑W}(a:AW K φ H w v)(e:E2 h w=↥(t,ws)):∃p xs,v=.ref p/\(if t=true then Ek K H p xs else Eu K H p xs)/\Al K φ H ws xs:=by
 unfold E2 at e
 split at e
 .cases e;erw[AW]at a;obtain⟨p,xs,rfl,q,r⟩:=a;exact⟨p,xs,rfl,.inl (.inl q),r⟩
 .cases e;erw[AW]at a;obtain⟨p,xs,rfl,q,r⟩:=a;exact⟨p,xs,rfl,q,r⟩
 .cases e;erw[AW]at a;obtain⟨p,xs,rfl,q,r⟩:=a;exact⟨p,xs,rfl,q.Ci,r⟩
 .rename_i n
  split at e
  .rename_i Az;cases e;obtain⟨p,xs,rfl,_,q,r⟩:=d.at Az a;exact⟨p,xs,rfl,.inl (.inl q),r⟩
  .cases e
 .cases e
def CI:Nat->A5->W->Option Co
 |_,_,.non=>↥.non
 |_,_,.AO b=>↥(.AO b)
 |_,_,.int i=>↥(.int i)
 |_,_,.str x=>↥(.str x)
 |0,_,_=>none
 |n+1,h,w=>match E2 h w with
  |some (t,ws)=>(ws.mapM (CI n h)).map (.Ci t)
  |none=>none
theorem o3{n:Nat}(C4:∀{w:W}{v:V}{d:Co},CI n h w=↥d->AW K φ H w v->G7 K H d v/\GB n d=true):∀{ws:↑W}{xs:↑V}{ds:↑Co},ws.mapM (CI n h)=↥ds->Al K φ H ws xs->II K H ds xs/\ds.all (GB n)=true
 |[],_,_,e,a=>by simp at e;subst e;erw[Al]at a;subst a;simp[II]
 |w::ws,_,_,e,a=>by
  erw[Al]at a;obtain⟨v,r,rfl,a1,a2⟩:=a;rw[Ud]at e;cases AA:CI n h w with
  |none=>rw[AA]at e;cases e
  |some d=>
   rw[AA]at e;cases AE:ws.mapM (CI n h)with
   |none=>rw[AE]at e;cases e
   |some ds=>rw[AE]at e;cases e;obtain⟨b1,F6⟩:=C4 AA a1;obtain⟨Bm,Cc⟩:=o3 C4 AE a2;exact⟨by erw[II];exact⟨v,r,rfl,b1,Bm⟩,by rw[XZ,F6,Cc];rfl⟩
def Tg(d:DM K φ h H):∀(n:Nat){w:W}{v:V}{t:Co},CI n h w=↥t->AW K φ H w v->G7 K H t v/\GB n t=true:=by
 intro n;induction n with
 |zero=>
  intro w v t e a
  cases w<;>erw[CI]at e<;>first
   |(cases e;done)
   |(cases e;erw[AW]at a;exact⟨by erw[G7];exact a,rfl⟩)
 |succ m C4=>
  intro w v t e a;have Ci:∀w,(match E2 h w with|some (t,ws)=>(ws.mapM (CI m h)).map (Co.Ci t)|none=>none)=↥t->AW K φ H w v->G7 K H t v/\GB (m+1) t=true:=λw e a=>by
   split at e
   .rename_i t' ws es;obtain⟨p,xs,rfl,q,r⟩:=Ja d a es;cases AE:ws.mapM (CI m h)with
    |none=>rw[AE]at e;cases e
    |some ds=>rw[AE]at e;cases e;obtain⟨Bm,Cc⟩:=o3 (λe a=>C4 e a) AE r;exact⟨by erw[G7];exact⟨p,xs,rfl,q,Bm⟩,Cc⟩
   .cases e
  cases w<;>erw[CI]at e<;>first
   |exact Ci _ e a
   |(cases e;erw[AW]at a;exact⟨by erw[G7];exact a,rfl⟩)
def Al.one{w:W}{vs:↑V}(a:Al K φ H [w] vs):∃v,vs=[v]/\AW K φ H w v:=by erw[Al]at a;obtain⟨v,r,rfl,h,rfl⟩:=a;exact⟨v,rfl,h⟩
def Al.two{w u:W}{vs:↑V}(a:Al K φ H [w,u] vs):∃v JC,vs=[v,JC]/\AW K φ H w v/\AW K φ H u JC:=by erw[Al]at a;obtain⟨v,r,rfl,h,JC,Bf,rfl,h',rfl⟩:=a;exact⟨v,JC,rfl,h,h'⟩
abbrev J0:=W->W->A5->R (W×A5)
def Ay(b:Bool):J0:=λx y h=>match CI 8 h x,CI 8 h y with
 |some d,↥e=>.ok (.AO (if b then eqT d e else !eqT d e),h)
 |_,_=>.bad
def ZM(A_:F.K=X.K)(b:Bool):IL F (ei X.K b) (Ay b):=by
 intro σ ρ φ h H x y G6 H5 Q r a1 a2 q;unfold Ay at q
 split at q
 .rename_i d e AA AE;obtain⟨b1,Bm⟩:=Tg r.hd 8 AA a1;obtain⟨F6,Cc⟩:=Tg r.hd 8 AE a2;rw[A_]at b1 F6;exact⟨d,e,b1,F6,Bm,Cc,q _ φ H r (Aj.refl _ _) (NX _)⟩
 .exact q.elim
def a6(b:Bool):J0:=λx y h=>match CI 7 h x,CI 8 h y with
 |some d,↥(.Ci _ ds)=>.ok (.AO (if b then ds.any (λy=>eqT y d)else !ds.any λy=>eqT y d),h)
 |_,_=>.bad
def abV(A_:F.K=X.K)(b:Bool):IL F (b7 X.K b) (a6 b):=by
 intro σ ρ φ h H x y G6 H5 Q r a1 a2 q;unfold a6 at q
 split at q
 .rename_i d t ds AA AE;obtain⟨b1,Bm⟩:=Tg r.hd 7 AA a1;obtain⟨F6,Cc⟩:=Tg r.hd 8 AE a2;rw[A_]at b1 F6;exact⟨d,t,ds,b1,F6,Bm,Cc,q _ φ H r (Aj.refl _ _) (NX _)⟩
 .exact q.elim
noncomputable def KZ(f:Int->Int->Option W):J0:=λx y h=>match x,y with
 |.int i,.int j=>match f i j with
  |some w=>.ok (w,h)
  |none=>.bad
 |_,_=>.bad
def M7{g:Int->Int->V}{f:Int->Int->W}(e:∀i j K φ H,AW K φ H (f i j) (g i j)):IL F (LJ g) (KZ λi j=>↥(f i j)):=by
 intro σ ρ φ h H x y G6 H5 Q r a1 a2 q;unfold KZ at q
 split at q
 .rename_i i j;erw[AW]at a1 a2;exact⟨i,j,a1,a2,q _ φ H r (Aj.refl _ _) (e _ _ _ _ _)⟩
 .exact q.elim
def ZO{C:Int->Int->Prop}[∀i j,Decidable (C i j)]{g:Int->Int->V}{f:Int->Int->W}(e:∀i j K φ H,AW K φ H (f i j) (g i j)):IL F (Ip C g) (KZ λi j=>if C i j then↥(f i j)else none):=by
 intro σ ρ φ h H x y G6 H5 Q r a1 a2 q;unfold KZ at q
 split at q
 .rename_i i j;erw[AW]at a1 a2;dsimp only at q
  split at q
  .rename_i w hw
   split at hw
   .rename_i AJ;cases hw;exact⟨i,j,a1,a2,AJ,q _ φ H r (Aj.refl _ _) (e _ _ _ _ _)⟩
   .cases hw
  .exact q.elim
 .exact q.elim
instance(i j:Int):Decidable (S_ i j):=by unfold S_;infer_instance
instance(i j:Int):Decidable (L8 i j):=by unfold L8;infer_instance
instance(i j:Int):Decidable (O6 i j):=by unfold O6;infer_instance
def MD:=KZ λi j=>↥(.int (i-j))
def Cg:=KZ λi j=>if S_ i j then↥(.int (i/j))else none
def BR:=KZ λi j=>if 0<j then↥(.int (i%j))else none
def Oo:=KZ λi j=>if O6 i j then↥(.int (i^j.toNat))else none
def NL:=KZ λi j=>↥(.AO (decide (i<j)))
def Ln:=KZ λi j=>↥(.AO (decide (i<=j)))
def KW:=KZ λi j=>↥(.AO (decide (j<i)))
def VD:=KZ λi j=>↥(.AO (decide (j<=i)))
def aeq:=KZ λi j=>if 0<=j then↥(.int (i/2^j.toNat))else none
def u7:=KZ λi j=>↥(.int (Builtin.bitAnd i j))
noncomputable def LB(h:A5):W->Option (Nat×↑W)
 |.ref n=>match h[n]? with
  |some ⟨.lst,ws⟩=>↥(n,ws)
  |_=>none
 |_=>none
def Oa(d:DM K φ h H){w:W}{v:V}{n:Nat}{ws:↑W}(a:AW K φ H w v)(e:LB h w=↥(n,ws)):∃p xs,v=.ref p/\h[n]?=↥⟨.lst,ws⟩/\φ[n]?=↥p/\H p=↥(.lst xs)/\Al K φ H ws xs:=by
 unfold LB at e
 split at e
 .split at e
  .rename_i Az;cases e;obtain⟨p,xs,rfl,BJ,q,r⟩:=d.at Az a;exact⟨p,xs,rfl,Az,BJ,q,r⟩
  .cases e
 .cases e
def addW:J0:=λx y h=>match x,y with
 |.int i,.int j=>.ok (.int (i+j),h)
 |.str a,.str b=>if ⇑a+⇑b<=B1 then .ok (.str (a++b),h)else .bad
 |.tup a,y=>match E2 h y with
  |some (true,b)=>if a≠[]/\ ⇑a+⇑b<=B1 then .ok (.tup (a++b),h)else .bad
  |_=>.bad
 |x,y=>match LB h x,LB h y with
  |some (_,a),↥(_,b)=>nw .lst (a++b) h
  |_,_=>.bad
def m1(K:Ap):EZ:=λx y H Q=>LJ (λi j=>.int (i+j)) x y H Q\/(∃i j,x=.str i/\y=.str j/\ ⇑i+⇑j<=CW/\Q (.str (i++j)) H)\/m5 K x y H Q\/m4 x y H Q
def adB:Dp X (Jq .Add) (m1 X.K):=adA.or (adC.or (adF.or adE))
def big{n:Nat}(h:n<=B1):n<=CW:=Iw h ε
def abS(A_:F.K=X.K):IL F (m1 X.K) addW:=by
 intro σ ρ φ h H x y G6 H5 Q r a1 a2 q;unfold addW at q
 split at q
 .rename_i i j;erw[AW]at a1 a2;exact .inl ⟨i,j,a1,a2,q _ φ H r (Aj.refl _ _) (by erw[AW])⟩
 .rename_i i j;erw[AW]at a1 a2
  split at q
  .rename_i AH;exact .inr (.inl ⟨i,j,a1,a2,big AH,q _ φ H r (Aj.refl _ _) (by erw[AW])⟩)
  .exact q.elim
 .rename_i ws;erw[AW]at a1;obtain⟨p,xs,rfl,AG,Bb⟩:=a1
  split at q
  .rename_i b BC;obtain⟨DB,ys,rfl,A4,rb⟩:=Ja r.hd a2 BC;rw[A_]at A4
   split at q
   .rename_i AH;refine .inr (.inr (.inl ⟨p,DB,xs,ys,rfl,rfl,.inl (.inl AG),A4,λz=>AH.1 ?_,by rw[<- ⇑Bb,<- ⇑rb];exact big AH.2,λz=>?_,λ_ Dv AT=>?_⟩))
    .have:=⇑Bb;rw[z]at this;exact ru this
    .subst z;have:=⇑rb;have:b=[]:=ru this;subst this;exact q _ φ H r (Aj.refl _ _) (by erw[AW,La];exact⟨p,xs,rfl,AG,Bb⟩)
    .exact q _ φ _ (r.to (r.hd.lay AT) (Aj.lay AT)) (Aj.lay AT) (by erw[AW];exact⟨Dv,_,rfl,EM,(Bb.append rb).ex (Aj.lay AT)⟩)
   .exact q.elim
  .exact q.elim
 .split at q
  .rename_i na a nb b AA AE;obtain⟨p,xs,rfl,_,_,AG,Bb⟩:=Oa r.hd a1 AA;obtain⟨DB,ys,rfl,_,_,A4,rb⟩:=Oa r.hd a2 AE;have Tf:=Bb.append rb;refine .inr (.inr (.inr ⟨p,DB,xs,ys,rfl,rfl,AG,A4,?_,λDv AT=>QI r q AT EM Tf⟩));have:=dW q;rw[⇑Tf,F1]at this;exact big this
  .exact q.elim
def IA:J0:=λx y h=>match x,y with
 |.int i,.int j=>if L8 i j then .ok (.int (i*j),h)else .bad
 |x,.int k=>match LB h x with
  |some (_,a)=>if-(2^63)<=k/\k<2^63 then nw .lst (GG k.toNat a).flatten h else .bad
  |none=>.bad
 |_,_=>.bad
theorem Al.rep{ws:↑W}{xs:↑V}(a:Al K φ H ws xs):∀k:Nat,Al K φ H (GG k ws).flatten (GG k xs).flatten
 |0=>(Al.nil:)
 |k+1=>by rw[Qf,Qf,PD,PD];exact a.append (a.rep k)
def ad3:IL F (λx y H Q=>Ip L8 (λi j=>.int (i*j)) x y H Q\/nr x y H Q) IA:=by
 intro σ ρ φ h H x y G6 H5 Q r a1 a2 q;unfold IA at q
 split at q
 .rename_i i j;erw[AW]at a1 a2
  split at q
  .rename_i AJ;exact .inl ⟨i,j,a1,a2,AJ,q _ φ H r (Aj.refl _ _) (by erw[AW])⟩
  .exact q.elim
 .rename_i k _;erw[AW]at a2
  split at q
  .rename_i a AA;obtain⟨p,xs,rfl,_,_,AG,Bb⟩:=Oa r.hd a1 AA
   split at q
   .rename_i AN;have Ki:=Bb.rep k.toNat;refine .inr ⟨p,k,xs,rfl,a2,AG,AN.1,AN.2,?_,λDv AT=>QI r q AT EM Ki⟩;have:=dW q;rw[⇑Ki,len_rep]at this;rw[Nat.mul_comm];exact big this
   .exact q.elim
  .exact q.elim
 .exact q.elim
def NJ:W->Bool
 |.non=>true
 |_=>false
noncomputable def Dj(b:Bool):J0:=λx y h=>match y with
 |.non=>.ok (.AO (if b then NJ x else !NJ x),h)
 |_=>.bad
def aa3{w:W}{x:V}(a:AW K φ H w x):NJ w=decide (x=.non):=by
 cases w<;>erw[AW,NJ]at a |-<;>first
  |(subst a;rfl)
  |(subst a;simp;done)
  |(obtain⟨_,_,rfl,_⟩:=a;simp;done)
  |(obtain⟨_,rfl,_⟩:=a;simp;done)
def ZP(b:Bool):IL F (λx y H Q=>y=.non/\Q (.AO (if b then decide (x=.non)else !decide (x=.non))) H) (Dj b):=by
 intro σ ρ φ h H x y G6 H5 Q r a1 a2 q;unfold Dj at q
 split at q
 .erw[AW]at a2;rw[aa3 a1]at q;exact⟨a2,q _ φ H r (Aj.refl _ _) (NX _)⟩
 .exact q.elim
def Pw:J0:=λx y h=>match y with
 |.int i=>match x with
  |.str z=>if ⇑z<=B1 then match Jm z.cps.toList i with
      |some c=>.ok (.str ⟨#[c]⟩,h)
      |none=>.bad
   else .bad
  |x=>match E2 h x with
   |some (_,ws)=>match Jm ws i with
    |some w=>.ok (w,h)
    |none=>.bad
   |none=>.bad
 |_=>.bad
def uB{ws:↑W}{xs:↑V}{i:Int}{w:W}(a:Al K φ H ws xs)(e:Jm ws i=↥w):∃v,Jm xs i=↥v/\AW K φ H w v:=by
 unfold Jm at e |-;rw[<- ⇑a];cases Ac:Lm ⇑ws i with
 |none=>rw[Ac]at e;cases e
 |some j=>rw[Ac]at e;exact a.get e
def abW(A_:F.K=X.K):IL F (ek X.K) Pw:=by
 intro σ ρ φ h H x y G6 H5 Q r a1 a2 q;unfold Pw at q
 split at q
 .rename_i i;erw[AW]at a2;subst a2
  split at q
  .rename_i z;erw[AW]at a1
   split at q
   .rename_i AH
    split at q
    .rename_i c ec;exact .inr (.inr ⟨z,i,c,a1,rfl,big AH,ec,q _ φ H r (Aj.refl _ _) (by erw[AW])⟩)
    .exact q.elim
   .exact q.elim
  .split at q
   .rename_i t ws es;obtain⟨p,xs,rfl,Aa,Bb⟩:=Ja r.hd a1 es;rw[A_]at Aa
    split at q
    .rename_i w C2;obtain⟨v,ev,E7⟩:=uB Bb C2;have q:=q v φ H r (Aj.refl _ _) E7;cases t with
     |true=>exact .inr (.inl ⟨p,xs,i,v,rfl,rfl,Aa,ev,q⟩)
     |false=>exact .inl ⟨p,xs,i,v,rfl,rfl,Aa,ev,q⟩
    .exact q.elim
   .exact q.elim
 .exact q.elim
end
abbrev Lv:=↑W->A5->R (W×A5)
def B6(f:Lv)(m:E6):BB:=bd m λws _ h=>f ws h
section
variable{K:Ap}{φ:↑A7}{h:A5}{H:AD}{F:DF}{σ :St}{ρ:B5}{X:Ar}{ma:E6}
def Q4(F:DF)(r:↑V->AD->CY->Prop)(f:Lv):Prop:=∀ σ ρ φ h H xs ws Q,Rel F φ h H σ ρ->Al F.K φ H ws xs->EU AW F φ H σ ρ Q (f ws h)->r xs H Q
def Qw{r:↑V->AD->CY->Prop}{f:Lv}(hf:Q4 F r f):FP (CA F (B6 f ma)) (WN r (GY F ma)):=λσ H Q q=>
 q.bd λws xs φ ρ h H1 r as q=>hf σ ρ φ h H1 xs ws Q r as q
def BO:Lv:=λws h=>match ws with
 |[.str x]=>if ⇑x<=B1 then .ok (.int ⇑x,h)else .bad
 |[w]=>match E2 h w with
  |some (_,us)=>.ok (.int ⇑us,h)
  |none=>.bad
 |_=>.bad
def abY(A_:F.K=X.K):Q4 F (λxs H Q=>∃x n,xs=[x]/\hU X.K x H n/\Q (.int n) H) BO:=by
 intro σ ρ φ h H xs ws Q r as q;unfold BO at q
 split at q
 .rename_i x;obtain⟨v,rfl,a⟩:=as.one;erw[AW]at a;subst a
  split at q
  .rename_i AH;exact⟨_,⇑x,rfl,⟨big AH,rfl⟩,q _ φ H r (Aj.refl _ _) (by erw[AW])⟩
  .exact q.elim
 .obtain⟨v,rfl,a⟩:=as.one
  split at q
  .rename_i t us es;obtain⟨p,xs,rfl,Aa,Bb⟩:=Ja r.hd a es;rw[A_]at Aa;rw[⇑Bb]at q;refine⟨_,⇑xs,rfl,?_,q _ φ H r (Aj.refl _ _) (by erw[AW])⟩;cases t with
   |true=>exact .inr ⟨xs,Aa,rfl⟩
   |false=>exact .inl ⟨xs,Aa,rfl⟩
  .exact q.elim
 .exact q.elim
def Fp:Lv:=λws h=>match ws with
 |[w]=>match E2 h w with
  |some (_,us)=>nw .lst us h
  |none=>.bad
 |_=>.bad
def aby(A_:F.K=X.K):Q4 F (λxs H Q=>∃p ys,xs=[.ref p]/\(Eu X.K H p ys\/Ek X.K H p ys)/\∀l,H l=none->Q (.ref l) (upd H l (.lst ys))) Fp:=by
 intro σ ρ φ h H xs ws Q r as q;unfold Fp at q
 split at q
 .obtain⟨v,rfl,a⟩:=as.one
  split at q
  .rename_i t us es;obtain⟨p,xs,rfl,Aa,Bb⟩:=Ja r.hd a es;rw[A_]at Aa;refine⟨p,xs,rfl,?_,λl AH=>QI r q AH EM Bb⟩;cases t with
   |true=>exact .inr Aa
   |false=>exact .inl Aa
  .exact q.elim
 .exact q.elim
def OK:Lv:=λws h=>match ws with
 |[w]=>match E2 h w with
  |some (false,us)=>.ok (.tup us,h)
  |some (true,_)=>.ok (w,h)
  |none=>.bad
 |_=>.bad
def ad7(A_:F.K=X.K):Q4 F (λxs H Q=>∃p ys,xs=[.ref p]/\((Eu X.K H p ys/\∀l,H l=none->Q (.ref l) (upd H l (.tup ys)))\/(Ek X.K H p ys/\Q (.ref p) H))) OK:=by
 intro σ ρ φ h H xs ws Q r as q;unfold OK at q
 split at q
 .obtain⟨v,rfl,a⟩:=as.one
  split at q
  .rename_i us es;obtain⟨p,xs,rfl,Aa,Bb⟩:=Ja r.hd a es;rw[A_]at Aa;exact⟨p,xs,rfl,.inl ⟨Aa,λl AH=>q _ φ _ (r.to (r.hd.lay AH) (Aj.lay AH)) (Aj.lay AH) (by erw[AW];exact⟨l,_,rfl,EM,Bb.ex (Aj.lay AH)⟩)⟩⟩
  .rename_i us es;obtain⟨p,xs,rfl,Aa,Bb⟩:=Ja r.hd a es;rw[A_]at Aa;exact⟨p,xs,rfl,.inr ⟨Aa,q _ φ H r (Aj.refl _ _) a⟩⟩
  .exact q.elim
 .exact q.elim
noncomputable def QQ:Lv:=λws h=>match ws with
 |[.int i]=>if i.natAbs.log2<1920 then .ok (.str (toString i),h)else .bad
 |_=>.bad
def ad5:Q4 F (λxs H Q=>∃i,xs=[.int i]/\i.natAbs.log2<1920/\Q (.str (toString i)) H) QQ:=by
 intro σ ρ φ h H xs ws Q r as q;unfold QQ at q
 split at q
 .rename_i i;obtain⟨v,rfl,a⟩:=as.one;erw[AW]at a;subst a
  split at q
  .rename_i AH;exact⟨i,rfl,AH,q _ φ H r (Aj.refl _ _) (by erw[AW])⟩
  .exact q.elim
 .exact q.elim
noncomputable def Tr:Lv:=λws h=>match ws with
 |[.int i]=>.ok (.int i,h)
 |[.AO b]=>.ok (.int (if b then 1 else 0),h)
 |_=>.bad
def ad6:Q4 F (λxs H Q=>(∃i,xs=[.int i]/\Q (.int i) H)\/∃k,xs=[.AO k]/\Q (.int (if k then 1 else 0)) H) Tr:=by
 intro σ ρ φ h H xs ws Q r as q;unfold Tr at q
 split at q
 .rename_i i;obtain⟨v,rfl,a⟩:=as.one;erw[AW]at a;subst a;exact .inl ⟨i,rfl,q _ φ H r (Aj.refl _ _) (by erw[AW])⟩
 .rename_i i;obtain⟨v,rfl,a⟩:=as.one;erw[AW]at a;subst a;exact .inr ⟨i,rfl,q _ φ H r (Aj.refl _ _) (by erw[AW])⟩
 .exact q.elim
noncomputable def MU(h:A5):W->Option String
 |.non=>some "NoneType"
 |.AO _=>some "bool"
 |.int _=>some "int"
 |.str _=>some "str"
 |.tup _=>some "tuple"
 |.I8 _=>some "tuple"
 |.ref n=>match h[n]? with
  |some ⟨.lst,_⟩=>some "list"
  |some ⟨.B8 _,_⟩=>some "dict"
  |some ⟨.Dx _,_⟩=>some "dict"
  |_=>none
 |_=>none
noncomputable def fC(T U:String):Bool:=T==U||(T=="bool"&&U=="int")
def cI(K:Ap)(U:String):Prop:=∀T,T="NoneType"\/T="bool"\/T="int"\/T="str"\/T="list"\/T="tuple"\/T="dict"->Xc K (.type T) (.type U)=↥(fC T U)
def Vw(K:Ap){U:String}(h:U="int"\/U="bool"\/U="str"\/U="list"\/U="tuple"\/U="dict"):cI K U:=λT t=>by rcases h with rfl|rfl|rfl|rfl|rfl|rfl<;>rcases t with rfl|rfl|rfl|rfl|rfl|rfl|rfl<;>kernel_rfl
def afg{w:W}{T:String}(e:MU h w=↥T):T="NoneType"\/T="bool"\/T="int"\/T="str"\/T="list"\/T="tuple"\/T="dict":=by
 unfold MU at e
 split at e<;>first
  |(cases e;simp;done)
  |(split at e<;>first|(cases e;simp;done)|(cases e;done))
  |(cases e;done)
def aa6{A3:μ}{s:AQ}{Q:A8->AQ->Prop}{E:A8->AQ->Prop}{w:W}{x:V}{u:A8}{T U:String}{k:Bool}(Z:θ)(d:DM X.K φ h H)(a:AW X.K φ H w x)(Au:RelV x u)(e:MU h w=↥T)(tt:Xc X.K (.type T) (.type U)=↥k)(Aa:∀DW,Q (.bool k) { s with toks:=DW }):An ξ X.A (call (.builtin "isinstance") [u,.type U]) Q E s:=by
 have Hp:∀{p:A7}{xs:↑V},Ek X.K H p xs->Xc X.K (.type "tuple") (.type U)=↥k->An ξ X.A (call (.builtin "isinstance") [.ref p,.type U]) Q E s:=λAP tt=>by obtain⟨its,_,⟨o,AA,AE,_⟩,_⟩:=Z.tuple AP;exact JF sW Z.F8 ⟨o,AA,AE⟩ tt (λz=>nomatch z) Aa
 unfold MU at e
 split at e
 .cases e;erw[AW]at a;subst a;cases Au;exact JF s_ Z.F8 Iy tt (λz=>nomatch z) Aa
 .cases e;erw[AW]at a;subst a;cases Au;exact JF sa Z.F8 Iy tt (λz=>nomatch z) Aa
 .cases e;erw[AW]at a;subst a;obtain⟨t,rfl⟩:=Au;exact JF PySem.W.kitx_int Z.F8 Iy tt (λz=>nomatch z) Aa
 .cases e;erw[AW]at a;subst a;obtain⟨t,rfl⟩:=Au;exact JF PySem.W.kitx_str Z.F8 Iy tt (λz=>nomatch z) Aa
 .cases e;erw[AW]at a;obtain⟨p,xs,rfl,AP,_⟩:=a;cases Au;exact Hp (.inl (.inl AP)) tt
 .cases e;erw[AW]at a;obtain⟨p,xs,rfl,AP,_⟩:=a;cases Au;exact Hp AP tt
 .split at e
  .rename_i Az;cases e;obtain⟨p,xs,rfl,_,AP,_⟩:=d.at Az a;cases Au;exact eN (x:=.ref p) Z rfl (.lst AP) tt Aa
  .rename_i Az;cases e;obtain⟨p,xs,rfl,_,⟨AC,AP,_⟩,_⟩:=d.at Az a;cases Au;exact eN (x:=.ref p) Z rfl (.B8 AP) tt Aa
  .rename_i Az;cases e;obtain⟨p,xs,rfl,_,⟨AC,AP,_⟩,_⟩:=d.at Az a;cases Au;exact eN (x:=.ref p) Z rfl (.Dx AP) tt Aa
  .cases e
 .cases e
def mY(K:Ap)(U:String):↑V->AD->CY->Prop:=λxs H Q=>∃φ h w x T,DM K φ h H/\xs=[x,.ty U]/\AW K φ H w x/\MU h w=↥T/\Q (.AO (fC T U)) H
theorem tw{U:String}(tt:cI X.K U):K1 X (.builtin "isinstance") (mY X.K U):=by intro A3 s σ H xs us Q Z r h;obtain⟨φ,hh,w,x,T,d,rfl,a,e,q⟩:=h;obtain⟨u,Cb,rfl,Au,FJ⟩:=vals2 r;obtain rfl:Cb=Nz U:=FJ;exact aa6 Z d a Au e (tt T (afg e)) λDW=>⟨.AO _,H,Z.tok DW,rfl,q⟩
def Dz(U:String):W->A5->R (W×A5):=λw h=>match MU h w with
 |some T=>.ok (.AO (fC T U),h)
 |none=>.bad
def zR{U:String}{m:BB}(A_:F.K=X.K):FP (CA F (B3 (Dz U) m)) (WN (mY X.K U) (aT (CA F m) (aT (QU (.ty U)) aX))):=λσ H Q q=>
 q.bd λw v φ ρ h H1 r a q=>by
   unfold Dz at q
   split at q
   .rename_i T uh;have G_:=a;have d:=r.hd;rw[A_]at G_ d;exact⟨φ,h,w,v,T,d,rfl,G_,uh,q _ φ H1 r (Aj.refl _ _) (NX _)⟩
   .exact q.elim
noncomputable def bools:↑W->Option ↑Bool
 |[]=>some []
 |.AO b::ws=>(bools ws).map (b::·)
 |_=>none
theorem iF:∀{ws:↑W}{xs:↑V}{bs:↑Bool},bools ws=↥bs->Al K φ H ws xs->xs=bs.map V.AO
 |[],_,_,e,a=>by erw[bools]at e;cases e;erw[Al]at a;exact a
 |w::ws,_,_,e,a=>by
  erw[Al]at a;obtain⟨v,r,rfl,a1,a2⟩:=a;cases w<;>erw[bools]at e<;>try (cases e;done)
  rename_i b;cases AE:bools ws with
  |none=>rw[AE]at e;cases e
  |some bs=>rw[AE]at e;cases e;erw[AW]at a1;rw[a1,iF AE a2];rfl
def Io(all:Bool):Lv:=λws h=>match ws with
 |[w]=>match E2 h w with
  |some (false,us)=>match bools us with
   |some bs=>.ok (.AO (if all then bs.all id else bs.any id),h)
   |none=>.bad
  |_=>.bad
 |_=>.bad
def ad4(A_:F.K=X.K)(b:Bool):Q4 F (λxs H Q=>∃(p:A7)(bs:↑Bool),xs=[.ref p]/\Eu X.K H p (bs.map V.AO)/\Q (.AO (if b then bs.all id else bs.any id)) H) (Io b):=by
 intro σ ρ φ h H xs ws Q r as q;unfold Io at q
 split at q
 .obtain⟨v,rfl,a⟩:=as.one
  split at q
  .rename_i us es;obtain⟨p,xs,rfl,Aa,Bb⟩:=Ja r.hd a es
   split at q
   .rename_i bs BC;have:=iF BC Bb;subst this;rw[A_]at Aa;exact⟨p,bs,rfl,Aa,q _ φ H r (Aj.refl _ _) (NX _)⟩
   .exact q.elim
  .exact q.elim
 .exact q.elim
abbrev RZ:=M (Option Int)
def af6(_:Ap)(_:↑A7)(_:AD)(a b:Option Int):Prop:=b=a
abbrev Vv(F:DF)(m:RZ):Sh:=MF af6 F m
def CP(m:BB):RZ:=bd m λw=>match w with
 |.int i=>pu ↥i
 |_=>λ_ _=>.bad
def yd:∀ σ H Q,Vv F (pu none) σ H Q->qb σ H Q:=λσ H Q q=>let⟨φ,ρ,h,r,q⟩:=q;q none φ H r (Aj.refl _ _) rfl
def yi{m:BB}:∀ σ H Q,Vv F (CP m) σ H Q->qg (CA F m) σ H Q:=λσ H Q q=>
 q.bd λw v φ ρ h H1 r a q=>by
   cases w with
   |int i=>erw[AW]at a;exact⟨i,a,q _ φ H1 r (Aj.refl _ _) rfl⟩
   |_=>cases q
noncomputable def HO(ws:↑W)(lo hi:Option Int):↑W:=(ws.drop (EQ.Cu ⇑ws 0 lo)).take (EQ.Cu ⇑ws ⇑ws hi-EQ.Cu ⇑ws 0 lo)
def Al.cut{ws:↑W}{xs:↑V}(a:Al K φ H ws xs)(lo hi:Option Int):Al K φ H (HO ws lo hi) (Pi xs lo hi):=by unfold HO Pi;rw[⇑a];exact(a.drop _).take _
def MS(w:W)(lo hi:Option Int):M W:=λ_ h=>match E2 h w with
 |some (false,ws)=>nw .lst (HO ws lo hi) h
 |some (true,ws)=>if EQ.Cu ⇑ws 0 lo=0/\EQ.Cu ⇑ws ⇑ws hi=⇑ws then .bad else .ok (.tup (HO ws lo hi),h)
 |none=>.bad
def D9(m:BB)(lo hi:RZ):BB:=bd m λw=>bd lo λl=>bd hi λu=>MS w l u
def yp(A_:F.K=X.K){m:BB}{lo hi:RZ}:FP (CA F (D9 m lo hi)) (ql (λx lo hi H Q=>nv X.K x lo hi H Q\/nx X.K x lo hi H Q) (CA F m) (Vv F lo) (Vv F hi)):=λσ H Q q=>
 q.bd λw v φ ρ h H1 r a q=>⟨φ,ρ,h,r,q.bd λl dc CQ h2 AU BL CT e q=>by
   cases e;exact⟨CQ,ρ,h2,BL,q.bd λu Jd KH AY C1 FI EN e q=>by
    cases e;have a:=a.ex (CT.trans EN);unfold MS at q
    split at q
    .rename_i ws es;obtain⟨p,xs,rfl,Aa,Bb⟩:=Ja FI.hd a es;rw[A_]at Aa;exact .inl ⟨p,xs,rfl,Aa,λDv AT=>QI FI q AT EM (Bb.cut l u)⟩
    .rename_i ws es;obtain⟨p,xs,rfl,Aa,Bb⟩:=Ja FI.hd a es;rw[A_]at Aa
     split at q
     .exact q.elim
     .rename_i AZ;rw[⇑Bb]at AZ;exact .inr ⟨p,xs,rfl,Aa,AZ,λDv AT=>q _ KH _ (FI.to (FI.hd.lay AT) (Aj.lay AT)) (Aj.lay AT) (by erw[AW];exact⟨Dv,_,rfl,EM,(Bb.cut l u).ex (Aj.lay AT)⟩)⟩
    .exact q.elim⟩⟩
end
section
variable{K:Ap}{φ:↑A7}{h:A5}{H:AD}{F:DF}{σ :St}{ρ:B5}{X:Ar}{ma:E6}{m:BB}
abbrev N8:=↑W->↑W->Option (W×↑W)
def Zd(f:N8)(w:W)(us:↑W):BB:=λ_ h=>match LB h w with
 |some (n,ws)=>match f ws us with
  |some (r,ws')=>if ⇑ws'<=B1 then .ok (r,h.set n ⟨.lst,ws'⟩)else .bad
  |none=>.bad
 |none=>.bad
def Pv{α:Type}(w:W)(m:M α):M α:=λρ h=>match LB h w with
 |some _=>m ρ h
 |none=>.bad
def DQ(f:N8)(o:BB)(ma:E6):BB:=bd o λw=>Pv w (bd ma λus=>Zd f w us)
def Ze{n:Nat}{p:A7}{ws ws':↑W}{xs Tx:↑V}{r:W}{v:V}{Q:CY}(K9:Rel F φ h H σ ρ)(Az:h[n]?=↥⟨.lst,ws⟩)(BA:φ[n]?=↥p)(AT:H p=↥(.lst xs))(Bb:Al F.K φ H ws' Tx)(Bw:AW F.K φ H r v)(q:EU AW F φ H σ ρ Q (.ok (r,h.set n ⟨.lst,ws'⟩))):Q v (upd H p (.lst Tx)):=by have x:Aj φ H φ (upd H p (.lst Tx)):=Aj.put AT λz=>z;exact q v φ _ (K9.to (K9.hd.put Az BA AT (λz=>z) (o':=⟨.lst,ws'⟩) EM Bb) x) x (Bw.ex x)
def Ul(F:DF)(r:V->↑V->AD->CY->Prop)(f:N8):Prop:=∀ σ ρ φ h H n p ws us xs vs Q Cb ws',Rel F φ h H σ ρ->h[n]?=↥⟨.lst,ws⟩->φ[n]?=↥p->H p=↥(.lst xs)->Al F.K φ H ws xs->Al F.K φ H us vs->f ws us=↥(Cb,ws')->⇑ws'<=B1->EU AW F φ H σ ρ Q (.ok (Cb,h.set n ⟨.lst,ws'⟩))->r (.ref p) vs H Q
def eG(A_:F.K=X.K){r:V->↑V->AD->CY->Prop}{f:N8}(hf:Ul F r f):FP (CA F (DQ f m ma)) (fu X.K "list" r (CA F m) (GY F ma)):=λσ H Q q=>
 q.bd λw v φ ρ h H1 K9 a q=>by
   unfold Pv at q
   split at q
   .rename_i nw e;obtain⟨n,ws⟩:=nw;obtain⟨p,xs,rfl,Az,BA,AT,Bb⟩:=Oa K9.hd a e;refine⟨.inl ⟨rfl,xs,.inl (.inl AT)⟩,φ,ρ,h,K9,q.bd λus vs CQ h2 AU BL CT as q=>?_⟩;unfold Zd at q
    split at q
    .rename_i GQ ws2 AE;obtain⟨DB,aiJ,No,ut,uy,e7,Tf⟩:=Oa BL.hd (a.ex CT) AE;cases No
     split at q
     .rename_i Cb ws' CC
      split at q
      .rename_i AH;exact hf σ ρ CQ h2 AU GQ p ws2 us aiJ vs Q Cb ws' BL ut uy e7 Tf as CC AH q
      .exact q.elim
     .exact q.elim
    .exact q.elim
   .exact q.elim
def k9(A_:F.K=X.K){r:V->↑V->AD->CY->Prop}{f:N8}(hf:Ul F r f):FP (CA F (DQ f m A2)) (rC X.K "list" r (CA F m)):=λσ H Q q=>by have z:=eG (X:=X) A_ hf (m:=m) (ma:=A2) σ H Q q;obtain⟨φ,ρ,h,r,z⟩:=z;refine⟨φ,ρ,h,r,z.imp λv H1⟨ty,φ,ρ,h,r,z⟩=>⟨ty,z [] φ H1 r (Aj.refl _ _) .nil⟩⟩
noncomputable def DV:N8:=λws us=>match us with
 |[w]=>↥(.non,ws++[w])
 |_=>none
def ew:AW K φ H .non .non:=by erw[AW]
def abT:Ul F m2 DV:=by
 intro σ ρ φ h H n p ws us xs vs Q Cb ws' K9 Az BA AT Bb as CC AH q;unfold DV at CC
 split at CC
 .cases CC;obtain⟨v,rfl,E7⟩:=as.one;rw[F1,⇑Bb]at AH;exact⟨p,xs,v,rfl,rfl,AT,GH (Nat.lt_of_succ_le AH) ε,Ze K9 Az BA AT (Bb.append (.cons E7 .nil)) ew q⟩
 .cases CC
noncomputable def JY:N8:=λws us=>match us with
 |[]=>(ws[⇑ws-1]?).map λw=>(w,ws.dropLast)
 |[.int i]=>if-(2^63)<=i/\i<2^63 then match SL i ⇑ws with
    |some k=>(ws[k]?).map λw=>(w,ws.eraseIdx k)
    |none=>none
  else none
 |_=>none
def Al.erase{ws:↑W}{xs:↑V}(a:Al K φ H ws xs)(k:Nat):Al K φ H (ws.eraseIdx k) (xs.eraseIdx k):=by rw[s9,s9];exact(a.take k).append (a.drop (k+1))
theorem Al.dropLast{ws:↑W}{xs:↑V}(a:Al K φ H ws xs):Al K φ H ws.dropLast xs.dropLast:=by rw[sF,sF,⇑a];exact a.take _
def mb:Ul F (λx vs H Q=>nk x vs H Q\/nq x vs H Q) JY:=by
 intro σ ρ φ h H n p ws us xs vs Q Cb ws' K9 Az BA AT Bb as CC AH q;unfold JY at CC
 split at CC
 .erw[Al]at as;subst as;cases e:ws[⇑ws-1]? with
  |none=>rw[e]at CC;cases CC
  |some w=>rw[e]at CC;cases CC;obtain⟨v,ev,E7⟩:=Bb.get e;rw[⇑Bb]at ev;exact .inl ⟨p,xs,v,rfl,rfl,AT,ev,Ze K9 Az BA AT Bb.dropLast E7 q⟩
 .rename_i i;obtain⟨v,rfl,E7⟩:=as.one;erw[AW]at E7;subst E7
  split at CC
  .rename_i hi
   split at CC
   .rename_i k DH;cases e:ws[k]? with
    |none=>rw[e]at CC;cases CC
    |some w=>rw[e]at CC;cases CC;obtain⟨v,ev,E7⟩:=Bb.get e;rw[⇑Bb]at DH;exact .inr ⟨p,xs,i,k,v,rfl,rfl,AT,hi.1,hi.2,DH,ev,Ze K9 Az BA AT (Bb.erase k) E7 q⟩
   .cases CC
  .cases CC
 .cases CC
noncomputable def d9:N8:=λ_ us=>match us with
 |[]=>↥(.non,[])
 |_=>none
def abU:Ul F m6 d9:=by
 intro σ ρ φ h H n p ws us xs vs Q Cb ws' K9 Az BA AT Bb as CC AH q;unfold d9 at CC
 split at CC
 .cases CC;erw[Al]at as;subst as;exact⟨p,xs,rfl,rfl,AT,Ze K9 Az BA AT .nil ew q⟩
 .cases CC
def b3(o i v:W):Af:=λρ h=>match LB h o,i with
 |some (n,ws),.int k=>match Lm ⇑ws k with
  |some j=>.ok (.AM ρ,h.set n ⟨.lst,ws.set j v⟩)
  |none=>.bad
 |_,_=>.bad
def TW(o i:BB):DN:=λv=>bd o λW9=>bd i λaD=>b3 W9 aD v
def yj{o i:BB}:Y1 (ME F (TW o i)) (jM (CA F o) (CA F i) nu):=by
 rintro v σ H Q ⟨φ,ρ,h,w,r,a,q⟩;refine⟨φ,ρ,h,r,ED.bd q λW9 x By h1 H1 Aw Cn ER q=>⟨By,ρ,h1,Aw,ED.bd q λaD y CQ h2 AU BL CT Gl q=>?_⟩⟩;unfold b3 at q
 split at q
 .rename_i n ws k e;obtain⟨p,xs,rfl,Az,BA,AT,Bb⟩:=Oa BL.hd (ER.ex CT) e;erw[AW]at Gl
  split at q
  .rename_i j Ed;have AE:Aj CQ AU CQ (upd AU p (.lst (xs.set j v))):=Aj.put AT λz=>z;rw[⇑Bb]at Ed;exact⟨p,xs,k,j,rfl,Gl,AT,Ed,q σ CQ _ (BL.to (BL.hd.put Az BA AT (λz=>z) (o':=⟨.lst,ws.set j w⟩) EM (Bb.set (a.ex (Cn.trans CT)) j)) AE) AE⟩
  .exact q.elim
 .exact q.elim
noncomputable def keyOf:W->Option Key
 |.int i=>↥(.inl i)
 |.str x=>↥(.inr x)
 |_=>none
def NS:W->Option Et
 |.tup ws=>ws.mapM keyOf
 |_=>none
def V4{w:W}{v:V}{k:Key}(e:keyOf w=↥k)(a:AW K φ H w v):v=Ck k:=by cases w<;>erw[keyOf]at e<;>first|(cases e;done)|(cases e;erw[AW]at a;exact a)
theorem dv{α:Type}{f:W->Option α}{P:α->V->Prop}(hf:∀{w v k},f w=↥k->AW K φ H w v->P k v):∀{ws:↑W}{xs:↑V}{ks:↑α},ws.mapM f=↥ks->Al K φ H ws xs->Paired P ks xs
 |[],_,_,e,a=>by simp at e;subst e;erw[Al]at a;subst a;exact .nil
 |w::ws,_,_,e,a=>by
  erw[Al]at a;obtain⟨v,r,rfl,a1,a2⟩:=a;rw[Ud]at e;cases AA:f w with
  |none=>rw[AA]at e;cases e
  |some k=>
   rw[AA]at e;cases AE:ws.mapM f with
   |none=>rw[AE]at e;cases e
   |some ks=>rw[AE]at e;cases e;exact .cons (hf AA a1) (dv hf AE a2)
theorem n3:∀{ks:↑Key}{xs:↑V},Paired (λk v=>v=Ck k) ks xs->xs=ks.map Ck
 |_,_,.nil=>rfl
 |_,_,.cons e t=>by rw[e,n3 t];rfl
def dS{w:W}{v:V}{k:Et}(e:NS w=↥k)(a:AW K φ H w v):∃b,v=.ref b/\OE H k b:=by
 unfold NS at e
 split at e
 .erw[AW]at a;obtain⟨b,xs,rfl,A4,Bb⟩:=a;exact⟨b,rfl,by rw[OE,A4,n3 (dv V4 e Bb)]⟩
 .cases e
section
variable{Bp:Type}[DecidableEq Bp]
noncomputable def DL:↑Bp->↑W->Bp->Option W
 |k'::ks,w::ws,k=>if k'=k then↥w else DL ks ws k
 |_,_,_=>none
noncomputable def QN:↑Bp->↑W->Bp->W->↑W
 |k'::ks,w::ws,k,u=>(if k'=k then u else w)::QN ks ws k u
 |_,_,_,_=>[]
noncomputable def Nj:↑Bp->↑W->Bp->↑W
 |k'::ks,w::ws,k=>if k'=k then Nj ks ws k else w::Nj ks ws k
 |_,_,_=>[]
def Up(K:Ap)(φ:↑A7)(H:AD):Option W->Option V->Prop
 |some w,↥v=>AW K φ H w v
 |none,none=>True
 |_,_=>False
theorem Rf(k:Bp):∀{AC:↑(Bp×V)}{ws:↑W},Al K φ H ws (AC.map (·.2))->Up K φ H (DL (AC.map (·.1)) ws k) (Hr AC k)
 |[],ws,a=>by
  have:=⇑a;cases ws with
  |nil=>simp[DL,afw,Up]
  |cons _ _=>simp at this
 |(k',v)::AC,ws,a=>by
  cases ws with
  |nil=>have:=⇑a;simp at this
  |cons w ws=>
   erw[Do,Al]at a;obtain⟨JC,r,e,a1,a2⟩:=a;cases e;erw[Do,DL];by_cases AN:k'=k
   .rw[if_pos AN,Wn AN];exact a1
   .rw[if_neg AN,Wm AN];exact Rf k a2
theorem o9{k:Bp}{u:W}{x:V}(b:AW K φ H u x):∀{AC:↑(Bp×V)}{ws:↑W},Al K φ H ws (AC.map (·.2))->Al K φ H (QN (AC.map (·.1)) ws k u) ((AC.map λCN=>if CN.1=k then(CN.1,x)else CN).map (·.2))
 |[],ws,a=>by
  cases ws with
  |nil=>exact .nil
  |cons _ _=>have:=⇑a;simp at this
 |(k',v)::AC,ws,a=>by
  cases ws with
  |nil=>have:=⇑a;simp at this
  |cons w ws=>
   erw[Do,Al]at a;obtain⟨JC,r,e,a1,a2⟩:=a;cases e;erw[Do,QN];refine .cons ?_ (o9 b a2);by_cases AN:k'=k
   .rw[if_pos AN,if_pos AN];exact b
   .rw[if_neg AN,if_neg AN];exact a1
theorem j_{k:Bp}:∀{AC:↑(Bp×V)}{ws:↑W},Al K φ H ws (AC.map (·.2))->Al K φ H (Nj (AC.map (·.1)) ws k) ((MY AC k).map (·.2))
 |[],ws,a=>by
  cases ws with
  |nil=>exact .nil
  |cons _ _=>have:=⇑a;simp at this
 |(k',v)::AC,ws,a=>by
  cases ws with
  |nil=>have:=⇑a;simp at this
  |cons w ws=>
   erw[Do,Al]at a;obtain⟨JC,r,e,a1,a2⟩:=a;cases e;have C4:=j_ (k:=k) a2;unfold MY at C4 |-;erw[Do,Nj];by_cases AN:k'=k
   .rw[if_pos AN,List.filter_cons_of_neg (by simp[AN])];exact C4
   .rw[if_neg AN,List.filter_cons_of_pos (by simp[AN])];exact .cons a1 C4
def vW(AC:↑(Bp×V))(k:Bp):(MY AC k).map (·.1)=(AC.map (·.1)).filter λx=>decide (x≠k):=by unfold MY;rw[List.filter_map];rfl
def NU(ks:↑Bp)(ws:↑W)(k:Bp)(w:W):↑Bp×↑W:=if k∈ks then(ks,QN ks ws k w)else(ks++[k],ws++[w])
def uA(AC:↑(Bp×V))(k:Bp):(AC.any λCN=>decide (CN.1=k))=decide (k∈AC.map (·.1)):=by rw[Qo];erw[UR,decide_eq_true_eq,XY]
def mV{k:Bp}{u:W}{x:V}{AC:↑(Bp×V)}{ws:↑W}(b:AW K φ H u x)(a:Al K φ H ws (AC.map (·.2))):(putK AC k x).map (·.1)=(NU (AC.map (·.1)) ws k u).1/\Al K φ H (NU (AC.map (·.1)) ws k u).2 ((putK AC k x).map (·.2)):=by
 unfold putK NU;rw[uA];by_cases AN:k∈AC.map (·.1)
 .rw[if_pos (decide_eq_true AN),if_pos AN];refine⟨?_,o9 b a⟩;rw[SI];apply List.map_congr_left;intro CN _;erw[MO]
  split<;>rfl
 .rw[if_neg (by erw[decide_eq_true_eq];exact AN),if_neg AN];exact⟨γ,by rw[JG];exact a.append (.cons b .nil)⟩
end
def Gd(h:A5)(d k:W):Option (Option W):=match d with
 |.ref n=>match h[n]? with
  |some ⟨.B8 ks,ws⟩=>(keyOf k).map (DL ks ws)
  |some ⟨.Gn ks,ws⟩=>(keyOf k).map (DL ks ws)
  |some ⟨.Dx ks,ws⟩=>(NS k).map (DL ks ws)
  |_=>none
 |_=>none
def YX(d:DM K φ h H){JN kw:W}{x y:V}{o:Option W}(e:Gd h JN kw=↥o)(ER:AW K φ H JN x)(Gl:AW K φ H kw y):∃a CL,x=.ref a/\Jh H a y CL/\Up K φ H o CL:=by
 unfold Gd at e
 split at e
 .split at e
  .rename_i ks ws Az;obtain⟨a,xs,rfl,_,⟨AC,AG,rfl,rfl⟩,Bb⟩:=d.at Az ER;cases DH:keyOf kw with
   |none=>rw[DH]at e;cases e
   |some k=>rw[DH]at e;cases e;rw[V4 DH Gl];exact⟨a,_,rfl,Jh.k AG,Rf k Bb⟩
  .rename_i ks ws Az;obtain⟨a,xs,rfl,_,⟨o,AC,AG,rfl,rfl⟩,Bb⟩:=d.at Az ER;cases DH:keyOf kw with
   |none=>rw[DH]at e;cases e
   |some k=>rw[DH]at e;cases e;rw[V4 DH Gl];exact⟨a,_,rfl,.inl ⟨AC,k,.inr ⟨o,AG⟩,rfl,rfl⟩,Rf k Bb⟩
  .rename_i ks ws Az;obtain⟨a,xs,rfl,_,⟨AC,AG,rfl,rfl⟩,Bb⟩:=d.at Az ER;cases DH:NS kw with
   |none=>rw[DH]at e;cases e
   |some k=>rw[DH]at e;cases e;obtain⟨b,rfl,tb⟩:=dS DH Gl;exact⟨a,_,rfl,Jh.t AG tb,Rf k Bb⟩
  .cases e
 .cases e
def dG:J0:=λd k h=>match Gd h d k with
 |some ↥w=>.ok (w,h)
 |_=>.bad
def zH{d k:BB}:FP (CA F (A1 dG d k)) (rE (CA F d) (CA F k)):=λσ H Q q=>
 q.bd λJN x φ ρ h H1 r ER q=>⟨φ,ρ,h,r,q.bd λkw y CQ h2 AU BL CT Gl q=>by
   unfold dG at q
   split at q
   .rename_i w e;obtain⟨a,CL,rfl,g,Ft⟩:=YX BL.hd e (ER.ex CT) Gl;cases CL with
    |none=>cases Ft
    |some v=>exact⟨a,v,rfl,g,q v CQ AU BL (Aj.refl _ _) Ft⟩
   .exact q.elim⟩
def aiv(b:Bool):J0:=λk d h=>match Gd h d k with
 |some o=>.ok (.AO (if b then o.isSome else !o.isSome),h)
 |none=>.bad
def Up.is{o:Option W}{CL:Option V}(r:Up K φ H o CL):o.isSome=CL.isSome:=by cases o<;>cases CL<;>first|rfl|cases r
def Ni(d k v:W):Af:=λρ h=>match d with
 |.ref n=>match h[n]? with
  |some ⟨.B8 ks,ws⟩=>match keyOf k with
   |some k=>if ⇑ws<B1 then .ok (.AM ρ,h.set n ⟨.B8 (NU ks ws k v).1,(NU ks ws k v).2⟩)else .bad
   |none=>.bad
  |some ⟨.Dx ks,ws⟩=>match NS k with
   |some k=>if ⇑ws<B1 then .ok (.AM ρ,h.set n ⟨.Dx (NU ks ws k v).1,(NU ks ws k v).2⟩)else .bad
   |none=>.bad
  |_=>.bad
 |_=>.bad
def Mk(d k v:BB):Af:=bd v λON=>bd d λJN=>bd k λkw=>Ni JN kw ON
def zJ{d k v:BB}:Kn (GF F (Mk d k v)) (oB (CA F d) (CA F k) (CA F v)):=λDe σ H q=>
 q.bd λON z φ ρ h H1 r Sm q=>⟨φ,ρ,h,r,ED.bd q λJN x By h1 AU Aw Cn ER q=>⟨By,ρ,h1,Aw,ED.bd q λkw y CQ h2 C1 BL CT Gl q=>by
   have Sm:=Sm.ex (Cn.trans CT);have ER:=ER.ex CT;unfold Ni at q
   split at q
   .split at q
    .rename_i ks ws Az;obtain⟨a,xs,rfl,BJ,⟨AC,AG,rfl,rfl⟩,Bb⟩:=BL.hd.at Az ER
     split at q
     .rename_i k DH
      split at q
      .rename_i AH;rw[⇑Bb,CE]at AH;obtain⟨AA,AE⟩:=mV (k:=k) Sm Bb;have EN:Aj CQ C1 CQ (upd C1 a (.B8 (putK AC k z))):=Aj.put AG λz=>z;rw[V4 DH Gl];exact⟨a,_,rfl,Q6.k AG (GH AH ε),q σ CQ _ (BL.to (BL.hd.put Az BJ AG (λz=>z) (o':=⟨.B8 _,_⟩) ⟨_,EM,AA,rfl⟩ AE) EN) EN⟩
      .exact q.elim
     .exact q.elim
    .rename_i ks ws Az;obtain⟨a,xs,rfl,BJ,⟨AC,AG,rfl,rfl⟩,Bb⟩:=BL.hd.at Az ER
     split at q
     .rename_i k DH
      split at q
      .rename_i AH;rw[⇑Bb,CE]at AH;obtain⟨AA,AE⟩:=mV (k:=k) Sm Bb;have EN:Aj CQ C1 CQ (upd C1 a (.Dx (putK AC k z))):=Aj.put AG λz=>z;obtain⟨b,rfl,tb⟩:=dS DH Gl;exact⟨a,_,rfl,Q6.t AG tb (GH AH ε),q σ CQ _ (BL.to (BL.hd.put Az BJ AG (λz=>z) (o':=⟨.Dx _,_⟩) ⟨_,EM,AA,rfl⟩ AE) EN) EN⟩
      .exact q.elim
     .exact q.elim
    .exact q.elim
   .exact q.elim⟩⟩
noncomputable def Qz(h:A5):W->Bool
 |.ref n=>match h[n]? with
  |some ⟨.B8 _,_⟩=>true
  |some ⟨.Dx _,_⟩=>true
  |_=>false
 |_=>false
def kG(d:DM K φ h H){w:W}{x:V}(a:AW K φ H w x)(e:Qz h w=true):∃p,x=.ref p/\Y2 H p:=by
 unfold Qz at e
 split at e
 .split at e
  .rename_i Az;obtain⟨p,xs,rfl,_,⟨AC,AT,_⟩,_⟩:=d.at Az a;exact⟨p,rfl,.inl ⟨AC,.inl AT⟩⟩
  .rename_i Az;obtain⟨p,xs,rfl,_,⟨AC,AT,_⟩,_⟩:=d.at Az a;exact⟨p,rfl,.inr ⟨AC,.inl AT⟩⟩
  .cases e
 .cases e
def Qy{α:Type}(w:W)(m:M α):M α:=λρ h=>if Qz h w=true then m ρ h else .bad
def WU(d k:BB):BB:=bd d λJN=>Qy JN (bd k λkw _ h=>match Gd h JN kw with
 |some o=>.ok (o.getD .non,h)
 |none=>.bad)
def zG{d k:BB}:FP (CA F (WU d k)) (rF (CA F d) (CA F k)):=λσ H Q q=>
 q.bd λJN x φ ρ h H1 r ER q=>by
   unfold Qy at q
   split at q
   .rename_i e;obtain⟨p,rfl,AT⟩:=kG r.hd ER e;refine⟨p,rfl,AT,φ,ρ,h,r,q.bd λkw y CQ h2 AU BL CT Gl q=>?_⟩
    split at q
    .rename_i o Fc;obtain⟨a,CL,BJ,g,Ft⟩:=YX BL.hd Fc (ER.ex CT) Gl;cases BJ;refine⟨CL,g,q _ CQ AU BL (Aj.refl _ _) ?_⟩;cases o<;>cases CL<;>first|exact ew|exact Ft|cases Ft
    .exact q.elim
   .exact q.elim
def Vl(JN kw:W):BB:=λ_ h=>match JN with
 |.ref n=>match h[n]? with
  |some ⟨.B8 ks,ws⟩=>match keyOf kw with
   |some k=>match DL ks ws k with
    |some w=>.ok (w,h.set n ⟨.B8 (ks.filter λx=>decide (x≠k)),Nj ks ws k⟩)
    |none=>.bad
   |none=>.bad
  |_=>.bad
 |_=>.bad
def WV(d k:BB):BB:=bd d λJN=>Qy JN (bd k λkw=>Vl JN kw)
def zI{d k:BB}:FP (CA F (WV d k)) (rH (CA F d) (CA F k)):=λσ H Q q=>
 q.bd λJN x φ ρ h H1 r ER q=>by
   unfold Qy at q
   split at q
   .rename_i e;obtain⟨p,rfl,AT⟩:=kG r.hd ER e;refine⟨p,rfl,AT,φ,ρ,h,r,q.bd λkw y CQ h2 AU BL CT Gl q=>?_⟩;unfold Vl at q
    split at q
    .split at q
     .rename_i ks ws Az;obtain⟨a,xs,BJ,ui,⟨AC,AG,rfl,rfl⟩,Bb⟩:=BL.hd.at Az (ER.ex CT);cases BJ
      split at q
      .rename_i k DH
       split at q
       .rename_i w C2;have Ft:=Rf k Bb;rw[C2]at Ft;cases ev:Hr AC k with
        |none=>rw[ev]at Ft;cases Ft
        |some v=>rw[ev]at Ft;have EN:Aj CQ AU CQ (upd AU p (.B8 (MY AC k))):=Aj.put AG λz=>z;exact⟨AC,k,v,AG,V4 DH Gl,ev,q v CQ _ (BL.to (BL.hd.put Az ui AG (λz=>z) (o':=⟨.B8 _,_⟩) ⟨_,EM,vW AC k,rfl⟩ (j_ Bb)) EN) EN (AW.ex EN Ft)⟩
       .exact q.elim
      .exact q.elim
     .exact q.elim
    .exact q.elim
   .exact q.elim
def Kd(t:Bool):BB:=λ_ h=>nw (if t then .Dx []else .B8 []) [] h
def zE:FP (CA F (Kd false)) fw:=λσ H Q⟨φ,ρ,h,r,q⟩ p AT=>QI r q AT ⟨[],EM,rfl,rfl⟩ .nil
def zF:FP (CA F (Kd true)) rG:=λσ H Q⟨φ,ρ,h,r,q⟩ p AT=>QI r q AT ⟨[],EM,rfl,rfl⟩ .nil
end
abbrev H7:=Nat->A5->Option (Option W)
def Ip(K:Ap)(DS:↑A7)(C0:AD)(it:H7)(BS:It):Prop:=∀i φ h H,DM K φ h H->Aj DS C0 φ H->(it i h=↥none->BS.stop i H)/\∀w,it i h=↥↥w->BS.go i H/\∀x A9,BS.Wu i H x A9->DM K φ h A9/\Aj φ H φ A9/\AW K φ A9 w x
abbrev GK:=M H7
abbrev fx(F:DF)(m:GK):TI:=MF Ip F m
noncomputable def M_(it:H7)(g:DN)(b:Af):Nat->Nat->Af
 |0,_=>λ_ _=>.bad
 |f+1,i=>λρ h=>match it i h with
  |some none=>.ok (.AM ρ,h)
  |some ↥w=>(g w ρ h).bind λp=>match p with
   |(.AM CU,h1)=>(b CU h1).bind λp=>match p with
    |(.AM Dl,h2)=>M_ it g b f (i+1) Dl h2
    |(.D6 Dl,h2)=>M_ it g b f (i+1) Dl h2
    |(.BN Dl,h2)=>.ok (.AM Dl,h2)
    |(.Dq w,h2)=>.ok (.Dq w,h2)
   |_=>.bad
  |none=>.bad
def Js:Nat:=1000
def Q2(mi:GK)(g:DN)(b:Af):Af:=bd mi λit=>M_ it g b Js 0
section
variable{F:DF}{K:Ap}{φ:↑A7}{h:A5}{H:AD}{σ :St}{ρ:B5}{X:Ar}
def for_in{it:H7}{BS:It}{g:DN}{b:Af}{De:Ends}{By:↑A7}{CU:B5}{h1:A5}{H1:AD}(Aw:Rel F By h1 H1 σ CU)(io:Ip F.K By H1 it BS)(q:ED F By H1 De (M_ it g b Js 0 CU h1)):aU (λ_ H R=>R BS H) (ME F g) (GF F b) De σ H1:=by
 refine⟨λi m σ H=>∃φ ρ h,Rel F φ h H σ ρ/\Aj By H1 φ H/\ED F φ H De (M_ it g b m i ρ h),⟨Js,By,CU,h1,Aw,Aj.refl _ _,q⟩,?_⟩;rintro i m σ H ⟨φ,ρ,h,r,x,q⟩;cases m with
 |zero=>cases q
 |succ m=>
  unfold M_ at q;obtain⟨CZ,Fk⟩:=io i φ h H r.hd x
  split at q
  .rename_i e;exact .inl ⟨CZ e,q σ φ H r (Aj.refl _ _)⟩
  .rename_i w e;obtain⟨go,fk⟩:=Fk w e;refine .inr ⟨go,λσ' A9=>∃φ ρ h,Rel F φ h A9 σ' ρ/\Aj By H1 φ A9/\ED F φ A9 De (M_ it g b m (i+1) ρ h),λσ' A9 n=>⟨m,PE _,n⟩,λy A9 AX=>?_⟩;obtain⟨d',Fw,bZ⟩:=fk y A9 AX;refine⟨φ,ρ,h,w,r.to d' Fw,bZ,?_⟩;have q:=ED.ex Fw q;cases eg:g w ρ h with
   |bad=>rw[eg]at q;cases q
   |exc c h'=>rw[eg]at q;exact q
   |ok p=>
    rw[eg]at q;obtain⟨f,h2⟩:=p;cases f with
    |AM Dl=>
     intro σ2 CQ AU BL CT;refine⟨CQ,Dl,h2,BL,?_⟩;have q:=ED.ex CT q;have Rh:=x.trans (Fw.trans CT);erw[R.bind]at q;cases BC:b Dl h2 with
     |bad=>rw[BC]at q;cases q
     |exc c h'=>rw[BC]at q;exact q
     |ok p=>
      rw[BC]at q;obtain⟨f,AY⟩:=p;cases f with
      |AM PB=>exact λσ3 KH C1 FI EN=>⟨KH,PB,AY,FI,Rh.trans EN,ED.ex EN q⟩
      |D6 PB=>exact λσ3 KH C1 FI EN=>⟨KH,PB,AY,FI,Rh.trans EN,ED.ex EN q⟩
      |BN PB=>exact q
      |Dq w=>exact q
    |_=>cases q
  .exact q.elim
def zN{mi:GK}{g:DN}{b:Af}:Kn (GF F (Q2 mi g b)) (aU (fx F mi) (ME F g) (GF F b)):=λDe σ H q=>
 q.bd λit BS By CU h1 H1 Aw io q=>for_in Aw io q
def QW(c:DT)(b:Af):Nat->Af
 |0=>λ_ _=>.bad
 |f+1=>bd c λk=>if k=true then λρ h=>(b ρ h).bind λp=>match p with
   |(.AM Dl,h2)=>QW c b f Dl h2
   |(.D6 Dl,h2)=>QW c b f Dl h2
   |(.BN Dl,h2)=>.ok (.AM Dl,h2)
   |(.Dq w,h2)=>.ok (.Dq w,h2)
  else B_
def T8(c:DT)(b:Af):Af:=QW c b Js
def yw{c:DT}{b:Af}:Kn (GF F (T8 c b)) (qr (Hn F c) (GF F b)):=by
 rintro De σ H ⟨φ,ρ,h,r,q⟩;refine⟨λm σ H=>∃φ ρ h,Rel F φ h H σ ρ/\ED F φ H De (QW c b m ρ h),⟨Js,φ,ρ,h,r,q⟩,?_⟩;rintro m σ H ⟨φ,ρ,h,r,q⟩;cases m with
 |zero=>cases q
 |succ m=>
  unfold QW at q;refine⟨φ,ρ,h,r,ED.bd q λk k' By h1 H1 Aw Cn e q=>?_⟩;cases e;cases k with
  |false=>exact q σ By H1 Aw (Aj.refl _ _)
  |true=>
   refine⟨λσ' A9=>∃φ ρ h,Rel F φ h A9 σ' ρ/\ED F φ A9 De (QW c b m ρ h),λσ' A9 n=>⟨m,PE _,n⟩,By,ρ,h1,Aw,?_⟩;rw[if_pos rfl]at q;cases BC:b ρ h1 with
   |bad=>rw[BC]at q;cases q
   |exc c h'=>rw[BC]at q;exact q
   |ok p=>
    rw[BC]at q;obtain⟨f,AY⟩:=p;cases f with
    |AM PB=>exact λσ3 KH C1 FI EN=>⟨KH,PB,AY,FI,ED.ex EN q⟩
    |D6 PB=>exact λσ3 KH C1 FI EN=>⟨KH,PB,AY,FI,ED.ex EN q⟩
    |BN PB=>exact q
    |Dq w=>exact q
def Ts:↑DN->↑W->Af
 |[],[]=>B_
 |g::Gp,w::ws=>AK (g w) (Ts Gp ws)
 |_,_=>λ_ _=>.bad
def EI(Gp:↑DN):DN:=λw ρ h=>match E2 h w with
 |some (true,ws)=>if ⇑Gp=⇑ws then Ts Gp ws ρ h else .bad
 |_=>.bad
def Vu(F:DF)(Gp:↑DN):OD:=λvs σ H Q=>∃φ ρ h ws,Rel F φ h H σ ρ/\Al F.K φ H ws vs/\ED F φ H ⟨Q,λ_ _=>False,λ_ _=>False,λ_ _=>False⟩ (Ts Gp ws ρ h)
def k7:∀vs σ H Q,Vu F [] vs σ H Q->jL vs σ H Q:=by
 rintro vs σ H Q ⟨φ,ρ,h,ws,r,as,q⟩;cases ws with
 |nil=>erw[Al]at as;exact⟨as,q σ φ H r (Aj.refl _ _)⟩
 |cons _ _=>cases q
def eF{g:DN}{Gp:↑DN}:∀vs σ H Q,Vu F (g::Gp) vs σ H Q->jK (ME F g) (Vu F Gp) vs σ H Q:=by
 rintro vs σ H Q ⟨φ,ρ,h,ws,r,as,q⟩;cases ws with
 |nil=>cases q
 |cons w ws=>
  erw[Al]at as;obtain⟨v,gJ,rfl,a1,a2⟩:=as;refine⟨v,gJ,rfl,φ,ρ,h,w,r,a1,?_⟩;unfold Ts AK at q;cases e:g w ρ h with
  |bad=>rw[e]at q;cases q
  |exc c h'=>rw[e]at q;exact q
  |ok p=>
   rw[e]at q;obtain⟨f,h1⟩:=p;cases f with
   |AM EO=>exact λσ' BM A9 Bf x=>⟨BM,EO,h1,ws,Bf,a2.ex x,ED.ex x q⟩
   |_=>exact q
def k8(A_:F.K=X.K){Gp:↑DN}{n:Nat}(AZ:⇑Gp=n):Y1 (ME F (EI Gp)) (jN X.K n (Vu F Gp)):=by
 rintro v σ H Q ⟨φ,ρ,h,w,r,a,q⟩;unfold EI at q
 split at q
 .rename_i ws e;obtain⟨p,xs,rfl,AP,Bb⟩:=Ja r.hd a e;rw[A_]at AP
  split at q
  .rename_i AH;exact⟨p,xs,rfl,AP,by rw[<- ⇑Bb,<-AH];exact AZ,φ,ρ,h,ws,r,Bb,q⟩
  .exact q.elim
 .exact q.elim
def FG(w:W):H7:=λi h=>match E2 h w with
 |some (_,ws)=>↥ws[i]?
 |none=>none
def aas(A_:F.K=X.K){w:W}{v:V}{p:A7}(a:AW F.K φ H w v)(e:v=.ref p)(AP:∀CQ h2 AU,DM F.K CQ h2 AU->Aj φ H CQ AU->∀t ws,E2 h2 w=↥(t,ws)->t=false):Ip F.K φ H (FG w) (c1 X.K p):=λi CQ h2 AU d x=>by
 unfold FG;cases es:E2 h2 w with
 |none=>exact⟨λz=>(nomatch z),λw z=>(nomatch z)⟩
 |some Rd=>
  obtain⟨t,ws⟩:=Rd;have B9:=AP CQ h2 AU d x t ws es;subst B9;obtain⟨Dv,xs,Bi,Aa,Bb⟩:=Ja d (a.ex x) es;rw[e]at Bi;cases Bi;have Aa:Eu F.K AU p xs:=Aa;rw[A_]at Aa;refine⟨λz=>⟨xs,Aa,?_⟩,λCb z=>?_⟩
  .have:ws[i]?=none:=Fy z;rw[<- ⇑Bb];exact List.getElem?_eq_none_iff.mp this
  .have:ws[i]?=↥Cb:=Fy z;obtain⟨v,ev,E7⟩:=Bb.get this;exact⟨⟨xs,v,Aa,ev⟩,λy A9 AX=>by obtain⟨rfl,AX⟩:=AX;have:=AX xs Aa;rw[ev]at this;cases this;exact⟨d,Aj.refl _ _,E7⟩⟩
def du(A_:F.K=X.K){w:W}{v:V}{p:A7}(a:AW F.K φ H w v)(e:v=.ref p)(AP:∀h2 t ws,E2 h2 w=↥(t,ws)->t=true):Ip F.K φ H (FG w) (c4 X.K p):=λi CQ h2 AU d x=>by
 unfold FG;cases es:E2 h2 w with
 |none=>exact⟨λz=>(nomatch z),λw z=>(nomatch z)⟩
 |some Rd=>
  obtain⟨t,ws⟩:=Rd;have B9:=AP h2 t ws es;subst B9;obtain⟨Dv,xs,Bi,Aa,Bb⟩:=Ja d (a.ex x) es;rw[e]at Bi;cases Bi;have Aa:Ek F.K AU p xs:=Aa;rw[A_]at Aa;refine⟨λz=>⟨xs,Aa,?_⟩,λCb z=>?_⟩
  .have:ws[i]?=none:=Fy z;rw[<- ⇑Bb];exact List.getElem?_eq_none_iff.mp this
  .have:ws[i]?=↥Cb:=Fy z;obtain⟨v,ev,E7⟩:=Bb.get this;exact⟨⟨xs,v,Aa,ev⟩,λy A9 AX=>by obtain⟨rfl,AX⟩:=AX;have:=AX xs Aa;rw[ev]at this;cases this;exact⟨d,Aj.refl _ _,E7⟩⟩
noncomputable def V0:W->Bool
 |.ref _=>true
 |.Df _=>true
 |_=>false
def bH{w:W}{t:Bool}{ws:↑W}(e:E2 h w=↥(t,ws)):(t=false↔V0 w=true):=by
 unfold E2 at e
 split at e
 .cases e;simp[V0]
 .cases e;simp[V0]
 .cases e;simp[V0]
 .split at e<;>first|(cases e;simp[V0];done)|(cases e;done)
 .cases e
noncomputable def KA(lo:Int)(n:Nat):H7:=λi _=>↥(if i<n then↥(.int (lo+i))else none)
def o7(lo:Int)(n:Nat):Ip K φ H (KA lo n) (Uu lo n):=λi CQ h2 AU d x=>by
 unfold KA;by_cases hi:i<n
 .rw[if_pos hi];exact⟨λz=>(nomatch z),λw z=>by cases z;exact⟨hi,λy A9 AX=>by obtain⟨rfl,rfl⟩:=AX;exact⟨d,Aj.refl _ _,by erw[AW]⟩⟩⟩
 .rw[if_neg hi];exact⟨λ_=>(show n<=i by lia),λw z=>(nomatch z)⟩
noncomputable def Pe(nl:Nat)(caps:↑Nat)(ρ:B5):B5:=GG nl none++caps.map λj=>ρ.getD j none
noncomputable def KP(it:H7)(g:DN)(H4:DT)(elt:BB)(n:Nat):Nat->Nat->B5->A5->R A5
 |0,_,_,_=>.bad
 |f+1,i,ρ,h=>match it i h with
  |some none=>.ok h
  |some ↥w=>(g w ρ h).bind λp=>match p with
   |(.AM CU,h1)=>(H4 CU h1).bind λp=>if p.1=true then(elt CU p.2).bind λp=>match p.2[n]? with
      |some ⟨.lst,ws⟩=>if ⇑ws<B1 then KP it g H4 elt n f (i+1) CU (p.2.set n ⟨.lst,ws++[p.1]⟩)else .bad
      |_=>.bad
    else KP it g H4 elt n f (i+1) CU p.2
   |_=>.bad
  |none=>.bad
def D8(nl:Nat)(caps:↑Nat)(mi:GK)(g:DN)(H4:DT)(elt:BB):BB:=bd mi λit ρ h=>match KP it g H4 elt ⇑h Js 0 (Pe nl caps ρ) (h++[⟨.lst,[]⟩])with
 |.ok h'=>.ok (.ref ⇑h,h')
 |_=>.bad
noncomputable def Ij(K:Ap)(φ:↑A7)(H:AD):DF:=⟨K,φ,H,λ_ _=>False⟩
abbrev DF.AM(F:DF):DF:=Ij F.K F.DS F.C0
theorem Rel.AM(r:Rel F φ h H σ ρ):Rel F.AM φ h H σ ρ:=⟨r.hd,r.x0,r.len,r.C3⟩
def Rel.un(r:Rel F.AM φ h H σ ρ):Rel F φ h H σ ρ:=⟨r.hd,r.x0,r.len,r.C3⟩
def Rel.td(r:Rel F φ h H σ ρ)(nl:Nat)(caps:↑Nat):Rel F.AM φ h H (Nd nl caps σ) (Pe nl caps ρ):=by
 refine⟨r.hd,r.x0,by simp[Nd,Pe],λi w e=>?_⟩;unfold Pe at e;unfold Nd;by_cases hi:i<nl
 .rw[GW (hi:),XD,if_pos hi]at e;cases e
 .rw[Jp (hi:),UJ,Da]at e;rw[Jp (hi:),UJ,Da];cases Ed:caps[i-nl]? with
  |none=>rw[Ed]at e;cases e
  |some j=>
   rw[Ed]at e;have es:ρ.getD j none=↥w:=Fy e;rw[EC]at es;cases Ao:ρ[j]? with
   |none=>rw[Ao]at es;cases es
   |some t=>rw[Ao]at es;have:t=↥w:=es;subst this;obtain⟨v,AA,q⟩:=r.C3 j w Ao;exact⟨v,by show↥(σ.getD j none)=_;rw[EC,AA];rfl,q⟩
def hs{nl:Nat}{caps:↑Nat}{it:H7}{BS:It}{g:DN}{H4:DT}{elt:BB}{Q:CY}{By:↑A7}{CU:B5}{h1:A5}{H1:AD}(Aw:Rel F By h1 H1 σ CU)(io:Ip F.K By H1 it BS)(q:EU AW F By H1 σ CU Q (D8 nl caps (pu it) g H4 elt CU h1)):WO (λ_ H R=>R BS H) (λx σ H Q=>∃DS C0,ME (Ij F.K DS C0) g x σ H Q) (λσ H Q=>∃DS C0,Hn (Ij F.K DS C0) H4 σ H Q) (λσ H Q=>∃DS C0,CA (Ij F.K DS C0) elt σ H Q) nl caps σ H1 Q:=by
 intro acc AG;unfold D8 bd pu at q;erw[R.bind]at q
 split at q
 .rename_i h' Ao;have x0:Aj By H1 (By++[acc]) (upd H1 acc (.lst [])):=Aj.VZ AG
  refine⟨λi m σ2 AU=>∃φ ρ h,Rel F.AM φ h AU σ2 ρ/\Aj (By++[acc]) (upd H1 acc (.lst [])) φ AU/\KP it g H4 elt ⇑h1 m i ρ h=.ok h',
   ⟨Js,By++[acc],_,_,(Aw.to (Aw.hd.new AG (ho:=.lst []) (k:=.lst) EM .nil) x0).td nl caps,Aj.refl _ _,Ao⟩,?_⟩
  rintro i m σ2 AU ⟨φ,ρ,h,r,x,Ao⟩;have uj:φ[⇑h1]?=↥acc:=GD x.p (Za Aw.hd);cases m with
  |zero=>cases Ao
  |succ m=>
   unfold KP at Ao;obtain⟨CZ,Fk⟩:=io i φ h AU r.hd (x0.trans x)
   split at Ao
   .rename_i e;cases Ao;exact .inl ⟨CZ e,q _ φ AU ⟨r.hd,Aw.x0.trans (x0.trans x),Aw.len,λj w e=>let⟨v,AA,a⟩:=Aw.C3 j w e;⟨v,AA,a.ex (x0.trans x)⟩⟩ (x0.trans x) (.GX uj)⟩
   .rename_i w e;obtain⟨go,fk⟩:=Fk w e;refine .inr ⟨go,λy A9 AX=>?_⟩;obtain⟨d',Fw,bZ⟩:=fk y A9 AX;refine⟨F.DS,F.C0,φ,ρ,h,w,r.to d' Fw,bZ,?_⟩;cases eg:g w ρ h with
    |bad=>rw[eg]at Ao;cases Ao
    |exc c h'=>rw[eg]at Ao;cases Ao
    |ok p=>
     rw[eg]at Ao;obtain⟨f,h2⟩:=p;cases f with
     |AM Dl=>
      intro σ3 KH C1 FI EN;refine⟨F.DS,F.C0,KH,Dl,h2,FI,?_⟩;have rW:=x.trans (Fw.trans EN);have Ao:((H4 Dl h2).bind λp=>if p.1=true then(elt Dl p.2).bind λp=>match p.2[⇑h1]? with
        |some ⟨.lst,ws⟩=>if ⇑ws<B1 then KP it g H4 elt ⇑h1 m (i+1) Dl (p.2.set ⇑h1 ⟨.lst,ws++[p.1]⟩)else .bad
        |_=>.bad
       else KP it g H4 elt ⇑h1 m (i+1) Dl p.2)=.ok h':=Ao
      cases I5:H4 Dl h2 with
      |bad=>rw[I5]at Ao;cases Ao
      |exc c h'=>rw[I5]at Ao;cases Ao
      |ok p=>
       rw[I5]at Ao;obtain⟨b,Ch⟩:=p;intro JJ aJ E5 NW QX BC;cases BC;have Ao:(if b=true then(elt Dl Ch).bind λp=>match p.2[⇑h1]? with
         |some ⟨.lst,ws⟩=>if ⇑ws<B1 then KP it g H4 elt ⇑h1 m (i+1) Dl (p.2.set ⇑h1 ⟨.lst,ws++[p.1]⟩)else .bad
         |_=>.bad
        else KP it g H4 elt ⇑h1 m (i+1) Dl Ch)=.ok h':=Ao
       cases b with
       |false=>exact⟨m,PE _,aJ,Dl,Ch,NW,rW.trans QX,Ao⟩
       |true=>
        rw[if_pos rfl]at Ao;refine⟨F.DS,F.C0,aJ,Dl,Ch,NW,?_⟩;cases Ge:elt Dl Ch with
        |bad=>rw[Ge]at Ao;cases Ao
        |exc c h'=>rw[Ge]at Ao;cases Ao
        |ok p=>
         rw[Ge]at Ao;obtain⟨Tv,EH⟩:=p;intro fj aK Er S3 ah2 Sk;have Ao:(match EH[⇑h1]? with
          |some ⟨.lst,ws⟩=>if ⇑ws<B1 then KP it g H4 elt ⇑h1 m (i+1) Dl (EH.set ⇑h1 ⟨.lst,ws++[Tv]⟩)else .bad
          |_=>.bad)=.ok h':=Ao
         split at Ao
         .rename_i ws Az
          split at Ao
          .rename_i AH;have rX:=rW.trans (QX.trans ah2);have JO:aK[⇑h1]?=↥acc:=GD rX.p (Za Aw.hd);obtain⟨ys,AX,Bb⟩:=S3.hd.BI _ _ _ Az JO;have AX:Er acc=↥(.lst ys):=AX;have rY:Aj aK Er aK (upd Er acc (.lst (ys++[fj]))):=Aj.put AX λz=>z;rw[⇑Bb]at AH;exact⟨ys,AX,GH AH ε,m,PE _,aK,Dl,_,S3.to (S3.hd.put Az JO AX (λz=>z) (o':=⟨.lst,ws++[Tv]⟩) EM (Bb.append (.cons Sk .nil))) rY,rX.trans rY,Ao⟩
          .cases Ao
         .cases Ao
     |_=>cases Ao
   .cases Ao
 .exact q.elim
def k4{nl:Nat}{caps:↑Nat}{mi:GK}{g:DN}{H4:DT}{elt:BB}:FP (CA F (D8 nl caps mi g H4 elt)) (WO (fx F mi) (λx σ H Q=>∃DS C0,ME (Ij F.K DS C0) g x σ H Q) (λσ H Q=>∃DS C0,Hn (Ij F.K DS C0) H4 σ H Q) (λσ H Q=>∃DS C0,CA (Ij F.K DS C0) elt σ H Q) nl caps):=λσ H Q q=>
 q.bd λit BS By CU h1 H1 Aw io q=>hs Aw io q
end
mutual
noncomputable def DR:W->Bool
 |.ref _=>false
 |.tup ws=>Fe ws
 |.I8 ws=>Fe ws
 |.Df ws=>Fe ws
 |_=>true
noncomputable def Fe:↑W->Bool
 |[]=>true
 |w::ws=>DR w&&Fe ws
end
mutual
noncomputable def JK:W->W->Bool
 |.non,.non=>true
 |.AO a,.AO b=>a==b
 |.int a,.int b=>a==b
 |.str a,.str b=>a==b
 |.tup a,.tup b=>Kt a b
 |.I8 a,.I8 b=>Kt a b
 |.Df a,.Df b=>Kt a b
 |.ref a,.ref b=>a==b
 |.P2 a,.P2 b=>a==b
 |_,_=>false
noncomputable def Kt:↑W->↑W->Bool
 |[],[]=>true
 |x::xs,y::ys=>JK x y&&Kt xs ys
 |_,_=>false
end
mutual
theorem uP:∀{a b:W},JK a b=true->a=b
 |.non,b,h=>by cases b<;>simp_all[JK]
 |.AO _,b,h=>by cases b<;>simp_all[JK]
 |.int _,b,h=>by cases b<;>simp_all[JK]
 |.str _,b,h=>by cases b<;>simp_all[JK]
 |.tup _,b,h=>by cases b<;>erw[JK]at h<;>first|(cases h;done)|rw[Vb h]
 |.I8 _,b,h=>by cases b<;>erw[JK]at h<;>first|(cases h;done)|rw[Vb h]
 |.Df _,b,h=>by cases b<;>erw[JK]at h<;>first|(cases h;done)|rw[Vb h]
 |.ref _,b,h=>by cases b<;>simp_all[JK]
 |.P2 _,b,h=>by cases b<;>simp_all[JK]
theorem Vb:∀{a b:↑W},Kt a b=true->a=b
 |[],b,h=>by cases b<;>simp_all[Kt]
 |x::xs,b,h=>by
  cases b with
  |nil=>simp[Kt]at h
  |cons y ys=>erw[Kt,ID]at h;rw[uP h.1,Vb h.2]
end
mutual
theorem uQ:∀(a:W),JK a a=true
 |.non|.AO _|.int _|.str _|.ref _|.P2 _=>by simp[JK]
 |.tup a=>by erw[JK];exact R9 a
 |.I8 a=>by erw[JK];exact R9 a
 |.Df a=>by erw[JK];exact R9 a
theorem R9:∀(a:↑W),Kt a a=true
 |[]=>by simp[Kt]
 |x::xs=>by erw[Kt];rw[uQ x,R9 xs];rfl
end
def G3:A5->A5->Bool
 |[],_=>true
 |o::h,o'::h'=>decide (o.k=o'.k)&&Kt o.ws o'.ws&&G3 h h'
 |_,_=>false
theorem fX:∀{h h':A5},G3 h h'=true->h<+: h'
 |[],_,_=>List.nil_prefix
 |o::h,[],e=>by simp[G3]at e
 |⟨k,ws⟩::h,⟨k',ws'⟩::h',e=>by erw[G3,ID,decide_eq_true_eq]at e;rw[e.1.1,Vb e.1.2];exact List.cons_prefix_cons.mpr ⟨rfl,fX e.2⟩
theorem UI:∀(h g:A5),G3 h (h++g)=true
 |[],_=>by simp[G3]
 |o::h,g=>by erw[Ht,G3];rw[R9,UI h g];simp
def mO(h:A5):G3 h h=true:=(UI h []:)
def settle(h:A5)(w:W)(h1:A5):R (W×A5):=
 if G3 h h1=true then
  if DR w=true then .ok (w,h)else match w with
   |.ref n=>if ⇑h<=n then match h1[n]? with
       |some ⟨.lst,ws⟩=>if Fe ws=true then .ok (.ref ⇑h,h++[⟨.lst,ws⟩])else .ok (w,h1)
       |_=>.ok (w,h1)
    else .ok (w,h)
   |_=>.ok (w,h1)
 else .ok (w,h1)
section
variable{K:Ap}{φ By:↑A7}{h h1:A5}{H H1:AD}
mutual
theorem AW.DR{BM:↑A7}:∀{w:W}{v:V},BX.DR w=true->AW K φ H w v->AW K BM H w v
 |.non,_,_,a|.AO _,_,_,a|.int _,_,_,a|.str _,_,_,a|.P2 _,_,_,a=>by simpa only[AW]using a
 |.tup _,_,n,a=>by erw[AW,BX.DR]at a n |-;obtain⟨p,xs,e,q,r⟩:=a;exact⟨p,xs,e,q,Al.DR n r⟩
 |.I8 _,_,n,a=>by erw[AW,BX.DR]at a n |-;obtain⟨p,xs,e,q,r⟩:=a;exact⟨p,xs,e,q,Al.DR n r⟩
 |.Df _,_,n,a=>by erw[AW,BX.DR]at a n |-;obtain⟨p,xs,e,q,r⟩:=a;exact⟨p,xs,e,q,Al.DR n r⟩
 |.ref _,_,n,_=>by simp[BX.DR]at n
theorem Al.DR{BM:↑A7}:∀{ws:↑W}{vs:↑V},Fe ws=true->Al K φ H ws vs->Al K BM H ws vs
 |[],_,_,a=>by simpa only[Al]using a
 |_::_,_,n,a=>by erw[Al,Fe,ID]at a n |-;obtain⟨v,r,e,q,t⟩:=a;exact⟨v,r,e,AW.DR n.1 q,Al.DR n.2 t⟩
end
mutual
theorem AW.back(p:φ<+: By):∀{w:W}{v v0:V},AW K φ H w v0->AW K By H1 w v->AW K φ H1 w v
 |.non,_,_,_,a|.AO _,_,_,_,a|.int _,_,_,_,a|.str _,_,_,_,a|.P2 _,_,_,_,a=>by simpa only[AW]using a
 |.tup _,_,_,b,a=>by erw[AW]at a b |-;obtain⟨q,xs,e,t,r⟩:=a;obtain⟨Cp,Tx,Bi,t',Bf⟩:=b;exact⟨q,xs,e,t,Al.back p Bf r⟩
 |.I8 _,_,_,b,a=>by erw[AW]at a b |-;obtain⟨q,xs,e,t,r⟩:=a;obtain⟨Cp,Tx,Bi,t',Bf⟩:=b;exact⟨q,xs,e,t,Al.back p Bf r⟩
 |.Df _,_,_,b,a=>by erw[AW]at a b |-;obtain⟨q,xs,e,t,r⟩:=a;obtain⟨Cp,Tx,Bi,t',Bf⟩:=b;exact⟨q,xs,e,t,Al.back p Bf r⟩
 |.ref _,_,_,b,a=>by erw[AW]at a b |-;obtain⟨q,e,t⟩:=a;obtain⟨Cp,Bi,t'⟩:=b;have:=GD p t';rw[t]at this;cases this;exact⟨q,e,t'⟩
theorem Al.back(p:φ<+: By):∀{ws:↑W}{vs v0:↑V},Al K φ H ws v0->Al K By H1 ws vs->Al K φ H1 ws vs
 |[],_,_,_,a=>by simpa only[Al]using a
 |_::_,_,_,b,a=>by erw[Al]at a b |-;obtain⟨v,r,e,q,t⟩:=a;obtain⟨JC,Bf,Bi,Cp,t'⟩:=b;exact⟨v,r,e,AW.back p Cp q,Al.back p t' t⟩
end
def DM.cut(d:DM K φ h H)(d1:DM K By h1 H1)(p:φ<+: By)(fR:h<+: h1):DM K φ h H1:=⟨d.Bg,d.len,λn o a AA AE=>by obtain⟨xs,q,r⟩:=d1.BI n o a (GD fR AA) (GD p AE);obtain⟨ys,_,Bf⟩:=d.BI n o a AA AE;exact⟨xs,q,Al.back p Bf r⟩⟩
def eU{w Cb:W}{v:V}{h':A5}(d:DM K φ h H)(x:Aj φ H By H1)(d1:DM K By h1 H1)(a:AW K By H1 w v)(e:settle h w h1=.ok (Cb,h')):∃BM,Aj φ H BM H1/\DM K BM h' H1/\AW K BM H1 Cb v:=by
 have same:(Cb,h')=(w,h1)->∃BM,Aj φ H BM H1/\DM K BM h' H1/\AW K BM H1 Cb v:=λz=>by cases z;exact⟨By,x,d1,a⟩
 have x0:Aj φ H φ H1:=⟨Ua,x.t⟩;unfold settle at e
 split at e
 .rename_i AT;have fR:=fX AT;have Ih:=d.cut d1 x.p fR
  split at e
  .rename_i AZ;cases e;exact⟨φ,x0,Ih,AW.DR AZ a⟩
  .split at e
   .rename_i n _
    split at e
    .rename_i AH
     split at e
     .rename_i ws Az
      split at e
      .rename_i hw;cases e;obtain⟨b,xs,rfl,BC,q,r⟩:=d1.at Az a;have nb:b∉φ:=λm=>by
        obtain⟨j,Ed⟩:=PM m;have AA:=GD x.p Ed;obtain⟨CZ,Jz⟩:=List.getElem?_eq_some_iff.mp AA;obtain⟨Fk,Ka⟩:=List.getElem?_eq_some_iff.mp BC;have:j=n:=(XK d1.Bg).mp (Jz.trans Ka.symm);have:j< ⇑φ:=(List.getElem?_eq_some_iff.mp Ed).1;rw[d.len]at this;lia
       refine⟨φ++[b],⟨FN _ _,x.t⟩,⟨?_,by simp[d.len],λm o c AA AE=>?_⟩,.GX (by rw[<-d.len];simp)⟩
       .rw[XX];exact⟨d.Bg,γ,λc AJ Gb Mc z=>nb (by rw[<-List.mem_singleton.mp Mc,<-z];exact AJ)⟩
       .by_cases hm:m< ⇑h
        .rw[GW hm]at AA;rw[GW (by rw[d.len];exact hm)]at AE;obtain⟨ys,Cp,Bf⟩:=Ih.BI m o c AA AE;exact⟨ys,Cp,Al.ex (⟨FN _ _,λ_ _ e _=>e⟩:Aj φ H1 (φ++[b]) H1) Bf⟩
        .have yO:m=⇑h:=by
           have:=(List.getElem?_eq_some_iff.mp AA).1;simp at this;lia
         subst yO;simp at AA;rw[<-d.len]at AE;simp at AE;subst AA AE;exact⟨xs,q,Al.DR hw r⟩
      .cases e;exact same rfl
     .cases e;exact same rfl
    .rename_i AH;cases e;have AZ:n< ⇑φ:=by rw[d.len];lia
     erw[AW]at a |-;obtain⟨b,rfl,BC⟩:=a;obtain⟨c,ec⟩:∃c,φ[n]?=↥c:=⟨_,C7 AZ⟩;have:=GD x.p ec;rw[BC]at this;cases this;exact⟨φ,x0,Ih,b,rfl,ec⟩
   .cases e;exact same rfl
 .cases e;exact same rfl
end
section
variable{F:DF}
def Bv(m:BB):BB:=λρ h=>(m ρ h).bind λp=>settle h p.1 p.2
def eT(h:A5)(w:W)(h1:A5):∃Cb h',settle h w h1=.ok (Cb,h'):=by
 unfold settle
 repeat' split
 all_goals exact⟨_,_,rfl⟩
def yq{m:BB}:FP (CA F (Bv m)) (CA F m):=by
 rintro σ H Q ⟨φ,ρ,h,r,q⟩;refine⟨φ,ρ,h,r,?_⟩;unfold Bv at q;cases e:m ρ h with
 |bad=>rw[e]at q;cases q
 |exc c h'=>rw[e]at q;exact q
 |ok p=>rw[e]at q;obtain⟨w,h1⟩:=p;intro v By H1 Aw x a;obtain⟨Cb,h',es⟩:=eT h w h1;have q:EU AW F φ H σ ρ Q (settle h w h1):=q;rw[es]at q;obtain⟨BM,Fw,d',G_⟩:=eU r.hd x Aw.hd a es;exact q v BM H1 (r.to d' Fw) Fw G_
def HS(m:DT):DT:=λρ h=>(m ρ h).bind λp=>.ok (p.1,if G3 h p.2=true then h else p.2)
def yr{m:DT}:RY (Hn F (HS m)) (Hn F m):=by
 rintro σ H Q ⟨φ,ρ,h,r,q⟩;refine⟨φ,ρ,h,r,?_⟩;unfold HS at q;cases e:m ρ h with
 |bad=>rw[e]at q;cases q
 |exc c h'=>rw[e]at q;exact q
 |ok p=>
  rw[e]at q;obtain⟨b,h1⟩:=p;intro JJ By H1 Aw x a;cases a;have q:EU m3 F φ H σ ρ Q (.ok (b,if G3 h h1=true then h else h1)):=q
  split at q
  .rename_i AT;have Fw:Aj φ H φ H1:=⟨Ua,x.t⟩;exact q b φ H1 (r.to (r.hd.cut Aw.hd x.p (fX AT)) Fw) Fw rfl
  .exact q b By H1 Aw x rfl
def QY(K:Ap):Ev->Str->AD->Prop:=λE c H=>∃C,Ia K c C/\∀a,H a=none->E (.ref C) ↥a H
noncomputable def TV(K:Ap)(φ:↑A7)(H:AD)(E:Ev):DF:=⟨K,φ,H,QY K E⟩
abbrev Bk:=↑W->A5->R (W×A5)
def J4(K:Ap)(φ:↑A7)(H:AD)(Q:CY)(Mu:Str->AD->Prop):R (W×A5)->Prop
 |.ok (w,h')=>∀v BM A9,DM K BM h' A9->Aj φ H BM A9->AW K BM A9 w v->Q v A9
 |.exc c h'=>∀BM A9,Aj φ H BM A9->DM K BM h' A9->Mu c A9
 |.bad=>False
noncomputable def MA(K:Ap)(n:Nat)(mf:Bk):CH:=λvs H Q E=>∃φ h ws,DM K φ h H/\Al K φ H ws vs/\ ⇑ws=n/\J4 K φ H Q (QY K E) (mf ws h)
def af0{K:Ap}{n:Nat}{mf:Bk}:∀vs H Q E,MA K n mf vs H Q E->⇑vs=n:=λvs H Q E q=>by obtain⟨φ,h,ws,_,a,l,_⟩:=q;rw[<- ⇑a];exact l
noncomputable def NI(N:Nat)(ws:↑W):B5:=ws.map some++GG (N- ⇑ws) none
noncomputable def outF:FK×A5->R (W×A5)
 |(.AM _,h)=>.ok (.non,h)
 |(.Dq w,h)=>.ok (w,h)
 |_=>.bad
def FA(N:Nat)(m:Af):Bk:=λws h=>(m (NI N ws) h).bind outF
def Cw(N:Nat)(m:Af):Bk:=λws h=>(FA N m ws h).bind λp=>settle h p.1 p.2
def pO{K:Ap}{N n:Nat}{m:Af}:∀vs H Q E,MA K n (Cw N m) vs H Q E->MA K n (FA N m) vs H Q E:=λvs H Q E q=>by
 obtain⟨φ,h,ws,d,a,l,k⟩:=q;refine⟨φ,h,ws,d,a,l,?_⟩;unfold Cw at k;cases e:FA N m ws h with
 |bad=>rw[e]at k;cases k
 |exc c h'=>rw[e]at k;exact k
 |ok p=>rw[e]at k;obtain⟨w,h1⟩:=p;intro v By H1 d1 x a1;obtain⟨Cb,h',es⟩:=eT h w h1;have k:J4 K φ H Q (QY K E) (settle h w h1):=k;rw[es]at k;obtain⟨BM,Fw,d',G_⟩:=eU d x d1 a1 es;exact k v BM H1 d' Fw G_
def afJ{K:Ap}{φ:↑A7}{h:A5}{H:AD}{E:Ev}{N:↑Str}{ws:↑W}{vs:↑V}(d:DM K φ h H)(a:Al K φ H ws vs):Rel (TV K φ H E) φ h H (BU.start N vs) (NI ⇑N ws):=by
 have AH:=⇑a;refine⟨d,Aj.refl _ _,by simp[BU.start,NI,AH],λi w e=>?_⟩;unfold NI at e;unfold BU.start;by_cases hi:i< ⇑ws
 .rw[GW (hi:),Da]at e;cases C2:ws[i]? with
  |none=>rw[C2]at e;cases e
  |some Cb=>
   rw[C2]at e;have:Cb=w:=(e:)
   subst this;obtain⟨v,ev,E7⟩:=a.get C2;exact⟨v,by rw[GW (by simp;lia),Da,ev];rfl,E7⟩
 .rw[Jp (hi:),XD]at e
  split at e<;>cases e
def tg{K:Ap}{n:Nat}{N:↑Str}{m:Af}{vs:↑V}{H:AD}{Q:CY}{E:Ev}(q:MA K n (FA ⇑N m) vs H Q E) :
  ∃φ,GF (TV K φ H E) m { AM:=λ_ A9=>Q .non A9,Dq:=Q } (BU.start N vs) H:=by
 obtain⟨φ,h,ws,d,a,l,k⟩:=q;refine⟨φ,φ,NI ⇑N ws,h,afJ d a,?_⟩;unfold FA at k;cases e:m (NI ⇑N ws) h with
 |bad=>rw[e]at k;cases k
 |exc c h'=>rw[e]at k;exact k
 |ok p=>
  rw[e]at k;obtain⟨f,h1⟩:=p;cases f with
  |AM ρ=>exact λσ' BM A9 r x=>k .non BM A9 r.hd x (by erw[AW])
  |Dq w=>exact λv BM A9 d' x G_=>k v BM A9 d' x G_
  |BN _=>cases k
  |D6 _=>cases k
structure Ab(X:Ar)(F:DF)(e:Aq)(m:BB):Prop where
 p:Ah X e (CA F m)
structure Fn(X:Ar)(F:DF)(e:Aq)(m:DT):Prop where
 p:EY X e (Hn F m)
structure Hg(X:Ar)(F:DF)(e:↑Aq)(m:E6):Prop where
 p:H9 X e (GY F m)
structure G1(X:Ar)(F:DF)(s:BE)(m:Af):Prop where
 p:DX X s (GF F m)
structure Ks(X:Ar)(F:DF)(s:↑BE)(m:Af):Prop where
 p:HK X s (GF F m)
structure QH(X:Ar)(F:DF)(CB e:Aq)(m:GK):Prop where
 p:He X CB e (fx F m)
structure QG(X:Ar)(F:DF)(e:Aq)(m:DN):Prop where
 p:HJ X e (ME F m)
structure D4(K:Ap)(mg:Str->Option A8)(x:Str)(st:BE)(ps:↑Str):Prop where
 ex:∃(f:A7)(fd:Hv),O7 K x x st f fd/\mg x=↥(.ref f)/\Binds K fd ps []
structure DE(P:C9)(w:Br)(K:Ap)(mg:Str->Option A8)(base:BF)(x:Str)(n k:Nat)(mf:Bk):Prop where
 ex:∃(f:A7)(fd:Hv)(ps:↑Str),⇑ps=n/\Ib P w K mg base (Im P w) k f fd ps (MA K n mf)/\mg x=↥(.ref f)/\KI K (.ref f)=true/\Binds K fd ps []
abbrev C6(P:C9)(w:Br)(K:Ap)(mg:Str->Option A8)(base:BF)(x:Str)(st:BE)(N:↑Str)(k:Nat)(m:Af):Prop:=∀(f:A7)(FS:A8)(A:D2)(outer:↑Env)(s:AQ)(H:AD)(E:Ev),Cv k (A.deeper (PyProof.Rows.envOfC x (Bn st) s.heap.objs.size f FS))->∀φ C0,Ks (KQ (Im P w) P w K mg base N x (Bn st) f FS A outer s H E) (TV K φ C0 E) (KR st) m
def VB{P:C9}{w:Br}{K:Ap}{mg:Str->Option A8}{base:BF}{x qual:Str}{st:BE}{N ps:↑Str}{k:Nat}{m:Af}{f:A7}{fd:Hv}(fn:O7 K x qual st f fd)(S:Bz N ps (Bn st))(A4:C6 P w K mg base qual st N k m) :
  Ib P w K mg base (Im P w) (k+1) f fd ps (MA K ⇑ps (FA ⇑N m)):=by
 obtain⟨GS,E1,Ck,doc,pm,an,FS,D6,Om,rfl,lk,LW⟩:=fn.ex;refine jE lk LW S af0 λA outer s H vs Q E BH AP=>?_;obtain⟨φ,B9⟩:=tg AP;exact⟨_,(A4 f FS A outer s H E BH φ H).p,B9⟩
def Nb{P:C9}{w:Br}{K:Ap}{mg:Str->Option A8}{base:BF}{x:Str}{st:BE}{N ps:↑Str}{k:Nat}{m:Af}(d:D4 K mg x st ps)(S:Bz N ps (Bn st))(A4:C6 P w K mg base x st N k m) :
  DE P w K mg base x ⇑ps (k+1) (FA ⇑N m):=by
 obtain⟨f,fd,fn,hm,Yp⟩:=d.ex;exact⟨f,fd,ps,rfl,VB fn S A4,hm,fn.Bu,Yp⟩
def EG{P:C9}{w:Br}{K:Ap}{mg:Str->Option A8}{base:BF}{x:Str}{st:BE}{N ps:↑Str}{k:Nat}{m:Af}(d:D4 K mg x st ps)(S:Bz N ps (Bn st))(A4:C6 P w K mg base x st N k m) :
  DE P w K mg base x ⇑ps (k+1) (Cw ⇑N m):=by
 obtain⟨f,fd,fn,hm,Yp⟩:=d.ex;exact⟨f,fd,ps,rfl,(VB fn S A4).imp pO,hm,fn.Bu,Yp⟩
def Ae(n:Nat)(mf:Bk)(m:E6):BB:=bd m λws _ h=>if ⇑ws=n then mf ws h else .bad
structure Sd(X:Ar)(F:DF):Prop where
 ex:∃E,Passes (Im X.prog X.w) X E/\∀c H,F.Mu c H->QY X.K E c H
def jn{φ:↑A7}{h:A5}{H:AD}{σ :St}{ρ:B5}{Q:CY}{K:Ap}{Mu:Str->AD->Prop}(A_:F.K=K)(r:Rel F φ h H σ ρ)(he:∀c H,F.Mu c H->Mu c H):∀{rs:R (W×A5)},EU AW F φ H σ ρ Q rs->J4 K φ H Q Mu rs
 |.ok (w,h'),q=>λv BM A9 d x a=>by subst A_;exact q v BM A9 (r.to d x) x a
 |.exc c h',q=>λBM A9 x d=>by subst A_;exact he c A9 (q BM A9 x d)
 |.bad,q=>q
def zC{X:Ar}{n:Nat}{mf:Bk}{m:E6}{E:Ev}(A_:F.K=X.K)(he:∀c H,F.Mu c H->QY X.K E c H):FP (CA F (Ae n mf m)) (rD (MA X.K n mf) [] E (GY F m)):=λσ H Q q=>
 q.bd λws vs φ ρ h H1 r as q=>by
   split at q
   .rename_i AZ;rw[La];exact⟨φ,h,ws,A_▸r.hd,A_▸as,AZ,jn A_ r he q⟩
   .exact q.elim
end
structure Q5(K:Ap)(c:Str)(B7:↑Str):Prop where
 ex:∃C,Ia K c C/\Jr K C/\∀f∈B7,R_ K C f
def Ia.inj{K:Ap}{c:Str}{C Lr:A7}(a:Ia K c C)(b:Ia K c Lr):C=Lr:=by unfold Ia at a b;rw[a]at b;cases b;rfl
theorem dp(f:Str):∀B7:↑(Str×V),B7.lookup f=Hr B7 f
 |[]=>rfl
 |(g,x)::r=>by
  by_cases h:g=f
  .subst h;rw[Wn rfl];simp[XO]
  .rw[Wm h,<-dp f r];have:(f==g)=false:=by simpa using λz:f=g=>h z.symm
   simp[XO,this]
noncomputable def Qx(h:A5)(c:Str):W->Option (Nat×↑Str×↑W)
 |.ref n=>match h[n]? with
  |some ⟨.ins Gb ns,ws⟩=>if Gb=c then↥(n,ns,ws)else none
  |_=>none
 |_=>none
noncomputable def TQ:↑Str->Str->↑Str
 |[],f=>[f]
 |g::r,f=>if g=f then g::r else g::TQ r f
noncomputable def RG:↑Str->↑W->Str->W->↑W
 |g::r,w::ws,f,u=>if g=f then u::ws else w::RG r ws f u
 |_,ws,_,u=>ws++[u]
section
variable{K:Ap}{φ:↑A7}{h:A5}{H:AD}{F:DF}{σ :St}{ρ:B5}{X:Ar}{m:BB}{ma:E6}
def eL(d:DM K φ h H){w:W}{v:V}{c:Str}{n:Nat}{ns:↑Str}{ws:↑W}(a:AW K φ H w v)(e:Qx h c w=↥(n,ns,ws)):∃p C Bs B7,v=.ref p/\h[n]?=↥⟨.ins c ns,ws⟩/\φ[n]?=↥p/\Ia K c C/\H p=↥(.ins C Bs B7)/\B7.map (·.1)=ns/\Al K φ H ws (B7.map (·.2)):=by
 unfold Qx at e
 split at e
 .split at e
  .rename_i Az
   split at e
   .rename_i AJ;cases e;subst AJ;obtain⟨p,xs,rfl,BA,⟨C,Bs,B7,AJ,AT,AA,rfl⟩,Bb⟩:=d.at Az a;exact⟨p,C,Bs,B7,rfl,Az,BA,AJ,AT,AA,Bb⟩
   .cases e
  .cases e
 .cases e
def Av(c f:Str):W->A5->R (W×A5):=λw h=>match Qx h c w with
 |some (_,ns,ws)=>match DL ns ws f with
  |some u=>.ok (u,h)
  |none=>.bad
 |none=>.bad
def zL{c f:Str}{B7:↑Str}(A_:F.K=X.K)(cl:Q5 X.K c B7)(hf:f∈B7):FP (CA F (B3 (Av c f) m)) (rJ X.K (CA F m) f):=λσ H Q q=>
 q.bd λw v φ ρ h H1 r a q=>by
   unfold Av at q
   split at q
   .rename_i n ns ws e;obtain⟨p,C,Bs,Nq,rfl,Az,BA,AJ,AT,rfl,Bb⟩:=eL r.hd a e;obtain⟨Lr,Bm,Cc,FF⟩:=cl.ex;rw[A_]at AJ;have:=AJ.inj Bm;subst this
    split at q
    .rename_i u HC;have Ft:=Rf f Bb;rw[HC]at Ft;cases ev:Hr Nq f with
     |none=>rw[ev]at Ft;cases Ft
     |some x=>rw[ev]at Ft;exact⟨p,C,Bs,Nq,x,rfl,AT,Cc,FF f hf,by rw[dp];exact ev,q x φ H1 r (Aj.refl _ _) Ft⟩
    .exact q.elim
   .exact q.elim
theorem jG{f:Str}{u:W}{x:V}(b:AW K φ H u x):∀{B7:↑(Str×V)}{ws:↑W},Al K φ H ws (B7.map (·.2))->(Hl f x B7).map (·.1)=TQ (B7.map (·.1)) f/\Al K φ H (RG (B7.map (·.1)) ws f u) ((Hl f x B7).map (·.2))
 |[],ws,a=>by
  cases ws with
  |nil=>exact⟨rfl,by erw[IE,RG,Hl];exact .cons b .nil⟩
  |cons _ _=>have:=⇑a;simp at this
 |(g,v)::B7,ws,a=>by
  cases ws with
  |nil=>have:=⇑a;simp at this
  |cons w ws=>
   erw[Do,Al]at a;obtain⟨JC,r,e,a1,a2⟩:=a;cases e;obtain⟨CZ,Fk⟩:=jG b a2;erw[Do,TQ,RG,Hl];by_cases Ai:g=f
   .rw[if_pos Ai,if_pos Ai,if_pos Ai];exact⟨rfl,.cons b a2⟩
   .rw[if_neg Ai,if_neg Ai,if_neg Ai];exact⟨by rw[Do,CZ],.cons a1 Fk⟩
def VA(c f:Str)(o v:W):Af:=λρ h=>match Qx h c o with
 |some (n,ns,ws)=>if ⇑ns<1000 then .ok (.AM ρ,h.set n ⟨.ins c (TQ ns f),RG ns ws f v⟩)else .bad
 |none=>.bad
def Ex(c f:Str)(o v:BB):Af:=bd v λON=>bd o λW9=>VA c f W9 ON
def zM{c f:Str}{B7:↑Str}{o v:BB}(A_:F.K=X.K)(cl:Q5 X.K c B7)(hf:f∈B7):Kn (GF F (Ex c f o v)) (oC X.K (CA F o) (CA F v) f):=λDe σ H q=>
 q.bd λON y φ ρ h H1 r Gl q=>⟨φ,ρ,h,r,ED.bd q λW9 x By h1 AU Aw Cn ER q=>by
   unfold VA at q
   split at q
   .rename_i n ns ws e;obtain⟨p,C,Bs,Nq,rfl,Az,BA,AJ,AT,rfl,Bb⟩:=eL Aw.hd ER e;obtain⟨Lr,Bm,Cc,FF⟩:=cl.ex;have Mc:=AJ;rw[A_]at AJ;have:=AJ.inj Bm;subst this
    split at q
    .rename_i AH;obtain⟨CZ,Fk⟩:=jG (f:=f) (Gl.ex Cn) Bb;have CT:Aj By AU By (upd AU p (.ins C Bs (Hl f y Nq))):=Aj.put AT λz=>z;refine⟨p,C,Bs,Nq,rfl,AT,Cc,FF f hf,(AH:),q σ By _ (Aw.to (Aw.hd.put Az BA AT (λz=>z) (o':=⟨.ins c _,_⟩) ⟨C,Bs,_,Mc,EM,CZ,rfl⟩ Fk) CT) CT⟩
    .exact q.elim
   .exact q.elim⟩
structure InK(K:Ap)(mg:Str->Option A8)(Dc qual:Str)(st:BE)(ps:↑Str):Prop where
 ex:∃(C f:A7)(fd:Hv),Ia K Dc C/\Y3 K C f/\O7 K "__init__" qual st f fd/\mg Dc=↥(.ref C)/\Binds K fd ps []
structure Uw(P:C9)(w:Br)(K:Ap)(mg:Str->Option A8)(base:BF)(Dc:Str)(n k:Nat)(mf:Bk):Prop where
 ex:∃(C f:A7)(fd:Hv)(ps:↑Str),⇑ps=n+1/\Ia K Dc C/\Y3 K C f/\Ib P w K mg base (Im P w) k f fd ps (MA K (n+1) mf)/\mg Dc=↥(.ref C)/\Binds K fd ps []
def ff{P:C9}{w:Br}{K:Ap}{mg:Str->Option A8}{base:BF}{qual Dc Hy:Str}{st:BE}{N ps:↑Str}{k:Nat}{m:Af}(d:InK K mg Dc qual st (Hy::ps))(S:Bz N (Hy::ps) (Bn st))(A4:C6 P w K mg base qual st N k m) :
  Uw P w K mg base Dc ⇑ps (k+1) (FA ⇑N m):=by
 obtain⟨C,f,fd,h1,h2,AY,Ch,EH⟩:=d.ex;exact⟨C,f,fd,Hy::ps,rfl,h1,h2,VB AY S A4,Ch,EH⟩
noncomputable def ac1(n:Nat):W×A5->R (W×A5)
 |(.non,h)=>.ok (.ref n,h)
 |_=>.bad
def K4(c:Str)(n:Nat)(mf:Bk)(m:E6):BB:=bd m λws _ h=>if ⇑ws=n then(mf (.ref ⇑h::ws) (h++[⟨.ins c [],[]⟩])).bind (ac1 ⇑h)else .bad
def yb{c:Str}{C:A7}{n:Nat}{mf:Bk}{E:Ev}(A_:F.K=X.K)(AJ:Ia X.K c C)(he:∀c H,F.Mu c H->QY X.K E c H):FP (CA F (K4 c n mf ma)) (rN C (MA X.K (n+1) mf) [] E (GY F ma)):=λσ H Q q=>
 q.bd λws vs φ ρ h H1 r as q x Bs AF hd Jy=>by
   split at q
   .rename_i AZ;have Cn:Aj φ H1 φ (upd H1 Bs (.own x)):=Aj.lay hd;have d1:=r.hd.lay (o:=.own x) hd;have kp:upd H1 Bs (.own x) x=none:=by rw[DK (N3 Jy)];exact AF
    have Eb:=d1.new (ho:=.ins C Bs []) (k:=.ins c []) kp ⟨C,Bs,[],A_▸AJ,EM,rfl,rfl⟩ .nil;have CT:Aj φ (upd H1 Bs (.own x)) (φ++[x]) (upd (upd H1 Bs (.own x)) x (.ins C Bs [])):=Aj.VZ kp;have Rh:=Cn.trans CT;have ex:(φ++[x])[⇑h]?=↥x:=Za r.hd;rw[La];refine⟨φ++[x],_,.ref ⇑h::ws,A_▸Eb,.cons (.GX ex) (A_▸as.ex Rh),by simp[AZ],?_⟩;cases e:mf (.ref ⇑h::ws) (h++[⟨.ins c [],[]⟩])with
    |bad=>rw[e]at q;cases q
    |exc Gb h'=>rw[e]at q;exact λBM A9 Fw d'=>he Gb A9 (q BM A9 (Rh.trans Fw) (A_▸d'))
    |ok p=>
     rw[e]at q;obtain⟨w,h'⟩:=p;cases w<;>try cases q
     intro v BM A9 d' Fw G_;erw[AW]at G_;exact⟨G_,q _ BM A9 (r.to (A_▸d') (Rh.trans Fw)) (Rh.trans Fw) (.GX (GD Fw.p ex))⟩
   .exact q.elim
structure Ic(K:Ap)(Dc x qual:Str)(st:BE)(ps:↑Str):Prop where
 ex:∃(C f:A7)(fd:Hv),Ia K Dc C/\Jr K C/\Meth K C x f/\O7 K x qual st f fd/\Binds K fd ps []
structure H8(P:C9)(w:Br)(K:Ap)(mg:Str->Option A8)(base:BF)(Dc x:Str)(n k:Nat)(mf:Bk):Prop where
 ex:∃(C f:A7)(fd:Hv)(ps:↑Str),⇑ps=n+1/\Ia K Dc C/\Jr K C/\Meth K C x f/\Ib P w K mg base (Im P w) k f fd ps (MA K (n+1) mf)/\Binds K fd ps []
def Jf{P:C9}{w:Br}{K:Ap}{mg:Str->Option A8}{base:BF}{x qual Dc Hy:Str}{st:BE}{N ps:↑Str}{k:Nat}{m:Af}(d:Ic K Dc x qual st (Hy::ps))(S:Bz N (Hy::ps) (Bn st))(A4:C6 P w K mg base qual st N k m) :
  H8 P w K mg base Dc x ⇑ps (k+1) (FA ⇑N m):=by
 obtain⟨C,f,fd,h1,h2,AY,Ch,EH⟩:=d.ex;exact⟨C,f,fd,Hy::ps,rfl,h1,h2,AY,VB Ch S A4,EH⟩
def H8.st{P:C9}{w:Br}{K:Ap}{mg:Str->Option A8}{base:BF}{x Dc:Str}{N n k:Nat}{m:Af}(d:H8 P w K mg base Dc x n k (FA N m)):H8 P w K mg base Dc x n k (Cw N m):=by obtain⟨C,f,fd,ps,h0,h1,h2,AY,Ch,EH⟩:=d.ex;exact⟨C,f,fd,ps,h0,h1,h2,AY,Ch.imp pO,EH⟩
def VX{α:Type}(c x:Str)(w:W)(m:M α):M α:=λρ h=>match Qx h c w with
 |some (_,ns,ws)=>match DL ns ws x with
  |none=>m ρ h
  |some _=>.bad
 |none=>.bad
def CO(c x:Str)(n:Nat)(mf:Bk)(o:BB)(ma:E6):BB:=bd o λw=>VX c x w (bd ma λws _ h=>if ⇑ws=n then mf (w::ws) h else .bad)
def eH{c x:Str}{C:A7}{n:Nat}{mf:Bk}{E:Ev}{o:BB}(A_:F.K=X.K)(AJ:Ia X.K c C)(he:∀c H,F.Mu c H->QY X.K E c H):FP (CA F (CO c x n mf o ma)) (aV C x (MA X.K (n+1) mf) [] E (CA F o) (GY F ma)):=λσ H Q q=>
 q.bd λw v φ ρ h H1 r a q=>by
   unfold VX at q
   split at q
   .rename_i nn ns ws e;obtain⟨p,Lr,Bs,Nq,rfl,Az,BA,Mc,AT,rfl,Bb⟩:=eL r.hd a e;rw[A_]at Mc;have:=AJ.inj Mc;subst this
    split at q
    .rename_i HC;have Ft:=Rf x Bb;rw[HC]at Ft;cases ev:Hr Nq x with
     |some _=>rw[ev]at Ft;cases Ft
     |none=>
      refine⟨p,Bs,Nq,rfl,AT,by rw[dp];exact ev,φ,ρ,h,r,q.bd λus vs CQ h2 AU BL CT as q=>?_⟩
      split at q
      .rename_i AZ;rw[La];exact⟨CQ,h2,w::us,A_▸BL.hd,.cons (A_▸a.ex CT) (A_▸as),by simp[AZ],jn A_ BL he q⟩
      .exact q.elim
    .exact q.elim
   .exact q.elim
structure Sa(K:Ap)(mg:Str->Option A8)(c:Str):Prop where
 ex:∃C,Ia K c C/\mg c=↥(.ref C)/\UY K C [.type "ValueError",.type "Exception",.type "BaseException",.type "object"] "ValueError.__new__"=true
def NN(c:Str):Af:=λ_ h=>.exc c h
end
section
variable{P:C9}{w:Br}{K:Ap}{mg:Str->Option A8}{base:BF}{N:↑Str}{qual:Str}{scope:FE}{f:A7}{cd:A8}{A:D2}{outer:↑Env}{s0:AQ}{Fz:AD}{E:Ev}{φ:↑A7}{C0:AD}
def aj{x:Str}{np D5 pos JL:Pos}{m:Str}{j:Nat}(k:Sa K mg x)(Ai:Eh (KQ (Im P w) P w K mg base N qual scope f cd A outer s0 Fz E) x:=by rfl)(hd:(x==("__debug__" :Str))=false:=by decide) :
  G1 (KQ (Im P w) P w K mg base N qual scope f cd A outer s0 Fz E) (TV K φ C0 E) (.Raise ↥(.Call (.Name x np) [.Constant (.str m) j JL] [] D5) none pos) (NN x):=by
 obtain⟨C,h1,h2,AY⟩:=k.ex;refine⟨λA3 s σ H D Z q=>adj (X:=KQ (Im P w) P w K mg base N qual scope f cd A outer s0 Fz E) PySem.F.excBase_ValueError AY h2 rfl Ai hd A3 s σ H D Z ?_⟩;obtain⟨BM,ρ,h,r,q⟩:=q;obtain⟨Lr,Bm,Cc⟩:=(show eQ (TV K φ C0 E) BM H x h from q) BM H (Aj.refl _ _) r.hd;have:=h1.inj Bm;subst this;exact agS Cc
def b5:Sd (KQ (Im P w) P w K mg base N qual scope f cd A outer s0 Fz E) (TV K φ C0 E):=⟨E,ac_,λ_ _ q=>q⟩
end
def b4{X:Ar}{K:Ap}{φ:↑A7}{H:AD}:Sd X (Ij K φ H):=⟨λ_ _ _=>False,λ_ _ _ _ _ _ _ z=>by obtain⟨_,_,_,_,_,_,_,z⟩:=z;exact z.elim,λ_ _ q=>q.elim⟩
noncomputable def notStar:Aq->Bool
 |.Starred .. =>false
 |_=>true
def r4(e:Aq)(es:↑Aq)(env:Env)(h:notStar e=true):CM (e::es) env=(false,Bc e env)::CM es env:=by cases e<;>first|rfl|(cases h)
noncomputable def UD:Aq->Bool
 |.ListComp .. =>false
 |.SetComp .. =>false
 |.DictComp .. =>false
 |_=>true
def aP(e:Aq)(t:Option Aq)(l:Nat)(env:Env)(h:UD e=true):O2 e t l env=pure false:=by cases e<;>first|rfl|(cases h)
def abj:Aq->Bool
 |.Slice .. =>false
 |_=>true
def Te{b:Aq}(h:abj b=true:=by rfl):cD b:=λo i=>by cases b<;>first|rfl|(cases h)
section
variable{X:Ar}{F:DF}{e a b c o:Aq}{es:↑Aq}{pos p DB apos:Pos}{m n l:BB}{ma:E6}{st:BE}{LK:↑BE}{CB iter:Aq}{mg:DN}
def Ah.imp{t t':TE}(h:Ah X e t)(i:FP t' t):Ah X e t':=λA3 s σ H Q Z hw=>h A3 s σ H Q Z (i σ H Q hw)
def EY.imp{t t':TT}(h:EY X e t)(i:RY t' t):EY X e t':=λA3 s σ H Q Z hw=>h A3 s σ H Q Z (i σ H Q hw)
def Jt.imp{t t':TT}(h:Jt X e t)(i:RY t' t):Jt X e t':=λOP A3 s σ H Q Z hw=>h OP A3 s σ H Q Z (i σ H Q hw)
def H9.imp{t t':Fb}(h:H9 X es t)(i:bx t' t):H9 X es t':=λp A3 s σ H Q Z hw=>h p A3 s σ H Q Z (i σ H Q hw)
def DX.imp{t t':F4}(h:DX X st t)(i:Kn t' t):DX X st t':=λA3 s σ H De Z hw=>h A3 s σ H De Z (i De σ H hw)
def HK.imp{t t':F4}(h:HK X LK t)(i:Kn t' t):HK X LK t':=λA3 s σ H De Z hw=>h A3 s σ H De Z (i De σ H hw)
def He.imp{t t':TI}(h:He X CB e t)(i:∀ σ H R,t' σ H R->t σ H R):He X CB e t':=λA3 s σ H Q Z hw=>h A3 s σ H Q Z (i σ H Q hw)
def HJ.imp{t t':Ju}(h:HJ X CB t)(i:Y1 t' t):HJ X CB t':=λA3 s σ H v u Q Z r hw=>h A3 s σ H v u Q Z r (i v σ H Q hw)
def L7.imp{t t':OD}(h:L7 X es t)(i:∀vs σ H Q,t' vs σ H Q->t vs σ H Q):L7 X es t':=λA3 s σ H v u Q Z r hw=>h A3 s σ H v u Q Z r (i v σ H Q hw)
structure tF(X:Ar)(i:Nat)(x:Str):Prop where
 N:X.N[i]?=↥x:=by rfl
 v:Y7 X.env.scope x:=by first|exact Or.inl rfl|exact Or.inr (Or.inl rfl)|exact Or.inr (Or.inr rfl)
 d:(x==("__debug__" :Str))=false:=by decide
 cd:(x==("__classdict__" :Str))=false:=by decide
structure Ns(X:Ar)(i:Nat)(x:Str):Prop where
 N:X.N[i]?=↥x:=by rfl
 l:Loc X.env.scope x:=by first|exact Or.inl rfl|exact Or.inr rfl
 f:X.fn x=true\/X.env.scope.names.lookup x=↥.local:=by first|exact .inl rfl|exact .inr rfl
def ai7(i:Nat){x:Str}(k:tF X i x:=by exact{}):Ab X F (.Name x pos) (I i):=⟨Ah.imp (acS k.N k.v k.d k.cd) (yv i)⟩
def agj{i:Int}{j}:Ab X F (.Constant (.int i) j pos) (pu (.int i)):=⟨Ah.imp aco (VT λ_ _=>by erw[AW])⟩
def ahG{i:Bool}{j}:Ab X F (.Constant (.bool i) j pos) (pu (.AO i)):=⟨Ah.imp acb (VT λ_ _=>by erw[AW])⟩
def ai1{i:Str}{j}:Ab X F (.Constant (.str i) j pos) (pu (.str i)):=⟨Ah.imp m8 (VT λ_ _=>by erw[AW])⟩
def agU{j}:Ab X F (.Constant .none j pos) (pu .non):=⟨Ah.imp acw (VT λ_ _=>by erw[AW])⟩
structure Lu(K:Ap)(mg:Str->Option A8)(x:Str)(w:W):Prop where
 ex:∃(v:V)(u:A8),mg x=↥u/\RelV v u/\∀φ H,AW K φ H w v
def Oq{x:Str}{w:W}(k:Lu X.K X.mg x w)(A_:F.K=X.K:=by rfl)(Ai:Eh X x:=by rfl)(hd:(x==("__debug__" :Str))=false:=by decide):Ab X F (.Name x pos) (pu w):=by obtain⟨v,u,h1,h2,AY⟩:=k.ex;exact⟨Ah.imp (acm Ai h1 h2 hd) (VT (by rw[A_];exact AY))⟩
def ai0(h:Ab X F e m):Ab X F e (Bv m):=⟨Ah.imp h.p yq⟩
def ahV{k:DT}(h:Fn X F e k):Fn X F e (HS k):=⟨EY.imp h.p yr⟩
def ah9:Hg X F [] A2:=⟨H9.imp UF VV⟩
def ah8(h:Ab X F e m)(t:Hg X F es ma)(AP:notStar e=true:=by rfl):Hg X F (e::es) (J m ma):=⟨H9.imp (S2 h.p t.p (r4 e es X.env AP)) a0⟩
def ai5{k}(h:Hg X F es ma):Ab X F (.Tuple es k pos) (As ma):=⟨Ah.imp (acQ h.p) yt⟩
def agr(h:Hg X F es ma):Ab X F (.List es pos) (Bd ma):=⟨Ah.imp (acr h.p) zS⟩
structure R7(X:Ar)(F:DF)(e:Aq)(m:DT):Prop where
 p:Jt X e (Hn F m)
def ahW(h:Ab X F e m)(he:∀whole,isTrue e X.env whole=(do let v <-whole;MP e.pos;JI [v] (truthy v)):=by intro _;rfl):Fn X F e (AV m):=⟨EY.imp (adw h.p he) KY⟩
def ahy{k:DT}(h:Fn X F a k):R7 X F (.BoolOp .And [a] pos) k:=⟨ae2 h.p⟩
def aiN{k:DT}(h:Fn X F a k):R7 X F (.BoolOp .Or [a] pos) k:=⟨adT h.p⟩
def ahY{k j:DT}(h:Fn X F a k)(t:R7 X F (.BoolOp .And (b::es) pos) j):R7 X F (.BoolOp .And (a::b::es) pos) (F9 k j):=⟨Jt.imp (ae1 h.p t.p) zA⟩
def aiM{k j:DT}(h:Fn X F a k)(t:R7 X F (.BoolOp .Or (b::es) pos) j):R7 X F (.BoolOp .Or (a::b::es) pos) (FU k j):=⟨Jt.imp (adS h.p t.p) yg⟩
def ahX{k:DT}(h:R7 X F e k):Fn X F e k:=⟨Jt.pt h.p⟩
def ahT{k:DT}(h:Fn X F a k):Fn X F (.UnaryOp .Not a pos) (Du k):=⟨EY.imp (adv h.p) ye⟩
def agX{op}(h:Ab X F a m):Ab X F (.BoolOp op [a] pos) m:=⟨acy h.p⟩
def ahD(h:Ab X F a m)(k:Ab X F (.BoolOp .And (b::es) pos) n):Ab X F (.BoolOp .And (a::b::es) pos) (Kc m n):=⟨Ah.imp (aca h.p k.p) zB⟩
def agY(h:Ab X F a m)(k:Ab X F (.BoolOp .Or (b::es) pos) n):Ab X F (.BoolOp .Or (a::b::es) pos) (WX m n):=⟨Ah.imp (acz h.p k.p) yh⟩
def agV(h:Ab X F a m):Ab X F (.UnaryOp .Not a pos) (PU m):=⟨Ah.imp (acx h.p) yf⟩
def agg{k:DT}(h:Fn X F c k)(AG:Ab X F a m)(A4:Ab X F b n):Ab X F (.IfExp c a b pos) (NM k m n):=⟨Ah.imp (acn h.p AG.p A4.p) zP⟩
def ahh:Ks X F [] B_:=⟨HK.imp ads eI⟩
def ah_{u v:Af}(h:G1 X F st u)(k:Ks X F LK v):Ks X F (st::LK) (AK u v):=⟨HK.imp (adp h.p k.p) yo⟩
def ahi{u:Af}(h:G1 X F st u):Ks X F [st] u:=⟨adt h.p⟩
def ahj:G1 X F (.Pass pos) B_:=⟨DX.imp adi eI⟩
def aha{x j DB}:G1 X F (.Expr (.Constant (.str x) j pos) DB) B_:=⟨DX.imp aeT eI⟩
def ahc(h:Ab X F e m)(AP:UD e=true:=by rfl):G1 X F (.Expr e pos) (EV m):=⟨DX.imp (ade h.p (aP _ _ _ _ AP)) zK⟩
def ahl(h:Ab X F e m):G1 X F (.Return ↥e pos) (At m):=⟨DX.imp (adk h.p) ym⟩
def ahm:G1 X F (.Return none pos) (At (pu .non)):=⟨DX.imp adl yn⟩
def ahg{k:DT}{u v:Af}{xs ys:↑BE}(h:Fn X F c k)(AG:Ks X F xs u)(A4:Ks X F ys v):G1 X F (.If c xs ys pos) (BZ k u v):=⟨DX.imp (adg h.p AG.p A4.p) zQ⟩
def ahn(i:Nat){x:Str}(hN:X.N.Nodup)(he:Ab X F e m)(k:Ns X i x:=by exact{})(AP:UD e=true:=by rfl):G1 X F (.Assign [.Name x p] e pos) (AR m (A6 i)):=⟨DX.imp (adm hN k.N k.l he.p (aP _ _ _ _ AP) k.f) λDe σ H q=>
 q.bd λw v φ ρ h H1 r a q=>by
   unfold A6 at q
   split at q
   .rename_i hi;exact q _ φ H1 (r.set hi a) (Aj.refl _ _)
   .exact q.elim⟩
def ai9(i:Nat){x:Str}(hN:X.N.Nodup)(k:Ns X i x:=by exact{}):QG X F (.Name x pos) (A6 i):=⟨HJ.imp (WD hN k.N k.l k.f) (VU i)⟩
structure Y8(X:Ar)(F:DF)(es:↑Aq)(Gp:↑DN):Prop where
 p:L7 X es (Vu F Gp)
def aiA:Y8 X F [] []:=⟨L7.imp mA k7⟩
def ai8{g:DN}{Gp:↑DN}(h:QG X F e g)(t:Y8 X F es Gp)(AP:(Le (e::es) X.env).map (·.2)=L2 e X.env::(Le es X.env).map (·.2):=by rfl):Y8 X F (e::es) (g::Gp):=⟨L7.imp (fQ h.p t.p AP) eF⟩
def aiB{k:Nat}{Gp:↑DN}(h:Y8 X F es Gp)(AJ:X.calm=true:=by rfl)(A_:F.K=X.K:=by rfl)(AZ:⇑(Le es X.env)=⇑Gp:=by rfl)(Fj:(Le es X.env).findIdx? (·.1)=none:=by rfl):QG X F (.Tuple es k pos) (EI Gp):=⟨HJ.imp (m9 AJ h.p AZ Fj) (k8 A_ rfl)⟩
def ahB(AG:Ab X F a m)(A4:Ab X F b n)(A_:F.K=X.K:=by rfl):Ab X F (.BinOp a .Add b pos) (A1 addW m n):=⟨Ah.imp (QK adB AG.p A4.p) (Fl (abS A_))⟩
def ai3(AG:Ab X F a m)(A4:Ab X F b n)(A_:F.K=X.K:=by rfl):Ab X F (.BinOp a .Sub b pos) (A1 MD m n):=⟨Ah.imp (QK adM AG.p A4.p) (Fl (M7 λ_ _ _ _ _=>by erw[AW]))⟩
def agx(AG:Ab X F a m)(A4:Ab X F b n)(A_:F.K=X.K:=by rfl):Ab X F (.BinOp a .Mult b pos) (A1 IA m n):=⟨Ah.imp (QK (adI.or adK) AG.p A4.p) (Fl ad3)⟩
def agd(AG:Ab X F a m)(A4:Ab X F b n)(A_:F.K=X.K:=by rfl):Ab X F (.BinOp a .FloorDiv b pos) (A1 Cg m n):=⟨Ah.imp (QK adG AG.p A4.p) (Fl (ZO λ_ _ _ _ _=>by erw[AW]))⟩
def agw(AG:Ab X F a m)(A4:Ab X F b n)(A_:F.K=X.K:=by rfl):Ab X F (.BinOp a .Mod b pos) (A1 BR m n):=⟨Ah.imp (QK adH AG.p A4.p) (Fl (ZO λ_ _ _ _ _=>by erw[AW]))⟩
def aga(AG:Ab X F a m)(A4:Ab X F b n)(A_:F.K=X.K:=by rfl):Ab X F (.BinOp a .Pow b pos) (A1 Oo m n):=⟨Ah.imp (QK adJ AG.p A4.p) (Fl (ZO λ_ _ _ _ _=>by erw[AW]))⟩
def ah1(AG:Ab X F a m)(A4:Ab X F b n)(A_:F.K=X.K:=by rfl):Ab X F (.BinOp a .RShift b pos) (A1 aeq m n):=⟨Ah.imp (QK adL AG.p A4.p) (Fl (ZO λ_ _ _ _ _=>by erw[AW]))⟩
def ahE(AG:Ab X F a m)(A4:Ab X F b n)(A_:F.K=X.K:=by rfl):Ab X F (.BinOp a .BitAnd b pos) (A1 u7 m n):=⟨Ah.imp (QK adD AG.p A4.p) (Fl (M7 λ_ _ _ _ _=>by erw[AW]))⟩
def ags(AG:Ab X F a m)(A4:Ab X F b n)(A_:F.K=X.K:=by rfl):Ab X F (.Compare a [.Lt] [b] pos) (A1 NL m n):=⟨Ah.imp (M8 au AG.p A4.p (Hx _)) (Fl (M7 λ_ _ _ _ _=>by erw[AW]))⟩
def ahP(AG:Ab X F a m)(A4:Ab X F b n)(A_:F.K=X.K:=by rfl):Fn X F (.Compare a [.Lt] [b] pos) (AV (A1 NL m n)):=⟨EY.imp (M9 au AG.p A4.p (Hx _)) λσ H Q q=>let⟨φ,ρ,h,r,z⟩:=KY σ H Q q;Fl (M7 λ_ _ _ _ _=>by erw[AW]) σ H _ ⟨φ,ρ,h,r,z⟩⟩
def agm(AG:Ab X F a m)(A4:Ab X F b n)(A_:F.K=X.K:=by rfl):Ab X F (.Compare a [.LtE] [b] pos) (A1 Ln m n):=⟨Ah.imp (M8 QJ AG.p A4.p (Hx _)) (Fl (M7 λ_ _ _ _ _=>by erw[AW]))⟩
def ahx(AG:Ab X F a m)(A4:Ab X F b n)(A_:F.K=X.K:=by rfl):Fn X F (.Compare a [.LtE] [b] pos) (AV (A1 Ln m n)):=⟨EY.imp (M9 QJ AG.p A4.p (Hx _)) λσ H Q q=>let⟨φ,ρ,h,r,z⟩:=KY σ H Q q;Fl (M7 λ_ _ _ _ _=>by erw[AW]) σ H _ ⟨φ,ρ,h,r,z⟩⟩
def agf(AG:Ab X F a m)(A4:Ab X F b n)(A_:F.K=X.K:=by rfl):Ab X F (.Compare a [.Gt] [b] pos) (A1 KW m n):=⟨Ah.imp (M8 ml AG.p A4.p (Hx _)) (Fl (M7 λ_ _ _ _ _=>by erw[AW]))⟩
def ahu(AG:Ab X F a m)(A4:Ab X F b n)(A_:F.K=X.K:=by rfl):Fn X F (.Compare a [.Gt] [b] pos) (AV (A1 KW m n)):=⟨EY.imp (M9 ml AG.p A4.p (Hx _)) λσ H Q q=>let⟨φ,ρ,h,r,z⟩:=KY σ H Q q;Fl (M7 λ_ _ _ _ _=>by erw[AW]) σ H _ ⟨φ,ρ,h,r,z⟩⟩
def age(AG:Ab X F a m)(A4:Ab X F b n)(A_:F.K=X.K:=by rfl):Ab X F (.Compare a [.GtE] [b] pos) (A1 VD m n):=⟨Ah.imp (M8 mj AG.p A4.p (Hx _)) (Fl (M7 λ_ _ _ _ _=>by erw[AW]))⟩
def aht(AG:Ab X F a m)(A4:Ab X F b n)(A_:F.K=X.K:=by rfl):Fn X F (.Compare a [.GtE] [b] pos) (AV (A1 VD m n)):=⟨EY.imp (M9 mj AG.p A4.p (Hx _)) λσ H Q q=>let⟨φ,ρ,h,r,z⟩:=KY σ H Q q;Fl (M7 λ_ _ _ _ _=>by erw[AW]) σ H _ ⟨φ,ρ,h,r,z⟩⟩
def agb(BQ:X.A.units+64<Dg)(AG:Ab X F a m)(A4:Ab X F b n)(A_:F.K=X.K:=by rfl):Ab X F (.Compare a [.Eq] [b] pos) (A1 Ξ m n):=⟨Ah.imp (M8 (aq BQ).1 AG.p A4.p (Hx _)) (Fl (ZM A_ true))⟩
def ahr(BQ:X.A.units+64<Dg)(AG:Ab X F a m)(A4:Ab X F b n)(A_:F.K=X.K:=by rfl):Fn X F (.Compare a [.Eq] [b] pos) (AV (A1 Ξ m n)):=⟨EY.imp (M9 (aq BQ).1 AG.p A4.p (Hx _)) λσ H Q q=>let⟨φ,ρ,h,r,z⟩:=KY σ H Q q;Fl (ZM A_ true) σ H _ ⟨φ,ρ,h,r,z⟩⟩
def agy(BQ:X.A.units+64<Dg)(AG:Ab X F a m)(A4:Ab X F b n)(A_:F.K=X.K:=by rfl):Ab X F (.Compare a [.NotEq] [b] pos) (A1 (Ay false) m n):=⟨Ah.imp (M8 (aq BQ).2 AG.p A4.p (Hx _)) (Fl (ZM A_ false))⟩
def ahQ(BQ:X.A.units+64<Dg)(AG:Ab X F a m)(A4:Ab X F b n)(A_:F.K=X.K:=by rfl):Fn X F (.Compare a [.NotEq] [b] pos) (AV (A1 (Ay false) m n)):=⟨EY.imp (M9 (aq BQ).2 AG.p A4.p (Hx _)) λσ H Q q=>let⟨φ,ρ,h,r,z⟩:=KY σ H Q q;Fl (ZM A_ false) σ H _ ⟨φ,ρ,h,r,z⟩⟩
def agk(AG:Ab X F a m)(A4:Ab X F b n)(A_:F.K=X.K:=by rfl):Ab X F (.Compare a [.Is] [b] pos) (A1 (Dj true) m n):=⟨Ah.imp (M8 mm AG.p A4.p (Hx _)) (Fl (ZP true))⟩
def ahw(AG:Ab X F a m)(A4:Ab X F b n)(A_:F.K=X.K:=by rfl):Fn X F (.Compare a [.Is] [b] pos) (AV (A1 (Dj true) m n)):=⟨EY.imp (M9 mm AG.p A4.p (Hx _)) λσ H Q q=>let⟨φ,ρ,h,r,z⟩:=KY σ H Q q;Fl (ZP true) σ H _ ⟨φ,ρ,h,r,z⟩⟩
def agW(AG:Ab X F a m)(A4:Ab X F b n)(A_:F.K=X.K:=by rfl):Ab X F (.Compare a [.IsNot] [b] pos) (A1 (Dj false) m n):=⟨Ah.imp (M8 mq AG.p A4.p (Hx _)) (Fl (ZP false))⟩
def ahU(AG:Ab X F a m)(A4:Ab X F b n)(A_:F.K=X.K:=by rfl):Fn X F (.Compare a [.IsNot] [b] pos) (AV (A1 (Dj false) m n)):=⟨EY.imp (M9 mq AG.p A4.p (Hx _)) λσ H Q q=>let⟨φ,ρ,h,r,z⟩:=KY σ H Q q;Fl (ZP false) σ H _ ⟨φ,ρ,h,r,z⟩⟩
noncomputable def Ke:W->A5->R (W×A5):=λw h=>match w with
 |.int i=>.ok (.int (-i),h)
 |_=>.bad
def ah0(AG:Ab X F a m):Ab X F (.UnaryOp .USub a pos) (B3 Ke m):=⟨Ah.imp (acR afi AG.p) (yu λσ ρ φ h H x w Q r a q=>by
 cases w with
 |int i=>erw[AW]at a;exact⟨i,a,q _ φ H r (Aj.refl _ _) (by erw[AW])⟩
 |_=>cases q)⟩
def Oc(f g:J0)(a b c:BB):BB:=bd a λx=>bd b λy=>bd (λ_ h=>f x y h) (MX λk=>if k=true then bd c λz _ h=>g y z h else pu (.AO false))
def jz{r Bf:EZ}{f g:J0}(hf:IL F r f)(Ai:IL F Bf g):FP (CA F (Oc f g m n l)) (fv r Bf (CA F m) (CA F n) (CA F l)):=λσ H Q q=>
 q.bd λx v φ ρ h H1 Aw ER q=>⟨φ,ρ,h,Aw,q.bd λy u CQ h2 AU BL CT Gl q=>hf σ ρ CQ h2 AU v u x y _ BL (ER.ex CT) Gl (q.bd λk CN KH AY C1 FI EN sv q=>by
   obtain⟨c,e,q⟩:=Uz sv q;refine⟨c,e,?_⟩;cases c with
   |false=>exact q _ KH C1 FI (Aj.refl _ _) (NX _)
   |true=>have q:EU AW F KH C1 σ ρ Q (bd l (λz _ h=>g y z h) ρ AY):=q;exact⟨KH,ρ,AY,FI,q.bd λz ai_ aJ Ch E5 NW QX Sm q=>Ai σ ρ aJ Ch E5 u ai_ y z Q NW (Gl.ex (EN.trans QX)) Sm q⟩)⟩
def rZ{op K8:CmpOp}{r Bf:EZ}{f g:J0}(ho:Dp X (G4 op) r)(IS:Dp X (G4 K8) Bf)(hf:IL F r f)(Ai:IL F Bf g)(AG:Ab X F a m)(A4:Ab X F b n)(AJ:Ab X F c l)(hm:lastMarks [op,K8] [b,c]=false:=by with_unfolding_all rfl):Ab X F (.Compare a [op,K8] [b,c] pos) (Oc f g m n l):=⟨Ah.imp (acf ho IS AG.p A4.p AJ.p hm) (jz hf Ai)⟩
def UE:IL F (LJ λi j=>.AO (decide (i<=j))) Ln:=M7 λ_ _ _ _ _=>by erw[AW]
def m_:IL F (LJ λi j=>.AO (decide (i<j))) NL:=M7 λ_ _ _ _ _=>by erw[AW]
def r_{op K8:CmpOp}{r Bf:EZ}{f g:J0}(ho:Dp X (G4 op) r)(IS:Dp X (G4 K8) Bf)(hf:IL F r f)(Ai:IL F Bf g)(AG:Ab X F a m)(A4:Ab X F b n)(AJ:Ab X F c l)(hm:lastMarks [op,K8] [b,c]=false:=by with_unfolding_all rfl):Fn X F (.Compare a [op,K8] [b,c] pos) (AV (Oc f g m n l)):=⟨EY.imp (adu ho IS AG.p A4.p AJ.p hm) λσ H Q q=>jz hf Ai σ H _ (KY σ H Q q)⟩
structure LO(X:Ar)(F:DF)(e:Option Aq)(k:RZ):Prop where
 p:Uo X e (Vv F k)
def aiH:LO X F none (pu none):=⟨λA3 s σ H Q Z q=>aeO A3 s σ H Q Z (yd σ H Q q)⟩
def aiI(h:Ab X F e m):LO X F ↥e (CP m):=⟨λA3 s σ H Q Z q=>aeP h.p A3 s σ H Q Z (yi σ H Q q)⟩
def ahz{lo hi:Option Aq}{k j:RZ}(AG:Ab X F a m)(AH:LO X F lo k)(hh:LO X F hi j)(A_:F.K=X.K:=by rfl):Ab X F (.Subscript a (.Slice lo hi none DB) pos) (D9 m k j):=⟨Ah.imp (ad0 (aet.or aeu) AG.p AH.p hh.p) (yp A_)⟩
structure MV(X:Ar)(e:Aq)(es:↑Aq)(pos:Pos):Prop where
 he:CM (e::es) X.env=(false,Bc e X.env)::CM es X.env:=by rfl
 GN:(Fa pos (CM es X.env)).any (·.1)=false:=by rfl
def agn(hm:X.mg "len"=none)(AG:Hg X F [e] ma)(A_:F.K=X.K:=by rfl)(Ai:Eh X "len":=by rfl)(s:MV X e [] pos:=by exact{}):Ab X F (.Call (.Name "len" p) [e] [] pos) (B6 BO ma):=⟨Ah.imp (ay tx Ai hm PySem.boot_len AG.p ε ε s.he s.GN) (Qw (abY A_))⟩
def agp(hm:X.mg "list"=none)(AG:Hg X F [e] ma)(A_:F.K=X.K:=by rfl)(Ai:Eh X "list":=by rfl)(s:MV X e [] pos:=by exact{}):Ab X F (.Call (.Name "list" p) [e] [] pos) (B6 Fp ma):=⟨Ah.imp (WB u0 Ai hm (by kernel_rfl) AG.p ε ε s.he s.GN) (Qw (aby A_))⟩
def ai6(hm:X.mg "tuple"=none)(AG:Hg X F [e] ma)(A_:F.K=X.K:=by rfl)(Ai:Eh X "tuple":=by rfl)(s:MV X e [] pos:=by exact{}):Ab X F (.Call (.Name "tuple" p) [e] [] pos) (B6 OK ma):=⟨Ah.imp (WB u4 Ai hm (by kernel_rfl) AG.p ε ε s.he s.GN) (Qw (ad7 A_))⟩
def ai2(hm:X.mg "str"=none)(AG:Hg X F [e] ma)(Ai:Eh X "str":=by rfl)(s:MV X e [] pos:=by exact{}):Ab X F (.Call (.Name "str" p) [e] [] pos) (B6 QQ ma):=⟨Ah.imp (WB u3 Ai hm (by kernel_rfl) AG.p ε ε s.he s.GN) (Qw ad5)⟩
def ai4(hm:X.mg "int"=none)(AG:Hg X F [e] ma)(Ai:Eh X "int":=by rfl)(s:MV X e [] pos:=by exact{}):Ab X F (.Call (.Name "int" p) [e] [] pos) (B6 Tr ma):=⟨Ah.imp (WB tv Ai hm (by kernel_rfl) AG.p ε ε s.he s.GN) (Qw ad6)⟩
def Wr{U:Str}{T:String}(tt:cI X.K T)(hm:X.mg "isinstance"=none)(yQ:X.mg U=none)(x8:O1 U=↥(.type T))(AG:Ab X F a m)(A_:F.K=X.K:=by rfl)(Ai:Eh X "isinstance":=by rfl)(yB:Eh X U:=by rfl)(xk:U≠"__name__":=by decide)(wn:(U==("__debug__" :Str))=false:=by decide)(AP:notStar a=true:=by rfl)(s:MV X a [.Name U DB] pos:=by exact{}):Ab X F (.Call (.Name "isinstance" p) [a,.Name U DB] [] pos) (B3 (Dz T) m):=
 ⟨Ah.imp (ay (tw tt) Ai hm (by kernel_rfl) (S2 AG.p (S2 (acd (v:=.ty T) yB yQ x8 rfl xk wn) UF) (r4 _ _ _ AP)) ε ε s.he s.GN) (zR A_)⟩
structure QA(X:Ar)(o:Aq)(x:Str)(apos D5:Pos)(e:Aq):Prop where
 b:Ky o x X.env (Bc o X.env)=Bc o X.env:=by rfl
 l:(apos.endLine==D5.line)=true:=by rfl
 f:((Fa D5 (CM [e] X.env)).all (λx=>!x.1)&&(L0 D5 (Kx [] X.env)).all (λx=>x.1.isSome)&&decide (⇑([e]:↑Aq)+⇑([]:↑MR)+(if([]:↑MR).isEmpty then 0 else 1)<30))=true:=by rfl
 s:CM [e] X.env=(false,Bc e X.env)::CM [] X.env:=by rfl
 h:(Fa D5 (CM [] X.env)).any (·.1)=false:=by rfl
def ahF(ho:Ab X F o m)(AG:Ab X F e n)(A_:F.K=X.K:=by rfl)(k:QA X o "append" apos pos e:=by exact{}):Ab X F (.Call (.Attribute o "append" apos) [e] [] pos) (DQ DV m (J n A2)):=⟨Ah.imp (fP UK PySem.F.slot_list_append PySem.F.type_list_append lJ ho.p (S2 AG.p UF k.s) k.b k.f k.l k.s k.h) λσ H Q q=>eG A_ abT σ H Q q|>λ⟨φ,ρ,h,r,z⟩=>⟨φ,ρ,h,r,z.imp λv H1⟨ty,t⟩=>⟨ty,a0 σ H1 _ t|>λ⟨φ,ρ,h,r,z⟩=>⟨φ,ρ,h,r,z.imp λv AU t=>VV σ AU _ t⟩⟩⟩⟩
def ag_(ho:Ab X F o m)(AG:Ab X F e n)(A_:F.K=X.K:=by rfl)(k:QA X o "pop" apos pos e:=by exact{}):Ab X F (.Call (.Attribute o "pop" apos) [e] [] pos) (DQ JY m (J n A2)):=⟨Ah.imp (fP UK sQ sf (OB.or lK lL) ho.p (S2 AG.p UF k.s) k.b k.f k.l k.s k.h) λσ H Q q=>eG A_ mb σ H Q q|>λ⟨φ,ρ,h,r,z⟩=>⟨φ,ρ,h,r,z.imp λv H1⟨ty,t⟩=>⟨ty,a0 σ H1 _ t|>λ⟨φ,ρ,h,r,z⟩=>⟨φ,ρ,h,r,z.imp λv AU t=>VV σ AU _ t⟩⟩⟩⟩
def agZ(ho:Ab X F o m)(A_:F.K=X.K:=by rfl)(A4:Ky o "pop" X.env (Bc o X.env)=Bc o X.env:=by rfl)(AH:(apos.endLine==pos.line)=true:=by rfl):Ab X F (.Call (.Attribute o "pop" apos) [] [] pos) (DQ JY m A2):=⟨Ah.imp (n6 UK sQ sf (OB.or lK lL) ho.p A4 AH) (k9 A_ mb)⟩
def ahI(ho:Ab X F o m)(A_:F.K=X.K:=by rfl)(A4:Ky o "clear" X.env (Bc o X.env)=Bc o X.env:=by rfl)(AH:(apos.endLine==pos.line)=true:=by rfl):Ab X F (.Call (.Attribute o "clear" apos) [] [] pos) (DQ d9 m A2):=⟨Ah.imp (n6 UK PySem.F.slot_list_clear PySem.F.type_list_clear ac6 ho.p A4 AH) (k9 A_ abU)⟩
def ahk {i v:Aq} {Cf:BB} (CG:Ab X F v Cf) (ho:Ab X F o m) (hi:Ab X F i n) (AP:UD v=true:=by rfl) (h1:swapsWithSole [.Subscript o i p] v pos.line X.env=pure false:=by rfl) (h2:swappedStores [.Subscript o i p] v X.env=pure none:=by rfl) (AY:(Le [.Subscript o i p] X.env).map (·.2)=[L2 (.Subscript o i p) X.env]:=by rfl)(AG:∀v,L2 (.Subscript o i p) X.env v=(do
    let CL <-JI [v] (Bc o X.env)
    let Hc <-JI [v,CL] (Bc i X.env)
    MP p
    JI [v,CL,Hc] (setItem CL Hc v)
    release [v,CL,Hc] []):=by intro _;rfl):G1 X F (.Assign [.Subscript o i p] v pos) (AR Cf (TW m n)):=⟨DX.imp (mR CG.p (acU ho.p hi.p set_list AG) h1 h2 AY) λDe σ H q=>
 q.bd λw x φ ρ h H1 r a q=>by
   refine yj x σ H1 De.AM ⟨φ,ρ,h,w,r,a,?_⟩;have AM:∀r:R (FK×A5),(∀f h',r=.ok (f,h')->∃EO,f=.AM EO)->ED F φ H1 De r->ED F φ H1 ⟨De.AM,λ_ _=>False,λ_ _=>False,λ_ _=>False⟩ r:=λr g k=>by
    cases r with
    |ok p=>obtain⟨f,h'⟩:=p;obtain⟨EO,rfl⟩:=g f h' rfl;exact k
    |exc c h'=>exact k
    |bad=>exact k
   refine AM _ (λf h' e=>?_) q;unfold TW bd at e;cases AA:m ρ h with
   |ok p=>
    rw[AA]at e;cases AE:n ρ p.2 with
    |ok DB=>
     erw[R.bind,AE]at e;unfold b3 at e
     split at e
     .split at e
      .cases e;exact⟨_,rfl⟩
      .cases e
     .cases e
    |exc c h2=>erw[R.bind,AE]at e;cases e
    |bad=>erw[R.bind,AE]at e;cases e
   |exc c h2=>rw[AA]at e;cases e
   |bad=>rw[AA]at e;cases e⟩
def ahM:Ab X F (.Dict [] [] pos) (Kd false):=⟨Ah.imp WC zE⟩
def ahN:Ab X F (.Dict [] [] pos) (Kd true):=⟨Ah.imp aci zF⟩
def ajg(BQ:X.A.units+64<Dg)(ho:Ab X F o m)(he:Ab X F e n)(AP:c7 e):Ab X F (.Subscript o e pos) (A1 dG m n):=⟨Ah.imp (acg δ ho.p he.p AP) zH⟩
def ahb{v:Aq}{Cf:BB}(BQ:X.A.units+64<Dg)(ho:Ab X F o m)(hi:Ab X F e n)(CG:Ab X F v Cf)(AP:UD v=true:=by rfl):G1 X F (.Assign [.Subscript o e p] v pos) (Mk m n Cf):=⟨DX.imp (adb δ ho.p hi.p CG.p (aP _ _ _ _ AP)) zJ⟩
def fe{Dc f:Str}{B7:↑Str}(cl:Q5 X.K Dc B7)(AG:Ab X F a m)(hf:f∈B7:=by decide)(A_:F.K=X.K:=by rfl)(A4:Ky a f X.env (Bc a X.env)=Bc a X.env:=by rfl):Ab X F (.Attribute a f pos) (B3 (Av Dc f) m):=⟨Ah.imp (ack AG.p A4) (zL A_ cl hf)⟩
def fh{Dc f:Str}{B7:↑Str}{v:Aq}{Cf:BB}(cl:Q5 X.K Dc B7)(ho:Ab X F o m)(CG:Ab X F v Cf)(hf:f∈B7:=by decide)(A_:F.K=X.K:=by rfl)(AP:UD v=true:=by rfl):G1 X F (.Assign [.Attribute o f p] v pos) (Ex Dc f m Cf):=⟨DX.imp (adf ho.p CG.p (aP _ _ _ _ AP)) (zM A_ cl hf)⟩
def ahH{x:Str}{k j:Nat}{mf:Bk}(c:DE X.prog X.w X.K X.mg X.base x k j mf)(BH:Cv j X.A)(AG:Hg X F (e::es) ma)(P:Sd X F:=by first|exact b5|exact b4)(A_:F.K=X.K:=by rfl)(Ai:Eh X x:=by rfl)(Md:(x==("__debug__" :Str))=false:=by decide)(s:MV X e es pos:=by exact{}):Ab X F (.Call (.Name x p) (e::es) [] pos) (Ae k mf ma):=by obtain⟨f,fd,ps,AZ,P5,hm,AN,A4⟩:=c.ex;obtain⟨E,h1,h2⟩:=P.ex;exact⟨Ah.imp (ace P5 BH Ai hm AN A4 .nil h1 AG.p Md s.he s.GN) (zC A_ h2)⟩
def agt{Dc:Str}{k j:Nat}{mf:Bk}(c:Uw X.prog X.w X.K X.mg X.base Dc k j mf)(BH:Cv (j+1) X.A)(AG:Hg X F (e::es) ma)(P:Sd X F:=by first|exact b5|exact b4)(A_:F.K=X.K:=by rfl)(Ai:Eh X Dc:=by rfl)(Md:(Dc==("__debug__" :Str))=false:=by decide)(s:MV X e es pos:=by exact{}):Ab X F (.Call (.Name Dc p) (e::es) [] pos) (K4 Dc k mf ma):=by obtain⟨C,f,fd,ps,AZ,AJ,mk,P5,hm,A4⟩:=c.ex;obtain⟨E,h1,h2⟩:=P.ex;exact⟨Ah.imp (acs mk P5 BH Ai hm A4 .nil h1 AG.p Md s.he s.GN) (yb A_ AJ h2)⟩
end
section
variable{X:Ar}{F:DF}{e a b c o elt:Aq}{es ifs:↑Aq}{pos p DB apos D5:Pos}{m n l:BB}{ma:E6}{CB iter:Aq}{g:DN}{scope:FE}{mi:GK}{mt:DT}
noncomputable def Ie(sc:FE)(NA:↑Str)(nl:Nat)(caps:↑Nat):↑Str:=((sc.names.drop 1).take nl).map (·.1)++caps.map λj=>NA.getD j ""
def RV(X:Ar)(scope:FE)(N:↑Str)(CB:Aq)(g:DN):Prop:=∀cl C s H BP DS C0,QG (Gc X scope N cl C s H BP) (Ij X.K DS C0) CB g
def YI(X:Ar)(scope:FE)(N:↑Str)(e:Aq)(m:BB):Prop:=∀cl C s H BP DS C0,Ab (Gc X scope N cl C s H BP) (Ij X.K DS C0) e m
def BT(X:Ar)(scope:FE)(N:↑Str)(ifs:↑Aq)(k:DT):Prop:=∀cl C s H BP DS C0,QB (Gc X scope N cl C s H BP) ifs (Hn (Ij X.K DS C0) k)
def tk{N:↑Str}:BT X scope N [] (pu true):=λcl C s H BP DS C0 A3 s' σ A9 Q Z q=>by obtain⟨φ,ρ,h,r,k⟩:=q;exact ady A3 s' σ A9 Q Z (k true φ A9 r (Aj.refl _ _) rfl)
def tj{N:↑Str}(h:∀cl C s H BP DS C0,Fn (Gc X scope N cl C s H BP) (Ij X.K DS C0) c mt):BT X scope N [c] mt:=λcl C s H BP DS C0=>adz (h cl C s H BP DS C0).p
def uT(i:Nat){N:↑Str}{x:Str}(hN:N.Nodup:=by decide+kernel)(hi:N[i]?=↥x:=by rfl)(AH:(Lf scope X.env).names.lookup x=↥.local:=by rfl):RV X scope N (.Name x pos) (A6 i):=λcl C s H BP DS C0=>
 ⟨HJ.imp (WD (X:=Gc X scope N cl C s H BP) hN hi (.inl AH) (.inr AH)) (VU i)⟩
def uS(i:Nat){N:↑Str}{x:Str}(hN:N.Nodup:=by decide+kernel)(hi:N[i]?=↥x:=by rfl)(AH:(Lf scope X.env).names.lookup x=↥.cell:=by rfl)(AP:(scope.names.lookup x==↥.cell)=true:=by rfl):RV X scope N (.Name x pos) (A6 i):=λcl C s H BP DS C0=>
 ⟨HJ.imp (WD (X:=Gc X scope N cl C s H BP) hN hi (.inr AH) (.inl AP)) (VU i)⟩
def uU(i j:Nat){N:↑Str}{x y:Str}{Te py:Pos}{k:Nat}(AJ:X.calm=true:=by rfl)(hN:N.Nodup:=by decide+kernel)(hi:N[i]?=↥x:=by rfl)(Ac:N[j]?=↥y:=by rfl)(AH:(Lf scope X.env).names.lookup x=↥.local:=by rfl)(hm:(Lf scope X.env).names.lookup y=↥.local:=by rfl) :
  RV X scope N (.Tuple [.Name x Te,.Name y py] k pos) (EI [A6 i,A6 j]):=λcl C s H BP DS C0=>
 ⟨HJ.imp (m9 (X:=Gc X scope N cl C s H BP) AJ (L7.imp (fQ (HJ.imp (WD (X:=Gc X scope N cl C s H BP) hN hi (.inl AH) (.inr AH)) (VU i)) (L7.imp (fQ (HJ.imp (WD (X:=Gc X scope N cl C s H BP) hN Ac (.inl hm) (.inr hm)) (VU j)) (L7.imp mA k7) rfl) eF) rfl) eF) rfl rfl) (k8 rfl rfl)⟩
def dD(nl:Nat)(caps:↑Nat)(A_:F.K=X.K)(Ai:RV X scope (Ie scope X.N nl caps) CB g)(B9:BT X scope (Ie scope X.N nl caps) ifs mt)(he:YI X scope (Ie scope X.N nl caps) elt m) :
  (∀cl C s H BP,HJ (Gc X scope (Ie scope X.N nl caps) cl C s H BP) CB (λx σ H Q=>∃DS C0,ME (Ij F.K DS C0) g x σ H Q))/\(∀cl C s H BP,QB (Gc X scope (Ie scope X.N nl caps) cl C s H BP) ifs (λσ H Q=>∃DS C0,Hn (Ij F.K DS C0) mt σ H Q))/\(∀cl C s H BP,Ah (Gc X scope (Ie scope X.N nl caps) cl C s H BP) elt (λσ H Q=>∃DS C0,CA (Ij F.K DS C0) m σ H Q)):=by
 rw[A_];exact⟨λcl C s H BP A3 s' σ A9 v u Q Z r⟨DS,C0,q⟩=>(Ai cl C s H BP DS C0).p A3 s' σ A9 v u Q Z r q,λcl C s H BP A3 s' σ A9 Q Z⟨DS,C0,q⟩=>B9 cl C s H BP DS C0 A3 s' σ A9 Q Z q,λcl C s H BP A3 s' σ A9 Q Z⟨DS,C0,q⟩=>(he cl C s H BP DS C0).p A3 s' σ A9 Q Z q⟩
def ahJ(nl:Nat)(caps:↑Nat)(S:Vg X.env.scope X.N scope (Ie scope X.N nl caps) nl caps=true)(hi:QH X F CB iter mi)(Ai:RV X scope (Ie scope X.N nl caps) CB g)(B9:BT X scope (Ie scope X.N nl caps) ifs mt)(he:YI X scope (Ie scope X.N nl caps) elt m)(AJ:X.calm=true:=by rfl)(A_:F.K=X.K:=by rfl)(AP:∀x,Nw iter X.env x=pure x:=by intro _;rfl) :
  Ab X F (.ListComp elt [⟨CB,iter,ifs,0⟩] scope pos) (D8 nl caps mi g mt m):=by
 obtain⟨h1,h2,AY⟩:=dD nl caps A_ Ai B9 he;exact⟨Ah.imp (n7 (Ls.of S) AJ hi.p h1 h2 AY AP) k4⟩
def ahZ(i:Nat)(nl:Nat)(caps:↑Nat){y:Str}{py:Pos}(hN:X.N.Nodup)(S:Vg X.env.scope X.N scope (Ie scope X.N nl caps) nl caps=true)(hi:QH X F CB iter mi)(Ai:RV X scope (Ie scope X.N nl caps) CB g)(B9:BT X scope (Ie scope X.N nl caps) ifs mt)(he:YI X scope (Ie scope X.N nl caps) elt m)(AX:X.N[i]?=↥y:=by rfl)(AH:X.env.kindOf y=↥.local:=by rfl)(RS:O2 (.ListComp elt [⟨CB,iter,ifs,0⟩] scope D5) ↥(.Name y py) pos.line X.env=pure true:=by rfl)(AJ:X.calm=true:=by rfl)(A_:F.K=X.K:=by rfl)(AP:∀x,Nw iter X.env x=pure x:=by intro _;rfl) :
  G1 X F (.Assign [.Name y py] (.ListComp elt [⟨CB,iter,ifs,0⟩] scope D5) pos) (AR (D8 nl caps mi g mt m) (A6 i)):=by
 obtain⟨h1,h2,AY⟩:=dD nl caps A_ Ai B9 he;refine⟨DX.imp (aeS (Ls.of S) AJ hN AX AH hi.p h1 h2 AY RS AP) λDe σ H q=>?_⟩;obtain⟨φ,ρ,h,r,q⟩:=q;refine k4 σ H _ ⟨φ,ρ,h,r,ED.bd q λw v By h1 H1 Aw Cn a q=>?_⟩;unfold A6 at q
 split at q
 .rename_i hi;exact q _ By H1 (Aw.set hi a) (Aj.refl _ _)
 .exact q.elim
def aho{st:BE}{i:Nat}(h:G1 X F st (AR m (A6 i))):G1 X F st (AR (Bv m) (A6 i)):=⟨DX.imp h.p λDe σ H q=>by
 obtain⟨φ,ρ,h,r,q⟩:=q;refine⟨φ,ρ,h,r,?_⟩;unfold AR bd Bv at*;cases e:m ρ h with
 |bad=>rw[e]at q;cases q
 |exc c h'=>rw[e]at q;exact q
 |ok p=>
  rw[e]at q;obtain⟨w,h1⟩:=p;obtain⟨Cb,h',es⟩:=eT h w h1;erw[R.bind]at q |-;rw[es]at q;unfold A6 at q |-;dsimp only at q |-
  split at q
  .rename_i hi;rw[if_pos hi];intro σ' By H1 Aw Cn;obtain⟨v,ev,E7⟩:=Aw.C3 i w (Ku hi);obtain⟨BM,Fw,d',G_⟩:=eU r.hd Cn Aw.hd E7 es;refine q σ' BM H1 ⟨d',r.x0.trans Fw,(Aw.len:),λj u Ed=>?_⟩ Fw;by_cases Ac:i=j
   .subst Ac;rw[Ku hi]at Ed;cases Ed;exact⟨v,ev,G_⟩
   .rw[ML Ac]at Ed;obtain⟨v0,_,GL⟩:=r.C3 j u Ed;obtain⟨v1,AA,a1⟩:=Aw.C3 j u (by rw[ML Ac];exact Ed);exact⟨v1,AA,AW.ex (⟨Fw.p,λ_ _ e _=>e⟩:Aj φ H1 BM H1) (AW.back Cn.p GL a1)⟩
  .exact q.elim⟩
def agu {Dc x:Str} {k j:Nat} {mf:Bk} {pl:Sem Bool} (c:H8 X.prog X.w X.K X.mg X.base Dc x k j mf) (BH:Cv j X.A) (ho:Ab X F o m) (AG:Hg X F (e::es) ma) (P:Sd X F:=by first|exact b5|exact b4) (A_:F.K=X.K:=by rfl) (s:MV X e es pos:=by exact{}) (B9:Bc (.Call (.Attribute o x apos) (e::es) [] pos) X.env=(do
   let CL <-Bc o X.env
   MP apos.atName
   let(f,first) <-JI [CL] (O3 CL x pl)
   PP pos f first (Fa pos (CM (e::es) X.env)) (L0 pos (Kx [] X.env))):=by rfl):Ab X F (.Call (.Attribute o x apos) (e::es) [] pos) (CO Dc x k mf m ma):=by
 obtain⟨C,f,fd,ps,AZ,AJ,Cc,FF,P5,A4⟩:=c.ex;obtain⟨E,h1,h2⟩:=P.ex;exact⟨Ah.imp (acu (pl:=pl) ho.p Cc FF P5 BH A4 .nil h1 AG.p s.he s.GN B9) (eH A_ AJ h2)⟩
def agv {Dc x:Str} {j:Nat} {mf:Bk} {pl:Sem Bool} (c:H8 X.prog X.w X.K X.mg X.base Dc x 0 j mf) (BH:Cv j X.A) (ho:Ab X F o m) (P:Sd X F:=by first|exact b5|exact b4) (A_:F.K=X.K:=by rfl) (B9:Bc (.Call (.Attribute o x apos) [] [] pos) X.env=(do
   let CL <-Bc o X.env
   MP apos.atName
   let(f,first) <-JI [CL] (O3 CL x pl)
   PP pos f first (Fa pos (CM [] X.env)) (L0 pos (Kx [] X.env))):=by rfl):Ab X F (.Call (.Attribute o x apos) [] [] pos) (CO Dc x 0 mf m A2):=by
 obtain⟨C,f,fd,ps,AZ,AJ,Cc,FF,P5,A4⟩:=c.ex;obtain⟨E,h1,h2⟩:=P.ex;refine⟨Ah.imp (acv (pl:=pl) ho.p Cc FF P5 BH A4 .nil h1 B9) λσ H Q q=>?_⟩;obtain⟨φ,ρ,h,r,z⟩:=eH (X:=X) A_ AJ h2 σ H Q q;exact⟨φ,ρ,h,r,z.imp λv H1⟨a,Bs,B7,AA,AE,Cd,t⟩=>⟨a,Bs,B7,AA,AE,Cd,VV σ H1 _ t⟩⟩
def ahL(BQ:X.A.units+64<Dg)(ho:Ab X F o m)(he:Ab X F e n)(k:BU.QA X o "get" apos e D5:=by exact⟨rfl,rfl,rfl,rfl⟩):Ab X F (.Call (.Attribute o "get" apos) [e] [] D5) (WU m n):=⟨Ah.imp (ach δ ho.p he.p k) zG⟩
def ahO(ho:Ab X F o m)(he:Ab X F e n)(k:BU.QA X o "pop" apos e D5:=by exact⟨rfl,rfl,rfl,rfl⟩):Ab X F (.Call (.Attribute o "pop" apos) [e] [] D5) (WV m n):=⟨Ah.imp (acj ho.p he.p k) zI⟩
def Ct(ma:E6):GK:=bd ma λws=>match ws with
 |[.int j]=>if-(2^62)<=j/\j<2^62 then pu (KA 0 j.toNat)else λ_ _=>.bad
 |_=>λ_ _=>.bad
def aiE(hm:X.mg "range"=none)(AG:Hg X F [a] ma)(Ai:Eh X "range":=by rfl)(AP:CM [a] X.env=[(false,Bc a X.env)]:=by rfl):QH X F CB (.Call (.Name "range" p) [a] [] pos) (Ct ma):=⟨He.imp (ad1 Ai hm AG.p AP) λσ H R q=>
 q.bd λws vs φ ρ h H1 r as q=>by
   split at q
   .rename_i j;obtain⟨v,rfl,a⟩:=as.one;erw[AW]at a;subst a
    split at q
    .rename_i Ac;exact⟨j,rfl,Ac.1,Ac.2,q _ φ H1 r (Aj.refl _ _) (o7 _ _)⟩
    .exact q.elim
   .exact q.elim⟩
def aay(ma:E6):GK:=bd ma λws=>match ws with
 |[.int i,.int j]=>if-(2^62)<=i/\i<2^62/\-(2^62)<=j/\j<2^62 then pu (KA i (j-i).toNat)else λ_ _=>.bad
 |_=>λ_ _=>.bad
def aiF(hm:X.mg "range"=none)(AG:Hg X F [a,b] ma)(Ai:Eh X "range":=by rfl)(AP:CM [a,b] X.env=[(false,Bc a X.env),(false,Bc b X.env)]:=by rfl)(I6:CM [b] X.env=[(false,Bc b X.env)]:=by rfl):QH X F CB (.Call (.Name "range" p) [a,b] [] pos) (aay ma):=⟨He.imp (ae4 Ai hm AG.p AP I6) λσ H R q=>
 q.bd λws vs φ ρ h H1 r as q=>by
   split at q
   .rename_i i j;obtain⟨v,JC,rfl,a,b⟩:=as.two;erw[AW]at a b;subst a b
    split at q
    .rename_i Ac;exact⟨i,j,rfl,Ac,q _ φ H1 r (Aj.refl _ _) (o7 _ _)⟩
    .exact q.elim
   .exact q.elim⟩
noncomputable def Rc(x:Str):H7:=λi _=>if i=x.cps.size then↥none else(x.cps[i]?).map λc=>↥(.str ⟨#[c]⟩)
def ajD(m:BB):GK:=bd m λw=>match w with
 |.str x=>pu (Rc x)
 |_=>λ_ _=>.bad
def aeb{K:Ap}{φ:↑A7}{H:AD}(x:Str):Ip K φ H (Rc x) (c3 x):=λi CQ h2 AU d _=>by
 unfold Rc;by_cases hi:i=x.cps.size
 .rw[if_pos hi];exact⟨λ_=>hi,λw z=>by cases z⟩
 .rw[if_neg hi];cases e:x.cps[i]? with
  |none=>exact⟨(λz=>by cases z),λw z=>by cases z⟩
  |some c=>exact⟨(λz=>by cases z),λw z=>by
     cases z;exact⟨(Array.getElem?_eq_some_iff.mp e).1,λy A9 AX=>by obtain⟨rfl,Gb,Bi,rfl⟩:=AX;rw[e]at Bi;cases Bi;exact⟨d,Aj.refl _ _,by erw[AW]⟩⟩⟩
def Pm(w:W):H7:=λi h=>match LB h w with
 |some (_,ws)=>if i=⇑ws then↥none else(ws[i]?).map λx=>↥(.tup [.int i,x])
 |none=>none
def Q1(ma:E6):GK:=bd ma λws ρ h=>match ws with
 |[w]=>match LB h w with
  |some _=>.ok (Pm w,h)
  |none=>.bad
 |_=>.bad
def rd{K:Ap}{φ:↑A7}{h:A5}{H:AD}{q:A7}{ws:↑W}{xs:↑V}(d:DM K φ h H)(AT:H q=none)(a:Al K φ H ws xs):DM K φ h (upd H q (.tup xs))/\Aj φ H φ (upd H q (.tup xs))/\AW K φ (upd H q (.tup xs)) (.tup ws) (.ref q):=
 ⟨d.lay AT,Aj.lay AT,by erw[AW];exact⟨q,xs,rfl,EM,a.ex (Aj.lay AT)⟩⟩
def ux{φ:↑A7}{H:AD}{w:W}{q:A7}(A_:F.K=X.K)(a:AW F.K φ H w (.ref q)):Ip F.K φ H (Pm w) (bz X.K q):=λi CQ h2 AU d x=>by
 unfold Pm;cases es:LB h2 w with
 |none=>exact⟨(λz=>by cases z),λw z=>by cases z⟩
 |some Rd=>
  obtain⟨n,ws⟩:=Rd;obtain⟨Dv,xs,Bi,_,_,Aa,Bb⟩:=Oa d (a.ex x) es;cases Bi;have Aa:Eu X.K AU q xs:=.inl (.inl Aa);dsimp only;by_cases hi:i=⇑ws
  .rw[if_pos hi];exact⟨λ_=>⟨xs,Aa,by rw[<- ⇑Bb,hi]⟩,λw z=>by cases z⟩
  .rw[if_neg hi];cases C2:ws[i]? with
   |none=>exact⟨(λz=>by cases z),λw z=>by cases z⟩
   |some u=>
    obtain⟨v,ev,E7⟩:=Bb.get C2;exact⟨(λz=>by cases z),λCb z=>by
     cases z;exact⟨⟨xs,v,Aa,ev⟩,λy A9 AX=>by obtain⟨b,Fw,A4,rfl,rfl,g⟩:=AX;have:=g xs Aa;rw[ev]at this;cases this;exact rd d A4 (.cons (by erw[AW]) (.cons E7 .nil))⟩⟩
def aiD{elts:↑Aq}{k:Nat}{Hp:Pos}(hm:X.mg "enumerate"=none)(AG:Hg X F [a] ma)(A_:F.K=X.K:=by rfl)(Ai:Eh X "enumerate":=by rfl)(AP:CM [a] X.env=[(false,Bc a X.env)]:=by rfl):QH X F (.Tuple elts k Hp) (.Call (.Name "enumerate" p) [a] [] pos) (Q1 ma):=⟨He.imp (acW Ai hm AG.p AP) λσ H R q=>
 q.bd λws vs φ ρ h H1 r as q=>by
   split at q
   .obtain⟨v,rfl,a⟩:=as.one
    split at q
    .rename_i nw es;obtain⟨n,us⟩:=nw;obtain⟨Cp,xs,rfl,_,_,Aa,Bb⟩:=Oa r.hd a es;exact⟨Cp,rfl,⟨xs,.inl (.inl Aa)⟩,q _ φ H1 r (Aj.refl _ _) (ux A_ a)⟩
    .exact q.elim
   .exact q.elim⟩
noncomputable def am(x:Str)(us:↑W):H7:=λi _=>if i=min x.cps.size ⇑us then↥none else match x.cps[i]?,us[i]? with
 |some c,↥u=>↥↥(.tup [.str ⟨#[c]⟩,u])
 |_,_=>none
def WY(ma:E6):GK:=bd ma λws ρ h=>match ws with
 |[.str x,w]=>match E2 h w with
  |some (true,us)=>.ok (am x us,h)
  |_=>.bad
 |_=>.bad
def aiG{elts:↑Aq}{k:Nat}{Hp:Pos}(hm:X.mg "zip"=none)(AG:Hg X F [a,b] ma)(A_:F.K=X.K:=by rfl)(Ai:Eh X "zip":=by rfl)(AP:CM [a,b] X.env=[(false,Bc a X.env),(false,Bc b X.env)]:=by rfl)(I6:CM [b] X.env=[(false,Bc b X.env)]:=by rfl):QH X F (.Tuple elts k Hp) (.Call (.Name "zip" p) [a,b] [] pos) (WY ma):=⟨He.imp (ae6 Ai hm AG.p AP I6) λσ H R q=>
 q.bd λws vs φ ρ h H1 r as q=>by
   split at q
   .rename_i x w;obtain⟨v,JC,rfl,a,b⟩:=as.two;erw[AW]at a;subst a
    split at q
    .rename_i us es;obtain⟨Cp,ys,rfl,Aa,Bb⟩:=Ja r.hd b es;have Aa:Ek F.K H1 Cp ys:=Aa;refine⟨x,Cp,rfl,⟨ys,A_▸Aa⟩,q _ φ H1 r (Aj.refl _ _) λi CQ h2 AU d CT=>?_⟩;have e8:Ek X.K AU Cp ys:=A_▸Ek.ex CT Aa;have Tf:=Bb.ex CT;unfold am;by_cases hi:i=min x.cps.size ⇑us
     .rw[if_pos hi];exact⟨λ_=>⟨ys,e8,by rw[<- ⇑Bb];exact hi⟩,λw z=>by cases z⟩
     .rw[if_neg hi];cases AA:x.cps[i]? with
      |none=>exact⟨(λz=>by cases z),λw z=>by cases z⟩
      |some c=>
       cases AE:us[i]? with
       |none=>exact⟨(λz=>by cases z),λw z=>by cases z⟩
       |some u=>
        obtain⟨y,DY,Gl⟩:=Tf.get AE;exact⟨(λz=>by cases z),λCb z=>by
         cases z;exact⟨⟨(Array.getElem?_eq_some_iff.mp AA).1,ys,y,e8,DY⟩,λv A9 AX=>by obtain⟨JJ,Gb,ajl,f1,f2,rfl,rfl,G9⟩:=AX;rw[AA]at f1;cases f1;have:=G9 ys e8;rw[DY]at this;cases this;exact rd d f2 (.cons (by erw[AW]) (.cons Gl .nil))⟩⟩
    .exact q.elim
   .exact q.elim⟩
end
end BX
namespace BX
open PySem PySem.Spec BU PyProof.Rows
section
variable{X:Ar}{F:DF}{e a b c o:Aq}{es:↑Aq}{pos p DB apos D5:Pos}{m n l:BB}{ma:E6}{CB iter:Aq}{st:BE}
def aiL:G1 X F st (λ_ _=>.bad):=⟨DX.imp adh λDe σ H⟨_,_,_,_,q⟩=>q⟩
def ahA{LK:↑BE}:Ks X F LK (λ_ _=>.bad):=⟨HK.imp adq λDe σ H⟨_,_,_,_,q⟩=>q⟩
noncomputable def nf:EZ:=λx y H Q=>∃q v,x=.ref q/\Jh H q y ↥v/\Q v H
def aa9(BQ:X.A.units+64<Dg):N9 X nf:=by intro value slice A3 s σ H x y v u Q Z Au Bo h AP;obtain⟨q,z,rfl,g,h⟩:=h;obtain rfl:v=Cq q:=Au;exact tail_any (jX Z g) PySem.F.slot_dict_getitem.lookup (jT δ Z g Bo λCb s3 DD IX=>⟨z,H,DD,IX,h⟩) AP
def AB:J0:=λx y h=>match Gd h x y with
 |some ↥w=>.ok (w,h)
 |some none=>.bad
 |none=>Pw x y h
def abX(A_:F.K=X.K):IL F (λx y H Q=>nf x y H Q\/ek X.K x y H Q) AB:=by
 intro σ ρ φ h H x y G6 H5 Q r a1 a2 q;unfold AB at q
 split at q
 .rename_i w e;obtain⟨k,CL,rfl,g,Ft⟩:=YX r.hd e a1 a2;cases CL with
  |none=>cases Ft
  |some v=>exact .inl ⟨k,v,rfl,g,q v φ H r (Aj.refl _ _) Ft⟩
 .exact q.elim
 .exact .inr (abW A_ σ ρ φ h H x y G6 H5 Q r a1 a2 q)
def agl(BQ:X.A.units+64<Dg)(AG:Ab X F a m)(A4:Ab X F b n)(AP:cD b)(A_:F.K=X.K:=by rfl):Ab X F (.Subscript a b pos) (A1 AB m n):=⟨Ah.imp (acp ((aa9 BQ).or aaB) AG.p A4.p AP) (Fl (abX A_))⟩
noncomputable def eh(k:Bool):EZ:=λx y H Q=>∃q CL,y=.ref q/\Jh H q x CL/\Q (.AO (if k then CL.isSome else !CL.isSome)) H
def Zs(BQ:X.A.units+64<Dg):Dp X (G4 .In) (eh true)/\Dp X (G4 .NotIn) (eh false):=by
 refine⟨?_,?_⟩<;>
 .intro A3 s σ H x y v u Q Z Au Bo h;obtain⟨q,CL,rfl,g,h⟩:=h;obtain rfl:u=Cq q:=Bo
  first
   |exact vJ δ Z g Au λs3 DD=>⟨.AO CL.isSome,H,DD,rfl,h⟩
   |exact vK δ Z g Au λs3 DD=>⟨.AO (!CL.isSome),H,DD,rfl,h⟩
def Cs(k:Bool):J0:=λx y h=>match Gd h y x with
 |some o=>.ok (.AO (if k then o.isSome else !o.isSome),h)
 |none=>a6 k x y h
def ZN(A_:F.K=X.K)(k:Bool):IL F (λx y H Q=>eh k x y H Q\/b7 X.K k x y H Q) (Cs k):=by
 intro σ ρ φ h H x y G6 H5 Q r a1 a2 q;unfold Cs at q
 split at q
 .rename_i o e;obtain⟨d,CL,rfl,g,Ft⟩:=YX r.hd e a2 a1;rw[Ft.is]at q;exact .inl ⟨d,CL,rfl,g,q _ φ H r (Aj.refl _ _) (NX _)⟩
 .exact .inr (abV A_ k σ ρ φ h H x y G6 H5 Q r a1 a2 q)
def agh(BQ:X.A.units+64<Dg)(AG:Ab X F a m)(A4:Ab X F b n)(A_:F.K=X.K:=by rfl)(hm:MN .In b=false:=by with_unfolding_all rfl):Ab X F (.Compare a [.In] [b] pos) (A1 (Cs true) m n):=⟨Ah.imp (M8 ((Zs BQ).1.or (ar BQ).1) AG.p A4.p hm) (Fl (ZN A_ true))⟩
def ahv(BQ:X.A.units+64<Dg)(AG:Ab X F a m)(A4:Ab X F b n)(A_:F.K=X.K:=by rfl)(hm:MN .In b=false:=by with_unfolding_all rfl):Fn X F (.Compare a [.In] [b] pos) (AV (A1 (Cs true) m n)):=⟨EY.imp (M9 ((Zs BQ).1.or (ar BQ).1) AG.p A4.p hm) λσ H Q q=>Fl (ZN A_ true) σ H _ (KY σ H Q q)⟩
def agT(BQ:X.A.units+64<Dg)(AG:Ab X F a m)(A4:Ab X F b n)(A_:F.K=X.K:=by rfl)(hm:MN .NotIn b=false:=by with_unfolding_all rfl):Ab X F (.Compare a [.NotIn] [b] pos) (A1 (Cs false) m n):=⟨Ah.imp (M8 ((Zs BQ).2.or (ar BQ).2) AG.p A4.p hm) (Fl (ZN A_ false))⟩
def ahS(BQ:X.A.units+64<Dg)(AG:Ab X F a m)(A4:Ab X F b n)(A_:F.K=X.K:=by rfl)(hm:MN .NotIn b=false:=by with_unfolding_all rfl):Fn X F (.Compare a [.NotIn] [b] pos) (AV (A1 (Cs false) m n)):=⟨EY.imp (M9 ((Zs BQ).2.or (ar BQ).2) AG.p A4.p hm) λσ H Q q=>Fl (ZN A_ false) σ H _ (KY σ H Q q)⟩
def z5(K:Ap)(JA:TE):TI:=λσ H R=>JA σ H λx H1=>(∃q,x=.ref q/\(∃xs,Eu K H1 q xs)/\R (c1 K q) H1)\/(∃q,x=.ref q/\(∃xs,Ek K H1 q xs)/\R (c4 K q) H1)\/∃z,x=.str z/\R (c3 z) H1
def acV{e:Aq}{JA:TE}(AH:Ah X e JA):He X CB e (z5 X.K JA):=by
 intro A3 s σ H R Z h;refine Ba (AH A3 s σ H _ Z h) λv s1⟨x,H1,Ad,Aw,q1⟩=>?_;rcases q1 with⟨q,rfl,⟨xs,Aa⟩,k⟩|⟨q,rfl,⟨xs,Aa⟩,k⟩|⟨z,rfl,k⟩
 .cases Aw;obtain⟨its,Bw,pl,hz⟩:=Ad.list Aa;refine gw pl.isList ?_;refine⟨s1.heap.objs.size,[s1.heap.objs.size],_,_,H1,rfl,Ad.kept (t':=s1.toks) λb o e=>DU _ e,agM q _,⟨_,Fx _ rfl,rfl,rfl⟩,λb A4=>?_,k⟩;have e:b=s1.heap.objs.size:=by simpa using A4
  subst e;exact Ad.Ma (C5 _) (Ad.B0.fresh (C5 _))
 .cases Aw;obtain⟨its,Bw,pl,hz⟩:=Ad.tuple Aa;refine wpAny_pyIter_tuple (show s1.heap.IsTuple q its.toArray from pl) ?_;refine⟨s1.heap.objs.size,[s1.heap.objs.size],_,_,H1,rfl,Ad.kept (t':=s1.toks) λb o e=>DU _ e,agQ q _,⟨_,Fx _ rfl,rfl,rfl⟩,λb A4=>?_,k⟩;have e:b=s1.heap.objs.size:=by simpa using A4
  subst e;exact Ad.Ma (C5 _) (Ad.B0.fresh (C5 _))
 .obtain⟨t,rfl⟩:=Aw;refine wpAny_pyIter_strU ?_;refine⟨s1.heap.objs.size,[s1.heap.objs.size],_,_,H1,rfl,Ad.kept (t':=s1.toks) λb o e=>DU _ e,agP _ z t,⟨_,Fx _ rfl,rfl,rfl⟩,λb A4=>?_,k⟩;have e:b=s1.heap.objs.size:=by simpa using A4
  subst e;exact Ad.Ma (C5 _) (Ad.B0.fresh (C5 _))
def Ca(m:BB):GK:=bd m λw ρ h=>match w with
 |.str x=>.ok (Rc x,h)
 |w=>match E2 h w with
  |some _=>.ok (FG w,h)
  |none=>.bad
def aiC(h:Ab X F e m)(A_:F.K=X.K:=by rfl):QH X F CB e (Ca m):=⟨He.imp (acV h.p) λσ H R q=>
 q.bd λw v φ ρ h H1 r a q=>by
   split at q
   .rename_i x;erw[AW]at a;exact .inr (.inr ⟨x,a,q _ φ H1 r (Aj.refl _ _) (aeb x)⟩)
   .split at q
    .rename_i Rd es;obtain⟨t,ws⟩:=Rd;obtain⟨Cp,xs,rfl,Aa,Bb⟩:=Ja r.hd a es;cases t with
     |false=>have hw:=(bH es).mp rfl;exact .inl ⟨Cp,rfl,⟨xs,A_▸Aa⟩,q _ φ H1 r (Aj.refl _ _) (aas A_ a rfl λCQ h2 AU _ _ t ws e=>(bH e).mpr hw)⟩
     |true=>
      refine .inr (.inl ⟨Cp,rfl,⟨xs,A_▸Aa⟩,q _ φ H1 r (Aj.refl _ _) (du A_ a rfl λh2 t ws' AE=>?_)⟩);cases t with
      |true=>rfl
      |false=>have hw:=(bH AE).mp rfl;exact(bH es).mpr hw|>.symm
    .exact q.elim⟩
theorem qW:∀{bs:↑Bool}{us:↑A8},Vals (bs.map V.AO) us->us=bs.map Qq
 |[],_,r=>by cases r;rfl
 |b::bs,_,r=>by
  cases r with
  |cons Aw BL=>cases Aw;rw[qW BL];rfl
def tu(AJ:X.calm=true)(RN:X.A.handled=none):K1 X (.builtin "all") (λxs H Q=>∃(p:A7)(bs:↑Bool),xs=[.ref p]/\Eu X.K H p (bs.map V.AO)/\Q (.AO (bs.all id)) H):=by
 intro A3 s σ H xs us Q Z r h;obtain⟨p,bs,rfl,Aa,q⟩:=h;obtain⟨u,rfl,FJ⟩:=vals1 r;cases FJ;obtain⟨its,Bw,pl,hz⟩:=Z.list Aa;have El:=qW Bw;refine call_all_walk (gw pl.isList ?_);have Jy:p≠s.heap.objs.size:=by obtain⟨o,ho,_⟩:=pl.isList;exact F0 (E3 ho)
 refine⟨s.heap.objs.size,_,_,_,_,_,λi=>(bs[i]?).getD true,rfl,Walks.list (prog:=X.prog) (w:=X.w) (A:=X.A.in1) RN s.heap.objs.size p Jy its.toArray,⟨⟨_,Fx _ rfl,rfl,rfl⟩,pl.isList.push _⟩,?_,λh' DW FT=>?_⟩
 .intro i v s' Hf ajI Db cr;rw[El]at Db;have Db:(bs.map Qq)[i]?=↥v:=by simpa using Db
  rw[Da]at Db;cases BC:bs[i]? with
  |none=>rw[BC]at Db;cases Db
  |some b=>rw[BC]at Db;have ev:Qq b=v:=Fy Db;subst ev;dsimp only at cr;rw[BC]at cr;exact MI cr
 .have cu:(C8 its.toArray.size).all (λi=>(bs[i]?).getD true)=bs.all id:=by
    have AH:its.toArray.size=⇑bs:=by rw[El];simp
    rw[AH,Qo,SH,SH];constructor
    .intro hh x AF;obtain⟨i,hi,rfl⟩:=List.mem_iff_getElem.mp AF;have:=hh i (List.mem_range.mpr hi);rw[C7 hi]at this;exact this
    .intro hh i hi;have hi:=List.mem_range.mp hi;rw[C7 hi];exact hh _ (Hu hi)
  rw[cu];exact⟨.AO _,H,Z.kept (t':=DW) λb o AE=>FT b o (by
   intro z;have z:b=s.heap.objs.size:=(z:)
   exact absurd (E3 AE) (by rw[z];exact Lc _)) (DU _ AE),rfl,q⟩
def ahC{k:Nat}(BH:Cv k X.A)(hm:X.mg "all"=none)(AG:Hg X F [e] ma)(AJ:X.calm=true:=by rfl)(A_:F.K=X.K:=by rfl)(Ai:Eh X "all":=by rfl)(s:MV X e [] pos:=by exact{}):Ab X F (.Call (.Name "all" p) [e] [] pos) (B6 (Io true) ma):=⟨Ah.imp (ay (tu AJ BH.hd) Ai hm (by kernel_rfl) AG.p ε ε s.he s.GN) (Qw (ad4 A_ true))⟩
end
end BX
namespace BU
open PyProof.Rows
section
variable{X:Ar}{a e:Aq}{BW:Fb}{pos p pos' Dv:Pos}
theorem qY:∀{xs:↑V}{us:↑A8},⇑xs=⇑us->(∀(i:Nat) x y,xs[i]?=↥x->us[i]?=↥y->RelV x y)->Vals xs us
 |[],[],_,_=>.nil
 |[],_::_,h,_=>by simp at h
 |_::_,[],h,_=>by simp at h
 |x::xs,u::us,h,f=>.cons (f 0 x u γ γ) (qY (h:) λi a b AA AE=>f (i+1) a b (AA:) (AE:))
def aam{A3:μ}{σ :St}{H1:AD}{s2:AQ}{Q:CY}{r:A7}{j:Int}{t u v:Tok}(Bj:Inv X A3 σ H1 s2)(AJ:X.calm=true)(BH:IsRange s2.heap r 0 j 1 t u v)(q1: -(2^62)<=j)(q2:j<=1000000)(q:∀l,H1 l=none->Q (.ref l) (upd H1 l (.lst ((C8 j.toNat).map λi=>.int (i:Nat))))):An ξ X.A (call (.type "list") [.ref r]) (H6 X A3 σ Q) X.DC s2:=by
 have AZ:sV 0 j 1=(j.toNat:Nat):=by rw[rangeSize_one];split<;>lia
 refine call_list_range (Bj.ok.hd AJ) BH (small_one δ δ δ δ) AZ δ λh' DW iR Gb Bu e it=>?_;obtain⟨acc,rfl⟩:∃l:↑A8,iR=l.toArray:=⟨iR.toList,γ⟩;have CG:Vals ((C8 j.toNat).map λi=>V.int ((i:Nat):Int)) acc:=by
  have AH:⇑acc=j.toNat:=(it.1:)
  refine qY ?_ ?_
  .simp[AH]
  .intro i x y AA AE;rw[Da]at AA;have hi:i<j.toNat:=by rw[<-AH];exact(List.getElem?_eq_some_iff.mp AE).1
   rw[PN hi]at AA;cases AA;obtain⟨tt,rfl⟩:=it.2 i y (AE:);exact⟨tt,γ⟩
 exact⟨.ref _,_,Bj.laid (t':=DW) Bu (C5 _) (show Ds X.prog X.w _ h' _ (.lst _)from⟨Iw (m:=1000000) (by simp;lia) ε,acc,Gb,CG,e⟩),rfl,q _ (Bj.B0.fresh (C5 _))⟩
def nj:↑V->AD->CY->Prop:=λvs H1 Q=>∃j:Int,vs=[.int j]/\-(2^62)<=j/\j<=1000000/\∀l,H1 l=none->Q (.ref l) (upd H1 l (.lst ((C8 j.toNat).map λi=>.int (i:Nat))))
def acq(Ai:Eh X "list")(hm:X.mg "list"=none)(VL:Eh X "range")(VM:X.mg "range"=none)(AJ:X.calm=true)(AG:H9 X [a] BW)(AP:CM [a] X.env=[(false,Bc a X.env)]:=by rfl)(I6:CM [.Call (.Name "range" Dv) [a] [] pos'] X.env=[(false,Bc (.Call (.Name "range" Dv) [a] [] pos') X.env)]:=by rfl) :
  Ah X (.Call (.Name "list" p) [.Call (.Name "range" Dv) [a] [] pos'] [] pos) (WN nj BW):=by
 intro A3 s σ H Q Z h;refine UW (O_ (u:=.type "list") Z Ai hm (by kernel_rfl) ?_);refine Qa ?_ I6 rfl;rw[I6];refine UV ?_;refine Call_ (O_ Z VL VM boot_range (Qa (Ba (AG pos' A3 s σ H _ Z h) λus s1⟨vs,H1,Ad,Aw,q1⟩=>?_) AP rfl));obtain⟨j,e,q1,q2,q⟩:=q1;subst e;cases Aw with
 |cons r Ki=>cases Ki;obtain⟨t,rfl⟩:=r;refine call_range_1 (UP ?_);exact aam (Ad.kept λb o e=>DU _ e) AJ (IsRange.new ..) q1 q2 q
end
end BU
namespace BX
def CS{N P:↑Str}{sc:FE}(a:sc.kind=.function:=by rfl)(b:sc.isCoroutine=false:=by rfl)(c:sc.isGenerator=false:=by rfl)(d:N.Nodup:=by decide+kernel)(e:N.take ⇑P=P:=by rfl)(f:∀x∈P,sc.names.lookup x=↥.local\/sc.names.lookup x=↥.cell:=by decide+kernel)(g:∀y∈sc.names,y.2≠.free:=by decide+kernel):Bz N P sc:=⟨a,b,c,d,e,f,g⟩
section
variable{X:Ar}{F:DF}{e a b o:Aq}{es:↑Aq}{pos p DB:Pos}{m n:BB}{ma:E6}{CB:Aq}{g:DN}
noncomputable def ZK:R (FK×A5)->R (FK×A5)
 |.ok (.AM ρ,h)=>.ok (.AM ρ,h)
 |.ok _=>.bad
 |.exc c h=>.exc c h
 |.bad=>.bad
def abo{φ:↑A7}{H:AD}{De:Ends}:∀{r:R (FK×A5)},ED F φ H De (ZK r)->ED F φ H ⟨De.AM,λ_ _=>False,λ_ _=>False,λ_ _=>False⟩ r
 |.ok (.AM _,_),k=>k
 |.ok (.Dq _,_),k|.ok (.BN _,_),k|.ok (.D6 _,_),k=>k.elim
 |.exc _ _,k=>k
 |.bad,k=>k
def Lp(m:BB)(g:DN):Af:=bd m λw ρ h=>ZK (g w ρ h)
def aiK(CG:Ab X F e m)(Ai:QG X F CB g)(h1:swapsWithSole [CB] e pos.line X.env=pure false:=by rfl)(h2:swappedStores [CB] e X.env=pure none:=by rfl)(AY:(Le [CB] X.env).map (·.2)=[L2 CB X.env]:=by rfl):G1 X F (.Assign [CB] e pos) (Lp m g):=⟨DX.imp (mR CG.p Ai.p h1 h2 AY) λDe σ H q=>
 q.bd λw x φ ρ h H1 r a q=>⟨φ,ρ,h,w,r,a,abo q⟩⟩
def W7(ks:↑Int):↑W:=ks.map W.int
theorem kF{K:Ap}{φ:↑A7}{H:AD}:∀ks:↑Int,Al K φ H (W7 ks) (ks.map V.int)
 |[]=>.nil
 |_::ks=>.cons (by erw[AW]) (kF ks)
def Mj:Lv:=λws h=>match ws with
 |[.int j]=>if-(2^62)<=j/\j<=1000000 then nw .lst (W7 ((C8 j.toNat).map λi:Nat=>(i:Int))) h else .bad
 |_=>.bad
def ad2:Q4 F nj Mj:=by
 intro σ ρ φ h H xs ws Q r as q;unfold Mj at q
 split at q
 .rename_i j;obtain⟨v,rfl,a⟩:=as.one;erw[AW]at a;subst a
  split at q
  .rename_i Ac;refine⟨j,rfl,Ac.1,Ac.2,λl AH=>QI r q AH EM ?_⟩;have:=kF (K:=F.K) (φ:=φ) (H:=H) ((C8 j.toNat).map λi:Nat=>(i:Int));rw[SI]at this;exact this
  .exact q.elim
 .exact q.elim
def agq(hm:X.mg "list"=none)(VM:X.mg "range"=none)(AG:Hg X F [a] ma)(AJ:X.calm=true:=by rfl)(Ai:Eh X "list":=by rfl)(VL:Eh X "range":=by rfl){Dv pos':Pos}(AP:CM [a] X.env=[(false,Bc a X.env)]:=by rfl)(I6:CM [.Call (.Name "range" Dv) [a] [] pos'] X.env=[(false,Bc (.Call (.Name "range" Dv) [a] [] pos') X.env)]:=by rfl) :
  Ab X F (.Call (.Name "list" p) [.Call (.Name "range" Dv) [a] [] pos'] [] pos) (B6 Mj ma):=⟨Ah.imp (acq Ai hm VL VM AJ AG.p AP I6) (Qw ad2)⟩
end
end BX
namespace BU
open PyProof.Rows
section
variable{X:Ar}{st:BE}{t:F4}
theorem DX.Fq(h:DX X.Fq st t):DX X st t:=λA3 s σ H D Z hw=>
 HW (h A3 s σ H D (Z.Kl _) hw) (λ_ _ q=>q.Kj) λ_ _ z=>HX z
end
section
variable{X:Ar}{A3:μ}{σ :St}{H:AD}{s:AQ}{r:A7}
def Inv.swap(Z:θ){o o':F3}(e:H r=↥o)(ok:Ds X.prog X.w (upd H r o') s.heap r o')(FH:∀xs,o≠.tup xs)(GQ:∀x,o≠.own x)(S0:∀ps,o≠.OJ ps)(J6:∀BI u,X.L3 r≠↥(.D7 BI u)):Inv X A3 σ (upd H r o') s:=by
 have ne:∀{b:A7},H b=none->b≠r:=λz q=>by subst q;rw[e]at z;cases z
 have Bu:∀{b:A7}{u:F3},H b=↥u->u≠o->upd H r o' b=↥u:=λ{b u} z q=>by
  by_cases A4:b=r
  .subst A4;rw[e]at z;cases z;exact absurd rfl q
  .rw[DK A4];exact z
 refine⟨Z.ok,Z.os,Z.bare,⟨Z.base.keep,Z.base.slot,λb BI h1 h2 AY=>?_,Z.base.there,λb xs q=>Bu (Z.base.JB b xs q) λz=>FH xs z.symm,λb BI u q=>?_,λb ps q=>?_⟩,Z.loc,Z.cell,?_,λx c q=>?_,λp AT=>?_,λa u q=>?_,Z.len⟩
 .have:=Z.base.free b BI h1 h2 AY;rw[DK (ne this)];exact this
 .by_cases A4:b=r
  .subst A4;exact absurd q (J6 BI u)
  .rw[DK A4];exact Z.base.Ha b BI u q
 .obtain⟨more,q⟩:=Z.base.J9 b ps q;exact⟨more,Bu q λz=>S0 _ z.symm⟩
 .rw[DK (ne Z.free)];exact Z.free
 .rw[DK (ne (Z.KV x c q))];exact Z.KV x c q
 .obtain⟨h1,h2,AY⟩:=Z.pin p AT;exact⟨h1,by rw[DK (ne h2)];exact h2,AY⟩
 .by_cases AG:a=r
  .subst AG;rw[EM]at q;cases q;exact ok
  .rw[DK AG]at q;exact(Z.B0 a u q).N_ (λ_ _ _ z=>z) (λb z=>Bu z λy=>GQ _ y.symm) λb xs z=>Bu z λy=>FH _ y.symm
end
noncomputable def c0(a:A7)(o:Obj)(AC:↑(Key×V)):It:=
 ⟨λi H=>H a=↥(.D7 o (.B8 AC))/\i< ⇑AC,λi H x A9=>A9=H/\∃CN,AC[i]?=↥CN/\x=Ck CN.1,λi H=>H a=↥(.D7 o (.B8 AC))/\i=⇑AC⟩
theorem n4{P:C9}{w:Br}:∀{es:↑N1}{vs:↑(Key×A8)}{AC:↑(Key×V)},Pairs (HF P w) es vs->Fm AC vs->⇑es=⇑AC/\∀(i:Nat) e,es[i]?=↥e->∃CN,AC[i]?=↥CN/\RelV (Ck CN.1) e.key
 |_,_,_,.nil,.nil=>⟨rfl,λi e h=>by simp at h⟩
 |_,_,CN::_,.cons a _ p,.cons b r=>by
  obtain⟨l,g⟩:=n4 p r;refine⟨by simp[l],λi e h=>?_⟩;cases i with
  |zero=>
   simp at h;subst h;refine⟨CN,rfl,?_⟩;rw[lG,<-b.1]at a;rcases Mh a with⟨j,t,AA,AE⟩|⟨x,t,AA,AE⟩
   .rw[AA,AE];exact⟨t,rfl⟩
   .rw[AA,AE];exact⟨t,rfl⟩
  |succ i=>obtain⟨ZY,h1,h2⟩:=g i e (h:);exact⟨ZY,(h1:),h2⟩
def agL{P:C9}{w:Br}{K:Ap}{CB:Aq}{a it:A7}{o:Obj}{AC:↑(Key×V)}{es:Array N1}{BA:Nat}(Jy:a≠it)(AF:o.ExactDict)(hd:o.data=.dict es BA)(AH:es.size=⇑AC)(AN:∀(i:Nat) e,es.toList[i]?=↥e->∃CN,AC[i]?=↥CN/\RelV (Ck CN.1) e.key) :
  Turn P w K CB (c0 a o AC) [it] it (λi h=>h.IsKeyIter it a i es.size BA) where
 mem:=γ
 obj:=λi h st b A4=>by
  have e:b=it:=(A4:)
  subst e;obtain⟨o,e,c,d⟩:=st;exact⟨o,e,λv z=>by rw[d]at z;cases z⟩
 keep:=λi h h' st k=>st.at λo e=>k it γ o e
 item:=by
  nofun;obtain⟨Aa,hi⟩:=Ai;have ho:s.heap.get? a=↥o:=(show Ds X.prog X.w H s.heap a (.D7 o (.B8 AC))from Z.B0 a _ Aa).1;obtain⟨f0,f1,f2,E9,f4,G9⟩:=hf it γ;have Yt:i<es.size:=δ
  refine LT.afE st ⟨o,ho,AF,hd⟩ Yt λh' H0 HT=>?_;have Ad:Inv X A3 σ H { s with heap:=h' }:=Z.turned (t':=s.toks) (λb o A4 e=>(HT.2 b A4).trans e) f0 f1 E9 f4 G9;obtain⟨CN,AA,AE⟩:=AN i es[i] (by simp[Yt]);obtain⟨o',e,c,d⟩:=id H0;exact⟨_,rfl,TX (s:={ s with heap:=h' }) e c d ε ⟨Ck CN.1,H,Ad,AE,⟨rfl,CN,AA,rfl⟩,H0,λb A4=>(hf b A4).1⟩⟩
 done:=by nofun;obtain⟨Aa,hi⟩:=Ai;have ho:s.heap.get? a=↥o:=(show Ds X.prog X.w H s.heap a (.D7 o (.B8 AC))from Z.B0 a _ Aa).1;obtain⟨f0,f1,f2,E9,f4,G9⟩:=hf it γ;rw[hi,<-AH]at st;exact LT.afD (Z.ok.hd AJ) st ⟨o,ho,AF,hd⟩ λh' BC=>⟨rfl,Z.turned (t':=s.toks) (λb o A4 e=>BC b o A4 e) f0 f1 E9 f4 G9⟩
 self:=λ_ _ _ _ _ st h=>wpAny_pyIter_keyiter st h
section
variable{X:Ar}{CB:Aq}
def VR(X:Ar)(mk:A7->Obj->↑(Key×V)->It)(JA:TE):TI:=λσ H R=>JA σ H λx H1=>∃a AC,x=.ref a/\H1 a=↥(.B8 AC)/\∀o,(∀BI u,X.L3 a≠↥(.D7 BI u))->R (mk a o AC) (upd H1 a (.D7 o (.B8 AC)))
def acX{e:Aq}{JA:TE}(AH:Ah X e JA):He X CB e (VR X c0 JA):=by
 intro A3 s σ H R Z h;refine Ba (AH A3 s σ H _ Z h) λv s1⟨x,H1,Ad,Aw,q1⟩=>?_;obtain⟨a,AC,rfl,AG,k⟩:=q1;cases Aw;obtain⟨z,hd,vs,rel,dd⟩:=Pj Ad.B0 AG;obtain⟨o,es,BA,g1,g2,g3,g4,Lh,Yl⟩:=id dd;obtain⟨l,g⟩:=n4 Lh rel;have hz:es.size=⇑AC:=by rw[<-l];simp
 have J6:∀BI u,X.L3 a≠↥(.D7 BI u):=λBI u q=>by have:=Ad.base.Ha a BI u q;rw[AG]at this;cases this
 refine LT.afF hd ⟨o,g1,g2,g3⟩ ?_;have Jy:a≠s1.heap.objs.size:=F0 (E3 g1);have Bj:=Ad.swap (o':=.D7 o (.B8 AC)) AG ⟨g1,z,hd,vs,rel,dd⟩ (λ_ q=>nomatch q) (λ_ q=>nomatch q) (λ_ q=>nomatch q) J6;refine⟨s1.heap.objs.size,[s1.heap.objs.size],_,_,_,rfl,Bj.kept (t':=s1.toks) λb o e=>DU _ e,agL Jy g2 g3 hz g,⟨_,Fx _ rfl,rfl,rfl⟩,λb A4=>?_,k o J6⟩;have e:b=s1.heap.objs.size:=(A4:)
 subst e;exact Bj.Ma (C5 _) (Bj.B0.fresh (C5 _))
def Si(X:Ar)(Q:AD->Prop)(H:AD):Prop:=∃r o AC,(∀BI u,X.L3 r≠↥(.D7 BI u))/\H r=↥(.D7 o (.B8 AC))/\Q (upd H r (.B8 AC))
noncomputable def Ends.I0(X:Ar)(D:Ends):Ends:=⟨λσ =>Si X (D.AM σ),λv=>Si X (D.Dq v),λ_ _=>False,λ_ _=>False⟩
def fz{A3:μ}{σ :St}{H:AD}{s:AQ}{Q:AD->Prop}(Z:θ)(q:Si X Q H):∃A9,Inv X A3 σ A9 s/\Q A9:=by obtain⟨r,o,AC,J6,e,q⟩:=q;exact⟨_,Z.swap (o':=.B8 AC) e (show Ds X.prog X.w (upd H r (.B8 AC)) s.heap r (.B8 AC)from(show Ds X.prog X.w H s.heap r (.D7 o (.B8 AC))from Z.B0 r _ e).2) (λ_ q=>nomatch q) (λ_ q=>nomatch q) (λ_ q=>nomatch q) J6,q⟩
def mS{st:BE}{t:F4}(h:DX X st t):DX X st (λD σ H=>t (D.I0 X) σ H):=λA3 s σ H D Z hw=>
 Ba (h A3 s σ H _ Z hw) λf s' q=>by
  cases f with
  |next=>obtain⟨σ',A9,HH,q⟩:=q;obtain⟨AU,Bj,q2⟩:=fz HH q;exact⟨σ',AU,Bj,q2⟩
  |brk=>obtain⟨σ',A9,HH,q⟩:=q;cases q
  |cont=>obtain⟨σ',A9,HH,q⟩:=q;cases q
  |ret u=>obtain⟨v,σ',A9,HH,r,q⟩:=q;obtain⟨AU,Bj,q2⟩:=fz HH q;exact⟨v,σ',AU,Bj,r,q2⟩
end
end BU
namespace BX
section
variable{X:Ar}{F:DF}{e a b o:Aq}{es:↑Aq}{pos p DB:Pos}{m n:BB}{ma:E6}{CB iter c:Aq}{g:DN}{body:↑BE}{mi:GK}{Gi:Af}{Vz:DT}
noncomputable def FW:R (FK×A5)->R (FK×A5)
 |.exc _ _=>.bad
 |r=>r
def Rk(m:Af):Af:=λρ h=>FW (m ρ h)
def Rel.gA{φ:↑A7}{h:A5}{H:AD}{σ :St}{ρ:B5}(r:Rel F.AM φ h H σ ρ):Rel F φ h H σ ρ:=⟨r.hd,r.x0,r.len,r.C3⟩
def a4{m:Af}:Kn (GF F (Rk m)) (GF F.AM m):=λDe σ H⟨φ,ρ,h,r,q⟩=>by
 refine⟨φ,ρ,h,r.AM,?_⟩;unfold Rk at q;cases e:m ρ h with
 |bad=>rw[e]at q;exact q
 |exc c h'=>rw[e]at q;cases q
 |ok p=>
  rw[e]at q;obtain⟨f,h1⟩:=p;cases f with
  |AM EO=>exact λσ' BM A9 r x=>q σ' BM A9 r.gA x
  |BN EO=>exact λσ' BM A9 r x=>q σ' BM A9 r.gA x
  |D6 EO=>exact λσ' BM A9 r x=>q σ' BM A9 r.gA x
  |Dq w=>exact q
def DZ(mi:GK)(g:DN)(b:Af):Af:=Rk (Q2 mi g b)
def T9(c:DT)(b:Af):Af:=Rk (T8 c b)
def ahf(hi:QH X.Fq F.AM CB iter mi)(Ai:QG X.Fq F.AM CB g)(A4:Ks X.Fq F.AM body Gi)(AJ:X.calm=true:=by rfl)(AP:∀x,Nw iter X.env x=pure x:=by intro _;rfl):G1 X F (.For CB iter body [] pos) (DZ mi g Gi):=
 ⟨DX.imp (DX.Fq (eb XJ AJ hi.p Ai.p A4.p AP)) λDe σ H q=>zN De σ H (a4 De σ H q)⟩
def ahq(AJ:Fn X.Fq F.AM c Vz)(A4:Ks X.Fq F.AM body Gi):G1 X F (.While c body [] pos) (T9 Vz Gi):=
 ⟨DX.imp (DX.Fq (ado XJ AJ.p A4.p)) λDe σ H q=>yw De σ H (a4 De σ H q)⟩
def V3:Key->W
 |.inl i=>.int i
 |.inr x=>.str x
noncomputable def d_(ks:↑Key):H7:=λi _=>if i=⇑ks then↥none else(ks[i]?).map λk=>↥(V3 k)
noncomputable def qt(n:Nat):R (FK×A5)->R (FK×A5)
 |.ok (.AM ρ,h)=>match h[n]? with
  |some ⟨.Gn ks,ws⟩=>.ok (.AM ρ,h.set n ⟨.B8 ks,ws⟩)
  |_=>.bad
 |.ok (.Dq w,h)=>match h[n]? with
  |some ⟨.Gn ks,ws⟩=>.ok (.Dq w,h.set n ⟨.B8 ks,ws⟩)
  |_=>.bad
 |_=>.bad
abbrev OG:=↑Key->↑W->H7
def Zg(it:OG)(m:BB)(g:DN)(b:Af):Af:=bd m λw ρ h=>match w with
 |.ref n=>match h[n]? with
  |some ⟨.B8 ks,ws⟩=>qt n (M_ (it ks ws) g b Js 0 ρ (h.set n ⟨.Gn ks,ws⟩))
  |_=>.bad
 |_=>.bad
def Ur(it:OG)(mk:A7->Obj->↑(Key×V)->It):Prop:=∀(K:Ap)(φ:↑A7)(H:AD)(a:A7)(o:Obj)(AC:↑(Key×V))(ws:↑W),H a=↥(.D7 o (.B8 AC))->Al K φ H ws (AC.map (·.2))->Ip K φ H (it (AC.map (·.1)) ws) (mk a o AC)
section
variable{K:Ap}{φ:↑A7}{H:AD}{d:A7}{BI:Obj}{AC:↑(Key×V)}{u:F3}
mutual
theorem AW.I0(e:H d=↥(.D7 BI (.B8 AC))):∀{w:W}{v:V},AW K φ H w v->AW K φ (upd H d u) w v
 |.non,_,h|.AO _,_,h|.int _,_,h|.str _,_,h|.ref _,_,h=>by simpa only[AW]using h
 |.tup _,_,h=>by erw[AW]at h |-;obtain⟨a,xs,AA,q,r⟩:=h;exact⟨a,xs,AA,by rw[DK λz=>by subst z;rw[e]at q;cases q];exact q,Al.I0 e r⟩
 |.I8 _,_,h=>by
  erw[AW]at h |-;obtain⟨a,xs,AA,q,r⟩:=h;refine⟨a,xs,AA,?_,Al.I0 e r⟩;rcases q with(q|⟨o,q⟩)|q
  .exact .inl (.inl (by rw[DK λz=>by subst z;rw[e]at q;cases q];exact q))
  .exact .inl (.inr ⟨o,by rw[DK λz=>by subst z;rw[e]at q;cases q];exact q⟩)
  .exact .inr q
 |.Df _,_,h=>by
  erw[AW]at h |-;obtain⟨a,xs,AA,q,r⟩:=h;refine⟨a,xs,AA,?_,Al.I0 e r⟩;rcases q with⟨o,q⟩|q
  .exact .inl ⟨o,by rw[DK λz=>by subst z;rw[e]at q;cases q];exact q⟩
  .exact .inr q
 |.P2 _,_,h=>by erw[AW]at h |-;obtain⟨a,C,AA,c,q⟩:=h;exact⟨a,C,AA,c,by rw[DK λz=>by subst z;rw[e]at q;cases q];exact q⟩
theorem Al.I0(e:H d=↥(.D7 BI (.B8 AC))):∀{ws:↑W}{vs:↑V},Al K φ H ws vs->Al K φ (upd H d u) ws vs
 |[],_,h=>by simpa only[Al]using h
 |_::_,_,h=>by erw[Al]at h |-;obtain⟨v,r,AA,q,t⟩:=h;exact⟨v,r,AA,AW.I0 e q,Al.I0 e t⟩
end
theorem DM.I0{h:A5}{n:Nat}{ks:↑Key}{ws:↑W}(x:DM K φ h H)(Az:h[n]?=↥⟨.Gn ks,ws⟩)(BJ:φ[n]?=↥d)(e:H d=↥(.D7 BI (.B8 AC))):DM K φ (h.set n ⟨.B8 ks,ws⟩) (upd H d (.B8 AC)):=by
 refine⟨x.Bg,by simp[x.len],λm EE b AA AE=>?_⟩;by_cases hm:n=m
 .subst hm;rw[Ku (List.getElem?_eq_some_iff.mp Az).1]at AA;rw[BJ]at AE;cases AA;cases AE;obtain⟨xs,⟨o,aii,q,q1,q2⟩,r⟩:=x.BI n _ d Az BJ;rw[e]at q;cases q;exact⟨xs,⟨AC,EM,q1,q2⟩,Al.I0 e r⟩
 .rw[ML hm]at AA;obtain⟨ys,Cp,Bf⟩:=x.BI m EE b AA AE;refine⟨ys,Cp.same (DK λz=>?_),Al.I0 e Bf⟩;subst z;obtain⟨CZ,Jz⟩:=List.getElem?_eq_some_iff.mp BJ;obtain⟨Fk,Ka⟩:=List.getElem?_eq_some_iff.mp AE;exact hm ((XK x.Bg).mp (Jz.trans Ka.symm))
end
def aaR:Ur (λks _=>d_ ks) c0:=λK φ H a o AC ws e _ i CQ h2 AU d x=>by
 have AE:=x.t a _ e trivial;unfold d_;dsimp only;by_cases hi:i=⇑AC
 .rw[if_pos (hi:)];exact⟨λ_=>⟨AE,hi⟩,λw z=>by cases z⟩
 .rw[if_neg (hi:)];cases DH:AC[i]? with
  |none=>simp[DH]
  |some CN=>refine⟨(λz=>by simp[DH]at z),λw z=>?_⟩;simp[DH]at z;subst z;refine⟨⟨AE,(List.getElem?_eq_some_iff.mp DH).1⟩,λy A9 AX=>?_⟩;obtain⟨rfl,ZY,Bi,rfl⟩:=AX;rw[DH]at Bi;cases Bi;refine⟨d,Aj.refl _ _,?_⟩;cases CN.1<;>erw[V3,AW,Ck]
def k6{it:OG}{mk:A7->Obj->↑(Key×V)->It}(ok:Ur it mk):Kn (GF F (Zg it m g Gi)) (λDe σ H=>aU (VR X mk (CA F m)) (ME F g) (GF F Gi) (De.I0 X) σ H):=λDe σ H q=>by
 obtain⟨φ,ρ,h,r,q⟩:=q;refine⟨φ,ρ,h,r,ED.bd q λw v By h1 H1 Aw Cn E7 q=>?_⟩
 split at q
 .rename_i n
  split at q
  .rename_i ks ws Az;obtain⟨a,xs,rfl,BJ,⟨AC,AG,rfl,rfl⟩,Bb⟩:=Aw.hd.at Az E7;refine⟨a,AC,rfl,AG,λo J6=>?_⟩;have ns:¬Still (.B8 AC):=λz=>z;have Ws:Aj By H1 By (upd H1 a (.D7 o (.B8 AC))):=Aj.put AG ns;have GX:=Aw.to (Aw.hd.put (o':=⟨.Gn _,ws⟩) Az BJ AG ns ⟨o,AC,EM,rfl,rfl⟩ Bb) Ws;have BN:∀BM A9,Aj By (upd H1 a (.D7 o (.B8 AC))) BM A9->A9 a=↥(.D7 o (.B8 AC))/\BM[n]?=↥a/\Aj By H1 BM (upd A9 a (.B8 AC)):=λBM A9 x=>⟨x.t a _ EM trivial,GD x.p BJ,x.p,λb u e s=>by
    have nb:b≠a:=λz=>by subst z;rw[AG]at e;cases e;exact s
    rw[DK nb];exact x.t b u (by rw[DK nb];exact e) s⟩
   refine for_in (De:=De.I0 X) GX (ok F.K By _ a o AC ws EM (Bb.ex Ws)) ?_;cases e:M_ (it (AC.map (·.1)) ws) g Gi Js 0 ρ (h1.set n ⟨.Gn (AC.map (·.1)),ws⟩)with
   |bad=>rw[e]at q;cases q
   |exc c h'=>rw[e]at q;cases q
   |ok p=>
    rw[e]at q;obtain⟨f,h2⟩:=p;cases f with
    |AM Dl=>
     intro σ2 CQ AU BL CT;obtain⟨b1,F6,LP⟩:=BN CQ AU CT;have q:ED F By H1 De (match h2[n]? with
      |some ⟨.Gn ks,ws⟩=>.ok (.AM Dl,h2.set n ⟨.B8 ks,ws⟩)
      |_=>.bad):=q
     split at q
     .rename_i J5 ws' Vq;refine⟨a,o,AC,J6,b1,q σ2 CQ _ ⟨BL.hd.I0 Vq F6 b1,Aw.x0.trans LP,BL.len,λi w e=>?_⟩ LP⟩;obtain⟨v,AA,q1⟩:=BL.C3 i w e;exact⟨v,AA,AW.I0 b1 q1⟩
     .exact q.elim
    |Dq w=>
     intro v CQ AU Eb CT a2;obtain⟨b1,F6,LP⟩:=BN CQ AU CT;have q:ED F By H1 De (match h2[n]? with
      |some ⟨.Gn ks,ws⟩=>.ok (.Dq w,h2.set n ⟨.B8 ks,ws⟩)
      |_=>.bad):=q
     split at q
     .rename_i J5 ws' Vq;exact⟨a,o,AC,J6,b1,q v CQ _ (Eb.I0 Vq F6 b1) LP (AW.I0 b1 a2)⟩
     .exact q.elim
    |BN _=>cases q
    |D6 _=>cases q
  .exact q.elim
 .exact q.elim
def aax(m:BB)(g:DN)(b:Af):Af:=Rk (Zg (λks _=>d_ ks) m g b)
def ahe(hi:Ab X.Fq F.AM iter m)(Ai:QG X.Fq F.AM CB g)(A4:Ks X.Fq F.AM body Gi)(AJ:X.calm=true:=by rfl)(AP:∀x,Nw iter X.env x=pure x:=by intro _;rfl):G1 X F (.For CB iter body [] pos) (aax m g Gi):=
 ⟨DX.imp (DX.Fq (mS (eb XJ AJ (acX hi.p) Ai.p A4.p AP))) λDe σ H q=>k6 aaR De σ H (a4 De σ H q)⟩
end
end BX
namespace BU
open PyProof.Rows
section
variable{X:Ar}
def hZ(a:A7)(n:Nat)(h:BF):Prop:=∃o es BA t,h.get? a=↥o/\o.ExactSet/\o.data=.set es BA t/\t.fits es.size=true/\es.size=n
def aQ(a:A7)(n:Nat):F3:=.ext (hZ a n)
def ag5{P:C9}{w:Br}{H:AD}{h:BF}{a:A7}{n:Nat}(x:hZ a n h):Ds P w H h a (aQ a n):=
 ⟨x,by obtain⟨o,_,_,_,e,_⟩:=x;exact⟨o,e⟩,λh1 h2 y k=>by obtain⟨o,es,BA,t,e,r⟩:=y;exact⟨o,es,BA,t,k o e,r⟩⟩
def hT(H:AD)(ys:↑V)(keys:↑↑Key):Prop:=⇑keys=⇑ys/\∀(i:Nat) y k,ys[i]?=↥y->keys[i]?=↥k->∃b,y=.ref b/\H b=↥(.tup (k.map Ck))
def af7(K:Ap):↑V->AD->CY->Prop:=λxs H Q=>∃p ys keys,xs=[.ref p]/\Eu K H p ys/\ ⇑ys<77/\hT H ys keys/\keys.Nodup/\∀l,H l=none->Q (.ref l) (upd H l (aQ l ⇑keys))
def u1(hh:X.A.handled=none)(BQ:X.A.units+64<Dg):K1 X (.type "set") (af7 X.K):=by
 intro A3 s σ H xs us Q Z r h;obtain⟨p,ys,keys,rfl,Aa,AZ,⟨AH,AN⟩,Bg,q⟩:=h;obtain⟨u,rfl,Au⟩:=vals1 r;cases Au;obtain⟨its,Bf,pl,hz⟩:=Z.list Aa;have hlen:=⇑Bf;refine Xk.u2 (knd:=HF X.prog X.w) (items:=its.toArray) (keys:=keys) hh BQ pl.isList (by rw[D_];lia) Bg (by rw[D_];lia) (λi v CG=>?_) λh' DW T Bu=>?_
 .have CG:its[i]?=↥v:=by simpa using CG
  have hi:=(List.getElem?_eq_some_iff.mp CG).1;have DY:ys[i]?=↥ys[i]:=C7 δ;have DH:keys[i]?=↥keys[i]:=C7 δ;obtain⟨b,AA,AE⟩:=AN i _ _ DY DH;obtain⟨JC,Zv,Bw⟩:=Bf.get DY;rw[CG]at Zv;cases Zv;rw[AA]at Bw;cases Bw;exact⟨b,_,rfl,DH,R2 Z.B0 AE⟩
 .exact⟨.ref s.heap.objs.size,_,Z.laid (t':=DW) Bu (C5 _) (ag5 T),rfl,q _ (Z.B0.fresh (C5 _))⟩
def af5:↑V->AD->CY->Prop:=λxs H Q=>∃a n,xs=[.ref a]/\H a=↥(aQ a n)/\n<1000/\Q (.int n) H
def tz:K1 X (.builtin "len") af5:=by intro A3 s σ H xs us Q Z r h;obtain⟨a,n,rfl,AG,AZ,q⟩:=h;obtain⟨u,rfl,Au⟩:=vals1 r;cases Au;obtain⟨⟨o,es,BA,t,g1,g2,g3,g4,Lh⟩,_⟩:=(show Ds X.prog X.w H s.heap a (aQ a n)from Z.B0 a _ AG);subst Lh;exact call_len_set g1 g2 g3 g4 δ ⟨.int es.size,H,Z.tok _,⟨_,rfl⟩,q⟩
noncomputable def ej(b:Bool):EZ:=λx y H Q=>∃p q AC,x=.ref p/\y=.ref q/\Lz H p (.B8 AC)/\H q=↥(.B8 [])/\Q (.AO (AC.isEmpty==b)) H
def mh(BQ:X.A.units+64<Dg):Dp X (G4 .Eq) (ej true):=by
 intro A3 s σ H x y v u Q Z Au Bo h;obtain⟨p,q,AC,rfl,rfl,AT,Aa,h⟩:=h;obtain rfl:v=Cq p:=Au;obtain rfl:u=Cq q:=Bo;obtain⟨Ff,d1,vs,Aw,GP⟩:=Oy Z.B0 AT;obtain⟨Ez,Eb,us,BL,HR⟩:=Pj Z.B0 Aa;have HC:us=[]:=by cases BL;rfl
 subst HC;have AN:(⇑vs==⇑([]:↑(Key×A8))&&true)=AC.isEmpty:=by cases Aw<;>rfl
 refine PySem.W.keq_eq (r:=true) d1 Eb GP HR δ (λe=>?_) ?_
 .cases vs with
  |nil=>exact .nil
  |cons _ _=>simp at e
 .rw[AN];exact⟨.AO _,H,Z,rfl,(h:)⟩
def mn(BQ:X.A.units+64<Dg):Dp X (G4 .NotEq) (ej false):=by
 intro A3 s σ H x y v u Q Z Au Bo h;obtain⟨p,q,AC,rfl,rfl,AT,Aa,h⟩:=h;obtain rfl:v=Cq p:=Au;obtain rfl:u=Cq q:=Bo;obtain⟨Ff,d1,vs,Aw,GP⟩:=Oy Z.B0 AT;obtain⟨Ez,Eb,us,BL,HR⟩:=Pj Z.B0 Aa;have HC:us=[]:=by cases BL;rfl
 subst HC;have AN:(⇑vs==⇑([]:↑(Key×A8))&&true)=AC.isEmpty:=by cases Aw<;>rfl
 refine PySem.W.keq_ne (r:=true) d1 Eb GP HR δ (λe=>?_) ?_
 .cases vs with
  |nil=>exact .nil
  |cons _ _=>simp at e
 .rw[AN];exact⟨.AO _,H,Z,rfl,(h:)⟩
end
end BU
namespace BX
section
variable{X:Ar}{F:DF}{e a b o:Aq}{es:↑Aq}{pos p DB Dv pos':Pos}{m n:BB}{ma:E6}
noncomputable def TM(b:Bool):W->A5->R (W×A5):=λw h=>match w with
 |.ref n=>match h[n]? with
  |some ⟨.B8 ks,_⟩=>.ok (.AO (ks.isEmpty==b),h)
  |some ⟨.Gn ks,_⟩=>.ok (.AO (ks.isEmpty==b),h)
  |_=>.bad
 |_=>.bad
def a3(b:Bool):FP (CA F (B3 (TM b) m)) (Tp (ej b) (CA F m) fw):=λσ H Q q=>
 q.bd λw v φ ρ h H1 r E7 q p AT=>by
   have BL:=r.to (r.hd.lay (o:=.B8 []) AT) (Aj.lay AT);unfold TM at q
   split at q
   .split at q
    .rename_i ks ws Az;obtain⟨d,xs,rfl,BV,⟨AC,AG,rfl,rfl⟩,Bb⟩:=r.hd.at Az E7;refine⟨d,p,AC,rfl,rfl,.inl (by rw[DK (LD AG AT)];exact AG),EM,q _ φ _ BL (Aj.lay AT) ?_⟩;erw[AW];cases AC<;>rfl
    .rename_i ks ws Az;obtain⟨d,xs,rfl,BV,⟨o,AC,AG,rfl,rfl⟩,Bb⟩:=r.hd.at Az E7;refine⟨d,p,AC,rfl,rfl,.inr ⟨o,by rw[DK (LD AG AT)];exact AG⟩,EM,q _ φ _ BL (Aj.lay AT) ?_⟩;erw[AW];cases AC<;>rfl
    .exact q.elim
   .exact q.elim
def agc(BQ:X.A.units+64<Dg)(AG:Ab X F a m):Ab X F (.Compare a [.Eq] [.Dict [] [] DB] pos) (B3 (TM true) m):=⟨Ah.imp (M8 (mh BQ) AG.p WC (Hx _)) (a3 true)⟩
def ahs(BQ:X.A.units+64<Dg)(AG:Ab X F a m):Fn X F (.Compare a [.Eq] [.Dict [] [] DB] pos) (AV (B3 (TM true) m)):=⟨EY.imp (M9 (mh BQ) AG.p WC (Hx _)) λσ H Q q=>a3 true σ H _ (KY σ H Q q)⟩
def agz(BQ:X.A.units+64<Dg)(AG:Ab X F a m):Ab X F (.Compare a [.NotEq] [.Dict [] [] DB] pos) (B3 (TM false) m):=⟨Ah.imp (M8 (mn BQ) AG.p WC (Hx _)) (a3 false)⟩
def ahR(BQ:X.A.units+64<Dg)(AG:Ab X F a m):Fn X F (.Compare a [.NotEq] [.Dict [] [] DB] pos) (AV (B3 (TM false) m)):=⟨EY.imp (M9 (mn BQ) AG.p WC (Hx _)) λσ H Q q=>a3 false σ H _ (KY σ H Q q)⟩
def agJ{K:Ap}{φ:↑A7}{H:AD}{ws:↑W}{ks:↑Et}{xs:↑V}(e:ws.mapM NS=↥ks)(a:Al K φ H ws xs):hT H xs ks:=by
 have p:=dv (P:=λk v=>∃b,v=.ref b/\H b=↥(.tup (k.map Ck))) dS e a;exact⟨⇑p,λi y k AA AE=>by
  clear e a;induction p generalizing i with
  |nil=>cases AA
  |cons r _ C4=>
   cases i with
   |zero=>cases AA;cases AE;exact r
   |succ i=>exact C4 i AA AE⟩
def WT:Lv:=λws h=>match ws with
 |[w]=>match E2 h w with
  |some (false,us)=>if ⇑us<77 then match us.mapM NS with
   |some ks=>if ks.Nodup then .ok (.int ⇑ks,h)else .bad
   |none=>.bad
   else .bad
  |_=>.bad
 |_=>.bad
def ago{k:Nat}(BH:Cv k X.A)(hm:X.mg "len"=none)(VM:X.mg "set"=none)(AG:Hg X F [e] ma)(A_:F.K=X.K:=by rfl)(Ai:Eh X "len":=by rfl)(VL:Eh X "set":=by rfl)(AP:CM [.Call (.Name "set" Dv) [e] [] pos'] X.env=(false,Bc (.Call (.Name "set" Dv) [e] [] pos') X.env)::CM [] X.env:=by rfl)(he:CM [e] X.env=(false,Bc e X.env)::CM [] X.env:=by rfl)(GN:(Fa pos (CM [] X.env)).any (·.1)=false:=by rfl)(xx:(Fa pos' (CM [] X.env)).any (·.1)=false:=by rfl) :
  Ab X F (.Call (.Name "len" p) [.Call (.Name "set" Dv) [e] [] pos'] [] pos) (B6 WT ma):=
 ⟨Ah.imp (ay tz Ai hm PySem.boot_len (S2 (WB (u1 BH.hd BH.units) VL VM (by kernel_rfl) AG.p ε ε he xx) UF AP) ε ε AP GN) λσ H Q q=>
   q.bd λws vs φ ρ h H1 r as q=>by
     unfold WT at q
     split at q
     .obtain⟨v,rfl,E7⟩:=as.one
      split at q
      .rename_i us es;obtain⟨d,xs,rfl,Aa,Bb⟩:=Ja r.hd E7 es
       split at q
       .rename_i AH
        split at q
        .rename_i ks DH
         split at q
         .rename_i Bg;have kt:=agJ DH Bb;have Ee:=⇑Bb;have Aa:Eu F.K H1 d xs:=Aa;refine⟨d,xs,ks,rfl,A_▸Aa,δ,kt,Bg,λl Me=>?_⟩;have:=kt.1;exact⟨l,_,rfl,EM,δ,q _ φ _ (r.to (r.hd.lay Me) (Aj.lay Me)) (Aj.lay Me) (by erw[AW])⟩
         .exact q.elim
        .exact q.elim
       .exact q.elim
      .exact q.elim
     .exact q.elim⟩
end
end BX
namespace BU
open PyProof.Rows
theorem db:∀{AC:↑(Key×V)}{vs:↑(Key×A8)},Fm AC vs->∀(i:Nat) CN,AC[i]?=↥CN->∃v,vs[i]?=↥(CN.1,v)/\RelV CN.2 v
 |_,_,.nil,i,CN,e=>by simp at e
 |_,_,.cons h t,0,CN,e=>by simp at e;subst e;rename_i p q _ _;exact⟨q.2,by rw[h.1];rfl,h.2⟩
 |_,_,.cons h t,i+1,CN,e=>by obtain⟨v,AA,AE⟩:=db t i CN (e:);exact⟨v,(AA:),AE⟩
theorem OX:∀{AC:↑(Key×V)}{vs:↑(Key×A8)},Fm AC vs->⇑AC=⇑vs
 |_,_,.nil=>rfl
 |_,_,.cons _ t=>by simp[OX t]
def TR{P:C9}{w:Br}{H:AD}{h:BF}{a:A7}{o:Obj}{AC:↑(Key×V)}{es:Array N1}{BA:Nat}(hd:o.data=.dict es BA)(x:Ds P w H h a (.D7 o (.B8 AC))):∃vs,Fm AC vs/\h.DictAt (HF P w) a vs BA:=by obtain⟨ho,z,AX,vs,rel,o',es',No,g1,g2,g3,g4,Lh,Yl⟩:=x;rw[ho]at g1;cases g1;rw[hd]at g3;cases g3;exact⟨vs,rel,_,_,ho,g2,hd,g4,Lh,Yl⟩
noncomputable def c5(a:A7)(o:Obj)(AC:↑(Key×V)):It:=
 ⟨λi H=>H a=↥(.D7 o (.B8 AC))/\i< ⇑AC,λi H x A9=>A9=H/\∃CN,AC[i]?=↥CN/\x=CN.2,λi H=>H a=↥(.D7 o (.B8 AC))/\i=⇑AC⟩
def agR{P:C9}{w:Br}{K:Ap}{CB:Aq}{a it:A7}{o:Obj}{AC:↑(Key×V)}{es:Array N1}{BA:Nat}(Jy:a≠it)(hd:o.data=.dict es BA) :
  Turn P w K CB (c5 a o AC) [it] it (λi h=>h.IsValIter it a i ⇑AC BA) where
 mem:=γ
 obj:=λi h st b A4=>by
  have e:b=it:=(A4:)
  subst e;obtain⟨o,e,c,d⟩:=st;exact⟨o,e,λv z=>by rw[d]at z;cases z⟩
 keep:=λi h h' st k=>by obtain⟨o,e,c,d⟩:=st;exact⟨o,k it γ o e,c,d⟩
 item:=by nofun;obtain⟨Aa,hi⟩:=Ai;obtain⟨vs,rel,dd⟩:=TR hd (show Ds X.prog X.w H s.heap a (.D7 o (.B8 AC))from Z.B0 a _ Aa);obtain⟨f0,f1,f2,E9,f4,G9⟩:=hf it γ;obtain⟨v,ev,Bw⟩:=db rel i AC[i] (C7 hi);rw[OX rel]at st;refine wpAny_pyNext_values_item st dd ev λh' H0 HT=>?_;have Ad:Inv X A3 σ H { s with heap:=h' }:=Z.turned (t':=s.toks) (λb o A4 e=>(HT.2 b A4).trans e) f0 f1 E9 f4 G9;obtain⟨o',e,c,d⟩:=id H0;rw[<-OX rel]at H0;exact⟨_,rfl,TX (s:={ s with heap:=h' }) e c d ε ⟨AC[i].2,H,Ad,Bw,⟨rfl,_,C7 hi,rfl⟩,H0,λb A4=>(hf b A4).1⟩⟩
 done:=by nofun;obtain⟨Aa,hi⟩:=Ai;obtain⟨vs,rel,dd⟩:=TR hd (show Ds X.prog X.w H s.heap a (.D7 o (.B8 AC))from Z.B0 a _ Aa);obtain⟨f0,f1,f2,E9,f4,G9⟩:=hf it γ;rw[OX rel]at st hi;exact wpAny_pyNext_values_end (Z.ok.hd AJ) st dd (by rw[hi];simp) λh' BC=>⟨rfl,Z.turned (t':=s.toks) (λb o A4 e=>BC b o A4 e) f0 f1 E9 f4 G9⟩
 self:=λ_ _ _ _ _ st h=>wpAny_pyIter_valiter st h
def c2(a:A7)(o:Obj)(AC:↑(Key×V)):It:=
 ⟨λi H=>H a=↥(.D7 o (.B8 AC))/\i< ⇑AC,λi H x A9=>∃p CN,H p=none/\A9=upd H p (.tup [Ck CN.1,CN.2])/\x=.ref p/\AC[i]?=↥CN,λi H=>H a=↥(.D7 o (.B8 AC))/\i=⇑AC⟩
theorem agN{P:C9}{w:Br}{K:Ap}{elts:↑Aq}{FT:Nat}{pos:Pos}{a it:A7}{o:Obj}{AC:↑(Key×V)}{es:Array N1}{BA:Nat}(Jy:a≠it)(hd:o.data=.dict es BA) :
  Turn P w K (.Tuple elts FT pos) (c2 a o AC) [it] it (λi h=>∃ok CL,IsItemIter h it a i ⇑AC BA ok CL) where
 mem:=γ
 obj:=λi h st b A4=>by
  obtain⟨ok,CL,e⟩:=st;obtain rfl:b=it:=(A4:)
  exact⟨_,e,λv z=>by have F_:Xh _=SO v:=z;cases F_⟩
 keep:=λi h h' st k=>by obtain⟨ok,CL,e⟩:=st;exact⟨ok,CL,k it γ _ e⟩
 item:=by
  nofun;obtain⟨Aa,hi⟩:=Ai;obtain⟨ok,CL,hit⟩:=st;obtain⟨vs,rel,dd⟩:=TR hd (show Ds X.prog X.w H s.heap a (.D7 o (.B8 AC))from Z.B0 a _ Aa);obtain⟨v,ev,Bw⟩:=db rel i AC[i] (C7 hi);rw[OX rel]at hit;refine wpAny_pyNext_items_item hit dd ev λkey h' YO ho B9 AP AN=>?_;refine⟨_,rfl,wpAny_letOwnedTupleGo_items ho λh2 ke I6=>?_⟩;have DO:s.heap.objs.size∉[it]:=λz=>by
   obtain rfl:s.heap.objs.size=it:=(z:)
   exact absurd (E3 hit) (Lc _)
  have keep:∀b o,b∉[it]->s.heap.get? b=↥o->h2.get? b=↥o:=λb o A4 q=>(I6.2 b (A4:)).trans (AN b o (A4:) q);have afM:RelV (Ck AC[i].1) key:=by
   rw[lG]at YO;rcases Mh YO with⟨j,t,AA,AE⟩|⟨x,t,AA,AE⟩
   .rw[AA,AE];exact⟨t,rfl⟩
   .rw[AA,AE];exact⟨t,rfl⟩
  have VP:XR h2 s.heap.objs.size (#[key,v]:Array A8):=⟨_,(I6.2 _ (DO:)).trans B9,rfl,_,rfl⟩;have xj:H s.heap.objs.size=none:=Z.B0.fresh (C5 _);have Bj:Inv X A3 σ (upd H s.heap.objs.size (.tup [Ck AC[i].1,AC[i].2])) { s with heap:=h2 }:=Z.g7 (its:=[key,v]) (ch:=[it]) (t':=s.toks) keep hf (C5 _) VP (.cons afM (.cons Bw .nil)) (by show 2<=CW;decide);rw[<-OX rel]at ke;refine⟨.ref s.heap.objs.size,_,Bj,rfl,⟨s.heap.objs.size,AC[i],xj,rfl,rfl,C7 hi⟩,⟨_,_,ke⟩,λb A4=>?_⟩;have nb:b≠s.heap.objs.size:=λz=>DO (z▸A4);rw[DK nb];exact(hf b A4).1
 done:=by nofun;obtain⟨Aa,hi⟩:=Ai;obtain⟨ok,CL,hit⟩:=st;obtain⟨vs,rel,dd⟩:=TR hd (show Ds X.prog X.w H s.heap a (.D7 o (.B8 AC))from Z.B0 a _ Aa);rw[OX rel]at hit hi;exact wpAny_pyNext_items_end (Z.ok.hd AJ) hit dd (by rw[hi];simp) λh' AN=>⟨rfl,Z.Vx (ch:=[it]) (t':=s.toks) (λb o A4 q=>AN b o (A4:) q) hf⟩
 self:=λA i s Q E st h=>by obtain⟨ok,CL,hit⟩:=st;have DO:s.TypeIs (.ref it) "dict_itemiterator":=⟨_,hit,rfl⟩;refine wpAny_pyIter_slot DO rv (PF rv DO (show entryFor table "dict_itemiterator.__iter__"=↥Builtin.«dict_keyiterator.__iter__» by kernel_rfl) ?_ (F.args_dict_itemiterator_iter_1 _));show An _ _ (pure _) _ _ _;exact Bh ⟨_,rfl,"dict_itemiterator",_,DO,F.slot_dict_itemiterator_next.lookup,h⟩
section
variable{X:Ar}
theorem ae5{CB o:Aq}{H3:TE}{apos D5:Pos}(ho:Ah X o H3)(A4:Ky o "values" X.env (Bc o X.env)=Bc o X.env:=by rfl)(AH:(apos.endLine==D5.line)=true:=by rfl)(hf:((Fa D5 (CM [] X.env)).all (λx=>!x.1)&&(L0 D5 (Kx [] X.env)).all (λx=>x.1.isSome)&&decide (⇑([]:↑Aq)+⇑([]:↑MR)+(if([]:↑MR).isEmpty then 0 else 1)<30))=true:=by rfl)(B9:Fa D5 (CM [] X.env)=[]:=by rfl) :
  He X CB (.Call (.Attribute o "values" apos) [] [] D5) (VR X c5 H3):=by
 intro A3 s σ H R Z h;refine XT A4 hf AH XE PySem.F.slot_dict_values PySem.F.type_dict_values (Ba (ho A3 s σ H _ Z h) λu s1⟨x,H1,Ad,Au,d,AC,ex,hd,q⟩=>?_);subst ex;obtain rfl:u=Cq d:=Au;obtain⟨t1,C_,_⟩:=aA Ad (.inl ⟨AC,.inl hd⟩);refine⟨t1,C_,?_⟩;rw[B9];refine SB rfl (gY ?_);obtain⟨z,AX,vs,rel,dd⟩:=Pj Ad.B0 hd;obtain⟨BI,es,BA,g1,g2,g3,g4,Lh,Yl⟩:=id dd;have J6:∀BI u,X.L3 d≠↥(.D7 BI u):=λBI u q=>by have:=Ad.base.Ha d BI u q;rw[hd]at this;cases this
 refine SK F.slot_dict_values t1 F.entry_dict_values (F.args_dict_values_1 _) (meets_dict_values (HF X.prog X.w) d AX) ⟨⟨vs,dd⟩,?_⟩;have Bj:=Ad.swap (o':=.D7 BI (.B8 AC)) hd ⟨g1,z,AX,vs,rel,dd⟩ (λ_ q=>nomatch q) (λ_ q=>nomatch q) (λ_ q=>nomatch q) J6;have DD:Inv X A3 σ _ { s1 with heap:=s1.heap.push { cls:=.type "dict_values",data:=.fields #[.ref d] } }:=Bj.kept (t':=s1.toks) λb o e=>DU _ e;obtain⟨afz,ep,SY⟩:=TR g3 (show Ds X.prog X.w _ _ d (.D7 BI (.B8 AC))from DD.B0 d _ EM);refine wpAny_pyIter_values ⟨_,Fx _ rfl,rfl,rfl⟩ SY ?_;have Jy:d≠(s1.heap.push { cls:=.type "dict_values",data:=.fields #[.ref d] }).objs.size:=F0 (E3 (DU _ g1));refine⟨_,[_],_,_,_,rfl,DD.kept (t':=s1.toks) λb o e=>DU _ e,agR Jy g3,⟨_,Fx _ rfl,rfl,by rw[OX ep];rfl⟩,λb A4=>?_,q BI J6⟩;obtain rfl:=List.mem_singleton.mp A4;exact DD.Ma (C5 _) (DD.B0.fresh (C5 _))
theorem acY{elts:↑Aq}{FT:Nat}{Na:Pos}{o:Aq}{H3:TE}{apos D5:Pos}(ho:Ah X o H3)(A4:Ky o "items" X.env (Bc o X.env)=Bc o X.env:=by rfl)(AH:(apos.endLine==D5.line)=true:=by rfl)(hf:((Fa D5 (CM [] X.env)).all (λx=>!x.1)&&(L0 D5 (Kx [] X.env)).all (λx=>x.1.isSome)&&decide (⇑([]:↑Aq)+⇑([]:↑MR)+(if([]:↑MR).isEmpty then 0 else 1)<30))=true:=by rfl)(B9:Fa D5 (CM [] X.env)=[]:=by rfl) :
  He X (.Tuple elts FT Na) (.Call (.Attribute o "items" apos) [] [] D5) (VR X c2 H3):=by
 intro A3 s σ H R Z h;refine XT A4 hf AH XE PySem.F.slot_dict_items PySem.F.type_dict_items (Ba (ho A3 s σ H _ Z h) λu s1⟨x,H1,Ad,Au,d,AC,ex,hd,q⟩=>?_);subst ex;obtain rfl:u=Cq d:=Au;obtain⟨t1,C_,_⟩:=aA Ad (.inl ⟨AC,.inl hd⟩);refine⟨t1,C_,?_⟩;rw[B9];refine SB rfl (gY ?_);obtain⟨z,AX,vs,rel,dd⟩:=Pj Ad.B0 hd;obtain⟨BI,es,BA,g1,g2,g3,g4,Lh,Yl⟩:=id dd;have J6:∀BI u,X.L3 d≠↥(.D7 BI u):=λBI u q=>by have:=Ad.base.Ha d BI u q;rw[hd]at this;cases this
 refine SK F.slot_dict_items t1 F.entry_dict_items (F.args_dict_items_1 _) (meets_dict_items (HF X.prog X.w) d AX) ⟨⟨vs,dd⟩,?_⟩;have Bj:=Ad.swap (o':=.D7 BI (.B8 AC)) hd ⟨g1,z,AX,vs,rel,dd⟩ (λ_ q=>nomatch q) (λ_ q=>nomatch q) (λ_ q=>nomatch q) J6;have DD:Inv X A3 σ _ { s1 with heap:=s1.heap.push { cls:=.type "dict_items",data:=.fields #[.ref d] } }:=Bj.kept (t':=s1.toks) λb o e=>DU _ e;obtain⟨afz,ep,SY⟩:=TR g3 (show Ds X.prog X.w _ _ d (.D7 BI (.B8 AC))from DD.B0 d _ EM);refine wpAny_pyIter_items ⟨_,Fx _ rfl,rfl,rfl⟩ SY ?_;have Jy:d≠(s1.heap.push { cls:=.type "dict_items",data:=.fields #[.ref d] }).objs.size:=F0 (E3 (DU _ g1));refine⟨_,[_],_,_,_,rfl,DD.kept (t':=s1.toks) λb o e=>DU _ e,agN Jy g3,⟨_,_,by rw[OX ep];exact Fx _ rfl⟩,λb A4=>?_,q BI J6⟩;obtain rfl:=List.mem_singleton.mp A4;exact DD.Ma (C5 _) (DD.B0.fresh (C5 _))
end
def acP{X:Ar}{e:Aq}{t:TE}(h:Ah X e t):Ah X e (λσ H Q=>t σ H λv=>Si X (Q v)):=λA3 s σ H Q Z hw=>
 Ba (h A3 s σ H _ Z hw) λv s'⟨x,A9,HH,r,q⟩=>by obtain⟨AU,Bj,q2⟩:=fz HH q;exact⟨x,AU,Bj,r,q2⟩
section
variable{X:Ar}{k:Nat}{f C:A7}{fd:Hv}{ps:↑Str}{sp:CH}{E:Ev}{m:Str}{pos apos:Pos}{o e:Aq}{es:↑Aq}{BW:TE}{t:Fb}
def acT {pl:Sem Bool} (he:Ah X.Fq o BW) (c:Jr X.K C) (hm:Meth X.K C m f) (F:Ib X.prog X.w X.K X.mg X.base (Im X.prog X.w) k f fd ps sp) (BH:Cv k X.A) (A4:Binds X.K fd ps []) (AG:H9 X.Fq (e::es) t)(Fj:CM (e::es) X.env=(false,Bc e X.env)::CM es X.env:=by rfl) (GN:(Fa pos (CM es X.env)).any (·.1)=false:=by rfl)(B9:Bc (.Call (.Attribute o m apos) (e::es) [] pos) X.env=(do
    let CL <-Bc o X.env
    MP apos.atName
    let(f,first) <-JI [CL] (O3 CL m pl)
    PP pos f first (Fa pos (CM (e::es) X.env)) (L0 pos (Kx [] X.env))):=by rfl) :
  cB X (.Call (.Attribute o m apos) (e::es) [] pos) (aV C m sp [] E BW t) E:=by
 intro A3 s σ H Q Z h;refine X3 (pl:=pl) (HW (he A3 s σ H _ (Z.Kl _) h) (λu s1⟨x,H1,Ad,Au,a,Bs,B7,ex,BJ,l,q⟩=>?_) λ_ _ z=>z.elim) B9;subst ex;obtain rfl:u=Cq a:=Au;refine Yn Ad.Kj BJ c hm l ?_;refine X2 (first:=[.ref a]) (h₀:=X.base) Z.ok.mod.R3 hm.Bu (HW (AG pos A3 s1 σ H1 _ Ad q) (λus s2⟨vs,AU,Bj,r,q2⟩=>⟨Bj.Kj.F8,?_⟩) λ_ _ z=>z.elim) Fj GN;have BS:=Bj.Kj;replace q2:sp (.ref a::vs++[]) AU Q E:=q2;rw[La]at q2;have BL:Vals (V.ref a::vs) (Cq a::us):=.cons rfl r;have AH:⇑(Cq a::us)=⇑ps:=by rw[<- ⇑BL];exact F.len _ _ _ _ q2
 refine wpAny_call (Qi (F.run X.A X.stack s2 AU ⟨Cq a::us,[]⟩ (Cq a::us) (V.ref a::vs) Q E BH BS.cW (by have:=A4 s2 (Cq a::us) BS.F8 (by rw[La];exact AH);rw[La]at this;exact this) BL q2) λr s' Aa=>?_);cases r with
 |error e=>exact⟨AU,s2,BS,Aa⟩
 |ok CK=>
  cases CK with
  |ret u=>exact BS.after Aa
  |next=>exact HX Aa
  |brk=>exact HX Aa
  |cont=>exact HX Aa
end
noncomputable def ag6(j:Nat)(te:TE)(E:Ev)(ts:F4):F4:=λD σ H=>te σ H (λv H1=>D.AM (σ.set j ↥v) H1)/\∀(C:A8)(a:A7)(A9:AD),E C ↥a A9->A9 a=none->ts D σ A9
section
variable{X:Ar}{j:Nat}{x y:Str}{W:A7}{e:Aq}{te:TE}{E:Ev}{SR:BE}{To:↑BE}{ts:F4}{UG np AT pos py:Pos}
def adn(hN:X.N.Nodup)(he:cB X e te E)(hm:X.mg x=↥(.ref W))(YQ:∀C a H,E C a H->Ue X.K C (.ref W)=↥true)(AP:∀a,HK (X.marked a) (SR::To) ts)(Ac:X.N[j]?=↥y:=by rfl)(YP:X.env.scope.names.lookup y=↥.local:=by rfl)(Fj:X.stack=X.env::X.outer:=by rfl)(NF:X.env.frame=↥X.env.locals:=by rfl)(Ai:Eh X x:=by rfl)(hd:(x==("__debug__" :Str))=false:=by decide)(RS:O2 e ↥(.Name y py) UG.line X.env=pure false:=by rfl) :
  DX X (.Try [.Assign [.Name y py] e UG] [.ExceptHandler ↥(.Name x np) none (SR::To) AT] [] [] pos) (ag6 j te E ts):=by
 intro A3 s σ H D Z h;obtain⟨h1,h2⟩:=h;refine wpAny_Try_except (gg (wpAny_Assign_Name (HW (he A3 s σ H _ Z h1) (λv s1 CG=>?_) (λy s' AX=>?_)) RS))
 .obtain⟨y,H1,Ad,Aw,q1⟩:=CG;exact ea (X:=X) Ad hN Ac (.inl YP) Aw (λs2 Bj=>SC (SC ⟨_,H1,Bj,q1⟩)) (.inr YP)
 .obtain⟨H1,s1,Ad,a,C,GL,B,A9,rfl,CK,KX⟩:=AX;have RF:=CK.RF;rw[Fj]at RF;have Gq:X.A.frames=↥(X.env::X.outer):=by rw[<-Fj];exact Ad.ok.frames
  refine wpAny_looks_onW Gq NF RF λSz y6 qx=>?_;refine wpAny_landsW y6 λIk Yh qy=>?_;have O8:Inv X A3 σ A9 { s' with heap:=Ik }:=CK.inv Ad Yh.1 (by rw[Fj];exact Yh.2.2.1) (qx.trans qy);refine wpAny_handleBy_cons (codeAny_handlers_test (WQ (X:=X.marked a) (O8.marked a) Ai hm ?_ hd)) (by intro q;cases q);obtain⟨BI,xp,xq⟩:=Yh.there;have LT:PySem.W.Looks ξ Ik (typeOf (.ref a)) C:=by rw[<-xq];exact(PySem.W.Looks.ld xp).andThen .now
  refine(PySem.W.exm_one (K:=X.K) O8.F8 LT (YQ C _ A9 KX)).here ?_;refine codeAny_handlers_suite ?_;refine lands_againW Yh λxi jD afl=>?_;have RX:Inv X A3 σ A9 { s' with heap:=xi }:=CK.inv Ad jD.1 (by rw[Fj];exact jD.2.2.1) ((qx.trans qy).trans afl);refine HW (AP a A3 _ σ A9 _ (RX.marked a) (h2 C a A9 KX CK.AG)) (λxQ EF QM=>?_) λ_ _ z=>z.elim;cases xQ with
  |next=>obtain⟨σ',bu,BS,q⟩:=QM;exact⟨_,_,BS.unmarked Z.ok,q⟩
  |brk=>obtain⟨σ',bu,BS,q⟩:=QM;exact⟨_,_,BS.unmarked Z.ok,q⟩
  |cont=>obtain⟨σ',bu,BS,q⟩:=QM;exact⟨_,_,BS.unmarked Z.ok,q⟩
  |ret u=>obtain⟨v,σ',bu,BS,r,q⟩:=QM;exact⟨v,_,_,BS.unmarked Z.ok,r,q⟩
end
end BU
namespace BX
noncomputable def OM:OG:=λ_ ws i _=>if i=⇑ws then↥none else(ws[i]?).map some
noncomputable def T1:OG:=λks ws i _=>if i=⇑ws then↥none else match ks[i]?,ws[i]? with
 |some k,↥w=>↥↥(.tup [V3 k,w])
 |_,_=>none
def afN{K:Ap}{φ:↑A7}{H:AD}(k:Key):AW K φ H (V3 k) (Ck k):=by cases k<;>erw[V3,AW,Ck]
def afx:Ur OM c5:=λK φ H a o AC ws e Bw i CQ h2 AU d x=>by
 have AE:=x.t a _ e trivial;have Ee:⇑ws=⇑AC:=by rw[⇑Bw,CE]
 unfold OM;by_cases hi:i=⇑AC
 .rw[if_pos δ];exact⟨λ_=>⟨AE,hi⟩,λw z=>by cases z⟩
 .rw[if_neg δ];cases DH:ws[i]? with
  |none=>simp
  |some u=>
   refine⟨(λz=>by simp at z),λw z=>?_⟩;simp at z;subst z;obtain⟨v,ev,E7⟩:=Bw.get DH;rw[Da]at ev;cases P0:AC[i]? with
   |none=>rw[P0]at ev;cases ev
   |some CN=>rw[P0]at ev;cases ev;refine⟨⟨AE,(List.getElem?_eq_some_iff.mp P0).1⟩,λy A9 AX=>?_⟩;obtain⟨rfl,ZY,Bi,rfl⟩:=AX;rw[P0]at Bi;cases Bi;exact⟨d,Aj.refl _ _,E7.ex x⟩
def aa7:Ur T1 c2:=λK φ H a o AC ws e Bw i CQ h2 AU d x=>by
 have AE:=x.t a _ e trivial;have Ee:⇑ws=⇑AC:=by rw[⇑Bw,CE]
 unfold T1;by_cases hi:i=⇑AC
 .rw[if_pos δ];exact⟨λ_=>⟨AE,hi⟩,λw z=>by cases z⟩
 .rw[if_neg δ,Da];cases DH:ws[i]? with
  |none=>cases AC[i]?<;>exact⟨(λz=>by cases z),λw z=>by cases z⟩
  |some u=>
   obtain⟨v,ev,E7⟩:=Bw.get DH;rw[Da]at ev;cases P0:AC[i]? with
   |none=>rw[P0]at ev;cases ev
   |some CN=>rw[P0]at ev;cases ev;refine⟨(λz=>by cases z),λw z=>?_⟩;cases z;refine⟨⟨AE,(List.getElem?_eq_some_iff.mp P0).1⟩,λy A9 AX=>?_⟩;obtain⟨p,ZY,AT,rfl,rfl,Bi⟩:=AX;rw[P0]at Bi;cases Bi;refine⟨d.lay AT,Aj.lay AT,?_⟩;erw[AW];exact⟨p,_,rfl,EM,.cons (afN _) (.cons ((E7.ex x).ex (Aj.lay AT)) .nil)⟩
section
variable{X:Ar}{F:DF}{e a b o:Aq}{es:↑Aq}{pos p DB apos D5:Pos}{m n:BB}{ma:E6}{CB iter c:Aq}{g:DN}{body:↑BE}{mi:GK}{Gi:Af}{Vz:DT}{elt:Aq}{ifs:↑Aq}{scope:FE}{mt:DT}{W0:BB}
def WW(m:BB)(g:DN)(b:Af):Af:=Rk (Zg T1 m g b)
def ahd{elts:↑Aq}{FT:Nat}{Na:Pos}(hi:Ab X.Fq F.AM o m)(Ai:QG X.Fq F.AM (.Tuple elts FT Na) g)(A4:Ks X.Fq F.AM body Gi)(AJ:X.calm=true:=by rfl)(AP:∀x,Nw (.Call (.Attribute o "items" apos) [] [] D5) X.env x=pure x:=by intro _;rfl)(h1:Ky o "items" X.env (Bc o X.env)=Bc o X.env:=by rfl)(h2:(apos.endLine==D5.line)=true:=by rfl):G1 X F (.For (.Tuple elts FT Na) (.Call (.Attribute o "items" apos) [] [] D5) body [] pos) (WW m g Gi):=
 ⟨DX.imp (DX.Fq (mS (eb XJ AJ (acY hi.p h1 h2) Ai.p A4.p AP))) λDe σ H q=>k6 aa7 De σ H (a4 De σ H q)⟩
noncomputable def qs(n:Nat):R (W×A5)->R (W×A5)
 |.ok (w,h)=>match h[n]? with
  |some ⟨.Gn ks,ws⟩=>.ok (w,h.set n ⟨.B8 ks,ws⟩)
  |_=>.bad
 |_=>.bad
def T7(it:OG)(nl:Nat)(caps:↑Nat)(m:BB)(g:DN)(H4:DT)(elt:BB):BB:=bd m λw ρ h=>match w with
 |.ref n=>match h[n]? with
  |some ⟨.B8 ks,ws⟩=>qs n (D8 nl caps (pu (it ks ws)) g H4 elt ρ (h.set n ⟨.Gn ks,ws⟩))
  |_=>.bad
 |_=>.bad
def zD{it:OG}{mk:A7->Obj->↑(Key×V)->It}(ok:Ur it mk){nl:Nat}{caps:↑Nat}:FP (CA F (T7 it nl caps m g mt W0)) (λσ H Q=>WO (VR X mk (CA F m)) (λx σ H Q=>∃DS C0,ME (Ij F.K DS C0) g x σ H Q) (λσ H Q=>∃DS C0,Hn (Ij F.K DS C0) mt σ H Q) (λσ H Q=>∃DS C0,CA (Ij F.K DS C0) W0 σ H Q) nl caps σ H λv=>Si X (Q v)):=λσ H Q q=>
 q.bd λw v By ρ h1 H1 Aw E7 q=>by
   split at q
   .rename_i n
    split at q
    .rename_i ks ws Az;obtain⟨a,xs,rfl,BJ,⟨AC,AG,rfl,rfl⟩,Bb⟩:=Aw.hd.at Az E7;refine⟨a,AC,rfl,AG,λo J6=>?_⟩;have ns:¬Still (.B8 AC):=λz=>z;have Ws:Aj By H1 By (upd H1 a (.D7 o (.B8 AC))):=Aj.put AG ns;have GX:=Aw.to (Aw.hd.put (o':=⟨.Gn _,ws⟩) Az BJ AG ns ⟨o,AC,EM,rfl,rfl⟩ Bb) Ws;have BN:∀BM A9,Aj By (upd H1 a (.D7 o (.B8 AC))) BM A9->A9 a=↥(.D7 o (.B8 AC))/\BM[n]?=↥a/\Aj By H1 BM (upd A9 a (.B8 AC)):=λBM A9 x=>⟨x.t a _ EM trivial,GD x.p BJ,x.p,λb u e s=>by
      have nb:b≠a:=λz=>by subst z;rw[AG]at e;cases e;exact s
      rw[DK nb];exact x.t b u (by rw[DK nb];exact e) s⟩
     refine hs (Q:=λv=>Si X (Q v)) GX (ok F.K By _ a o AC ws EM (Bb.ex Ws)) ?_;cases e:D8 nl caps (pu (it (AC.map (·.1)) ws)) g mt W0 ρ (h1.set n ⟨.Gn (AC.map (·.1)),ws⟩)with
     |bad=>rw[e]at q;cases q
     |exc c h'=>rw[e]at q;cases q
     |ok p=>
      rw[e]at q;obtain⟨w,h2⟩:=p;intro v CQ AU BL CT a2;obtain⟨b1,F6,LP⟩:=BN CQ AU CT;have q:EU AW F By H1 σ ρ Q (match h2[n]? with
       |some ⟨.Gn ks,ws⟩=>.ok (w,h2.set n ⟨.B8 ks,ws⟩)
       |_=>.bad):=q
      split at q
      .rename_i J5 ws' Vq;refine⟨a,o,AC,J6,b1,q v CQ _ ⟨BL.hd.I0 Vq F6 b1,Aw.x0.trans LP,BL.len,λi w e=>?_⟩ LP (AW.I0 b1 a2)⟩;obtain⟨v,AA,q1⟩:=BL.C3 i w e;exact⟨v,AA,AW.I0 b1 q1⟩
      .exact q.elim
    .exact q.elim
   .exact q.elim
def ahK(nl:Nat)(caps:↑Nat)(S:Vg X.env.scope X.N scope (Ie scope X.N nl caps) nl caps=true)(hi:Ab X F o m)(Ai:RV X scope (Ie scope X.N nl caps) CB g)(B9:BT X scope (Ie scope X.N nl caps) ifs mt)(he:YI X scope (Ie scope X.N nl caps) elt W0)(AJ:X.calm=true:=by rfl)(A_:F.K=X.K:=by rfl)(AP:∀x,Nw (.Call (.Attribute o "values" apos) [] [] D5) X.env x=pure x:=by intro _;rfl)(h1:Ky o "values" X.env (Bc o X.env)=Bc o X.env:=by rfl)(h2:(apos.endLine==D5.line)=true:=by rfl) :
  Ab X F (.ListComp elt [⟨CB,.Call (.Attribute o "values" apos) [] [] D5,ifs,0⟩] scope pos) (T7 OM nl caps m g mt W0):=by
 obtain⟨Bm,Cc,FF⟩:=dD nl caps A_ Ai B9 he;exact⟨Ah.imp (acP (n7 (Ls.of S) AJ (ae5 hi.p h1 h2) Bm Cc FF AP)) (zD afx)⟩
theorem MF.imp{α β:Type}{rel:Ap->↑A7->AD->α->β->Prop}{m:M α}{σ :St}{H:AD}{Q Hf:β->AD->Prop}(h:MF rel F m σ H Q)(f:∀b H,Q b H->Hf b H):MF rel F m σ H Hf:=by obtain⟨φ,ρ,h,r,q⟩:=h;exact⟨φ,ρ,h,r,q.imp f⟩
def VC(F:DF)(E:Ev):DF:=⟨F.K,F.DS,F.C0,QY F.K E⟩
structure iP(X:Ar)(F:DF)(e:Aq)(m:BB):Prop where
 p:∀E,cB X e (CA (VC F E) m) E
def aiO {Dc x:Str} {k j:Nat} {mf:Bk} {pl:Sem Bool} (c:H8 X.prog X.w X.K X.mg X.base Dc x k j mf) (BH:Cv j X.A) (ho:∀E,Ab X.Fq (VC F E) o m) (AG:∀E,Hg X.Fq (VC F E) (e::es) ma) (A_:F.K=X.K:=by rfl) (s:MV X e es pos:=by exact{}) (B9:Bc (.Call (.Attribute o x apos) (e::es) [] pos) X.env=(do
   let CL <-Bc o X.env
   MP apos.atName
   let(f,first) <-JI [CL] (O3 CL x pl)
   PP pos f first (Fa pos (CM (e::es) X.env)) (L0 pos (Kx [] X.env))):=by rfl):iP X F (.Call (.Attribute o x apos) (e::es) [] pos) (CO Dc x k mf m ma):=by
 obtain⟨C,f,fd,ps,AZ,AJ,Cc,FF,P5,A4⟩:=c.ex;refine⟨λE A3 s0 σ H Q Z h=>acT (pl:=pl) (ho E).p Cc FF P5 BH A4 (AG E).p s.he s.GN B9 A3 s0 σ H Q Z ?_⟩;exact eH (F:=VC F E) (X:=X) A_ AJ (λc H z=>A_▸z) σ H Q h
structure cH(K:Ap)(mg:Str->Option A8)(x:Str)(cs:↑Str):Prop where
 ex:∃W,mg x=↥(.ref W)/\∀c∈cs,∃C,Ia K c C/\Ue K (.ref C) (.ref W)=↥true
def Oe(m:BB)(j:Nat)(cs:↑Str)(ms:Af):Af:=λρ h=>match m ρ h with
 |.ok (w,h')=>A6 j w ρ h'
 |.exc c h'=>if cs.contains c=true then ms ρ h' else .bad
 |.bad=>.bad
def ahp(j:Nat){x y:Str}{cs:↑Str}{SR:BE}{To:↑BE}{ms:Af}{UG np AT py:Pos}(hN:X.N.Nodup)(t:cH X.K X.mg x cs)(he:iP X F e m)(AP:∀a,Ks (X.marked a) F (SR::To) ms)(A_:F.K=X.K:=by rfl)(Ac:X.N[j]?=↥y:=by rfl)(YP:X.env.scope.names.lookup y=↥.local:=by rfl)(Fj:X.stack=X.env::X.outer:=by rfl)(NF:X.env.frame=↥X.env.locals:=by rfl)(Ai:Eh X x:=by rfl)(hd:(x==("__debug__" :Str))=false:=by decide)(RS:O2 e ↥(.Name y py) UG.line X.env=pure false:=by rfl) :
  G1 X F (.Try [.Assign [.Name y py] e UG] [.ExceptHandler ↥(.Name x np) none (SR::To) AT] [] [] pos) (Oe m j cs ms):=by
 refine⟨λA3 s σ H De Z⟨φ,ρ,h,r,q⟩=>?_⟩;obtain⟨W,x9,YQ⟩:=t.ex
 let E:Ev:=λC _ A9=>∃(c:Str)(Lr:A7)(BM:↑A7)(h':A5),C=.ref Lr/\Ia X.K c Lr/\m ρ h=.exc c h'/\Aj φ H BM A9/\DM X.K BM h' A9
 have ES:∀{c:Str}{h':A5},m ρ h=.exc c h'->cs.contains c=true/\ED F φ H De (ms ρ h'):=λ{c h'} z=>by
  unfold Oe at q;rw[z]at q;dsimp only at q
  split at q
  .rename_i AJ;exact⟨AJ,q⟩
  .exact q.elim
 refine adn (E:=E) (te:=CA (VC F E) m) (ts:=GF F ms) hN (he.p E) x9 (λC a A9⟨c,Lr,BM,h',AA,AE,Cd,_⟩=>?_) (λa=>(AP a).p) Ac YP Fj NF Ai hd RS A3 s σ H De Z ⟨⟨φ,ρ,h,⟨r.hd,r.x0,r.len,r.C3⟩,?_⟩,?_⟩
 .subst AA;obtain⟨hJ,k1,k2⟩:=YQ c (by simpa using(ES Cd).1);rw[AE.inj k1];exact k2
 .cases z:m ρ h with
  |bad=>unfold Oe at q;rw[z]at q;exact q
  |exc c h'=>intro BM A9 x d;obtain⟨hJ,k1,k2⟩:=YQ c (by simpa using(ES z).1);exact⟨hJ,A_▸k1,λa _=>⟨c,hJ,BM,h',rfl,k1,z,x,A_▸d⟩⟩
  |ok p=>
   obtain⟨w,h'⟩:=p;intro v BM A9 Bf Fw G_;unfold Oe at q;rw[z]at q;dsimp only[A6]at q
   split at q
   .rename_i hi;have Ki:Rel F BM h' A9 σ ρ:=⟨Bf.hd,Bf.x0,Bf.len,Bf.C3⟩;exact q _ BM A9 (Ki.set hi G_) Fw
   .exact q.elim
 .rintro C a A9 ⟨c,Lr,BM,h',AA,AE,Cd,x,d⟩ _;have k:=(ES Cd).2;exact⟨BM,ρ,h',r.to (A_▸d) x,ED.ex x k⟩
end
open PySem PySem.Spec BU PyProof.Rows
section
variable{X:Ar}{F:DF}{o e:Aq}{m n:BB}{apos pos:Pos}
def m7(K:Ap):V->↑V->AD->CY->Prop:=λx vs H Q=>∃d1 ds y j,vs=[y]/\G7 K H d1 y/\G7 K H (.Ci false ds) x/\GB 7 d1=true/\ds.all (GB 7)=true/\ds.findIdx? (λz=>eqT z d1)=↥j/\j<1000000/\Q (.int (j:Nat)) H
def ac7(BQ:X.A.units+64<Dg):OB X "list.index" (m7 X.K):=by
 intro A3 s σ H x vs v us Q Z Au Bw h;obtain⟨d1,ds,y,j,rfl,a1,a2,EL,EE,Ac,AP,q⟩:=h;erw[G7]at a2;obtain⟨p,xs,rfl,Aa,al⟩:=a2;cases Au;obtain⟨u,rfl,FJ⟩:=vals1 Bw;obtain⟨its,r,⟨⟨cls,dict,data,slots⟩,nn,g1,g2,g3,g4⟩,_⟩:=Z.list Aa;simp only at g2 g3 g4;subst g2 g3 g4;obtain⟨hm,em⟩:=YC Z (A:=X.A.in1) (d1:=d1) (by show X.A.units+1+8<Dg;lia) EL a1 FJ al r EE;obtain⟨DI,AA,AE⟩:=List.findIdx?_eq_some_iff_getElem.mp Ac;have Su:⇑its=⇑ds:=by rw[<- ⇑r,<- ⇑al]
 have iV:∀(i:Nat)(h:i< ⇑ds),M2 X.K H d1 (its[i]' δ)=eqT ds[i] d1:=λi h=>by have:=congrArg (λl:↑Bool=>l[i]?) em;simpa[h,show i< ⇑its by lia]using this
 have DO:s.TypeIs (.ref p) "list":=⟨_,g1,rfl⟩;have y4:(j:Int)<2^63-1:=by
  have:(j:Int)<1000000:=δ
  lia
 refine PO sK DO PySem.F.entry_list_index (PySem.F.args_list_index_2 _ _) (SeqAt.list_indexAt p its.toArray nn _ slots u (M2 X.K H d1) j (by simpa[Su]using DI) y4 ?_ ?_) ⟨g1,λw hw=>hm w (hw:),?_⟩
 .have:=iV j DI;rw[AA]at this;simpa using this
 .intro k AN yK;have z:=iV k δ;have Cd:=AE k yK;rw[Bool.not_eq_true]at Cd;rw[Cd]at z;simpa using z
 .exact⟨.int (j:Nat),H,Z.tok _,⟨_,rfl⟩,q⟩
def a5(x y:W)(h:A5):R (W×A5):=match CI 7 h y,CI 8 h x with
 |some d1,↥(.Ci false ds)=>match ds.findIdx? (λz=>eqT z d1)with
  |some j=>if j<1000000 then .ok (.int (j:Nat),h)else .bad
  |none=>.bad
 |_,_=>.bad
def Od(m:BB)(ma:E6):BB:=bd m λx=>Pv x (bd ma λus _ h=>match us with
 |[y]=>a5 x y h
 |_=>.bad)
def zO{ma:E6}(A_:F.K=X.K):FP (CA F (Od m ma)) (fu X.K "list" (m7 X.K) (CA F m) (GY F ma)):=λσ H Q q=>
 q.bd λw v φ ρ h H1 K9 a q=>by
   unfold Pv at q
   split at q
   .rename_i nw e;obtain⟨k,ws⟩:=nw;obtain⟨p,xs,rfl,Az,BA,AT,Bb⟩:=Oa K9.hd a e;refine⟨.inl ⟨rfl,xs,.inl (.inl AT)⟩,φ,ρ,h,K9,q.bd λus vs CQ h2 AU BL CT as q=>?_⟩
    split at q
    .rename_i y;erw[Al]at as;obtain⟨v1,gJ,rfl,E7,rfl⟩:=as;unfold a5 at q
     split at q
     .rename_i d1 ds AA AE
      split at q
      .rename_i j Ed
       split at q
       .rename_i Ac;obtain⟨b1,Bm⟩:=Tg BL.hd 7 AA E7;obtain⟨F6,Cc⟩:=Tg BL.hd 8 AE (a.ex CT);rw[A_]at b1 F6;exact⟨d1,ds,v1,j,rfl,b1,F6,Bm,Cc,Ed,Ac,q _ CQ AU BL (Aj.refl _ _) (by erw[AW])⟩
       .exact q.elim
      .exact q.elim
     .exact q.elim
    .exact q.elim
   .exact q.elim
def agi(BQ:X.A.units+64<Dg)(ho:Ab X F o m)(AG:Ab X F e n)(A_:F.K=X.K:=by rfl)(k:QA X o "index" apos pos e:=by exact{}):Ab X F (.Call (.Attribute o "index" apos) [e] [] pos) (Od m (J n A2)):=
 ⟨Ah.imp (fP UK sK PySem.F.type_list_index (ac7 BQ) ho.p (S2 AG.p UF k.s) k.b k.f k.l k.s k.h) λσ H Q z=>zO A_ σ H Q z|>λ⟨φ,ρ,h,r,z⟩=>⟨φ,ρ,h,r,z.imp λv H1⟨ty,t⟩=>⟨ty,a0 σ H1 _ t|>λ⟨φ,ρ,h,r,z⟩=>⟨φ,ρ,h,r,z.imp λv AU t=>VV σ AU _ t⟩⟩⟩⟩
end
section
variable{α β:Type}
def Ends{α:Type}(r:R (α×A5))(T:α->A5->Prop):Prop:=∃a h,r=.ok (a,h)/\T a h
@[simp] theorem A0(a:α)(k:α->R β):(R.ok a).bind k=k a:=rfl
@[simp] theorem aje(k:α->R β):(R.bad:R α).bind k=.bad:=rfl
@[simp] theorem ajf(c:Str)(h:A5)(k:α->R β):(R.exc c h:R α).bind k=.exc c h:=rfl
@[simp] theorem Vr(a:α)(h:A5)(T:α->A5->Prop):Ends (.ok (a,h)) T↔T a h:=⟨λ⟨b,g,e,t⟩=>by cases e;exact t,λt=>⟨a,h,rfl,t⟩⟩
@[simp] theorem aiw(T:α->A5->Prop):Ends (.bad:R (α×A5)) T↔False:=⟨λ⟨b,g,e,t⟩=>(nomatch e),HX⟩
@[simp] theorem aix(c:Str)(h:A5)(T:α->A5->Prop):Ends (.exc c h:R (α×A5)) T↔False:=⟨λ⟨b,g,e,t⟩=>(nomatch e),HX⟩
theorem Ends.bind{r:R (α×A5)}{k:α×A5->R (β×A5)}{S:α->A5->Prop}{T:β->A5->Prop}(h:Ends r S)(g:∀a h,S a h->Ends (k (a,h)) T):Ends (r.bind k) T:=by obtain⟨a,h',e,s⟩:=h;rw[e];exact g a h' s
def Ends.mono{r:R (α×A5)}{S T:α->A5->Prop}(h:Ends r S)(g:∀a h,S a h->T a h):Ends r T:=by obtain⟨a,h',e,s⟩:=h;exact⟨a,h',e,g a h' s⟩
def Ends.done{r:R (α×A5)}{a:α}{h:A5}(e:Ends r λb g=>b=a/\g=h):r=.ok (a,h):=by obtain⟨b,g,e,rfl,rfl⟩:=e;exact e
@[simp] theorem Hq(m:M α)(k:α->M β)(ρ:B5)(h:A5):bd m k ρ h=(m ρ h).bind λp=>k p.1 ρ p.2:=rfl
@[simp] theorem Be(a:α)(ρ:B5)(h:A5):pu a ρ h=.ok (a,h):=rfl
end
section
variable(ρ:B5)(h g:A5)(m n:BB)(a:E6)(s t:Af)(c d:DT)
noncomputable def ON:Option (Option W)->A5->R (W×A5)
 |some ↥w,h=>.ok (w,h)
 |_,_=>.bad
@[simp] theorem Cj(w:W):ON ↥↥w h=.ok (w,h):=rfl
@[simp] theorem v_var(i:Nat):I i ρ h=ON ρ[i]? h:=by
  unfold I ON;cases ρ[i]? with
  |none=>rfl
  |some o=>cases o<;>rfl
@[simp] theorem BG(f:J0):A1 f m n ρ h=(m ρ h).bind λp=>(n ρ p.2).bind λq=>f p.1 q.1 q.2:=rfl
@[simp] theorem Gv(f:W->A5->R (W×A5)):B3 f m ρ h=(m ρ h).bind λp=>f p.1 p.2:=rfl
@[simp] theorem Bx:A2 ρ h=.ok ([],h):=rfl
@[simp] theorem BD:J m a ρ h=(m ρ h).bind λp=>(a ρ p.2).bind λq=>.ok (p.1::q.1,q.2):=rfl
@[simp] theorem Je:As a ρ h=(a ρ h).bind λp=>if ⇑p.1<=B1 then .ok (.tup p.1,p.2)else .bad:=by unfold As bd;congr;funext p;dsimp only;split<;>rfl
@[simp] theorem LL:Bd a ρ h=(a ρ h).bind λp=>nw .lst p.1 p.2:=rfl
@[simp] theorem G5(f:Lv):B6 f a ρ h=(a ρ h).bind λp=>f p.1 p.2:=rfl
@[simp] theorem GZ(k:Nat)(f:Bk):Ae k f a ρ h=(a ρ h).bind λp=>if ⇑p.1=k then f p.1 p.2 else .bad:=by unfold Ae bd;congr
noncomputable def V_:W->A5->R (Bool×A5)
 |.AO b,h=>.ok (b,h)
 |_,_=>.bad
@[simp] theorem F7(b:Bool):V_ (.AO b) h=.ok (b,h):=rfl
@[simp] theorem Eg:AV m ρ h=(m ρ h).bind λp=>V_ p.1 p.2:=by unfold AV bd;congr;funext p;cases p.1<;>rfl
@[simp] theorem v_and:F9 c d ρ h=(c ρ h).bind λp=>if p.1=true then d ρ p.2 else .ok (false,p.2):=by unfold F9 bd;congr;funext p;dsimp only;split<;>rfl
@[simp] theorem v_or:FU c d ρ h=(c ρ h).bind λp=>if p.1=true then .ok (true,p.2)else d ρ p.2:=by unfold FU bd;congr;funext p;dsimp only;split<;>rfl
@[simp] theorem v_not:Du c ρ h=(c ρ h).bind λp=>.ok (!p.1,p.2):=rfl
@[simp] theorem qT:Kc m n ρ h=(m ρ h).bind λp=>(V_ p.1 p.2).bind λq=>if q.1=true then n ρ q.2 else .ok (.AO false,q.2):=by unfold Kc bd;congr;funext p;cases p.1<;>first|rfl|(rename_i b;cases b<;>rfl)
@[simp] theorem ajc:WX m n ρ h=(m ρ h).bind λp=>(V_ p.1 p.2).bind λq=>if q.1=true then .ok (.AO true,q.2)else n ρ q.2:=by unfold WX bd;congr;funext p;cases p.1<;>first|rfl|(rename_i b;cases b<;>rfl)
@[simp] theorem ajb:PU m ρ h=(m ρ h).bind λp=>(V_ p.1 p.2).bind λq=>.ok (.AO (!q.1),q.2):=by unfold PU bd;congr;funext p;cases p.1<;>rfl
@[simp] theorem afr:NM c m n ρ h=(c ρ h).bind λp=>if p.1=true then m ρ p.2 else n ρ p.2:=by unfold NM bd;congr;funext p;dsimp only;split<;>rfl
noncomputable def NZ(t:Af):FK×A5->R (FK×A5)
 |(.AM ρ,h)=>t ρ h
 |p=>.ok p
@[simp] theorem Ax:NZ t (.AM ρ,h)=t ρ h:=rfl
@[simp] theorem Tk(w:W):NZ t (.Dq w,h)=.ok (.Dq w,h):=rfl
@[simp] theorem Am:AK s t ρ h=(s ρ h).bind (NZ t):=by unfold AK;congr
@[simp] theorem FD:B_ ρ h=.ok (.AM ρ,h):=rfl
@[simp] theorem JD:EV m ρ h=(m ρ h).bind λp=>.ok (.AM ρ,p.2):=rfl
@[simp] theorem FZ:At m ρ h=(m ρ h).bind λp=>.ok (.Dq p.1,p.2):=rfl
@[simp] theorem Cz:BZ c s t ρ h=(c ρ h).bind λp=>if p.1=true then s ρ p.2 else t ρ p.2:=by unfold BZ bd;congr;funext p;dsimp only;split<;>rfl
@[simp] theorem QV(i:Nat)(w:W):A6 i w ρ h=if i< ⇑ρ then .ok (.AM (ρ.set i ↥w),h)else .bad:=rfl
@[simp] theorem Cy(f:DN):AR m f ρ h=(m ρ h).bind λp=>f p.1 ρ p.2:=rfl
@[simp] theorem qU(f:DN):Lp m f ρ h=(m ρ h).bind λp=>ZK (f p.1 ρ p.2):=rfl
@[simp] theorem ak3:ZK (.ok (.AM ρ,h))=.ok (.AM ρ,h):=rfl
@[simp] theorem aja(N:Nat)(ws:↑W):FA N s ws h=(s (NI N ws) h).bind outF:=rfl
@[simp] theorem WP(N:Nat)(ws:↑W):Cw N s ws h=(s (NI N ws) h).bind λp=>(outF p).bind λq=>settle h q.1 q.2:=by unfold Cw FA;cases s (NI N ws) h<;>rfl
@[simp] theorem mv:outF (.AM ρ,h)=.ok (.non,h):=rfl
@[simp] theorem GT(w:W):outF (.Dq w,h)=.ok (w,h):=rfl
@[simp] theorem Fv:Bv m ρ h=(m ρ h).bind λp=>settle h p.1 p.2:=rfl
@[simp] theorem gH:HS c ρ h=(c ρ h).bind λp=>.ok (p.1,if G3 h p.2=true then h else p.2):=rfl
@[simp] theorem afs(f:N8):DQ f m a ρ h=(m ρ h).bind λp=>Pv p.1 (bd a λus=>Zd f p.1 us) ρ p.2:=rfl
@[simp] theorem ajd(x:Str):NN x ρ h=.exc x h:=rfl
@[simp] theorem ak2(p:FK×A5):FW (.ok p)=.ok p:=rfl
@[simp] theorem I3(mi:GK)(f:DN):DZ mi f s ρ h=FW (Q2 mi f s ρ h):=rfl
@[simp] theorem afv:T9 c s ρ h=FW (T8 c s ρ h):=rfl
@[simp] theorem VW(N:Nat)(ws:↑W):NI N ws=ws.map some++GG (N- ⇑ws) none:=rfl
end
section
variable(h g:A5)
@[simp] theorem ND(k:Nat):(h++g)[⇑h+k]?=g[k]?:=by rw[Jp δ];congr 1;lia
@[simp] theorem DP:(h++g)[⇑h]?=g[0]?:=ND h g 0
@[simp] theorem xA(k:Nat)(o:O):(h++g).set (⇑h+k) o=h++g.set k o:=by rw[sg _ _ δ];congr 2;lia
@[simp] theorem Po(o:O):(h++g).set ⇑h o=h++g.set 0 o:=xA h g 0 o
def Bl{n:Nat}{o:O}(e:h[n]?=↥o)(g:A5):(h++g)[n]?=↥o:=by rw[GW (List.getElem?_eq_some_iff.mp e).1];exact e
@[simp] theorem ak9(h g:A5):G3 h (h++g)=true:=UI h g
@[simp] theorem ajO(h:A5):G3 h h=true:=mO h
@[simp] theorem OI(w:W)(e:DR w=true):settle h w h=.ok (w,h):=by unfold settle;simp[e]
@[simp] theorem Rb(w:W)(e:DR w=true):settle h w (h++g)=.ok (w,h):=by unfold settle;simp[e]
theorem mM:∀(h a b:A5),G3 (h++a) (h++b)=G3 a b
 |[],_,_=>rfl
 |o::h,a,b=>by erw[Ht,G3,R9,mM h a b];simp
@[simp] theorem akA(h a b:A5):G3 (h++a) (h++b)=G3 a b:=mM h a b
@[simp] theorem air(a:↑W):Kt a a=true:=R9 a
@[simp] theorem ajN(h:A5):G3 [] h=true:=by simp[G3]
@[simp] theorem akB(o o':O)(h g:A5):G3 (o::h) (o'::g)=(decide (o.k=o'.k)&&Kt o.ws o'.ws&&G3 h g):=by simp[G3]
@[simp] theorem aM(w:W)(e:DR w=true)(p:G3 h g=true):settle h w g=.ok (w,h):=by unfold settle;simp[e,p]
def J8{n:Nat}{ws:↑W}(p:G3 h g=true)(l:⇑h<=n)(e:g[n]?=↥⟨.lst,ws⟩)(Kf:Fe ws=true):settle h ST g=.ok (.ref ⇑h,h++[⟨.lst,ws⟩]):=by unfold settle;simp[p,l,e,Kf,DR]
def af2(k:Nat){ws:↑W}(e:g[k]?=↥⟨.lst,ws⟩)(n:Fe ws=true):settle h (.ref (⇑h+k)) (h++g)=.ok (.ref ⇑h,h++[⟨.lst,ws⟩]):=by unfold settle;simp[e,n,DR]
def MC{ws:↑W}(e:g[0]?=↥⟨.lst,ws⟩)(n:Fe ws=true):settle h (.ref ⇑h) (h++g)=.ok (.ref ⇑h,h++[⟨.lst,ws⟩]):=af2 h g 0 e n
@[simp] theorem WL(ws:↑W):E2 h (.tup ws)=↥(true,ws):=by simp[E2]
@[simp] theorem ajS(ws:↑W):E2 h (.I8 ws)=↥(true,ws):=by simp[E2]
def Gs{n:Nat}{ws:↑W}(e:h[n]?=↥⟨.lst,ws⟩):E2 h ST=↥(false,ws):=by simp[E2,e]
@[simp] theorem aL(ws:↑W):E2 h (.Df ws)=↥(false,ws):=by simp[E2]
def NK{n:Nat}{ws:↑W}(e:h[n]?=↥⟨.lst,ws⟩):LB h ST=↥(n,ws):=by simp[LB,e]
@[simp] theorem ajp(i:Int):DR (.int i)=true:=by simp[DR]
@[simp] theorem ajv(i:Str):DR (.str i)=true:=by simp[DR]
@[simp] theorem ajo(i:Bool):DR (.AO i)=true:=by simp[DR]
@[simp] theorem ajs:DR .non=true:=by simp[DR]
@[simp] theorem ajx(ws:↑W):DR (.tup ws)=Fe ws:=by simp[DR]
@[simp] theorem ajr(ws:↑W):DR (.I8 ws)=Fe ws:=by simp[DR]
@[simp] theorem ajq(ws:↑W):DR (.Df ws)=Fe ws:=by simp[DR]
@[simp] theorem ak0:Fe []=true:=by simp[Fe]
@[simp] theorem ajy(w:W)(ws:↑W):Fe (w::ws)=(DR w&&Fe ws):=by simp[Fe]
theorem K7:∀{ws:↑W},Fe ws=true↔∀w∈ws,DR w=true
 |[]=>γ
 |w::ws=>by simp[K7 (ws:=ws)]
def Hj{ws:↑W}(e:⇑ws<=B1):nw .lst ws h=.ok (.ref ⇑h,h++[⟨.lst,ws⟩]):=if_pos e
end
section
variable(i j:Int)(h:A5)
@[simp] theorem NT:addW (.int i) (.int j) h=.ok (.int (i+j),h):=rfl
@[simp] theorem ak6:MD (.int i) (.int j) h=.ok (.int (i-j),h):=rfl
@[simp] theorem abv:IA (.int i) (.int j) h=if L8 i j then .ok (.int (i*j),h)else .bad:=rfl
@[simp] theorem Kg:BR (.int i) (.int j) h=if 0<j then .ok (.int (i%j),h)else .bad:=by show(match(if 0<j then↥(W.int (i%j))else none)with|some w=>R.ok (w,h)|none=>R.bad)=_;by_cases AJ:0<j<;>simp[AJ]
@[simp] theorem Mp:Cg (.int i) (.int j) h=if 0<j/\j<1073741824 then .ok (.int (i/j),h)else .bad:=by show(match(if S_ i j then↥(W.int (i/j))else none)with|some w=>R.ok (w,h)|none=>R.bad)=_;unfold S_;by_cases AJ:0<j/\j<1073741824<;>simp[AJ]
@[simp] theorem ak5:Oo (.int i) (.int j) h=if O6 i j then .ok (.int (i^j.toNat),h)else .bad:=by show(match(if O6 i j then↥(W.int (i^j.toNat))else none)with|some w=>R.ok (w,h)|none=>R.bad)=_;by_cases AJ:O6 i j<;>simp[AJ]
@[simp] theorem abu:NL (.int i) (.int j) h=.ok (.AO (decide (i<j)),h):=rfl
@[simp] theorem lS:Ln (.int i) (.int j) h=.ok (.AO (decide (i<=j)),h):=rfl
@[simp] theorem abt:KW (.int i) (.int j) h=.ok (.AO (decide (j<i)),h):=rfl
@[simp] theorem abr:VD (.int i) (.int j) h=.ok (.AO (decide (j<=i)),h):=rfl
@[simp] theorem e3:Ay true (.int i) (.int j) h=.ok (.AO (decide (i=j)),h):=by erw[Ay,CI,eqT];by_cases e:i=j<;>simp[e]
@[simp] theorem ak4:Ay false (.int i) (.int j) h=.ok (.AO (!decide (i=j)),h):=by erw[Ay,CI,eqT];by_cases e:i=j<;>simp[e]
def T2{t:Bool}{x:W}{ws:↑W}{k:Nat}{w:W}(e:E2 h x=↥(t,ws))(AF:ws[k]?=↥w):AB x (.int (k:Int)) h=.ok (w,h):=by
 have AN:k< ⇑ws:=(List.getElem?_eq_some_iff.mp AF).1;have ex:Pw x (.int (k:Int)) h=.ok (w,h):=by
  have:Jm ws (k:Int)=↥w:=by unfold Jm Lm;rw[if_pos δ,if_pos δ];simpa using AF
  unfold Pw;cases x<;>first|(simp[e,this];done)|(simp[E2]at e)
 unfold AB;have hd:Gd h x (.int (k:Int))=none:=by
  unfold Gd;cases x<;>first|rfl|skip
  rename_i n;unfold E2 at e;dsimp only at e |-
  split at e<;>rename_i Az<;>first|(rw[Az];done)|(cases e;done)
 rw[hd];exact ex
end
def Lq(Z:B5->A5->Prop)(T:FK->A5->Prop):FK->A5->Prop
 |.AM ρ,h=>Z ρ h
 |.D6 ρ,h=>Z ρ h
 |.BN ρ,h=>T (.AM ρ) h
 |.Dq w,h=>T (.Dq w) h
@[simp] theorem YK(Z:B5->A5->Prop)(T:FK->A5->Prop)(ρ:B5)(h:A5):Lq Z T (.AM ρ) h↔Z ρ h:=Iff.rfl
@[simp] theorem ajF(Z:B5->A5->Prop)(T:FK->A5->Prop)(ρ:B5)(h:A5):Lq Z T (.D6 ρ) h↔Z ρ h:=Iff.rfl
@[simp] theorem ajE(Z:B5->A5->Prop)(T:FK->A5->Prop)(ρ:B5)(h:A5):Lq Z T (.BN ρ) h↔T (.AM ρ) h:=Iff.rfl
@[simp] theorem t4(Z:B5->A5->Prop)(T:FK->A5->Prop)(w:W)(h:A5):Lq Z T (.Dq w) h↔T (.Dq w) h:=Iff.rfl
theorem Ends.FW{r:R (FK×A5)}{T:FK->A5->Prop}(h:Ends r T):Ends (BX.FW r) T:=by obtain⟨a,g,e,t⟩:=h;rw[e];exact⟨a,g,rfl,t⟩
theorem Yi{it:H7}{g:DN}{b:Af}(n:Nat)(Z:Nat->B5->A5->Prop)(T:FK->A5->Prop)(Dh:∀j ρ h,Z j ρ h->(it j h=↥none/\T (.AM ρ) h)\/(∃w,it j h=↥↥w/\j<n/\∃CU h1,g w ρ h=.ok (.AM CU,h1)/\Ends (b CU h1) (Lq (Z (j+1)) T))) :
  ∀f j ρ h,Z j ρ h->n-j<f->Ends (M_ it g b f j ρ h) T
 |0,j,ρ,h,i,l=>δ
 |f+1,j,ρ,h,i,l=>by
  unfold M_;rcases Dh j ρ h i with⟨e,t⟩|⟨w,e,Ac,CU,h1,eg,CK,h2,BC,t⟩
  .rw[e];exact⟨_,_,rfl,t⟩
  .rw[e];erw[eg,A0,BC];cases CK with
   |AM Dl=>exact Yi n Z T Dh f (j+1) Dl h2 t δ
   |D6 Dl=>exact Yi n Z T Dh f (j+1) Dl h2 t δ
   |BN Dl=>exact⟨_,_,rfl,t⟩
   |Dq w=>exact⟨_,_,rfl,t⟩
def cU{mi:GK}{it:H7}{g:DN}{b:Af}{ρ:B5}{h h0:A5}(n:Nat)(AZ:n<1000)(Z:Nat->B5->A5->Prop){T:FK->A5->Prop}(hi:mi ρ h=.ok (it,h0))(ET:Z 0 ρ h0)(Dh:∀j ρ h,Z j ρ h->(it j h=↥none/\T (.AM ρ) h)\/(∃w,it j h=↥↥w/\j<n/\∃CU h1,g w ρ h=.ok (.AM CU,h1)/\Ends (b CU h1) (Lq (Z (j+1)) T))):Ends (Q2 mi g b ρ h) T:=by unfold Q2;erw[Hq,hi,A0];exact Yi n Z T Dh 1000 0 ρ h0 ET δ
def MZ{mi:GK}{g:DN}{b:Af}{ρ:B5}{h h0:A5}(lo:Int)(n:Nat)(AZ:n<1000)(Z:Nat->B5->A5->Prop){T:FK->A5->Prop}(hi:mi ρ h=.ok (KA lo n,h0))(ET:Z 0 ρ h0)(Dh:∀j ρ h,j<n->Z j ρ h->∃CU h1,g (.int (lo+j)) ρ h=.ok (.AM CU,h1)/\Ends (b CU h1) (Lq (Z (j+1)) T))(fin:∀ρ h,Z n ρ h->T (.AM ρ) h):Ends (Q2 mi g b ρ h) T:=by
 refine cU n AZ (λj ρ h=>j<=n/\Z j ρ h) hi ⟨IB _,ET⟩ λj ρ h⟨l,i⟩=>?_;by_cases Ac:j<n
 .obtain⟨CU,h1,e,t⟩:=Dh j ρ h Ac i;exact .inr ⟨_,by simp[KA,Ac],Ac,CU,h1,e,t.mono λf h' q=>by cases f<;>first|exact⟨Ac,q⟩|exact q⟩
 .have:j=n:=δ
  subst this;exact .inl ⟨by simp[KA],fin ρ h i⟩
def P1{mi:GK}{it:H7}{g:DN}{b:Af}{ρ:B5}{h h0:A5}(ws:↑W)(AZ:⇑ws<1000)(Z:Nat->B5->A5->Prop){T:FK->A5->Prop}(hi:mi ρ h=.ok (it,h0))(hit:∀j ρ h,j<=⇑ws->Z j ρ h->it j h=↥ws[j]?)(ET:Z 0 ρ h0)(Dh:∀j w ρ h,ws[j]?=↥w->Z j ρ h->∃CU h1,g w ρ h=.ok (.AM CU,h1)/\Ends (b CU h1) (Lq (Z (j+1)) T))(fin:∀ρ h,Z ⇑ws ρ h->T (.AM ρ) h):Ends (Q2 mi g b ρ h) T:=by
 refine cU ⇑ws AZ (λj ρ h=>j<=⇑ws/\Z j ρ h) hi ⟨IB _,ET⟩ λj ρ h⟨l,i⟩=>?_;have E8:=hit j ρ h l i;by_cases Ac:j< ⇑ws
 .obtain⟨CU,h1,e,t⟩:=Dh j ws[j] ρ h (C7 Ac) i;exact .inr ⟨_,by rw[E8,C7 Ac],Ac,CU,h1,e,t.mono λf h' q=>by cases f<;>first|exact⟨Ac,q⟩|exact q⟩
 .have:j=⇑ws:=δ
  subst this;exact .inl ⟨by rw[E8];simp,fin ρ h i⟩
theorem fb{c:DT}{b:Af}(Z:Nat->B5->A5->Prop)(T:FK->A5->Prop)(Dh:∀n ρ h,Z n ρ h->∃k h1,c ρ h=.ok (k,h1)/\(k=false->T (.AM ρ) h1)/\(k=true->Ends (b ρ h1) (Lq (λEO h'=>∃m,m<n/\Z m EO h') T))):∀f n ρ h,Z n ρ h->n<f->Ends (QW c b f ρ h) T
 |0,n,ρ,h,i,l=>δ
 |f+1,n,ρ,h,i,l=>by
  unfold QW;obtain⟨k,h1,e,t1,C_⟩:=Dh n ρ h i;erw[Hq,e,A0];cases k with
  |false=>simpa using t1 rfl
  |true=>
   obtain⟨CK,h2,BC,t⟩:=C_ rfl;erw[if_true,BC,A0];cases CK with
   |AM Dl=>obtain⟨m,hm,t⟩:=t;exact fb Z T Dh f m Dl h2 t δ
   |D6 Dl=>obtain⟨m,hm,t⟩:=t;exact fb Z T Dh f m Dl h2 t δ
   |BN Dl=>exact⟨_,_,rfl,t⟩
   |Dq w=>exact⟨_,_,rfl,t⟩
def jk{c:DT}{b:Af}{ρ:B5}{h:A5}(Z:Nat->B5->A5->Prop){T:FK->A5->Prop}{n:Nat}(AZ:n<1000)(ET:Z n ρ h)(Dh:∀n ρ h,Z n ρ h->∃k h1,c ρ h=.ok (k,h1)/\(k=false->T (.AM ρ) h1)/\(k=true->Ends (b ρ h1) (Lq (λEO h'=>∃m,m<n/\Z m EO h') T))):Ends (T8 c b ρ h) T:=
 fb Z T Dh 1000 n ρ h ET AZ
theorem dC{it:H7}{g:DN}{t:DT}{e:BB}{h:A5}(ws:↑W)(p:W->Bool)(f:W->W)(BS:B5->Prop)(AH:⇑ws<1000)(hit:∀j acc,j<=⇑ws->it j (h++[⟨.lst,acc⟩])=↥ws[j]?)(Dh:∀w∈ws,∀ρ acc,BS ρ->∃CU,g w ρ (h++[⟨.lst,acc⟩])=.ok (.AM CU,h++[⟨.lst,acc⟩])/\BS CU/\t CU (h++[⟨.lst,acc⟩])=.ok (p w,h++[⟨.lst,acc⟩])/\(p w=true->e CU (h++[⟨.lst,acc⟩])=.ok (f w,h++[⟨.lst,acc⟩]))) :
  ∀k j ρ acc,j<=⇑ws->⇑ws-j<k->⇑acc<=j->BS ρ->KP it g t e ⇑h k j ρ (h++[⟨.lst,acc⟩])=.ok (h++[⟨.lst,acc++((ws.drop j).filter p).map f⟩])
 |0,j,ρ,acc,Ac,l,Hi,i=>δ
 |k+1,j,ρ,acc,Ac,l,Hi,i=>by
  unfold KP;rw[hit _ _ Ac];by_cases DI:j< ⇑ws
  .have BV:=gP DI;rw[C7 DI];obtain⟨CU,AA,CZ,AE,Cd⟩:=Dh ws[j] (Hu DI) ρ acc i;erw[AA,A0,AE];cases AT:p ws[j]with
   |false=>rw[if_neg γ,dC ws p f BS AH hit Dh k (j+1) CU acc DI δ δ CZ,BV];erw[PG,AT,Kw,if_false]
   |true=>rw[if_pos rfl,Cd AT];erw[A0,DP,Dm,Po,Mz];rw[if_pos (show⇑acc<B1 by unfold B1;lia),dC ws p f BS AH hit Dh k (j+1) CU (acc++[f ws[j]]) DI δ (by simp;lia) CZ,BV];erw[PG,AT,if_true,Do,Dd,Ht,Nu]
  .have:j=⇑ws:=δ
   subst this;simp
def Ox{mi:GK}{it:H7}{g:DN}{t:DT}{e:BB}{ρ:B5}{h h0:A5}{nl:Nat}{caps:↑Nat}(ws:↑W)(p:W->Bool)(f:W->W)(BS:B5->Prop)(AH:⇑ws<1000)(hi:mi ρ h0=.ok (it,h))(ET:BS (Pe nl caps ρ))(hit:∀j acc,j<=⇑ws->it j (h++[⟨.lst,acc⟩])=↥ws[j]?)(Dh:∀w∈ws,∀ρ acc,BS ρ->∃CU,g w ρ (h++[⟨.lst,acc⟩])=.ok (.AM CU,h++[⟨.lst,acc⟩])/\BS CU/\t CU (h++[⟨.lst,acc⟩])=.ok (p w,h++[⟨.lst,acc⟩])/\(p w=true->e CU (h++[⟨.lst,acc⟩])=.ok (f w,h++[⟨.lst,acc⟩]))) :
  D8 nl caps mi g t e ρ h0=.ok (.ref ⇑h,h++[⟨.lst,(ws.filter p).map f⟩]):=by
 unfold D8;erw[Hq,hi,A0];rw[dC ws p f BS AH hit Dh Js 0 _ [] (IB _) (by unfold Js;lia) (C5 _) ET];simp
def Vh{mi:GK}{e:BB}{ρ:B5}{h h0:A5}{caps:↑Nat}(lo:Int)(n:Nat)(f:Nat->W)(AH:n<1000)(hi:mi ρ h0=.ok (KA lo n,h))(Dh:∀j,j<n->∀acc,e (↥(.int (lo+j))::caps.map λj=>ρ.getD j none) (h++[⟨.lst,acc⟩])=.ok (f j,h++[⟨.lst,acc⟩])) :
  D8 1 caps mi (A6 0) (pu true) e ρ h0=.ok (.ref ⇑h,h++[⟨.lst,(C8 n).map f⟩]):=by
 let E0:W->Nat:=λw=>match w with
  |.int i=>(i-lo).toNat
  |_=>0
 have AF:∀j:Nat,(lo+(j:Int)-lo).toNat=j:=λj=>δ
 have:=Ox (mi:=mi) (g:=A6 0) (t:=pu true) (e:=e) (ρ:=ρ) (nl:=1) (caps:=caps) ((C8 n).map λj:Nat=>W.int (lo+(j:Int))) (λ_=>true) (λw=>f (E0 w)) (λEO=>∃x,EO=x::caps.map λj=>ρ.getD j none) (AH:) hi ⟨none,rfl⟩ (λj acc _=>by
  erw[KA,Da,PN];by_cases Ac:j<n
  .simp[Ac]
  .simp[Ac]) λw hw EO acc⟨x,AF⟩=>by obtain⟨j,Ac,rfl⟩:=List.mem_map.mp hw;subst AF;refine⟨↥(.int (lo+j))::caps.map λj=>ρ.getD j none,γ,⟨_,rfl⟩,rfl,λ_=>?_⟩;rw[Dh j (List.mem_range.mp Ac) acc];simp[E0,AF]
 rw[this];simp[E0,AF,List.filter_eq_self.mpr,Ny]
@[simp] theorem afu(ma:E6)(ρ:B5)(h:A5):Ct ma ρ h=(ma ρ h).bind λp=>match p.1 with
  |[.int j]=>if-(2^62)<=j/\j<2^62 then .ok (KA 0 j.toNat,p.2)else .bad
  |_=>.bad:=by
  unfold Ct bd;congr;funext p;obtain⟨ws,g⟩:=p;rcases ws with _|⟨w,_|⟨u,r⟩⟩
  .rfl
  .cases w<;>first|rfl|(dsimp only;split<;>rfl)
  .cases w<;>rfl
def o6{n:Nat}(AZ:n<1000): -(2^62)<=(n:Int)/\(n:Int)<2^62:=by
 have:(2:Int)^62=4611686018427387904:=ε
 rw[this];lia
def Ir{ma:E6}{ρ:B5}{h h0:A5}{n:Nat}(e:ma ρ h0=.ok ([.int (n:Int)],h))(AZ:n<1000):Ct ma ρ h0=.ok (KA 0 n,h):=by rw[afu,e,A0];exact if_pos (o6 AZ)
def af{P:↑A8->Prop}(h:P []):∀us:↑A8,⇑us=0->P us
 |[],_=>h
def ag{P:↑A8->Prop}{n:Nat}(h:∀a us,⇑us=n->P (a::us)):∀us:↑A8,⇑us=n+1->P us
 |a::us,e=>h a us (Nat.succ.inj e)
noncomputable def Vy:A8->Option W
 |.int i _=>↥(.int i)
 |.str x _=>↥(.str x)
 |_=>none
theorem qS{K:Ap}:∀{us:↑A8}{ws:↑W},us.mapM Vy=↥ws->∃xs,Vals xs us/\∀φ H,Al K φ H ws xs
 |[],ws,e=>by simp at e;subst e;exact⟨[],.nil,λ_ _=>.nil⟩
 |u::us,ws,e=>by
  rw[Ud]at e;cases HC:Vy u with
  |none=>rw[HC]at e;cases e
  |some w=>
   cases Ao:us.mapM Vy with
   |none=>rw[HC,Ao]at e;cases e
   |some r=>
    rw[HC,Ao]at e;cases e;obtain⟨xs,v,a⟩:=qS (K:=K) Ao;cases u<;>erw[Vy]at HC<;>first|(cases HC;done)|skip
    .cases HC;exact⟨.int _::xs,.cons ⟨_,rfl⟩ v,λφ H=>.cons (by erw[AW]) (a φ H)⟩
    .cases HC;exact⟨.str _::xs,.cons ⟨_,rfl⟩ v,λφ H=>.cons (by erw[AW]) (a φ H)⟩
section
variable{K:Ap}{h:BF}{mg:Str->Option A8}{x qual Dc:Str}{C f:A7}{st:BE}{ps B7:↑Str}{E1 an:Option A7}{C3:Array (Option A8)}{GS Ck Ih pm cd D6:A8}
abbrev YJ(x qual:Str)(st:BE)(ps:↑Str):Prop:=∀(Ck doc pm:A8)(an:Option A7)(FS D6:A8)(us:↑A8),⇑us=⇑ps->bindArgs (KM x qual (M4 st) (KR st) (Bn st) .none Ck doc pm an FS D6) ⟨us,[]⟩=pure (ps.zip us)
def xJ(X:K.In h)(G:h.Ns FM mg)(a:JH K FM x=↥↥(.ref f))(l:K.lookup f=↥⟨GS,E1,.func (KM x x (M4 st) (KR st) (Bn st) .none Ck Ih pm an cd D6),C3⟩)(c:My K cd x=true)(k:KI K (.ref f)=true)(b:YJ x x st ps:=by intro _ _ _ _ _ _;(repeat refine ag λ_=>?_);exact af rfl):D4 K mg x st ps:=⟨⟨f,_,RH (st:=st) l c k,Qk X G a,(RH (st:=st) l c k).binds b⟩⟩
def ac2(n:JH K FM Dc=↥↥(.ref C))(g1:SG K C Str.empty=true)(g2:UO K C=true)(g3:XS K C=true)(g4:Jn K (.ref C) "__setattr__"=↥↥(.builtin "object.__setattr__"))(a:Jn K (.ref C) x=↥↥(.ref f))(l:K.lookup f=↥⟨GS,E1,.func (KM x qual (M4 st) (KR st) (Bn st) .none Ck Ih pm an cd D6),C3⟩)(c:My K cd qual=true)(k:KI K (.ref f)=true)(i:UX K (.ref f)=true)(b:YJ x qual st ps:=by intro _ _ _ _ _ _;(repeat refine ag λ_=>?_);exact af rfl):Ic K Dc x qual st ps:=⟨⟨C,f,_,n,⟨g1,g2,g3,g4⟩,⟨a,i,k⟩,RH (st:=st) l c k,(RH (st:=st) l c k).binds b⟩⟩
def aaa(X:K.In h)(G:h.Ns FM mg)(n:JH K FM Dc=↥↥(.ref C))(mk:gm K C=true)(kc:KI K (.ref C)=true)(a:Jn K (.ref C) "__init__"=↥↥(.ref f))(l:K.lookup f=↥⟨GS,E1,.func (KM "__init__" qual (M4 st) (KR st) (Bn st) .none Ck Ih pm an cd D6),C3⟩)(c:My K cd qual=true)(k:KI K (.ref f)=true)(i:UX K (.ref f)=true)(b:YJ "__init__" qual st ps:=by intro _ _ _ _ _ _;(repeat refine ag λ_=>?_);exact af rfl):InK K mg Dc qual st ps:=⟨⟨C,f,_,n,⟨mk,a,i,kc⟩,RH (st:=st) l c k,Qk X G n,(RH (st:=st) l c k).binds b⟩⟩
def tW(n:JH K FM Dc=↥↥(.ref C))(g1:SG K C Str.empty=true)(g2:UO K C=true)(g3:XS K C=true)(g4:Jn K (.ref C) "__setattr__"=↥↥(.builtin "object.__setattr__"))(u:∀f∈B7,Jn K (.ref C) f=↥none):Q5 K Dc B7:=⟨⟨C,n,⟨g1,g2,g3,g4⟩,u⟩⟩
def vB(X:K.In h)(G:h.Ns FM mg)(n:JH K FM Dc=↥↥(.ref C))(e:UY K C [.type "ValueError",.type "Exception",.type "BaseException",.type "object"] "ValueError.__new__"=true):Sa K mg Dc:=⟨⟨C,n,Qk X G n,e⟩⟩
def agG{c:Str}{C D:A7}(a:JH K FM c=↥↥(.ref D))(e:Ue K (.ref D) (.ref C)=↥true):∃D,JH K FM c=↥↥(.ref D)/\Ue K (.ref D) (.ref C)=↥true:=⟨D,a,e⟩
def agH{cs:↑Str}(X:K.In h)(G:h.Ns FM mg)(n:JH K FM x=↥↥(.ref C))(u:∀c∈cs,∃D,JH K FM c=↥↥(.ref D)/\Ue K (.ref D) (.ref C)=↥true):cH K mg x cs:=⟨⟨C,Qk X G n,u⟩⟩
def tX{i:Int}{t:Tok}(X:K.In h)(G:h.Ns FM mg)(z:JH K FM x=↥↥(.int i t)):Lu K mg x (.int i):=⟨⟨.int i,_,Qk X G z,⟨t,rfl⟩,λ_ _=>by erw[AW]⟩⟩
def vF{its:Array A8}{m:Nat}{ws:↑W}(X:K.In h)(G:h.Ns FM mg)(z:JH K FM x=↥↥(.ref C))(y:K.lookup C=↥⟨.type "tuple",E1,.seq its m,C3⟩)(hz:its.size<=CW)(e:its.toList.mapM Vy=↥ws):Lu K mg x (.I8 ws):=by obtain⟨xs,v,a⟩:=qS (K:=K) e;refine⟨⟨.ref C,_,Qk X G z,rfl,λφ H=>?_⟩⟩;erw[AW];exact⟨C,xs,rfl,.inr ⟨_,its,m,y,rfl,rfl,hz,v⟩,a φ H⟩
end
def eS(ns:↑Int):W:=.Df (ns.map W.int)
theorem pw{K:Ap}{φ:↑A7}{H:AD}:∀ns:↑Int,Al K φ H (ns.map W.int) (ns.map V.int)
 |[]=>.nil
 |_::ns=>.cons (by erw[AW]) (pw ns)
def vG{P:C9}{w:Br}{H:AD}{s:AQ}{e:A8}{s':AQ}(h:Im P w [] H s (λ_ _ _=>False) e s'):False:=by obtain⟨a,C,GL,B,A9,_,_,z⟩:=h;exact z
def afX{l:gd}{q:C9}{loose:↑Str}{LO:(Str->Option A8)->BF->Prop}{MW:Br->BF->Prop}{d:DefRec}{K:Params->Ap}{st:BE}{x p:Str}{N:↑Str}{k:Nat}{m:Af}(AZ:l.most=↥63)(RO:d.params.defaults=[])(BH:Cv (k+1) PS)(S:Bz N [p] (Bn st))(hd:d.name=x)(VG:∀(w:Br)(h:BF),MW w h->(K w.params).In h)(T:∀(w:Br)(mg:Str->Option A8)(h:BF),(K w.params).In h->h.Ns FM mg->(∃(f:A7)(GS:A8)(E1 an:Option A7)(Ck Ih pm cd D6:A8)(C3:Array (Option A8)),JH (K w.params) FM x=↥↥(.ref f)/\(K w.params).lookup f=↥⟨GS,E1,.func (KM x x (M4 st) (KR st) (Bn st) .none Ck Ih pm an cd D6),C3⟩/\My (K w.params) cd x=true/\KI (K w.params) (.ref f)=true)/\∀base:BF,C6 l.prog w (K w.params) mg base x st N k m)(B9:∀ns:↑Int,⇑ns<=63->Ends (FA ⇑N m [eS ns] []) λw _=>w=.AO true)(b:YJ x x st [p]:=by intro _ _ _ _ _ _;(repeat refine ag λ_=>?_);exact af rfl) :
  h5 q loose LO MW l.row.toRowW d [] (λf vs=>Xf f vs):=by
 refine BU.afZ (n:=63) (k:=k+1) (x:=p) (CX:=λw=>Im l.prog w) (sp:=λw=>MA (K w.params) 1 (FA ⇑N m)) AZ ε RO BH VG (λw mg IR h IK G kb=>?_) (λw H a ns AH TY Mb=>?_) λw H s e s' z=>vG z
 .obtain⟨⟨f,GS,E1,an,Ck,Ih,pm,cd,D6,C3,BJ,lk,c,Bu⟩,A4⟩:=T w mg h IK G;rw[hd]at kb;have e:=kb.symm.trans (Qk IK G BJ);cases e;exact⟨_,λs v=>.of_eq (b Ck Ih pm an cd D6 [v] rfl),λbase _ _=>VB (RH (st:=st) lk c Bu) S (A4 base)⟩
 .obtain⟨v,h',e,rfl⟩:=B9 ns AH;refine⟨[],[],[eS ns],⟨Qp,rfl,(λn o a e=>by cases e)⟩,.cons ?_ .nil,rfl,?_⟩
  .unfold eS;erw[AW];refine⟨a,ns.map V.int,rfl,?_,pw ns⟩;rcases Mb with(z|z)|z
   .rcases TY a with y|⟨o,xs,y⟩
    .rw[z]at y;cases y
    .rw[z]at y;cases y
   .exact .inl z
   .exact .inr z
  .rw[e];intro v BM A9 _ _ E7;simpa only[AW]using E7
end BX
namespace E4
noncomputable def top(i:Nat):BE:=PySem.Challenge.pw_nohalfway_k63_whole_lost_just_by_faults.main.body.getD i (.Pass ⟨0,0,0,0⟩)
abbrev p8:BE:=top 57
abbrev pF:BE:=top 58
abbrev p9:BE:=top 59
abbrev pA:BE:=top 60
abbrev oT:BE:=top 61
abbrev pD:BE:=top 65
abbrev oS:BE:=top 64
abbrev p6:BE:=top 66
abbrev p7:BE:=top 67
abbrev p4:BE:=top 72
abbrev p5:BE:=top 62
abbrev oO:BE:=top 63
abbrev oP:BE:=top 70
abbrev oQ:BE:=top 71
abbrev p1:BE:=top 8
abbrev p2:BE:=top 9
abbrev n8:BE:=top 13
abbrev ov:BE:=top 14
abbrev oq:BE:=top 15
abbrev p3:BE:=top 16
abbrev nB:BE:=top 17
abbrev nL:BE:=inClass (top 18) 0
abbrev ow:BE:=top 25
abbrev ot:BE:=top 30
abbrev oy:BE:=top 31
abbrev nH:BE:=top 32
abbrev nK:BE:=inClass (top 18) 1
abbrev nd:BE:=top 33
abbrev oX:BE:=top 34
abbrev oz:BE:=top 42
abbrev ox:BE:=top 43
abbrev oY:BE:=top 49
abbrev nP:BE:=inClass (top 18) 2
abbrev nA:BE:=top 19
abbrev n9:BE:=top 53
abbrev nS:BE:=inClass (top 55) 0
abbrev nY:BE:=inClass (top 55) 8
abbrev n_:BE:=inClass (top 55) 9
abbrev nG:BE:=top 24
abbrev nM:BE:=inClass (top 18) 5
abbrev nN:BE:=inClass (top 18) 6
abbrev nI:BE:=inClass (top 54) 0
abbrev nQ:BE:=inClass (top 55) 2
abbrev nU:BE:=inClass (top 55) 5
abbrev nE:BE:=top 26
abbrev oZ:BE:=top 35
abbrev nJ:BE:=inClass (top 18) 3
abbrev oV:BE:=top 37
abbrev nX:BE:=inClass (top 55) 4
abbrev nR:BE:=inClass (top 55) 3
abbrev nV:BE:=inClass (top 55) 7
abbrev nZ:BE:=inClass (top 55) 6
abbrev nW:BE:=inClass (top 55) 1
abbrev pG:BE:=top 73
abbrev oR:BE:=top 76
abbrev pH:BE:=top 77
abbrev nO:BE:=inClass (top 18) 4
abbrev nc:BE:=top 27
abbrev nD:BE:=top 45
abbrev o_:BE:=top 38
abbrev p0:BE:=top 46
abbrev nF:BE:=top 47
abbrev oU:BE:=top 48
abbrev nC:BE:=top 50
abbrev nT:BE:=inClass (top 55) 10
abbrev pC:BE:=top 68
abbrev oN:BE:=top 69
abbrev pE:BE:=top 74
abbrev pB:BE:=top 75
abbrev oW:BE:=top 44
abbrev KC:BE:=top 78
def Ot:W:=.int 15
def SS:W:=.int 4
def SU:W:=.int 6
def Ve:W:=.int 12
def SV:W:=.int 40
noncomputable def RA:W:=.I8 [.str (AL "0"),.str (AL "1"),.str (AL "x")]
def SW:W:=.I8 [.str (AL "step")]
def IQ:W:=.I8 [.str (AL "wait")]
def Ou:W:=.I8 [.int 8,.int 4,.int 2,.int 1]
structure Di(K:Ap)(mg:Str->Option A8):Prop where
 w6:D4 K mg "_law_cell_at" p8 ["_law_script","_law_k"]
 wD:D4 K mg "_law_mixed" pF ["_law_cell","_law_k"]
 w7:D4 K mg "_law_counts" p9 ["_law_cell"]
 w8:D4 K mg "_law_doors" pA ["_law_counts_here"]
 vl:D4 K mg "_law_wires" oT ["_law_cell","_law_counts_here"]
 wB:D4 K mg "_law_free_book" pD ["_law_number","_law_count"]
 vk:D4 K mg "_law_row" oS ["_law_cell","_law_k","_law_count"]
 w4:D4 K mg "_law_books" p6 ["_law_cells","_law_counts_here","_law_shift"]
 w5:D4 K mg "_law_both" p7 ["_law_script","_law_counts_here"]
 w2:D4 K mg "_law_all" p4 ["_law_script"]
 w3:D4 K mg "_law_beyond" p5 ["_law_wires_here","_law_door"]
 vg:D4 K mg "_law_outer" oO ["_law_counts_here","_law_wires_here"]
 vh:D4 K mg "_law_plain" oP ["_law_many"]
 vi:D4 K mg "_law_plan" oQ ["_law_cells","_law_many"]
 vz:D4 K mg "is_whole" p1 ["thing"]
 w0:D4 K mg "is_whole_within" p2 ["thing","least","greatest"]
 wV:D4 K mg "are_counts" n8 ["thing"]
 vt:D4 K mg "is_pair" ov ["thing"]
 vq:D4 K mg "is_door_among" oq ["counts","thing"]
 w1:D4 K mg "is_wire_among" p3 ["counts","thing"]
 wY:D4 K mg "far_doors" nB ["counts","wires"]
 ud:InK K mg "Net" "Net.__init__" nL ["self","counts","wires"]
 vu:D4 K mg "is_pattern" ow ["thing"]
 vr:D4 K mg "is_number_or_none" ot ["thing","doors"]
 vw:D4 K mg "is_row" oy ["thing","doors"]
 vo:D4 K mg "is_book" nH ["thing","doors"]
 uc:Ic K "Net" "count" "Net.count" nK ["self","house"]
 vp:D4 K mg "is_books" nd ["thing","net"]
 xD:D4 K mg "refuse_unless_books" oX ["thing","net"]
 vx:D4 K mg "is_step" oz ["thing","net"]
 vv:D4 K mg "is_plan" ox ["thing","net"]
 xE:D4 K mg "refuse_unless_plan" oY ["net","old","new","plan"]
 wI:Ic K "Net" "wires" "Net.wires" nP ["self"]
 wX:D4 K mg "copied_net" nA ["net"]
 wW:D4 K mg "copied_books" n9 ["books"]
 wL:InK K mg "Run" "Run.__init__" nS ["self","net","old","new","plan"]
 wR:Ic K "Run" "place" "Run.place" nY ["self"]
 wT:Ic K "Run" "under" "Run.under" n_ ["self"]
 wc:D4 K mg "is_address" nG ["thing"]
 vC:Ic K "Net" "is_door" "Net.is_door" nM ["self","thing"]
 wG:Ic K "Net" "is_outer" "Net.is_outer" nN ["self","thing"]
 ua:InK K mg "Letter" "Letter.__init__" nI ["self","mark","door","address"]
 wJ:Ic K "Run" "come" "Run.come" nQ ["self","door","address"]
 wN:Ic K "Run" "knows" "Run.knows" nU ["self","house","mark"]
 wa:D4 K mg "fits" nE ["pattern","address"]
 xF:D4 K mg "taken" oZ ["book","door","address"]
 ub:Ic K "Net" "beyond" "Net.beyond" nJ ["self","door"]
 vn:D4 K mg "onward" oV ["net","book","door","address"]
 wQ:Ic K "Run" "next_of" "Run.next_of" nX ["self","letter"]
 wK:Ic K "Run" "go" "Run.go" nR ["self","number"]
 wO:Ic K "Run" "may_step" "Run.may_step" nV ["self"]
 wS:Ic K "Run" "step" "Run.step" nZ ["self"]
 wP:Ic K "Run" "move" "Run.move" nW ["self","move"]
 wE:D4 K mg "_law_move" pG ["_law_run","_law_move_here"]
 vj:D4 K mg "_law_played" oR ["_law_run","_law_plan_here","_law_moves_here","_law_outer_here"]
 ve:D4 K mg "_law_moves" pH ["_law_cells","_law_many"]
 wH:Ic K "Net" "outer" "Net.outer" nO ["self"]
 wU:D4 K mg "addresses" nc ["pattern"]
 w_:D4 K mg "first_untaught" nD ["done","doors"]
 xG:D4 K mg "walked" o_ ["net","books","door","address"]
 vy:D4 K mg "is_waited_for" p0 ["done","house"]
 wb:D4 K mg "house_at_fault" nF ["net","old","new","plan","place","door","address"]
 vm:D4 K mg "least_fault" oU ["net","old","new","plan"]
 wZ:D4 K mg "fault" nC ["net","old","new","plan"]
 wM:Ic K "Run" "journal" "Run.journal" nT ["self"]
 wA:D4 K mg "_law_fits" pC ["_law_pattern","_law_address"]
 vf:D4 K mg "_law_next" oN ["_law_wires_here","_law_book","_law_door","_law_address"]
 wC:D4 K mg "_law_knows" pE ["_law_steps","_law_house","_law_mark"]
 w9:D4 K mg "_law_entry_right" pB ["_law_wires_here","_law_both_here","_law_entry","_law_came","_law_gone"]
 wF:D4 K mg "plain_plan" oW ["net"]
 aj1:D4 K mg "law" KC ["_law_script"]
 jr:Q5 K "Letter" ["address","doors","mark"]
 js:Q5 K "Net" ["counts","far","joined","many"]
 jt:Q5 K "Run" ["books","came","done","ended","letters","net","plan"]
 uJ:mg "all"=none
 uK:mg "bool"=none
 uL:mg "enumerate"=none
 ib:mg "int"=none
 Va:mg "isinstance"=none
 il:mg "len"=none
 bq:mg "list"=none
 cz:mg "range"=none
 uM:mg "set"=none
 ip:mg "str"=none
 i1:mg "tuple"=none
 uN:mg "zip"=none
 Ot:Lu K mg "GREATEST_ADDRESS" Ot
 SS:Lu K mg "MOST_DOORS" SS
 SU:Lu K mg "MOST_HOUSES" SU
 Ve:Lu K mg "MOST_ROWS" Ve
 SV:Lu K mg "MOST_STEPS" SV
 RA:Lu K mg "SIGNS" RA
 SW:Lu K mg "STEP" SW
 IQ:Lu K mg "WAIT" IQ
 Ou:Lu K mg "WORTHS" Ou
 ah4:Sa K mg "NoBooks"
 ah5:Sa K mg "NoMove"
 ah6:Sa K mg "NoNet"
 ah7:Sa K mg "NoPlan"
 ag8:cH K mg "NoMove" ["NoMove"]
def pS:Bz ["_law_script","_law_k"] ["_law_script","_law_k"] (Bn p8):=CS
def Z3:Af:=
    (AK (BZ (AV (A1 NL ω (B6 BO Δ))) (At (A1 AB π ω)) B_)
    (At η))
def M5:Bk:=Cw 2 Z3
def pZ:Bz ["_law_cell","_law_k","_law_factor","_law_prime"] ["_law_cell","_law_k"] (Bn pF):=CS
def bO:Af:=
    (AK (AR (Bv (A1 AB (Bd (J (pu (.int 48271)) (J (pu (.int 69621)) (J (pu (.int 16807)) (J (pu (.int 39373)) (J (pu (.int 40692)) (J (pu (.int 742938285)) (J (pu (.int 950706376)) (J (pu (.int 1343714438)) A2))))))))) (A1 BR ω (pu (.int 8))))) (A6 2))
    (AK (AR (Bv (A1 AB (Bd (J (pu (.int 2147483647)) (J (pu (.int 2147483629)) (J (pu (.int 2147483587)) (J (pu (.int 2147483579)) (J (pu (.int 2147483563)) A2)))))) (A1 BR ω (pu (.int 5))))) (A6 3))
    (At (A1 Cg (A1 BR (A1 IA (A1 addW (A1 addW (A1 BR π (A1 Oo (pu (.int 10)) (pu (.int 30)))) (A1 IA (pu (.int 31)) ω)) (pu (.int 7))) ψ) Θ) (pu (.int 7))))))
def EW:Bk:=Cw 4 bO
def pT:Bz ["_law_cell","_law_number"] ["_law_cell"] (Bn p9):=CS
def Z4:Af:=
    (AK (BZ (AV (A1 Ξ (A1 BR π Γ) ζ)) (AK (AR (A1 BR (A1 Cg π Γ) (A1 Oo (pu (.int 10)) (pu (.int 60)))) (A6 1))
    (At (D8 1 [1] (Ct (J (A1 addW ζ (A1 BR ω (pu (.int 6)))) A2)) (A6 0) (pu true) (Bv (A1 addW ζ (A1 BR (A1 Cg (A1 Cg ω (pu (.int 6))) (A1 AB (Bd (J ζ (J (pu (.int 4)) (J (pu (.int 16)) (J (pu (.int 64)) (J (pu (.int 256)) (J (pu (.int 1024)) A2))))))) π)) (pu (.int 4)))))))) B_)
    (At (D8 1 [0] (Ct (J (A1 addW ζ (A1 BR (Ae 2 EW (J π (J η A2))) (pu (.int 6)))) A2)) (A6 0) (pu true) (A1 addW ζ (A1 BR (Ae 2 EW (J ω (J (A1 addW ζ π) A2))) (pu (.int 4)))))))
def U5:Bk:=Cw 2 Z4
def pU:Bz ["_law_counts_here","_law_doors_here","_law_house"] ["_law_counts_here"] (Bn pA):=CS
def bN:Af:=
    (AK (AR (Bd A2) (A6 1))
    (AK (DZ (Ct (J (B6 BO Δ) A2)) (A6 2) (AR (Bv (A1 addW ω (D8 1 [2] (Ct (J (A1 AB π ψ) A2)) (A6 0) (pu true) (As (J ω Δ))))) (A6 1)))
    (At ω)))
def Rs:Bk:=Cw 3 bN
def pi:Bz ["_law_cell","_law_counts_here","_law_doors_here","_law_wires_here","_law_number","_law_keep","_law_k","_law_picks","_law_one","_law_other"] ["_law_cell","_law_counts_here"] (Bn oT):=CS
def bR:Af:=
    (AK (AR (Ae 1 Rs Ω) (A6 2))
    (AK (AR (Bd A2) (A6 3))
    (AK (AR (A1 Cg (A1 BR (A1 Cg π Γ) (A1 Oo (pu (.int 10)) (pu (.int 60)))) (pu (.int 24576))) (A6 4))
    (AK (AR (A1 addW ζ (A1 BR (Ae 2 EW (J π (J (pu (.int 8)) A2))) (pu (.int 3)))) (A6 5))
    (AK (BZ (AV (A1 Ξ (A1 BR π Γ) ζ)) (AK (AR (A1 addW ζ (A1 BR Tm (pu (.int 24)))) (A6 5))
    (AR (A1 Cg Tm (pu (.int 24))) (A6 4))) B_)
    (AK (AR (pu (.int 9)) (A6 6))
    (AK (T9 (AV (A1 KW (B6 BO Fr) (A1 addW (I 5) ζ))) (AK (AR (Bd (J (Ae 2 EW (J π (J (I 6) A2))) (J (Ae 2 EW (J π (J (A1 addW (I 6) ζ) A2))) A2))) (A6 7))
    (AK (BZ (AV (A1 Ξ (A1 BR π Γ) ζ)) (AK (AR (Bd (J Tm (J (A1 Cg Tm (B6 BO Fr)) A2))) (A6 7))
    (AR (A1 Cg (A1 Cg Tm (B6 BO Fr)) (A1 MD (B6 BO Fr) ζ)) (A6 4))) B_)
    (AK (AR (DQ JY ψ (J (A1 BR (A1 AB (I 7) η) (B6 BO Fr)) A2)) (A6 8))
    (AK (AR (DQ JY ψ (J (A1 BR (A1 AB (I 7) ζ) (B6 BO Fr)) A2)) (A6 9))
    (AK (EV (DQ DV Θ (J (As (J (I 8) (J (I 9) A2))) A2)))
    (AR (A1 addW (I 6) Γ) (A6 6))))))))
    (At Θ))))))))
def Oh:Bk:=Cw 10 bR
def pX:Bz ["_law_number","_law_count","_law_book","_law_many","_law_choices","_law_k","_law_pattern","_law_j"] ["_law_number","_law_count"] (Bn pD):=CS
def ih:Af:=
    (AK (AR (Bd A2) (A6 2))
    (AK (AR (A1 BR π (pu (.int 13))) (A6 3))
    (AK (AR (A1 Cg π (pu (.int 13))) (A6 0))
    (AK (AR (Bv (A1 addW (Bd (J Cl A2)) (B6 Mj Ω))) (A6 4))
    (AK (DZ (Ct (J Θ A2)) (A6 5) (AK (AR (pu (.str (AL ""))) (A6 6))
    (AK (DZ (Ct (J (pu (.int 4)) A2)) (A6 7) (AK (AR (A1 addW (I 6) (A1 AB (pu (.str (AL "01x"))) (A1 BR π (pu (.int 3))))) (A6 6))
    (AR (A1 Cg π (pu (.int 3))) (A6 0))))
    (AK (EV (DQ DV ψ (J (As (J (I 6) (J (A1 AB Tm (A1 BR π (A1 addW ω ζ))) (J (A1 AB Tm (A1 BR (A1 Cg π (A1 addW ω ζ)) (A1 addW ω ζ))) A2)))) A2)))
    (AR (A1 Cg (A1 Cg π (A1 addW ω ζ)) (A1 addW ω ζ)) (A6 0))))))
    (At ψ))))))
def U7:Bk:=Cw 8 ih
def ph:Bz ["_law_cell","_law_k","_law_count","_law_number","_law_pattern","_law_j","_law_door","_law_out"] ["_law_cell","_law_k","_law_count"] (Bn oS):=CS
def bQ:Af:=
    (AK (AR (Ae 2 EW (J π Ω)) (A6 3))
    (AK (AR (pu (.str (AL ""))) (A6 4))
    (AK (DZ (Ct (J (pu (.int 4)) A2)) (A6 5) (AK (AR (Bv (A1 addW Tm (A1 AB (Bd (J (pu (.str (AL "x"))) (J (pu (.str (AL "x"))) (J (pu (.str (AL "0"))) (J (pu (.str (AL "1"))) (J (pu (.str (AL "x"))) A2)))))) (A1 BR Θ (pu (.int 5)))))) (A6 4))
    (AR (A1 Cg Θ (pu (.int 5))) (A6 3))))
    (AK (AR Cl (A6 6))
    (AK (BZ (AV (A1 Ξ (A1 BR Θ (pu (.int 3))) η)) (AR (A1 BR (A1 Cg Θ (pu (.int 3))) ψ) (A6 6)) B_)
    (AK (AR (A1 BR (A1 Cg Θ (pu (.int 20))) ψ) (A6 7))
    (AK (BZ (AV (A1 Ξ (A1 BR (A1 Cg Θ (pu (.int 100))) (pu (.int 9))) η)) (AR Cl (A6 7)) B_)
    (At (As (J Tm (J (I 6) (J (I 7) A2))))))))))))
def Wj:Bk:=Cw 8 bQ
def qR:Bz ["_law_cells","_law_counts_here","_law_shift","_law_books_here","_law_house","_law_cell","_law_many"] ["_law_cells","_law_counts_here","_law_shift"] (Bn p6):=CS
def ic:Af:=
    (AK (AR (Bd A2) (A6 3))
    (AK (DZ (Ct (J (B6 BO Ω) A2)) (A6 4) (AK (AR (A1 addW (A1 addW (pu (.int 17)) (A1 IA (pu (.int 5)) Tm)) ψ) (A6 5))
    (AK (BZ (HS (AV (A1 (Ay false) π (Bd A2)))) (AR (A1 AB π (A1 BR (A1 addW Tm ψ) (B6 BO Δ))) (A6 5)) B_)
    (BZ (HS (F9 (AV (A1 (Ay false) π (Bd A2))) (AV (A1 Ξ (A1 BR (I 5) Γ) ζ)))) (EV (DQ DV Θ (J (Ae 2 U7 (J (A1 BR (A1 Cg (I 5) Γ) (A1 Oo (pu (.int 10)) (pu (.int 60)))) (J (A1 AB ω Tm) A2))) A2))) (AK (AR (A1 addW (I 5) (A1 IA (pu (.int 3)) Tm)) (A6 5))
    (AK (AR (Bv (A1 AB (Bd (J ζ (J Γ (J (pu (.int 3)) (J η (J Γ (J (pu (.int 4)) (J (pu (.int 12)) A2)))))))) (A1 BR (Ae 2 EW (J (I 5) (J (pu (.int 3)) A2))) (pu (.int 7))))) (A6 6))
    (EV (DQ DV Θ (J (D8 1 [5,1,4,2] (Ct (J (I 6) A2)) (A6 0) (pu true) (Ae 3 Wj (J ω (J (A1 addW (A1 addW (pu (.int 4)) Tm) (A1 IA (pu (.int 3)) π)) (J (A1 AB ψ Θ) A2))))) A2)))))))))
    (At Θ)))
def Mm:Bk:=FA 7 ic
def pR:Bz ["_law_script","_law_counts_here","_law_old","_law_new","_law_house"] ["_law_script","_law_counts_here"] (Bn p7):=CS
def ie:Af:=
    (AK (AR (Ae 3 Mm (J (Bv (D9 π (CP Γ) (CP (pu (.int 9))))) (J ω (J η A2)))) (A6 2))
    (AK (AR (Ae 3 Mm (J (Bv (D9 π (CP (pu (.int 9))) (CP (pu (.int 16))))) (J ω (J ζ A2)))) (A6 3))
    (AK (DZ (Ct (J (B6 BO Ω) A2)) (A6 4) (BZ (AV (A1 Ξ (A1 BR (Ae 2 EW (J (Ae 2 M5 (J π (J ζ A2))) (J Tm A2))) (pu (.int 4))) η)) (AR (B6 Fp (J (A1 AB ψ Tm) A2)) (TW Θ Tm)) B_))
    (At (As (J ψ (J Θ A2)))))))
def Wh:Bk:=FA 5 ie
def qP:Bz ["_law_script","_law_cell","_law_counts_here","_law_wires_here","_law_old","_law_new"] ["_law_script"] (Bn p4):=CS
def Z2:Af:=
    (AK (AR (Ae 2 M5 (J π (J η A2))) (A6 1))
    (AK (AR (Ae 1 U5 Ω) (A6 2))
    (AK (AR (Ae 2 Oh (J ω Fr)) (A6 3))
    (AK (Lp (Ae 2 Wh (J π Fr)) (EI [(A6 4),(A6 5)]))
    (At (As (J ψ (J Θ (J Tm (J (I 5) A2))))))))))
def Rr:Bk:=FA 6 Z2
def qQ:Bz ["_law_wires_here","_law_door","_law_one","_law_other"] ["_law_wires_here","_law_door"] (Bn p5):=CS
def bM:Af:=
    (AK (DZ (Ca π) (EI [(A6 2),(A6 3)]) (AK (BZ (AV (A1 Ξ ψ ω)) (At Θ) B_)
    (BZ (AV (A1 Ξ Θ ω)) (At ψ) B_)))
    (At Cl))
def PZ:Bk:=Cw 4 bM
def pd:Bz ["_law_counts_here","_law_wires_here"] ["_law_counts_here","_law_wires_here"] (Bn oO):=CS
def bP:Af:=
    (At (D8 1 [1] (Ca (Ae 1 Rs Δ)) (A6 0) (AV (A1 (Dj true) (Ae 2 PZ (J ω Δ)) Cl)) π))
def U8:Bk:=Cw 2 bP
def pe:Bz ["_law_many","_law_plan_here"] ["_law_many"] (Bn oP):=CS
def Z8:Af:=
    (AK (AR (Bv (A1 addW (D8 1 [] (Ct Δ) (A6 0) (pu true) (As (J (pu (.str (AL "teach"))) Δ))) (D8 1 [] (Ct Δ) (A6 0) (pu true) (As (J (pu (.str (AL "turn"))) Δ))))) (A6 1))
    (At (Bv (A1 addW (A1 addW ω (Bd (J (As (J (pu (.str (AL "wait"))) A2)) A2))) (D8 1 [] (Ct Δ) (A6 0) (pu true) (As (J (pu (.str (AL "forget"))) Δ)))))))
def Rv:Bk:=Cw 2 Z8
def pf:Bz ["_law_cells","_law_many","_law_plan_here","_law_cell","_law_number","_law_at","_law_step","_law_other"] ["_law_cells","_law_many"] (Bn oQ):=CS
def ik:Af:=
    (AK (AR (Ae 1 Rv Ω) (A6 2))
    (AK (DZ (Ca π) (A6 3) (AK (AR (Ae 2 EW (J Θ (J (pu (.int 5)) A2))) (A6 4))
    (AK (AR (A1 BR (A1 Cg Tm (pu (.int 5))) (A1 addW (B6 BO Fr) ζ)) (A6 5))
    (AK (BZ (F9 (AV (A1 Ξ (A1 BR Tm (pu (.int 5))) η)) (AV (A1 NL (B6 BO Fr) (pu (.int 30))))) (AR (Bv (A1 addW (A1 addW (D9 ψ (pu none) (CP (I 5))) (Bd (J (As (J (pu (.str (AL "wait"))) A2)) A2))) (D9 ψ (CP (I 5)) (pu none)))) (A6 2)) B_)
    (AK (BZ (AV (A1 Ξ (A1 BR Tm (pu (.int 5))) ζ)) (AR (Bv (A1 addW (D9 ψ (pu none) (CP (I 5))) (D9 ψ (CP (A1 addW (I 5) ζ)) (pu none)))) (A6 2)) B_)
    (BZ (HS (F9 (AV (A1 KW (A1 BR Tm (pu (.int 5))) Γ)) (AV (A1 (Ay false) ψ (Bd A2))))) (AK (AR (DQ JY ψ (J (A1 BR (I 5) (B6 BO Fr)) A2)) (A6 6))
    (AK (AR (A1 BR (A1 Cg Tm (pu (.int 200))) (A1 addW (B6 BO Fr) ζ)) (A6 7))
    (AR (Bv (A1 addW (A1 addW (D9 ψ (pu none) (CP (I 7))) (Bd (J (I 6) A2))) (D9 ψ (CP (I 7)) (pu none)))) (A6 2)))) B_))))))
    (At ψ)))
def Rw:Bk:=Cw 8 ik
def qL:Bz ["thing"] ["thing"] (Bn p1):=CS
def bK:Af:=
    (At (Kc (B3 (Dz "int") π) (PU (B3 (Dz "bool") π))))
def U3:Bk:=Cw 1 bK
def qM:Bz ["thing","least","greatest"] ["thing","least","greatest"] (Bn p2):=CS
def Z1:Af:=
    (At (Kc (Ae 1 U3 Δ) (Oc Ln Ln ω π ψ)))
def Ml:Bk:=Cw 3 Z1
def q0:Bz ["thing"] ["thing"] (Bn n8):=CS
def bi:Af:=
    (AK (BZ (FU (Du (AV (B3 (Dz "list") π))) (Du (AV (Oc Ln Ln ζ (B6 BO Δ) (pu SU))))) XL B_)
    (At (Bv (B6 (Io true) (J (D8 1 [] (Ca π) (A6 0) (pu true) (Ae 3 Ml (J π (J ζ (J (pu SS) A2))))) A2)))))
def Wa:Bk:=Cw 1 bi
def qF:Bz ["thing"] ["thing"] (Bn ov):=CS
def bp:Af:=
    (At (Kc (B3 (Dz "tuple") π) (A1 Ξ (B6 BO Δ) Γ)))
def Ro:Bk:=Cw 1 bp
def qD:Bz ["counts","thing"] ["counts","thing"] (Bn oq):=CS
def bo:Af:=
    (AK (BZ (FU (Du (AV (Ae 1 Ro Ω))) (Du (AV (Ae 3 Ml (J (A1 AB ω η) (J η (J (A1 MD (B6 BO Δ) ζ) A2))))))) XL B_)
    (At (Ae 3 Ml (J (A1 AB ω ζ) (J η (J (A1 MD (A1 AB π (A1 AB ω η)) ζ) A2))))))
def U1:Bk:=Cw 2 bo
def qN:Bz ["counts","thing","both"] ["counts","thing"] (Bn p3):=CS
def bL:Af:=
    (AK (BZ (Du (AV (Ae 1 Ro Ω))) XL B_)
    (AK (AR (Kc (Ae 2 U1 (J π (J (A1 AB ω η) A2))) (Ae 2 U1 (J π (J (A1 AB ω ζ) A2)))) (A6 2))
    (At (Kc ψ (A1 (Ay false) (A1 AB ω η) (A1 AB ω ζ))))))
def U4:Bk:=Cw 3 bL
def q5:Bz ["counts","wires","far","wire"] ["counts","wires"] (Bn nB):=CS
def ia:Af:=
    (AK (AR (Kd true) (A6 2))
    (AK (DZ (Ca ω) (A6 3) (AK (BZ (Du (AV (Ae 2 U4 (J π (J Θ A2))))) (λ_ _=>.bad) B_)
    (AK (BZ (FU (AV (A1 (Cs true) (A1 AB Θ η) ψ)) (AV (A1 (Cs true) (A1 AB Θ ζ) ψ))) (λ_ _=>.bad) B_)
    (AK (Mk ψ (A1 AB Θ η) (A1 AB Θ ζ))
    (Mk ψ (A1 AB Θ ζ) (A1 AB Θ η))))))
    (At ψ)))
def Wc:Bk:=FA 4 ia
def oe:Bz ["self","counts","wires"] ["self","counts","wires"] (Bn nL):=CS
def YG:Af:=
    (AK (BZ (Du (AV (Ae 1 Wa Ω))) (NN "NoNet") B_)
    (AK (BZ (Du (AV (B3 (Dz "list") ψ))) (NN "NoNet") B_)
    (AK (Ex "Net" "many" π (B6 BO Ω))
    (AK (Ex "Net" "counts" π (B6 OK Ω))
    (AK (Ex "Net" "joined" π (B6 OK Fr))
    (Ex "Net" "far" π (Ae 2 Wc (J (B3 (Av "Net" "counts") π) (J (B3 (Av "Net" "joined") π) A2)))))))))
def Of:Bk:=FA 3 YG
def qG:Bz ["thing"] ["thing"] (Bn ow):=CS
def bI:Af:=
    (AK (BZ (FU (Du (AV (B3 (Dz "str") π))) (AV (A1 (Ay false) (B6 BO Δ) (B6 BO (J (pu Ou) A2))))) XL B_)
    (At (Bv (B6 (Io true) (J (D8 1 [] (Ca π) (A6 0) (pu true) (A1 (Cs true) π (pu RA))) A2)))))
def Wf:Bk:=Cw 1 bI
def qE:Bz ["thing","doors"] ["thing","doors"] (Bn ot):=CS
def Yx:Af:=
    (At (WX (A1 (Dj true) π Cl) (Ae 3 Ml (J π (J η (J (A1 MD ω ζ) A2))))))
def U2:Bk:=Cw 2 Yx
def qI:Bz ["thing","doors"] ["thing","doors"] (Bn oy):=CS
def bJ:Af:=
    (AK (BZ (FU (Du (AV (B3 (Dz "tuple") π))) (AV (A1 (Ay false) (B6 BO Δ) (pu (.int 3))))) XL B_)
    (AK (BZ (Du (AV (Ae 1 Wf (J (A1 AB π η) A2)))) XL B_)
    (At (Kc (Ae 2 U2 (J (A1 AB π ζ) Ω)) (Ae 2 U2 (J (A1 AB π Γ) Ω))))))
def Wg:Bk:=Cw 2 bJ
def qB:Bz ["thing","doors"] ["thing","doors"] (Bn nH):=CS
def bl:Af:=
    (AK (BZ (FU (Du (AV (B3 (Dz "list") π))) (AV (A1 KW (B6 BO Δ) (pu Ve)))) XL B_)
    (At (Bv (B6 (Io true) (J (D8 1 [1] (Ca π) (A6 0) (pu true) (Ae 2 Wg (J π Ω))) A2)))))
def We:Bk:=Cw 2 bl
def od:Bz ["self","house"] ["self","house"] (Bn nK):=CS
def bc:Af:=
    (At (NM (AV (Oc Ln NL η ω (B3 (Av "Net" "many") π))) (A1 AB (B3 (Av "Net" "counts") π) ω) η))
def TA:Bk:=Cw 2 bc
def qC:Bz ["thing","net"] ["thing","net"] (Bn nd):=CS
def bn:Af:=
    (AK (BZ (FU (Du (AV (B3 (Dz "list") π))) (AV (A1 (Ay false) (B6 BO Δ) (B3 (Av "Net" "many") ω)))) XL B_)
    (At (Bv (B6 (Io true) (J (D8 2 [1] (Q1 Δ) (EI [(A6 0),(A6 1)]) (pu true) (Ae 2 We (J ω (J (CO "Net" "count" 1 TA ψ Δ) A2)))) A2)))))
def Zh:Bk:=Cw 2 bn
def pq:Bz ["thing","net"] ["thing","net"] (Bn oX):=CS
def d0:Af:=
    (BZ (Du (AV (Ae 2 Zh (J π Ω)))) (NN "NoBooks") B_)
def Wk:Bk:=Cw 2 d0
def qJ:Bz ["thing","net"] ["thing","net"] (Bn oz):=CS
def Yz:Af:=
    (AK (BZ (FU (Du (AV (B3 (Dz "tuple") π))) (FU (AV (A1 (Cs false) (B6 BO Δ) (As (J ζ (J Γ A2))))) (Du (AV (B3 (Dz "str") (A1 AB π η)))))) XL B_)
    (AK (BZ (AV (A1 Ξ (B6 BO Δ) ζ)) (At (A1 Ξ (A1 AB π η) (pu (.str (AL "wait"))))) B_)
    (At (Kc (A1 (Cs true) (A1 AB π η) (As (J (pu (.str (AL "teach"))) (J (pu (.str (AL "turn"))) (J (pu (.str (AL "forget"))) A2))))) (Ae 3 Ml (J (A1 AB π ζ) (J η (J (A1 MD (B3 (Av "Net" "many") ω) ζ) A2))))))))
def Rp:Bk:=Cw 2 Yz
def qH:Bz ["thing","net","once"] ["thing","net"] (Bn ox):=CS
def Yy:Af:=
    (AK (BZ (FU (Du (AV (B3 (Dz "list") π))) (AV (A1 KW (B6 BO Δ) (pu SV)))) XL B_)
    (AK (BZ (HS (Du (AV (B6 (Io true) (J (D8 1 [1] (Ca π) (A6 0) (pu true) (Ae 2 Rp (J π Ω))) A2))))) XL B_)
    (AK (AR (D8 1 [] (Ca π) (A6 0) (AV (A1 (Ay false) π (pu IQ))) π) (A6 2))
    (At (A1 Ξ (B6 WT Fr) (B6 BO Fr))))))
def Zi:Bk:=Cw 3 Yy
def pv:Bz ["net","old","new","plan"] ["net","old","new","plan"] (Bn oY):=CS
def d2:Af:=
    (AK (EV (Ae 2 Wk (J ω Δ)))
    (AK (EV (Ae 2 Wk (J ψ Δ)))
    (BZ (Du (AV (Ae 2 Zi (J Θ Δ)))) (NN "NoPlan") B_)))
def Ry:Bk:=Cw 4 d2
def oj:Bz ["self"] ["self"] (Bn nP):=CS
def bg:Af:=
    (At (B6 Fp (J (B3 (Av "Net" "joined") π) A2)))
def PV:Bk:=Cw 1 bg
def q4:Bz ["net"] ["net"] (Bn nA):=CS
def i_:Af:=
    (At (K4 "Net" 2 Of (J (B6 Fp (J (B3 (Av "Net" "counts") π) A2)) (J (CO "Net" "wires" 0 PV π A2) A2))))
def Wb:Bk:=FA 1 i_
def q3:Bz ["books"] ["books"] (Bn n9):=CS
def iZ:Af:=
    (At (D8 1 [] (Ca π) (A6 0) (pu true) (Bv (B6 Fp Δ))))
def Rn:Bk:=FA 1 iZ
def oE:Bz ["self","net","old","new","plan"] ["self","net","old","new","plan"] (Bn nS):=CS
def Xo:Af:=
    (AK (EV (Ae 4 Ry (J ω (J ψ (J Θ (J Tm A2))))))
    (AK (Ex "Run" "net" π (Ae 1 Wb Ω))
    (AK (Ex "Run" "books" π (As (J (Ae 1 Rn Fr) (J (Ae 1 Rn (J Θ A2)) A2))))
    (AK (Ex "Run" "plan" π (B6 Fp (J Tm A2)))
    (AK (Ex "Run" "done" π (Bd A2))
    (AK (Ex "Run" "came" π η)
    (AK (Ex "Run" "letters" π (Kd false))
    (Ex "Run" "ended" π (Bd A2)))))))))
def TG:Bk:=FA 5 Xo
def oK:Bz ["self"] ["self"] (Bn nY):=CS
def bh:Af:=
    (At (B6 BO (J (B3 (Av "Run" "done") π) A2)))
def I9:Bk:=Cw 1 bh
def oM:Bz ["self","told","number","letter","door"] ["self"] (Bn n_):=CS
def Xt:Af:=
    (AK (AR (Bd A2) (A6 1))
    (AK (WW (B3 (Av "Run" "letters") π) (EI [(A6 2),(A6 3)]) (AK (AR (A1 AB (B3 (Av "Letter" "doors") Θ) (B3 Ke ζ)) (A6 4))
    (EV (DQ DV ω (J (As (J ψ (J (B3 (Av "Letter" "mark") Θ) (J (B3 (Av "Letter" "address") Θ) (J (A1 AB Tm η) (J (A1 AB Tm ζ) A2)))))) A2)))))
    (At ω)))
def PX:Bk:=Cw 5 Xt
def qA:Bz ["thing"] ["thing"] (Bn nG):=CS
def bk:Af:=
    (At (Ae 3 Ml (J π (J η (J (pu Ot) A2)))))
def U0:Bk:=Cw 1 bk
def og:Bz ["self","thing"] ["self","thing"] (Bn nM):=CS
def be:Af:=
    (At (Ae 2 U1 (J (B3 (Av "Net" "counts") π) Ω)))
def W_:Bk:=Cw 2 be
def oh:Bz ["self","thing"] ["self","thing"] (Bn nN):=CS
def bf:Af:=
    (At (Kc (CO "Net" "is_door" 1 W_ π Ω) (A1 (Cs false) ω (B3 (Av "Net" "far") π))))
def TB:Bk:=Cw 2 bf
def ob:Bz ["self","mark","door","address"] ["self","mark","door","address"] (Bn nI):=CS
def YF:Af:=
    (AK (Ex "Letter" "mark" π ω)
    (AK (Ex "Letter" "address" π Θ)
    (Ex "Letter" "doors" π (Bd Fr))))
def WZ:Bk:=FA 4 YF
def om:Bz ["self","door","address","number","mark"] ["self","door","address"] (Bn nQ):=CS
def Xm:Af:=
    (AK (BZ (FU (Du (AV (CO "Net" "is_outer" 1 TB (B3 (Av "Run" "net") π) Ω))) (Du (AV (Ae 1 U0 Fr)))) (NN "NoMove") B_)
    (AK (AR (B3 (Av "Run" "came") π) (A6 3))
    (AK (AR (NM (AV (A1 (Cs true) (As (J (pu (.str (AL "turn"))) (J (A1 AB ω η) A2))) (B3 (Av "Run" "done") π))) ζ η) (A6 4))
    (AK (Mk (B3 (Av "Run" "letters") π) Θ (K4 "Letter" 3 WZ (J Tm (J ω Fr))))
    (AK (Ex "Run" "came" π (A1 addW Θ ζ))
    (At Θ))))))
def TD:Bk:=FA 5 Xm
def oG:Bz ["self","house","mark"] ["self","house","mark"] (Bn nU):=CS
def Xq:Af:=
    (AK (BZ (AV (A1 Ξ ψ ζ)) (At (A1 (Cs true) (As (J (pu (.str (AL "teach"))) Ω)) (B3 (Av "Run" "done") π))) B_)
    (At (A1 (Cs false) (As (J (pu (.str (AL "forget"))) Ω)) (B3 (Av "Run" "done") π))))
def TH:Bk:=Cw 3 Xq
def q8:Bz ["pattern","address"] ["pattern","address"] (Bn nE):=CS
def bj:Af:=
    (AK (BZ (FU (Du (AV (Ae 1 Wf Δ))) (Du (AV (Ae 1 U0 Ω)))) XL B_)
    (At (Bv (B6 (Io true) (J (D8 2 [1] (WY (J π (J (pu Ou) A2))) (EI [(A6 0),(A6 1)]) (pu true) (A1 (Cs true) π (As (J (pu (.str (AL "x"))) (J (B6 QQ (J (A1 BR (A1 Cg ψ ω) Γ) A2)) A2))))) A2)))))
def PY:Bk:=Cw 2 bj
def px:Bz ["book","door","address","number","row"] ["book","door","address"] (Bn oZ):=CS
def iq:Af:=
    (AK (DZ (Q1 Δ) (EI [(A6 3),(A6 4)]) (BZ (F9 (FU (AV (A1 (Dj true) (A1 AB Tm ζ) Cl)) (AV (A1 Ξ (A1 AB Tm ζ) ω))) (AV (Ae 2 PY (J (A1 AB Tm η) Fr)))) (At Θ) B_))
    (At Cl))
def Wl:Bk:=Cw 5 iq
def oc:Bz ["self","door"] ["self","door"] (Bn nJ):=CS
def bb:Af:=
    (At (WU (B3 (Av "Net" "far") π) ω))
def Rl:Bk:=Cw 2 bb
def pk:Bz ["net","book","door","address","number","out","far"] ["net","book","door","address"] (Bn oV):=CS
def ZB:Af:=
    (AK (AR (Ae 3 Wl (J ω (J (A1 AB ψ ζ) (J Θ A2)))) (A6 4))
    (AK (AR (NM (AV (A1 (Dj true) Tm Cl)) Cl (A1 AB (A1 AB ω Tm) Γ)) (A6 5))
    (AK (BZ (AV (A1 (Dj true) (I 5) Cl)) (At (As (J (pu (.str (AL "drop"))) (J (A1 AB ψ η) A2)))) B_)
    (AK (AR (CO "Net" "beyond" 1 Rl π (J (As (J (A1 AB ψ η) (J (I 5) A2))) A2)) (A6 6))
    (AK (BZ (AV (A1 (Dj true) (I 6) Cl)) (At (As (J (pu (.str (AL "out"))) (J (A1 AB ψ η) (J (I 5) A2))))) B_)
    (At (As (J (pu (.str (AL "at"))) (J (A1 AB (I 6) η) (J (A1 AB (I 6) ζ) A2))))))))))
def NO:Bk:=Cw 7 ZB
def oJ:Bz ["self","letter","door"] ["self","letter"] (Bn nX):=CS
def Xs:Af:=
    (AK (AR (A1 AB (B3 (Av "Letter" "doors") ω) (B3 Ke ζ)) (A6 2))
    (AK (BZ (Du (AV (CO "Run" "knows" 2 TH π (J (A1 AB ψ η) (J (B3 (Av "Letter" "mark") ω) A2))))) (At (As (J (pu (.str (AL "lost"))) (J (A1 AB ψ η) A2)))) B_)
    (At (Ae 4 NO (J (B3 (Av "Run" "net") π) (J (A1 AB (A1 AB (B3 (Av "Run" "books") π) (B3 (Av "Letter" "mark") ω)) (A1 AB ψ η)) (J ψ (J (B3 (Av "Letter" "address") ω) A2))))))))
def Sr:Bk:=Cw 3 Xs
def oD:Bz ["self","number","letter","told"] ["self","number"] (Bn nR):=CS
def Xn:Af:=
    (AK (BZ (FU (Du (AV (Ae 1 U3 Ω))) (AV (A1 (Cs false) ω (B3 (Av "Run" "letters") π)))) (NN "NoMove") B_)
    (AK (AR (A1 AB (B3 (Av "Run" "letters") π) ω) (A6 2))
    (AK (AR (CO "Run" "next_of" 1 Sr π Fr) (A6 3))
    (AK (BZ (AV (A1 Ξ (A1 AB Θ η) (pu (.str (AL "at"))))) (EV (DQ DV (B3 (Av "Letter" "doors") ψ) (J (As (J (A1 AB Θ ζ) (J (A1 AB Θ Γ) A2))) A2))) (AK (EV (WV (B3 (Av "Run" "letters") π) ω))
    (EV (DQ DV (B3 (Av "Run" "ended") π) (J (As (J ω (J ψ (J Θ A2)))) A2)))))
    (At Θ)))))
def TF:Bk:=FA 4 Xn
def oH:Bz ["self"] ["self"] (Bn nV):=CS
def Xr:Af:=
    (AK (BZ (AV (A1 Ξ (CO "Run" "place" 0 I9 π A2) (B6 BO (J (B3 (Av "Run" "plan") π) A2)))) XL B_)
    (AK (BZ (AV (A1 (Ay false) (A1 AB (B3 (Av "Run" "plan") π) (CO "Run" "place" 0 I9 π A2)) (pu IQ))) (At (pu (.AO true))) B_)
    (At (Bv (B6 (Io true) (J (T7 OM 1 [] (B3 (Av "Run" "letters") π) (A6 0) (pu true) (A1 Ξ (B3 (Av "Letter" "mark") π) ζ)) A2))))))
def TJ:Bk:=Cw 1 Xr
def oL:Bz ["self"] ["self"] (Bn nZ):=CS
def Sp:Af:=
    (AK (BZ (Du (AV (CO "Run" "may_step" 0 TJ π A2))) (NN "NoMove") B_)
    (AK (EV (DQ DV (B3 (Av "Run" "done") π) (J (A1 AB (B3 (Av "Run" "plan") π) (CO "Run" "place" 0 I9 π A2)) A2)))
    (At (A1 AB (B3 (Av "Run" "done") π) (B3 Ke ζ)))))
def PW:Bk:=FA 1 Sp
def oI:Bz ["self","move"] ["self","move"] (Bn nW):=CS
def So:Af:=
    (AK (BZ (F9 (AV (B3 (Dz "tuple") ω)) (F9 (AV (A1 KW (B6 BO Ω) η)) (AV (B3 (Dz "str") (A1 AB ω η))))) (AK (BZ (F9 (AV (A1 Ξ (A1 AB ω η) (pu (.str (AL "come"))))) (AV (A1 Ξ (B6 BO Ω) (pu (.int 3))))) (At (CO "Run" "come" 2 TD π (J (A1 AB ω ζ) (J (A1 AB ω Γ) A2)))) B_)
    (AK (BZ (F9 (AV (A1 Ξ (A1 AB ω η) ac)) (AV (A1 Ξ (B6 BO Ω) Γ))) (At (CO "Run" "go" 1 TF π (J (A1 AB ω ζ) A2))) B_)
    (BZ (AV (A1 Ξ ω (pu SW))) (At (CO "Run" "step" 0 PW π A2)) B_))) B_)
    (NN "NoMove"))
def K5:Bk:=FA 2 So
def p_:Bz ["_law_run","_law_move_here","_law_found"] ["_law_run","_law_move_here"] (Bn pG):=CS
def SP:Af:=
    (AK (AR Cl (A6 2))
    (AK (Oe (CO "Run" "move" 1 K5 π Ω) 2 ["NoMove"] (AR Cl (A6 2)))
    (At ψ)))
def LC:Bk:=FA 3 SP
def pg:Bz ["_law_run","_law_plan_here","_law_moves_here","_law_outer_here","_law_came","_law_gone","_law_move_here","_law_steps","_law_going"] ["_law_run","_law_plan_here","_law_moves_here","_law_outer_here"] (Bn oR):=CS
def Z9:Af:=
    (AK (AR (Bd A2) (A6 4))
    (AK (AR (Kd false) (A6 5))
    (AK (DZ (Ca ψ) (A6 6) (AK (AR (Bv (D9 ω (pu none) (CP (CO "Run" "place" 0 I9 π A2)))) (A6 7))
    (AK (AR (D8 1 [] (Ca (CO "Run" "under" 0 PX π A2)) (A6 0) (pu true) (A1 AB π η)) (A6 8))
    (AK (BZ (HS (F9 (AV (A1 Ξ (A1 AB (I 6) η) ac)) (AV (A1 (Ay false) (I 8) (Bd A2))))) (AK (AR (As (J ac (J (A1 AB (I 8) (A1 BR (A1 AB (I 6) ζ) (B6 BO (J (I 8) A2)))) A2))) (A6 6))
    (Mk (I 5) (A1 AB (I 6) ζ) (I 7))) (BZ (AV (A1 (Ay false) (A1 AB (I 6) η) (pu (.str (AL "step"))))) (AK (AR (As (J (pu (.str (AL "come"))) (J (A1 AB Θ (A1 BR (A1 AB (I 6) ζ) (B6 BO (J Θ A2)))) (J (A1 BR (A1 Cg (A1 AB (I 6) ζ) (pu (.int 30))) (pu (.int 16))) A2)))) (A6 6))
    (EV (DQ DV Tm (J (I 7) A2)))) B_))
    (EV (Ae 2 LC (J π (J (I 6) A2))))))))
    (At (As (J Tm (J (I 5) A2)))))))
def U9:Bk:=FA 9 Z9
def pa:Bz ["_law_cells","_law_many","_law_moves_here","_law_cell","_law_number","_law_word","_law_move_here","_law_k"] ["_law_cells","_law_many"] (Bn pH):=CS
def Z7:Af:=
    (AK (AR (Bd A2) (A6 2))
    (AK (DZ (Ca π) (A6 3) (AK (AR (Ae 2 EW (J Θ (J ζ A2))) (A6 4))
    (AK (AR (Bv (A1 AB (Bd (J (pu (.str (AL "come"))) (J ac (J ac (J (pu (.str (AL "step"))) A2))))) (A1 BR Tm (pu (.int 4))))) (A6 5))
    (AK (AR (As (J (I 5) (J (A1 Cg Tm (pu (.int 8))) A2))) (A6 6))
    (AK (BZ (AV (A1 Ξ (I 5) (pu (.str (AL "step"))))) (AR (As (J (pu (.str (AL "step"))) A2)) (A6 6)) B_)
    (EV (DQ DV ψ (J (I 6) A2))))))))
    (AK (DZ (Ct Ω) (A6 7) (AR (Bv (A1 addW ψ (Bd (J (As (J ac (J (I 7) A2))) (J (As (J ac (J (A1 addW (A1 IA Γ (I 7)) ζ) A2))) (J (As (J (pu (.str (AL "step"))) A2)) A2)))))) (A6 2)))
    (At ψ))))
def Ru:Bk:=FA 8 Z7
def oi:Bz ["self","found","house","number"] ["self"] (Bn nO):=CS
def Xl:Af:=
    (AK (AR (Bd A2) (A6 1))
    (AK (DZ (Ct (J (B3 (Av "Net" "many") π) A2)) (A6 2) (DZ (Ct (J (A1 AB (B3 (Av "Net" "counts") π) ψ) A2)) (A6 3) (BZ (AV (A1 (Cs false) (As (J ψ (J Θ A2))) (B3 (Av "Net" "far") π))) (EV (DQ DV ω (J (As (J ψ (J Θ A2))) A2))) B_)))
    (At ω)))
def TC:Bk:=Cw 4 Xl
def oo:Bz ["pattern"] ["pattern"] (Bn nc):=CS
def Xu:Af:=
    (At (D8 1 [0] (Ct (J (A1 addW (pu Ot) ζ) A2)) (A6 0) (AV (Ae 2 PY (J ω Δ))) π))
def Ss:Bk:=Cw 1 Xu
def q7:Bz ["done","doors","door"] ["done","doors"] (Bn nD):=CS
def Yv:Af:=
    (AK (DZ (Ca ω) (A6 2) (BZ (AV (A1 (Cs false) (As (J (pu (.str (AL "teach"))) (J (A1 AB ψ η) A2))) π)) (At (A1 AB ψ η)) B_))
    (At Cl))
def Wd:Bk:=Cw 3 Yv
def pI:Bz ["net","books","door","address","doors","told"] ["net","books","door","address"] (Bn o_):=CS
def ZD:Af:=
    (AK (AR (Bd A2) (A6 4))
    (AK (T9 (AV (A1 (Cs false) ψ Tm)) (AK (EV (DQ DV Tm Fr))
    (AK (AR (Ae 4 NO (J π (J (A1 AB ω (A1 AB ψ η)) (J ψ (J Θ A2))))) (A6 5))
    (AK (BZ (AV (A1 (Ay false) (A1 AB (I 5) η) (pu (.str (AL "at"))))) (At (As (J Tm (J (I 5) A2)))) B_)
    (AR (As (J (A1 AB (I 5) ζ) (J (A1 AB (I 5) Γ) A2))) (A6 2))))))
    (At (As (J Tm (J (As (J (pu (.str (AL "ring"))) (J (Od Tm Fr) A2))) A2))))))
def Oi:Bk:=FA 6 ZD
def qK:Bz ["done","house","turn"] ["done","house"] (Bn p0):=CS
def Z0:Af:=
    (AK (AR (As (J (pu (.str (AL "turn"))) Ω)) (A6 2))
    (At (Bv (Kc (A1 (Cs true) ψ π) (A1 (Cs true) (pu IQ) (D9 π (CP (Od π Fr)) (pu none)))))))
def Rq:Bk:=Cw 3 Z0
def q9:Bz ["net","old","new","plan","place","door","address","step","done"] ["net","old","new","plan","place","door","address"] (Bn nF):=CS
def Yw:Af:=
    (AK (AR (A1 AB Θ Tm) (A6 7))
    (AK (AR (Bv (D9 Θ (pu none) (CP Tm))) (A6 8))
    (AK (BZ (AV (A1 Ξ (I 7) (As (J (pu (.str (AL "turn"))) (J (A1 AB (I 5) η) A2))))) (At (Ae 2 Wd (J (I 8) (J (A1 AB (Ae 4 Oi (J π (J ψ (J (I 5) (J (I 6) A2))))) η) A2)))) B_)
    (AK (BZ (F9 (AV (A1 Ξ (A1 AB (I 7) η) (pu (.str (AL "forget"))))) (Du (AV (Ae 2 Rq (J (I 8) (J (A1 AB (I 5) η) A2)))))) (BZ (AV (A1 (Cs true) (A1 AB (I 7) ζ) (D8 2 [] (Ca (A1 AB (Ae 4 Oi (J π (J ω (J (I 5) (J (I 6) A2))))) η)) (EI [(A6 0),(A6 1)]) (pu true) π))) (At (A1 AB (I 7) ζ)) B_) B_)
    (At Cl)))))
def TK:Bk:=Cw 9 Yw
def pj:Bz ["net","old","new","plan","place","door","address","house"] ["net","old","new","plan"] (Bn oU):=CS
def ZA:Af:=
    (AK (DZ (Ct (J (B6 BO (J Θ A2)) A2)) (A6 4) (DZ (Ca (CO "Net" "outer" 0 TC π A2)) (A6 5) (DZ (Ca (Ae 1 Ss (J (pu (.str (AL "xxxx"))) A2))) (A6 6) (AK (AR (Ae 7 TK (J π (J ω (J ψ (J Θ (J Tm (J (I 5) (J (I 6) A2)))))))) (A6 7))
    (BZ (AV (A1 (Dj false) (I 7) Cl)) (At (As (J Tm (J (I 5) (J (I 6) (J (I 7) A2)))))) B_)))))
    (At Cl))
def Zj:Bk:=Cw 8 ZA
def q6:Bz ["net","old","new","plan"] ["net","old","new","plan"] (Bn nC):=CS
def YH:Af:=
    (AK (EV (Ae 4 Ry (J π (J ω (J ψ (J Θ A2))))))
    (At (Ae 4 Zj (J π (J ω (J ψ (J Θ A2)))))))
def Og:Bk:=Cw 4 YH
def oF:Bz ["self","told","number","letter","end"] ["self"] (Bn nT):=CS
def Xp:Af:=
    (AK (AR (Bd A2) (A6 1))
    (AK (DZ (Ca (B3 (Av "Run" "ended") π)) (EI [(A6 2),(A6 3),(A6 4)]) (EV (DQ DV ω (J (Bv (As (J ψ (J (B3 (Av "Letter" "mark") Θ) (J (A1 AB (B3 (Av "Letter" "doors") Θ) η) (J (B3 (Av "Letter" "address") Θ) (J (B6 Fp (J (B3 (Av "Letter" "doors") Θ) A2)) (J Tm A2)))))))) A2))))
    (At ω)))
def Rm:Bk:=FA 5 Xp
def pW:Bz ["_law_pattern","_law_address","_law_k","_law_figure"] ["_law_pattern","_law_address"] (Bn pC):=CS
def ig:Af:=
    (AK (DZ (Ct (J (pu (.int 4)) A2)) (A6 2) (AK (AR (Bv (A1 BR (A1 Cg ω (A1 AB (Bd (J (pu (.int 8)) (J (pu (.int 4)) (J Γ (J ζ A2))))) ψ)) Γ)) (A6 3))
    (BZ (F9 (AV (A1 (Ay false) (A1 AB π ψ) (pu (.str (AL "x"))))) (AV (A1 (Ay false) (A1 AB π ψ) (A1 AB (pu (.str (AL "01"))) Θ)))) XL B_)))
    (At (pu (.AO true))))
def U6:Bk:=Cw 4 ig
def pb:Bz ["_law_wires_here","_law_book","_law_door","_law_address","_law_pattern","_law_inward","_law_out","_law_behind"] ["_law_wires_here","_law_book","_law_door","_law_address"] (Bn oN):=CS
def ij:Af:=
    (AK (DZ (Ca ω) (EI [(A6 4),(A6 5),(A6 6)]) (BZ (F9 (AV (Ae 2 U6 (J Tm (J Θ A2)))) (FU (AV (A1 (Dj true) (I 5) Cl)) (AV (A1 Ξ (I 5) (A1 AB ψ ζ))))) (AK (BZ (AV (A1 (Dj true) (I 6) Cl)) (At (As (J (pu (.str (AL "drop"))) (J (A1 AB ψ η) A2)))) B_)
    (AK (AR (Ae 2 PZ (J π (J (As (J (A1 AB ψ η) (J (I 6) A2))) A2))) (A6 7))
    (AK (BZ (AV (A1 (Dj true) (I 7) Cl)) (At (As (J (pu (.str (AL "out"))) (J (A1 AB ψ η) (J (I 6) A2))))) B_)
    (At (A1 addW (As (J (pu (.str (AL "at"))) A2)) (I 7)))))) B_))
    (At (As (J (pu (.str (AL "drop"))) (J (A1 AB ψ η) A2)))))
def P_:Bk:=Cw 8 ij
def pY:Bz ["_law_steps","_law_house","_law_mark"] ["_law_steps","_law_house","_law_mark"] (Bn pE):=CS
def Z6:Af:=
    (AK (BZ (AV (A1 Ξ ψ ζ)) (At (A1 (Cs true) (As (J (pu (.str (AL "teach"))) Ω)) π)) B_)
    (At (A1 (Cs false) (As (J (pu (.str (AL "forget"))) Ω)) π)))
def Rt:Bk:=Cw 3 Z6
def pV:Bz ["_law_wires_here","_law_both_here","_law_entry","_law_came","_law_gone","_law_number","_law_mark","_law_door","_law_address","_law_road","_law_end","_law_k","_law_book","_law_house"] ["_law_wires_here","_law_both_here","_law_entry","_law_came","_law_gone"] (Bn pB):=CS
def Z5:Af:=
    (AK (Lp ψ (EI [(A6 5),(A6 6),(A6 7),(A6 8),(A6 9),(A6 10)]))
    (AK (BZ (HS (FU (AV (A1 (Ay false) (I 6) (B6 Tr (J (A1 (Cs true) (As (J (pu (.str (AL "turn"))) (J (A1 AB (I 7) η) A2))) (A1 AB Θ (I 5))) A2)))) (AV (A1 (Ay false) (D9 (I 9) (pu none) (CP ζ)) (Bd (J (I 7) A2)))))) XL B_)
    (AK (DZ (Ct (J (A1 MD (B6 BO (J (I 9) A2)) ζ) A2)) (A6 11) (AK (AR (A1 AB (A1 AB ω (I 6)) (A1 AB (A1 AB (I 9) (I 11)) η)) (A6 12))
    (BZ (AV (A1 (Ay false) (Ae 4 P_ (J π (J (I 12) (J (A1 AB (I 9) (I 11)) (J (I 8) A2))))) (A1 addW (As (J (pu (.str (AL "at"))) A2)) (A1 AB (I 9) (A1 addW (I 11) ζ))))) XL B_)))
    (AK (AR (A1 AB (A1 AB (I 9) (B3 Ke ζ)) η) (A6 13))
    (AK (BZ (AV (A1 Ξ (A1 AB (I 10) η) (pu (.str (AL "lost"))))) (At (Kc (A1 Ξ (I 10) (As (J (pu (.str (AL "lost"))) (J (I 13) A2)))) (PU (Ae 3 Rt (J (A1 AB Tm (I 5)) (J (I 13) (J (I 6) A2))))))) B_)
    (AK (BZ (Du (AV (Ae 3 Rt (J (A1 AB Tm (I 5)) (J (I 13) (J (I 6) A2)))))) XL B_)
    (At (A1 Ξ (I 10) (Ae 4 P_ (J π (J (A1 AB (A1 AB ω (I 6)) (I 13)) (J (A1 AB (I 9) (B3 Ke ζ)) (J (I 8) A2)))))))))))))
def Wi:Bk:=Cw 14 Z5
def pn:Bz ["net","houses","taught","turned"] ["net"] (Bn oW):=CS
def ZC:Af:=
    (AK (AR (B6 Mj (J (B3 (Av "Net" "many") π) A2)) (A6 1))
    (AK (AR (D8 1 [] (Ca ω) (A6 0) (pu true) (As (J (pu (.str (AL "teach"))) Δ))) (A6 2))
    (AK (AR (D8 1 [] (Ca ω) (A6 0) (pu true) (As (J (pu (.str (AL "turn"))) Δ))) (A6 3))
    (At (Bv (A1 addW (A1 addW (A1 addW ψ Θ) (Bd (J (pu IQ) A2))) (D8 1 [] (Ca ω) (A6 0) (pu true) (As (J (pu (.str (AL "forget"))) Δ)))))))))
def Rx:Bk:=Cw 4 ZC
def qO:Bz ["_law_script","_law_counts_here","_law_wires_here","_law_old","_law_new","_law_outer_here","_law_plan_here","_law_net","_law_run","_law_came","_law_gone","_law_found","_law_entry"] ["_law_script"] (Bn KC):=CS
def R8:Af:=
    (AK (Lp (Ae 1 Rr Δ) (EI [(A6 1),(A6 2),(A6 3),(A6 4)]))
    (AK (AR (Ae 2 U8 (J ω Fr)) (A6 5))
    (AK (AR (Bv (Ae 2 Rw (J (Bv (D9 π (CP (pu (.int 10))) (CP (pu (.int 18))))) (J (B6 BO Ω) A2)))) (A6 6))
    (AK (AR (K4 "Net" 2 Of (J ω Fr)) (A6 7))
    (AK (AR (K4 "Run" 4 TG (J (I 7) (J Θ (J Tm (J (I 6) A2))))) (A6 8))
    (AK (Lp (Ae 4 U9 (J (I 8) (J (I 6) (J (Ae 2 Ru (J (Bv (A1 addW (Bd (J η A2)) (D9 π (CP (pu (.int 16))) (pu none)))) (J (pu (.int 60)) A2))) (J (I 5) A2))))) (EI [(A6 9),(A6 10)]))
    (AK (AR (Ae 4 Og (J (I 7) (J Θ (J Tm (J (I 6) A2))))) (A6 11))
    (AK (DZ (Ca (CO "Run" "journal" 0 Rm (I 8) A2)) (A6 12) (AK (BZ (Du (AV (Ae 5 Wi (J ψ (J (As (J Θ (J Tm A2))) (J (I 12) (J (I 9) (J (I 10) A2)))))))) XL B_)
    (BZ (F9 (AV (A1 Ξ (A1 AB (A1 AB (I 12) (pu (.int 5))) η) (pu (.str (AL "lost"))))) (FU (AV (A1 (Dj true) (I 11) Cl)) (AV (A1 VD (A1 AB (I 11) η) (CO "Run" "place" 0 I9 (I 8) A2))))) XL B_)))
    (At (A1 (Dj true) (Ae 4 Og (J (I 7) (J Θ (J Tm (J (Ae 1 Rx (J (I 7) A2)) A2))))) Cl))))))))))
def lA:Bk:=FA 13 R8
section
variable(P:C9)(w:Br){K:Ap}{mg:Str->Option A8}(base:BF)(T:Di K mg)
include T
set_option maxHeartbeats 4000000
def lY:DE P w K mg base "_law_cell_at" 2 1 M5:=by exists 0,Z3,T.w6,pS;ac_nf
def RU:DE P w K mg base "_law_mixed" 2 1 EW:=by exists 0,bO,T.wD,pZ;ac_nf
def aa2:DE P w K mg base "_law_counts" 1 2 U5:=by exists 1,Z4,T.w7,pT;exists RU;ac_nf
def lZ:DE P w K mg base "_law_doors" 1 1 Rs:=by exists 0,bN,T.w8,pU;ac_nf
def abC:DE P w K mg base "_law_wires" 2 2 Oh:=by exists 1,bR,T.vl,pi;exists lZ;exists RU;ac_nf
def ab2:DE P w K mg base "_law_free_book" 2 1 U7:=by exists 0,ih,T.wB,pX;ac_nf
def abB:DE P w K mg base "_law_row" 3 2 Wj:=by exists 1,bQ,T.vk,ph;exists RU;ac_nf
def za:DE P w K mg base "_law_books" 3 3 Mm:=by have h:=Nb (P:=P) (w:=w) (base:=base) (k:=2) (m:=ic) T.w4 qR;exact h (by have:=qR;have:=ab2 P w base T;have:=RU P w base T;have:=abB P w base T;ac_nf)
def zb:DE P w K mg base "_law_both" 2 4 Wh:=by have h:=Nb (P:=P) (w:=w) (base:=base) (k:=3) (m:=ie) T.w5 pR;exact h (by have:=pR;have:=za P w base T;have:=lY P w base T;have:=RU P w base T;ac_nf)
def z_:DE P w K mg base "_law_all" 1 5 Rr:=by have h:=Nb (P:=P) (w:=w) (base:=base) (k:=4) (m:=Z2) T.w2 qP;exact h (by have:=qP;have:=zb P w base T;have:=lY P w base T;have:=aa2 P w base T;have:=abC P w base T;ac_nf)
def lX:DE P w K mg base "_law_beyond" 2 1 PZ:=by exists 0,bM,T.w3,qQ;ac_nf
def ab7:DE P w K mg base "_law_outer" 2 2 U8:=by exists 1,bP,T.vg,pd;exists lX;exists lZ;ac_nf
def ab8:DE P w K mg base "_law_plain" 1 1 Rv:=by exists 0,Z8,T.vh,pe;ac_nf
def ab9:DE P w K mg base "_law_plan" 2 2 Rw:=by exists 1,ik,T.vi,pf;exists RU;exists ab8;ac_nf
def lW:DE P w K mg base "is_whole" 1 1 U3:=by exists 0,bK,T.vz,qL;ac_nf
def V5:DE P w K mg base "is_whole_within" 3 2 Ml:=by exists 1,Z1,T.w0,qM;exists lW;ac_nf
def zu:DE P w K mg base "are_counts" 1 3 Wa:=by exists 2,bi,T.wV,q0;exists V5;ac_nf
def lU:DE P w K mg base "is_pair" 1 1 Ro:=by exists 0,bp,T.vt,qF;ac_nf
def lT:DE P w K mg base "is_door_among" 2 3 U1:=by exists 2,bo,T.vq,qD;exists lU;exists V5;ac_nf
def zZ:DE P w K mg base "is_wire_among" 2 4 U4:=by exists 3,bL,T.w1,qN;exists lT;exists lU;ac_nf
def zx:DE P w K mg base "far_doors" 2 5 Wc:=by have h:=Nb (P:=P) (w:=w) (base:=base) (k:=4) (m:=ia) T.wY q5;exact h (by have:=q5;have:=zZ P w base T;ac_nf)
def ju:Uw P w K mg base "Net" 2 6 Of:=by have h:=ff (P:=P) (w:=w) (base:=base) (k:=5) (m:=YG) T.ud oe;exact h (by have:=oe;have:=zu P w base T;have:=zx P w base T;ac_nf)
def lV:DE P w K mg base "is_pattern" 1 1 Wf:=by exists 0,bI,T.vu,qG;ac_nf
def zU:DE P w K mg base "is_number_or_none" 2 3 U2:=by exists 2,Yx,T.vr,qE;exists V5;ac_nf
def zW:DE P w K mg base "is_row" 2 4 Wg:=by exists 3,bJ,T.vw,qI;exists zU;exists lV;ac_nf
def aa1:DE P w K mg base "is_book" 2 5 We:=by exists 4,bl,T.vo,qB;exists zW;ac_nf
def zd:H8 P w K mg base "Net" "count" 1 1 TA:=by have h:=Jf (P:=P) (w:=w) (mg:=mg) (base:=base) (k:=0) (m:=bc) T.uc od;exact(h (by have:=od;ac_nf)).st
def zT:DE P w K mg base "is_books" 2 6 Zh:=by exists 5,bn,T.vp,qC;exists zd;exists aa1;ac_nf
def abF:DE P w K mg base "refuse_unless_books" 2 7 Wk:=by exists 6,d0,T.xD,pq;exists zT;ac_nf
def zX:DE P w K mg base "is_step" 2 3 Rp:=by exists 2,Yz,T.vx,qJ;exists V5;ac_nf
def zV:DE P w K mg base "is_plan" 2 4 Zi:=by exists 3,Yy,T.vv,qH;exists zX;ac_nf
def la:DE P w K mg base "refuse_unless_plan" 4 8 Ry:=by exists 7,d2,T.xE,pv;exists zV;exists abF;ac_nf
def zh:H8 P w K mg base "Net" "wires" 0 1 PV:=by have h:=Jf (P:=P) (w:=w) (mg:=mg) (base:=base) (k:=0) (m:=bg) T.wI oj;exact(h (by have:=oj;ac_nf)).st
def zw:DE P w K mg base "copied_net" 1 8 Wb:=by have h:=Nb (P:=P) (w:=w) (base:=base) (k:=7) (m:=i_) T.wX q4;exact h (by have:=q4;have:=ju P w base T;have:=zh P w base T;ac_nf)
def zv:DE P w K mg base "copied_books" 1 1 Rn:=by have h:=Nb (P:=P) (w:=w) (base:=base) (k:=0) (m:=iZ) T.wW q3;exact h (by have:=q3;ac_nf)
def zk:Uw P w K mg base "Run" 4 9 TG:=by have h:=ff (P:=P) (w:=w) (base:=base) (k:=8) (m:=Xo) T.wL oE;exact h (by have:=oE;have:=zv P w base T;have:=zw P w base T;have:=la P w base T;ac_nf)
def ZX:H8 P w K mg base "Run" "place" 0 1 I9:=by have h:=Jf (P:=P) (w:=w) (mg:=mg) (base:=base) (k:=0) (m:=bh) T.wR oK;exact(h (by have:=oK;ac_nf)).st
def zr:H8 P w K mg base "Run" "under" 0 1 PX:=by have h:=Jf (P:=P) (w:=w) (mg:=mg) (base:=base) (k:=0) (m:=Xt) T.wT oM;exact(h (by have:=oM;ac_nf)).st
def kR:DE P w K mg base "is_address" 1 3 U0:=by exists 2,bk,T.wc,qA;exists V5;ac_nf
def ze:H8 P w K mg base "Net" "is_door" 1 4 W_:=by have h:=Jf (P:=P) (w:=w) (mg:=mg) (base:=base) (k:=3) (m:=be) T.vC og;exact(h (by have:=og;have:=lT P w base T;ac_nf)).st
def zf:H8 P w K mg base "Net" "is_outer" 1 5 TB:=by have h:=Jf (P:=P) (w:=w) (mg:=mg) (base:=base) (k:=4) (m:=bf) T.wG oh;exact(h (by have:=oh;have:=ze P w base T;ac_nf)).st
def aaS:Uw P w K mg base "Letter" 3 1 WZ:=by have h:=ff (P:=P) (w:=w) (base:=base) (k:=0) (m:=YF) T.ua ob;exact h (by have:=ob;ac_nf)
def zi:H8 P w K mg base "Run" "come" 2 6 TD:=by have h:=Jf (P:=P) (w:=w) (mg:=mg) (base:=base) (k:=5) (m:=Xm) T.wJ om;exact(h (by have:=om;have:=aaS P w base T;have:=zf P w base T;have:=kR P w base T;ac_nf))
def zm:H8 P w K mg base "Run" "knows" 2 1 TH:=by have h:=Jf (P:=P) (w:=w) (mg:=mg) (base:=base) (k:=0) (m:=Xq) T.wN oG;exact(h (by have:=oG;ac_nf)).st
def jv:DE P w K mg base "fits" 2 4 PY:=by exists 3,bj,T.wa,q8;exists kR;exists lV;ac_nf
def abG:DE P w K mg base "taken" 3 5 Wl:=by exists 4,iq,T.xF,px;exists jv;ac_nf
def zc:H8 P w K mg base "Net" "beyond" 1 1 Rl:=by have h:=Jf (P:=P) (w:=w) (mg:=mg) (base:=base) (k:=0) (m:=bb) T.ub oc;exact(h (by have:=oc;ac_nf)).st
def l_:DE P w K mg base "onward" 4 6 NO:=by exists 5,ZB,T.vn,pk;exists zc;exists abG;ac_nf
def zp:H8 P w K mg base "Run" "next_of" 1 7 Sr:=by have h:=Jf (P:=P) (w:=w) (mg:=mg) (base:=base) (k:=6) (m:=Xs) T.wQ oJ;exact(h (by have:=oJ;have:=zm P w base T;have:=l_ P w base T;ac_nf)).st
def zj:H8 P w K mg base "Run" "go" 1 8 TF:=by have h:=Jf (P:=P) (w:=w) (mg:=mg) (base:=base) (k:=7) (m:=Xn) T.wK oD;exact(h (by have:=oD;have:=zp P w base T;have:=lW P w base T;ac_nf))
def zn:H8 P w K mg base "Run" "may_step" 0 2 TJ:=by have h:=Jf (P:=P) (w:=w) (mg:=mg) (base:=base) (k:=1) (m:=Xr) T.wO oH;exact(h (by have:=oH;have:=ZX P w base T;ac_nf)).st
def zq:H8 P w K mg base "Run" "step" 0 3 PW:=by have h:=Jf (P:=P) (w:=w) (mg:=mg) (base:=base) (k:=2) (m:=Sp) T.wS oL;exact(h (by have:=oL;have:=zn P w base T;have:=ZX P w base T;ac_nf))
def zo:H8 P w K mg base "Run" "move" 1 9 K5:=by have h:=Jf (P:=P) (w:=w) (mg:=mg) (base:=base) (k:=8) (m:=So) T.wP oI;exact(h (by have:=oI;have:=zi P w base T;have:=zj P w base T;have:=zq P w base T;ac_nf))
def ab4:DE P w K mg base "_law_move" 2 10 LC:=by have h:=Nb (P:=P) (w:=w) (base:=base) (k:=9) (m:=SP) T.wE p_;exact h (by have:=p_;have:=zo P w base T;ac_nf)
def abA:DE P w K mg base "_law_played" 4 11 U9:=by have h:=Nb (P:=P) (w:=w) (base:=base) (k:=10) (m:=Z9) T.vj pg;exact h (by have:=pg;have:=ZX P w base T;have:=zr P w base T;have:=ab4 P w base T;ac_nf)
def ab5:DE P w K mg base "_law_moves" 2 2 Ru:=by have h:=Nb (P:=P) (w:=w) (base:=base) (k:=1) (m:=Z7) T.ve pa;exact h (by have:=pa;have:=RU P w base T;ac_nf)
def zg:H8 P w K mg base "Net" "outer" 0 1 TC:=by have h:=Jf (P:=P) (w:=w) (mg:=mg) (base:=base) (k:=0) (m:=Xl) T.wH oi;exact(h (by have:=oi;ac_nf)).st
def zt:DE P w K mg base "addresses" 1 5 Ss:=by exists 4,Xu,T.wU,oo;exists jv;ac_nf
def zz:DE P w K mg base "first_untaught" 2 1 Wd:=by exists 0,Yv,T.w_,q7;ac_nf
def abH:DE P w K mg base "walked" 4 7 Oi:=by have h:=Nb (P:=P) (w:=w) (base:=base) (k:=6) (m:=ZD) T.xG pI;exact h (by have:=pI;have:=l_ P w base T;ac_nf)
def zY:DE P w K mg base "is_waited_for" 2 1 Rq:=by exists 0,Z0,T.vy,qK;ac_nf
def aa0:DE P w K mg base "house_at_fault" 7 8 TK:=by exists 7,Yw,T.wb,q9;exists zz;exists zY;exists abH;ac_nf
def abD:DE P w K mg base "least_fault" 4 9 Zj:=by exists 8,ZA,T.vm,pj;exists zg;exists zt;exists aa0;ac_nf
def zy:DE P w K mg base "fault" 4 10 Og:=by exists 9,YH,T.wZ,q6;exists abD;exists la;ac_nf
def zl:H8 P w K mg base "Run" "journal" 0 1 Rm:=by have h:=Jf (P:=P) (w:=w) (mg:=mg) (base:=base) (k:=0) (m:=Xp) T.wM oF;exact(h (by have:=oF;ac_nf))
def ab1:DE P w K mg base "_law_fits" 2 1 U6:=by exists 0,ig,T.wA,pW;ac_nf
def ab6:DE P w K mg base "_law_next" 4 2 P_:=by exists 1,ij,T.vf,pb;exists lX;exists ab1;ac_nf
def ab3:DE P w K mg base "_law_knows" 3 1 Rt:=by exists 0,Z6,T.wC,pY;ac_nf
def ab0:DE P w K mg base "_law_entry_right" 5 3 Wi:=by exists 2,Z5,T.w9,pV;exists ab3;exists ab6;ac_nf
def abE:DE P w K mg base "plain_plan" 1 1 Rx:=by exists 0,ZC,T.wF,pn;ac_nf
def tf:C6 P w K mg base "law" KC ["_law_script","_law_counts_here","_law_wires_here","_law_old","_law_new","_law_outer_here","_law_plan_here","_law_net","_law_run","_law_came","_law_gone","_law_found","_law_entry"] 11 R8:=by have:=qO;have:=ju P w base T;have:=zk P w base T;have:=zl P w base T;have:=ZX P w base T;have:=z_ P w base T;have:=ab0 P w base T;have:=ab5 P w base T;have:=ab7 P w base T;have:=ab9 P w base T;have:=abA P w base T;have:=zy P w base T;have:=abE P w base T;ac_nf
end
def JX(x:Int){n:Nat}(h:0<n):∃j:Nat,j<n/\x%(n:Int)=(j:Int):=by have h1:=Int.emod_nonneg x (show(n:Int)≠0 by lia);have h2:=Int.emod_lt_of_pos x (show(0:Int)<n by lia);exact⟨(x%(n:Int)).toNat,δ,δ⟩
def BK(ks:↑Int):↑W:=ks.map W.int
def iH(h:A5)(ns:↑Int)(k:Nat):∃c:Int,M5 [.Df (BK ns),.int k] h=.ok (.int c,h):=by
 have es:=aL h (BK ns);by_cases AN:k< ⇑ns
 .refine⟨ns[k],?_⟩;have ex:AB (.Df (BK ns)) (.int (k:Int)) h=.ok (.int ns[k],h):=T2 h es (by simp[BK,AN]);have Ee:⇑(BK ns)=⇑ns:=by simp[BK]
  simp[M5,Z3,BO,es,Ee,AN,ex]
 .have Ee:⇑(BK ns)=⇑ns:=by simp[BK]
  exact⟨0,by simp[M5,Z3,BO,es,Ee,AN]⟩
def mB(l:↑Int)(x:Int){n:Nat}(AZ:⇑l=n)(h0:0<n):∃f∈l,∀h g:A5,g[0]?=↥⟨.lst,BK l⟩->AB (.ref ⇑h) (.int (x%(n:Int))) (h++g)=.ok (.int f,h++g):=by obtain⟨j,Ac,e⟩:=JX x h0;rw[e];exact⟨l[j],Hu _,λh g eg=>T2 _ (Gs _ (by rw[DP];exact eg)) (by simp[BK,AZ,Ac])⟩
def NQ(c:Int)(k:Nat)(AN:k<1000):∃y:Int,∀h,EW [.int c,.int k] h=.ok (.int y,h):=by
 obtain⟨f,hf,CC⟩:=mB [48271,69621,16807,39373,40692,742938285,950706376,1343714438] k (n:=8) rfl ε;obtain⟨p,AT,BA⟩:=mB [2147483647,2147483629,2147483587,2147483579,2147483563] k (n:=5) rfl ε;have f0:0<f/\f<18446744073709551616:=(by decide:∀f∈([48271,69621,16807,39373,40692,742938285,950706376,1343714438]:↑Int),0<f/\f<18446744073709551616) f hf;have Hy:0<p:=(by decide:∀p∈([2147483647,2147483629,2147483587,2147483579,2147483563]:↑Int),0<p) p AT;refine⟨((c%10^30+31*k+7)*f%p)/7,λh=>?_⟩;have CC:=CC h [⟨.lst,BK [48271,69621,16807,39373,40692,742938285,950706376,1343714438]⟩] rfl;have BA:=BA h [⟨.lst,BK [2147483647,2147483629,2147483587,2147483579,2147483563]⟩] rfl;erw[BK,Do,IE,Int.cast_ofNat_Int]at CC BA;have Bm:∀x:Int,L8 x f:=λx=>.inr (by constructor<;>lia);have Cc:L8 31 (k:Int):=.inl ε;have FF:O6 10 30:=ε
 simp[EW,bO,nw,B1,CC,BA,Bm,Cc,FF,Hy]
noncomputable def Bq(cs:↑Nat):↑W:=cs.map λ(c:Nat)=>W.int (c:Int)
abbrev AS:=Nat×Nat
noncomputable def AI(d:AS):W:=.tup [.int (d.1:Nat),.int (d.2:Nat)]
def CJ(w:AS×AS):W:=.tup [AI w.1,AI w.2]
noncomputable def ends(ws:ν):↑AS:=(ws.map λw=>[w.1,w.2]).flatten
theorem Yf{α:Type}:∀(l:↑α)(i:Nat)(h:i< ⇑l),List.Perm (l[i]::l.eraseIdx i) l
 |x::l,0,_=>List.Perm.refl _
 |x::l,i+1,h=>by have C4:=Yf l i (h:);erw[List.getElem_cons_succ,sH];exact(List.Perm.swap x _ _).trans (C4.cons x)
noncomputable def Oz(cs:↑Nat)(h:Nat):↑AS:=(C8 (cs.getD h 0)).map λk=>(h,k)
def CR(cs:↑Nat)(n:Nat):↑AS:=(C8 n).flatMap (Oz cs)
def YA(cs:↑Nat)(n:Nat):CR cs (n+1)=CR cs n++Oz cs n:=by unfold CR;rw[Ub,List.flatMap_append];simp
def dx{cs:↑Nat}{h:Nat}{d:AS}:d∈Oz cs h↔d.1=h/\d.2<cs.getD h 0:=by
 unfold Oz;rw[XY];constructor
 .rintro⟨k,AN,rfl⟩;exact⟨rfl,List.mem_range.mp AN⟩
 .rintro⟨rfl,h2⟩;exact⟨d.2,List.mem_range.mpr h2,rfl⟩
def Pb{cs:↑Nat}{n:Nat}{d:AS}:d∈CR cs n↔d.1<n/\d.2<cs.getD d.1 0:=by
 unfold CR;rw[List.mem_flatMap];constructor
 .rintro⟨h,hh,hd⟩;obtain⟨rfl,h2⟩:=dx.mp hd;exact⟨List.mem_range.mp hh,h2⟩
 .rintro⟨h1,h2⟩;exact⟨d.1,List.mem_range.mpr h1,dx.mpr ⟨rfl,h2⟩⟩
def vY(cs:↑Nat)(h:Nat):(Oz cs h).Nodup:=by unfold Oz;rw[gM,XU];exact List.nodup_range.imp λVH z=>VH (Prod.mk.inj z).2
theorem iU(cs:↑Nat):∀n,(CR cs n).Nodup
 |0=>Qp
 |n+1=>by rw[YA];refine List.nodup_append.mpr ⟨iU cs n,vY cs n,λa AG b A4 z=>?_⟩;subst z;have h1:=(Pb.mp AG).1;have h2:=(dx.mp A4).1;lia
def jP{cs:↑Nat}(h:∀c∈cs,c<=4)(k:Nat):cs.getD k 0<=4:=by
 rw[EC];cases e:cs[k]? with
 |none=>simp
 |some c=>simpa using h c (IG e)
def vX{cs:↑Nat}(h:∀c∈cs,1<=c/\c<=4)(k:Nat):⇑(Oz cs k)<=4:=by unfold Oz;rw[CE,SF];exact jP (λc AJ=>(h c AJ).2) k
theorem Pd{cs:↑Nat}(h:∀c∈cs,1<=c/\c<=4):∀n,⇑(CR cs n)<=4*n
 |0=>by simp[CR]
 |n+1=>by rw[YA,F1];have:=Pd h n;have:=vX h n;lia
def Vi{cs:↑Nat}{h:Nat}(hh:h< ⇑cs):(Bq cs)[h]?=↥(.int (cs.getD h 0:Nat)):=by simp[Bq,C7 hh,EC]
structure Gk(cs:↑Nat)(ws:ν):Prop where
 h1:1<=⇑cs
 EJ:⇑cs<=6
 c:∀c∈cs,1<=c/\c<=4
 Bg:(ends ws).Nodup
 sub:∀d∈ends ws,d∈CR cs ⇑cs
 few:⇑ws<100
def head_mem{cs:↑Nat}(h1:1<=⇑cs)(c:∀c∈cs,1<=c/\c<=4):((0,0):AS)∈CR cs ⇑cs:=by
 refine Pb.mpr ⟨h1,?_⟩;cases cs with
 |nil=>simp at h1
 |cons x r=>exact(c x (Hs ..)).1
@[simp] theorem ajz(cs:↑Nat):Fe (Bq cs)=true:=K7.mpr λw hw=>by obtain⟨c,_,rfl⟩:=List.mem_map.mp hw;simp
@[simp] theorem e0(d:AS):DR (AI d)=true:=by simp[AI]
@[simp] theorem lR(w:AS×AS):DR (CJ w)=true:=by simp[CJ]
def GR{α:Type}(f:α->W)(l:↑α)(e:∀a,DR (f a)=true):Fe (l.map f)=true:=K7.mpr λw hw=>by obtain⟨c,_,rfl⟩:=List.mem_map.mp hw;exact e c
def b2:O6 10 60:=ε
def vD(cell:Int):∃cs:↑Nat,(1<=⇑cs/\ ⇑cs<=6)/\(∀c∈cs,1<=c/\c<=4)/\∀h,U5 [.int cell] h=.ok (.ref ⇑h,h++[⟨.lst,Bq cs⟩]):=by
 by_cases ho:cell%2=1
 .obtain⟨N,hN⟩:∃N:Int,cell/2%1000000000000000000000000000000000000000000000000000000000000=N:=ο;obtain⟨m,hm,em⟩:=JX (N) (n:=6) ε;have dP:(1:Int)+N%6=(m:Int)+1:=by have:N%6=(m:Int):=em;lia
  let G:Nat->Int:=λk=>([1,4,16,64,256,1024]:↑Int).getD k 1
  have Ai:∀k,0<G k/\G k<1073741824:=λk=>by
   by_cases AN:k<6
   .rcases(by lia:k=0\/k=1\/k=2\/k=3\/k=4\/k=5)with rfl|rfl|rfl|rfl|rfl|rfl<;>exact⟨ε,ε⟩
   .have:G k=1:=by erw[G];rw[EC,JE (by simp;lia)];rfl
    rw[this];decide
  let KO:Nat->Nat:=λk=>(1+N/6/G k%4).toNat
  have Vf:∀k,1<=KO k/\KO k<=4/\1+N/6/G k%4=(KO k:Int):=λk=>by erw[KO];lia
  refine⟨(C8 (m+1)).map KO,⟨γ,by simp;lia⟩,λc AJ=>?_,λh=>?_⟩
  .obtain⟨k,_,rfl⟩:=List.mem_map.mp AJ;exact⟨(Vf k).1,(Vf k).2.1⟩
  .have c:=Vh (mi:=Ct (J (A1 addW ζ (A1 BR ω (pu (.int 6)))) A2)) (e:=Bv (A1 addW ζ (A1 BR (A1 Cg (A1 Cg ω (pu (.int 6))) (A1 AB (Bd (J ζ (J (pu (.int 4)) (J (pu (.int 16)) (J (pu (.int 64)) (J (pu (.int 256)) (J (pu (.int 1024)) A2))))))) π)) (pu (.int 4)))))
     (ρ:=[↥(.int cell),↥(.int (N))]) (h:=h) (h0:=h) (caps:=[1]) 0 (m+1) (λk=>.int (KO k:Nat)) δ (Ir (n:=m+1) (by
       simp[dP]) δ) (λk AN acc=>by
       have ex:AB (.ref (⇑h+1)) (.int (k:Int)) (h++[⟨.lst,acc⟩,⟨.lst,BK [1,4,16,64,256,1024]⟩])=.ok (.int (G k),h++[⟨.lst,acc⟩,⟨.lst,BK [1,4,16,64,256,1024]⟩]):=T2 (ws:=BK [1,4,16,64,256,1024]) _ (Gs _ γ) (by rcases(by lia:k=0\/k=1\/k=2\/k=3\/k=4\/k=5)with rfl|rfl|rfl|rfl|rfl|rfl<;>rfl)
       erw[BK,Do,IE]at ex;have:=(Vf k).2.2;simp[nw,B1,ex,Ai k,this])
   simp[U5,Z4,ho,b2,hN];rw[c];simp;rw[MC h _ rfl (by exact GR _ _ λa=>γ)];simp[Bq,Ny]
 .obtain⟨y,DY⟩:=NQ cell 0 ε;obtain⟨m,hm,em⟩:=JX y (n:=6) ε;have dP:(1:Int)+y%6=(m:Int)+1:=by have:y%6=(m:Int):=em;lia
  have ex:∀k:Nat,∃c:Nat,(1<=c/\c<=4)/\(k<10->∃z:Int,(∀h,EW [.int cell,.int (1+(k:Int))] h=.ok (.int z,h))/\1+z%4=(c:Int)):=λk=>by
   by_cases AN:k<10
   .obtain⟨z,Go⟩:=NQ cell (1+k) δ;exact⟨(1+z%4).toNat,δ,λ_=>⟨z,λh=>by rw[<-Go h];simp,δ⟩⟩
   .exact⟨1,δ,λh=>absurd h AN⟩
  let KO:Nat->Nat:=λk=>(ex k).choose
  have Vf:∀k,1<=KO k/\KO k<=4:=λk=>(ex k).choose_spec.1;have tV:∀k:Nat,k<10->∃z:Int,(∀h,EW [.int cell,.int (1+(k:Int))] h=.ok (.int z,h))/\1+z%4=(KO k:Int):=λk=>(ex k).choose_spec.2;refine⟨(C8 (m+1)).map KO,⟨γ,by simp;lia⟩,λc AJ=>?_,λh=>?_⟩
  .obtain⟨k,_,rfl⟩:=List.mem_map.mp AJ;exact Vf k
  .have uZ:EW [.int cell,.int 0] h=.ok (.int y,h):=DY h
   have c:=Vh (mi:=Ct (J (A1 addW ζ (A1 BR (Ae 2 EW (J π (J η A2))) (pu (.int 6)))) A2)) (e:=A1 addW ζ (A1 BR (Ae 2 EW (J ω (J (A1 addW ζ π) A2))) (pu (.int 4))))
    (ρ:=[↥(.int cell),none]) (h:=h) (h0:=h) (caps:=[0]) 0 (m+1) (λk=>.int (KO k:Nat)) δ (Ir (n:=m+1) (by
      simp[uZ,dP]) δ) (λk AN acc=>by
      obtain⟨z,AA,AE⟩:=tV k δ;simp[AA,AE])
   simp[U5,Z4,ho];rw[c];simp;rw[MC h _ rfl (by exact GR _ _ λa=>γ)];simp[Bq,Ny]
end E4
namespace BX
def IW{h g:A5}(p:h<+: g):G3 h g=true:=by obtain⟨r,rfl⟩:=p;simp
def FC{h g:A5}(p:h<+: g)(r:A5):h<+: g++r:=p.trans (FN _ _)
def LF{h:A5}{i j:Nat}{a b:↑W}(AA:h[i]?=↥⟨.lst,a⟩)(AE:h[j]?=↥⟨.lst,b⟩)(l:⇑a+⇑b<=B1):addW (.ref i) (.ref j) h=.ok (.ref ⇑h,h++[⟨.lst,a++b⟩]):=by have f1:=NK h AA;have f2:=NK h AE;unfold addW;erw[f1,f2];exact Hj h (l:)
def Gh{h:A5}{n:Nat}{ws:↑W}(e:h[n]?=↥⟨.lst,ws⟩):BO [.ref n] h=.ok (.int ⇑ws,h):=by simp[BO,Gs h e]
def G2{h:A5}{n k:Nat}{ws:↑W}{w:W}(e:h[n]?=↥⟨.lst,ws⟩)(x:ws[k]?=↥w):AB ST (.int (k:Int)) h=.ok (w,h):=T2 h (Gs h e) x
end BX
namespace E4
def jY{cs:↑Nat}(EJ:⇑cs<=6)(ES:∀c∈cs,1<=c/\c<=4){h:A5}{n:Nat}(Az:h[n]?=↥⟨.lst,Bq cs⟩):Rs [.ref n] h=.ok (.ref ⇑h,h++[⟨.lst,(CR cs ⇑cs).map AI⟩]):=by
 apply Ends.done;have lcs:⇑(Bq cs)=⇑cs:=by simp[Bq]
 erw[Rs,WP,bN,Am,Cy,LL,Bx,A0,Hj h (show⇑([]:↑W)<=B1 by simp),QV,I3];erw[VW,Do,IE,Dn,Fg,Ht,Nu,HG,UZ,GG,Qd,Mz,Qj,if_true,A0,Ax,Am,I3]
 have B2:=MZ (mi:=Ct (J (B6 BO Δ) A2)) (g:=A6 2) (b:=AR (Bv (A1 addW ω (D8 1 [2] (Ct (J (A1 AB π ψ) A2)) (A6 0) (pu true) (As (J ω Δ))))) (A6 1))
  (ρ:=[χ,υ,none]) (h:=h++[⟨.lst,[]⟩]) (h0:=h++[⟨.lst,[]⟩]) 0 ⇑cs δ
  (λj ρ h'=>∃a s2,ρ=[χ,↥(.ref a),s2]/\h'[n]?=↥⟨.lst,Bq cs⟩/\h'[a]?=↥⟨.lst,(CR cs j).map AI⟩/\ ⇑h<=a/\h<+: h')
  (T:=λf h'=>∃a s2,f=.AM [χ,↥(.ref a),s2]/\h'[a]?=↥⟨.lst,(CR cs ⇑cs).map AI⟩/\ ⇑h<=a/\h<+: h')
  (Ir (n:=⇑cs) (by simp[Gh (Bl h Az _),lcs]) δ) ⟨⇑h,none,rfl,Bl h Az _,by simp[CR],C5 _,FN _ _⟩ ?_ ?_
 .obtain⟨f,h',CC,a,s2,rfl,BJ,Hi,pr⟩:=B2.FW;rw[CC];simp[J8 h h' (IW pr) Hi BJ (GR _ _ e0)]
 .rintro j _ H1 Ac ⟨a,s2,rfl,AA,AE,Hi,pr⟩;refine⟨[χ,↥(.ref a),τ],H1,γ,?_⟩;have lh:=jP (λc AJ=>(ES c AJ).2) j;have Ee:=Pd ES j
  have c:=Vh (mi:=Ct (J (A1 AB π ψ) A2)) (e:=As (J ω Δ)) (ρ:=[χ,↥(.ref a),τ]) (h:=H1) (h0:=H1) (caps:=[2]) 0 (cs.getD j 0) (λk=>AI (j,k)) δ
   (Ir (by erw[BD,BG,v_var,Dm,EX,Cj,A0,G2 AA (Vi Ac),Bx]) δ) (λk AN acc=>by simp[B1,AI])
  erw[Cy,Fv,BG,v_var,EX,Dm,Cj,A0,c];rw[LF (b:=(C8 (cs.getD j 0)).map λk=>AI (j,k)) (Bl H1 AE _) γ (by erw[CE,SF,B1];lia)];have es:=J8 H1 (H1++[⟨.lst,(C8 (cs.getD j 0)).map λk=>AI (j,k)⟩]++[⟨.lst,(CR cs j).map AI++(C8 (cs.getD j 0)).map λk=>AI (j,k)⟩]) (n:=⇑H1+1) (ws:=(CR cs j).map AI++(C8 (cs.getD j 0)).map λk=>AI (j,k)) γ δ γ (K7.mpr λw hw=>by
   rcases List.mem_append.mp hw with hw|hw
   .obtain⟨d,_,rfl⟩:=List.mem_map.mp hw;simp
   .obtain⟨d,_,rfl⟩:=List.mem_map.mp hw;simp)
  erw[A0,F1,Dn,Fg,Nat.zero_add,es];erw[QV,Dn,Fg,HG,Qj,if_true,Vr,YK,Qd,Mz];refine⟨⇑H1,τ,rfl,Bl H1 AA _,?_,List.IsPrefix.length_le pr,FC pr _⟩;rw[YA];simp[Oz]
 .rintro _ h' ⟨a,s2,rfl,AA,AE,Hi,pr⟩;exact⟨a,s2,rfl,AE,Hi,pr⟩
end E4
namespace BX
def IT{h:A5}{n:Nat}{ws:↑W}{m:BB}{ρ:B5}{h0:A5}(e:h[n]?=↥⟨.lst,ws⟩)(em:m ρ h0=.ok (.ref n,h)):Ca m ρ h0=.ok (FG ST,h):=by unfold Ca;erw[Hq,em,A0,Gs h e]
def K3{h:A5}{n:Nat}{ws:↑W}(e:h[n]?=↥⟨.lst,ws⟩)(j:Nat):FG ST j h=↥ws[j]?:=by erw[FG,Gs h e]
@[simp] theorem ajZ(f g:DN)(x y:W)(ρ:B5)(h:A5):EI [f,g] (.tup [x,y]) ρ h=(f x ρ h).bind (NZ λρ h=>(g y ρ h).bind (NZ B_)):=by
  erw[EI,WL,Dn,Fg,Ts,Am];rw[if_pos trivial]
  congr
end BX
namespace E4
def b8(h:A5)(d:AS):CI 8 h (AI d)=↥(.Ci true [.int (d.1:Nat),.int (d.2:Nat)]):=by simp[AI,CI]
def Yc(h:A5)(a b:AS):Ay true (AI a) (AI b) h=.ok (.AO (decide (a=b)),h):=by
 unfold Ay;rw[b8,b8];erw[eqT,Gg]
 congr 3
 obtain⟨a1,a2⟩:=a;obtain⟨b1,F6⟩:=b;by_cases h1:a1=b1<;>by_cases h2:a2=F6<;>simp[h1,h2]
 all_goals lia
noncomputable def Dt:ν->AS->Option AS
 |[],_=>none
 |w::ws,d=>if w.1=d then↥w.2 else if w.2=d then↥w.1 else Dt ws d
def IV:Option AS->W
 |none=>.non
 |some d=>AI d
@[simp] theorem ajt(o:Option AS):DR (IV o)=true:=by cases o<;>simp[IV]
def i4{ws:ν}(AH:⇑ws<100){h:A5}{n:Nat}(Az:h[n]?=↥⟨.lst,ws.map CJ⟩)(d:AS):PZ [.ref n,AI d] h=.ok (IV (Dt ws d),h):=by
 apply Ends.done
 have B2:=P1 (mi:=Ca π) (it:=FG ST) (g:=EI [(A6 2),(A6 3)]) (b:=AK (BZ (AV (A1 Ξ ψ ω)) (At Θ) B_) (BZ (AV (A1 Ξ Θ ω)) (At ψ) B_))
  (ρ:=[χ,KK,none,none]) (h:=h) (h0:=h) (ws.map CJ) (by simp;lia)
  (λj ρ h'=>∃s2 s3,ρ=[χ,KK,s2,s3]/\h'=h/\Dt (ws.drop j) d=Dt ws d)
  (T:=λf h'=>h'=h/\((∃ρ,f=.AM ρ/\Dt ws d=none)\/f=.Dq (IV (Dt ws d))))
  (IT Az γ) (λj ρ h' _⟨_,_,_,e,_⟩=>by rw[e];exact K3 Az j) ⟨none,none,rfl,rfl,rfl⟩ ?_ ?_
 .obtain⟨f,h',CC,rfl,q⟩:=B2.FW;erw[PZ,WP,bM,Am,I3,VW,Do,IE,Dn,Fg,Ht,Nu,HG,UZ,GG,CC,A0];rcases q with⟨ρ,rfl,e⟩|rfl
  .simp[e,IV]
  .simp
 .rintro j w _ H1 C2 ⟨s2,s3,rfl,Gf,e⟩;subst Gf;rw[Da]at C2;cases BV:ws[j]? with
  |none=>rw[BV]at C2;cases C2
  |some p=>
   rw[BV]at C2;cases C2;have Ac:j< ⇑ws:=(List.getElem?_eq_some_iff.mp BV).1;have hd:ws.drop j=p::ws.drop (j+1):=by rw[gP Ac];have:=(List.getElem?_eq_some_iff.mp BV).2;rw[this]
   rw[hd]at e;refine⟨[χ,KK,↥(AI p.1),↥(AI p.2)],H1,by simp[CJ],?_⟩;erw[Dt]at e;by_cases h1:p.1=d
   .rw[if_pos h1]at e;simp[Yc,h1,<-e,IV]
   .rw[if_neg h1]at e;by_cases h2:p.2=d
    .rw[if_pos h2]at e;simp[Yc,h1,h2,<-e,IV]
    .rw[if_neg h2]at e;simp[Yc,h1,h2,e]
 .rintro _ _ ⟨s2,s3,rfl,rfl,e⟩;refine⟨rfl,.inl ⟨_,rfl,?_⟩⟩;rw[<-e];simp[Dt]
def aa4(h:A5)(o:Option AS):Dj true (IV o) .non h=.ok (.AO o.isNone,h):=by cases o<;>rfl
def adP{cs:↑Nat}{ws:ν}(N:Gk cs ws){h:A5}{n k:Nat}(Az:h[n]?=↥⟨.lst,Bq cs⟩)(DH:h[k]?=↥⟨.lst,ws.map CJ⟩) :
  U8 [.ref n,.ref k] h=.ok (.ref ⇑h,h++[⟨.lst,((CR cs ⇑cs).filter λd=>(Dt ws d).isNone).map AI⟩]):=by
 have KS:=jY N.EJ N.c Az;have Ee:=Pd N.c ⇑cs;have ZZ:=N.EJ
 have c:=Ox (mi:=Ca (Ae 1 Rs Δ)) (it:=FG (.ref ⇑h)) (g:=A6 0) (t:=AV (A1 (Dj true) (Ae 2 PZ (J ω Δ)) Cl)) (e:=I 0) (ρ:=[χ,↥(.ref k)]) (h:=h++[⟨.lst,(CR cs ⇑cs).map AI⟩]) (h0:=h) (nl:=1) (caps:=[1])
  ((CR cs ⇑cs).map AI) (λw=>match w with
    |.tup [.int a,.int b]=>(Dt ws (a.toNat,b.toNat)).isNone
    |_=>false) id (λρ=>∃x,ρ=[x,↥(.ref k)]) (by simp;lia) (IT (ws:=(CR cs ⇑cs).map AI) γ (by simp[KS])) ⟨none,rfl⟩ (λj acc _=>K3 (by rw[Dd];simp) j) (by
    rintro w hw ρ acc ⟨x,rfl⟩;obtain⟨d,hd,rfl⟩:=List.mem_map.mp hw;refine⟨[KK,↥(.ref k)],γ,⟨_,rfl⟩,?_,λ_=>γ⟩;have b:=i4 N.few (Bl _ (Bl h DH [⟨.lst,(CR cs ⇑cs).map AI⟩]) [⟨.lst,acc⟩]) d;erw[Eg,BG,GZ,BD,v_var,Dm,EX,Cj,A0,Bx,Dn,Fg,HG,if_true,b,Be,aa4,F7];simp[AI])
 erw[U8,WP,bP,FZ,VW,Do,IE,Dn,Fg,Ht,Nu,HG,UZ,GG,La,c,A0,GT];have CC:(((CR cs ⇑cs).map AI).filter λw=>match w with
   |.tup [.int a,.int b]=>(Dt ws (a.toNat,b.toNat)).isNone
   |_=>false)=((CR cs ⇑cs).filter λd=>(Dt ws d).isNone).map AI:=by
  rw[List.filter_map]
  congr 1
 rw[CC,List.map_id];exact J8 h _ (IW (FC (FN _ _) _)) γ γ (GR _ _ e0)
end E4
namespace BX
theorem Ye{α β:Type}(f:α->β):∀(l:↑α)(k:Nat),(l.map f).eraseIdx k=(l.eraseIdx k).map f
 |[],_=>γ
 |x::l,0=>γ
 |x::l,k+1=>by simp[Ye f l k]
def aeR:(2:Int)^63=9223372036854775808:=ε
def fW{ws:↑W}{k:Nat}(AN:k< ⇑ws)(AH:⇑ws<1000):JY ws [.int (k:Int)]=↥(ws[k],ws.eraseIdx k):=by
 have c: -(2^63)<=(k:Int)/\(k:Int)<2^63:=by rw[aeR];lia
 have e:SL (k:Int) ⇑ws=↥k:=by unfold SL;simp[show¬(k:Int)<0 by lia,AN]
 erw[JY,if_pos c,e,C7 AN,Nv]
def JV{f:N8}{m:BB}{a:E6}{ρ:B5}{h h1 h2:A5}{n:Nat}{ws ws2 ws' us:↑W}{r:W}(em:m ρ h=.ok (.ref n,h1))(AA:h1[n]?=↥⟨.lst,ws⟩)(BJ:a ρ h1=.ok (us,h2))(AE:h2[n]?=↥⟨.lst,ws2⟩)(CC:f ws2 us=↥(r,ws'))(AH:⇑ws'<=B1) :
  DQ f m a ρ h=.ok (r,h2.set n ⟨.lst,ws'⟩):=by
 rw[afs,em];erw[A0,Pv,NK h1 AA,Hq,BJ,Zd,NK h2 AE,CC];exact if_pos AH
def WH{h g:A5}(p:h<+: g){n:Nat}(l:⇑h<=n)(o:O):h<+: g.set n o:=by obtain⟨r,rfl⟩:=p;rw[sg _ _ l];exact FN _ _
def Gz{h:A5}{i j:Nat}(ne:i≠j)(o:O):(h.set i o)[j]?=h[j]?:=ML ne
def KD{h:A5}{i:Nat}{o o':O}(e:h[i]?=↥o'):(h.set i o)[i]?=↥o:=Ku (List.getElem?_eq_some_iff.mp e).1
def HN{h:A5}{i:Nat}{o:O}(e:h[i]?=↥o):i< ⇑h:=(List.getElem?_eq_some_iff.mp e).1
end BX
namespace E4
def uu(ws:ν)(w:AS×AS):ends (ws++[w])=ends ws++[w.1,w.2]:=by simp[ends]
def cV(ws:ν):⇑(ends ws)=2*⇑ws:=by
 induction ws with
 |nil=>rfl
 |cons w ws C4=>simp[ends]at C4 |-;lia
def fa:Af:=AK (AR (DQ JY ψ (J (A1 BR (A1 AB (I 7) η) (B6 BO Fr)) A2)) (A6 8))
    (AK (AR (DQ JY ψ (J (A1 BR (A1 AB (I 7) ζ) (B6 BO Fr)) A2)) (A6 9))
    (AK (EV (DQ DV Θ (J (As (J (I 8) (J (I 9) A2))) A2)))
    (AR (A1 addW (I 6) Γ) (A6 6))))
noncomputable def F5(cell:Int)(n a b:Nat)(nm Bu:Int)(k:Nat)(s7 EF GU:Option W):B5:=[↥(.int cell),χ,↥(.ref a),↥(.ref b),↥(.int nm),↥(.int Bu),↥(.int (k:Int)),s7,EF,GU]
structure OF(h:A5)(a b:Nat)(R:↑AS)(ws:ν)(h':A5):Prop where
 BJ:h'[a]?=↥⟨.lst,R.map AI⟩
 BC:h'[b]?=↥⟨.lst,ws.map CJ⟩
 ne:a≠b
 Hi:⇑h<=a
 Mi:⇑h<=b
 pr:h<+: h'
def OF.more{h:A5}{a b:Nat}{R:↑AS}{ws:ν}{h':A5}(w:OF h a b R ws h')(g:A5):OF h a b R ws (h'++g):=⟨Bl _ w.BJ g,Bl _ w.BC g,w.ne,w.Hi,w.Mi,FC w.pr g⟩
def bT(cell:Int)(n:Nat)(h:A5)(al:↑AS)(Bu:Int)(m:Nat)(ρ:B5)(h':A5):Prop:=∃(a b:Nat)(ws:ν)(R:↑AS)(nm:Int)(s7 EF GU:Option W),(ends ws++R).Perm al/\1<=⇑R/\m=⇑R/\OF h a b R ws h'/\ρ=F5 cell n a b nm Bu (9+2*⇑ws) s7 EF GU
def rV{cell:Int}{n a b p:Nat}{h AU:A5}{al R:↑AS}{ws:ν}{nm Bu:Int}{EF GU:Option W}{q1 q2:Int}(T:FK->A5->Prop)(pm:(ends ws++R).Perm al)(OZ:3<=⇑R)(OY:⇑al<=100)(w:OF h a b R ws AU)(BA:AU[p]?=↥⟨.lst,[.int q1,.int q2]⟩)(WA:p≠a) :
  Ends (fa (F5 cell n a b nm Bu (9+2*⇑ws) ↥(.ref p) EF GU) AU) (Lq (λEO h'=>∃m,m< ⇑R/\bT cell n h al Bu m EO h') T):=by
 have Ee:⇑(ends ws)+⇑R=⇑al:=by have:=pm.length_eq;simpa using this
 rw[cV]at Ee;obtain⟨k1,cO,uq⟩:=JX q1 (n:=⇑R) δ;have L_:⇑(R.eraseIdx k1)=⇑R-1:=gN cO;obtain⟨k2,Tc,ur⟩:=JX q2 (n:=⇑(R.eraseIdx k1)) δ;have aar:⇑((R.eraseIdx k1).eraseIdx k2)=⇑R-2:=by rw[gN Tc];lia
 obtain⟨C1,Cd⟩:∃C1,C1=AU.set a ⟨.lst,(R.eraseIdx k1).map AI⟩:=⟨_,rfl⟩;have f1:C1[a]?=↥⟨.lst,(R.eraseIdx k1).map AI⟩:=by rw[Cd];exact KD w.BJ
 have f2:C1[p]?=↥⟨.lst,[.int q1,.int q2]⟩:=by rw[Cd,Gz WA.symm];exact BA
 have E9:C1[b]?=↥⟨.lst,ws.map CJ⟩:=by rw[Cd,Gz w.ne];exact w.BC
 have t1:DQ JY ψ (J (A1 BR (A1 AB (I 7) η) (B6 BO Fr)) A2) (F5 cell n a b nm Bu (9+2*⇑ws) ↥(.ref p) EF GU) AU=.ok (AI R[k1],C1):=by
  rw[Cd];have ET:AB (.ref p) (.int 0) AU=.ok (.int q1,AU):=G2 (k:=0) BA rfl;refine JV (ws:=R.map AI) (ws2:=R.map AI) (us:=[.int (k1:Int)]) (h1:=AU) (h2:=AU) (by simp[F5]) w.BJ ?_ w.BJ ?_ (by simp[B1];lia)
  .simp[F5,ET,Gh w.BJ,show 0< ⇑R by lia];exact uq
  .rw[fW (cO:) (by simp;lia)];simp[Ye]
 obtain⟨E5,Jw⟩:∃E5,E5=C1.set a ⟨.lst,((R.eraseIdx k1).eraseIdx k2).map AI⟩:=⟨_,rfl⟩;have g1:E5[a]?=↥⟨.lst,((R.eraseIdx k1).eraseIdx k2).map AI⟩:=by rw[Jw];exact KD f1
 have g3:E5[b]?=↥⟨.lst,ws.map CJ⟩:=by rw[Jw,Gz w.ne];exact E9
 have C_:∀oA,DQ JY ψ (J (A1 BR (A1 AB (I 7) ζ) (B6 BO Fr)) A2) (F5 cell n a b nm Bu (9+2*⇑ws) ↥(.ref p) oA GU) C1=.ok (AI (R.eraseIdx k1)[k2],E5):=λoA=>by
  rw[Jw];have CZ:AB (.ref p) (.int 1) C1=.ok (.int q2,C1):=G2 (k:=1) f2 rfl;refine JV (ws:=(R.eraseIdx k1).map AI) (ws2:=(R.eraseIdx k1).map AI) (us:=[.int (k2:Int)]) (h1:=C1) (h2:=C1) (by simp[F5]) f1 ?_ f1 ?_ (by simp[B1];lia)
  .have:0< ⇑(R.eraseIdx k1):=δ
   erw[F5,BD,BG,G5,v_var,Be,Bx,EX,Dm,Cj,A0,CZ,Gh f1,Kg,CE];rw[if_pos δ];erw[A0,ur]
  .rw[fW (Tc:) (by simp;lia)];simp[Ye]
 have t3:DQ DV Θ (J (As (J (I 8) (J (I 9) A2))) A2) (F5 cell n a b nm Bu (9+2*⇑ws) ↥(.ref p) ↥(AI R[k1]) ↥(AI (R.eraseIdx k1)[k2])) E5=.ok (.non,E5.set b ⟨.lst,(ws++[(R[k1],(R.eraseIdx k1)[k2])]).map CJ⟩):=
  JV (ws:=ws.map CJ) (ws2:=ws.map CJ) (us:=[CJ (R[k1],(R.eraseIdx k1)[k2])]) (h1:=E5) (h2:=E5) (by simp[F5]) g3 (by simp[F5,B1,CJ]) g3 (by simp[DV]) (by simp[B1];lia)
 have Cb:OF h a b ((R.eraseIdx k1).eraseIdx k2) (ws++[(R[k1],(R.eraseIdx k1)[k2])]) (E5.set b ⟨.lst,(ws++[(R[k1],(R.eraseIdx k1)[k2])]).map CJ⟩):=⟨by rw[Gz w.ne.symm];exact g1,KD g3,w.ne,w.Hi,w.Mi,WH (by rw[Jw];exact WH (by rw[Cd];exact WH w.pr w.Hi _) w.Hi _) w.Mi _⟩;unfold fa;erw[Am,Cy,t1,A0];have Ff:A6 8 (AI R[k1]) (F5 cell n a b nm Bu (9+2*⇑ws) ↥(.ref p) EF GU) C1=.ok (.AM (F5 cell n a b nm Bu (9+2*⇑ws) ↥(.ref p) ↥(AI R[k1]) GU),C1):=rfl;have Ez:A6 9 (AI (R.eraseIdx k1)[k2]) (F5 cell n a b nm Bu (9+2*⇑ws) ↥(.ref p) ↥(AI R[k1]) GU) E5=.ok (.AM (F5 cell n a b nm Bu (9+2*⇑ws) ↥(.ref p) ↥(AI R[k1]) ↥(AI (R.eraseIdx k1)[k2])),E5):=rfl;rw[Ff];erw[A0,Ax,Am,Cy,C_];rw[Ez];erw[A0,Ax,Am,JD,t3,Cy];refine⟨.AM (F5 cell n a b nm Bu (9+2*⇑ws+2) ↥(.ref p) ↥(AI R[k1]) ↥(AI (R.eraseIdx k1)[k2])),E5.set b ⟨.lst,(ws++[(R[k1],(R.eraseIdx k1)[k2])]).map CJ⟩,by simp[F5],?_⟩;refine⟨⇑R-2,δ,a,b,ws++[(R[k1],(R.eraseIdx k1)[k2])],(R.eraseIdx k1).eraseIdx k2,nm,_,_,_,?_,δ,aar.symm,Cb,by rw[F1];rfl⟩;rw[uu,Dd];refine List.Perm.trans (gS _ ?_) pm;exact((Yf (R.eraseIdx k1) k2 Tc).cons _).trans (Yf R k1 cO)
def i9{α β MH:Type}(r:BX.R α)(f:α->BX.R β)(g:β->BX.R MH):(r.bind f).bind g=r.bind λa=>(f a).bind g:=by cases r<;>rfl
def f_:Af:=AK (AR (Bd (J Tm (J (A1 Cg Tm (B6 BO Fr)) A2))) (A6 7))
    (AR (A1 Cg (A1 Cg Tm (B6 BO Fr)) (A1 MD (B6 BO Fr) ζ)) (A6 4))
def Wq:Af:=AK (AR (Bd (J (Ae 2 EW (J π (J (I 6) A2))) (J (Ae 2 EW (J π (J (A1 addW (I 6) ζ) A2))) A2))) (A6 7))
    (AK (BZ (AV (A1 Ξ (A1 BR π Γ) ζ)) f_ B_) fa)
def ai:DT:=AV (A1 KW (B6 BO Fr) (A1 addW (I 5) ζ))
def afa{cell:Int}{n a b:Nat}{h H1:A5}{al R:↑AS}{ws:ν}{nm Bu:Int}{s7 EF GU:Option W}(T:FK->A5->Prop)(pm:(ends ws++R).Perm al)(OZ:3<=⇑R)(OY:⇑al<=100)(w:OF h a b R ws H1) :
  Ends (Wq (F5 cell n a b nm Bu (9+2*⇑ws) s7 EF GU) H1) (Lq (λEO h'=>∃m,m< ⇑R/\bT cell n h al Bu m EO h') T):=by
 have Ee:⇑(ends ws)+⇑R=⇑al:=by have:=pm.length_eq;simpa using this
 rw[cV]at Ee;obtain⟨Jg,f1⟩:=NQ cell (9+2*⇑ws) δ;obtain⟨LM,f2⟩:=NQ cell (9+2*⇑ws+1) δ;have u_:∀h,EW [.int cell,.int (((9+2*⇑ws:Nat):Int)+1)] h=.ok (.int LM,h):=f2;have Hi:=HN w.BJ;have s1:AR (Bd (J (Ae 2 EW (J π (J (I 6) A2))) (J (Ae 2 EW (J π (J (A1 addW (I 6) ζ) A2))) A2))) (A6 7) (F5 cell n a b nm Bu (9+2*⇑ws) s7 EF GU) H1=.ok (.AM (F5 cell n a b nm Bu (9+2*⇑ws) ↥(.ref ⇑H1) EF GU),H1++[⟨.lst,[.int Jg,.int LM]⟩]):=by erw[F5,Cy,LL,BD,GZ,BG,v_var,Be,Bx,EX,Dm,Cj,A0,Dn,Fg,HG,if_true,NT,f1,u_,Hj H1 (show⇑([.int Jg,.int LM]:↑W)<=B1 by simp[B1]),QV,Qj,Qd,Mz]
 unfold Wq;erw[Am,s1,A0,Ax];by_cases ho:cell%2=1
 .have lg:(0:Int)<(⇑R:Int)/\(⇑R:Int)<1073741824:=δ
  have D0:(0:Int)<(⇑R:Int)-1/\(⇑R:Int)-1<1073741824:=δ
  have AA:∀g,(H1++g)[a]?=↥⟨.lst,R.map AI⟩:=λg=>Bl H1 w.BJ g;have c:AV (A1 Ξ (A1 BR π Γ) ζ) (F5 cell n a b nm Bu (9+2*⇑ws) ↥(.ref ⇑H1) EF GU) (H1++[⟨.lst,[.int Jg,.int LM]⟩])=.ok (true,H1++[⟨.lst,[.int Jg,.int LM]⟩]):=by simp[F5,ho]
  have s2:f_ (F5 cell n a b nm Bu (9+2*⇑ws) ↥(.ref ⇑H1) EF GU) (H1++[⟨.lst,[.int Jg,.int LM]⟩])=.ok (.AM (F5 cell n a b (nm/⇑R/((⇑R:Int)-1)) Bu (9+2*⇑ws) ↥(.ref (⇑H1+1)) EF GU),H1++[⟨.lst,[.int Jg,.int LM]⟩,⟨.lst,[.int nm,.int (nm/⇑R)]⟩]):=by simp[f_,F5,Gh (AA _),lg,D0,show 0< ⇑R by lia,show 1< ⇑R by lia,show(1:Int)<(⇑R:Int)by lia,nw,B1]
  erw[Cz,c,A0,if_true,s2,Ax];exact rV (q1:=nm) (q2:=nm/⇑R) T pm OZ OY (w.more _) γ δ
 .have c:AV (A1 Ξ (A1 BR π Γ) ζ) (F5 cell n a b nm Bu (9+2*⇑ws) ↥(.ref ⇑H1) EF GU) (H1++[⟨.lst,[.int Jg,.int LM]⟩])=.ok (false,H1++[⟨.lst,[.int Jg,.int LM]⟩]):=by simp[F5,ho]
  erw[Cz,c,A0,Kw,if_false,FD,Ax];exact rV (q1:=Jg) (q2:=LM) T pm OZ OY (w.more _) γ δ
def afc(cell:Int)(cs:↑Nat)(h1:1<=⇑cs)(EJ:⇑cs<=6)(ES:∀c∈cs,1<=c/\c<=4){h:A5}{n:Nat}(Az:h[n]?=↥⟨.lst,Bq cs⟩) :
  ∃ws,Gk cs ws/\(∃d∈CR cs ⇑cs,d∉ends ws)/\Oh [.int cell,.ref n] h=.ok (.ref ⇑h,h++[⟨.lst,ws.map CJ⟩]):=by
 have Dw:1<=⇑(CR cs ⇑cs):=XG (head_mem h1 ES);have ajJ:=Pd ES ⇑cs;have acI:=iU cs ⇑cs;have KS:=jY EJ ES Az;obtain⟨ra,ue⟩:=NQ cell 8 ε;have je:∀h,EW [.int cell,.int 8] h=.ok (.int ra,h):=ue;obtain⟨N,hN⟩:∃N:Int,cell/2%1000000000000000000000000000000000000000000000000000000000000/24576=N:=ο;suffices AP:∃ws,Gk cs ws/\(∃d∈CR cs ⇑cs,d∉ends ws)/\Ends (Oh [.int cell,.ref n] h) (λw h'=>w=.ref ⇑h/\h'=h++[⟨.lst,ws.map CJ⟩])by
  obtain⟨ws,a,b,c⟩:=AP;exact⟨ws,a,b,c.done⟩
 obtain⟨C0,Bt⟩:∃C0,C0=h++[⟨.lst,(CR cs ⇑cs).map AI⟩,⟨.lst,[]⟩]:=ο;have OP:OF h ⇑h (⇑h+1) (CR cs ⇑cs) [] C0:=⟨by rw[Bt];simp,by rw[Bt];simp,δ,C5 _,δ,by rw[Bt];exact FN _ _⟩;have B2:∀(nm Bu:Int),1<=Bu->Ends (T8 ai Wq (F5 cell n ⇑h (⇑h+1) nm Bu 9 none none none) C0) (λf h'=>∃a b ws R nm s7 EF GU,f=.AM (F5 cell n a b nm Bu (9+2*⇑ws) s7 EF GU)/\(ends ws++R).Perm (CR cs ⇑cs)/\1<=⇑R/\OF h a b R ws h'):=λnm Bu kg=>by refine jk (bT cell n h (CR cs ⇑cs) Bu) (n:=⇑(CR cs ⇑cs)) δ ⟨⇑h,⇑h+1,[],CR cs ⇑cs,nm,none,none,none,.refl _,Dw,rfl,OP,rfl⟩ ?_;rintro m _ H1 ⟨a,b,ws,R,nm,s7,EF,GU,pm,D0,rfl,w,rfl⟩;refine⟨decide (Bu+1<(⇑R:Int)),H1,by simp[ai,F5,Gh w.BJ],λ_=>⟨a,b,ws,R,nm,s7,EF,GU,rfl,pm,D0,w⟩,λB9=>afa _ pm (by have:=of_decide_eq_true B9;lia) δ w⟩
 have fin:∀(nm Bu:Int),1<=Bu->(Oh [.int cell,.ref n] h=(FW (T8 ai Wq (F5 cell n ⇑h (⇑h+1) nm Bu 9 none none none) C0)).bind λp=>(NZ (At Θ) p).bind λp=>(outF p).bind λq=>settle h q.1 q.2)->∃ws,Gk cs ws/\(∃d∈CR cs ⇑cs,d∉ends ws)/\Ends (Oh [.int cell,.ref n] h) (λw h'=>w=.ref ⇑h/\h'=h++[⟨.lst,ws.map CJ⟩]):=λnm Bu kg e=>by
  obtain⟨f,h',CC,a,b,ws,R,ak1,s7,EF,GU,rfl,pm,D0,w⟩:=(B2 nm Bu kg).FW;have Ee:⇑(ends ws)+⇑R=⇑(CR cs ⇑cs):=by have:=pm.length_eq;simpa using this
  rw[cV]at Ee;have Bg:(ends ws++R).Nodup:=pm.nodup_iff.mpr acI;have TZ:R[0]∈R:=Hu _;refine⟨ws,⟨h1,EJ,ES,(List.nodup_append.mp Bg).1,λd hd=>pm.mem_iff.mp (Gx _ hd),δ⟩,⟨R[0],pm.mem_iff.mp (IF _ TZ),λz=>(List.nodup_append.mp Bg).2.2 _ z _ TZ rfl⟩,?_⟩;rw[e,CC];simp[F5,J8 h h' (IW w.pr) w.Mi w.BC (GR _ _ lR)]
 have BC:bR=AK (AR (Ae 1 Rs Ω) (A6 2))
  (AK (AR (Bd A2) (A6 3))
  (AK (AR (A1 Cg (A1 BR (A1 Cg π Γ) (A1 Oo (pu (.int 10)) (pu (.int 60)))) (pu (.int 24576))) (A6 4))
  (AK (AR (A1 addW ζ (A1 BR (Ae 2 EW (J π (J (pu (.int 8)) A2))) (pu (.int 3)))) (A6 5))
  (AK (BZ (AV (A1 Ξ (A1 BR π Γ) ζ)) (AK (AR (A1 addW ζ (A1 BR Tm (pu (.int 24)))) (A6 5)) (AR (A1 Cg Tm (pu (.int 24))) (A6 4))) B_)
  (AK (AR (pu (.int 9)) (A6 6))
  (AK (T9 ai Wq) (At Θ))))))):=rfl
 by_cases ho:cell%2=1
 .refine fin (N/24) (1+N%24) δ ?_;simp[Oh,BC,KS,nw,B1,b2,hN,je,ho];rw[Bt];exact i9 _ _ _
 .refine fin N (1+ra%3) δ ?_;simp[Oh,BC,KS,nw,B1,b2,hN,je,ho];rw[Bt];exact i9 _ _ _
def LN(c:Nat):Prop:=c=48\/c=49\/c=120
structure QC(x:Str):Prop where
 l:⇑x.cps.toList=4
 s:∀c∈x.cps.toList,LN c
def tR{x y:Str}(h:A5)(l:⇑x+⇑y<=B1):addW (.str x) (.str y) h=.ok (.str (x++y),h):=if_pos l
def ht(x:Str)(c:Nat):(x++(⟨#[c]⟩:Str)).cps.toList=x.cps.toList++[c]:=by show(x.cps++ #[c]).toList=_;simp
structure Ce where
 p:Str
 a:Option Nat
 b:Option Nat
noncomputable def DA:Option Nat->W
 |none=>.non
 |some k=>.int (k:Int)
def Ec(r:Ce):W:=.tup [.str r.p,DA r.a,DA r.b]
@[simp] theorem aju(o:Option Nat):DR (DA o)=true:=by cases o<;>simp[DA]
@[simp] theorem lQ(r:Ce):DR (Ec r)=true:=by simp[Ec]
structure Sf(c:Nat)(r:Ce):Prop where
 p:QC r.p
 a:∀k,r.a=↥k->k<c
 b:∀k,r.b=↥k->k<c
def Mt(c:Nat)(b:↑Ce):Prop:=⇑b<=12/\∀r∈b,Sf c r
def ir{cs:↑Nat}(h:∀c∈cs,1<=c/\c<=4){k:Nat}(AN:k< ⇑cs):1<=cs.getD k 0/\cs.getD k 0<=4:=by have:=h (cs[k]) (Hu _);simpa[AN]using this
noncomputable def Hz(z:Int):Nat:=if z%5=2 then 48 else if z%5=3 then 49 else 120
def aen(z:Int):LN (Hz z):=by
 unfold Hz LN
 split
 .exact .inl rfl
 .split
  .exact .inr (.inl rfl)
  .exact .inr (.inr rfl)
def pt(q:Int)(FY:Int->Nat):Nat->Int->Str×Int
 |0,y=>(AL "",y)
 |j+1,y=>((pt q FY j y).1++(⟨#[FY (pt q FY j y).2]⟩:Str),(pt q FY j y).2/q)
theorem ed(q:Int)(FY:Int->Nat):∀j y,(pt q FY j y).1.cps.toList.length=j
 |0,y=>by erw[pt];decide
 |j+1,y=>by erw[pt];rw[ht,F1,ed q FY j y];rfl
theorem mX{q:Int}{FY:Int->Nat}(ok:∀z,LN (FY z)):∀j y,∀c∈(pt q FY j y).1.cps.toList,LN c
 |0,y,c,h=>nomatch (show c∈([]:↑Nat)from h)
 |j+1,y,c,h=>by
  erw[pt]at h;rw[ht]at h;rcases List.mem_append.mp h with h|h
  .exact mX ok j y c h
  .rw[List.mem_singleton.mp h];exact ok _
def mW{q:Int}{FY:Int->Nat}(ok:∀z,LN (FY z))(y:Int):QC (pt q FY 4 y).1:=⟨ed q FY 4 y,mX ok 4 y⟩
def mU(h:A5)(q:Int)(FY:Int->Nat)(j:Nat)(Ac:j<1000)(y:Int):addW (.str (pt q FY j y).1) (.str ⟨#[FY (pt q FY j y).2]⟩) h=.ok (.str (pt q FY (j+1) y).1,h):=by refine tR h ?_;have AA:(pt q FY j y).1.length=j:=ed q FY j y;have AE:⇑(⟨#[FY (pt q FY j y).2]⟩:Str)=1:=rfl;rw[AA,AE];unfold B1;lia
abbrev five:↑W:=[.str (AL "x"),.str (AL "x"),.str (AL "0"),.str (AL "1"),.str (AL "x")]
def ae9(z:Int):∃k:Nat,z%5=(k:Int)/\five[k]?=↥(.str ⟨#[Hz z]⟩):=by
 have h:z%5=0\/z%5=1\/z%5=2\/z%5=3\/z%5=4:=δ
 unfold Hz;rcases h with h|h|h|h|h<;>rw[h]
 .exact⟨0,rfl,rfl⟩
 .exact⟨1,rfl,rfl⟩
 .exact⟨2,rfl,rfl⟩
 .exact⟨3,rfl,rfl⟩
 .exact⟨4,rfl,rfl⟩
def rowOf(y:Int)(c:Nat):Ce:=⟨(pt 5 Hz 4 y).1,if(pt 5 Hz 4 y).2%3=0 then↥((pt 5 Hz 4 y).2/3%(c:Int)).toNat else none,if(pt 5 Hz 4 y).2/100%9=0 then none else↥((pt 5 Hz 4 y).2/20%(c:Int)).toNat⟩
def Zn(x:Int){c:Nat}(AJ:1<=c):(x%(c:Int)).toNat<c/\(((x%(c:Int)).toNat:Nat):Int)=x%(c:Int):=by obtain⟨k,AN,e⟩:=JX x (n:=c) δ;rw[e];simp[AN]
def afQ(y:Int){c:Nat}(AJ:1<=c):Sf c (rowOf y c):=by
 refine⟨mW aen y,λk e=>?_,λk e=>?_⟩
 .erw[rowOf]at e
  split at e
  .cases e;exact(Zn _ AJ).1
  .cases e
 .erw[rowOf]at e
  split at e
  .cases e
  .cases e;exact(Zn _ AJ).1
def afR{cell y:Int}{k c:Nat}(DY:∀h,EW [.int cell,.int k] h=.ok (.int y,h))(AJ:1<=c)(VI:c<=4)(h:A5):Wj [.int cell,.int k,.int (c:Int)] h=.ok (Ec (rowOf y c),h):=by
 apply Ends.done;obtain⟨z,Go⟩:∃z,z=(pt 5 Hz 4 y).2:=ο
 have B2:=MZ (mi:=Ct (J (pu (.int 4)) A2)) (g:=A6 5) (b:=AK (AR (Bv (A1 addW Tm (A1 AB (Bd (J (pu (.str (AL "x"))) (J (pu (.str (AL "x"))) (J (pu (.str (AL "0"))) (J (pu (.str (AL "1"))) (J (pu (.str (AL "x"))) A2)))))) (A1 BR Θ (pu (.int 5)))))) (A6 4)) (AR (A1 Cg Θ (pu (.int 5))) (A6 3)))
  (ρ:=[↥(.int cell),↥(.int k),↥(.int c),↥(.int y),↥(.str (AL "")),none,none,none]) (h:=h) (h0:=h) 0 4 δ
  (λj ρ h'=>h'=h/\∃s5,ρ=[↥(.int cell),↥(.int k),↥(.int c),↥(.int (pt 5 Hz j y).2),↥(.str (pt 5 Hz j y).1),s5,none,none])
  (T:=λf h'=>h'=h/\∃s5,f=.AM [↥(.int cell),↥(.int k),↥(.int c),↥(.int z),↥(.str (pt 5 Hz 4 y).1),s5,none,none])
  (Ir (n:=4) γ δ) ⟨rfl,none,rfl⟩ ?_ ?_
 .obtain⟨f,h',CC,rfl,s5,rfl⟩:=B2.FW;erw[Wj,WP,bQ,Am,Cy,GZ,BD,Bx,v_var,Be,VW,Do,IE,Dn,Fg,Ht,Nu,HG,UZ,GG,Dm,EX,Cj,A0,if_true,DY,QV,Qj,Qd,Mz,Ax,I3,CC];have GP:=Zn (z/3) AJ;have HR:=Zn (z/20) AJ;have Pg:(0:Int)<(c:Int):=δ
  by_cases AY:z%3=0<;>by_cases wy:z/100%9=0<;>simp[AY,wy,Pg,show 0<c by lia,B1,Ec,rowOf,<-Go,DA,GP.2,HR.2]
 .rintro j _ _ Ac ⟨rfl,s5,rfl⟩;rename_i H1;refine⟨[↥(.int cell),↥(.int k),↥(.int c),↥(.int (pt 5 Hz j y).2),↥(.str (pt 5 Hz j y).1),τ,none,none],H1,γ,?_⟩;obtain⟨p,BA,ex⟩:=ae9 (pt 5 Hz j y).2;have E0:AB (.ref ⇑H1) (.int (p:Int)) (H1++[⟨.lst,five⟩])=.ok (.str ⟨#[Hz (pt 5 Hz j y).2]⟩,H1++[⟨.lst,five⟩]):=G2 γ ex;erw[Am,Cy,Fv,BG,LL,BD,Bx,v_var,Be,Dm,EX,Cj,A0,Hj H1 (show⇑five<=B1 by simp[B1]),Kg,show(0:Int)<5 by decide,if_true,BA,E0,mU _ 5 Hz j δ y,Rb H1 [⟨.lst,five⟩] (.str (pt 5 Hz (j+1) y).1) γ,QV,Dn,Fg,HG,Qj,Qd,Mz,Ax,Mp];simp[pt]
 .rintro _ _ ⟨rfl,s5,rfl⟩;exact⟨rfl,s5,by rw[Go]⟩
noncomputable def HU(z:Int):Nat:=if z%3=0 then 48 else if z%3=1 then 49 else 120
def aem(z:Int):LN (HU z):=by
 unfold HU LN
 split
 .exact .inl rfl
 .split
  .exact .inr (.inl rfl)
  .exact .inr (.inr rfl)
def ae8(h:A5)(z:Int):AB (.str (AL "01x")) (.int (z%3)) h=.ok (.str ⟨#[HU z]⟩,h):=by
 have e:z%3=0\/z%3=1\/z%3=2:=δ
 unfold HU;rcases e with e|e|e<;>rw[e]<;>rfl
noncomputable def Jv(c:Nat):↑W:=.non::(C8 c).map λi:Nat=>W.int (i:Int)
def choice{c:Nat}{h:A5}{n:Nat}(Az:h[n]?=↥⟨.lst,Jv c⟩)(y:Int):∃o:Option Nat,(∀k,o=↥k->k<c)/\AB ST (.int (y%((c:Int)+1))) h=.ok (DA o,h):=by
 obtain⟨k,AN,e⟩:=JX y (n:=c+1) δ;have e:y%((c:Int)+1)=(k:Int):=by rw[<-e];simp
 rw[e];cases k with
 |zero=>exact⟨none,(λ_ h=>nomatch h),G2 (k:=0) Az rfl⟩
 |succ k=>exact⟨↥k,(λj h=>by cases h;lia),G2 (k:=k+1) Az (by simp[Jv,DA,show k<c by lia])⟩
def j8:Af:=DZ (Ct (J (pu (.int 4)) A2)) (A6 7) (AK (AR (A1 addW (I 6) (A1 AB (pu (.str (AL "01x"))) (A1 BR π (pu (.int 3))))) (A6 6)) (AR (A1 Cg π (pu (.int 3))) (A6 0)))
def fBody:Af:=AK (AR (pu (.str (AL ""))) (A6 6)) (AK j8
    (AK (EV (DQ DV ψ (J (As (J (I 6) (J (A1 AB Tm (A1 BR π (A1 addW ω ζ))) (J (A1 AB Tm (A1 BR (A1 Cg π (A1 addW ω ζ)) (A1 addW ω ζ))) A2)))) A2)))
    (AR (A1 Cg (A1 Cg π (A1 addW ω ζ)) (A1 addW ω ζ)) (A6 0))))
noncomputable def GJ(z:Int)(c b m ch:Nat)(s5 s6 s7:Option W):B5:=[↥(.int z),↥(.int c),↥(.ref b),↥(.int m),↥(.ref ch),s5,s6,s7]
def xM(y:Int)(c b m ch:Nat)(s5 s7:Option W)(h:A5):∃Ti,j8 (GJ y c b m ch s5 ↥(.str (AL "")) s7) h=.ok (.AM (GJ (pt 3 HU 4 y).2 c b m ch s5 ↥(.str (pt 3 HU 4 y).1) Ti),h):=by
 have B2:=MZ (mi:=Ct (J (pu (.int 4)) A2)) (g:=A6 7) (b:=AK (AR (A1 addW (I 6) (A1 AB (pu (.str (AL "01x"))) (A1 BR π (pu (.int 3))))) (A6 6)) (AR (A1 Cg π (pu (.int 3))) (A6 0)))
  (ρ:=GJ y c b m ch s5 ↥(.str (AL "")) s7) (h:=h) (h0:=h) 0 4 δ
  (λj ρ h'=>h'=h/\∃s7,ρ=GJ (pt 3 HU j y).2 c b m ch s5 ↥(.str (pt 3 HU j y).1) s7)
  (T:=λf h'=>h'=h/\∃s7,f=.AM (GJ (pt 3 HU 4 y).2 c b m ch s5 ↥(.str (pt 3 HU 4 y).1) s7))
  (Ir (n:=4) γ δ) ⟨rfl,s7,rfl⟩ ?_ ?_
 .obtain⟨f,h',CC,rfl,s,rfl⟩:=B2.FW;exact⟨s,CC⟩
 .rintro j _ H1 Ac ⟨Gf,s,rfl⟩;subst Gf;refine⟨GJ (pt 3 HU j y).2 c b m ch s5 ↥(.str (pt 3 HU j y).1) τ,H1,by simp[GJ],?_⟩;erw[GJ,Am,Cy,BG,v_var,Be,Dm,EX,Cj,A0,Kg,show(0:Int)<3 by decide,if_true,ae8,mU _ 3 HU j δ y,QV,Dn,Fg,HG,Qj,Qd,Mz,Ax,Mp];simp[pt]
 .rintro _ H1 ⟨Gf,s,rfl⟩;exact⟨Gf,s,rfl⟩
def xU(y:Int){c:Nat}(AJ:1<=c)(VI:c<=4)(h:A5){m:Nat}(hm:m<13):∃(b:↑Ce)(ρ:B5),⇑b=m/\(∀r∈b,Sf c r)/\ρ[2]?=↥↥(.ref ⇑h)/\FW (Q2 (Ct (J Θ A2)) (A6 5) fBody (GJ (y/13) c ⇑h m (⇑h+1) none none none) (h++[⟨.lst,[]⟩,⟨.lst,Jv c⟩]))=.ok (.AM ρ,h++[⟨.lst,b.map Ec⟩,⟨.lst,Jv c⟩]):=by
 have B2:=MZ (mi:=Ct (J Θ A2)) (g:=A6 5) (b:=fBody) (ρ:=GJ (y/13) c ⇑h m (⇑h+1) none none none) (h:=h++[⟨.lst,[]⟩,⟨.lst,Jv c⟩]) (h0:=h++[⟨.lst,[]⟩,⟨.lst,Jv c⟩]) 0 m δ
  (λj ρ h'=>∃(z:Int)(b:↑Ce)(s5 s6 s7:Option W),⇑b=j/\(∀r∈b,Sf c r)/\ρ=GJ z c ⇑h m (⇑h+1) s5 s6 s7/\h'=h++[⟨.lst,b.map Ec⟩,⟨.lst,Jv c⟩])
  (T:=λf h'=>∃(b:↑Ce)(ρ:B5),⇑b=m/\(∀r∈b,Sf c r)/\f=.AM ρ/\ρ[2]?=↥↥(.ref ⇑h)/\h'=h++[⟨.lst,b.map Ec⟩,⟨.lst,Jv c⟩])
  (Ir (n:=m) (by simp[GJ]) δ) ⟨_,[],_,_,_,rfl,(λ_ h=>nomatch h),rfl,rfl⟩ ?_ ?_
 .obtain⟨f,h',CC,b,ρ,AH,A4,rfl,AE,rfl⟩:=B2.FW;exact⟨b,ρ,AH,A4,AE,CC⟩
 .rintro j _ _ Ac ⟨z,b,s5,s6,s7,AH,A4,rfl,rfl⟩;obtain⟨H,Bt⟩:∃H,H=h++[⟨.lst,b.map Ec⟩,⟨.lst,Jv c⟩]:=ο;refine⟨GJ z c ⇑h m (⇑h+1) τ s6 s7,H,by rw[Bt];simp[GJ],?_⟩;have BC:H[⇑h]?=↥⟨.lst,b.map Ec⟩:=by rw[Bt];simp
  have ec:H[⇑h+1]?=↥⟨.lst,Jv c⟩:=by rw[Bt];simp
  obtain⟨Ti,El⟩:=xM z c ⇑h m (⇑h+1) τ s7 H;obtain⟨F_,Go⟩:∃F_,F_=(pt 3 HU 4 z).2:=ο;rw[<-Go]at El;obtain⟨EL,h1,AA⟩:=choice ec F_;obtain⟨EE,h2,AE⟩:=choice ec (F_/((c:Int)+1));have Bm:(0:Int)<(c:Int)+1:=δ
  have Cc:(0:Int)<(c:Int)+1/\(c:Int)+1<1073741824:=δ
  have s1:AR (pu (.str (AL ""))) (A6 6) (GJ z c ⇑h m (⇑h+1) τ s6 s7) H=.ok (.AM (GJ z c ⇑h m (⇑h+1) τ ↥(.str (AL "")) s7),H):=rfl;have s3:DQ DV ψ (J (As (J (I 6) (J (A1 AB Tm (A1 BR π (A1 addW ω ζ))) (J (A1 AB Tm (A1 BR (A1 Cg π (A1 addW ω ζ)) (A1 addW ω ζ))) A2)))) A2) (GJ F_ c ⇑h m (⇑h+1) τ ↥(.str (pt 3 HU 4 z).1) Ti) H=.ok (.non,H.set ⇑h ⟨.lst,(b++[(⟨(pt 3 HU 4 z).1,EL,EE⟩:Ce)]).map Ec⟩):=
   JV (ws:=b.map Ec) (ws2:=b.map Ec) (us:=[Ec (⟨(pt 3 HU 4 z).1,EL,EE⟩:Ce)]) (h1:=H) (h2:=H) (by simp[GJ]) BC (by erw[GJ,BD,Je,BG,v_var,Be,Bx,Dm,EX,Cj,A0,NT,Kg,Mp,if_pos Bm,if_pos Cc,AA,AE];simp[B1,Ec]) BC (by simp[DV]) (by simp[B1];lia)
  have s5:AR (A1 Cg (A1 Cg π (A1 addW ω ζ)) (A1 addW ω ζ)) (A6 0) (GJ F_ c ⇑h m (⇑h+1) τ ↥(.str (pt 3 HU 4 z).1) Ti) (H.set ⇑h ⟨.lst,(b++[(⟨(pt 3 HU 4 z).1,EL,EE⟩:Ce)]).map Ec⟩)=.ok (.AM (GJ (F_/((c:Int)+1)/((c:Int)+1)) c ⇑h m (⇑h+1) τ ↥(.str (pt 3 HU 4 z).1) Ti),H.set ⇑h ⟨.lst,(b++[(⟨(pt 3 HU 4 z).1,EL,EE⟩:Ce)]).map Ec⟩):=by erw[GJ,Cy,BG,v_var,Be,Dm,EX,Cj,A0,NT,Mp,if_pos Cc,QV,Dn,Fg,HG,Qj,if_true,Mz]
  unfold fBody;erw[Am,s1,A0,Ax,El,JD,s3,s5,Vr,YK];refine⟨_,b++[(⟨(pt 3 HU 4 z).1,EL,EE⟩:Ce)],_,_,_,by simp[AH],λr BH=>?_,rfl,by rw[Bt];simp⟩;rcases List.mem_append.mp BH with BH|BH
  .exact A4 r BH
  .rw[List.mem_singleton.mp BH];exact⟨mW aem z,h1,h2⟩
 .rintro ρ h' ⟨z,b,s5,s6,s7,AH,A4,rfl,rfl⟩;exact⟨b,_,AH,A4,rfl,rfl,rfl⟩
def l8{c:Nat}(AJ:c<1000)(h:A5):Mj [.int (c:Int)] h=.ok (.ref ⇑h,h++[⟨.lst,(C8 c).map λi:Nat=>W.int (i:Int)⟩]):=by
 have l:⇑(W7 ((C8 c).map λi:Nat=>(i:Int)))<=B1:=by simp[W7,B1];lia
 have Cc:(c:Int)<=1000000:=δ
 have Bm: -(2^62)<=(c:Int)/\(c:Int)<=1000000:=⟨(o6 AJ).1,Cc⟩;erw[Mj,if_pos Bm,Qe];rw[Hj h l];simp[W7,Ny]
def xW(z:Int){c:Nat}(VI:c<=4)(m:Nat)(h:A5):Bv (A1 addW (Bd (J Cl A2)) (B6 Mj Ω)) (GJ z c ⇑h m 0 none none none|>.set 4 none) (h++[⟨.lst,[]⟩])=.ok (.ref (⇑h+1),h++[⟨.lst,[]⟩,⟨.lst,Jv c⟩]):=by simp only[GJ,Qd,Mz,Fv,BG,LL,BD,Bx,Be,A0,Hj (h++[⟨.lst,[]⟩]) (show⇑([.non]:↑W)<=B1 by simp[B1]),G5,v_var,EX,Dm,Cj,l8 (show c<1000 by lia)];rw[LF (a:=[.non]) (b:=(C8 c).map λi:Nat=>W.int (i:Int)) γ γ (by simp[B1];lia)];erw[A0];rw[J8 (ws:=Jv c) _ _ γ γ (by simp[Jv]) (by simp[Jv];exact GR _ _ λa=>γ)];simp
def xV(y:Int){c:Nat}(AJ:1<=c)(VI:c<=4)(h:A5):∃b,Mt c b/\U7 [.int y,.int (c:Int)] h=.ok (.ref ⇑h,h++[⟨.lst,b.map Ec⟩]):=by
 obtain⟨m,hm,em⟩:=JX y (n:=13) ε;have em:y%13=(m:Int):=em;obtain⟨b,ρ,AH,A4,AE,CC⟩:=xU y AJ VI h hm;refine⟨b,⟨δ,A4⟩,?_⟩;have Pg:(0:Int)<13:=δ
 have tm:(0:Int)<13/\(13:Int)<1073741824:=δ
 have s1:AR (Bd A2) (A6 2) [↥(.int y),↥(.int (c:Int)),none,none,none,none,none,none] h=.ok (.AM [↥(.int y),↥(.int (c:Int)),υ,none,none,none,none,none],h++[⟨.lst,[]⟩]):=by erw[Cy,LL,Bx,A0,Hj h (show⇑([]:↑W)<=B1 by simp)];rfl
 have s2:AR (A1 BR π (pu (.int 13))) (A6 3) [↥(.int y),↥(.int (c:Int)),υ,none,none,none,none,none] (h++[⟨.lst,[]⟩])=.ok (.AM [↥(.int y),↥(.int (c:Int)),υ,↥(.int (m:Int)),none,none,none,none],h++[⟨.lst,[]⟩]):=by erw[Cy,BG,v_var,Be,Dm,Cj,A0,Kg,if_pos Pg,em];rfl
 have s3:AR (A1 Cg π (pu (.int 13))) (A6 0) [↥(.int y),↥(.int (c:Int)),υ,↥(.int (m:Int)),none,none,none,none] (h++[⟨.lst,[]⟩])=.ok (.AM [↥(.int (y/13)),↥(.int (c:Int)),υ,↥(.int (m:Int)),none,none,none,none],h++[⟨.lst,[]⟩]):=by erw[Cy,BG,v_var,Be,Dm,Cj,A0,Mp,if_pos tm];rfl
 have s4:AR (Bv (A1 addW (Bd (J Cl A2)) (B6 Mj Ω))) (A6 4) [↥(.int (y/13)),↥(.int (c:Int)),υ,↥(.int (m:Int)),none,none,none,none] (h++[⟨.lst,[]⟩])=.ok (.AM (GJ (y/13) c ⇑h m (⇑h+1) none none none),h++[⟨.lst,[]⟩,⟨.lst,Jv c⟩]):=by have:=xW (y/13) VI m h;rw[Cy,show([↥(.int (y/13)),↥(.int (c:Int)),υ,↥(.int (m:Int)),none,none,none,none]:B5)=(GJ (y/13) c ⇑h m 0 none none none).set 4 none from rfl,this];rfl
 have e:U7 [.int y,.int (c:Int)] h=((((AK (AR (Bd A2) (A6 2))
   (AK (AR (A1 BR π (pu (.int 13))) (A6 3))
   (AK (AR (A1 Cg π (pu (.int 13))) (A6 0))
   (AK (AR (Bv (A1 addW (Bd (J Cl A2)) (B6 Mj Ω))) (A6 4))
   (AK (DZ (Ct (J Θ A2)) (A6 5) fBody) (At ψ)))))) [↥(.int y),↥(.int (c:Int)),none,none,none,none,none,none] h).bind outF).bind λq=>settle h q.1 q.2):=rfl
 rw[e,Am,s1,A0,Ax,Am,s2,A0,Ax,Am,s3,A0,Ax,Am,s4,A0,Ax,Am,I3,CC,A0,Ax,FZ,v_var,AE,Cj,A0,A0,GT,A0];exact MC h _ rfl (GR _ _ lQ)
def rQ(i:Int)(h:A5):U3 [.int i] h=.ok Ty:=by have AA:Dz "int" (.int i) h=.ok Ty:=rfl;have AE:Dz "bool" (.int i) h=.ok (.AO false,h):=rfl;simp[U3,bK,AA,AE]
def ah(f g:J0)(a b c:BB)(ρ:B5)(h:A5):Oc f g a b c ρ h=(a ρ h).bind λp=>(b ρ p.2).bind λq=>(f p.1 q.1 q.2).bind λr=>MX (λk=>if k=true then bd c λz _ h=>g q.1 z h else pu (.AO false)) r.1 ρ r.2:=rfl
def Tw(i a b:Int)(h:A5):Ml [.int i,.int a,.int b] h=.ok (.AO (decide (a<=i)&&decide (i<=b)),h):=by
 have e:=rQ i h;by_cases AG:a<=i
 .simp[Ml,Z1,e,ah,MX,AG]
 .simp[Ml,Z1,e,ah,MX,AG]
end E4
namespace BX
theorem mapM_some{α β MH:Type}(f:α->Option β)(g:MH->α)(k:MH->β)(e:∀c,f (g c)=↥(k c)):∀l:↑MH,(l.map g).mapM f=↥(l.map k)
 |[]=>rfl
 |c::l=>by simp[e,mapM_some f g k e l]
def eo{h:A5}{n:Nat}{l:↑Int}(k:Nat)(e:h[n]?=↥⟨.lst,l.map W.int⟩):CI (k+1) h ST=↥(.Ci false (l.map Co.int)):=by have es:=Gs h e;erw[CI,es];rw[mapM_some (CI k h) W.int Co.int (λc=>by cases k<;>rfl) l];rfl
def eq_nil{h:A5}{n m:Nat}{l:↑Int}(b:Bool)(e:h[n]?=↥⟨.lst,l.map W.int⟩)(Bi:h[m]?=↥⟨.lst,[]⟩):Ay b ST (.ref m) h=.ok (.AO (if b then l.isEmpty else !l.isEmpty),h):=by unfold Ay;rw[eo 7 e,eo (l:=[]) 7 Bi];cases l<;>simp[eqT,Gg]
end BX
namespace E4
def Fo(b:↑Ce):O:=⟨.lst,b.map Ec⟩
noncomputable def Iq(a n:Nat):↑W:=(C8 n).map λi=>.ref (a+i)
def o5(a n:Nat):Iq a (n+1)=Iq a n++[.ref (a+n)]:=by simp[Iq,Ub]
def o4(a n:Nat):⇑(Iq a n)=n:=by simp[Iq]
noncomputable def bF:↑W:=[.int 1,.int 2,.int 3,.int 0,.int 2,.int 4,.int 12]
def aeA(z:Int):∃k m:Nat,z%7=(k:Int)/\bF[k]?=↥(.int (m:Int))/\m<=12:=by
 have h:z%7=0\/z%7=1\/z%7=2\/z%7=3\/z%7=4\/z%7=5\/z%7=6:=δ
 rcases h with h|h|h|h|h|h|h<;>rw[h]
 .exact⟨0,1,rfl,rfl,δ⟩
 .exact⟨1,2,rfl,rfl,δ⟩
 .exact⟨2,3,rfl,rfl,δ⟩
 .exact⟨3,0,rfl,rfl,δ⟩
 .exact⟨4,2,rfl,rfl,δ⟩
 .exact⟨5,4,rfl,rfl,δ⟩
 .exact⟨6,12,rfl,rfl,δ⟩
noncomputable def Dr(a n:Nat)(s:Int)(b:Nat)(s4 s5 s6:Option W):B5:=[↥(.ref a),χ,↥(.int s),↥(.ref b),s4,s5,s6]
def YE:BB:=D8 1 [5,1,4,2] (Ct (J (I 6) A2)) (A6 0) (pu true) (Ae 3 Wj (J ω (J (A1 addW (A1 addW (pu (.int 4)) Tm) (A1 IA (pu (.int 3)) π)) (J (A1 AB ψ Θ) A2))))
def afT{cs:↑Nat}(ES:∀c∈cs,1<=c/\c<=4){H:A5}{a n b j s m:Nat}{z:Int}(Az:H[n]?=↥⟨.lst,Bq cs⟩)(Ac:j< ⇑cs)(AP:s<=1)(hm:m<=12) :
  ∃BN,Mt (cs.getD j 0) BN/\YE (Dr a n s b τ ↥(.int z) ↥(.int (m:Int))) H=.ok (.ref ⇑H,H++[Fo BN]):=by
 have c:=ir ES Ac;have ex:∀k:Nat,∃y:Int,k<=12->∀h,EW [.int z,.int ((4+s+3*k:Nat):Int)] h=.ok (.int y,h):=λk=>by
  by_cases AN:k<=12
  .obtain⟨y,e⟩:=NQ z (4+s+3*k) δ;exact⟨y,λ_=>e⟩
  .exact⟨0,λh=>absurd h AN⟩
 refine⟨(C8 m).map λk=>rowOf (ex k).choose (cs.getD j 0),⟨(hm:),λr BH=>?_⟩,?_⟩
 .obtain⟨k,_,rfl⟩:=List.mem_map.mp BH;exact afQ _ c.1
 .unfold YE;rw[Vh (ρ:=Dr a n s b τ ↥(.int z) ↥(.int (m:Int))) (h:=H) (h0:=H) 0 m (λk=>Ec (rowOf (ex k).choose (cs.getD j 0))) δ (Ir (n:=m) (by simp[Dr]) δ) (λk AN acc=>by
   have E0:AB ST (.int (j:Int)) (H++[⟨.lst,acc⟩])=.ok (.int (cs.getD j 0:Nat),H++[⟨.lst,acc⟩]):=G2 (Bl H Az _) (Vi Ac);have e:=afR (ex k|>.choose_spec δ) c.1 c.2 (H++[⟨.lst,acc⟩]);have FF:L8 3 (k:Int):=.inl ε;have DH:(4:Int)+(s:Int)+3*(0+(k:Int))=((4+s+3*k:Nat):Int):=δ
   erw[Dr,Do,IE,List.getD_cons_succ,List.getD_cons_zero,GZ,BD,BG,v_var,Be,Bx,Dm,EX,Cj,A0,NT,abv,Int.zero_add,if_pos FF,E0];rw[show(4:Int)+(s:Int)+3*(k:Int)=((4+s+3*k:Nat):Int)by lia];erw[Dn,Fg,HG,if_true,e])]
  simp[Fo,Ny]
def b_:Af:=AK (AR (A1 addW (I 5) (A1 IA (pu (.int 3)) Tm)) (A6 5))
    (AK (AR (Bv (A1 AB (Bd (J ζ (J Γ (J (pu (.int 3)) (J η (J Γ (J (pu (.int 4)) (J (pu (.int 12)) A2)))))))) (A1 BR (Ae 2 EW (J (I 5) (J (pu (.int 3)) A2))) (pu (.int 7))))) (A6 6))
    (EV (DQ DV Θ (J YE A2))))
def ba:Af:=EV (DQ DV Θ (J (Ae 2 U7 (J (A1 BR (A1 Cg (I 5) Γ) (A1 Oo (pu (.int 10)) (pu (.int 60)))) (J (A1 AB ω Tm) A2))) A2))
def YD:Af:=AK (AR (A1 addW (A1 addW (pu (.int 17)) (A1 IA (pu (.int 5)) Tm)) ψ) (A6 5))
    (AK (BZ (HS (AV (A1 (Ay false) π (Bd A2)))) (AR (A1 AB π (A1 BR (A1 addW Tm ψ) (B6 BO Δ))) (A6 5)) B_)
    (BZ (HS (F9 (AV (A1 (Ay false) π (Bd A2))) (AV (A1 Ξ (A1 BR (I 5) Γ) ζ)))) ba b_))
def j6{cs:↑Nat}(ES:∀c∈cs,1<=c/\c<=4){H:A5}{a n b j s:Nat}{z:Int}(Az:H[n]?=↥⟨.lst,Bq cs⟩)(Ac:j< ⇑cs)(AP:s<=1){ws:↑W}(BC:H[b]?=↥⟨.lst,ws⟩)(lw:⇑ws<100)(s6:Option W):∃BN fA fB,Mt (cs.getD j 0) BN/\b_ (Dr a n s b τ ↥(.int z) s6) H=.ok (.AM (Dr a n s b τ fA fB),(H++[Fo BN]).set b ⟨.lst,ws++[.ref ⇑H]⟩):=by
 obtain⟨y,DY⟩:=NQ (z+3*(j:Int)) 3 δ;have DY:∀h,EW [.int (z+3*(j:Int)),.int 3] h=.ok (.int y,h):=DY;obtain⟨k,m,DH,Vn,hm⟩:=aeA y;obtain⟨BN,A4,Ao⟩:=afT (a:=a) (b:=b) (z:=z+3*(j:Int)) ES Az Ac AP hm;refine⟨BN,↥(.int (z+3*(j:Int))),↥(.int (m:Int)),A4,?_⟩;have FF:L8 3 (j:Int):=.inl ε;have E0:AB (.ref ⇑H) (.int (k:Int)) (H++[⟨.lst,bF⟩])=.ok (.int (m:Int),H++[⟨.lst,bF⟩]):=G2 γ Vn;have s1:AR (A1 addW (I 5) (A1 IA (pu (.int 3)) Tm)) (A6 5) (Dr a n s b τ ↥(.int z) s6) H=.ok (.AM (Dr a n s b τ ↥(.int (z+3*(j:Int))) s6),H):=by simp[Dr,FF]
 have s2:AR (Bv (A1 AB (Bd (J ζ (J Γ (J (pu (.int 3)) (J η (J Γ (J (pu (.int 4)) (J (pu (.int 12)) A2)))))))) (A1 BR (Ae 2 EW (J (I 5) (J (pu (.int 3)) A2))) (pu (.int 7))))) (A6 6) (Dr a n s b τ ↥(.int (z+3*(j:Int))) s6) H=.ok (.AM (Dr a n s b τ ↥(.int (z+3*(j:Int))) ↥(.int (m:Int))),H):=by erw[bF]at E0;simp[Dr,nw,B1,DY,DH,E0]
 have s3:DQ DV Θ (J YE A2) (Dr a n s b τ ↥(.int (z+3*(j:Int))) ↥(.int (m:Int))) H=.ok (.non,(H++[Fo BN]).set b ⟨.lst,ws++[.ref ⇑H]⟩):=
  JV (ws:=ws) (ws2:=ws) (us:=[.ref ⇑H]) (h1:=H) (h2:=H++[Fo BN]) (by simp[Dr]) BC (by rw[BD,Ao];rfl) (Bl H BC _) (by simp[DV]) (by simp[B1];lia)
 unfold b_;rw[Am,s1,A0,Ax,Am,s2,A0,Ax,JD,s3,A0]
def abw{cs:↑Nat}(ES:∀c∈cs,1<=c/\c<=4){H:A5}{a n b j s:Nat}{z:Int}(Az:H[n]?=↥⟨.lst,Bq cs⟩)(Ac:j< ⇑cs)(AP:s<=1){ws:↑W}(BC:H[b]?=↥⟨.lst,ws⟩)(lw:⇑ws<100)(s6:Option W):∃BN,Mt (cs.getD j 0) BN/\ba (Dr a n s b τ ↥(.int z) s6) H=.ok (.AM (Dr a n s b τ ↥(.int z) s6),(H++[Fo BN]).set b ⟨.lst,ws++[.ref ⇑H]⟩):=by
 have c:=ir ES Ac;obtain⟨N,hN⟩:∃N:Int,z/2%1000000000000000000000000000000000000000000000000000000000000=N:=ο;obtain⟨BN,A4,CC⟩:=xV N c.1 c.2 H;have E0:AB ST (.int (j:Int)) H=.ok (.int (cs.getD j 0:Nat),H):=G2 Az (Vi Ac);refine⟨BN,A4,?_⟩;have s3:DQ DV Θ (J (Ae 2 U7 (J (A1 BR (A1 Cg (I 5) Γ) (A1 Oo (pu (.int 10)) (pu (.int 60)))) (J (A1 AB ω Tm) A2))) A2) (Dr a n s b τ ↥(.int z) s6) H=.ok (.non,(H++[Fo BN]).set b ⟨.lst,ws++[.ref ⇑H]⟩):=
  JV (ws:=ws) (ws2:=ws) (us:=[.ref ⇑H]) (h1:=H) (h2:=H++[Fo BN]) (by simp[Dr]) BC (by simp[Dr,b2,hN,E0,CC,Fo,-EC]) (Bl H BC _) (by simp[DV]) (by simp[B1];lia)
 unfold ba;rw[JD,s3,A0]
def uO{cs:↑Nat}(ES:∀c∈cs,1<=c/\c<=4){H:A5}{a n b j s:Nat}(Az:H[n]?=↥⟨.lst,Bq cs⟩)(Ac:j< ⇑cs)(AP:s<=1){ws:↑W}(BC:H[b]?=↥⟨.lst,ws⟩)(lw:⇑ws<100){l:↑Int}(BJ:H[a]?=↥⟨.lst,BK l⟩)(s5 s6:Option W):∃BN fA fB,Mt (cs.getD j 0) BN/\YD (Dr a n s b τ s5 s6) H=.ok (.AM (Dr a n s b τ fA fB),(H++[Fo BN]).set b ⟨.lst,ws++[.ref ⇑H]⟩):=by
 have Vd:L8 5 (j:Int):=.inl ε;have s1:AR (A1 addW (A1 addW (pu (.int 17)) (A1 IA (pu (.int 5)) Tm)) ψ) (A6 5) (Dr a n s b τ s5 s6) H=.ok (.AM (Dr a n s b τ ↥(.int (17+5*(j:Int)+s)) s6),H):=by simp[Dr,Vd]
 have q:Ay false (.ref a) (.ref ⇑H) (H++[⟨.lst,[]⟩])=.ok (.AO (!l.isEmpty),H++[⟨.lst,[]⟩]):=eq_nil false (Bl H BJ _) γ;unfold YD;rw[Am,s1,A0,Ax];cases l with
 |nil=>
  obtain⟨BN,Jc,Ey,A4,e⟩:=j6 (a:=a) (z:=17+5*(j:Int)+s) ES Az Ac AP BC lw s6;refine⟨BN,Jc,Ey,A4,?_⟩;have t1:HS (AV (A1 (Ay false) π (Bd A2))) (Dr a n s b τ ↥(.int (17+5*(j:Int)+s)) s6) H=.ok (false,H):=by simp[Dr,nw,q]
  have C_:HS (F9 (AV (A1 (Ay false) π (Bd A2))) (AV (A1 Ξ (A1 BR (I 5) Γ) ζ))) (Dr a n s b τ ↥(.int (17+5*(j:Int)+s)) s6) H=.ok (false,H):=by simp[Dr,nw,q]
  rw[Am,Cz,t1,A0,if_neg γ,FD,A0,Ax,Cz,C_,A0,if_neg γ,e]
 |cons x l=>
  obtain⟨k,AN,DH⟩:=JX ((j:Int)+s) (n:=⇑(x::l)) γ;have E0:AB (.ref a) (.int (k:Int)) H=.ok (.int (x::l)[k],H):=G2 BJ (by erw[BK];rw[Da,C7 AN];rfl);obtain⟨v,ev⟩:∃v,v=(x::l)[k]:=ο;rw[<-ev]at E0;have t1:HS (AV (A1 (Ay false) π (Bd A2))) (Dr a n s b τ ↥(.int (17+5*(j:Int)+s)) s6) H=.ok (true,H):=by simp[Dr,nw,q]
  have uo:((j:Int)+s)%(⇑(BK (x::l)):Int)=(k:Int):=by rw[<-DH];simp[BK]
  have B2:(0:Int)<(⇑(BK (x::l)):Int):=by erw[BK,CE,Dn];lia
  have s2:AR (A1 AB π (A1 BR (A1 addW Tm ψ) (B6 BO Δ))) (A6 5) (Dr a n s b τ ↥(.int (17+5*(j:Int)+s)) s6) H=.ok (.AM (Dr a n s b τ ↥(.int v) s6),H):=by erw[Dr,Cy,BG,G5,BD,Bx,v_var,Dm,EX,Cj,A0,NT,Gh BJ,Kg,if_pos B2,uo,E0];rfl
  rw[Am,Cz,t1,A0,if_pos rfl,s2,A0,Ax,Cz];by_cases ho:v%2=1
  .obtain⟨BN,A4,e⟩:=abw (a:=a) (z:=v) ES Az Ac AP BC lw s6;refine⟨BN,↥(.int v),s6,A4,?_⟩;have C_:HS (F9 (AV (A1 (Ay false) π (Bd A2))) (AV (A1 Ξ (A1 BR (I 5) Γ) ζ))) (Dr a n s b τ ↥(.int v) s6) H=.ok (true,H):=by
    simp[Dr,nw,q,ho]
   rw[C_,A0,if_pos rfl,e]
  .obtain⟨BN,Jc,Ey,A4,e⟩:=j6 (a:=a) (z:=v) ES Az Ac AP BC lw s6;refine⟨BN,Jc,Ey,A4,?_⟩;have C_:HS (F9 (AV (A1 (Ay false) π (Bd A2))) (AV (A1 Ξ (A1 BR (I 5) Γ) ζ))) (Dr a n s b τ ↥(.int v) s6) H=.ok (false,H):=by
    simp[Dr,nw,q,ho]
   rw[C_,A0,if_neg γ,e]
def wq{α:Type}{l r:↑α}{d:α}{i:Nat}(h:i< ⇑l):(l++r).getD i d=l.getD i d:=by rw[EC,GW h,<-EC]
def wt{α:Type}{l:↑α}{x d:α}:(l++[x]).getD ⇑l d=x:=by rw[EC];simp
structure D3(h:A5)(n:Nat)(B:↑↑Ce):Prop where
 ex:∃rs:↑Nat,h[n]?=↥⟨.lst,rs.map W.ref⟩/\ ⇑rs=⇑B/\∀(i r:Nat),rs[i]?=↥r->h[r]?=↥(Fo (B.getD i []))
def F2(cs:↑Nat)(B:↑↑Ce):Prop:=⇑B=⇑cs/\∀i,i< ⇑cs->Mt (cs.getD i 0) (B.getD i [])
def iD{cs:↑Nat}(h1:1<=⇑cs)(EJ:⇑cs<=6)(ES:∀c∈cs,1<=c/\c<=4){h:A5}{a n s:Nat}{l:↑Int}(AP:s<=1)(Az:h[n]?=↥⟨.lst,Bq cs⟩)(BJ:h[a]?=↥⟨.lst,BK l⟩) :
  ∃B,F2 cs B/\Mm [.ref a,.ref n,.int s] h=.ok (.ref ⇑h,h++(⟨.lst,Iq (⇑h+1) ⇑cs⟩::B.map Fo)):=by
 have lcs:⇑(Bq cs)=⇑cs:=by simp[Bq]
 have B2:=MZ (mi:=Ct (J (B6 BO Ω) A2)) (g:=A6 4) (b:=YD) (ρ:=Dr a n s ⇑h none none none) (h:=h++[⟨.lst,[]⟩]) (h0:=h++[⟨.lst,[]⟩]) 0 ⇑cs δ
  (λj ρ h'=>∃B s4 s5 s6,⇑B=j/\(∀i,i<j->Mt (cs.getD i 0) (B.getD i []))/\ρ=Dr a n s ⇑h s4 s5 s6/\h'=h++(⟨.lst,Iq (⇑h+1) j⟩::B.map Fo))
  (T:=λf h'=>∃B s4 s5 s6,F2 cs B/\f=.AM (Dr a n s ⇑h s4 s5 s6)/\h'=h++(⟨.lst,Iq (⇑h+1) ⇑cs⟩::B.map Fo))
  (Ir (n:=⇑cs) (by simp[Dr,Gh (Bl h Az _),lcs]) δ) ⟨[],none,none,none,rfl,λi hi=>δ,rfl,by simp[Iq]⟩ ?_ ?_
 .obtain⟨f,h',CC,B,s4,s5,s6,GA,rfl,rfl⟩:=B2.FW;refine⟨B,GA,?_⟩;have e:Mm [.ref a,.ref n,.int s] h=(AK (AR (Bd A2) (A6 3)) (AK (DZ (Ct (J (B6 BO Ω) A2)) (A6 4) YD) (At Θ)) [↥(.ref a),χ,↥(.int s),none,none,none,none] h).bind outF:=rfl;have s1:AR (Bd A2) (A6 3) [↥(.ref a),χ,↥(.int s),none,none,none,none] h=.ok (.AM (Dr a n s ⇑h none none none),h++[⟨.lst,[]⟩]):=by
   erw[Cy,LL,Bx,A0,Hj h (show⇑([]:↑W)<=B1 by simp)];rfl
  rw[e,Am,s1,A0,Ax,Am,I3,CC,A0,Ax];rfl
 .rintro j _ _ Ac ⟨B,s4,s5,s6,AH,GA,rfl,rfl⟩;obtain⟨H,Bt⟩:∃H,H=h++(⟨.lst,Iq (⇑h+1) j⟩::B.map Fo):=ο;have Kb:⇑H=⇑h+1+j:=by rw[Bt];simp[AH];lia
  refine⟨Dr a n s ⇑h τ s5 s6,H,by rw[Bt];simp[Dr],?_⟩;obtain⟨BN,Jc,Ey,A4,e⟩:=uO (H:=H) (a:=a) (n:=n) (l:=l) (b:=⇑h) ES (by rw[Bt];exact Bl h Az _) Ac AP (ws:=Iq (⇑h+1) j) (by rw[Bt];simp) (by rw[o4];lia) (by rw[Bt];exact Bl h BJ _) s5 s6;refine⟨_,_,e,B++[BN],_,Jc,Ey,by simp[AH],λi hi=>?_,rfl,?_⟩
  .by_cases Pp:i<j
   .rw[wq δ];exact GA i Pp
   .have:i=j:=δ
    subst this;rw[<-AH,wt];rw[AH];exact A4
  .rw[Kb,Bt,Dd,Po];simp[o5]
 .rintro _ _ ⟨B,s4,s5,s6,AH,GA,rfl,rfl⟩;exact⟨B,s4,s5,s6,⟨AH,GA⟩,rfl,rfl⟩
def D3.more{h:A5}{n:Nat}{B:↑↑Ce}(b:D3 h n B)(g:A5):D3 (h++g) n B:=by obtain⟨rs,e,l,r⟩:=b.ex;exact⟨rs,Bl h e g,l,λi q Aa=>Bl h (r i q Aa) g⟩
def iA{B:↑↑Ce}{m:Nat}(AH:⇑B=m)(h:A5):D3 (h++(⟨.lst,Iq (⇑h+1) m⟩::B.map Fo)) ⇑h B:=by
 refine⟨(C8 m).map λi=>⇑h+1+i,by simp[Iq,Ny],by simp[AH],λi r e=>?_⟩;rw[Da]at e;by_cases hi:i<m
 .rw[PN hi]at e;cases e;show(h++_)[⇑h+1+i]?=_;rw[show⇑h+1+i=⇑h+(i+1)by lia,ND];simp[EC,show i< ⇑B by lia]
 .rw[JE (hi:)]at e;cases e
def dE(ns:↑Int)(lo hi:Option Int):∃l,HO (BK ns) lo hi=BK l:=by unfold HO BK;exact⟨_,by rw[<-Xa,<-Ql]⟩
def hx(ws:↑W)(lo hi:Option Int):⇑(HO ws lo hi)<=⇑ws:=by unfold HO;simp;lia
@[simp] theorem Zo(ns:↑Int):Fe (BK ns)=true:=GR _ _ λa=>γ
def MG(m:BB)(lo hi:RZ)(ρ:B5)(h:A5):D9 m lo hi ρ h=(m ρ h).bind λp=>(lo ρ p.2).bind λl=>(hi ρ l.2).bind λu=>MS p.1 l.1 u.1 ρ u.2:=rfl
def Tu(i:Int)(ρ:B5)(h:A5):CP (pu (.int i)) ρ h=.ok (↥i,h):=rfl
def hy{ns:↑Int}(AH:⇑ns<=63)(h:A5)(lo:Option Int)(hi:Option Int)(ρ:B5):∃l:↑Int,⇑l<=63/\MS (.Df (BK ns)) lo hi ρ h=.ok (.ref ⇑h,h++[⟨.lst,BK l⟩]):=by
 obtain⟨l,e⟩:=dE ns lo hi;have:=hx (BK ns) lo hi;rw[e]at this;have Me:⇑l<=63:=by simp[BK]at this;lia
 refine⟨l,Me,?_⟩;unfold MS;rw[aL];dsimp only;rw[e,Hj h (by simp[BK,B1];lia)]
def ZL:Af:=BZ (AV (A1 Ξ (A1 BR (Ae 2 EW (J (Ae 2 M5 (J π (J ζ A2))) (J Tm A2))) (pu (.int 4))) η)) (AR (B6 Fp (J (A1 AB ψ Tm) A2)) (TW Θ Tm)) B_
noncomputable def Kp(ns:↑Int)(n a b:Nat)(s4:Option W):B5:=[↥(.Df (BK ns)),χ,↥(.ref a),↥(.ref b),s4]
def aa8{m k:Nat}(h:k<m):Lm m (k:Int)=↥k:=by unfold Lm;simp[h]
def ti{ns:↑Int}(AH:⇑ns<=63){cs:↑Nat}(h1:1<=⇑cs)(EJ:⇑cs<=6)(ES:∀c∈cs,1<=c/\c<=4){h:A5}{n:Nat}(Az:h[n]?=↥⟨.lst,Bq cs⟩) :
  ∃a b g A B,F2 cs A/\F2 cs B/\D3 (h++g) a A/\D3 (h++g) b B/\Wh [.Df (BK ns),.ref n] h=.ok (.tup [.ref a,.ref b],h++g):=by
 have lcs:⇑(Bq cs)=⇑cs:=by simp[Bq]
 obtain⟨D0,cP,Bm⟩:=hy AH h ↥2 ↥9 [↥(.Df (BK ns)),χ,none,none,none];obtain⟨A,Gq,KU⟩:=iD h1 EJ ES (s:=0) δ (Bl h Az ([⟨.lst,BK D0⟩]:A5)) (a:=⇑h) (l:=D0) γ;obtain⟨H1,q1⟩:∃H1,H1=(h++([⟨.lst,BK D0⟩]:A5))++(⟨.lst,Iq (⇑(h++([⟨.lst,BK D0⟩]:A5))+1) ⇑cs⟩::A.map Fo):=ο;have Em:h<+: H1:=by rw[q1,Dd];exact FN _ _
 have Ga:D3 H1 ⇑(h++([⟨.lst,BK D0⟩]:A5)) A:=by rw[q1];exact iA Gq.1 _
 rw[<-q1]at KU;obtain⟨Cm,Td,Cc⟩:=hy AH H1 ↥9 ↥16 [↥(.Df (BK ns)),χ,↥(.ref ⇑(h++([⟨.lst,BK D0⟩]:A5))),none,none];obtain⟨B,GA,Lg⟩:=iD h1 EJ ES (s:=1) δ (Bl H1 (GD Em Az) [⟨.lst,BK Cm⟩]) (a:=⇑H1) (l:=Cm) γ;obtain⟨AU,q2⟩:∃AU,AU=(H1++([⟨.lst,BK Cm⟩]:A5))++(⟨.lst,Iq (⇑(H1++([⟨.lst,BK Cm⟩]:A5))+1) ⇑cs⟩::B.map Fo):=ο;have DB:H1<+: AU:=by rw[q2,Dd];exact FN _ _
 have uG:D3 AU ⇑(h++([⟨.lst,BK D0⟩]:A5)) A:=by rw[q2,Dd];exact Ga.more _
 have HA:D3 AU ⇑(H1++([⟨.lst,BK Cm⟩]:A5)) B:=by rw[q2];exact iA GA.1 _
 rw[<-q2]at Lg;obtain⟨a,BJ⟩:∃a,a=⇑(h++([⟨.lst,BK D0⟩]:A5)):=ο;obtain⟨b,BC⟩:∃b,b=⇑(H1++([⟨.lst,BK Cm⟩]:A5)):=ο;rw[<-BJ]at KU Ga uG Cc;rw[<-BC]at Lg HA;have Mi:⇑H1<=b:=by rw[BC];simp
 have B2:=MZ (mi:=Ct (J (B6 BO Ω) A2)) (g:=A6 4) (b:=ZL) (ρ:=Kp ns n a b none) (h:=AU) (h0:=AU) 0 ⇑cs δ
  (λj ρ h'=>∃C s4,F2 cs C/\ρ=Kp ns n a b s4/\H1<+: h'/\D3 h' b C)
  (T:=λf h'=>∃C s4,F2 cs C/\f=.AM (Kp ns n a b s4)/\H1<+: h'/\D3 h' b C)
  (Ir (n:=⇑cs) (by simp[Kp,Gh (GD DB (GD Em Az)),lcs]) δ) ⟨B,none,GA,rfl,DB,HA⟩ ?_ ?_
 .obtain⟨f,h',CC,C,s4,JQ,rfl,Gy,Sn⟩:=B2.FW;obtain⟨g,rfl⟩:=Em.trans Gy;obtain⟨g3,Cd⟩:=Gy;refine⟨a,b,g,A,C,Gq,JQ,by rw[<-Cd];exact Ga.more _,Sn,?_⟩
  have e:Wh [.Df (BK ns),.ref n] h=(AK (AR (Ae 3 Mm (J (Bv (D9 π (CP Γ) (CP (pu (.int 9))))) (J ω (J η A2)))) (A6 2))
   (AK (AR (Ae 3 Mm (J (Bv (D9 π (CP (pu (.int 9))) (CP (pu (.int 16))))) (J ω (J ζ A2)))) (A6 3))
   (AK (DZ (Ct (J (B6 BO Ω) A2)) (A6 4) ZL) (At (As (J ψ (J Θ A2)))))) [↥(.Df (BK ns)),χ,none,none,none] h).bind outF:=rfl
  have uf:Mm [.ref ⇑h,.ref n,.int 0] (h++([⟨.lst,BK D0⟩]:A5))=.ok (.ref a,H1):=KU;have ug:Mm [.ref ⇑H1,.ref n,.int 1] (H1++([⟨.lst,BK Cm⟩]:A5))=.ok (.ref b,AU):=Lg;have s1:AR (Ae 3 Mm (J (Bv (D9 π (CP Γ) (CP (pu (.int 9))))) (J ω (J η A2)))) (A6 2) [↥(.Df (BK ns)),χ,none,none,none] h=.ok (.AM [↥(.Df (BK ns)),χ,↥(.ref a),none,none],H1):=by erw[Cy,GZ,BD,Fv,MG,Tu,v_var,Be,Bx,Dm,EX,Cj,A0,Bm,MC h [⟨.lst,BK D0⟩] rfl (Zo D0),Dn,Fg,HG,if_true,uf];rfl
  have s2:AR (Ae 3 Mm (J (Bv (D9 π (CP (pu (.int 9))) (CP (pu (.int 16))))) (J ω (J ζ A2)))) (A6 3) [↥(.Df (BK ns)),χ,↥(.ref a),none,none] H1=.ok (.AM (Kp ns n a b none),AU):=by erw[Cy,GZ,BD,Fv,MG,Tu,v_var,Be,Bx,Dm,EX,Cj,A0,Cc,MC H1 [⟨.lst,BK Cm⟩] rfl (Zo Cm),Dn,Fg,HG,if_true,ug];rfl
  rw[e,Am,s1,A0,Ax,Am,s2,A0,Ax,Am,I3,CC,A0,Ax];rfl
 .rintro j _ H Ac ⟨C,s4,JQ,rfl,Gy,Sn⟩;refine⟨Kp ns n a b τ,H,by simp[Kp],?_⟩;obtain⟨c,ec⟩:=iH H ns 1;have ec:M5 [.Df (BK ns),.int 1] H=.ok (.int c,H):=ec;obtain⟨y,DY⟩:=NQ c j δ;by_cases Ch:y%4=0
  .obtain⟨Bb,AA,Hi,ga⟩:=Ga.ex;obtain⟨rb,AE,li,wp⟩:=Sn.ex;have kM:j< ⇑Bb:=by rw[Hi,Gq.1];exact Ac
   have T3:j< ⇑rb:=by rw[li,JQ.1];exact Ac
   have f1:=GD Gy AA;have f2:=GD Gy (ga j Bb[j] (C7 kM));have E0:AB (.ref a) (.int (j:Int)) H=.ok (.ref Bb[j],H):=G2 f1 (by rw[Da,C7 kM];rfl);have AO:⇑((A.getD j []).map Ec)<=B1:=by have:=(Gq.2 j Ac).1;rw[CE];unfold B1;lia
   have ls:Fp [.ref Bb[j]] H=.ok (.ref ⇑H,H++[Fo (A.getD j [])]):=by unfold Fp;erw[Gs H f2];exact Hj H AO
   have Kb:b< ⇑H:=HN AE;refine⟨.AM (Kp ns n a b τ),(H++[Fo (A.getD j [])]).set b ⟨.lst,(rb.set j ⇑H).map W.ref⟩,?_,C.set j (A.getD j []),_,⟨by simp[JQ.1],λi hi=>?_⟩,rfl,WH (FC Gy _) Mi _,⟨rb.set j ⇑H,KD (Bl H AE _),by simp[li],λi r Ao=>?_⟩⟩
   .unfold ZL;have vd:=Bl H AE [Fo (A.getD j [])];have t:AV (A1 Ξ (A1 BR (Ae 2 EW (J (Ae 2 M5 (J π (J ζ A2))) (J Tm A2))) (pu (.int 4))) η) (Kp ns n a b τ) H=.ok (true,H):=by
     simp[Kp,ec,DY,Ch]
    rw[Cz,t,A0,if_pos rfl];erw[Kp,Cy,G5,BD,BG,v_var,Bx,Dm,EX,Cj,A0,E0,ls,TW,Hq,b3,NK _ vd,CE,aa8 T3,List.map_set]
   .by_cases Pp:j=i
    .subst Pp;have:(C.set j (A.getD j [])).getD j []=A.getD j []:=by
      rw[EC,Ku (by rw[JQ.1];exact Ac)];rfl
     rw[this];exact Gq.2 j Ac
    .have:(C.set j (A.getD j [])).getD i []=C.getD i []:=by
       rw[EC,ML Pp,<-EC]
     rw[this];exact JQ.2 i hi
   .by_cases Pp:j=i
    .subst Pp;rw[Ku T3]at Ao;cases Ao;have:(C.set j (A.getD j [])).getD j []=A.getD j []:=by
      rw[EC,Ku (by rw[JQ.1];exact Ac)];rfl
     rw[this,Gz δ];simp
    .rw[ML Pp]at Ao;have:(C.set j (A.getD j [])).getD i []=C.getD i []:=by
      rw[EC,ML Pp,<-EC]
     have g:=wp i r Ao;have nb:b≠r:=by
      intro z;subst z;rw[AE]at g;have g1:rb.map W.ref=(C.getD i []).map Ec:=congrArg O.ws (Fy g);obtain⟨x,r,ex⟩:=List.exists_cons_of_length_pos (show 0< ⇑rb by lia);rw[ex]at g1;cases eq:C.getD i []with
      |nil=>rw[eq]at g1;cases g1
      |cons y s=>rw[eq]at g1;cases(List.cons.inj g1).1
     rw[this,Gz nb];exact Bl H g _
  .refine⟨.AM (Kp ns n a b τ),H,?_,C,_,JQ,rfl,Gy,Sn⟩;unfold ZL;have t:AV (A1 Ξ (A1 BR (Ae 2 EW (J (Ae 2 M5 (J π (J ζ A2))) (J Tm A2))) (pu (.int 4))) η) (Kp ns n a b τ) H=.ok (false,H):=by
    simp[Kp,ec,DY,Ch]
   rw[Cz,t,A0,if_neg γ];rfl
 .rintro _ h' ⟨C,s4,JQ,rfl,Gy,Sn⟩;exact⟨C,s4,JQ,rfl,Gy,Sn⟩
end E4
namespace BX
theorem d6{α:Type}(p:α->Bool):∀l:↑α,bools (l.map λa=>W.AO (p a))=↥(l.map p)
 |[]=>rfl
 |a::l=>by simp[bools,d6 p l]
def bW{mi:GK}{it:H7}{g:DN}{e:BB}{ρ:B5}{h:A5}{nl:Nat}{caps:↑Nat}(ws:↑W)(p:W->Bool)(BS:B5->Prop)(AH:⇑ws<1000)(hi:mi ρ h=.ok (it,h))(ET:BS (Pe nl caps ρ))(hit:∀j acc,j<=⇑ws->it j (h++[⟨.lst,acc⟩])=↥ws[j]?)(Dh:∀w∈ws,∀ρ acc,BS ρ->∃CU,g w ρ (h++[⟨.lst,acc⟩])=.ok (.AM CU,h++[⟨.lst,acc⟩])/\BS CU/\e CU (h++[⟨.lst,acc⟩])=.ok (.AO (p w),h++[⟨.lst,acc⟩])) :
  B6 (Io true) (J (D8 nl caps mi g (pu true) e) A2) ρ h=.ok (.AO (ws.all p),h++[⟨.lst,ws.map λw=>.AO (p w)⟩]):=by
 have c:=Ox (mi:=mi) (it:=it) (g:=g) (t:=pu true) (e:=e) (ρ:=ρ) (h:=h) (h0:=h) (nl:=nl) (caps:=caps) ws (λ_=>true) (λw=>.AO (p w)) BS AH hi ET hit λw hw ρ acc j=>by obtain⟨CU,AA,Jz,AE⟩:=Dh w hw ρ acc j;exact⟨CU,AA,Jz,rfl,λ_=>AE⟩
 rw[List.filter_eq_self.mpr (λ_ _=>rfl)]at c;have q:E2 (h++[⟨.lst,ws.map λw=>W.AO (p w)⟩]) (.ref ⇑h)=↥(false,ws.map λw=>W.AO (p w)):=Gs _ γ;erw[G5,BD,Bx,c,A0,Io,q,d6 p ws,if_true];rw[Ug];rfl
def ak{mi:GK}{it:H7}{g:DN}{e:BB}{ρ:B5}{h:A5}{nl:Nat}{caps:↑Nat}(ws:↑W)(BS:B5->Prop)(AH:⇑ws<1000)(hi:mi ρ h=.ok (it,h))(ET:BS (Pe nl caps ρ))(hit:∀j acc,j<=⇑ws->it j (h++[⟨.lst,acc⟩])=↥ws[j]?)(Dh:∀w∈ws,∀ρ acc,BS ρ->∃CU,g w ρ (h++[⟨.lst,acc⟩])=.ok (.AM CU,h++[⟨.lst,acc⟩])/\BS CU/\e CU (h++[⟨.lst,acc⟩])=.ok (.AO true,h++[⟨.lst,acc⟩])) :
  Bv (B6 (Io true) (J (D8 nl caps mi g (pu true) e) A2)) ρ h=.ok Ty:=by
 rw[Fv,bW ws (λ_=>true) BS AH hi ET hit Dh,List.all_eq_true.mpr (λ_ _=>rfl)];simp
def ae_{x:Str}{j:Nat}(h:A5)(Ac:j<=⇑x.cps.toList):Rc x j h=↥(x.cps.toList.map λc=>W.str ⟨#[c]⟩)[j]?:=by
 unfold Rc;rw[S7]at Ac;by_cases e:j=x.cps.size
 .rw[if_pos e,Da,JE (by simp;lia)];rfl
 .rw[if_neg e,Da,X5];have:j<x.cps.size:=δ
  rw[MK this];rfl
def Pu{h:A5}{x y:W}{d:Co}{t:Bool}{ds:↑Co}(AX:Gd h y x=none)(AA:CI 7 h x=↥d)(AE:CI 8 h y=↥(.Ci t ds))(b:Bool):Cs b x y h=.ok (.AO (if b then ds.any (λy=>eqT y d)else !ds.any λy=>eqT y d),h):=by unfold Cs;rw[AX];unfold a6;rw[AA,AE]
end BX
namespace E4
def aer{c:Nat}(s:LN c)(h:A5):Cs true (.str ⟨#[c]⟩) RA h=.ok Ty:=by rw[Pu (d:=.str ⟨#[c]⟩) (t:=true) (ds:=[.str (AL "0"),.str (AL "1"),.str (AL "x")]) rfl (by simp[CI]) (by simp[RA,CI,E2])];rcases s with rfl|rfl|rfl<;>rfl
def str_len(x:Str):⇑x=⇑x.cps.toList:=rfl
def n5{x:Str}(p:QC x)(h:A5):Wf [.str x] h=.ok Ty:=by
 have a:=ak (mi:=Ca π) (it:=Rc x) (g:=A6 0) (e:=A1 (Cs true) π (pu RA)) (ρ:=[↥(.str x)]) (h:=h) (nl:=1) (caps:=[]) (x.cps.toList.map λc=>W.str ⟨#[c]⟩) (λρ=>∃s,ρ=[s]) (by rw[CE,p.l];lia) (by simp[Ca]) ⟨none,rfl⟩ (λj acc Ac=>ae_ _ (Ac:)) (by rintro w hw ρ acc ⟨s,rfl⟩;obtain⟨c,AJ,rfl⟩:=List.mem_map.mp hw;exact⟨[↥(.str ⟨#[c]⟩)],γ,⟨_,rfl⟩,by simp[aer (p.s c AJ)]⟩)
 have D0:BO [.str x] h=.ok (.int 4,h):=by unfold BO;dsimp only;rw[str_len,p.l];rfl
 have Cm:BO [Ou] h=.ok (.int 4,h):=rfl;have CZ:Dz "str" (.str x) h=.ok Ty:=rfl;simp[-Fv,Wf,bI,CZ,D0,Cm,a]
def l4{o:Option Nat}{c:Nat}(AJ:∀k,o=↥k->k<c)(h:A5):U2 [DA o,.int (c:Int)] h=.ok Ty:=by
 cases o with
 |none=>simp[U2,Yx,DA,Dj,NJ]
 |some k=>have:=AJ k rfl;have w:=Tw (k:Int) 0 ((c:Int)-1) h;rw[decide_eq_true (show(0:Int)<=(k:Int)by lia),decide_eq_true (show(k:Int)<=(c:Int)-1 by lia)]at w;simp[U2,Yx,DA,Dj,NJ,w]
def R0{ws:↑W}{k:Nat}{w:W}(h:A5)(e:ws[k]?=↥w):AB (.tup ws) (.int (k:Int)) h=.ok (w,h):=T2 h (WL h ws) e
def Hd(h:A5)(x:W)(ws:↑W):AB (.tup (x::ws)) (.int 0) h=.ok (x,h):=R0 (k:=0) h rfl
def JS(h:A5)(x y:W)(ws:↑W):AB (.tup (x::y::ws)) (.int 1) h=.ok (y,h):=R0 (k:=1) h rfl
def V1(h:A5)(x y z:W)(ws:↑W):AB (.tup (x::y::z::ws)) (.int 2) h=.ok (z,h):=R0 (k:=2) h rfl
def Pz(h:A5)(ws:↑W):BO [.tup ws] h=.ok (.int ⇑ws,h):=by simp[BO]
def afS{r:Ce}{c:Nat}(ok:Sf c r)(h:A5):Wg [Ec r,.int (c:Int)] h=.ok Ty:=by have CZ:Dz "tuple" (Ec r) h=.ok Ty:=rfl;have D0:BO [Ec r] h=.ok (.int 3,h):=Pz h _;have E8:AB (Ec r) (.int 0) h=.ok (.str r.p,h):=Hd h _ _;have AA:AB (Ec r) (.int 1) h=.ok (DA r.a,h):=JS h _ _ _;have AE:AB (Ec r) (.int 2) h=.ok (DA r.b,h):=V1 h _ _ _ _;simp[Wg,bJ,CZ,D0,E8,AA,AE,n5 ok.p,l4 ok.a,l4 ok.b]
def Zf{h:A5}{n:Nat}{ws:↑W}(e:h[n]?=↥⟨.lst,ws⟩)(g:A5)(j:Nat):FG ST j (h++g)=↥ws[j]?:=K3 (Bl h e g) j
def th{b:↑Ce}{c:Nat}(ok:Mt c b){h:A5}{n:Nat}(Az:h[n]?=↥(Fo b)):We [.ref n,.int (c:Int)] h=.ok Ty:=by
 have a:=ak (mi:=Ca π) (it:=FG ST) (g:=A6 0) (e:=Ae 2 Wg (J π Ω)) (ρ:=[χ,↥(.int (c:Int))]) (h:=h) (nl:=1) (caps:=[1]) (b.map Ec) (λρ=>∃s,ρ=[s,↥(.int (c:Int))]) (by rw[CE];have:=ok.1;lia) (IT Az γ) ⟨none,rfl⟩ (λj acc _=>Zf Az _ j) (by rintro w hw ρ acc ⟨s,rfl⟩;obtain⟨r,BH,rfl⟩:=List.mem_map.mp hw;exact⟨[↥(Ec r),↥(.int (c:Int))],γ,⟨_,rfl⟩,by simp[afS (ok.2 r BH)]⟩)
 have CZ:Dz "list" ST h=.ok Ty:=by erw[Dz,MU,Az,Fo];rfl
 have D0:BO [.ref n] h=.ok (.int ⇑b,h):=by rw[Gh Az];simp
 have:=ok.1;have g1:KW (.int (⇑b:Int)) Ve h=.ok (.AO false,h):=by show KW (.int (⇑b:Int)) (.int 12) h=_;rw[abt,decide_eq_false δ]
 simp[-Fv,We,bl,CZ,D0,g1,a]
end E4
namespace BX
def eK{h:A5}{n:Nat}{c:Str}{ns:↑Str}{ws:↑W}(e:h[n]?=↥⟨.ins c ns,ws⟩):Qx h c ST=↥(n,ns,ws):=by erw[Qx,e,if_true]
def Dy{h:A5}{n:Nat}{c f:Str}{ns:↑Str}{ws:↑W}{u:W}(e:h[n]?=↥⟨.ins c ns,ws⟩)(v:DL ns ws f=↥u):Av c f ST h=.ok (u,h):=by unfold Av;rw[eK e];dsimp only;rw[v]
def TS{h:A5}{n:Nat}{c f:Str}{ns ns':↑Str}{ws ws':↑W}{v:W}{ρ:B5}(e:h[n]?=↥⟨.ins c ns,ws⟩)(l:⇑ns<1000)(AA:TQ ns f=ns')(AE:RG ns ws f v=ws'):VA c f ST v ρ h=.ok (.AM ρ,h.set n ⟨.ins c ns',ws'⟩):=by unfold VA;rw[eK e];dsimp only;rw[if_pos l,AA,AE]
def Tt(c f:Str)(o v:BB)(ρ:B5)(h:A5):Ex c f o v ρ h=(v ρ h).bind λp=>(o ρ p.2).bind λq=>VA c f q.1 p.1 ρ q.2:=rfl
def aft(c x:Str)(n:Nat)(mf:Bk)(o:BB)(ma:E6)(ρ:B5)(h:A5):CO c x n mf o ma ρ h=(o ρ h).bind λp=>VX c x p.1 (bd ma λws _ h=>if ⇑ws=n then mf (p.1::ws) h else .bad) ρ p.2:=rfl
def z3{α:Type}{h:A5}{n:Nat}{c x:Str}{ns:↑Str}{ws:↑W}{m:M α}{ρ:B5}(e:h[n]?=↥⟨.ins c ns,ws⟩)(v:DL ns ws x=none):VX c x ST m ρ h=m ρ h:=by unfold VX;rw[eK e];dsimp only;rw[v]
def M6{h h1:A5}{n k:Nat}{c x:Str}{ns:↑Str}{ws us:↑W}{mf:Bk}{o:BB}{ma:E6}{ρ:B5}{r:R (W×A5)}(Fc:o ρ h=.ok (.ref n,h))(e:h[n]?=↥⟨.ins c ns,ws⟩)(v:DL ns ws x=none)(BJ:ma ρ h=.ok (us,h1))(l:⇑us=k)(Ao:mf (.ref n::us) h1=r):CO c x k mf o ma ρ h=r:=by rw[aft,Fc,A0,z3 e v,Hq,BJ,A0,if_pos l,Ao]
def Zk{h h1 h2:A5}{c:Str}{k:Nat}{mf:Bk}{ma:E6}{ρ:B5}{us:↑W}(BJ:ma ρ h=.ok (us,h1))(l:⇑us=k)(Ao:mf (.ref ⇑h1::us) (h1++[⟨.ins c [],[]⟩])=.ok (.non,h2)):K4 c k mf ma ρ h=.ok (.ref ⇑h1,h2):=by unfold K4;rw[Hq,BJ,A0];dsimp only;rw[if_pos l,Ao];rfl
def jZ{h:A5}{n:Nat}{ks:↑Et}{vs:↑W}{k v:W}{FT:Et}{ρ:B5}(e:h[n]?=↥⟨.Dx ks,vs⟩)(DH:NS k=↥FT)(dR:FT∉ks)(l:⇑vs<B1):Ni ST k v ρ h=.ok (.AM ρ,h.set n ⟨.Dx (ks++[FT]),vs++[v]⟩):=by unfold Ni;erw[e,DH,if_pos l,NU,if_neg dR]
def gE(d k v:BB)(ρ:B5)(h:A5):Mk d k v ρ h=(v ρ h).bind λp=>(d ρ p.2).bind λq=>(k ρ q.2).bind λr=>Ni q.1 r.1 p.1 ρ r.2:=rfl
end BX
namespace E4
def acJ(h:A5)(a b:AS):Ay false (AI a) (AI b) h=.ok (.AO (!decide (a=b)),h):=by
 have:=Yc h a b;unfold Ay at this |-;rw[b8,b8]at this |-;erw[if_true,Kw,if_false]at this |-;have:eqT (Co.Ci true [Co.int (a.1:Int),Co.int (a.2:Int)]) (Co.Ci true [Co.int (b.1:Int),Co.int (b.2:Int)])=decide (a=b):=by injection this with this;injection this with this _;injection this
 rw[this]
def n2(h:A5)(x y:W):Ro [.tup [x,y]] h=.ok Ty:=by have CZ:Dz "tuple" (.tup [x,y]) h=.ok Ty:=rfl;simp[Ro,bp,CZ,Pz]
def aai(h:A5)(cs:↑Nat):BO [.tup (Bq cs)] h=.ok (.int ⇑cs,h):=by rw[Pz];simp[Bq]
def dI{cs:↑Nat}{d:AS}(hd:d∈CR cs ⇑cs)(h:A5):U1 [.tup (Bq cs),AI d] h=.ok Ty:=by obtain⟨h1,h2⟩:=Pb.mp hd;have p:Ro [AI d] h=.ok Ty:=n2 h _ _;have E8:AB (AI d) (.int 0) h=.ok (.int (d.1:Int),h):=Hd h _ _;have AA:AB (AI d) (.int 1) h=.ok (.int (d.2:Int),h):=JS h _ _ _;have AE:AB (.tup (Bq cs)) (.int (d.1:Int)) h=.ok (.int (cs.getD d.1 0:Nat),h):=R0 h (Vi h1);have G6:=Tw (d.1:Int) 0 ((⇑cs:Int)-1) h;have H5:=Tw (d.2:Int) 0 ((cs.getD d.1 0:Nat)-1:Int) h;rw[decide_eq_true (show(0:Int)<=(d.1:Int)by lia),decide_eq_true (show(d.1:Int)<=(⇑cs:Int)-1 by lia)]at G6;rw[decide_eq_true (show(0:Int)<=(d.2:Int)by lia),decide_eq_true (show(d.2:Int)<=((cs.getD d.1 0:Nat):Int)-1 by lia)]at H5;simp[U1,bo,p,E8,AA,AE,aai,G6,H5,-EC]
def afb{cs:↑Nat}{w:AS×AS}(h1:w.1∈CR cs ⇑cs)(h2:w.2∈CR cs ⇑cs)(ne:w.1≠w.2)(h:A5):U4 [.tup (Bq cs),CJ w] h=.ok Ty:=by have p:Ro [CJ w] h=.ok Ty:=n2 h _ _;have E8:AB (CJ w) (.int 0) h=.ok (AI w.1,h):=Hd h _ _;have AA:AB (CJ w) (.int 1) h=.ok (AI w.2,h):=JS h _ _ _;simp[U4,bL,p,E8,AA,dI h1,dI h2,acJ,ne]
def J4(d:AS):Et:=[.inl (d.1:Int),.inl (d.2:Int)]
def dT(d:AS):NS (AI d)=↥(J4 d):=rfl
def ZU{a b:AS}(h:J4 a=J4 b):a=b:=by obtain⟨a1,a2⟩:=a;obtain⟨b1,F6⟩:=b;erw[J4,hD,U_,and_true]at h;obtain⟨h1,h2⟩:=h;rw[Prod.mk.injEq];lia
def LS(ws:ν):↑Et:=(ends ws).map J4
def LU(ws:ν):↑W:=(ws.map λw=>[AI w.2,AI w.1]).flatten
def H_(ws:ν):O:=⟨.Dx (LS ws),LU ws⟩
def xO(ws:ν)(w:AS×AS):LS (ws++[w])=LS ws++[J4 w.1]++[J4 w.2]:=by simp[LS,ends]
def x_(ws:ν)(w:AS×AS):LU (ws++[w])=LU ws++[AI w.2]++[AI w.1]:=by simp[LU]
def xZ(ws:ν):⇑(LU ws)=2*⇑ws:=by
 induction ws with
 |nil=>rfl
 |cons w ws C4=>simp[LU]at C4 |-;lia
def lE{ws:ν}{d:AS}:J4 d∈LS ws↔d∈ends ws:=by unfold LS;rw[XY];exact⟨λ⟨a,h,e⟩=>ZU e▸h,λh=>⟨d,h,rfl⟩⟩
theorem qZ(d:AS):∀ws:ν,DL (LS ws) (LU ws) (J4 d)=(Dt ws d).map AI
 |[]=>rfl
 |w::ws=>by
  have AA:LS (w::ws)=J4 w.1::J4 w.2::LS ws:=by simp[LS,ends]
  have AE:LU (w::ws)=AI w.2::AI w.1::LU ws:=by simp[LU]
  rw[AA,AE];erw[DL,Dt];by_cases h1:w.1=d
  .rw[if_pos (by rw[h1]),if_pos h1];rfl
  .rw[if_neg (λz=>h1 (ZU z)),if_neg h1];by_cases h2:w.2=d
   .rw[if_pos (by rw[h2]),if_pos h2];rfl
   .rw[if_neg (λz=>h2 (ZU z)),if_neg h2];exact qZ d ws
def YW{h:A5}{f:Nat}{ws:ν}(e:h[f]?=↥(H_ ws))(d:AS):Gd h (.ref f) (AI d)=↥((Dt ws d).map AI):=by unfold Gd;erw[e,H_,dT,Nv,qZ]
def ais{ws:ν}{d:AS}(h:Dt ws d=none):d∉ends ws:=by
 induction ws with
 |nil=>simp[ends]
 |cons w ws C4=>
  erw[Dt]at h
  split at h
  .cases h
  .split at h
   .cases h
   .rename_i h1 h2;have:=C4 h;erw[ends,Do,PD,Gj,Ix,PI,or_false]at this |-;rintro((rfl|rfl)|z)
    .exact h1 rfl
    .exact h2 rfl
    .exact this z
def d4{ws:ν}{d e:AS}(h:Dt ws d=↥e):d∈ends ws/\e∈ends ws:=by
 induction ws with
 |nil=>simp[Dt]at h
 |cons w ws C4=>
  erw[Dt]at h;erw[ends,Do,PD,Gj,Ix,PI,or_false]
  split at h
  .rename_i h1;cases h;exact⟨.inl (.inl h1.symm),.inl (.inr rfl)⟩
  .split at h
   .rename_i h1 h2;cases h;exact⟨.inl (.inr h2.symm),.inl (.inl rfl)⟩
   .have:=C4 h;exact⟨.inr this.1,.inr this.2⟩
def cj:Af:=AK (BZ (Du (AV (Ae 2 U4 (J π (J Θ A2))))) (λ_ _=>.bad) B_)
    (AK (BZ (FU (AV (A1 (Cs true) (A1 AB Θ η) ψ)) (AV (A1 (Cs true) (A1 AB Θ ζ) ψ))) (λ_ _=>.bad) B_)
    (AK (Mk ψ (A1 AB Θ η) (A1 AB Θ ζ))
    (Mk ψ (A1 AB Θ ζ) (A1 AB Θ η))))
def du(ws:↑W)(j:Nat)(h:A5):FG (.tup ws) j h=↥ws[j]?:=by simp[FG]
def xH{cs:↑Nat}{ws:ν}(N:Gk cs ws)(h:A5):Wc [.tup (Bq cs),.tup (ws.map CJ)] h=.ok (.ref ⇑h,h++[H_ ws]):=by
 have few:=N.few
 have B2:=P1 (mi:=Ca ω) (it:=FG (.tup (ws.map CJ))) (g:=A6 3) (b:=cj) (ρ:=[↥(.tup (Bq cs)),↥(.tup (ws.map CJ)),υ,none]) (h:=h++[⟨.Dx [],[]⟩]) (h0:=h++[⟨.Dx [],[]⟩]) (ws.map CJ) (by simp;lia)
  (λj ρ h'=>(∃s3,ρ=[↥(.tup (Bq cs)),↥(.tup (ws.map CJ)),υ,s3])/\h'=h++[H_ (ws.take j)])
  (T:=λf h'=>(∃s3,f=.AM [↥(.tup (Bq cs)),↥(.tup (ws.map CJ)),υ,s3])/\h'=h++[H_ ws])
  (by simp[Ca]) (λj ρ h' _ _=>du _ j h') ⟨⟨none,rfl⟩,by simp[H_,LS,LU,ends]⟩ ?_ ?_
 .obtain⟨f,h',CC,⟨s3,rfl⟩,rfl⟩:=B2.FW;have e:Wc [.tup (Bq cs),.tup (ws.map CJ)] h=(AK (AR (Kd true) (A6 2)) (AK (DZ (Ca ω) (A6 3) cj) (At ψ)) [↥(.tup (Bq cs)),↥(.tup (ws.map CJ)),none,none] h).bind outF:=rfl;have s1:AR (Kd true) (A6 2) [↥(.tup (Bq cs)),↥(.tup (ws.map CJ)),none,none] h=.ok (.AM [↥(.tup (Bq cs)),↥(.tup (ws.map CJ)),υ,none],h++[⟨.Dx [],[]⟩]):=rfl;rw[e,Am,s1,A0,Ax,Am,I3,CC,A0,Ax];rfl
 .rintro j w _ _ C2 ⟨⟨s3,rfl⟩,rfl⟩;rw[Da]at C2;cases BV:ws[j]? with
  |none=>rw[BV]at C2;cases C2
  |some p=>
   rw[BV]at C2;cases C2;have Ac:j< ⇑ws:=(List.getElem?_eq_some_iff.mp BV).1;have mD:ws[j]=p:=(List.getElem?_eq_some_iff.mp BV).2;have Zu:ws.take (j+1)=ws.take j++[p]:=by rw[gK Ac,mD]
   have Ll:ends ws=ends (ws.take j)++([p.1,p.2]++ends (ws.drop (j+1))):=by
    have:ws=ws.take j++p::ws.drop (j+1):=by rw[<-mD,<-gP Ac,PL]
    conv=>lhs;rw[this]
    simp[ends]
   have Bg:=N.Bg;rw[Ll]at Bg;have e2:=List.nodup_append.mp Bg;have acG:=List.nodup_append.mp e2.2.1;have lN:p.1≠p.2:=λz=>by have:=acG.1;rw[z]at this;simp at this
   have EL:p.1∉ends (ws.take j):=λz=>e2.2.2 _ z _ γ rfl;have EE:p.2∉ends (ws.take j):=λz=>e2.2.2 _ z _ γ rfl;have GP:p.1∈CR cs ⇑cs:=N.sub _ (by rw[Ll];simp);have HR:p.2∈CR cs ⇑cs:=N.sub _ (by rw[Ll];simp);obtain⟨H,Bt⟩:∃H,H=h++[H_ (ws.take j)]:=ο;have CC:H[⇑h]?=↥(H_ (ws.take j)):=by rw[Bt];simp
   refine⟨[↥(.tup (Bq cs)),↥(.tup (ws.map CJ)),υ,↥(CJ p)],H,by rw[Bt];simp,?_⟩;have E8:∀h,AB (CJ p) (.int 0) h=.ok (AI p.1,h):=λh=>Hd h _ _;have AA:∀h,AB (CJ p) (.int 1) h=.ok (AI p.2,h):=λh=>JS h _ _ _;have b1:∀d,d∉ends (ws.take j)->Cs true (AI d) (.ref ⇑h) H=.ok (.AO false,H):=λd hd=>by
    unfold Cs;rw[YW CC];cases q:Dt (ws.take j) d with
    |none=>rfl
    |some x=>exact absurd (d4 q).1 hd
   have Ee:=xZ (ws.take j);rw[N0]at Ee;have Em:=jZ (v:=AI p.2) (ρ:=[↥(.tup (Bq cs)),↥(.tup (ws.map CJ)),υ,↥(CJ p)]) CC (dT p.1) (λz=>EL (lE.mp z)) (by unfold B1;lia);have um:(H.set ⇑h ⟨.Dx (LS (ws.take j)++[J4 p.1]),LU (ws.take j)++[AI p.2]⟩)[⇑h]?=↥⟨.Dx (LS (ws.take j)++[J4 p.1]),LU (ws.take j)++[AI p.2]⟩:=KD CC;have DB:=jZ (v:=AI p.1) (ρ:=[↥(.tup (Bq cs)),↥(.tup (ws.map CJ)),υ,↥(CJ p)]) um (dT p.2) (λz=>by
    rcases List.mem_append.mp z with z|z
    .exact EE (lE.mp z)
    .exact lN (ZU (List.mem_singleton.mp z)).symm) (by rw[F1];unfold B1;simp;lia)
   have t1:Du (AV (Ae 2 U4 (J π (J Θ A2)))) [↥(.tup (Bq cs)),↥(.tup (ws.map CJ)),υ,↥(CJ p)] H=.ok (false,H):=by simp[afb GP HR lN]
   have C_:FU (AV (A1 (Cs true) (A1 AB Θ η) ψ)) (AV (A1 (Cs true) (A1 AB Θ ζ) ψ)) [↥(.tup (Bq cs)),↥(.tup (ws.map CJ)),υ,↥(CJ p)] H=.ok (false,H):=by simp[E8,AA,b1 _ EL,b1 _ EE]
   unfold cj;rw[Am,Cz,t1,A0,if_neg γ,FD,A0,Ax,Am,Cz,C_,A0,if_neg γ,FD,A0,Ax,Am];erw[gE,BG,v_var,Be,Dm,EX,Cj,A0,E8,AA,Em,Ax,DB,Vr,YK];refine⟨⟨_,rfl⟩,?_⟩;rw[Zu,Bt];simp[H_,xO,x_]
 .rintro _ _ ⟨⟨s3,rfl⟩,rfl⟩;refine⟨⟨_,rfl⟩,?_⟩;rw[CE,gj]
def vE{cs:↑Nat}(h1:1<=⇑cs)(EJ:⇑cs<=6)(ES:∀c∈cs,1<=c/\c<=4){h:A5}{n:Nat}(Az:h[n]?=↥⟨.lst,Bq cs⟩):Wa [.ref n] h=.ok Ty:=by
 have lcs:⇑(Bq cs)=⇑cs:=by simp[Bq]
 have a:=ak (mi:=Ca π) (it:=FG ST) (g:=A6 0) (e:=Ae 3 Ml (J π (J ζ (J (pu SS) A2)))) (ρ:=[χ]) (h:=h) (nl:=1) (caps:=[]) (Bq cs) (λρ=>∃s,ρ=[s]) δ (IT Az γ) ⟨none,rfl⟩ (λj acc _=>Zf Az _ j) (by rintro w hw ρ acc ⟨s,rfl⟩;obtain⟨c,AJ,rfl⟩:=List.mem_map.mp hw;have AJ:=ES c AJ;have w:=Tw (c:Int) 1 4 (h++[⟨.lst,acc⟩]);rw[decide_eq_true (show(1:Int)<=(c:Int)by lia),decide_eq_true (show(c:Int)<=4 by lia)]at w;exact⟨[↥(.int (c:Int))],γ,⟨_,rfl⟩,by simp[SS,w]⟩)
 have CZ:Dz "list" ST h=.ok Ty:=by erw[Dz,MU,Az];rfl
 have D0:BO [.ref n] h=.ok (.int ⇑cs,h):=by rw[Gh Az,lcs]
 have Bm:Oc Ln Ln ζ (B6 BO Δ) (pu SU) [χ] h=.ok Ty:=by erw[ah,Be,G5,BD,Bx,v_var,Dm,Cj,A0,D0,lS,decide_eq_true (show(1:Int)<=(⇑cs:Int)by lia),MX,if_true,Hq,SU,decide_eq_true (show(⇑cs:Int)<=6 by lia)]
 simp[-Fv,Wa,bi,CZ,Bm,a]
def Mo(cs:↑Nat)(ws:ν)(f:Nat):O:=⟨.ins "Net" ["many","counts","joined","far"],[.int ⇑cs,.tup (Bq cs),.tup (ws.map CJ),.ref f]⟩
def kz{cs:↑Nat}{ws:ν}(N:Gk cs ws){h:A5}{a b:Nat}(BJ:h[a]?=↥⟨.lst,Bq cs⟩)(BC:h[b]?=↥⟨.lst,ws.map CJ⟩) :
  Of [.ref ⇑h,.ref a,.ref b] (h++[⟨.ins "Net" [],[]⟩])=.ok (.non,h++[Mo cs ws (⇑h+1),H_ ws]):=by
 have lcs:⇑(Bq cs)=⇑cs:=by simp[Bq]
 have e:Of [.ref ⇑h,.ref a,.ref b] (h++[⟨.ins "Net" [],[]⟩])=(YG [υ,↥(.ref a),↥(.ref b)] (h++[⟨.ins "Net" [],[]⟩])).bind outF:=rfl;rw[e];obtain⟨ρ,BY⟩:∃ρ:B5,ρ=[υ,↥(.ref a),↥(.ref b)]:=ο;rw[<-BY];have v0:I 0 ρ=λh'=>.ok (.ref ⇑h,h'):=by rw[BY];rfl
 have v1:I 1 ρ=λh'=>.ok (.ref a,h'):=by rw[BY];rfl
 have v2:I 2 ρ=λh'=>.ok (.ref b,h'):=by rw[BY];rfl
 have A:∀o:O,(h++[o])[a]?=↥⟨.lst,Bq cs⟩:=λo=>Bl h BJ _;have B:∀o:O,(h++[o])[b]?=↥⟨.lst,ws.map CJ⟩:=λo=>Bl h BC _;have t1:Du (AV (Ae 1 Wa Ω)) ρ (h++[⟨.ins "Net" [],[]⟩])=.ok (false,h++[⟨.ins "Net" [],[]⟩]):=by simp[-v_var,v1,vE N.h1 N.EJ N.c (A _)]
 have CZ:Dz "list" (.ref b) (h++[⟨.ins "Net" [],[]⟩])=.ok (.AO true,h++[⟨.ins "Net" [],[]⟩]):=by erw[Dz,MU,B];rfl
 have C_:Du (AV (B3 (Dz "list") ψ)) ρ (h++[⟨.ins "Net" [],[]⟩])=.ok (false,h++[⟨.ins "Net" [],[]⟩]):=by simp[-v_var,v2,CZ]
 have s3:Ex "Net" "many" π (B6 BO Ω) ρ (h++[⟨.ins "Net" [],[]⟩])=.ok (.AM ρ,h++[⟨.ins "Net" ["many"],[.int ⇑cs]⟩]):=by rw[Tt];erw[G5,BD,Bx,v1,v0,A0,Gh (A _),lcs];rw[TS (ns':=["many"]) (ws':=[.int ⇑cs]) (DP h _) ε rfl rfl];simp
 have qu:∀(h':A5)(n:Nat)(us:↑W),h'[n]?=↥⟨.lst,us⟩->OK [.ref n] h'=.ok (.tup us,h'):=λh' n us q=>by erw[OK,Gs h' q]
 have s4:Ex "Net" "counts" π (B6 OK Ω) ρ (h++[⟨.ins "Net" ["many"],[.int ⇑cs]⟩])=.ok (.AM ρ,h++[⟨.ins "Net" ["many","counts"],[.int ⇑cs,.tup (Bq cs)]⟩]):=by rw[Tt];erw[G5,BD,Bx,v1,v0,A0,qu _ _ _ (A _)];rw[TS (ns':=["many","counts"]) (ws':=[.int ⇑cs,.tup (Bq cs)]) (DP h _) ε rfl rfl];simp
 have s5:Ex "Net" "joined" π (B6 OK Fr) ρ (h++[⟨.ins "Net" ["many","counts"],[.int ⇑cs,.tup (Bq cs)]⟩])=.ok (.AM ρ,h++[⟨.ins "Net" ["many","counts","joined"],[.int ⇑cs,.tup (Bq cs),.tup (ws.map CJ)]⟩]):=by rw[Tt];erw[G5,BD,Bx,v2,v0,A0,qu _ _ _ (B _)];rw[TS (ns':=["many","counts","joined"]) (ws':=[.int ⇑cs,.tup (Bq cs),.tup (ws.map CJ)]) (DP h _) ε rfl rfl];simp
 have s6:Ex "Net" "far" π (Ae 2 Wc (J (B3 (Av "Net" "counts") π) (J (B3 (Av "Net" "joined") π) A2))) ρ (h++[⟨.ins "Net" ["many","counts","joined"],[.int ⇑cs,.tup (Bq cs),.tup (ws.map CJ)]⟩])=.ok (.AM ρ,h++[Mo cs ws (⇑h+1),H_ ws]):=by rw[Tt];have f1:Av "Net" "counts" (.ref ⇑h) (h++[⟨.ins "Net" ["many","counts","joined"],[.int ⇑cs,.tup (Bq cs),.tup (ws.map CJ)]⟩])=.ok (.tup (Bq cs),_):=Dy (DP h _) rfl;have f2:Av "Net" "joined" (.ref ⇑h) (h++[⟨.ins "Net" ["many","counts","joined"],[.int ⇑cs,.tup (Bq cs),.tup (ws.map CJ)]⟩])=.ok (.tup (ws.map CJ),_):=Dy (DP h _) rfl;erw[GZ,BD,Bx,Gv,v0,A0,f1,f2,Dn,Fg,HG,if_true,xH N];rw[TS (ns':=["many","counts","joined","far"]) (ws':=[.int ⇑cs,.tup (Bq cs),.tup (ws.map CJ),.ref (⇑h+1)]) (Bl _ (DP h _) _) ε rfl (by simp[F1];rfl)];rw[Dd,Po];rfl
 unfold YG;rw[Am,Cz,t1,A0,if_neg γ,FD,A0,Ax,Am,Cz,C_,A0,if_neg γ,FD,A0,Ax,Am,s3,A0,Ax,Am,s4,A0,Ax,Am,s5,A0,Ax,s6];rfl
structure FL(h:A5)(n:Nat)(cs:↑Nat)(ws:ν):Prop where
 ex:∃f,h[n]?=↥(Mo cs ws f)/\h[f]?=↥(H_ ws)
def FL.more{h:A5}{n:Nat}{cs:↑Nat}{ws:ν}(b:FL h n cs ws)(g:A5):FL (h++g) n cs ws:=by obtain⟨f,e,r⟩:=b.ex;exact⟨f,Bl h e g,Bl h r g⟩
def WR{h:A5}{w:W}{t:Bool}{us:↑W}(e:E2 h w=↥(t,us))(l:⇑us<=B1):Fp [w] h=.ok (.ref ⇑h,h++[⟨.lst,us⟩]):=by erw[Fp,e];exact Hj h l
def acL{cs:↑Nat}{ws:ν}(N:Gk cs ws){h:A5}{n:Nat}(A:FL h n cs ws):Wb [.ref n] h=.ok (.ref (⇑h+2),h++[⟨.lst,Bq cs⟩,⟨.lst,ws.map CJ⟩,Mo cs ws (⇑h+3),H_ ws]):=by
 obtain⟨f,AA,AE⟩:=A.ex;have few:=N.few;have ZZ:=N.EJ;have f1:Av "Net" "counts" ST h=.ok (.tup (Bq cs),h):=Dy AA rfl;have f2:Av "Net" "joined" ST (h++[⟨.lst,Bq cs⟩])=.ok (.tup (ws.map CJ),_):=Dy (Bl h AA _) rfl;have D0:Fp [.tup (Bq cs)] h=.ok (.ref ⇑h,h++[⟨.lst,Bq cs⟩]):=WR (WL _ _) (by simp[Bq,B1];lia);have Cm:Fp [.tup (ws.map CJ)] (h++[⟨.lst,Bq cs⟩])=.ok (.ref (⇑h+1),h++[⟨.lst,Bq cs⟩,⟨.lst,ws.map CJ⟩]):=by rw[WR (WL _ _) (by simp[B1];lia)];simp
 have G6:PV [.ref n] (h++[⟨.lst,Bq cs⟩])=.ok (.ref (⇑h+1),h++[⟨.lst,Bq cs⟩,⟨.lst,ws.map CJ⟩]):=by erw[PV,WP,bg,FZ,G5,BD,Bx,Gv,v_var,VW,Do,IE,Dn,Fg,Ht,Nu,HG,UZ,GG,La,Dm,Cj,A0,f2,Cm,GT];have:=MC (h++[⟨.lst,Bq cs⟩]) [⟨.lst,ws.map CJ⟩] rfl (GR _ _ lR);rw[Dd]at this;simpa using this
 have ma:J (B6 Fp (J (B3 (Av "Net" "counts") π) A2)) (J (CO "Net" "wires" 0 PV π A2) A2) [χ] h=.ok ([.ref ⇑h,.ref (⇑h+1)],h++[⟨.lst,Bq cs⟩,⟨.lst,ws.map CJ⟩]):=by have Fd:CO "Net" "wires" 0 PV π A2 [χ] (h++[⟨.lst,Bq cs⟩])=.ok (.ref (⇑h+1),h++[⟨.lst,Bq cs⟩,⟨.lst,ws.map CJ⟩]):=M6 (us:=[]) rfl (Bl h AA _) rfl rfl rfl G6;erw[BD,G5,Gv,Bx,v_var,Dm,Cj,A0,f1,D0,Fd]
 obtain⟨H,Bt⟩:∃H:A5,H=h++[⟨.lst,Bq cs⟩,⟨.lst,ws.map CJ⟩]:=ο;have nm:=kz N (h:=H) (a:=⇑h) (b:=⇑h+1) (by rw[Bt];simp) (by rw[Bt];simp);rw[<-Bt]at ma;have mk:K4 "Net" 2 Of (J (B6 Fp (J (B3 (Av "Net" "counts") π) A2)) (J (CO "Net" "wires" 0 PV π A2) A2)) [χ] h=.ok (.ref ⇑H,H++[Mo cs ws (⇑H+1),H_ ws]):=Zk ma rfl nm;have e:Wb [.ref n] h=((At (K4 "Net" 2 Of (J (B6 Fp (J (B3 (Av "Net" "counts") π) A2)) (J (CO "Net" "wires" 0 PV π A2) A2)))) [χ] h).bind outF:=rfl;rw[e,FZ,mk,A0,A0,GT,Bt,Dd,F1];rfl
def u6{cs:↑Nat}{ws:ν}{h:A5}{n:Nat}(A:FL h n cs ws){k:Nat}(AN:k< ⇑cs):TA [.ref n,.int (k:Int)] h=.ok (.int (cs.getD k 0:Nat),h):=by
 obtain⟨f,AA,AE⟩:=A.ex;have f1:Av "Net" "counts" ST h=.ok (.tup (Bq cs),h):=Dy AA rfl;have f2:Av "Net" "many" ST h=.ok (.int ⇑cs,h):=Dy AA rfl;have E0:AB (.tup (Bq cs)) (.int (k:Int)) h=.ok (.int (cs.getD k 0:Nat),h):=R0 h (Vi AN);have Bm:Oc Ln NL η ω (B3 (Av "Net" "many") π) [χ,↥(.int (k:Int))] h=.ok Ty:=by erw[ah,Be,Gv,v_var,Dm,EX,Cj,A0,lS,decide_eq_true (show(0:Int)<=(k:Int)by lia),MX,if_true,Hq,f2,abu,decide_eq_true (show(k:Int)<(⇑cs:Int)by lia)]
 simp[TA,bc,Bm,f1,E0,-EC]
def iE{cs:↑Nat}{ws:ν}(EJ:⇑cs<=6){B:↑↑Ce}(ok:F2 cs B){h:A5}{n b:Nat}(A:FL h n cs ws)(Us:D3 h b B):Wk [.ref b,.ref n] h=.ok (.non,h):=by
 obtain⟨f,AA,AE⟩:=A.ex;obtain⟨rs,BC,L_,Ao⟩:=Us.ex;have T5:=ok.1
 have a:=ak (mi:=Q1 Δ) (it:=Pm (.ref b)) (g:=EI [(A6 0),(A6 1)]) (e:=Ae 2 We (J ω (J (CO "Net" "count" 1 TA ψ Δ) A2))) (ρ:=[↥(.ref b),χ]) (h:=h) (nl:=2) (caps:=[1])
  (rs.mapIdx λi r=>.tup [.int (i:Int),.ref r]) (λρ=>∃s t,ρ=[s,t,χ]) (by rw[gq];lia) (by simp[Q1,NK h BC]) ⟨none,none,rfl⟩ (λj acc Ac=>by
    rw[gq]at Ac;erw[Pm,NK _ (Bl h BC _),CE];by_cases q:j=⇑rs
    .rw[if_pos q,JE (by rw[gq];lia)]
    .have:j< ⇑rs:=δ
     rw[if_neg q,Da,List.getElem?_mapIdx,C7 this];rfl) (by
  rintro w hw ρ acc ⟨s,t,rfl⟩;obtain⟨i,hi,rfl⟩:=List.mem_mapIdx.mp hw;refine⟨[↥(.int (i:Int)),↥(.ref rs[i]),χ],γ,⟨_,_,rfl⟩,?_⟩;have c:=u6 (A.more [⟨.lst,acc⟩]) (k:=i) δ;have y:=th (ok.2 i δ) (Bl h (Ao i rs[i] (C7 hi)) [⟨.lst,acc⟩]);have Fd:CO "Net" "count" 1 TA ψ Δ [↥(.int (i:Int)),↥(.ref rs[i]),χ] (h++[⟨.lst,acc⟩])=.ok (.int (cs.getD i 0:Nat),h++[⟨.lst,acc⟩]):=M6 (us:=[.int (i:Int)]) rfl (Bl h AA _) rfl rfl rfl c;erw[GZ,BD,Bx,v_var,Dm,EX,Cj,A0,Fd,Dn,Fg,HG,if_true,y])
 have CZ:Dz "list" (.ref b) h=.ok Ty:=by erw[Dz,MU,BC];rfl
 have D0:BO [.ref b] h=.ok (.int ⇑cs,h):=by rw[Gh BC,CE,L_,T5]
 have f2:Av "Net" "many" ST h=.ok (.int ⇑cs,h):=Dy AA rfl;have q:Zh [.ref b,.ref n] h=.ok Ty:=by simp[-Fv,Zh,bn,CZ,D0,f2,a]
 simp[Wk,d0,q]
end E4
namespace BX
@[simp] theorem Ol(b:Bool)(x y:Str)(h:A5):Ay b (.str x) (.str y) h=.ok (.AO (if b then x==y else !(x==y)),h):=by simp[Ay,CI,eqT]
theorem hq{it:H7}{g:DN}{e:BB}{h:A5}(GX:Nat->Nat->↑W)(YV:∀a n,GX a (n+1)=GX a n++[.ref (a+n)])(Yu:∀a n,⇑(GX a n)=n)(ws:↑W)(f:W->O)(BS:B5->Prop)(AH:⇑ws<1000)(hit:∀j H,h<+: H->j<=⇑ws->it j H=↥ws[j]?)(Dh:∀w∈ws,∀ρ H,BS ρ->h<+: H->∃CU,g w ρ H=.ok (.AM CU,H)/\BS CU/\e CU H=.ok (.ref ⇑H,H++[f w])) :
  ∀k j ρ,j<=⇑ws->⇑ws-j<k->BS ρ->KP it g (pu true) e ⇑h k j ρ (h++(⟨.lst,GX (⇑h+1) j⟩::(ws.take j).map f))=.ok (h++(⟨.lst,GX (⇑h+1) ⇑ws⟩::ws.map f))
 |0,j,ρ,Ac,l,i=>δ
 |k+1,j,ρ,Ac,l,i=>by
  unfold KP;rw[hit _ _ (FN _ _) Ac];by_cases DI:j< ⇑ws
  .rw[C7 DI];obtain⟨CU,AA,CZ,AE⟩:=Dh ws[j] (Hu DI) ρ _ i (FN h (⟨.lst,GX (⇑h+1) j⟩::(ws.take j).map f));erw[AA,A0,Be,if_true,AE];rw[Dd,DP,Ht,Dm];have BH:=Yu (⇑h+1) j;erw[BH,if_pos (show j<B1 by unfold B1;lia),Po,Mz];have:=hq GX YV Yu ws f BS AH hit Dh k (j+1) CU DI δ CZ;rw[YV,gK DI,JG]at this;have HQ:⇑(h++(⟨.lst,GX (⇑h+1) j⟩::(ws.take j).map f))=⇑h+1+j:=by simp;lia
   rw[HQ];exact this
  .have:j=⇑ws:=δ
   subst this;simp
def t_{mi:GK}{it:H7}{g:DN}{e:BB}{ρ:B5}{h h0:A5}{nl:Nat}{caps:↑Nat}(GX:Nat->Nat->↑W)(xz:∀a,GX a 0=[])(YV:∀a n,GX a (n+1)=GX a n++[.ref (a+n)])(Yu:∀a n,⇑(GX a n)=n)(ws:↑W)(f:W->O)(BS:B5->Prop)(AH:⇑ws<1000)(hi:mi ρ h0=.ok (it,h))(ET:BS (Pe nl caps ρ))(hit:∀j H,h<+: H->j<=⇑ws->it j H=↥ws[j]?)(Dh:∀w∈ws,∀ρ H,BS ρ->h<+: H->∃CU,g w ρ H=.ok (.AM CU,H)/\BS CU/\e CU H=.ok (.ref ⇑H,H++[f w])) :
  D8 nl caps mi g (pu true) e ρ h0=.ok (.ref ⇑h,h++(⟨.lst,GX (⇑h+1) ⇑ws⟩::ws.map f)):=by
 unfold D8;erw[Hq,hi,A0];have:=hq GX YV Yu ws f BS AH hit Dh Js 0 _ (IB _) (by unfold Js;lia) ET;rw[xz]at this;erw[List.take_zero,IE]at this;rw[this]
end BX
namespace E4
variable{kw:Bool}
def IP(a:Nat)(B:↑↑Ce):A5:=⟨.lst,Iq (a+1) ⇑B⟩::B.map Fo
def Nc(a:Nat)(B:↑↑Ce):⇑(IP a B)=⇑B+1:=by simp[IP]
def ta{cs:↑Nat}{B:↑↑Ce}(EJ:⇑cs<=6)(ok:F2 cs B){h:A5}{b i:Nat}(Us:D3 h b B){ρ:B5}(hi:ρ[i]?=↥↥(.ref b)):D8 1 [] (Ca (I i)) (A6 0) (pu true) (Bv (B6 Fp Δ)) ρ h=.ok (.ref ⇑h,h++IP ⇑h B):=by
 obtain⟨rs,BC,L_,Ao⟩:=Us.ex;have T5:=ok.1;have c:=t_ (mi:=Ca (I i)) (it:=FG (.ref b)) (g:=A6 0) (e:=Bv (B6 Fp Δ)) (ρ:=ρ) (h:=h) (h0:=h) (nl:=1) (caps:=[]) Iq (λa=>rfl) o5 o4 (rs.map W.ref) (λw=>match w with
  |.ref r=>(h[r]?).getD ⟨.lst,[]⟩
  |_=>⟨.lst,[]⟩) (λρ=>∃s,ρ=[s]) (by rw[CE];lia) (IT BC (by rw[v_var,hi];rfl)) ⟨none,rfl⟩ (λj H p _=>K3 (GD p BC) j) (by
   rintro w hw ρ H ⟨s,rfl⟩ p;obtain⟨r,BH,rfl⟩:=List.mem_map.mp hw;obtain⟨k,AN⟩:=PM BH;have q:=Ao k r AN;have RP:k< ⇑cs:=by have:=(List.getElem?_eq_some_iff.mp AN).1;lia
   have Ee:=(ok.2 k RP).1;refine⟨[↥(.ref r)],γ,⟨_,rfl⟩,?_⟩;have lw:Fp [.ref r] H=.ok (.ref ⇑H,H++[Fo (B.getD k [])]):=WR (Gs _ (GD p q)) (by rw[CE];unfold B1;lia);erw[Fv,G5,BD,Bx,v_var,Dm,Cj,A0,lw,q,Qb];exact MC H _ rfl (GR _ _ lQ))
 rw[c];have:(rs.map W.ref).map (λw=>match w with
  |.ref r=>(h[r]?).getD ⟨.lst,[]⟩
  |_=>⟨.lst,[]⟩)=B.map Fo:=by
  apply List.ext_getElem?;intro k;erw[Da];by_cases AN:k< ⇑rs
  .rw[C7 AN,C7 δ];have q:=Ao k rs[k] (C7 AN);erw[Nv,q,Qb];rw[EC,C7 δ];rfl
  .rw[JE δ,JE δ];rfl
 rw[this,CE,L_];rfl
def iC{cs:↑Nat}{B:↑↑Ce}(EJ:⇑cs<=6)(ok:F2 cs B){h:A5}{b:Nat}(Us:D3 h b B):Rn [.ref b] h=.ok (.ref ⇑h,h++IP ⇑h B):=by have c:=ta (i:=0) EJ ok Us (ρ:=[↥(.ref b)]) rfl;have e:Rn [.ref b] h=(At (D8 1 [] (Ca π) (A6 0) (pu true) (Bv (B6 Fp Δ))) [↥(.ref b)] h).bind outF:=rfl;rw[e,FZ,c];rfl
abbrev CH:=Option (Nat×Nat)
noncomputable def Ep(k:Nat):Str:=if k=0 then AL "teach" else if k=1 then AL "turn" else AL "forget"
def Ak(kw:Bool):CH->W
 |none=>if kw=true then .I8 [.str (AL "wait")]else .tup [.str (AL "wait")]
 |some p=>.tup [.str (Ep p.1),.int (p.2:Int)]
@[simp] theorem K6(s:CH):DR ((Ak kw) s)=true:=by cases s<;>cases kw<;>rfl
structure LA(n:Nat)(ps:↑CH):Prop where
 l:⇑ps<=40
 k:∀p,↥p∈ps->p.1<3/\p.2<n
 Bg:(ps.filterMap id).Nodup
def kD(h:A5)(k:Int)(AN:k=1\/k=2):Cs false (.int k) (.tup [.int 1,.int 2]) h=.ok (.AO false,h):=by rw[Pu (d:=.int k) (t:=true) (ds:=[.int 1,.int 2]) rfl (by simp[CI]) (by simp[CI])];rcases AN with rfl|rfl<;>rfl
def aeX{n:Nat}{cs:↑Nat}{ws:ν}{h:A5}{m:Nat}(A:FL h m cs ws){s:CH}(AP:∀p,s=↥p->p.1<3/\p.2< ⇑cs):Rp [(Ak kw) s,.ref m] h=.ok Ty:=by
 obtain⟨f,AA,AE⟩:=A.ex;have f2:Av "Net" "many" (.ref m) h=.ok (.int ⇑cs,h):=Dy AA rfl;have is:∀x,Dz "str" (.str x) h=.ok Ty:=λx=>rfl;cases s with
 |none=>
  have CZ:Dz "tuple" ((Ak kw) none) h=.ok Ty:=by cases kw<;>rfl
  have D0:BO [(Ak kw) none] h=.ok (.int 1,h):=by cases kw<;>rfl
  have x0:AB ((Ak kw) none) (.int 0) h=.ok (.str (AL "wait"),h):=by cases kw<;>rfl
  simp[Rp,Yz,CZ,D0,x0,kD,is,B1]
 |some p=>
  have AT:=AP p rfl;have CZ:Dz "tuple" ((Ak kw) ↥p) h=.ok Ty:=rfl;have D0:BO [(Ak kw) ↥p] h=.ok (.int 2,h):=Pz h _;have x0:AB ((Ak kw) ↥p) (.int 0) h=.ok (.str (Ep p.1),h):=Hd h _ _;have Cn:AB ((Ak kw) ↥p) (.int 1) h=.ok (.int (p.2:Int),h):=JS h _ _ _;have w:=Tw (p.2:Int) 0 ((⇑cs:Int)-1) h;rw[decide_eq_true (show(0:Int)<=(p.2:Int)by lia),decide_eq_true (show(p.2:Int)<=(⇑cs:Int)-1 by lia)]at w;have Iv:Cs true (.str (Ep p.1)) (.tup [.str (AL "teach"),.str (AL "turn"),.str (AL "forget")]) h=.ok Ty:=by
   rw[Pu (d:=.str (Ep p.1)) (t:=true) (ds:=[.str (AL "teach"),.str (AL "turn"),.str (AL "forget")]) rfl (by simp[CI]) (by simp[CI])];have:p.1=0\/p.1=1\/p.1=2:=δ
   rcases this with e|e|e<;>rw[e]<;>rfl
  simp[Rp,Yz,CZ,D0,x0,Cn,kD,is,B1,f2,w,Iv]
def Mf:W->Bool
 |.tup [_,_]=>true
 |_=>false
def ky(h:A5)(s:CH):Ay false ((Ak kw) s) IQ h=.ok (.AO (Mf ((Ak kw) s)),h):=by
 cases s with
 |none=>cases kw<;>simp[Ay,Ak,IQ,CI,eqT,Gg,Mf]
 |some p=>simp[Ay,Ak,IQ,CI,eqT,Gg,Mf]
def rP{a b:Nat}(AG:a<3)(A4:b<3)(h:Ep a=Ep b):a=b:=by
 have a1:a=0\/a=1\/a=2:=δ
 have b1:b=0\/b=1\/b=2:=δ
 rcases a1 with rfl|rfl|rfl<;>rcases b1 with rfl|rfl|rfl<;>first|rfl|exact absurd h ε
def stK(p:Nat×Nat):↑Key:=[.inr (Ep p.1),.inl (p.2:Int)]
theorem qv:∀l:↑(Nat×Nat),(l.map λp=>(Ak kw) ↥p).mapM NS=↥(l.map stK)
 |[]=>rfl
 |p::l=>by rw[Do,Ud,qv l];rfl
theorem eZ:∀ps:↑CH,(ps.map (Ak kw)).filter Mf=(ps.filterMap id).map λp=>(Ak kw) ↥p
 |[]=>rfl
 |none::ps=>by rw[Do,PG,if_neg (by cases kw<;>simp[Ak,Mf]),eZ ps];rfl
 |some p::ps=>by rw[Do,PG,if_pos (by simp[Ak,Mf]),eZ ps];rfl
def aeM{cs:↑Nat}{ws:ν}{h:A5}{m q:Nat}(A:FL h m cs ws){ps:↑CH}(P:LA ⇑cs ps)(eq:h[q]?=↥⟨.lst,ps.map (Ak kw)⟩):Zi [.ref q,.ref m] h=.ok Ty:=by
 have V7:=P.l;have CZ:Dz "list" (.ref q) h=.ok Ty:=by erw[Dz,MU,eq];rfl
 have D0:BO [.ref q] h=.ok (.int ⇑ps,h):=by rw[Gh eq,CE]
 have a:=bW (mi:=Ca π) (it:=FG (.ref q)) (g:=A6 0) (e:=Ae 2 Rp (J π Ω)) (ρ:=[↥(.ref q),↥(.ref m),none]) (h:=h) (nl:=1) (caps:=[1]) (ps.map (Ak kw)) (λ_=>true) (λρ=>∃s,ρ=[s,↥(.ref m)]) (by rw[CE];lia) (IT eq γ) ⟨none,rfl⟩ (λj acc _=>Zf eq _ j) (by rintro w hw ρ acc ⟨s,rfl⟩;obtain⟨c,AJ,rfl⟩:=List.mem_map.mp hw;exact⟨[↥((Ak kw) c),↥(.ref m)],γ,⟨_,rfl⟩,by simp[aeX (n:=0) (A.more [⟨.lst,acc⟩]) (λp e=>P.k p (e▸AJ))]⟩)
 rw[List.all_eq_true.mpr (λ_ _=>rfl)]at a;have c:=Ox (mi:=Ca π) (it:=FG (.ref q)) (g:=A6 0) (t:=AV (A1 (Ay false) π (pu IQ))) (e:=I 0) (ρ:=[↥(.ref q),↥(.ref m),none]) (h:=h) (h0:=h) (nl:=1) (caps:=[]) (ps.map (Ak kw)) Mf id (λρ=>∃s,ρ=[s]) (by rw[CE];lia) (IT eq γ) ⟨none,rfl⟩ (λj acc _=>Zf eq _ j) (by rintro w hw ρ acc ⟨s,rfl⟩;obtain⟨c,AJ,rfl⟩:=List.mem_map.mp hw;exact⟨[↥((Ak kw) c)],γ,⟨_,rfl⟩,by simp[ky],λ_=>γ⟩)
 rw[List.map_id,eZ]at c;have Bg:((ps.filterMap id).map stK).Nodup:=by rw[gM,XU];refine List.Pairwise.imp_of_mem ?_ P.Bg;intro x y AF AX ne z;obtain⟨u,BQ,HC⟩:=List.mem_filterMap.mp AF;obtain⟨v,CG,ev⟩:=List.mem_filterMap.mp AX;erw[id]at HC ev;subst HC ev;have abK:=P.k _ BQ;have V6:=P.k _ CG;erw[stK,hD,Sum.inr.injEq,U_,and_true]at z;exact ne (Prod.ext (rP abK.1 V6.1 z.1) δ)
 have lf:⇑(ps.filterMap id)<=⇑ps:=List.length_filterMap_le ..;have Ci:E2 (h++[⟨.lst,(ps.filterMap id).map λp=>(Ak kw) ↥p⟩]) (.ref ⇑h)=↥(false,(ps.filterMap id).map λp=>(Ak kw) ↥p):=Gs _ γ;have ls:WT [.ref ⇑h] (h++[⟨.lst,(ps.filterMap id).map λp=>(Ak kw) ↥p⟩])=.ok (.int ⇑(ps.filterMap id),h++[⟨.lst,(ps.filterMap id).map λp=>(Ak kw) ↥p⟩]):=by unfold WT;erw[Ci,CE];rw[if_pos δ];erw[qv,if_pos Bg,CE]
 have Ee:BO [.ref ⇑h] (h++[⟨.lst,(ps.filterMap id).map λp=>(Ak kw) ↥p⟩])=.ok (.int ⇑(ps.filterMap id),h++[⟨.lst,(ps.filterMap id).map λp=>(Ak kw) ↥p⟩]):=by rw[Gh (DP h _)];simp
 have t1:FU (Du (AV (B3 (Dz "list") π))) (AV (A1 KW (B6 BO Δ) (pu SV))) [↥(.ref q),↥(.ref m),none] h=.ok (false,h):=by simp[CZ,D0,SV];lia
 have C_:HS (Du (AV (B6 (Io true) (J (D8 1 [1] (Ca π) (A6 0) (pu true) (Ae 2 Rp (J π Ω))) A2)))) [↥(.ref q),↥(.ref m),none] h=.ok (false,h):=by rw[gH,v_not,Eg,a];simp
 have s3:AR (D8 1 [] (Ca π) (A6 0) (AV (A1 (Ay false) π (pu IQ))) π) (A6 2) [↥(.ref q),↥(.ref m),none] h=.ok (.AM [↥(.ref q),↥(.ref m),υ],h++[⟨.lst,(ps.filterMap id).map λp=>(Ak kw) ↥p⟩]):=by rw[Cy,c];rfl
 have e:Zi [.ref q,.ref m] h=((Yy [↥(.ref q),↥(.ref m),none] h).bind outF).bind λp=>settle h p.1 p.2:=rfl;rw[e];unfold Yy;rw[Am,Cz,t1,A0,if_neg γ,FD,A0,Ax,Am,Cz,C_,A0,if_neg γ,FD,A0,Ax,Am,s3,A0,Ax];erw[FZ,BG,G5,BD,Bx,v_var,Dm,EX,Cj,A0,ls,Ee,e3,GT];simp
def mK{cs:↑Nat}{ws:ν}(EJ:⇑cs<=6){B C:↑↑Ce}(Fs:F2 cs B)(abR:F2 cs C){h:A5}{m q b c:Nat}(A:FL h m cs ws)(GA:D3 h b B)(JQ:D3 h c C){ps:↑CH}(P:LA ⇑cs ps)(eq:h[q]?=↥⟨.lst,ps.map (Ak kw)⟩):Ry [.ref m,.ref b,.ref c,.ref q] h=.ok (.non,h):=by simp[Ry,d2,iE EJ Fs A GA,iE EJ abR A JQ,aeM A P eq]
end E4
namespace E4
noncomputable def o8:↑Str:=["net","books","plan","done","came","letters","ended"]
def Op(nt b0 b1 pl M CV:Nat):O:=⟨.ins "Run" o8,[.ref nt,.tup [.ref b0,.ref b1],.ref pl,.ref M,.int (CV:Int),.ref (M+1),.ref (M+2)]⟩
def Nr{c f:Str}{ns ns':↑Str}{us qz:↑W}{v:BB}{ρ:B5}{h X Y:A5}{w:W}(h0:ρ[0]?=↥↥(.ref ⇑h))(ev:v ρ (h++(⟨.ins c ns,us⟩::X))=.ok (w,h++(⟨.ins c ns,us⟩::(X++Y))))(l:⇑ns<1000)(AA:TQ ns f=ns')(AE:RG ns us f w=qz):Ex c f π v ρ (h++(⟨.ins c ns,us⟩::X))=.ok (.AM ρ,h++(⟨.ins c ns',qz⟩::(X++Y))):=by rw[Tt,ev,A0,v_var,h0,Cj,A0];rw[TS (DP h _) l AA AE,Po];rfl
def Iu(L:Nat)(cs:↑Nat)(ws:ν)(A B:↑↑Ce)(ps:↑CH):A5:=[⟨.lst,Bq cs⟩,⟨.lst,ws.map CJ⟩,Mo cs ws (L+4),H_ ws]++IP (L+5) A++IP (L+6+⇑A) B++[⟨.lst,ps.map Ψ⟩]
def WJ(L:Nat)(cs:↑Nat)(ws:ν)(A B:↑↑Ce)(ps:↑CH):⇑(Iu L cs ws A B ps)=⇑A+⇑B+7:=by simp[Iu,Nc];lia
def aed{cs:↑Nat}{ws:ν}(N:Gk cs ws){A B:↑↑Ce}(GC:F2 cs A)(Fs:F2 cs B){ps:↑CH}(P:LA ⇑cs ps){h:A5}{m a b q:Nat}(HI:FL h m cs ws)(Gq:D3 h a A)(GA:D3 h b B)(Aa:h[q]?=↥⟨.lst,ps.map Ψ⟩) :
  TG [.ref ⇑h,.ref m,.ref a,.ref b,.ref q] (h++[⟨.ins "Run" [],[]⟩])=.ok (.non,h++(Op (⇑h+3) (⇑h+5) (⇑h+6+⇑A) (⇑h+7+⇑A+⇑B) (⇑h+8+⇑A+⇑B) 0::(Iu ⇑h cs ws A B ps++[⟨.lst,[]⟩,⟨.B8 [],[]⟩,⟨.lst,[]⟩]))):=by
 have e:TG [.ref ⇑h,.ref m,.ref a,.ref b,.ref q] (h++[⟨.ins "Run" [],[]⟩])=(Xo [υ,↥(.ref m),↥(.ref a),↥(.ref b),↥(.ref q)] (h++[⟨.ins "Run" [],[]⟩])).bind outF:=rfl;rw[e];obtain⟨ρ,BY⟩:∃ρ:B5,ρ=[υ,↥(.ref m),↥(.ref a),↥(.ref b),↥(.ref q)]:=ο;rw[<-BY];have RI:ρ[0]?=↥↥(.ref ⇑h):=by rw[BY];rfl
 have v1:∀h',I 1 ρ h'=.ok (.ref m,h'):=by rw[BY];exact λ_=>rfl
 have v2:∀h',I 2 ρ h'=.ok (.ref a,h'):=by rw[BY];exact λ_=>rfl
 have I1:∀h',I 3 ρ h'=.ok (.ref b,h'):=by rw[BY];exact λ_=>rfl
 have v4:∀h',I 4 ρ h'=.ok (.ref q,h'):=by rw[BY];exact λ_=>rfl
 have V7:=P.l;have Z_:=GC.1;have T5:=Fs.1;have s0:EV (Ae 4 Ry (J ω (J ψ (J Θ (J Tm A2))))) ρ (h++[⟨.ins "Run" [],[]⟩])=.ok (.AM ρ,h++[⟨.ins "Run" [],[]⟩]):=by erw[JD,GZ,BD,Bx,v1,v2,I1,v4,A0,Dn,Fg,HG,if_true,mK N.EJ GC Fs (HI.more _) (Gq.more _) (GA.more _) P (Bl h Aa _)]
 have s1:Ex "Run" "net" π (Ae 1 Wb Ω) ρ (h++[⟨.ins "Run" [],[]⟩])=.ok (.AM ρ,h++(⟨.ins "Run" ["net"],[.ref (⇑h+3)]⟩::([]++[⟨.lst,Bq cs⟩,⟨.lst,ws.map CJ⟩,Mo cs ws (⇑h+4),H_ ws]))):=by refine Nr RI ?_ ε rfl rfl;erw[GZ,BD,Bx,v1,A0,Dn,Fg,HG,if_true,acL N (HI.more _)];rw[Dd,F1];rfl
 obtain⟨QF,Cn⟩:∃X:A5,X=[]++[⟨.lst,Bq cs⟩,⟨.lst,ws.map CJ⟩,Mo cs ws (⇑h+4),H_ ws]:=ο;have D0:⇑QF=4:=by rw[Cn];rfl
 rw[<-Cn]at s1;have s2:Ex "Run" "books" π (As (J (Ae 1 Rn Fr) (J (Ae 1 Rn (J Θ A2)) A2))) ρ (h++(⟨.ins "Run" ["net"],[.ref (⇑h+3)]⟩::QF))=.ok (.AM ρ,h++(⟨.ins "Run" ["net","books"],[.ref (⇑h+3),.tup [.ref (⇑h+5),.ref (⇑h+6+⇑A)]]⟩::(QF++(IP (⇑h+5) A++IP (⇑h+6+⇑A) B)))):=by
  refine Nr RI ?_ ε rfl rfl;have Bm:=iC N.EJ GC (Gq.more (⟨.ins "Run" ["net"],[.ref (⇑h+3)]⟩::QF));have Dw:⇑(h++(⟨.ins "Run" ["net"],[.ref (⇑h+3)]⟩::QF))=⇑h+5:=by simp[D0]
  rw[Dw,Dd]at Bm;have Cc:=iC N.EJ Fs (GA.more ((⟨.ins "Run" ["net"],[.ref (⇑h+3)]⟩::QF)++IP (⇑h+5) A));have BU:⇑(h++((⟨.ins "Run" ["net"],[.ref (⇑h+3)]⟩::QF)++IP (⇑h+5) A))=⇑h+6+⇑A:=by simp[D0,Nc];lia
  rw[BU]at Cc;erw[Je,GZ,BD,Bx,v2,I1,A0,Dn,Fg,HG,if_true,Bm,Cc];rw[if_pos ε];simp
 obtain⟨Sj,CT⟩:∃X:A5,X=QF++(IP (⇑h+5) A++IP (⇑h+6+⇑A) B):=ο;have Cm:⇑Sj=6+⇑A+⇑B:=by rw[CT];simp[D0,Nc];lia
 rw[<-CT]at s2;have s3:Ex "Run" "plan" π (B6 Fp (J Tm A2)) ρ (h++(⟨.ins "Run" ["net","books"],[.ref (⇑h+3),.tup [.ref (⇑h+5),.ref (⇑h+6+⇑A)]]⟩::Sj))=.ok (.AM ρ,h++(⟨.ins "Run" ["net","books","plan"],[.ref (⇑h+3),.tup [.ref (⇑h+5),.ref (⇑h+6+⇑A)],.ref (⇑h+7+⇑A+⇑B)]⟩::(Sj++[⟨.lst,ps.map Ψ⟩]))):=by
  refine Nr RI ?_ ε rfl rfl;have Bm:Fp [.ref q] (h++(⟨.ins "Run" ["net","books"],[.ref (⇑h+3),.tup [.ref (⇑h+5),.ref (⇑h+6+⇑A)]]⟩::Sj))=_:=WR (Gs _ (Bl h Aa _)) (by rw[CE];unfold B1;lia);erw[G5,BD,Bx,v4,A0,Bm];have:⇑(h++(⟨.ins "Run" ["net","books"],[.ref (⇑h+3),.tup [.ref (⇑h+5),.ref (⇑h+6+⇑A)]]⟩::Sj))=⇑h+7+⇑A+⇑B:=by simp[Cm];lia
  rw[this,Dd];rfl
 obtain⟨Os,EN⟩:∃X:A5,X=Sj++[⟨.lst,ps.map Ψ⟩]:=ο;have OZ:⇑Os=7+⇑A+⇑B:=by rw[EN];simp[Cm];lia
 rw[<-EN]at s3;obtain⟨us,HC⟩:∃us:↑W,us=[.ref (⇑h+3),.tup [.ref (⇑h+5),.ref (⇑h+6+⇑A)],.ref (⇑h+7+⇑A+⇑B)]:=ο;have s4:Ex "Run" "done" π (Bd A2) ρ (h++(⟨.ins "Run" ["net","books","plan"],[.ref (⇑h+3),.tup [.ref (⇑h+5),.ref (⇑h+6+⇑A)],.ref (⇑h+7+⇑A+⇑B)]⟩::Os))=.ok (.AM ρ,h++(⟨.ins "Run" ["net","books","plan","done"],[.ref (⇑h+3),.tup [.ref (⇑h+5),.ref (⇑h+6+⇑A)],.ref (⇑h+7+⇑A+⇑B),.ref (⇑h+8+⇑A+⇑B)]⟩::(Os++[⟨.lst,[]⟩]))):=by refine Nr RI ?_ ε rfl rfl;rw[LL,Bx,A0,Hj _ γ];simp[OZ];lia
 have s5:Ex "Run" "came" π η ρ (h++(⟨.ins "Run" ["net","books","plan","done"],[.ref (⇑h+3),.tup [.ref (⇑h+5),.ref (⇑h+6+⇑A)],.ref (⇑h+7+⇑A+⇑B),.ref (⇑h+8+⇑A+⇑B)]⟩::(Os++[⟨.lst,[]⟩])))=.ok (.AM ρ,h++(⟨.ins "Run" ["net","books","plan","done","came"],[.ref (⇑h+3),.tup [.ref (⇑h+5),.ref (⇑h+6+⇑A)],.ref (⇑h+7+⇑A+⇑B),.ref (⇑h+8+⇑A+⇑B),.int 0]⟩::(Os++[⟨.lst,[]⟩]++[]))):=by refine Nr RI ?_ ε rfl rfl;rw[La];rfl
 rw[La]at s5;have s6:Ex "Run" "letters" π (Kd false) ρ (h++(⟨.ins "Run" ["net","books","plan","done","came"],[.ref (⇑h+3),.tup [.ref (⇑h+5),.ref (⇑h+6+⇑A)],.ref (⇑h+7+⇑A+⇑B),.ref (⇑h+8+⇑A+⇑B),.int 0]⟩::(Os++[⟨.lst,[]⟩])))=.ok (.AM ρ,h++(⟨.ins "Run" ["net","books","plan","done","came","letters"],[.ref (⇑h+3),.tup [.ref (⇑h+5),.ref (⇑h+6+⇑A)],.ref (⇑h+7+⇑A+⇑B),.ref (⇑h+8+⇑A+⇑B),.int 0,.ref (⇑h+8+⇑A+⇑B+1)]⟩::(Os++[⟨.lst,[]⟩]++[⟨.B8 [],[]⟩]))):=by refine Nr RI ?_ ε rfl rfl;have:∀h':A5,Kd false ρ h'=.ok (.ref ⇑h',h'++[⟨.B8 [],[]⟩]):=λh'=>rfl;rw[this];simp[OZ];lia
 have s7:Ex "Run" "ended" π (Bd A2) ρ (h++(⟨.ins "Run" ["net","books","plan","done","came","letters"],[.ref (⇑h+3),.tup [.ref (⇑h+5),.ref (⇑h+6+⇑A)],.ref (⇑h+7+⇑A+⇑B),.ref (⇑h+8+⇑A+⇑B),.int 0,.ref (⇑h+8+⇑A+⇑B+1)]⟩::(Os++[⟨.lst,[]⟩]++[⟨.B8 [],[]⟩])))=.ok (.AM ρ,h++(Op (⇑h+3) (⇑h+5) (⇑h+6+⇑A) (⇑h+7+⇑A+⇑B) (⇑h+8+⇑A+⇑B) 0::(Os++[⟨.lst,[]⟩]++[⟨.B8 [],[]⟩]++[⟨.lst,[]⟩]))):=by refine Nr RI ?_ ε rfl rfl (w:=.ref (⇑h+8+⇑A+⇑B+2));rw[LL,Bx,A0,Hj _ γ];simp[OZ];lia
 unfold Xo;rw[Am,s0,A0,Ax,Am,s1,A0,Ax,Am,s2,A0,Ax,Am,s3,A0,Ax,Am,s4,A0,Ax,Am,s5,A0,Ax,Am,s6,A0,Ax,s7,A0,mv];rw[EN,CT,Cn,Iu];simp
end E4
namespace BX
noncomputable def Ii(o:Option W)(ρ:B5):FK:=match o with
 |some v=>.Dq v
 |none=>.AM ρ
theorem ck{α β:Type}(p:α->Bool)(f:α->β):∀l:↑α,l.findSome? (λa=>if p a=true then↥(f a)else none)=(l.find? p).map f
 |[]=>rfl
 |a::l=>by
  rw[List.findSome?_cons,Qn];cases h:p a
  .simpa using ck p f l
  .rfl
def Yb{mi:GK}{it:H7}{g:DN}{b:Af}{ρ:B5}{h h0:A5}(n:Nat)(AZ:n<1000)(wf:Nat->W)(BS:B5->Prop)(q:Nat->Option W)(hi:mi ρ h0=.ok (it,h))(hit:∀j,j<=n->it j h=↥(if j<n then↥(wf j)else none))(aaD:BS ρ)(Dh:∀j,j<n->∀ρ,BS ρ->∃CU Dl,g (wf j) ρ h=.ok (.AM CU,h)/\BS Dl/\b CU h=.ok (Ii (q j) Dl,h)) :
  ∃EO,BS EO/\DZ mi g b ρ h0=.ok (Ii ((C8 n).findSome? q) EO,h):=by
 have:=cU (mi:=mi) (it:=it) (g:=g) (b:=b) (ρ:=ρ) (h:=h0) (h0:=h) n AZ (λj ρ h'=>j<=n/\BS ρ/\h'=h/\(C8 j).findSome? q=none)
  (T:=λf h'=>h'=h/\∃EO,BS EO/\f=Ii ((C8 n).findSome? q) EO) hi ⟨IB _,aaD,rfl,rfl⟩ (by
  rintro j ρ _ ⟨Ac,i,rfl,e⟩;rw[hit j Ac];by_cases DI:j<n
  .obtain⟨CU,Dl,AA,Fk,AE⟩:=Dh j DI ρ i;refine .inr ⟨wf j,by rw[if_pos DI],DI,CU,_,AA,?_⟩;rw[AE];cases eq:q j with
   |none=>erw[Ii,Vr,YK];refine⟨DI,Fk,trivial,?_⟩;rw[Ub,gT,e];simp[eq]
   |some v=>
    erw[Ii,Vr,t4];refine⟨trivial,Dl,Fk,?_⟩;have:(C8 n).findSome? q=↥v:=by
     have h2:C8 n=C8 j++(j::(List.range' (j+1) (n-(j+1)))):=by have:=List.range'_append_1 (s:=0) (m:=j) (n:=n-j);rw[Nat.zero_add,<-si,show j+(n-j)=n by lia,<-si]at this;rw[<-this,show n-j=(n-(j+1))+1 by lia,List.range'_succ]
     rw[h2,gT,e];simp[eq]
    rw[this]
  .have:j=n:=δ
   subst this;refine .inl ⟨by rw[if_neg DI],rfl,ρ,i,?_⟩;rw[e];rfl)
 obtain⟨f,h',CC,rfl,EO,V2,rfl⟩:=this.FW;exact⟨EO,V2,CC⟩
def afP(n j:Nat)(h:A5):KA 0 n j h=↥(if j<n then↥(.int (j:Int))else none):=by simp[KA]
def l9{h:A5}{n:Nat}{α:Type}{f:α->W}{l:↑α}{d:α}(e:h[n]?=↥⟨.lst,l.map f⟩)(j:Nat):FG ST j h=↥(if j< ⇑l then↥(f (l.getD j d))else none):=by
 rw[K3 e,Da];by_cases Ac:j< ⇑l
 .rw[if_pos Ac,C7 Ac,EC,C7 Ac];rfl
 .rw[if_neg Ac,JE δ];rfl
def uw{h:A5}{n:Nat}{α:Type}{f:α->W}{l:↑α}{d:α}(e:h[n]?=↥⟨.lst,l.map f⟩)(j:Nat)(Ac:j<=⇑l):Pm ST j h=↥(if j< ⇑l then↥(.tup [.int (j:Int),f (l.getD j d)])else none):=by
 erw[Pm,NK h e,CE];by_cases DI:j< ⇑l
 .rw[if_neg δ,if_pos DI,Da,C7 DI,EC,C7 DI];rfl
 .rw[if_pos δ,if_neg DI]
@[simp] theorem aj_(f g k:DN)(x y z:W)(ρ:B5)(h:A5):EI [f,g,k] (.tup [x,y,z]) ρ h=(f x ρ h).bind (NZ λρ h=>(g y ρ h).bind (NZ λρ h=>(k z ρ h).bind (NZ B_))):=by
  erw[EI,WL,Dn,Fg,Ts,Am];rw[if_pos trivial]
  congr
end BX
namespace E4
def GV(k:Nat):Nat:=[8,4,2,1].getD k 1
noncomputable def V9(x:Str)(a k:Nat):Bool:=x.cps.toList.getD k 0==120||x.cps.toList.getD k 0==48+a/GV k%2
def LR(x:Str)(a:Nat):Bool:=(C8 4).all (V9 x a)
def rU(k:Nat):0<GV k:=by
 unfold GV;by_cases h:k<4
 .rcases(by lia:k=0\/k=1\/k=2\/k=3)with rfl|rfl|rfl|rfl<;>decide
 .rw[EC,JE (by simp;lia)];decide
def aep{c:Nat}(s:LN c)(b:Nat)(A4:b<2)(h:A5):Cs true (.str ⟨#[c]⟩) (.tup [.str (AL "x"),.str (toString ((b:Nat):Int))]) h=.ok (.AO (c==120||c==48+b),h):=by
 rw[Pu (d:=.str ⟨#[c]⟩) (t:=true) (ds:=[.str (AL "x"),.str (toString ((b:Nat):Int))]) rfl (by simp[CI]) (by simp[CI])];have:b=0\/b=1:=δ
 rcases this with rfl|rfl<;>rcases s with rfl|rfl|rfl<;>rfl
def aeB(h:A5){k:Nat}(AN:k<4):AB (.ref ⇑h) (.int (k:Int)) (h++[⟨.lst,[.int 8,.int 4,.int 2,.int 1]⟩])=.ok (.int (GV k:Nat),h++[⟨.lst,[.int 8,.int 4,.int 2,.int 1]⟩]):=by refine G2 (DP h _) ?_;rcases(by lia:k=0\/k=1\/k=2\/k=3)with rfl|rfl|rfl|rfl<;>rfl
def fN{x:Str}(p:QC x){k:Nat}(AN:k<4):LN (x.cps.toList.getD k 0):=by have Ch:=p.l;rw[EC,C7 δ];exact p.s _ (Hu _)
def aeo{x:Str}(p:QC x){k:Nat}(AN:k<4)(h:A5):AB (.str x) (.int (k:Int)) h=.ok (.str ⟨#[x.cps.toList.getD k 0]⟩,h):=by
 have Ch:=p.l;have e:Jm x.cps.toList (k:Int)=↥(x.cps.toList.getD k 0):=by unfold Jm Lm;rw[if_pos δ,if_pos δ];erw[Qe,gh,EC];rw[C7 δ];rfl
 have BC:⇑x<=B1:=by rw[str_len,Ch];decide
 show Pw (.str x) (.int (k:Int)) h=_;unfold Pw;erw[if_pos BC,e]
def v7(c:Nat)(s:LN c)(h:A5):Ay false (.str ⟨#[c]⟩) (.str (AL "x")) h=.ok (.AO (!(c==120)),h):=by rw[Ol];rcases s with rfl|rfl|rfl<;>rfl
def ae7(h:A5){b:Nat}(A4:b<2):AB (.str (AL "01")) (.int (b:Int)) h=.ok (.str ⟨#[48+b]⟩,h):=by
 have:b=0\/b=1:=δ
 rcases this with rfl|rfl<;>rfl
def v5(c:Nat)(s:LN c){b:Nat}(A4:b<2)(h:A5):Ay false (.str ⟨#[c]⟩) (.str ⟨#[48+b]⟩) h=.ok (.AO (!(c==48+b)),h):=by
 rw[Ol];have:b=0\/b=1:=δ
 rcases this with rfl|rfl<;>rcases s with rfl|rfl|rfl<;>rfl
def dh:Af:=AK (AR (Bv (A1 BR (A1 Cg ω (A1 AB (Bd (J (pu (.int 8)) (J (pu (.int 4)) (J Γ (J ζ A2))))) ψ)) Γ)) (A6 3))
    (BZ (F9 (AV (A1 (Ay false) (A1 AB π ψ) (pu (.str (AL "x"))))) (AV (A1 (Ay false) (A1 AB π ψ) (A1 AB (pu (.str (AL "01"))) Θ)))) XL B_)
def rT(k:Nat):GV k<=8:=by
 unfold GV;by_cases h:k<4
 .rcases(by lia:k=0\/k=1\/k=2\/k=3)with rfl|rfl|rfl|rfl<;>decide
 .rw[EC,JE (by simp;lia)];decide
def range_all{n:Nat}{p:Nat->Bool}{v:W}:(C8 n).findSome? (λj=>if p j=true then none else↥v)=if(C8 n).all p=true then none else↥v:=by
 induction n with
 |zero=>rfl
 |succ n C4=>rw[Ub,gT,C4,List.all_append];cases(C8 n).all p<;>cases h:p n<;>simp[h]
def aal{x:Str}(p:QC x)(a:Nat)(h:A5):U6 [.str x,.int (a:Int)] h=.ok (.AO (LR x a),h):=by
 obtain⟨EO,_,e⟩:=Yb (mi:=Ct (J (pu (.int 4)) A2)) (g:=A6 2) (b:=dh) (ρ:=[↥(.str x),ς,none,none]) (h:=h) (h0:=h) 4 δ (λj=>.int (j:Int)) (λρ=>∃s t,ρ=[↥(.str x),ς,s,t]) (λj=>if V9 x a j=true then none else↥(.AO false)) (Ir (n:=4) γ δ) (λj _=>afP 4 j h) ⟨none,none,rfl⟩ (by
  rintro j Ac _ ⟨s,t,rfl⟩;have F6:a/GV j%2<2:=Uj _ δ;have q:=rU j;have QM:=rT j;refine⟨[↥(.str x),ς,τ,t],[↥(.str x),ς,τ,↥(.int ((a/GV j%2:Nat):Int))],γ,⟨_,_,rfl⟩,?_⟩;have Bm:(0:Int)<(GV j:Int)/\(GV j:Int)<1073741824:=δ
  have s1:AR (Bv (A1 BR (A1 Cg ω (A1 AB (Bd (J (pu (.int 8)) (J (pu (.int 4)) (J Γ (J ζ A2))))) ψ)) Γ)) (A6 3) [↥(.str x),ς,τ,t] h=.ok (.AM [↥(.str x),ς,τ,↥(.int ((a/GV j%2:Nat):Int))],h):=by have E0:=aeB h Ac;erw[Cy,Fv,BG,LL,BD,Bx,v_var,Be,Dm,EX,Cj,A0,Hj h (show⇑([.int 8,.int 4,.int 2,.int 1]:↑W)<=B1 by decide),E0,Mp,if_pos Bm,Kg,if_pos (show(0:Int)<2 by decide)];rw[Rb _ _ _ γ];simp
  have Cn:=aeo p Ac h;unfold dh;rw[Am,s1,A0,Ax,Cz];erw[v_and,Eg,BG,v_var,Be,Dm,EX,Cj,A0,Cn,v7 _ (fN p Ac),F7,ae7 h F6,v5 _ (fN p Ac) F6];have CC:V9 x a j=(x.cps.toList.getD j 0==120||x.cps.toList.getD j 0==48+a/GV j%2):=rfl;rw[CC];cases h1:x.cps.toList.getD j 0==120<;>cases h2:x.cps.toList.getD j 0==48+a/GV j%2<;>simp[Ii])
 have BV:U6 [.str x,.int (a:Int)] h=((AK (DZ (Ct (J (pu (.int 4)) A2)) (A6 2) dh) (At (pu (.AO true))) [↥(.str x),ς,none,none] h).bind outF).bind λp=>settle h p.1 p.2:=rfl;rw[BV,Am,e,range_all];unfold LR;cases(C8 4).all (V9 x a)<;>simp[Ii]
noncomputable def Wx(x:Str)(k:Nat):W:=.tup [.str ⟨#[x.cps.toList.getD k 0]⟩,.int (GV k:Nat)]
noncomputable def cm(a:Nat):W->Bool
 |.tup [.str s,.int v]=>s.cps.toList.getD 0 0==120||s.cps.toList.getD 0 0==48+a/v.toNat%2
 |_=>false
def iS{a:Nat}(AG:a<16)(h:A5):U0 [.int (a:Int)] h=.ok Ty:=by have w:=Tw (a:Int) 0 15 h;rw[decide_eq_true (show(0:Int)<=(a:Int)by lia),decide_eq_true (show(a:Int)<=15 by lia)]at w;simp[U0,bk,Ot,w]
def jC{x:Str}(p:QC x){a:Nat}(AG:a<16)(h:A5):PY [.str x,.int (a:Int)] h=.ok (.AO (LR x a),h):=by
 have Ch:=p.l;have al:=bW (mi:=WY (J π (J (pu Ou) A2))) (it:=am x [.int 8,.int 4,.int 2,.int 1]) (g:=EI [(A6 0),(A6 1)]) (e:=A1 (Cs true) π (As (J (pu (.str (AL "x"))) (J (B6 QQ (J (A1 BR (A1 Cg ψ ω) Γ) A2)) A2)))) (ρ:=[↥(.str x),ς]) (h:=h) (nl:=2) (caps:=[1]) ((C8 4).map (Wx x)) (cm a) (λρ=>∃s t,ρ=[s,t,ς]) γ (by simp[WY,Ou]) ⟨none,none,rfl⟩ (λj acc Ac=>by
   erw[CE,SF]at Ac;have AP:x.cps.size=4:=Ch;unfold am;erw[AP,Dn,Fg];by_cases DI:j<4
   .rw[if_neg δ];rw[Da,PN DI,MK δ];rcases(by lia:j=0\/j=1\/j=2\/j=3)with rfl|rfl|rfl|rfl<;>simp[Wx,GV,AP]
   .have:j=4:=δ
    subst this;rfl) (by
  rintro w hw ρ acc ⟨s,t,rfl⟩;obtain⟨k,AN,rfl⟩:=List.mem_map.mp hw;have AN:=List.mem_range.mp AN;have q:=rU k;have QM:=rT k;have F6:a/GV k%2<2:=Uj _ δ;refine⟨[↥(.str ⟨#[x.cps.toList.getD k 0]⟩),↥(.int (GV k:Nat)),ς],by simp[Wx],⟨_,_,rfl⟩,?_⟩;have Bm:(0:Int)<(GV k:Int)/\(GV k:Int)<1073741824:=δ
  have AE:(a:Int)/(GV k:Int)%2=((a/GV k%2:Nat):Int):=γ
  have st:∀g:A5,QQ [.int ((a/GV k%2:Nat):Int)] g=.ok (.str (toString ((a/GV k%2:Nat):Int)),g):=λg=>by unfold QQ;dsimp only;rw[if_pos];rcases(by lia:a/GV k%2=0\/a/GV k%2=1)with e|e<;>rw[e]<;>decide
  erw[BG,Je,BD,Bx,G5,v_var,Be,Dm,EX,Cj,A0,Mp,if_pos Bm,Kg,if_pos (show(0:Int)<2 by decide),AE,st];rw[if_pos (by simp[B1]),A0,aep (fN p AN) _ F6];simp[cm,Wx])
 have BJ:((C8 4).map (Wx x)).all (cm a)=LR x a:=by
  unfold LR;rw[Ug]
  congr 1
 rw[BJ]at al;have sw:Bv (B6 (Io true) (J (D8 2 [1] (WY (J π (J (pu Ou) A2))) (EI [(A6 0),(A6 1)]) (pu true) (A1 (Cs true) π (As (J (pu (.str (AL "x"))) (J (B6 QQ (J (A1 BR (A1 Cg ψ ω) Γ) A2)) A2))))) A2)) [↥(.str x),ς] h=.ok (.AO (LR x a),h):=by rw[Fv,al];simp
 simp[-Fv,PY,bj,n5 p,iS AG,sw]
end E4
namespace BX
def xN{n:Nat}{p:Nat->Bool}{k:Nat}(h:(C8 n).find? p=↥k):k<n/\p k=true:=⟨List.mem_range.mp (sS h),List.find?_some h⟩
end BX
namespace E4
def Ig:Ce:=⟨AL "",none,none⟩
def Mq(i a:Nat)(r:Ce):Bool:=(r.a.isNone||r.a==↥i)&&LR r.p a
def TU(BN:↑Ce)(i a:Nat):Option Nat:=(C8 ⇑BN).find? λj=>Mq i a (BN.getD j Ig)
inductive Tl where
 |at (d:AS)|drop (h:Nat)|out (d:AS)|LZ (h:Nat)
noncomputable def DJ:Tl->W
 |.at d=>.tup [.str (AL "at"),.int (d.1:Int),.int (d.2:Int)]
 |.drop h=>.tup [.str (AL "drop"),.int (h:Int)]
 |.out d=>.tup [.str (AL "out"),.int (d.1:Int),.int (d.2:Int)]
 |.LZ h=>.tup [.str (AL "lost"),.int (h:Int)]
@[simp] theorem ajw(t:Tl):DR (DJ t)=true:=by cases t<;>simp[DJ]
def Kh(ws:ν)(h:Nat):Option Nat->Tl
 |none=>.drop h
 |some o=>match Dt ws (h,o)with
  |none=>.out (h,o)
  |some e=>.at e
def J7(ws:ν)(BN:↑Ce)(d:AS)(a:Nat):Tl:=match TU BN d.2 a with
 |none=>.drop d.1
 |some k=>Kh ws d.1 (BN.getD k Ig).b
def kI(h:A5)(o:Option Nat):Dj true (DA o) .non h=.ok (.AO o.isNone,h):=by cases o<;>rfl
def jm(h:A5)(o:Option Nat)(i:Nat)(ho:o.isNone=false):Ay true (DA o) (.int (i:Int)) h=.ok (.AO (o==↥i),h):=by
 cases o with
 |none=>cases ho
 |some k=>
  rw[DA,e3]
  congr 3
  by_cases e:k=i
  .subst e;simp
  .have:¬(k:Int)=(i:Int):=δ
   simp[e,this]
def getD_mem{α:Type}{l:↑α}{k:Nat}{d:α}(h:k< ⇑l):l.getD k d∈l:=by rw[EC,C7 h];exact Hu _
def g0:Af:=BZ (F9 (FU (AV (A1 (Dj true) (A1 AB Tm ζ) Cl)) (AV (A1 Ξ (A1 AB Tm ζ) ω))) (AV (Ae 2 PY (J (A1 AB Tm η) Fr)))) (At Θ) B_
def agA{c:Nat}{BN:↑Ce}(ok:Mt c BN){h:A5}{b i a:Nat}(AG:a<16)(BC:h[b]?=↥(Fo BN)):Wl [.ref b,.int (i:Int),.int (a:Int)] h=.ok (DA (TU BN i a),h):=by
 have abL:=ok.1;obtain⟨EO,_,e⟩:=Yb (mi:=Q1 Δ) (it:=Pm (.ref b)) (g:=EI [(A6 3),(A6 4)]) (b:=g0) (ρ:=[↥(.ref b),↥(.int (i:Int)),ς,none,none]) (h:=h) (h0:=h) ⇑BN δ (λj=>.tup [.int (j:Int),Ec (BN.getD j Ig)]) (λρ=>∃s t,ρ=[↥(.ref b),↥(.int (i:Int)),ς,s,t]) (λj=>if Mq i a (BN.getD j Ig)=true then↥(.int (j:Int))else none) (by simp[Q1,NK h BC]) (λj Ac=>uw BC j Ac) ⟨none,none,rfl⟩ (by
  rintro j Ac _ ⟨s,t,rfl⟩;obtain⟨r,Ao⟩:∃r,r=BN.getD j Ig:=ο;have ez:=ok.2 r (Ao▸getD_mem Ac);rw[<-Ao];refine⟨[↥(.ref b),↥(.int (i:Int)),ς,τ,↥(Ec r)],[↥(.ref b),↥(.int (i:Int)),ς,τ,↥(Ec r)],γ,⟨_,_,rfl⟩,?_⟩;have x0:AB (Ec r) (.int 0) h=.ok (.str r.p,h):=Hd h _ _;have Cn:AB (Ec r) (.int 1) h=.ok (DA r.a,h):=JS h _ _ _;have P4:=jC ez.p AG h;unfold g0;rw[Cz];erw[v_and,v_or,Eg,BG,GZ,BD,Bx,v_var,Be,Dm,EX,Cj,A0,x0,Cn,kI,F7,P4,Dn,Fg,HG,if_true];unfold Mq;cases h1:r.a.isNone
  .erw[Kw,if_false,jm h _ i h1,A0,F7,h4];cases h2:r.a==↥i<;>cases AY:LR r.p a<;>simp[Ii,x0,P4,AY]
  .cases AY:LR r.p a<;>simp[Ii,x0,P4,AY])
 rw[ck (λj=>Mq i a (BN.getD j Ig)) (λj:Nat=>W.int (j:Int))]at e;have BV:Wl [.ref b,.int (i:Int),.int (a:Int)] h=((AK (DZ (Q1 Δ) (EI [(A6 3),(A6 4)]) g0) (At Cl) [↥(.ref b),↥(.int (i:Int)),ς,none,none] h).bind outF).bind λp=>settle h p.1 p.2:=rfl;rw[BV,Am,e];unfold TU;cases(C8 ⇑BN).find? λj=>Mq i a (BN.getD j Ig)<;>simp[Ii,DA]
def acF{cs:↑Nat}{ws:ν}{h:A5}{n:Nat}(A:FL h n cs ws)(d:AS):Rl [.ref n,AI d] h=.ok (IV (Dt ws d),h):=by
 obtain⟨f,AA,AE⟩:=A.ex;have f1:Av "Net" "far" ST h=.ok (.ref f,h):=Dy AA rfl;have vO:Qz h (.ref f)=true:=by unfold Qz;erw[AE,H_]
 have q:WU (B3 (Av "Net" "far") π) ω [χ,KK] h=.ok (IV (Dt ws d),h):=by unfold WU;erw[Hq,Gv,v_var,Dm,Cj,A0,f1,Qy,vO,if_true,EX,YW AE];cases Dt ws d<;>rfl
 simp[Rl,bb,q]
def me{cs:↑Nat}{ws:ν}{h:A5}{n b a c:Nat}{BN:↑Ce}(A:FL h n cs ws)(ok:Mt c BN)(BC:h[b]?=↥(Fo BN))(AG:a<16)(d:AS):NO [.ref n,.ref b,AI d,.int (a:Int)] h=.ok (DJ (J7 ws BN d a),h):=by
 obtain⟨f,AA,AE⟩:=A.ex;have x0:AB (AI d) (.int 0) h=.ok (.int (d.1:Int),h):=Hd h _ _;have Cn:AB (AI d) (.int 1) h=.ok (.int (d.2:Int),h):=JS h _ _ _;have DW:=agA ok (i:=d.2) AG BC;have s1:AR (Ae 3 Wl (J ω (J (A1 AB ψ ζ) (J Θ A2)))) (A6 4) [χ,↥(.ref b),KK,ς,none,none,none] h=.ok (.AM [χ,↥(.ref b),KK,ς,↥(DA (TU BN d.2 a)),none,none],h):=by erw[Cy,GZ,BD,Bx,BG,v_var,Be,Dm,EX,Cj,A0,Cn,Dn,Fg,HG,if_true,DW];rfl
 have BV:NO [.ref n,.ref b,AI d,.int (a:Int)] h=((ZB [χ,↥(.ref b),KK,ς,none,none,none] h).bind outF).bind λp=>settle h p.1 p.2:=rfl;rw[BV];unfold ZB;rw[Am,s1,A0,Ax]
 have tail:∀(t:Option Nat)(s4:Option W),((AK (BZ (AV (A1 (Dj true) (I 5) Cl)) (At (As (J (pu (.str (AL "drop"))) (J (A1 AB ψ η) A2)))) B_)
  (AK (AR (CO "Net" "beyond" 1 Rl π (J (As (J (A1 AB ψ η) (J (I 5) A2))) A2)) (A6 6))
  (AK (BZ (AV (A1 (Dj true) (I 6) Cl)) (At (As (J (pu (.str (AL "out"))) (J (A1 AB ψ η) (J (I 5) A2))))) B_)
  (At (As (J (pu (.str (AL "at"))) (J (A1 AB (I 6) η) (J (A1 AB (I 6) ζ) A2)))))))) [χ,↥(.ref b),KK,ς,s4,↥(DA t),none] h)=.ok (.Dq (DJ (Kh ws d.1 t)),h):=by
  intro t s4;cases t with
  |none=>simp[DA,Dj,NJ,x0,B1,Kh,DJ]
  |some o=>
   have nb:=acF A (d.1,o);have Fd:CO "Net" "beyond" 1 Rl π (J (As (J (A1 AB ψ η) (J (I 5) A2))) A2) [χ,↥(.ref b),KK,ς,s4,↥(DA ↥o),none] h=.ok (IV (Dt ws (d.1,o)),h):=M6 (us:=[AI (d.1,o)]) rfl AA rfl (by rw[show AI (d.1,o)=.tup [.int (d.1:Int),.int (o:Int)]from rfl];simp[x0,B1,DA]) rfl nb;have s6:AR (CO "Net" "beyond" 1 Rl π (J (As (J (A1 AB ψ η) (J (I 5) A2))) A2)) (A6 6) [χ,↥(.ref b),KK,ς,s4,↥(DA ↥o),none] h=.ok (.AM [χ,↥(.ref b),KK,ς,s4,↥(DA ↥o),↥(IV (Dt ws (d.1,o)))],h):=by rw[Cy,Fd];rfl
   have Jc:AV (A1 (Dj true) (I 5) Cl) [χ,↥(.ref b),KK,ς,s4,↥(DA ↥o),none] h=.ok (false,h):=rfl;rw[Am,Cz,Jc,A0,if_neg γ,FD,A0,Ax,Am,s6,A0,Ax];cases BC:Dt ws (d.1,o)with
   |none=>simp[IV,Dj,NJ,x0,B1,Kh,BC,DJ,DA]
   |some e=>have aiR:AB (AI e) (.int 0) h=.ok (.int (e.1:Int),h):=Hd h _ _;have Jg:AB (AI e) (.int 1) h=.ok (.int (e.2:Int),h):=JS h _ _ _;have Ey:AV (A1 (Dj true) (I 6) Cl) [χ,↥(.ref b),KK,ς,s4,↥(DA ↥o),↥(IV ↥e)] h=.ok (false,h):=rfl;rw[Am,Cz,Ey,A0,if_neg γ,FD,A0,Ax];simp[IV,aiR,Jg,B1,Kh,BC,DJ]
 unfold J7;cases CC:TU BN d.2 a with
 |none=>have s2:AR (NM (AV (A1 (Dj true) Tm Cl)) Cl (A1 AB (A1 AB ω Tm) Γ)) (A6 5) [χ,↥(.ref b),KK,ς,↥(DA none),none,none] h=.ok (.AM [χ,↥(.ref b),KK,ς,↥(DA none),↥(DA none),none],h):=rfl;rw[Am,s2,A0,Ax,tail none];simp[Kh]
 |some k=>
  have AN:=(xN CC).1;have Ff:AB (.ref b) (.int (k:Int)) h=.ok (Ec (BN.getD k Ig),h):=G2 BC (by rw[Da,C7 AN,EC,C7 AN];rfl);have Ez:AB (Ec (BN.getD k Ig)) (.int 2) h=.ok (DA (BN.getD k Ig).b,h):=V1 h _ _ _ _;have QT:AV (A1 (Dj true) Tm Cl) [χ,↥(.ref b),KK,ς,↥(DA ↥k),none,none] h=.ok (false,h):=rfl;have s2:AR (NM (AV (A1 (Dj true) Tm Cl)) Cl (A1 AB (A1 AB ω Tm) Γ)) (A6 5) [χ,↥(.ref b),KK,ς,↥(DA ↥k),none,none] h=.ok (.AM [χ,↥(.ref b),KK,ς,↥(DA ↥k),↥(DA (BN.getD k Ig).b),none],h):=by rw[Cy,afr,QT,A0,if_neg γ];erw[BG,v_var,Be,Dm,EX,Cj,A0,DA,Ff,Ez];rfl
  rw[Am,s2,A0,Ax,tail];simp
def dk:Af:=BZ (F9 (AV (Ae 2 U6 (J Tm (J Θ A2)))) (FU (AV (A1 (Dj true) (I 5) Cl)) (AV (A1 Ξ (I 5) (A1 AB ψ ζ))))) (AK (BZ (AV (A1 (Dj true) (I 6) Cl)) (At (As (J (pu (.str (AL "drop"))) (J (A1 AB ψ η) A2)))) B_)
    (AK (AR (Ae 2 PZ (J π (J (As (J (A1 AB ψ η) (J (I 6) A2))) A2))) (A6 7))
    (AK (BZ (AV (A1 (Dj true) (I 7) Cl)) (At (As (J (pu (.str (AL "out"))) (J (A1 AB ψ η) (J (I 6) A2))))) B_)
    (At (A1 addW (As (J (pu (.str (AL "at"))) A2)) (I 7)))))) B_
def aba{ws:ν}(few:⇑ws<100){h:A5}{n b a c:Nat}{BN:↑Ce}(Az:h[n]?=↥⟨.lst,ws.map CJ⟩)(ok:Mt c BN)(BC:h[b]?=↥(Fo BN))(d:AS):P_ [.ref n,.ref b,AI d,.int (a:Int)] h=.ok (DJ (J7 ws BN d a),h):=by
 have abL:=ok.1;have x0:AB (AI d) (.int 0) h=.ok (.int (d.1:Int),h):=Hd h _ _;have Cn:AB (AI d) (.int 1) h=.ok (.int (d.2:Int),h):=JS h _ _ _;obtain⟨EO,⟨s,t,u,v,rfl⟩,e⟩:=Yb (mi:=Ca ω) (it:=FG (.ref b)) (g:=EI [(A6 4),(A6 5),(A6 6)]) (b:=dk) (ρ:=[χ,↥(.ref b),KK,ς,none,none,none,none]) (h:=h) (h0:=h) ⇑BN δ (λj=>Ec (BN.getD j Ig)) (λρ=>∃s t u v,ρ=[χ,↥(.ref b),KK,ς,s,t,u,v]) (λj=>if Mq d.2 a (BN.getD j Ig)=true then↥(DJ (Kh ws d.1 (BN.getD j Ig).b))else none) (IT BC γ) (λj Ac=>l9 BC j) ⟨none,none,none,none,rfl⟩ (by
  rintro j Ac _ ⟨s,t,u,v,rfl⟩;obtain⟨r,Ao⟩:∃r,r=BN.getD j Ig:=ο;have ez:=ok.2 r (Ao▸getD_mem Ac);rw[<-Ao];refine⟨[χ,↥(.ref b),KK,ς,↥(.str r.p),↥(DA r.a),↥(DA r.b),v],[χ,↥(.ref b),KK,ς,↥(.str r.p),↥(DA r.a),↥(DA r.b),v],by simp[Ec],⟨_,_,_,_,rfl⟩,?_⟩;have P4:=aal ez.p a h;have H4:F9 (AV (Ae 2 U6 (J Tm (J Θ A2)))) (FU (AV (A1 (Dj true) (I 5) Cl)) (AV (A1 Ξ (I 5) (A1 AB ψ ζ)))) [χ,↥(.ref b),KK,ς,↥(.str r.p),↥(DA r.a),↥(DA r.b),v] h=.ok (Mq d.2 a r,h):=by
   erw[v_and,v_or,Eg,BG,GZ,BD,Bx,v_var,Be,Dm,EX,Cj,A0,Cn,kI,F7,P4,Dn,Fg,HG,if_true];unfold Mq;cases h1:r.a.isNone
   .erw[Kw,if_false,jm h _ d.2 h1,A0,F7,h4];cases h2:r.a==↥d.2<;>cases AY:LR r.p a<;>simp
   .cases AY:LR r.p a<;>simp
  unfold dk;rw[Cz,H4,A0];cases BH:Mq d.2 a r
  .simp[Ii]
  .rw[if_pos rfl,if_pos rfl];cases Ft:r.b with
   |none=>simp[DA,Dj,NJ,x0,B1,Kh,DJ,Ii]
   |some o=>
    have nb:=i4 few Az (d.1,o);have s7:AR (Ae 2 PZ (J π (J (As (J (A1 AB ψ η) (J (I 6) A2))) A2))) (A6 7) [χ,↥(.ref b),KK,ς,↥(.str r.p),↥(DA r.a),↥(DA ↥o),v] h=.ok (.AM [χ,↥(.ref b),KK,ς,↥(.str r.p),↥(DA r.a),↥(DA ↥o),↥(IV (Dt ws (d.1,o)))],h):=by erw[AI]at nb;simp[x0,B1,DA,nb]
    have Ey:AV (A1 (Dj true) (I 6) Cl) [χ,↥(.ref b),KK,ς,↥(.str r.p),↥(DA r.a),↥(DA ↥o),v] h=.ok (false,h):=rfl;rw[Am,Cz,Ey,A0,if_neg γ,FD,A0,Ax,Am,s7,A0,Ax];cases BC:Dt ws (d.1,o)with
    |none=>simp[IV,Dj,NJ,x0,B1,Kh,BC,DJ,DA,Ii]
    |some e=>have HV:AV (A1 (Dj true) (I 7) Cl) [χ,↥(.ref b),KK,ς,↥(.str r.p),↥(DA r.a),↥(DA ↥o),↥(IV ↥e)] h=.ok (false,h):=rfl;rw[Am,Cz,HV,A0,if_neg γ,FD,A0,Ax];have ad:addW (.tup [.str (AL "at")]) (AI e) h=.ok (DJ (.at e),h):=rfl;simp[IV,B1,Kh,BC,Ii,ad])
 rw[ck (λj=>Mq d.2 a (BN.getD j Ig)) (λj:Nat=>DJ (Kh ws d.1 (BN.getD j Ig).b))]at e;have BV:P_ [.ref n,.ref b,AI d,.int (a:Int)] h=((AK (DZ (Ca ω) (EI [(A6 4),(A6 5),(A6 6)]) dk) (At (As (J (pu (.str (AL "drop"))) (J (A1 AB ψ η) A2)))) [χ,↥(.ref b),KK,ς,none,none,none,none] h).bind outF).bind λp=>settle h p.1 p.2:=rfl;rw[BV,Am,e];unfold J7 TU;cases(C8 ⇑BN).find? λj=>Mq d.2 a (BN.getD j Ig)with
 |none=>simp[Ii,x0,B1,DJ]
 |some k=>simp[Ii]
end E4
namespace BX
section
variable{Bp:Type}[DecidableEq Bp]
theorem gI{k:Bp}{bs:↑Bp}{w:W}{vs:↑W}:∀{as:↑Bp}{us:↑W},k∉as->⇑as=⇑us->DL (as++k::bs) (us++w::vs) k=↥w
 |[],[],_,_=>by simp[DL]
 |a::as,u::us,n,l=>by have FH:a≠k:=λz=>n (z▸Hs ..);erw[Ht,DL,if_neg FH];exact gI (λz=>n (Gw _ z)) (l:)
theorem jb{k:Bp}:∀{as:↑Bp}{us:↑W},k∉as->⇑as=⇑us->Nj as us k=us
 |[],[],_,_=>rfl
 |a::as,u::us,n,l=>by have FH:a≠k:=λz=>n (z▸Hs ..);erw[Nj,if_neg FH];rw[jb (λz=>n (Gw _ z)) (l:)]
theorem ja{k:Bp}{bs:↑Bp}{w:W}{vs:↑W}(nb:k∉bs)(Mi:⇑bs=⇑vs):∀{as:↑Bp}{us:↑W},k∉as->⇑as=⇑us->Nj (as++k::bs) (us++w::vs) k=us++vs
 |[],[],_,_=>by simp[Nj,jb nb Mi]
 |a::as,u::us,n,l=>by have FH:a≠k:=λz=>n (z▸Hs ..);erw[Ht,Nj,if_neg FH];rw[ja nb Mi (λz=>n (Gw _ z)) (l:)]
def xR{k:Bp}{as bs:↑Bp}(na:k∉as)(nb:k∉bs):(as++k::bs).filter (λx=>decide (x≠k))=as++bs:=by
 rw[gr,PG,if_neg γ,List.filter_eq_self.mpr,List.filter_eq_self.mpr]
 .exact λa h=>(λz:a=k=>nb (z▸h):)
 .exact λa h=>(λz:a=k=>na (z▸h):)
end
def aE{h:A5}{n:Nat}{us:↑W}{w:W}(e:h[n]?=↥⟨.lst,us++[w]⟩):AB ST (.int (-1)) h=.ok (w,h):=by
 have E8:Gd h ST (.int (-1))=none:=by erw[Gd,e]
 have AA:Jm (us++[w]) (-1)=↥w:=by
  unfold Jm Lm;rw[if_neg δ,if_pos (by simp;lia)];have:(-1+(⇑(us++[w]):Int)).toNat=⇑us:=by simp;lia
  erw[gh,this];simp
 unfold AB;rw[E8];unfold Pw;erw[Gs h e,AA]
def jW{h:A5}{n:Nat}{ks:↑Key}{vs:↑W}(e:h[n]?=↥⟨.B8 ks,vs⟩)(i:Int):Gd h ST (.int i)=↥(DL ks vs (.inl i)):=by erw[Gd,e,keyOf,Nv]
def vS{h:A5}{n:Nat}{ks:↑Key}{vs:↑W}{i:Int}{v:W}{ρ:B5}(e:h[n]?=↥⟨.B8 ks,vs⟩)(dR: .inl i∉ks)(l:⇑vs<B1):Ni ST (.int i) v ρ h=.ok (.AM ρ,h.set n ⟨.B8 (ks++[.inl i]),vs++[v]⟩):=by unfold Ni;erw[e,keyOf,if_pos l,NU,if_neg dR]
def vR{h:A5}{n:Nat}{as bs:↑Key}{us vs:↑W}{i:Int}{w:W}{ρ:B5}(e:h[n]?=↥⟨.B8 (as++.inl i::bs),us++w::vs⟩)(na: .inl i∉as)(nb: .inl i∉bs)(Hi:⇑as=⇑us)(Mi:⇑bs=⇑vs):Vl ST (.int i) ρ h=.ok (w,h.set n ⟨.B8 (as++bs),us++vs⟩):=by unfold Vl;erw[e,keyOf];rw[gI na Hi,xR na nb,ja nb Mi na Hi]
def afp(d k:BB)(ρ:B5)(h:A5):WV d k ρ h=(d ρ h).bind λp=>Qy p.1 (bd k λkw=>Vl p.1 kw) ρ p.2:=rfl
end BX
namespace E4
def Gu:CH->Co
 |none=>.Ci true [.str (AL "wait")]
 |some p=>.Ci true [.str (Ep p.1),.int (p.2:Int)]
def bA{kw:Bool}(k:Nat)(h:A5)(s:CH):CI (k+2) h ((Ak kw) s)=↥(Gu s):=by cases s<;>cases kw<;>simp[Ak,CI,Gu]
def TN{s:CH}{k hh:Nat}(AN:k<3)(AP:∀p,s=↥p->p.1<3):eqT (Gu s) (.Ci true [.str (Ep k),.int (hh:Int)])=decide (s=↥(k,hh)):=by
 cases s with
 |none=>simp[Gu,eqT,Gg]
 |some p=>
  have AY:=AP p rfl;erw[Gu,eqT,Gg,List.isEmpty_nil,h8,beq_self_eq_true,X_];by_cases e:p=(k,hh)
  .subst e;simp
  .rw[decide_eq_false (e:)];by_cases AA:p.1=k
   .have AE:p.2≠hh:=λz=>e (Prod.ext AA z);have:((p.2:Int)==(hh:Int))=false:=by simp;lia
    rw[this,SD]
   .have:(Ep p.1==Ep k)=false:=by
      rw[beq_eq_false_iff_ne];exact λz=>AA (rP AY AN z)
    rw[this,hF]
def Pt{kw:Bool}{h:A5}{n k hh:Nat}{dn:↑CH}(b:Bool)(e:h[n]?=↥⟨.lst,dn.map (Ak kw)⟩)(AN:k<3)(hd:∀p,↥p∈dn->p.1<3):Cs b (.tup [.str (Ep k),.int (hh:Int)]) ST h=.ok (.AO (if b then decide (↥(k,hh)∈dn)else !decide (↥(k,hh)∈dn)),h):=by
 have Ea:Gd h ST (.tup [.str (Ep k),.int (hh:Int)])=none:=by erw[Gd,e]
 have r:CI 8 h ST=↥(.Ci false (dn.map Gu)):=by erw[CI,Gs h e];rw[mapM_some (CI 7 h) (Ak kw) Gu (λs=>bA 5 h s) dn];rfl
 rw[Pu (d:=.Ci true [.str (Ep k),.int (hh:Int)]) Ea (by simp[CI]) r];have:(dn.map Gu).any (λy=>eqT y (.Ci true [.str (Ep k),.int (hh:Int)]))=decide (↥(k,hh)∈dn):=by
  rw[Uh];rw[Qo,UR,decide_eq_true_eq];constructor
  .rintro⟨s,AP,q⟩;erw[MO]at q;rw[TN AN (λp e=>hd p (e▸AP)),decide_eq_true_eq]at q;exact q▸AP
  .intro AP;refine⟨_,AP,?_⟩;erw[MO];rw[TN AN (λp e=>hd p (e▸AP))];simp
 rw[this]
structure Lt where
 n:Nat
 m:Nat
 a:Nat
 pre:↑AS
 d:AS
 B2:Nat
 Eo:Nat
noncomputable def Q0(l:Lt):O:=⟨.ins "Letter" ["mark","address","doors"],[.int (l.m:Int),.int (l.a:Int),.ref l.Eo]⟩
def JM(l:Lt):O:=⟨.lst,(l.pre++[l.d]).map AI⟩
structure G8 where
 cs:↑Nat
 ws:ν
 A:↑↑Ce
 B:↑↑Ce
 ps:↑CH
 r:Nat
 M:Nat
 T:Nat
 nt:Nat
 b0:Nat
 b1:Nat
 pl:Nat
 K:A5
def KS:O:=⟨.Gn [],[]⟩
structure GI(C:G8):Prop where
 N:Gk C.cs C.ws
 GC:F2 C.cs C.A
 Fs:F2 C.cs C.B
 P:LA ⇑C.cs C.ps
 W5:FL C.K C.nt C.cs C.ws
 Ga:D3 C.K C.b0 C.A
 HA:D3 C.K C.b1 C.B
 pp:C.K[C.pl]?=↥⟨.lst,C.ps.map Ψ⟩
 lb:C.K[C.r]?=↥KS
 EU:⇑C.K<=C.M
 DO:C.M+3<=C.T
structure OA(C:G8)(h:A5)(l:Lt):Prop where
 Fc:h[l.B2]?=↥(Q0 l)
 BV:h[l.Eo]?=↥(JM l)
 m:l.m<2
 a:l.a<16
 d:l.d∈CR C.cs ⇑C.cs
 t1:C.T<=l.B2
 C_:C.T<=l.Eo
structure FR where
 done:↑CH
 CV:Nat
 lets:↑Lt
 ended:↑(Lt×Tl)
 Cf:Nat
def Cr(S:FR):↑Lt:=S.lets++S.ended.map (·.1)
def Nn(e:Lt×Tl):W:=.tup [.int (e.1.n:Int),.ref e.1.B2,DJ e.2]
def Hh(l:Lt):Key:=.inl (l.n:Int)
structure E_(C:G8)(h:A5)(S:FR):Prop where
 Bu:∀(n:Nat) o,C.K[n]?=↥o->o≠KS->h[n]?=↥o
 Ao:h[C.r]?=↥(Op C.nt C.b0 C.b1 C.pl C.M S.CV)
 BV:h[C.M]?=↥⟨.lst,S.done.map Ψ⟩
 el:h[C.M+1]?=↥⟨.B8 (S.lets.map Hh),S.lets.map λl=>.ref l.B2⟩
 Ge:h[C.M+2]?=↥⟨.lst,S.ended.map Nn⟩
 lt:∀l∈Cr S,OA C h l
 Bg:((Cr S).map (·.Eo)).Nodup
 nn:(S.lets.map (·.n)).Nodup
 Hw:∀l∈S.lets,l.n<S.CV
 Nh:∀p,↥p∈S.done->p.1<3
 few:S.CV<1000
 le:⇑S.ended+⇑S.lets<=S.CV
 AH:C.T<=⇑h
 pr:∀l∈Cr S,⇑l.pre<=S.Cf
section
variable{C:G8}{h h':A5}{S:FR}
def OA.to{l:Lt}(x:OA C h l)(AA:h'[l.B2]?=h[l.B2]?)(AE:h'[l.Eo]?=h[l.Eo]?):OA C h' l:=⟨AA.trans x.Fc,AE.trans x.BV,x.m,x.a,x.d,x.t1,x.C_⟩
def GI.JZ(c:GI C):C.r<C.M:=GH (HN c.lb) c.EU
theorem E_.set(c:GI C)(R:E_ C h S){p:Nat}(o:O)(h1:C.M+3<=p)(h2:p<C.T):E_ C (h.set p o) S:=by
 have q:=c.EU;have JZ:=c.JZ;have e:∀n,n≠p->(h.set p o)[n]?=h[n]?:=λn AZ=>Gz (λz=>AZ z.symm) o;refine⟨λn o' k ne=>?_,?_,?_,?_,?_,λl AH=>?_,R.Bg,R.nn,R.Hw,R.Nh,R.few,R.le,(R.AH:),R.pr⟩
 .rw[e n (by have:=HN k;lia)];exact R.Bu n o' k ne
 .rw[e _ δ];exact R.Ao
 .rw[e _ δ];exact R.BV
 .rw[e _ δ];exact R.el
 .rw[e _ δ];exact R.Ge
 .have x:=R.lt l AH;have:=x.t1;have:=x.C_;exact x.to (e _ δ) (e _ δ)
def E_.app(R:E_ C h S)(g:A5):E_ C (h++g) S:=by refine⟨λn o' k ne=>Bl h (R.Bu n o' k ne) g,Bl h R.Ao g,Bl h R.BV g,Bl h R.el g,Bl h R.Ge g,λl AH=>?_,R.Bg,R.nn,R.Hw,R.Nh,R.few,R.le,by have:=R.AH;simp;lia,R.pr⟩;have x:=R.lt l AH;exact⟨Bl h x.Fc g,Bl h x.BV g,x.m,x.a,x.d,x.t1,x.C_⟩
theorem E_.W5(c:GI C)(R:E_ C h S):FL h C.nt C.cs C.ws:=by obtain⟨f,AA,AE⟩:=c.W5.ex;exact⟨f,R.Bu _ _ AA (λz=>by cases z),R.Bu _ _ AE (λz=>by cases z)⟩
def ZE{K:A5}(Bu:∀(n:Nat) o,K[n]?=↥o->o≠KS->h[n]?=↥o){b:Nat}{B:↑↑Ce}(x:D3 K b B):D3 h b B:=by obtain⟨rs,e,l,r⟩:=x.ex;exact⟨rs,Bu _ _ e (λz=>by cases z),l,λi q Aa=>Bu _ _ (r i q Aa) (λz=>by cases z)⟩
end
section
variable{C:G8}{h:A5}{S:FR}
noncomputable def K2(dn:↑CH)(hh m:Nat):Bool:=if m=1 then decide (↥(0,hh)∈dn)else !decide (↥(2,hh)∈dn)
def abI(c:GI C)(R:E_ C h S){hh m:Nat}(hm:m<2):TH [.ref C.r,.int (hh:Int),.int (m:Int)] h=.ok (.AO (K2 S.done hh m),h):=by
 have fd:Av "Run" "done" (.ref C.r) h=.ok (.ref C.M,h):=Dy R.Ao rfl;have ET:=Pt (hh:=hh) (k:=0) true R.BV δ R.Nh;have Fk:=Pt (hh:=hh) (k:=2) false R.BV δ R.Nh;rw[show Ep 0=AL "teach" from rfl]at ET;rw[show Ep 2=AL "forget" from rfl]at Fk;have:m=0\/m=1:=δ
 rcases this with rfl|rfl
 .simp[TH,Xq,fd,Fk,B1,K2]
 .simp[TH,Xq,fd,ET,B1,K2]
noncomputable def NC(C:G8)(m hh:Nat):↑Ce:=(if m=1 then C.B else C.A).getD hh []
def Hk(C:G8)(dn:↑CH)(l:Lt):Tl:=if K2 dn l.d.1 l.m=true then J7 C.ws (NC C l.m l.d.1) l.d l.a else .LZ l.d.1
def ab_(c:GI C)(R:E_ C h S){l:Lt}(x:OA C h l):Sr [.ref C.r,.ref l.B2] h=.ok (DJ (Hk C S.done l),h):=by
 have Yg:Av "Run" "books" (.ref C.r) h=.ok (.tup [.ref C.b0,.ref C.b1],h):=Dy R.Ao rfl;have fn:Av "Run" "net" (.ref C.r) h=.ok (.ref C.nt,h):=Dy R.Ao rfl;have P7:Av "Letter" "mark" (.ref l.B2) h=.ok (.int (l.m:Int),h):=Dy x.Fc rfl;have ga:Av "Letter" "address" (.ref l.B2) h=.ok (.int (l.a:Int),h):=Dy x.Fc rfl;have RJ:Av "Letter" "doors" (.ref l.B2) h=.ok (.ref l.Eo,h):=Dy x.Fc rfl;have Ee:AB (.ref l.Eo) (.int (-1)) h=.ok (AI l.d,h):=aE (us:=l.pre.map AI) (by rw[x.BV];simp[JM]);have x0:AB (AI l.d) (.int 0) h=.ok (.int (l.d.1:Int),h):=Hd h _ _;have hd:=(Pb.mp x.d).1;have k:=abI c R (hh:=l.d.1) x.m;have s1:AR (A1 AB (B3 (Av "Letter" "doors") ω) (B3 Ke ζ)) (A6 2) [ι,↥(.ref l.B2),none] h=.ok (.AM [ι,↥(.ref l.B2),↥(AI l.d)],h):=by have Pc:Ke (.int 1) h=.ok (.int (-1),h):=rfl;erw[Cy,BG,Gv,v_var,Be,Dm,EX,Cj,A0,RJ,Pc,Ee];rfl
 have Fd:CO "Run" "knows" 2 TH π (J (A1 AB ψ η) (J (B3 (Av "Letter" "mark") ω) A2)) [ι,↥(.ref l.B2),↥(AI l.d)] h=.ok (.AO (K2 S.done l.d.1 l.m),h):=M6 (us:=[.int (l.d.1:Int),.int (l.m:Int)]) rfl R.Ao rfl (by simp[x0,P7]) rfl k;have BV:Sr [.ref C.r,.ref l.B2] h=((Xs [ι,↥(.ref l.B2),none] h).bind outF).bind λp=>settle h p.1 p.2:=rfl;rw[BV];unfold Xs;rw[Am,s1,A0,Ax,Am,Cz,v_not,Eg,Fd,A0,F7,A0,A0];unfold Hk;cases AN:K2 S.done l.d.1 l.m
 .simp[x0,B1,DJ]
 .have on:∀(b:Nat)(B:↑↑Ce),F2 C.cs B->D3 h b B->∃q,AB (.ref b) (.int (l.d.1:Int)) h=.ok (.ref q,h)/\NO [.ref C.nt,.ref q,AI l.d,.int (l.a:Int)] h=.ok (DJ (J7 C.ws (B.getD l.d.1 []) l.d l.a),h):=λb B ok at'=>by
    obtain⟨rs,e,L_,r⟩:=at'.ex;have BH:l.d.1< ⇑rs:=by rw[L_,ok.1];exact hd
    exact⟨rs[l.d.1],G2 e (by rw[Da,C7 BH];rfl),me (R.W5 c) (ok.2 _ hd) (r _ _ (C7 BH)) x.a l.d⟩
  have:l.m=0\/l.m=1:=by have:=x.m;lia
  rcases this with e|e
  .obtain⟨q,AA,AE⟩:=on C.b0 C.A c.GC (ZE R.Bu c.Ga);simp[fn,Yg,P7,Hd,JS,x0,AA,ga,AE,NC,e,-EC]
  .obtain⟨q,AA,AE⟩:=on C.b1 C.B c.Fs (ZE R.Bu c.HA);simp[fn,Yg,P7,Hd,JS,x0,AA,ga,AE,NC,e,-EC]
def adR{cs:↑Nat}{ws:ν}{n:Nat}(A:FL h n cs ws){d:AS}(hd:d∈CR cs ⇑cs)(A4:Dt ws d=none):TB [.ref n,AI d] h=.ok Ty:=by
 obtain⟨f,AA,AE⟩:=A.ex;have f1:Av "Net" "far" ST h=.ok (.ref f,h):=Dy AA rfl;have f2:Av "Net" "counts" ST h=.ok (.tup (Bq cs),h):=Dy AA rfl;have v_:W_ [.ref n,AI d] h=.ok Ty:=by simp[W_,be,f2,dI hd]
 have Fd:CO "Net" "is_door" 1 W_ π Ω [χ,KK] h=.ok Ty:=M6 (us:=[AI d]) rfl AA rfl rfl rfl v_;have CZ:Cs false (AI d) (.ref f) h=.ok Ty:=by unfold Cs;rw[YW AE,A4];rfl
 simp[TB,bf,Fd,f1,CZ]
noncomputable def FV(dn:↑CH)(hh:Nat):Nat:=if ↥(1,hh)∈dn then 1 else 0
def Oj(S:FR)(L:Nat)(d:AS)(a:Nat):Lt:=⟨S.CV,FV S.done d.1,a,[],d,L,L+1⟩
def aaO(R:E_ C h S):(.inl (S.CV:Int):Key)∉S.lets.map Hh:=λz=>by obtain⟨l,AH,e⟩:=List.mem_map.mp z;have:=R.Hw l AH;erw[Hh,U_]at e;lia
def tZ(c:GI C)(R:E_ C h S)(AJ:S.CV<900){d:AS}(hd:d∈CR C.cs ⇑C.cs)(A4:Dt C.ws d=none){a:Nat}(AG:a<16) :
  ∃h',TD [.ref C.r,AI d,.int (a:Int)] h=.ok (.int (S.CV:Int),h')/\E_ C h' { S with CV:=S.CV+1,lets:=S.lets++[Oj S ⇑h d a] }/\
   ⇑h<=⇑h'/\∀n,n< ⇑h->n≠C.r->n≠C.M+1->h'[n]?=h[n]?:=by
 have q:=c.EU;have JZ:=c.JZ;have DO:=c.DO;have AH:=R.AH;have fn:Av "Run" "net" (.ref C.r) h=.ok (.ref C.nt,h):=Dy R.Ao rfl;have cg:Av "Run" "came" (.ref C.r) h=.ok (.int (S.CV:Int),h):=Dy R.Ao rfl;have fd:Av "Run" "done" (.ref C.r) h=.ok (.ref C.M,h):=Dy R.Ao rfl;obtain⟨f,Az,_⟩:=(R.W5 c).ex;have x0:AB (AI d) (.int 0) h=.ok (.int (d.1:Int),h):=Hd h _ _;have mo:CO "Net" "is_outer" 1 TB (B3 (Av "Run" "net") π) Ω [ι,KK,ς,none,none] h=.ok Ty:=M6 (us:=[AI d]) (by simp[fn]) Az rfl rfl rfl (adR (R.W5 c) hd A4);have t1:FU (Du (AV (CO "Net" "is_outer" 1 TB (B3 (Av "Run" "net") π) Ω))) (Du (AV (Ae 1 U0 Fr))) [ι,KK,ς,none,none] h=.ok (false,h):=by rw[v_or,v_not,Eg,mo];simp[iS AG]
 have s2:AR (B3 (Av "Run" "came") π) (A6 3) [ι,KK,ς,none,none] h=.ok (.AM [ι,KK,ς,↥(.int (S.CV:Int)),none],h):=by erw[Cy,Gv,v_var,Dm,Cj,A0,cg];rfl
 have CZ:=Pt (hh:=d.1) (k:=1) true R.BV δ R.Nh;rw[show Ep 1=AL "turn" from rfl]at CZ;have s3:AR (NM (AV (A1 (Cs true) (As (J (pu (.str (AL "turn"))) (J (A1 AB ω η) A2))) (B3 (Av "Run" "done") π))) ζ η) (A6 4) [ι,KK,ς,↥(.int (S.CV:Int)),none] h=.ok (.AM [ι,KK,ς,↥(.int (S.CV:Int)),↥(.int (FV S.done d.1:Nat))],h):=by
  unfold FV;by_cases B9:↥(1,d.1)∈S.done
  .simp[x0,fd,CZ,B1,B9]
  .simp[x0,fd,CZ,B1,B9]
 obtain⟨l,el⟩:∃l,l=Oj S ⇑h d a:=ο;have mk:K4 "Letter" 3 WZ (J Tm (J ω Fr)) [ι,KK,ς,↥(.int (S.CV:Int)),↥(.int (FV S.done d.1:Nat))] h=.ok (.ref ⇑h,h++[Q0 l,JM l]):=by
  refine Zk (us:=[.int (FV S.done d.1:Nat),AI d,.int (a:Int)]) (h1:=h) γ rfl ?_;have e:WZ [.ref ⇑h,.int (FV S.done d.1:Nat),AI d,.int (a:Int)] (h++[⟨.ins "Letter" [],[]⟩])=(YF [υ,↥(.int (FV S.done d.1:Nat)),KK,ς] (h++[⟨.ins "Letter" [],[]⟩])).bind outF:=rfl;have a1:Ex "Letter" "mark" π ω [υ,↥(.int (FV S.done d.1:Nat)),KK,ς] (h++[⟨.ins "Letter" [],[]⟩])=.ok (.AM [υ,↥(.int (FV S.done d.1:Nat)),KK,ς],h++(⟨.ins "Letter" ["mark"],[.int (FV S.done d.1:Nat)]⟩::([]++[]))):=Nr rfl rfl ε rfl rfl;have a2:Ex "Letter" "address" π Θ [υ,↥(.int (FV S.done d.1:Nat)),KK,ς] (h++(⟨.ins "Letter" ["mark"],[.int (FV S.done d.1:Nat)]⟩::([]++[])))=.ok (.AM [υ,↥(.int (FV S.done d.1:Nat)),KK,ς],h++(⟨.ins "Letter" ["mark","address"],[.int (FV S.done d.1:Nat),.int (a:Int)]⟩::([]++[]++[]))):=Nr rfl rfl ε rfl rfl;have HM:Ex "Letter" "doors" π (Bd Fr) [υ,↥(.int (FV S.done d.1:Nat)),KK,ς] (h++(⟨.ins "Letter" ["mark","address"],[.int (FV S.done d.1:Nat),.int (a:Int)]⟩::([]++[]++[])))=.ok (.AM [υ,↥(.int (FV S.done d.1:Nat)),KK,ς],h++(⟨.ins "Letter" ["mark","address","doors"],[.int (FV S.done d.1:Nat),.int (a:Int),.ref (⇑h+1)]⟩::([]++[]++[]++[⟨.lst,[AI d]⟩]))):=by refine Nr rfl ?_ ε rfl rfl;simp[nw,B1]
  rw[e];unfold YF;rw[Am,a1,A0,Ax,Am,a2,A0,Ax,HM,A0,mv,el];rfl
 obtain⟨h1,AA⟩:∃h1,h1=h++[Q0 l,JM l]:=ο;rw[<-AA]at mk;have D0:⇑h1=⇑h+2:=by rw[AA];simp
 have Jk:E_ C h1 S:=by rw[AA];exact R.app _
 have g1:Av "Run" "letters" (.ref C.r) h1=.ok (.ref (C.M+1),h1):=Dy Jk.Ao rfl;have few:=R.few;have le:=R.le;have pt:=vS (v:=.ref ⇑h) (ρ:=[ι,KK,ς,↥(.int (S.CV:Int)),↥(.int (FV S.done d.1:Nat))]) Jk.el (aaO R) (by rw[CE];unfold B1;lia);obtain⟨h2,AE⟩:∃h2,h2=h1.set (C.M+1) ⟨.B8 (S.lets.map Hh++[.inl (S.CV:Int)]),(S.lets.map λl=>.ref l.B2)++[.ref ⇑h]⟩:=⟨_,rfl⟩;rw[<-AE]at pt;have j4:h2[C.r]?=↥(Op C.nt C.b0 C.b1 C.pl C.M S.CV):=by rw[AE,Gz δ];exact Jk.Ao
 have s4:Mk (B3 (Av "Run" "letters") π) Θ (K4 "Letter" 3 WZ (J Tm (J ω Fr))) [ι,KK,ς,↥(.int (S.CV:Int)),↥(.int (FV S.done d.1:Nat))] h=.ok (.AM [ι,KK,ς,↥(.int (S.CV:Int)),↥(.int (FV S.done d.1:Nat))],h2):=by rw[gE,mk,A0];erw[Gv,v_var,Dm,EX,Cj,A0,g1,pt]
 obtain⟨AY,Cd⟩:∃AY,AY=h2.set C.r (Op C.nt C.b0 C.b1 C.pl C.M (S.CV+1)):=ο;have s5:Ex "Run" "came" π (A1 addW Θ ζ) [ι,KK,ς,↥(.int (S.CV:Int)),↥(.int (FV S.done d.1:Nat))] h2=.ok (.AM [ι,KK,ς,↥(.int (S.CV:Int)),↥(.int (FV S.done d.1:Nat))],AY):=by rw[Tt];erw[BG,v_var,Be,Dm,EX,Cj,A0,NT];rw[TS (ns':=o8) (ws':=[.ref C.nt,.tup [.ref C.b0,.ref C.b1],.ref C.pl,.ref C.M,.int ((S.CV:Int)+1),.ref (C.M+1),.ref (C.M+2)]) j4 ε rfl rfl,Cd];rfl
 have Cm:⇑h2=⇑h+2:=by rw[AE];simpa using D0
 have OZ:⇑AY=⇑h+2:=by rw[Cd];simpa using Cm
 have keep:∀n,n≠C.r->n≠C.M+1->AY[n]?=h1[n]?:=λn FH GQ=>by rw[Cd,Gz (λz=>FH z.symm),AE,Gz (λz=>GQ z.symm)]
 refine⟨AY,?_,?_,δ,λn AZ FH GQ=>?_⟩
 .have e:TD [.ref C.r,AI d,.int (a:Int)] h=(Xm [ι,KK,ς,none,none] h).bind outF:=rfl;rw[e];unfold Xm;rw[Am,Cz,t1,A0,if_neg γ,FD,A0,Ax,Am,s2,A0,Ax,Am,s3,A0,Ax,Am,s4,A0,Ax,Am,s5,A0,Ax];rfl
 .have ln:l.B2=⇑h/\l.Eo=⇑h+1/\l.n=S.CV:=by rw[el];exact⟨rfl,rfl,rfl⟩
  have df:OA C AY l:=by
   refine⟨?_,?_,?_,?_,?_,δ,δ⟩
   .rw[keep _ δ δ,ln.1,AA];simp
   .rw[keep _ δ δ,ln.2.1,AA];simp
   .rw[el];erw[Oj,FV];split<;>lia
   .rw[el];exact AG
   .rw[el];exact hd
  rw[<-el];have old:∀x∈Cr S,OA C AY x:=λx AF=>by have y:=Jk.lt x AF;have:=y.t1;have:=y.C_;exact y.to (keep _ δ δ) (keep _ δ δ)
  refine⟨λn o' k ne=>?_,?_,?_,?_,?_,λx AF=>?_,?_,?_,λx AF=>?_,R.Nh,?_,?_,δ,λx AF=>?_⟩
  .rw[keep n (λz=>by subst z;rw[c.lb]at k;cases k;exact ne rfl) (by have:=HN k;lia)];exact Jk.Bu n o' k ne
  .rw[Cd];exact KD j4
  .rw[keep _ δ δ];exact Jk.BV
  .rw[Cd,Gz δ,AE,KD Jk.el];simp[Hh,ln.1,ln.2.2]
  .rw[keep _ δ δ];exact Jk.Ge
  .erw[Cr,Dd,Gj,IC]at AF;rcases AF with AF|rfl|AF
   .exact old x (Gx _ AF)
   .exact df
   .exact old x (IF _ AF)
  .erw[Cr,Dd,JG,Do,IE];have Bg:=R.Bg;erw[Cr,JG]at Bg;have fr:∀x∈Cr S,x.Eo≠l.Eo:=λx AF z=>by
    have:=HN (R.lt x AF).BV;lia
   obtain⟨FH,GQ,S0⟩:=List.nodup_append.mp Bg;refine List.nodup_append.mpr ⟨FH,?_,λu BQ v CG=>?_⟩
   .rw[gU,List.nodup_cons];refine⟨λz=>?_,GQ⟩;obtain⟨x,AF,e⟩:=List.mem_map.mp z;exact fr x (IF _ AF) e
   .rw[gU,Ix]at CG;rcases CG with rfl|CG
    .obtain⟨x,AF,e⟩:=List.mem_map.mp BQ;subst e;exact fr x (Gx _ AF)
    .exact S0 u BQ v CG
  .erw[JG,Do,IE];refine List.nodup_append.mpr ⟨R.nn,γ,λu BQ v CG=>?_⟩;obtain⟨x,AF,e⟩:=List.mem_map.mp BQ;have:=R.Hw x AF;have CG:=List.mem_singleton.mp CG;lia
  .rcases List.mem_append.mp AF with AF|AF
   .have:=R.Hw x AF;show x.n<S.CV+1;lia
   .have:=List.mem_singleton.mp AF;subst this;show x.n<S.CV+1;lia
  .show S.CV+1<1000;lia
  .show⇑S.ended+⇑(S.lets++[l])<=S.CV+1;simp;lia
  .erw[Cr,Dd,Gj,IC]at AF;rcases AF with AF|rfl|AF
   .exact R.pr x (Gx _ AF)
   .rw[el];exact IB _
   .exact R.pr x (IF _ AF)
 .rw[keep n FH GQ,AA,GW AZ]
end
section
variable{C:G8}{h:A5}{S:FR}
noncomputable def Lj(l:Lt)(e:AS):Lt:={ l with pre:=l.pre++[l.d],d:=e }
def Hb(S:FR)(Dw:↑Lt)(l:Lt)(BU:↑Lt):Tl->FR
 |.at e=>{ S with lets:=Dw++Lj l e::BU,Cf:=S.Cf+1 }
 |t=>{ S with lets:=Dw++BU,ended:=S.ended++[(l,t)],Cf:=S.Cf+1 }
def isAt:Tl->Bool
 |.at _=>true
 |_=>false
def uR{cs:↑Nat}{ws:ν}(N:Gk cs ws){d e:AS}(h:Dt ws d=↥e):e∈CR cs ⇑cs:=N.sub _ (d4 h).2
def ad8{cs:↑Nat}{ws:ν}(N:Gk cs ws){hh:Nat}{o:Option Nat}{e:AS}(h:Kh ws hh o=.at e):e∈CR cs ⇑cs:=by
 unfold Kh at h
 split at h
 .cases h
 .split at h
  .cases h
  .rename_i q;cases h;exact uR N q
def ZR{cs:↑Nat}{ws:ν}(N:Gk cs ws){BN:↑Ce}{d:AS}{a:Nat}{e:AS}(h:J7 ws BN d a=.at e):e∈CR cs ⇑cs:=by
 unfold J7 at h
 split at h
 .cases h
 .exact ad8 N h
def abp(c:GI C){dn:↑CH}{l:Lt}{e:AS}(h:Hk C dn l=.at e):e∈CR C.cs ⇑C.cs:=by
 unfold Hk at h
 split at h
 .exact ZR c.N h
 .cases h
def jo{L:↑Lt}{l:Lt}(h:l.n∉L.map (·.n)):Hh l∉L.map Hh:=λz=>by obtain⟨x,AF,e⟩:=List.mem_map.mp z;erw[Hh,U_]at e;exact h (List.mem_map.mpr ⟨x,AF,δ⟩)
def acH{Dw BU:↑Lt}{l:Lt}(h:((Dw++l::BU).map (·.n)).Nodup):l.n∉Dw.map (·.n)/\l.n∉BU.map (·.n):=by erw[JG,Do]at h;obtain⟨_,h2,AY⟩:=List.nodup_append.mp h;exact⟨λz=>AY _ z _ (Hs ..) rfl,(List.nodup_cons.mp h2).1⟩
def wx(c:GI C)(R:E_ C h S)(hm:S.Cf<900000){Dw BU:↑Lt}{l:Lt}(es:S.lets=Dw++l::BU) :
  ∃h',TF [.ref C.r,.int (l.n:Int)] h=.ok (DJ (Hk C S.done l),h')/\E_ C h' (Hb S Dw l BU (Hk C S.done l))/\ ⇑h'=⇑h/\∀n,n≠C.M+1->n≠C.M+2->n≠l.Eo->h'[n]?=h[n]?:=by
 have q:=c.EU;have JZ:=c.JZ;have DO:=c.DO;have AH:=R.AH;have W1:l∈Cr S:=Gx _ (by rw[es];simp);have x:=R.lt l W1;have aji:=x.t1;have ajj:=x.C_;have nn:=R.nn;rw[es]at nn;obtain⟨FH,GQ⟩:=acH nn;have k1:=jo FH;have k2:=jo GQ;have el:h[C.M+1]?=↥⟨.B8 (Dw.map Hh++Hh l::BU.map Hh),(Dw.map λl=>.ref l.B2)++.ref l.B2::BU.map λl=>.ref l.B2⟩:=by rw[R.el,es];simp
 have CK:Av "Run" "letters" (.ref C.r) h=.ok (.ref (C.M+1),h):=Dy R.Ao rfl;have gl:Gd h (.ref (C.M+1)) (.int (l.n:Int))=↥↥(.ref l.B2):=by rw[jW el];show↥(DL _ _ (Hh l))=_;rw[gI k1 γ]
 have ET:Cs false (.int (l.n:Int)) (.ref (C.M+1)) h=.ok (.AO false,h):=by unfold Cs;rw[gl];rfl
 have E0:AB (.ref (C.M+1)) (.int (l.n:Int)) h=.ok (.ref l.B2,h):=by unfold AB;rw[gl]
 obtain⟨t,I5⟩:∃t,t=Hk C S.done l:=ο;have AM:=ab_ c R x;rw[<-I5]at AM |-;have t1:FU (Du (AV (Ae 1 U3 Ω))) (AV (A1 (Cs false) ω (B3 (Av "Run" "letters") π))) [ι,↥(.int (l.n:Int)),none,none] h=.ok (false,h):=by simp[rQ,CK,ET]
 have s2:AR (A1 AB (B3 (Av "Run" "letters") π) ω) (A6 2) [ι,↥(.int (l.n:Int)),none,none] h=.ok (.AM [ι,↥(.int (l.n:Int)),↥(.ref l.B2),none],h):=by simp[CK,E0]
 have Fd:CO "Run" "next_of" 1 Sr π Fr [ι,↥(.int (l.n:Int)),↥(.ref l.B2),none] h=.ok (DJ t,h):=M6 (us:=[.ref l.B2]) rfl R.Ao rfl rfl rfl AM;have s3:AR (CO "Run" "next_of" 1 Sr π Fr) (A6 3) [ι,↥(.int (l.n:Int)),↥(.ref l.B2),none] h=.ok (.AM [ι,↥(.int (l.n:Int)),↥(.ref l.B2),↥(DJ t)],h):=by rw[Cy,Fd];rfl
 have BV:TF [.ref C.r,.int (l.n:Int)] h=(Xn [ι,↥(.int (l.n:Int)),none,none] h).bind outF:=rfl;rw[BV];unfold Xn;rw[Am,Cz,t1,A0,if_neg γ,FD,A0,Ax,Am,s2,A0,Ax,Am,s3,A0,Ax,Am,Cz];have pl:=R.pr l W1;have dl:⇑(l.pre.map AI++[AI l.d])<=900001:=by simp;lia
 by_cases AG:isAt t=true
 .obtain⟨e,te⟩:∃e,t=.at e:=by cases t<;>first|exact⟨_,rfl⟩|cases AG
  subst te;have he:=abp c I5.symm;have tt:AV (A1 Ξ (A1 AB Θ η) (pu (.str (AL "at")))) [ι,↥(.int (l.n:Int)),↥(.ref l.B2),↥(DJ (.at e))] h=.ok (true,h):=by simp[DJ,Hd]
  rw[tt,A0,if_pos rfl];have RJ:Av "Letter" "doors" (.ref l.B2) h=.ok (.ref l.Eo,h):=Dy x.Fc rfl;obtain⟨h',Gf⟩:∃h',h'=h.set l.Eo (JM (Lj l e)):=ο;have ap:DQ DV (B3 (Av "Letter" "doors") ψ) (J (As (J (A1 AB Θ ζ) (J (A1 AB Θ Γ) A2))) A2) [ι,↥(.int (l.n:Int)),↥(.ref l.B2),↥(DJ (.at e))] h=.ok (.non,h'):=by rw[Gf];refine JV (ws:=(l.pre++[l.d]).map AI) (ws2:=(l.pre++[l.d]).map AI) (us:=[AI e]) (ws':=(l.pre++[l.d]++[e]).map AI) (h1:=h) (h2:=h) (by simp[RJ]) x.BV ?_ x.BV (by simp[DV]) (by simp[B1];lia);simp[DJ,JS,V1,B1,AI]
  refine⟨h',?_,?_,by rw[Gf];simp,λn _ _ AZ=>by rw[Gf,Gz (λz=>AZ z.symm)]⟩
  .rw[JD,ap];rfl
  .have keep:∀n,n≠l.Eo->h'[n]?=h[n]?:=λn AZ=>by rw[Gf,Gz (λz=>AZ z.symm)]
   have Bg:=R.Bg;have l7:∀y∈Cr S,y.B2≠l.Eo:=λy AX z=>by have AA:=(R.lt y AX).Fc;have AE:=x.BV;rw[z,AE]at AA;cases AA
   have ad9:∀y,y∈Dw++(BU++S.ended.map (·.1))->y.Eo≠l.Eo:=λy AX z=>by
    erw[Cr,es,Dd,Ht,JG,Do]at Bg;obtain⟨a1,a2,HM⟩:=List.nodup_append.mp Bg;have NB:=(List.nodup_cons.mp a2).1;rcases List.mem_append.mp AX with AX|AX
    .exact HM _ (List.mem_map.mpr ⟨y,AX,rfl⟩) _ (Hs ..) z
    .apply NB;rw[<-JG];exact List.mem_map.mpr ⟨y,AX,z⟩
   have mu:∀y,y∈Dw++(BU++S.ended.map (·.1))->OA C h' y:=λy AX=>by
    have lM:y∈Cr S:=by
     erw[Cr,es,Dd,Ht,Gj,Ix]at AX |-;rcases AX with AX|AX
     .exact .inl AX
     .exact .inr (.inr AX)
    exact(R.lt y lM).to (keep _ (l7 y lM)) (keep _ (ad9 y AX))
   have df:OA C h' (Lj l e):=⟨by show h'[l.B2]?=_;rw[keep _ (l7 l W1)];exact x.Fc,by show h'[l.Eo]?=_;rw[Gf];exact KD x.BV,x.m,x.a,he,x.t1,x.C_⟩;refine⟨λn o' k ne=>?_,?_,?_,?_,?_,λy AX=>?_,?_,?_,λy AX=>?_,R.Nh,R.few,?_,by rw[Gf];simpa using AH,λy AX=>?_⟩
   .rw[keep n (by have:=HN k;lia)];exact R.Bu n o' k ne
   .rw[keep _ δ];exact R.Ao
   .rw[keep _ δ];exact R.BV
   .rw[keep _ δ,el];simp[Hb,Lj,Hh]
   .rw[keep _ δ];exact R.Ge
   .erw[Cr,Hb,Dd,Ht,Gj,Ix]at AX;rcases AX with AX|rfl|AX
    .exact mu y (Gx _ AX)
    .exact df
    .exact mu y (IF _ (List.mem_append.mpr AX))
   .have:(Cr (Hb S Dw l BU (.at e))).map (·.Eo)=(Cr S).map (·.Eo):=by simp[Cr,Hb,es,Lj]
    rw[this];exact Bg
   .have:(Hb S Dw l BU (.at e)).lets.map (·.n)=S.lets.map (·.n):=by simp[Hb,es,Lj]
    rw[this];exact R.nn
   .erw[Hb,Gj,Ix]at AX;rcases AX with AX|rfl|AX
    .exact R.Hw y (by rw[es];simp[AX])
    .exact R.Hw l (by rw[es];simp)
    .exact R.Hw y (by rw[es];simp[AX])
   .have:=R.le;rw[es]at this;simpa[Hb]using this
   .erw[Cr,Hb,Dd,Ht,Gj,Ix]at AX;show⇑y.pre<=S.Cf+1;have old:∀z∈Cr S,⇑z.pre<=S.Cf:=R.pr;erw[Cr,es,Dd,Ht,Gj,Ix]at old;rcases AX with AX|rfl|AX
    .have:=old y (.inl AX);lia
    .erw[Lj,F1,Dn,Fg];lia
    .have:=old y (.inr (.inr AX));lia
 .have tt:AV (A1 Ξ (A1 AB Θ η) (pu (.str (AL "at")))) [ι,↥(.int (l.n:Int)),↥(.ref l.B2),↥(DJ t)] h=.ok (false,h):=by
    cases t<;>first|exact absurd rfl AG|(simp[DJ,Hd];decide)
  rw[tt,A0,if_neg γ];have Gp:Hb S Dw l BU t={ S with lets:=Dw++BU,ended:=S.ended++[(l,t)],Cf:=S.Cf+1 }:=by cases t<;>first|exact absurd rfl AG|rfl
  obtain⟨h1,AA⟩:∃h1,h1=h.set (C.M+1) ⟨.B8 (Dw.map Hh++BU.map Hh),(Dw.map λl=>.ref l.B2)++BU.map λl=>.ref l.B2⟩:=⟨_,rfl⟩;have aa5:Qz h (.ref (C.M+1))=true:=by unfold Qz;erw[el]
  have pp:WV (B3 (Av "Run" "letters") π) ω [ι,↥(.int (l.n:Int)),↥(.ref l.B2),↥(DJ t)] h=.ok (.ref l.B2,h1):=by rw[afp];erw[Gv,v_var,Dm,EX,Cj,A0,CK,Qy,aa5,if_true,Hq];rw[AA];exact vR (i:=(l.n:Int)) el k1 k2 γ γ
  have v9:h1[C.r]?=↥(Op C.nt C.b0 C.b1 C.pl C.M S.CV):=by rw[AA,Gz δ];exact R.Ao
  have xK:Av "Run" "ended" (.ref C.r) h1=.ok (.ref (C.M+2),h1):=Dy v9 rfl;have dN:h1[C.M+2]?=↥⟨.lst,S.ended.map Nn⟩:=by rw[AA,Gz δ];exact R.Ge
  have le:=R.le;have few:=R.few;obtain⟨h',Gf⟩:∃h',h'=h1.set (C.M+2) ⟨.lst,(S.ended++[(l,t)]).map Nn⟩:=⟨_,rfl⟩;have ap:DQ DV (B3 (Av "Run" "ended") π) (J (As (J ω (J ψ (J Θ A2)))) A2) [ι,↥(.int (l.n:Int)),↥(.ref l.B2),↥(DJ t)] h1=.ok (.non,h'):=by rw[Gf];refine JV (ws:=S.ended.map Nn) (ws2:=S.ended.map Nn) (us:=[Nn (l,t)]) (h1:=h1) (h2:=h1) (by simp[xK]) dN ?_ dN (by simp[DV]) (by simp[B1];lia);simp[B1,Nn]
  have keep:∀n,n≠C.M+1->n≠C.M+2->h'[n]?=h[n]?:=λn a b=>by rw[Gf,Gz (λz=>b z.symm),AA,Gz (λz=>a z.symm)]
  refine⟨h',?_,?_,by rw[Gf,AA];simp,λn a b _=>keep n a b⟩
  .rw[Am,JD,pp,A0,A0,Ax,JD,ap];rfl
  .rw[Gp];have fY:(Cr { S with lets:=Dw++BU,ended:=S.ended++[(l,t)],Cf:=S.Cf+1 }).Perm (Cr S):=by
    erw[Cr,es,JG,Do,IE,Dd,Ht];refine gS _ ?_;rw[<-Dd];exact List.perm_append_singleton l (BU++S.ended.map (·.1))
   refine⟨λn o' k ne=>?_,?_,?_,?_,?_,λy AX=>?_,?_,?_,λy AX=>?_,R.Nh,R.few,?_,by rw[Gf,AA];simpa using AH,λy AX=>?_⟩
   .rw[keep n (by have:=HN k;lia) (by have:=HN k;lia)];exact R.Bu n o' k ne
   .rw[keep _ δ δ];exact R.Ao
   .rw[keep _ δ δ];exact R.BV
   .rw[Gf,Gz δ,AA,KD el];simp
   .rw[Gf,KD dN]
   .have z:=R.lt y (fY.mem_iff.mp AX);have:=z.t1;have:=z.C_;exact z.to (keep _ δ δ) (keep _ δ δ)
   .exact(fY.map _).nodup_iff.mpr R.Bg
   .erw[JG,Do]at nn |-;obtain⟨a1,a2,HM⟩:=List.nodup_append.mp nn;exact List.nodup_append.mpr ⟨a1,(List.nodup_cons.mp a2).2,λu BQ v CG=>HM u BQ v (Gw _ CG)⟩
   .refine R.Hw y ?_;rw[es];rcases List.mem_append.mp AX with AX|AX<;>simp[AX]
   .rw[es]at le;erw[F1,Dn,Fg]at le |-;lia
   .have:=R.pr y (fY.mem_iff.mp AX);show⇑y.pre<=S.Cf+1;lia
def ac3(R:E_ C h S){x y w:W}{h':A5}(e:TD [.ref C.r,x,y] h=.ok (w,h')):K5 [.ref C.r,.tup [.str (AL "come"),x,y]] h=.ok (w,h'):=by have CZ:Dz "tuple" (.tup [.str (AL "come"),x,y]) h=.ok Ty:=rfl;have Fk:Dz "str" (.str (AL "come")) h=.ok Ty:=rfl;have Fd:CO "Run" "come" 2 TD π (J (A1 AB ω ζ) (J (A1 AB ω Γ) A2)) [ι,↥(.tup [.str (AL "come"),x,y])] h=.ok (w,h'):=M6 (us:=[x,y]) rfl R.Ao rfl (by simp[JS,V1]) rfl e;simp[K5,So,CZ,Fk,Pz,Hd,Fd]
def ac4(R:E_ C h S){x w:W}{h':A5}(e:TF [.ref C.r,x] h=.ok (w,h')):K5 [.ref C.r,.tup [.str (AL "go"),x]] h=.ok (w,h'):=by have CZ:Dz "tuple" (.tup [.str (AL "go"),x]) h=.ok Ty:=rfl;have Fk:Dz "str" (.str (AL "go")) h=.ok Ty:=rfl;have Fd:CO "Run" "go" 1 TF π (J (A1 AB ω ζ) A2) [ι,↥(.tup [.str (AL "go"),x])] h=.ok (w,h'):=M6 (us:=[x]) rfl R.Ao rfl (by simp[JS]) rfl e;have q:(AL "go"==AL "come")=false:=rfl;simp[K5,So,CZ,Fk,Pz,Hd,q,Fd]
end
def Vj{ws:↑W}(k:Nat)(AN:k<=⇑ws):HO ws none ↥(k:Int)=ws.take k:=by unfold HO;rw[EQ.bE,EQ.Tj];simp[hE AN]
def hv{ws:↑W}(k:Nat)(AN:k<=⇑ws):HO ws ↥(k:Int) none=ws.drop k:=by unfold HO;rw[EQ.bE,EQ.Tj,hE AN];rw[XF γ]
def QP{h:A5}{n:Nat}{ws:↑W}(e:h[n]?=↥⟨.lst,ws⟩)(l:⇑ws<=1000)(lo hi:Option Int)(ρ:B5):MS ST lo hi ρ h=.ok (.ref ⇑h,h++[⟨.lst,HO ws lo hi⟩]):=by unfold MS;rw[Gs h e];dsimp only;exact Hj h (by have:=hx ws lo hi;unfold B1;lia)
def gG{ρ:B5}{i:Nat}{k:Int}(h:A5)(e:ρ[i]?=↥↥(.int k)):CP (I i) ρ h=.ok (↥k,h):=by unfold CP;rw[Hq,v_var,e];rfl
def kE{h:A5}{n i k:Nat}{ws:↑W}{w:W}{ρ:B5}{mw:BB}(AE:ρ[2]?=↥↥(.ref n))(El:ρ[i]?=↥↥(.int (k:Int)))(Az:h[n]?=↥⟨.lst,ws⟩)(l:⇑ws<=100)(AN:k<=⇑ws)(hw:∀h',mw ρ h'=.ok (w,h'))(Kf:Fe ws=true)(abm:DR w=true) :
  Bv (A1 addW (A1 addW (D9 ψ (pu none) (CP (I i))) (Bd (J mw A2))) (D9 ψ (CP (I i)) (pu none))) ρ h=.ok (.ref ⇑h,h++[⟨.lst,ws.take k++[w]++ws.drop k⟩]):=by
 have s1:D9 ψ (pu none) (CP (I i)) ρ h=.ok (.ref ⇑h,h++[⟨.lst,ws.take k⟩]):=by rw[MG,v_var,AE,Cj,A0,Be,A0,gG _ El,A0,QP Az δ,Vj k AN]
 have s2:Bd (J mw A2) ρ (h++[⟨.lst,ws.take k⟩])=.ok (.ref (⇑h+1),h++[⟨.lst,ws.take k⟩,⟨.lst,[w]⟩]):=by rw[LL,BD,hw,A0,Bx,A0,A0,Hj _ (by simp[B1])];simp
 have a1:=LF (h:=h++[⟨.lst,ws.take k⟩,⟨.lst,[w]⟩]) (i:=⇑h) (j:=⇑h+1) (a:=ws.take k) (b:=[w]) γ γ (by simp[B1];lia);obtain⟨H,Bt⟩:∃H:A5,H=h++[⟨.lst,ws.take k⟩,⟨.lst,[w]⟩]++[⟨.lst,ws.take k++[w]⟩]:=ο;rw[<-Bt]at a1;have Kb:⇑H=⇑h+3:=by rw[Bt];simp
 have n0:h<+: H:=by rw[Bt];exact FC (FN _ _) _
 have s3:D9 ψ (CP (I i)) (pu none) ρ H=.ok (.ref (⇑h+3),H++[⟨.lst,ws.drop k⟩]):=by rw[MG,v_var,AE,Cj,A0,gG _ El,A0,Be,A0,QP (GD n0 Az) δ,hv k AN,Kb]
 have h2:H[⇑h+2]?=↥⟨.lst,ws.take k++[w]⟩:=by rw[Bt,Dd,ND];rfl
 have a2:=LF (h:=H++[⟨.lst,ws.drop k⟩]) (i:=⇑h+2) (j:=⇑h+3) (a:=ws.take k++[w]) (b:=ws.drop k) (Bl H h2 _) (by rw[<-Kb];simp) (by simp[B1];lia);rw[Fv,BG,BG,s1,A0,s2,A0,a1,A0];have aav:⇑(h++[⟨.lst,ws.take k⟩,⟨.lst,[w]⟩]:A5)=⇑h+2:=γ
 rw[aav,s3,A0,a2,A0];have:⇑(H++[⟨.lst,ws.drop k⟩]:A5)=⇑h+4:=by rw[F1,Kb];rfl
 rw[this];refine J8 (ws:=ws.take k++[w]++ws.drop k) h _ (IW (FC (FC n0 _) _)) δ (by rw[<-this];simp) (K7.mpr λx AF=>?_);have Kf:=K7.mp Kf;erw[Gj,IC]at AF;rcases AF with(AF|rfl)|AF
 .exact Kf x (US AF)
 .exact abm
 .exact Kf x (X8 AF)
def vN{h:A5}{n i k:Nat}{ws:↑W}{ρ:B5}(AE:ρ[2]?=↥↥(.ref n))(El:ρ[i]?=↥↥(.int (k:Int)))(Az:h[n]?=↥⟨.lst,ws⟩)(l:⇑ws<=100)(AN:k<=⇑ws)(Kf:Fe ws=true) :
  Bv (A1 addW (D9 ψ (pu none) (CP (I i))) (D9 ψ (CP (A1 addW (I i) ζ)) (pu none))) ρ h=.ok (.ref ⇑h,h++[⟨.lst,ws.take k++ws.drop (k+1)⟩]):=by
 have s1:D9 ψ (pu none) (CP (I i)) ρ h=.ok (.ref ⇑h,h++[⟨.lst,ws.take k⟩]):=by rw[MG,v_var,AE,Cj,A0,Be,A0,gG _ El,A0,QP Az δ,Vj k AN]
 have KO:HO ws ↥((k:Int)+1) none=ws.drop (k+1):=by
  have:((k:Int)+1)=((k+1:Nat):Int):=δ
  rw[this];unfold HO;rw[EQ.bE,EQ.Tj];by_cases DI:k+1<=⇑ws
  .rw[hE DI,XF γ]
  .rw[Nat.min_eq_right δ,List.drop_length,List.drop_of_length_le δ];simp
 have s3:D9 ψ (CP (A1 addW (I i) ζ)) (pu none) ρ (h++[⟨.lst,ws.take k⟩])=.ok (.ref (⇑h+1),h++[⟨.lst,ws.take k⟩]++[⟨.lst,ws.drop (k+1)⟩]):=by
  have pp:CP (A1 addW (I i) ζ) ρ (h++[⟨.lst,ws.take k⟩])=.ok (↥((k:Int)+1),h++[⟨.lst,ws.take k⟩]):=by unfold CP;rw[Hq,BG,v_var,El,Cj,A0,Be,A0,NT,A0];rfl
  rw[MG,v_var,AE,Cj,A0,pp,A0,Be,A0,QP (Bl h Az _) δ,KO];simp
 have a2:=LF (h:=h++[⟨.lst,ws.take k⟩]++[⟨.lst,ws.drop (k+1)⟩]) (i:=⇑h) (j:=⇑h+1) (a:=ws.take k) (b:=ws.drop (k+1)) γ γ (by simp[B1];lia);rw[Fv,BG,s1,A0,s3,A0,a2,A0];refine J8 (ws:=ws.take k++ws.drop (k+1)) h _ (IW (FC (FC (FN _ _) _) _)) γ γ (K7.mpr λx AF=>?_);have Kf:=K7.mp Kf;rcases List.mem_append.mp AF with AF|AF
 .exact Kf x (US AF)
 .exact Kf x (X8 AF)
structure Kq(n:Nat)(ps:↑CH):Prop where
 k:∀p,↥p∈ps->p.1<3/\p.2<n
 Bg:(ps.filterMap id).Nodup
def Kq.perm{n:Nat}{ps En:↑CH}(h:Kq n ps)(p:En.Perm ps):Kq n En:=⟨λx AF=>h.k x (p.mem_iff.mp AF),(p.filterMap id).nodup_iff.mpr h.Bg⟩
def Kq.sub{n:Nat}{ps En:↑CH}(h:Kq n ps)(s:En.Sublist ps):Kq n En:=⟨λx AF=>h.k x (s.mem AF),h.Bg.sublist (s.filterMap id)⟩
def Kq.wait{n:Nat}{ps En:↑CH}(h:Kq n (ps++En)):Kq n (ps++[none]++En):=by
 refine⟨λx AF=>h.k x ?_,?_⟩
 .erw[Gj,IC]at AF |-;rcases AF with(AF|AF)|AF
  .exact .inl AF
  .cases AF
  .exact .inr AF
 .have:=h.Bg;simpa[sh]using this
def lB(ps:↑CH)(k:Nat)(s:CH):(ps.map Ψ).take k++[(Ak false) s]++(ps.map Ψ).drop k=(ps.take k++[s]++ps.drop k).map Ψ:=by simp[Ql,Xa]
def aaZ(ps:↑CH)(k:Nat):(ps.map Ψ).take k++(ps.map Ψ).drop (k+1)=(ps.take k++ps.drop (k+1)).map Ψ:=by simp[Ql,Xa]
noncomputable def Gr(c:Nat)(n:Nat):↑CH:=(C8 n).map λi=>↥(c,i)
def KF(c n:Nat):⇑(Gr c n)=n:=by simp[Gr]
def pP(c n:Nat):(Gr c n).map Ψ=(C8 n).map λi:Nat=>W.tup [.str (Ep c),.int (i:Int)]:=by simp[Gr,Ak,Ny]
def eW{c n:Nat}{t:Str}(I5:t=Ep c)(AZ:n<=6){ρ:B5}(h0:ρ[0]?=↥↥(.int (n:Int)))(h:A5):D8 1 [] (Ct Δ) (A6 0) (pu true) (As (J (pu (.str t)) Δ)) ρ h=.ok (.ref ⇑h,h++[⟨.lst,(Gr c n).map Ψ⟩]):=by rw[Vh (h:=h) 0 n (λi=>.tup [.str t,.int (i:Int)]) δ (Ir (n:=n) (by simp[h0]) δ) (λj Ac acc=>by simp[B1]),pP,I5]
def plain(n:Nat):↑CH:=Gr 0 n++Gr 1 n++[none]++Gr 2 n
def aeG{n:Nat}(AZ:n<=6)(h:A5):Rv [.int (n:Int)] h=.ok (.ref ⇑h,h++[⟨.lst,(plain n).map Ψ⟩]):=by
 obtain⟨A,KU⟩:∃A,A=(Gr 0 n).map Ψ:=ο;obtain⟨B,Lg⟩:∃B,B=(Gr 1 n).map Ψ:=ο;obtain⟨D,Pk⟩:∃D,D=(Gr 2 n).map Ψ:=ο;have Z_:⇑A=n:=by rw[KU,CE,KF]
 have T5:⇑B=n:=by rw[Lg,CE,KF]
 have abN:⇑D=n:=by rw[Pk,CE,KF]
 have lO:Fe A=true:=by rw[KU];exact GR _ _ K6
 have lP:Fe B=true:=by rw[Lg];exact GR _ _ K6
 have acA:Fe D=true:=by rw[Pk];exact GR _ _ K6
 have Pg:=λh=>eW (c:=0) (t:=AL "teach") rfl AZ (ρ:=[↥(.int (n:Int)),none]) rfl h;have Bm:=λh=>eW (c:=1) (t:=AL "turn") rfl AZ (ρ:=[↥(.int (n:Int)),none]) rfl h;rw[<-KU]at Pg;rw[<-Lg]at Bm;have a1:=LF (h:=h++[⟨.lst,A⟩]++[⟨.lst,B⟩]) (i:=⇑h) (j:=⇑h+1) (a:=A) (b:=B) γ γ (by simp[B1];lia);have s1:AR (Bv (A1 addW (D8 1 [] (Ct Δ) (A6 0) (pu true) (As (J (pu (.str (AL "teach"))) Δ))) (D8 1 [] (Ct Δ) (A6 0) (pu true) (As (J (pu (.str (AL "turn"))) Δ))))) (A6 1) [↥(.int (n:Int)),none] h=.ok (.AM [↥(.int (n:Int)),υ],h++[⟨.lst,A++B⟩]):=by
  have q:Bv (A1 addW (D8 1 [] (Ct Δ) (A6 0) (pu true) (As (J (pu (.str (AL "teach"))) Δ))) (D8 1 [] (Ct Δ) (A6 0) (pu true) (As (J (pu (.str (AL "turn"))) Δ)))) [↥(.int (n:Int)),none] h=.ok (.ref ⇑h,h++[⟨.lst,A++B⟩]):=by
   rw[Fv,BG,Pg,A0,Bm,A0];have:⇑(h++[⟨.lst,A⟩]:A5)=⇑h+1:=γ
   rw[this,a1,A0];exact J8 (ws:=A++B) h _ (IW (FC (FC (FN _ _) _) _)) γ γ (K7.mpr λx AF=>(List.mem_append.mp AF).elim (K7.mp lO x) (K7.mp lP x))
  rw[Cy,q];rfl
 obtain⟨H,Bt⟩:∃H:A5,H=h++[⟨.lst,A++B⟩]:=ο;have Kb:⇑H=⇑h+1:=by rw[Bt];simp
 have Tz:H[⇑h]?=↥⟨.lst,A++B⟩:=by rw[Bt];simp
 have G6:Bd (J (As (J (pu (.str (AL "wait"))) A2)) A2) [↥(.int (n:Int)),υ] H=.ok (.ref ⇑H,H++[⟨.lst,[(Ak false) none]⟩]):=rfl;have a2:=LF (h:=H++[⟨.lst,[(Ak false) none]⟩]) (i:=⇑h) (j:=⇑H) (a:=A++B) (b:=[(Ak false) none]) (Bl H Tz _) γ (by simp[B1];lia);obtain⟨G,Nl⟩:∃G:A5,G=H++[⟨.lst,[(Ak false) none]⟩]++[⟨.lst,A++B++[(Ak false) none]⟩]:=ο;rw[<-Nl]at a2;have V8:⇑G=⇑H+2:=by rw[Nl];simp
 have aiY:G[⇑H+1]?=↥⟨.lst,A++B++[(Ak false) none]⟩:=by rw[Nl,Dd,ND];rfl
 have Cc:=eW (c:=2) (t:=AL "forget") rfl AZ (ρ:=[↥(.int (n:Int)),υ]) rfl G;rw[<-Pk]at Cc;have HM:=LF (h:=G++[⟨.lst,D⟩]) (i:=⇑H+1) (j:=⇑G) (a:=A++B++[(Ak false) none]) (b:=D) (Bl G aiY _) γ (by simp[B1];lia);have s2:Bv (A1 addW (A1 addW ω (Bd (J (As (J (pu (.str (AL "wait"))) A2)) A2))) (D8 1 [] (Ct Δ) (A6 0) (pu true) (As (J (pu (.str (AL "forget"))) Δ)))) [↥(.int (n:Int)),υ] H=.ok (.ref ⇑H,H++[⟨.lst,A++B++[(Ak false) none]++D⟩]):=by
  rw[Fv,BG,BG,v_var];rw[show([↥(.int (n:Int)),υ]:B5)[1]?=↥↥(.ref ⇑h)from rfl,Cj,A0,G6,A0,a2,A0];have Cm:⇑(H++[⟨.lst,[(Ak false) none]⟩]:A5)=⇑H+1:=γ
  rw[Cm,Cc,A0,HM,A0];refine J8 (ws:=A++B++[(Ak false) none]++D) H _ (IW ?_) (by rw[F1,V8];lia) γ (K7.mpr λx AF=>?_)
  .rw[Nl];exact FC (FC (FC (FN _ _) _) _) _
  .erw[Gj,IC]at AF;rcases AF with((AF|AF)|rfl)|AF
   .exact K7.mp lO x AF
   .exact K7.mp lP x AF
   .exact K6 _
   .exact K7.mp acA x AF
 have e:Rv [.int (n:Int)] h=((Z8 [↥(.int (n:Int)),none] h).bind outF).bind λp=>settle h p.1 p.2:=rfl;rw[e];unfold Z8;rw[Am,s1,A0,Ax,<-Bt,FZ,s2,A0,A0,GT,A0];have BA:(plain n).map Ψ=A++B++[(Ak false) none]++D:=by rw[KU,Lg,Pk];simp[plain]
 rw[BA,Kb];exact J8 (ws:=A++B++[(Ak false) none]++D) h _ (IW (FC (by rw[Bt];exact FN _ _) _)) δ (by rw[<-Kb];simp) (by rw[<-BA];exact GR _ _ K6)
def fV(n:Nat):Kq n (plain n):=by
 refine⟨λp AT=>?_,?_⟩
 .erw[plain,Gr,Gj,XY,hH,IC]at AT;rcases AT with((⟨i,hi,e⟩|⟨i,hi,e⟩)|e)|⟨i,hi,e⟩
  .cases e;exact⟨γ,hi⟩
  .cases e;exact⟨γ,hi⟩
  .cases e
  .cases e;exact⟨γ,hi⟩
 .have Pn:∀c,(Gr c n).filterMap id=(C8 n).map λi=>(c,i):=λc=>by
    unfold Gr;rw[List.filterMap_map];induction C8 n with
    |nil=>rfl
    |cons x l C4=>simp[C4]
  have Bg:∀c:Nat,((C8 n).map λi=>(c,i)).Nodup:=λc=>by rw[gM,XU];exact List.nodup_range.imp λh z=>h (Prod.mk.inj z).2
  have e:(plain n).filterMap id=((C8 n).map λi=>(0,i))++((C8 n).map λi=>(1,i))++((C8 n).map λi=>(2,i)):=by erw[plain,sh,Pn];simp
  rw[e];refine List.nodup_append.mpr ⟨List.nodup_append.mpr ⟨Bg 0,Bg 1,λa AG b A4 z=>?_⟩,Bg 2,λa AG b A4 z=>?_⟩
  .obtain⟨i,_,rfl⟩:=List.mem_map.mp AG;obtain⟨j,_,rfl⟩:=List.mem_map.mp A4;cases z
  .obtain⟨j,_,rfl⟩:=List.mem_map.mp A4;rcases List.mem_append.mp AG with AG|AG
   .obtain⟨i,_,rfl⟩:=List.mem_map.mp AG;cases z
   .obtain⟨i,_,rfl⟩:=List.mem_map.mp AG;cases z
noncomputable def Ej(a n:Nat)(p:Nat)(s3 s4 s5 s6 s7:Option W):B5:=[↥(.ref a),↥(.int (n:Int)),↥(.ref p),s3,s4,s5,s6,s7]
def fJ:Af:=BZ (F9 (AV (A1 Ξ (A1 BR Tm (pu (.int 5))) η)) (AV (A1 NL (B6 BO Fr) (pu (.int 30))))) (AR (Bv (A1 addW (A1 addW (D9 ψ (pu none) (CP (I 5))) (Bd (J (As (J (pu (.str (AL "wait"))) A2)) A2))) (D9 ψ (CP (I 5)) (pu none)))) (A6 2)) B_
def fK:Af:=BZ (AV (A1 Ξ (A1 BR Tm (pu (.int 5))) ζ)) (AR (Bv (A1 addW (D9 ψ (pu none) (CP (I 5))) (D9 ψ (CP (A1 addW (I 5) ζ)) (pu none)))) (A6 2)) B_
def my:Af:=AK (AR (DQ JY ψ (J (A1 BR (I 5) (B6 BO Fr)) A2)) (A6 6))
    (AK (AR (A1 BR (A1 Cg Tm (pu (.int 200))) (A1 addW (B6 BO Fr) ζ)) (A6 7))
    (AR (Bv (A1 addW (A1 addW (D9 ψ (pu none) (CP (I 7))) (Bd (J (I 6) A2))) (D9 ψ (CP (I 7)) (pu none)))) (A6 2)))
def fL:Af:=BZ (HS (F9 (AV (A1 KW (A1 BR Tm (pu (.int 5))) Γ)) (AV (A1 (Ay false) ψ (Bd A2))))) my B_
def fU:Af:=AK (AR (Ae 2 EW (J Θ (J (pu (.int 5)) A2))) (A6 4))
    (AK (AR (A1 BR (A1 Cg Tm (pu (.int 5))) (A1 addW (B6 BO Fr) ζ)) (A6 5))
    (AK fJ (AK fK fL)))
structure Ly(h:A5)(n p:Nat)(ps:↑CH)(H:A5):Prop where
 pr:h<+: H
 B2:⇑h<=p
 e:H[p]?=↥⟨.lst,ps.map Ψ⟩
 i:Kq n ps
def afI{h:A5}{n:Nat}{ps:↑CH}(e:h[n]?=↥⟨.lst,ps.map Ψ⟩):CI 8 h ST=↥(.Ci false (ps.map Gu)):=by erw[CI,Gs h e];rw[mapM_some (CI 7 h) Ψ Gu (λs=>bA 5 h s) ps];rfl
def ne_nil{h:A5}{n m:Nat}{ps:↑CH}(e:h[n]?=↥⟨.lst,ps.map Ψ⟩)(Bi:h[m]?=↥⟨.lst,[]⟩):Ay false ST (.ref m) h=.ok (.AO (!ps.isEmpty),h):=by unfold Ay;rw[afI e,eo (l:=[]) 7 Bi];cases ps<;>simp[eqT,Gg]
section
variable{h H:A5}{a n p:Nat}{ps:↑CH}{y:Int}{k:Nat}{s3 s6 s7:Option W}
def Ly.new{En:↑CH}{H1:A5}(x:Ly h n p ps H1)(q:Kq n En):Ly h n ⇑H1 En (H1++[⟨.lst,En.map Ψ⟩]):=⟨FC x.pr _,x.pr.length_le,γ,q⟩
def tn(x:Ly h n p ps H)(l:⇑ps<=30)(AN:k<=⇑ps):∃En Dv A9,fJ (Ej a n p s3 ↥(.int y) ↥(.int (k:Int)) s6 s7) H=.ok (.AM (Ej a n Dv s3 ↥(.int y) ↥(.int (k:Int)) s6 s7),A9)/\Ly h n Dv En A9/\ ⇑ps<=⇑En/\ ⇑En<=⇑ps+1/\ ⇑En<=30:=by
 unfold fJ;have lw:BO [.ref p] H=.ok (.int ⇑ps,H):=by rw[Gh x.e,CE]
 have t:F9 (AV (A1 Ξ (A1 BR Tm (pu (.int 5))) η)) (AV (A1 NL (B6 BO Fr) (pu (.int 30)))) (Ej a n p s3 ↥(.int y) ↥(.int (k:Int)) s6 s7) H=.ok (decide (y%5=0)&&decide ((⇑ps:Int)<30),H):=by
  by_cases EH:y%5=0
  .simp[Ej,EH,lw]
  .simp[Ej,EH]
 rw[Cz,t,A0];by_cases A4:(decide (y%5=0)&&decide ((⇑ps:Int)<30))=true
 .rw[if_pos A4];have Py:⇑ps<30:=by
   have:=(ID .. ▸A4:_/\_).2;have:=of_decide_eq_true this;lia
  have im:=kE (i:=5) (k:=k) (w:=(Ak false) none) (ρ:=Ej a n p s3 ↥(.int y) ↥(.int (k:Int)) s6 s7) (mw:=As (J (pu (.str (AL "wait"))) A2)) rfl rfl x.e (by simp;lia) (AN:) (λh'=>rfl) (GR _ _ K6) (K6 _);rw[lB]at im;have q:Kq n (ps.take k++[none]++ps.drop k):=Kq.wait (by rw[PL];exact x.i);refine⟨_,⇑H,_,?_,x.new q,by simp;lia,by simp;lia,by simp;lia⟩;rw[Cy,im];rfl
 .rw[if_neg A4];exact⟨ps,p,H,rfl,x,C5 _,δ,l⟩
def tp(x:Ly h n p ps H)(l:⇑ps<=30)(AN:k<=⇑ps):∃En Dv A9,fK (Ej a n p s3 ↥(.int y) ↥(.int (k:Int)) s6 s7) H=.ok (.AM (Ej a n Dv s3 ↥(.int y) ↥(.int (k:Int)) s6 s7),A9)/\Ly h n Dv En A9/\ ⇑En<=⇑ps:=by
 unfold fK;have t:AV (A1 Ξ (A1 BR Tm (pu (.int 5))) ζ) (Ej a n p s3 ↥(.int y) ↥(.int (k:Int)) s6 s7) H=.ok (decide (y%5=1),H):=by simp[Ej]
 rw[Cz,t,A0];by_cases A4:decide (y%5=1)=true
 .rw[if_pos A4];have im:=vN (i:=5) (k:=k) (ρ:=Ej a n p s3 ↥(.int y) ↥(.int (k:Int)) s6 s7) rfl rfl x.e (by simp;lia) (AN:) (GR _ _ K6);rw[aaZ]at im;have HT:(ps.take k++ps.drop (k+1)).Sublist ps:=by
   have:(ps.take k++ps.drop (k+1)).Sublist (ps.take k++ps.drop k):=(List.Sublist.refl _).append (by rw[<-List.drop_drop];exact List.drop_sublist _ _)
   rwa [PL]at this
  refine⟨_,⇑H,_,?_,x.new (x.i.sub HT),HT.length_le⟩;rw[Cy,im];rfl
 .rw[if_neg A4];exact⟨ps,p,H,rfl,x,C5 _⟩
def tq(x:Ly h n p ps H)(l:⇑ps<=30):∃En Dv A9 Ey HV,fL (Ej a n p s3 ↥(.int y) ↥(.int (k:Int)) s6 s7) H=.ok (.AM (Ej a n Dv s3 ↥(.int y) ↥(.int (k:Int)) Ey HV),A9)/\Ly h n Dv En A9/\ ⇑En=⇑ps:=by
 unfold fL;have ef:Ay false (.ref p) (.ref ⇑H) (H++[⟨.lst,[]⟩])=.ok (.AO (!ps.isEmpty),H++[⟨.lst,[]⟩]):=ne_nil (Bl H x.e _) γ;have t:HS (F9 (AV (A1 KW (A1 BR Tm (pu (.int 5))) Γ)) (AV (A1 (Ay false) ψ (Bd A2)))) (Ej a n p s3 ↥(.int y) ↥(.int (k:Int)) s6 s7) H=.ok (decide (2<y%5)&&!ps.isEmpty,H):=by
  by_cases EH:2<y%5
  .simp[Ej,EH,nw,ef]
  .simp[Ej,EH]
 rw[Cz,t,A0];by_cases A4:(decide (2<y%5)&&!ps.isEmpty)=true
 .rw[if_pos A4];have ne:0< ⇑ps:=by
   have:=(ID .. ▸A4:_/\_).2;cases ps with
   |nil=>cases this
   |cons _ _=>simp
  obtain⟨j,Ac,Ed⟩:=JX (k:Int) (n:=⇑ps) ne;have lw:BO [.ref p] H=.ok (.int ⇑ps,H):=by rw[Gh x.e,CE]
  have Hy:(0:Int)<(⇑ps:Int):=δ
  obtain⟨H1,AA⟩:∃H1:A5,H1=H.set p ⟨.lst,(ps.eraseIdx j).map Ψ⟩:=⟨_,rfl⟩;have s1:AR (DQ JY ψ (J (A1 BR (I 5) (B6 BO Fr)) A2)) (A6 6) (Ej a n p s3 ↥(.int y) ↥(.int (k:Int)) s6 s7) H=.ok (.AM (Ej a n p s3 ↥(.int y) ↥(.int (k:Int)) ↥((Ak false) ps[j]) s7),H1):=by
   have q:DQ JY ψ (J (A1 BR (I 5) (B6 BO Fr)) A2) (Ej a n p s3 ↥(.int y) ↥(.int (k:Int)) s6 s7) H=.ok ((Ak false) ps[j],H1):=by
    rw[AA];refine JV (ws:=ps.map Ψ) (ws2:=ps.map Ψ) (us:=[.int (j:Int)]) (h1:=H) (h2:=H) rfl x.e ?_ x.e ?_ (by simp[B1];have:=List.length_eraseIdx_le ps j;lia)
    .erw[Ej,BD,BG,G5,Bx,v_var,Dm,EX,Cj,A0,lw,Kg,if_pos Hy,Ed]
    .rw[fW (Ac:) (by simp;lia)];simp[Ye]
   rw[Cy,q];rfl
  have Ff:H1[p]?=↥⟨.lst,(ps.eraseIdx j).map Ψ⟩:=by rw[AA];exact KD x.e
  have le:⇑(ps.eraseIdx j)=⇑ps-1:=gN Ac;have aau:BO [.ref p] H1=.ok (.int ⇑(ps.eraseIdx j),H1):=by rw[Gh Ff,CE]
  obtain⟨i,hi,El⟩:=JX (y/200) (n:=⇑(ps.eraseIdx j)+1) δ;have El:y/200%((⇑(ps.eraseIdx j):Int)+1)=(i:Int):=by rw[<-El];simp
  have Em:(0:Int)<(⇑(ps.eraseIdx j):Int)+1:=δ
  have s2:AR (A1 BR (A1 Cg Tm (pu (.int 200))) (A1 addW (B6 BO Fr) ζ)) (A6 7) (Ej a n p s3 ↥(.int y) ↥(.int (k:Int)) ↥((Ak false) ps[j]) s7) H1=.ok (.AM (Ej a n p s3 ↥(.int y) ↥(.int (k:Int)) ↥((Ak false) ps[j]) ↥(.int (i:Int))),H1):=by erw[Ej,Cy,BG,G5,BD,Bx,v_var,Be,Dm,EX,Cj,A0,Mp,if_pos (show(0:Int)<200/\(200:Int)<1073741824 by decide),aau,NT,Kg,if_pos Em,El];rfl
  have im:=kE (i:=7) (k:=i) (w:=(Ak false) ps[j]) (ρ:=Ej a n p s3 ↥(.int y) ↥(.int (k:Int)) ↥((Ak false) ps[j]) ↥(.int (i:Int))) (mw:=I 6) rfl rfl Ff (by rw[CE];lia) (by rw[CE];lia) (λh'=>rfl) (GR _ _ K6) (K6 _);rw[lB]at im;have pm:((ps.eraseIdx j).take i++[ps[j]]++(ps.eraseIdx j).drop i).Perm ps:=by
   have q1:((ps.eraseIdx j).take i++[ps[j]]++(ps.eraseIdx j).drop i).Perm (ps[j]::ps.eraseIdx j):=by
    rw[Dd,gU];have:=List.perm_middle (a:=ps[j]) (l₁:=(ps.eraseIdx j).take i) (l₂:=(ps.eraseIdx j).drop i)
    rwa [PL]at this
   exact q1.trans (Yf ps j Ac)
  have Cn:Ly h n p (ps.eraseIdx j) H1:=⟨by rw[AA];exact WH x.pr x.B2 _,x.B2,Ff,x.i.sub (List.eraseIdx_sublist ps j)⟩;refine⟨_,⇑H1,_,↥((Ak false) ps[j]),↥(.int (i:Int)),?_,Cn.new (x.i.perm pm),pm.length_eq⟩;unfold my;rw[Am,s1,A0,Ax,Am,s2,A0,Ax,Cy,im];rfl
 .rw[if_neg A4];exact⟨ps,p,H,s6,s7,rfl,x,rfl⟩
end
def LQ{h h1:A5}{k:Nat}{mf:Bk}{ma:E6}{ρ:B5}{us:↑W}{r:R (W×A5)}(BJ:ma ρ h=.ok (us,h1))(l:⇑us=k)(Ao:mf us h1=r):Ae k mf ma ρ h=r:=by rw[GZ,BJ,A0,if_pos l,Ao]
def aeL{l:↑Int}(AH:⇑l<=10){n:Nat}(AZ:n<=6){h:A5}{a:Nat}(BJ:h[a]?=↥⟨.lst,BK l⟩):∃ps,LA n ps/\ ⇑ps<=30/\Rw [.ref a,.int (n:Int)] h=.ok (.ref ⇑h,h++[⟨.lst,ps.map Ψ⟩]):=by
 have pm:=aeG AZ h;have lg:⇑(plain n)=3*n+1:=by simp[plain,KF];lia
 have B2:=P1 (mi:=Ca π) (it:=FG (.ref a)) (g:=A6 3) (b:=fU) (ρ:=Ej a n ⇑h none none none none none) (h:=h++[⟨.lst,(plain n).map Ψ⟩]) (h0:=h++[⟨.lst,(plain n).map Ψ⟩]) (BK l) (by simp[BK];lia)
  (λj ρ H=>∃ps p s3 s4 s5 s6 s7,ρ=Ej a n p s3 s4 s5 s6 s7/\Ly h n p ps H/\ ⇑ps<=30)
  (T:=λf H=>∃ps p s3 s4 s5 s6 s7,f=.AM (Ej a n p s3 s4 s5 s6 s7)/\Ly h n p ps H/\ ⇑ps<=30)
  (IT (Bl h BJ _) rfl) (λj ρ H _ q=>by obtain⟨ps,p,_,_,_,_,_,_,x,_⟩:=q;exact K3 (GD x.pr BJ) j)
  ⟨plain n,⇑h,none,none,none,none,none,rfl,⟨FN _ _,C5 _,γ,fV n⟩,δ⟩ ?_ ?_
 .obtain⟨f,H,CC,ps,p,s3,s4,s5,s6,s7,rfl,x,Py⟩:=B2.FW;refine⟨ps,⟨δ,x.i.k,x.i.Bg⟩,Py,?_⟩;have e:Rw [.ref a,.int (n:Int)] h=((AK (AR (Ae 1 Rv Ω) (A6 2)) (AK (DZ (Ca π) (A6 3) fU) (At ψ)) [↥(.ref a),↥(.int (n:Int)),none,none,none,none,none,none] h).bind outF).bind λp=>settle h p.1 p.2:=rfl;have s1:AR (Ae 1 Rv Ω) (A6 2) [↥(.ref a),↥(.int (n:Int)),none,none,none,none,none,none] h=.ok (.AM (Ej a n ⇑h none none none none none),h++[⟨.lst,(plain n).map Ψ⟩]):=by
   have q:Ae 1 Rv Ω [↥(.ref a),↥(.int (n:Int)),none,none,none,none,none,none] h=.ok (.ref ⇑h,h++[⟨.lst,(plain n).map Ψ⟩]):=LQ (us:=[.int (n:Int)]) (h1:=h) rfl rfl pm;rw[Cy,q];rfl
  rw[e,Am,s1,A0,Ax,Am,I3,CC,A0,Ax,FZ,v_var,show(Ej a n p s3 s4 s5 s6 s7)[2]?=↥↥(.ref p)from rfl,Cj,A0,A0,GT,A0];exact J8 h H (IW x.pr) x.B2 x.e (GR _ _ K6)
 .rintro j w _ H C2 ⟨ps,p,s3,s4,s5,s6,s7,rfl,x,Py⟩;erw[BK,Da]at C2;cases ec:l[j]? with
  |none=>rw[ec]at C2;cases C2
  |some c=>
   rw[ec]at C2;cases C2;refine⟨Ej a n p ↥(.int c) s4 s5 s6 s7,H,rfl,?_⟩;obtain⟨y,DY⟩:=NQ c 5 δ;have DY:∀h,EW [.int c,.int 5] h=.ok (.int y,h):=DY;have q1:AR (Ae 2 EW (J Θ (J (pu (.int 5)) A2))) (A6 4) (Ej a n p ↥(.int c) s4 s5 s6 s7) H=.ok (.AM (Ej a n p ↥(.int c) ↥(.int y) s5 s6 s7),H):=by simp[Ej,DY]
   have lw:BO [.ref p] H=.ok (.int ⇑ps,H):=by rw[Gh x.e,CE]
   obtain⟨k,AN,DH⟩:=JX (y/5) (n:=⇑ps+1) δ;have DH:y/5%((⇑ps:Int)+1)=(k:Int):=by rw[<-DH];simp
   have Em:(0:Int)<(⇑ps:Int)+1:=δ
   have q2:AR (A1 BR (A1 Cg Tm (pu (.int 5))) (A1 addW (B6 BO Fr) ζ)) (A6 5) (Ej a n p ↥(.int c) ↥(.int y) s5 s6 s7) H=.ok (.AM (Ej a n p ↥(.int c) ↥(.int y) ↥(.int (k:Int)) s6 s7),H):=by erw[Ej,Cy,BG,G5,BD,Bx,v_var,Be,Dm,EX,Cj,A0,Mp,if_pos (show(0:Int)<5/\(5:Int)<1073741824 by decide),lw,NT,Kg,if_pos Em,DH];rfl
   obtain⟨En,Dv,A9,Bm,Cn,g1,g2,g3⟩:=tn (a:=a) (y:=y) (s3:=↥(.int c)) (s6:=s6) (s7:=s7) x Py (k:=k) δ;obtain⟨ajQ,DB,AU,Cc,CT,g4⟩:=tp (a:=a) (y:=y) (s3:=↥(.int c)) (s6:=s6) (s7:=s7) Cn g3 (k:=k) δ;obtain⟨adV,Gy,C1,Ey,HV,FF,EN,Lh⟩:=tq (a:=a) (y:=y) (k:=k) (s3:=↥(.int c)) (s6:=s6) (s7:=s7) CT δ;unfold fU;rw[Am,q1,A0,Ax,Am,q2,A0,Ax,Am,Bm,A0,Ax,Am,Cc,A0,Ax,FF];exact⟨_,_,rfl,adV,Gy,_,_,_,_,_,rfl,EN,δ⟩
 .rintro _ H ⟨ps,p,s3,s4,s5,s6,s7,rfl,x,Py⟩;exact⟨ps,p,s3,s4,s5,s6,s7,rfl,x,Py⟩
end E4
namespace BX
def pK{h:A5}{n:Nat}{o EL:O}(e:h[n]?=↥o)(g:A5):(h.set n EL++g).set n o=h++g:=by have AZ:n< ⇑h:=(List.getElem?_eq_some_iff.mp e).1;have Az:h[n]=o:=(List.getElem?_eq_some_iff.mp e).2;rw[sj _ _ (AZ:),List.set_set,<-Az,List.set_getElem_self]
def sz{m e:BB}{ρ:B5}{h:A5}{n:Nat}{ks:↑Key}{ws:↑W}(p:W->Bool)(AH:⇑ws<1000)(em:m ρ h=.ok (.ref n,h))(Az:h[n]?=↥⟨.B8 ks,ws⟩)(Dh:∀w∈ws,∀acc,e [↥w] (h.set n ⟨.Gn ks,ws⟩++[⟨.lst,acc⟩])=.ok (.AO (p w),h.set n ⟨.Gn ks,ws⟩++[⟨.lst,acc⟩])) :
  Bv (B6 (Io true) (J (T7 OM 1 [] m (A6 0) (pu true) e) A2)) ρ h=.ok (.AO (ws.all p),h):=by
 have AZ:n< ⇑h:=(List.getElem?_eq_some_iff.mp Az).1;obtain⟨H,Bt⟩:∃H:A5,H=h.set n ⟨.Gn ks,ws⟩:=⟨_,rfl⟩;rw[<-Bt]at Dh;have Kb:⇑H=⇑h:=by rw[Bt];simp
 have Tz:H[n]?=↥⟨.Gn ks,ws⟩:=by rw[Bt];exact Ku AZ
 have c:=Ox (mi:=pu (OM ks ws)) (it:=OM ks ws) (g:=A6 0) (t:=pu true) (e:=e) (ρ:=ρ) (h:=H) (h0:=H) (nl:=1) (caps:=[]) ws (λ_=>true) (λw=>.AO (p w)) (λρ=>∃s,ρ=[s]) AH rfl ⟨none,rfl⟩ (λj acc Ac=>by
   unfold OM;by_cases q:j=⇑ws
   .rw[if_pos q,JE δ]
   .rw[if_neg q,C7 δ];rfl) (by
   rintro w hw ρ acc ⟨s,rfl⟩;exact⟨[↥w],rfl,⟨_,rfl⟩,rfl,λ_=>Dh w hw acc⟩)
 rw[List.filter_eq_self.mpr (λ_ _=>rfl)]at c;have z:T7 OM 1 [] m (A6 0) (pu true) e ρ h=.ok (.ref ⇑h,h++[⟨.lst,ws.map λw=>.AO (p w)⟩]):=by unfold T7;rw[Hq,em,A0];erw[Az];rw[<-Bt,c];unfold qs;erw[GW (show n< ⇑H by lia),Tz];rw[Bt,pK Az];simp
 have q:E2 (h++[⟨.lst,ws.map λw=>W.AO (p w)⟩]) (.ref ⇑h)=↥(false,ws.map λw=>W.AO (p w)):=Gs _ γ;have adW:Io true [.ref ⇑h] (h++[⟨.lst,ws.map λw=>W.AO (p w)⟩])=.ok (.AO (ws.all p),h++[⟨.lst,ws.map λw=>W.AO (p w)⟩]):=by erw[Io,q,d6 p ws,if_true];rw[Ug];rfl
 rw[Fv,G5,BD,z,A0,Bx,A0,A0,adW,A0];exact Rb _ _ _ rfl
end BX
namespace E4
section
variable{C:G8}{h:A5}{S:FR}
structure RW(C:G8)(S:FR):Prop where
 le:⇑S.done<=⇑C.ps
 e:S.done=C.ps.take ⇑S.done
def az(R:E_ C h S):I9 [.ref C.r] h=.ok (.int (⇑S.done:Int),h):=by
 have fd:Av "Run" "done" (.ref C.r) h=.ok (.ref C.M,h):=Dy R.Ao rfl;have lw:BO [.ref C.M] h=.ok (.int ⇑S.done,h):=by rw[Gh R.BV,CE]
 simp[I9,bh,fd,lw]
def allM(S:FR):Bool:=S.lets.all λl=>l.m==1
noncomputable def Mn(C:G8)(S:FR):Bool:=if ⇑S.done=⇑C.ps then false else if(C.ps.getD ⇑S.done none).isSome then true else allM S
noncomputable def UA(h:A5):W->Bool
 |.ref n=>match h[n]? with
  |some ⟨.ins _ _,.int m::_⟩=>m==1
  |_=>false
 |_=>false
def NP{h h1:A5}{n:Nat}{c x:Str}{ns:↑Str}{ws:↑W}{mf:Bk}{o:BB}{ρ:B5}{r:BX.R (W×A5)}(Fc:o ρ h=.ok (.ref n,h))(e:h[n]?=↥⟨.ins c ns,ws⟩)(v:DL ns ws x=none)(Ao:mf [.ref n] h=r):CO c x 0 mf o A2 ρ h=r:=M6 (us:=[]) Fc e v rfl rfl Ao
def mE(c:GI C)(R:E_ C h S):h[C.pl]?=↥⟨.lst,C.ps.map Ψ⟩:=R.Bu _ _ c.pp (λz=>by cases z)
def mF(c:GI C)(R:E_ C h S){k:Nat}(AN:k< ⇑C.ps):AB (.ref C.pl) (.int (k:Int)) h=.ok ((Ak false) (C.ps.getD k none),h):=G2 (mE c R) (by rw[Da,C7 AN,EC,C7 AN];rfl)
def lD(c:GI C)(R:E_ C h S)(D:RW C S):TJ [.ref C.r] h=.ok (.AO (Mn C S),h):=by
 have BP:Av "Run" "plan" (.ref C.r) h=.ok (.ref C.pl,h):=Dy R.Ao rfl;have CK:Av "Run" "letters" (.ref C.r) h=.ok (.ref (C.M+1),h):=Dy R.Ao rfl;have lw:BO [.ref C.pl] h=.ok (.int ⇑C.ps,h):=by rw[Gh (mE c R),CE]
 have mp:CO "Run" "place" 0 I9 π A2 [ι] h=.ok (.int (⇑S.done:Int),h):=NP (h1:=h) rfl R.Ao rfl (az R);have le:=R.le;have few:=R.few;have vQ:=D.le;have al:=sz (m:=B3 (Av "Run" "letters") π) (e:=A1 Ξ (B3 (Av "Letter" "mark") π) ζ) (ρ:=[ι]) (UA h) (by rw[CE];lia) (by simp[CK]) R.el (by
  intro w hw acc;obtain⟨l,AH,rfl⟩:=List.mem_map.mp hw;have x:=R.lt l (Gx _ AH);have t1:=x.t1;have DO:=c.DO;obtain⟨H,Bt⟩:∃H:A5,H=h.set (C.M+1) ⟨.Gn (S.lets.map Hh),S.lets.map λl=>.ref l.B2⟩++[⟨.lst,acc⟩]:=ο;have z:H[l.B2]?=↥(Q0 l):=by rw[Bt];exact Bl _ (by rw[Gz δ];exact x.Fc) _
  rw[<-Bt];have P7:Av "Letter" "mark" (.ref l.B2) H=.ok (.int (l.m:Int),H):=Dy z rfl;have pm:UA h (.ref l.B2)=decide ((l.m:Int)=1):=by erw[UA,x.Fc,Q0];by_cases q:(l.m:Int)=1<;>simp[q]
  rw[pm];simp[P7])
 have BJ:(S.lets.map λl=>W.ref l.B2).all (UA h)=allM S:=by
  unfold allM;rw[Ug,Qo,SH,SH];refine forall_congr' λl=>⟨λq AH=>?_,λq AH=>?_⟩
  .have:=q AH;erw[MO,UA,(R.lt l (Gx _ AH)).Fc,Q0,beq_iff_eq]at this |-;lia
  .have:=q AH;erw[MO,UA,(R.lt l (Gx _ AH)).Fc,Q0,beq_iff_eq]at this |-;lia
 rw[BJ]at al;have t1:AV (A1 Ξ (CO "Run" "place" 0 I9 π A2) (B6 BO (J (B3 (Av "Run" "plan") π) A2))) [ι] h=.ok (decide (⇑S.done=⇑C.ps),h):=by
  rw[Eg,BG,mp,A0];erw[G5,BD,Bx,Gv,v_var,Dm,Cj,A0,BP,lw,e3,F7]
  congr 2
  exact decide_eq_decide.mpr δ
 have e:TJ [.ref C.r] h=((Xr [ι] h).bind outF).bind λp=>settle h p.1 p.2:=rfl;rw[e];unfold Xr Mn;rw[Am,Cz,t1,A0];by_cases hd:⇑S.done=⇑C.ps
 .rw[if_pos (decide_eq_true hd),if_pos hd,FZ,Be,A0,A0,Tk,A0,GT,A0];exact OI h _ rfl
 .rw[if_neg (hd:),if_neg hd,FD,A0,Ax];have E0:=mF c R (k:=⇑S.done) δ;have C_:AV (A1 (Ay false) (A1 AB (B3 (Av "Run" "plan") π) (CO "Run" "place" 0 I9 π A2)) (pu IQ)) [ι] h=.ok (Mf ((Ak false) (C.ps.getD ⇑S.done none)),h):=by
   rw[Eg,BG,BG,Gv,v_var];rw[show([ι]:B5)[0]?=↥ι from rfl,Cj,A0,BP,A0,mp,A0,E0,A0,Be,A0,ky,A0,F7]
  rw[Am,Cz,C_,A0];cases BA:C.ps.getD ⇑S.done none with
  |some q=>rw[if_pos (show Mf ((Ak false) ↥q)=true from rfl),if_pos (show(↥q).isSome=true from rfl),FZ,Be,A0,A0,Tk,A0,GT,A0];exact OI h _ rfl
  |none=>rw[if_neg (show¬Mf ((Ak false) none)=true by simp[Mf,Ak]),if_neg (show¬(none:Option (Nat×Nat)).isSome=true by simp),FD,A0,Ax,FZ,al,A0,A0,GT,A0];exact OI h _ rfl
def aeW(c:GI C)(R:E_ C h S)(D:RW C S)(hm:Mn C S=false):PW [.ref C.r] h=.exc "NoMove" h:=by have Fd:CO "Run" "may_step" 0 TJ π A2 [ι] h=.ok (.AO (Mn C S),h):=NP (h1:=h) rfl R.Ao rfl (lD c R D);rw[hm]at Fd;have e:PW [.ref C.r] h=(Sp [ι] h).bind outF:=rfl;rw[e];unfold Sp;rw[Am,Cz,v_not,Eg,Fd,A0,F7,A0,A0];rfl
def lC(D:RW C S)(hm:Mn C S=true):⇑S.done< ⇑C.ps:=by
 unfold Mn at hm;have:=D.le
 split at hm
 .cases hm
 .lia
noncomputable def MT(C:G8)(S:FR):FR:={ S with done:=S.done++[C.ps.getD ⇑S.done none] }
def aeV(D:RW C S)(DI:⇑S.done< ⇑C.ps):RW C (MT C S):=by refine⟨by simp[MT];lia,?_⟩;show S.done++[_]=C.ps.take ⇑(S.done++[_]);rw[F1,gc,gK DI,<-D.e,EC,C7 DI];rfl
def aeY(c:GI C)(R:E_ C h S)(D:RW C S)(hm:Mn C S=true):∃h',PW [.ref C.r] h=.ok ((Ak false) (C.ps.getD ⇑S.done none),h')/\E_ C h' (MT C S)/\ ⇑h'=⇑h/\∀n,n≠C.M->h'[n]?=h[n]?:=by
 have DI:=lC D hm;have V7:=c.P.l;have JZ:=c.JZ;have DO:=c.DO;have Fd:CO "Run" "may_step" 0 TJ π A2 [ι] h=.ok (.AO (Mn C S),h):=NP (h1:=h) rfl R.Ao rfl (lD c R D);rw[hm]at Fd;have BP:Av "Run" "plan" (.ref C.r) h=.ok (.ref C.pl,h):=Dy R.Ao rfl;have fd:Av "Run" "done" (.ref C.r) h=.ok (.ref C.M,h):=Dy R.Ao rfl;have mp:CO "Run" "place" 0 I9 π A2 [ι] h=.ok (.int (⇑S.done:Int),h):=NP (h1:=h) rfl R.Ao rfl (az R);obtain⟨s,es⟩:∃s,s=C.ps.getD ⇑S.done none:=ο;have E0:=mF c R DI;rw[<-es]at E0 |-;obtain⟨h',Gf⟩:∃h':A5,h'=h.set C.M ⟨.lst,(S.done++[s]).map Ψ⟩:=⟨_,rfl⟩;have ap:DQ DV (B3 (Av "Run" "done") π) (J (A1 AB (B3 (Av "Run" "plan") π) (CO "Run" "place" 0 I9 π A2)) A2) [ι] h=.ok (.non,h'):=by rw[Gf];refine JV (ws:=S.done.map Ψ) (ws2:=S.done.map Ψ) (us:=[(Ak false) s]) (h1:=h) (h2:=h) (by simp[fd]) R.BV ?_ R.BV (by simp[DV]) (by simp[B1];lia);rw[BD,BG,Gv,v_var,show([ι]:B5)[0]?=↥ι from rfl,Cj,A0,BP,A0,mp,A0,E0,A0];rfl
 have keep:∀n,n≠C.M->h'[n]?=h[n]?:=λn AZ=>by rw[Gf,Gz (λz=>AZ z.symm)]
 have Ya:h'[C.M]?=↥⟨.lst,(S.done++[s]).map Ψ⟩:=by rw[Gf];exact KD R.BV
 have Yd:h'[C.r]?=↥(Op C.nt C.b0 C.b1 C.pl C.M S.CV):=by rw[keep _ δ];exact R.Ao
 have xI:Av "Run" "done" (.ref C.r) h'=.ok (.ref C.M,h'):=Dy Yd rfl;have yz:AB (.ref C.M) (.int (-1)) h'=.ok ((Ak false) s,h'):=aE (us:=S.done.map Ψ) (by rw[Ya];simp);have q:=c.EU;refine⟨h',?_,?_,by rw[Gf];simp,keep⟩
 .have e:PW [.ref C.r] h=(Sp [ι] h).bind outF:=rfl;rw[e];unfold Sp;rw[Am,Cz,v_not,Eg,Fd,A0,F7,A0,A0,if_neg γ,FD,A0,Ax,Am,JD,ap,A0,A0,Ax,FZ,BG,Gv,v_var];rw[show([ι]:B5)[0]?=↥ι from rfl,Cj,A0,xI,A0,Gv,Be,A0];have Pc:Ke (.int 1) h'=.ok (.int (-1),h'):=rfl;rw[Pc,A0,yz,A0,A0,GT]
 .refine⟨λn o' k ne=>?_,Yd,by rw[Ya];simp[MT,es],by rw[keep _ δ];exact R.el,by rw[keep _ δ];exact R.Ge,λl AH=>?_,R.Bg,R.nn,R.Hw,λp AT=>?_,R.few,R.le,by rw[Gf];simpa using R.AH,R.pr⟩
  .rw[keep n (by have:=HN k;lia)];exact R.Bu n o' k ne
  .have x:=R.lt l AH;have:=x.t1;have:=x.C_;exact x.to (keep _ δ) (keep _ δ)
  .erw[MT,Gj,IC]at AT;rcases AT with AT|AT
   .exact R.Nh p AT
   .refine(c.P.k p ?_).1;rw[AT,EC,C7 DI];exact Hu _
def lI(R:E_ C h S){r:BX.R (W×A5)}(e:PW [.ref C.r] h=r)(BH:r=.exc "NoMove" h\/∃p,r=.ok p):K5 [.ref C.r,.tup [.str (AL "step")]] h=r:=by
 have CZ:Dz "tuple" (.tup [.str (AL "step")]) h=.ok Ty:=rfl;have Fk:Dz "str" (.str (AL "step")) h=.ok Ty:=rfl;have Fd:CO "Run" "step" 0 PW π A2 [ι,↥(.tup [.str (AL "step")])] h=r:=NP (h1:=h) rfl R.Ao rfl e;have q1:(AL "step"==AL "come")=false:=rfl;have q2:(AL "step"==AL "go")=false:=rfl;have Dk:Ay true (.tup [.str (AL "step")]) SW h=.ok Ty:=by simp[Ay,SW,CI,eqT,Gg]
 rcases BH with BH|⟨⟨w,h'⟩,BH⟩
 .rw[BH]at Fd |-;simp[K5,So,CZ,Fk,Pz,Hd,q1,q2,Dk,Fd]
 .rw[BH]at Fd |-;simp[K5,So,CZ,Fk,Pz,Hd,q1,q2,Dk,Fd]
end
section
variable{C:G8}{h h':A5}{S:FR}
def EA(l:Lt):AS:=l.pre.headD l.d
def z0{l:Lt}(h:l∈S.lets):l∈Cr S:=Gx _ h
def eJ{e:Lt×Tl}(h:e∈S.ended):e.1∈Cr S:=IF _ (List.mem_map.mpr ⟨e,h,rfl⟩)
def Ov(S:FR)(q:Nat)(d:AS)(a:Nat):FR:={ S with CV:=S.CV+1,lets:=S.lets++[Oj S q d a] }
def sx{q:Nat}{d:AS}{a:Nat}{y:Lt}:y∈Cr (Ov S q d a)↔y∈Cr S\/y=Oj S q d a:=by erw[Cr,Ov,Gj,IC];exact⟨λh=>by rcases h with(h|h)|h<;>simp[h],λh=>by rcases h with(h|h)|h<;>simp[h]⟩
def aeU{h h1:A5}{ws:↑W}(p:G3 h h1=true)(e:Fe ws=false):settle h (.tup ws) h1=.ok (.tup ws,h1):=by unfold BX.settle;erw[p,if_true,DR,e];rfl
def iv(S:FR)(Dw:↑Lt)(l:Lt)(BU:↑Lt)(t:Tl):(Hb S Dw l BU t).CV=S.CV:=by cases t<;>rfl
def iw(S:FR)(Dw:↑Lt)(l:Lt)(BU:↑Lt)(t:Tl):(Hb S Dw l BU t).Cf=S.Cf+1:=by cases t<;>rfl
def E_.to(c:GI C)(R:E_ C h S)(e:∀n,n< ⇑h->¬(C.M+3<=n/\n<C.T)->h'[n]?=h[n]?)(l:⇑h<=⇑h'):E_ C h' S:=by have EU:=c.EU;have JZ:=c.JZ;have DO:=c.DO;have AH:=R.AH;have g:∀{n:Nat}{o:O},h[n]?=↥o->¬(C.M+3<=n/\n<C.T)->h'[n]?=↥o:=λ{n o} a b=>(e n (HN a) b).trans a;refine⟨λn o' k ne=>g (R.Bu n o' k ne) (by have:=HN k;lia),g R.Ao δ,g R.BV δ,g R.el δ,g R.Ge δ,λy AX=>?_,R.Bg,R.nn,R.Hw,R.Nh,R.few,R.le,δ,R.pr⟩;have x:=R.lt y AX;have:=x.t1;have:=x.C_;exact⟨g x.Fc δ,g x.BV δ,x.m,x.a,x.d,x.t1,x.C_⟩
def Ow(d:AS)(a:Nat):W:=.tup [.str (AL "come"),AI d,.int (a:Int)]
noncomputable def P8(n:Nat):W:=.tup [.str (AL "go"),.int (n:Int)]
def r5:W:=.tup [.str (AL "step")]
end
end E4
namespace BX
def uz{H:A5}{a b:Nat}{us vs:↑W}{ds:↑Co}(SQ:Bool)(BJ:H[a]?=↥⟨.lst,us⟩)(BC:H[b]?=↥⟨.lst,vs⟩)(FJ:us.mapM (CI 7 H)=↥ds)(Bw:vs.mapM (CI 7 H)=↥ds)(ok:∀d∈ds,GB 7 d=true):Ay SQ (.ref a) (.ref b) H=.ok (.AO SQ,H):=by
 have q:∀(n:Nat)(ws:↑W),H[n]?=↥⟨.lst,ws⟩->ws.mapM (CI 7 H)=↥ds->CI 8 H ST=↥(.Ci false ds):=λn ws e r=>by show(match E2 H ST with|some (t,ws)=>(ws.mapM (CI 7 H)).map (Co.Ci t)|none=>none)=_;rw[Gs H e];erw[r,Nv]
 unfold Ay;rw[q a us BJ FJ,q b vs BC Bw];erw[cZ 8 (d:=.Ci false ds) (by simpa[GB]using ok)];cases SQ<;>rfl
theorem Zl{α β MH:Type}{f:α->β}{r:β->Option MH}{g:α->MH}:∀{L:↑α},(∀x∈L,r (f x)=↥(g x))->(L.map f).mapM r=↥(L.map g)
 |[],_=>rfl
 |x::L,h=>by rw[Do,Ud,h x γ,Zl λy AX=>h y (by simp[AX])];rfl
end BX
namespace E4
section
variable{C:G8}{h:A5}{S:FR}
noncomputable def Fu(l:Lt):W:=.tup [.int (l.n:Int),.int (l.m:Int),.int (l.a:Int),.int (l.d.1:Int),.int (l.d.2:Int)]
def acC(l:Lt):DR (Fu l)=true:=by simp[Fu]
def aa:Af:=(AK (AR (A1 AB (B3 (Av "Letter" "doors") Θ) (B3 Ke ζ)) (A6 4))
    (EV (DQ DV ω (J (As (J ψ (J (B3 (Av "Letter" "mark") Θ) (J (B3 (Av "Letter" "address") Θ) (J (A1 AB Tm η) (J (A1 AB Tm ζ) A2)))))) A2))))
def afj(c:GI C)(R:E_ C h S):PX [.ref C.r] h=.ok (.ref ⇑h,h++[⟨.lst,S.lets.map Fu⟩]):=by
 have EU:=c.EU;have JZ:=c.JZ;have DO:=c.DO;have AH:=R.AH;have few:=R.few;have le:=R.le;have Ee:⇑S.lets<1000:=δ
 obtain⟨q,eq⟩:∃q:O,q=⟨.Gn (S.lets.map Hh),S.lets.map λl=>.ref l.B2⟩:=⟨_,rfl⟩;obtain⟨G,Nl⟩:∃G:A5,G=h.set (C.M+1) q:=ο;have V8:⇑G=⇑h:=by rw[Nl];simp
 have s1:AR (Bd A2) (A6 1) [ι,none,none,none,none] h=.ok (.AM [ι,υ,none,none,none],h++[⟨.lst,[]⟩]):=by simp[nw,B1]
 have gl:B3 (Av "Run" "letters") π [ι,υ,none,none,none] (h++[⟨.lst,[]⟩])=.ok (.ref (C.M+1),h++[⟨.lst,[]⟩]):=by rw[Gv,v_var];exact Dy (Bl h R.Ao _) rfl
 have B2:=Yi (it:=T1 (S.lets.map Hh) (S.lets.map λl=>.ref l.B2)) (g:=EI [(A6 2),(A6 3)]) (b:=aa) ⇑S.lets (λj ρ H=>∃s2 s3 s4,j<=⇑S.lets/\ρ=[ι,υ,s2,s3,s4]/\H=G++[⟨.lst,(S.lets.take j).map Fu⟩]) (λCK H=>∃ρ,CK=.AM ρ/\ρ[1]?=↥↥(.ref ⇑h)/\H=G++[⟨.lst,S.lets.map Fu⟩]) (by
  rintro j ρ H ⟨s2,s3,s4,Ac,rfl,rfl⟩;by_cases e:j=⇑S.lets
  .subst e;exact .inl ⟨by simp[T1],_,rfl,rfl,by rw[gj]⟩
  .have DI:j< ⇑S.lets:=δ
   obtain⟨l,el⟩:∃l,l=S.lets[j]:=ο;have x:=R.lt l (z0 (by rw[el];exact Hu _));have old:∀(n:Nat) o,h[n]?=↥o->C.T<=n->∀a,(G++a)[n]?=↥o:=λn o e t a=>Bl G (by rw[Nl,Gz δ];exact e) a;refine .inr ⟨.tup [.int (l.n:Int),.ref l.B2],?_,DI,[ι,υ,↥(.int (l.n:Int)),↥(.ref l.B2),s4],_,rfl,?_⟩
   .unfold T1;rw[CE,if_neg e,Da,Da,C7 DI,<-el];rfl
   .have RJ:Av "Letter" "doors" (.ref l.B2) (G++[⟨.lst,(S.lets.take j).map Fu⟩])=.ok (.ref l.Eo,_):=Dy (old _ _ x.Fc x.t1 _) rfl;have P7:Av "Letter" "mark" (.ref l.B2) (G++[⟨.lst,(S.lets.take j).map Fu⟩])=.ok (.int (l.m:Int),_):=Dy (old _ _ x.Fc x.t1 _) rfl;have ga:Av "Letter" "address" (.ref l.B2) (G++[⟨.lst,(S.lets.take j).map Fu⟩])=.ok (.int (l.a:Int),_):=Dy (old _ _ x.Fc x.t1 _) rfl;have Hi:AB (.ref l.Eo) (.int (-1)) (G++[⟨.lst,(S.lets.take j).map Fu⟩])=.ok (AI l.d,_):=aE (us:=l.pre.map AI) (by rw[old _ _ x.BV x.C_];simp[JM]);have Pc:∀H,Ke (.int 1) H=.ok (.int (-1),H):=λ_=>rfl;unfold aa;have t:(S.lets.take (j+1)).map Fu=(S.lets.take j).map Fu++[Fu l]:=by rw[gv,C7 DI,<-el];simp
    have ap:DQ DV ω (J (As (J ψ (J (B3 (Av "Letter" "mark") Θ) (J (B3 (Av "Letter" "address") Θ) (J (A1 AB Tm η) (J (A1 AB Tm ζ) A2)))))) A2) [ι,υ,↥(.int (l.n:Int)),↥(.ref l.B2),↥(AI l.d)] (G++[⟨.lst,(S.lets.take j).map Fu⟩])=.ok (.non,G++[⟨.lst,(S.lets.take (j+1)).map Fu⟩]):=by
     rw[JV (n:=⇑h) (ws:=(S.lets.take j).map Fu) (ws2:=(S.lets.take j).map Fu) (us:=[Fu l]) (ws':=(S.lets.take j).map Fu++[Fu l]) (r:=.non) (h1:=G++[⟨.lst,(S.lets.take j).map Fu⟩]) (h2:=G++[⟨.lst,(S.lets.take j).map Fu⟩]) rfl (by rw[<-V8];simp) ?_ (by rw[<-V8];simp) (by simp[DV]) (by simp[B1];lia),t,<-V8]
     .simp
     .simp[P7,ga,AI,Hd,JS,B1,Fu,-Ql]
    rw[Am,Cy,BG,Gv,v_var,show[ι,υ,↥(.int (l.n:Int)),↥(.ref l.B2),s4][3]?=↥↥(.ref l.B2)from rfl,Cj,A0,RJ,A0,Gv,Be,A0,Pc,A0,Hi,A0,QV,if_pos γ,A0,Ax,JD];rw[show([ι,υ,↥(.int (l.n:Int)),↥(.ref l.B2),s4]:B5).set 4 ↥(AI l.d)=[ι,υ,↥(.int (l.n:Int)),↥(.ref l.B2),↥(AI l.d)]from rfl,ap,A0];exact⟨_,_,rfl,_,_,_,DI,rfl,rfl⟩) Js 0 [ι,υ,none,none,none] (G++[⟨.lst,[]⟩]) ⟨_,_,_,IB _,rfl,rfl⟩ (by unfold Js;lia)
 obtain⟨_,_,Go,ρ,rfl,BY,rfl⟩:=B2;have hz:(G++[(⟨.lst,S.lets.map Fu⟩:O)])[C.M+1]?=↥q:=Bl G (by rw[Nl];exact KD R.el) _;have s2:WW (B3 (Av "Run" "letters") π) (EI [(A6 2),(A6 3)]) aa [ι,υ,none,none,none] (h++[⟨.lst,[]⟩])=.ok (.AM ρ,h++[⟨.lst,S.lets.map Fu⟩]):=by unfold WW Rk Zg;rw[Hq,gl,A0];erw[Bl h R.el];rw[sj _ _ (HN R.el),<-eq,<-Nl,Go];unfold qt;erw[hz,eq];rw[Nl,pK R.el];rfl
 have e:PX [.ref C.r] h=((Xt [ι,none,none,none,none] h).bind outF).bind λp=>settle h p.1 p.2:=rfl;rw[e];rw[show Xt=AK (AR (Bd A2) (A6 1)) (AK (WW (B3 (Av "Run" "letters") π) (EI [(A6 2),(A6 3)]) aa) (At ω))from rfl,Am,s1,A0,Ax,Am,s2,A0,Ax,FZ,v_var,BY,Cj,A0,A0,GT,A0];exact MC h _ rfl (GR _ _ acC)
end
section
variable{C:G8}{h:A5}{S:FR}
def I7(q:Nat)(e:Lt×Tl):W:=.tup [.int (e.1.n:Int),.int (e.1.m:Int),AI (EA e.1),.int (e.1.a:Int),.ref q,DJ e.2]
def JT:Nat->↑(Lt×Tl)->↑W
 |_,[]=>[]
 |q,e::r=>I7 q e::JT (q+1) r
theorem kO(x:Lt×Tl):∀(L:↑(Lt×Tl))(q:Nat),JT q (L++[x])=JT q L++[I7 (q+⇑L) x]
 |[],q=>rfl
 |e::r,q=>by rw[Ht,JT,kO x r,Dn,show q+1+⇑r=q+(⇑r+1)by lia];rfl
theorem eO:∀(L:↑(Lt×Tl))(q:Nat),⇑(JT q L)=⇑L
 |[],_=>rfl
 |_::r,q=>by rw[JT,Dn,eO r,Dn]
def T3:Af:=EV (DQ DV ω (J (Bv (As (J ψ (J (B3 (Av "Letter" "mark") Θ) (J (A1 AB (B3 (Av "Letter" "doors") Θ) η) (J (B3 (Av "Letter" "address") Θ) (J (B6 Fp (J (B3 (Av "Letter" "doors") Θ) A2)) (J Tm A2)))))))) A2))
def K0(h:A5)(E:↑(Lt×Tl)):A5:=h++(⟨.lst,JT (⇑h+1) E⟩::E.map λe=>JM e.1)
def aaF(c:GI C)(R:E_ C h S)(hm:S.Cf<900000):Rm [.ref C.r] h=.ok (.ref ⇑h,K0 h S.ended):=by
 have few:=R.few;have le:=R.le
 have B2:=P1 (mi:=Ca (B3 (Av "Run" "ended") π)) (it:=FG (.ref (C.M+2))) (g:=EI [(A6 2),(A6 3),(A6 4)]) (b:=T3) (ρ:=[ι,υ,none,none,none]) (h:=K0 h []) (h0:=K0 h []) (S.ended.map Nn) (by simp;lia)
  (λj ρ H=>∃s2 s3 s4,ρ=[ι,υ,s2,s3,s4]/\H=K0 h (S.ended.take j)) (T:=λCK H=>∃ρ,CK=.AM ρ/\ρ[1]?=↥↥(.ref ⇑h)/\H=K0 h S.ended) (IT (Bl h R.Ge _) (by rw[Gv,v_var];exact Dy (Bl h R.Ao _) rfl)) (λj ρ H _ q=>by obtain⟨_,_,_,rfl,rfl⟩:=q;exact K3 (Bl h R.Ge _) j) ⟨none,none,none,rfl,rfl⟩ (by
  rintro j w ρ H C2 ⟨s2,s3,s4,rfl,Bt⟩;have Ac:j< ⇑S.ended:=by have:=(List.getElem?_eq_some_iff.mp C2).1;simpa using this
  obtain⟨e,Ge⟩:∃e,e=S.ended[j]:=ο;obtain rfl:w=Nn e:=by rw[Da,C7 Ac,<-Ge]at C2;exact(Fy C2).symm
  have t:S.ended.take (j+1)=S.ended.take j++[e]:=by rw[gv,C7 Ac,<-Ge];rfl
  have lt:⇑(S.ended.take j)=j:=by rw[N0];lia
  obtain⟨E,Vo⟩:∃E,E=S.ended.take j:=ο;rw[<-Vo]at t lt Bt;have x:=R.lt e.1 (eJ (by rw[Ge];exact Hu _));have pr:=R.pr e.1 (eJ (by rw[Ge];exact Hu _));have Kb:⇑H=⇑h+1+j:=by rw[Bt];simp[K0,lt];lia
  have fg:H[e.1.B2]?=↥(Q0 e.1):=by rw[Bt];exact Bl h x.Fc _
  have Ri:H[e.1.Eo]?=↥(JM e.1):=by rw[Bt];exact Bl h x.BV _
  have Tz:H[⇑h]?=↥⟨.lst,JT (⇑h+1) E⟩:=by rw[Bt];simp[K0]
  have P7:Av "Letter" "mark" (.ref e.1.B2) H=.ok (.int (e.1.m:Int),H):=Dy fg rfl;have ga:Av "Letter" "address" (.ref e.1.B2) H=.ok (.int (e.1.a:Int),H):=Dy fg rfl;have RJ:Av "Letter" "doors" (.ref e.1.B2) H=.ok (.ref e.1.Eo,H):=Dy fg rfl;have adX:AB (.ref e.1.Eo) (.int 0) H=.ok (AI (EA e.1),H):=by refine G2 (k:=0) Ri ?_;cases BA:e.1.pre<;>simp[BA,EA]
  have JL:Fp [.ref e.1.Eo] H=.ok (.ref ⇑H,H++[JM e.1]):=WR (Gs _ Ri) (by simp[B1];lia);refine⟨[ι,υ,↥(.int (e.1.n:Int)),↥(.ref e.1.B2),↥(DJ e.2)],H,by simp[Nn],.AM [ι,υ,↥(.int (e.1.n:Int)),↥(.ref e.1.B2),↥(DJ e.2)],_,?_,⟨_,_,_,rfl,rfl⟩⟩;have agE:Bv (As (J ψ (J (B3 (Av "Letter" "mark") Θ) (J (A1 AB (B3 (Av "Letter" "doors") Θ) η) (J (B3 (Av "Letter" "address") Θ) (J (B6 Fp (J (B3 (Av "Letter" "doors") Θ) A2)) (J Tm A2))))))) [ι,υ,↥(.int (e.1.n:Int)),↥(.ref e.1.B2),↥(DJ e.2)] H=.ok (I7 ⇑H e,H++[JM e.1]):=by
   have z:As (J ψ (J (B3 (Av "Letter" "mark") Θ) (J (A1 AB (B3 (Av "Letter" "doors") Θ) η) (J (B3 (Av "Letter" "address") Θ) (J (B6 Fp (J (B3 (Av "Letter" "doors") Θ) A2)) (J Tm A2)))))) [ι,υ,↥(.int (e.1.n:Int)),↥(.ref e.1.B2),↥(DJ e.2)] H=.ok (I7 ⇑H e,H++[JM e.1]):=by simp[P7,ga,RJ,adX,JL,B1,I7]
   rw[Fv,z,A0];exact aeU (UI _ _) (by simp[Fe,DR])
  unfold T3;rw[JD,JV (n:=⇑h) (us:=[I7 ⇑H e]) (ws:=JT (⇑h+1) E) (ws2:=JT (⇑h+1) E) (ws':=JT (⇑h+1) E++[I7 ⇑H e]) (r:=.non) (h1:=H) (h2:=H++[JM e.1]) rfl Tz (by rw[BD,agE,A0,Bx];rfl) (Bl H Tz _) (by simp[DV]) (by simp[B1,eO];lia),A0,t,Kb];unfold K0;rw[kO,Bt,lt];simp[K0]) (by
  rintro ρ H ⟨s2,s3,s4,rfl,rfl⟩;exact⟨_,rfl,rfl,by rw[XF γ]⟩)
 obtain⟨_,_,Go,ρ,rfl,BY,rfl⟩:=B2.FW;have e:Rm [.ref C.r] h=(Xp [ι,none,none,none,none] h).bind outF:=rfl;have s1:AR (Bd A2) (A6 1) [ι,none,none,none,none] h=.ok (.AM [ι,υ,none,none,none],K0 h []):=by simp[nw,B1,K0,JT]
 rw[e,show Xp=AK (AR (Bd A2) (A6 1)) (AK (DZ (Ca (B3 (Av "Run" "ended") π)) (EI [(A6 2),(A6 3),(A6 4)]) T3) (At ω))from rfl,Am,s1,A0,Ax,Am,I3,Go,A0,Ax,FZ,v_var,BY,Cj,A0];rfl
def aaE(i:Nat)(e:Lt×Tl)(z:S.ended[i]?=↥e):(K0 h S.ended)[⇑h+1+i]?=↥(JM e.1):=by unfold K0;rw[show⇑h+1+i=⇑h+(1+i)by lia,ND,show 1+i=i+1 by lia,EX,Da,z];rfl
end
def iB{h:A5}{b:Nat}{B:↑↑Ce}(e:∀i,i< ⇑B+1->h[b+i]?=(IP b B)[i]?):D3 h b B:=by
 refine⟨(C8 ⇑B).map λi=>b+1+i,?_,γ,λi r Ao=>?_⟩
 .have:=e 0 δ;rw[Nat.add_zero]at this;rw[this];simp[IP,Iq,Ny]
 .rw[Da]at Ao;by_cases hi:i< ⇑B
  .rw[PN hi]at Ao;cases Ao;show h[b+1+i]?=_;rw[show b+1+i=b+(i+1)by lia,e (i+1) δ];simp[IP,EC,hi]
  .rw[JE (hi:)]at Ao;cases Ao
def D3.to{h h':A5}{b:Nat}{B:↑↑Ce}(x:D3 h b B)(e:∀n,n< ⇑h->h'[n]?=h[n]?):D3 h' b B:=by obtain⟨rs,AA,l,r⟩:=x.ex;exact⟨rs,(e _ (HN AA)).trans AA,l,λi q Aa=>(e _ (HN (r i q Aa))).trans (r i q Aa)⟩
section
variable{cs:↑Nat}{ws:ν}{A B:↑↑Ce}{ps:↑CH}(h:A5)
def NY(h:A5)(cs:↑Nat)(ws:ν)(A B:↑↑Ce)(ps:↑CH):A5:=h++(Op (⇑h+3) (⇑h+5) (⇑h+6+⇑A) (⇑h+7+⇑A+⇑B) (⇑h+8+⇑A+⇑B) 0::(Iu ⇑h cs ws A B ps++[⟨.lst,[]⟩,⟨.B8 [],[]⟩,⟨.lst,[]⟩]))
def adZ:⇑(NY h cs ws A B ps)=⇑h+8+⇑A+⇑B+3:=by unfold NY;rw[F1,Dn,F1,WJ];simp;lia
def ad_:(NY h cs ws A B ps)[⇑h]?=↥(Op (⇑h+3) (⇑h+5) (⇑h+6+⇑A) (⇑h+7+⇑A+⇑B) (⇑h+8+⇑A+⇑B) 0):=by unfold NY;simp
def ada{k:Nat}(AN:k< ⇑A+⇑B+7):(NY h cs ws A B ps)[⇑h+1+k]?=(Iu ⇑h cs ws A B ps)[k]?:=by unfold NY;rw[show⇑h+1+k=⇑h+(k+1)by lia,ND,EX,GW (by rw[WJ];exact AN)]
def adY(k:Nat):(NY h cs ws A B ps)[⇑h+8+⇑A+⇑B+k]?=([⟨.lst,[]⟩,⟨.B8 [],[]⟩,⟨.lst,[]⟩]:A5)[k]?:=by
 unfold NY;rw[show⇑h+8+⇑A+⇑B+k=⇑h+(⇑A+⇑B+7+k+1)by lia,ND,EX,Jp (by rw[WJ];lia),WJ]
 congr 1;lia
def afB:(Iu ⇑h cs ws A B ps)[2]?=↥(Mo cs ws (⇑h+4)):=by simp[Iu]
def afA:(Iu ⇑h cs ws A B ps)[3]?=↥(H_ ws):=by simp[Iu]
def af8{i:Nat}(hi:i< ⇑A+1):(Iu ⇑h cs ws A B ps)[4+i]?=(IP (⇑h+5) A)[i]?:=by
 unfold Iu;rw[GW (by simp[Nc];lia),GW (by simp[Nc];lia),Jp γ]
 congr 1;simp
def af9{i:Nat}(hi:i< ⇑B+1):(Iu ⇑h cs ws A B ps)[5+⇑A+i]?=(IP (⇑h+6+⇑A) B)[i]?:=by
 unfold Iu;rw[GW (by simp[Nc];lia),Jp (by simp[Nc];lia)]
 congr 1;simp[Nc];lia
def afC:(Iu ⇑h cs ws A B ps)[6+⇑A+⇑B]?=↥⟨.lst,ps.map Ψ⟩:=by
 unfold Iu;rw[Jp (by simp[Nc];lia)];have:6+⇑A+⇑B- ⇑([⟨.lst,Bq cs⟩,⟨.lst,ws.map CJ⟩,Mo cs ws (⇑h+4),H_ ws]++IP (⇑h+5) A++IP (⇑h+6+⇑A) B)=0:=by simp[Nc];lia
 rw[this];rfl
end
noncomputable def LX(G:A5)(M:Nat)(ds:↑Nat):A5:=(C8 M).map λn=>if n∈ds then KS else G.getD n KS
section
variable{G:A5}{M:Nat}{ds:↑Nat}
def jq:⇑(LX G M ds)=M:=by simp[LX]
def eP{n:Nat}(AZ:n<M):(LX G M ds)[n]?=↥(if n∈ds then KS else G.getD n KS):=by unfold LX;rw[Da,PN AZ];rfl
def jp{n:Nat}{o:O}(AZ:n<M)(Bg:n∉ds)(e:G[n]?=↥o):(LX G M ds)[n]?=↥o:=by rw[eP AZ,if_neg Bg,EC,e];rfl
def aaI{n:Nat}{o:O}(e:(LX G M ds)[n]?=↥o)(ne:o≠KS):n<M/\n∉ds/\G[n]?=↥o:=by
 have AZ:n<M:=by have:=HN e;rwa [jq]at this
 rw[eP AZ]at e;cases e
 split at ne
 .exact absurd rfl ne
 .rename_i Bg;refine⟨AZ,Bg,?_⟩;rw[if_neg Bg,EC]at*;cases q:G[n]? with
  |none=>rw[q]at ne;exact absurd rfl ne
  |some o=>rfl
def aaH{X:A5}(l:⇑X<=M)(Bg:∀d∈ds,⇑X<=d)(e:∀n,n< ⇑X->G[n]?=X[n]?):∀n,n< ⇑X->(LX G M ds)[n]?=X[n]?:=λn AZ=>by have q:=e n AZ;rw[C7 AZ]at q |-;exact jp δ (λz=>by have:=Bg n z;lia) q
end
noncomputable def dA(L:Nat)(cs:↑Nat)(ws:ν)(A B:↑↑Ce)(ps:↑CH)(T:Nat)(K:A5):G8:=
 ⟨cs,ws,A,B,ps,L,L+8+⇑A+⇑B,T,L+3,L+5,L+6+⇑A,L+7+⇑A+⇑B,K⟩
section
variable{h G:A5}{cs:↑Nat}{ws:ν}{A B:↑↑Ce}{ps:↑CH}{T:Nat}{ds:↑Nat}
def aaU(ex:∀n,⇑h<=n->n< ⇑h+8+⇑A+⇑B+3->G[n]?=(NY h cs ws A B ps)[n]?)(YY:⇑h∈ds)(dd:∀n∈ds,n<=⇑h)(DO:⇑h+8+⇑A+⇑B+3<=T)(wz:T<=⇑G)(N:Gk cs ws)(GC:F2 cs A)(Fs:F2 cs B)(P:LA ⇑cs ps) :
  GI (dA ⇑h cs ws A B ps T (LX G (⇑h+8+⇑A+⇑B) ds))/\E_ (dA ⇑h cs ws A B ps T (LX G (⇑h+8+⇑A+⇑B) ds)) G ⟨[],0,[],[],0⟩:=by
 obtain⟨K,Nm⟩:∃K,K=LX G (⇑h+8+⇑A+⇑B) ds:=ο;have Uv:∀{k:Nat},k< ⇑A+⇑B+7->K[⇑h+1+k]?=(Iu ⇑h cs ws A B ps)[k]?:=λ{k} AN=>by
  have q:=ex (⇑h+1+k) δ δ;rw[ada h AN]at q;have l:k< ⇑(Iu ⇑h cs ws A B ps):=by rw[WJ];exact AN
  rw[C7 l]at q |-;rw[Nm];exact jp δ (λz=>by have:=dd _ z;lia) q
 rw[<-Nm];constructor
 .refine⟨N,GC,Fs,P,⟨⇑h+4,?_,?_⟩,iB λi hi=>?_,iB λi hi=>?_,?_,?_,?_,DO⟩
  .have:=Uv (k:=2) δ;rw[afB]at this;exact this
  .have:=Uv (k:=3) δ;rw[afA]at this;exact this
  .have:=Uv (k:=4+i) (by have:i< ⇑A+1:=hi;lia);rw[af8 (A:=A) h hi,show⇑h+1+(4+i)=⇑h+5+i by lia]at this;exact this
  .have:=Uv (k:=5+⇑A+i) (by have:i< ⇑B+1:=hi;lia);rw[af9 (B:=B) h hi,show⇑h+1+(5+⇑A+i)=⇑h+6+⇑A+i by lia]at this;exact this
  .have:=Uv (k:=6+⇑A+⇑B) δ;rw[afC,show⇑h+1+(6+⇑A+⇑B)=⇑h+7+⇑A+⇑B by lia]at this;exact this
  .show K[⇑h]?=_;rw[Nm,eP δ,if_pos YY]
  .show⇑K<=⇑h+8+⇑A+⇑B;rw[Nm,jq];exact C5 _
 .have Cd:∀k,k<3->G[⇑h+8+⇑A+⇑B+k]?=([⟨.lst,[]⟩,⟨.B8 [],[]⟩,⟨.lst,[]⟩]:A5)[k]?:=λk AN=>(ex _ δ δ).trans (adY (cs:=cs) (ws:=ws) (A:=A) (B:=B) (ps:=ps) h k);refine⟨λn o k ne=>?_,?_,Cd 0 δ,Cd 1 δ,Cd 2 δ,(λ_ x=>by cases x),Qp,Qp,(λ_ x=>by cases x),(λ_ x=>by cases x),ε,ε,wz,(λ_ x=>by cases x)⟩
  .have k:K[n]?=↥o:=k;rw[Nm]at k;exact(aaI k ne).2.2
  .exact(ex _ (C5 _) δ).trans (ad_ h)
end
noncomputable def IM(ns:↑Int)(xs:↑Nat):B5:=↥(.Df (BK ns))::(xs.map (λx=>↥(.ref x))++GG (12- ⇑xs) none)
def aeK{ns:↑Int}{lo hi:Nat}(aim:lo<=hi)(aik:hi<=lo+10){cs:↑Nat}(Ph:⇑cs<=6){h:A5}{ρ:B5}(h0:ρ[0]?=↥↥(.Df (BK ns)))(h1:ρ[1]?=↥↥(.ref 0))(z:h[0]?=↥⟨.lst,Bq cs⟩) :
  ∃ps,LA ⇑cs ps/\ ⇑ps<=30/\Bv (Ae 2 Rw (J (Bv (D9 π (CP (pu (.int (lo:Int)))) (CP (pu (.int (hi:Int)))))) (J (B6 BO Ω) A2))) ρ h=.ok (.ref ⇑h,h++[⟨.lst,ps.map Ψ⟩]):=by
 obtain⟨l,el⟩:∃l,HO (BK ns) ↥(lo:Int) ↥(hi:Int)=BK l:=dE ns _ _;have Ee:⇑l<=10:=by
  have e:⇑(HO (BK ns) ↥(lo:Int) ↥(hi:Int))=⇑l:=by rw[el];simp[BK]
  rw[<-e];unfold HO;rw[EQ.Tj,EQ.Tj];simp;lia
 have s1:D9 π (CP (pu (.int (lo:Int)))) (CP (pu (.int (hi:Int)))) ρ h=.ok (.ref ⇑h,h++[⟨.lst,BK l⟩]):=by rw[MG,v_var,h0,Cj,A0,Tu,A0,Tu,A0];unfold MS;erw[aL,el];rw[Hj _ (by simp[BK,B1];lia)]
 have es:Bv (D9 π (CP (pu (.int (lo:Int)))) (CP (pu (.int (hi:Int))))) ρ h=.ok (.ref ⇑h,h++[⟨.lst,BK l⟩]):=by rw[Fv,s1,A0];exact J8 (ws:=BK l) h _ (IW (FN _ _)) γ γ (Zo _)
 obtain⟨ps,P,Py,BA⟩:=aeL Ee Ph (h:=h++[⟨.lst,BK l⟩]) (a:=⇑h) (by rw[DP];rfl);have lc:BO [.ref 0] (h++[⟨.lst,BK l⟩])=.ok (.int (⇑cs:Int),h++[⟨.lst,BK l⟩]):=by rw[Gh (Bl _ z _)];simp[Bq]
 have v1:∀h',I 1 ρ h'=.ok (.ref 0,h'):=λh'=>by rw[v_var,h1,Cj]
 have bX:J (Bv (D9 π (CP (pu (.int (lo:Int)))) (CP (pu (.int (hi:Int)))))) (J (B6 BO Ω) A2) ρ h=.ok ([.ref ⇑h,.int (⇑cs:Int)],h++[⟨.lst,BK l⟩]):=by rw[BD,es,A0,BD,G5,BD,v1,A0,Bx,A0,A0,lc,A0,Bx,A0,A0]
 have q:=LQ (mf:=Rw) (k:=2) bX rfl BA;refine⟨ps,P,Py,?_⟩;rw[Fv,q,A0];exact J8 (ws:=ps.map Ψ) h _ (IW (FC (FN _ _) _)) γ γ (GR _ _ K6)
def t0{ns:↑Int}(AH:⇑ns<=63):∃(cs:↑Nat)(ws:ν)(po D1:Nat)(A B:↑↑Ce)(H:A5),(1<=⇑cs/\ ⇑cs<=6)/\Gk cs ws/\(∃Ea∈CR cs ⇑cs,Ea∉ends ws)/\F2 cs A/\F2 cs B/\2<=⇑H/\H[0]?=↥⟨.lst,Bq cs⟩/\H[1]?=↥⟨.lst,ws.map CJ⟩/\D3 H po A/\D3 H D1 B/\Rr [.Df (BK ns)] []=.ok (.tup [.ref 0,.ref 1,.ref po,.ref D1],H):=by
 obtain⟨C0,hO⟩:∃C0:A5,C0=[]:=ο;rw[<-hO];have L5:⇑C0=0:=by rw[hO];rfl
 obtain⟨cell,ec⟩:=iH C0 ns 0;have ec:M5 [.Df (BK ns),.int 0] C0=.ok (.int cell,C0):=ec;obtain⟨cs,⟨Bm,Ph⟩,ES,em⟩:=vD cell;have em:=em C0;obtain⟨H1,hP⟩:∃H1:A5,H1=C0++[⟨.lst,Bq cs⟩]:=ο;rw[<-hP,L5]at em;have Dw:⇑H1=1:=by rw[hP];simp[L5]
 have Ff:H1[0]?=↥⟨.lst,Bq cs⟩:=by rw[hP];have:=DP C0 [⟨.lst,Bq cs⟩];rw[L5]at this;exact this
 obtain⟨ws,N,hd,C2⟩:=afc cell cs Bm Ph ES Ff;obtain⟨AU,Xv⟩:∃AU:A5,AU=H1++[⟨.lst,ws.map CJ⟩]:=ο;rw[<-Xv,Dw]at C2;have BU:⇑AU=2:=by rw[Xv];simp[Dw]
 have Ez:AU[1]?=↥⟨.lst,ws.map CJ⟩:=by rw[Xv];have:=DP H1 [⟨.lst,ws.map CJ⟩];rw[Dw]at this;exact this
 have re:AU[0]?=↥⟨.lst,Bq cs⟩:=by rw[Xv];exact Bl H1 Ff _
 obtain⟨po,D1,g,A,B,GC,Fs,Ga,HA,BC⟩:=ti AH Bm Ph ES re;refine⟨cs,ws,po,D1,A,B,AU++g,⟨Bm,Ph⟩,N,hd,GC,Fs,by rw[F1];lia,Bl _ re _,Bl _ Ez _,Ga,HA,?_⟩;have BV:Rr [.Df (BK ns)] C0=(Z2 [↥(.Df (BK ns)),none,none,none,none,none] C0).bind outF:=rfl;rw[BV];unfold Z2;have t1:AR (Ae 2 M5 (J π (J η A2))) (A6 1) [↥(.Df (BK ns)),none,none,none,none,none] C0=.ok (.AM [↥(.Df (BK ns)),↥(.int cell),none,none,none,none],C0):=by simp[ec]
 have C_:AR (Ae 1 U5 Ω) (A6 2) [↥(.Df (BK ns)),↥(.int cell),none,none,none,none] C0=.ok (.AM [↥(.Df (BK ns)),↥(.int cell),↥(.ref 0),none,none,none],H1):=by simp[em]
 have t3:AR (Ae 2 Oh (J ω Fr)) (A6 3) [↥(.Df (BK ns)),↥(.int cell),↥(.ref 0),none,none,none] H1=.ok (.AM [↥(.Df (BK ns)),↥(.int cell),↥(.ref 0),↥(.ref 1),none,none],AU):=by simp[C2]
 have Jc:Lp (Ae 2 Wh (J π Fr)) (EI [(A6 4),(A6 5)]) [↥(.Df (BK ns)),↥(.int cell),↥(.ref 0),↥(.ref 1),none,none] AU=.ok (.AM [↥(.Df (BK ns)),↥(.int cell),↥(.ref 0),↥(.ref 1),↥(.ref po),↥(.ref D1)],AU++g):=by simp[BC]
 rw[Am,t1,A0,Ax,Am,C_,A0,Ax,Am,t3,A0,Ax,Am,Jc,A0,Ax];rfl
end E4
namespace BX
def afq(m:BB)(ma:E6)(ρ:B5)(h:A5):Od m ma ρ h=(m ρ h).bind λp=>(Pv p.1 (bd ma λus _ h=>match us with
 |[y]=>a5 p.1 y h
 |_=>.bad)) ρ p.2:=rfl
def kB{m:BB}{ma:E6}{ρ:B5}{h:A5}{n:Nat}{ws:↑W}{y:W}{d:Co}{ds:↑Co}{j:Nat}(em:m ρ h=.ok (.ref n,h))(Az:h[n]?=↥⟨.lst,ws⟩)(BJ:ma ρ h=.ok ([y],h))(Bo:CI 7 h y=↥d)(rs:ws.mapM (CI 7 h)=↥ds)(Ed:ds.findIdx? (λz=>eqT z d)=↥j)(Ac:j<1000000):Od m ma ρ h=.ok (.int (j:Nat),h):=by
 have WI:CI 8 h ST=↥(.Ci false ds):=by show(match E2 h ST with|some (t,ws)=>(ws.mapM (CI 7 h)).map (Co.Ci t)|none=>none)=_;rw[Gs h Az];erw[rs,Nv]
 rw[afq,em];erw[A0,Pv,NK h Az,Hq,BJ,a5,Bo,WI,Ed,if_pos Ac]
end BX
namespace E4
section
variable(ws:ν)(B:↑↑Ce)(a:Nat)
def AM(d:AS):Tl:=J7 ws (B.getD d.1 []) d a
inductive Jl(d:AS):AS->Prop where
 |ZI:Jl d d
 |YZ {x y:AS} (h:Jl d x) (e:AM ws B a x=.at y):Jl d y
end
noncomputable def J2(d:AS):Co:=.Ci true [.int (d.1:Nat),.int (d.2:Nat)]
def en(k:Nat)(H:A5)(d:AS):CI (k+2) H (AI d)=↥(J2 d):=by simp[AI,J2,CI]
def cY(x y:AS):eqT (J2 x) (J2 y)=decide (x=y):=by
 erw[J2,eqT,Gg,List.isEmpty_nil,h8,beq_self_eq_true,X_];by_cases e:x=y
 .subst e;simp
 .rw[decide_eq_false e];by_cases AA:x.1=y.1
  .have AE:x.2≠y.2:=λz=>e (Prod.ext AA z);have:((x.2:Int)==(y.2:Int))=false:=by simp;lia
   rw[this,SD]
  .have:((x.1:Int)==(y.1:Int))=false:=by simp;lia
   rw[this,hF]
def b9(H:A5)(L:↑AS):(L.map AI).mapM (CI 7 H)=↥(L.map J2):=Zl λd _=>en 5 H d
def z1{H:A5}{n:Nat}{L:↑AS}(b:Bool)(d:AS)(e:H[n]?=↥⟨.lst,L.map AI⟩):Cs b (AI d) ST H=.ok (.AO (if b then decide (d∈L)else !decide (d∈L)),H):=by
 have Ea:Gd H ST (AI d)=none:=by erw[Gd,e]
 have r:CI 8 H ST=↥(.Ci false (L.map J2)):=by show(match E2 H ST with|some (t,ws)=>(ws.mapM (CI 7 H)).map (Co.Ci t)|none=>none)=_;rw[Gs H e];erw[b9,Nv]
 rw[Pu (d:=J2 d) Ea (en 5 H d) r];have:(L.map J2).any (λy=>eqT y (J2 d))=decide (d∈L):=by
  rw[Uh,Qo,UR,decide_eq_true_eq];constructor
  .rintro⟨s,AP,q⟩;erw[MO,cY,decide_eq_true_eq]at q;exact q▸AP
  .intro AP;exact⟨_,AP,by simp[MO,cY]⟩
 rw[this]
theorem kv{α:Type}[BEq α][LawfulBEq α]:∀(l A:↑α),l.Nodup->(∀x∈l,x∈A)->⇑l<=⇑A
 |[],A,_,_=>IB _
 |x::l,A,Bg,s=>by have Bg:=List.nodup_cons.mp Bg;have AF:=s x (Hs ..);have:=kv l (A.erase x) Bg.2 λy AX=>(gV (λz=>Bg.1 (by rw[<-z];exact AX))).mpr (s y (Gw _ AX));have Cm:=gL AF;have:=XG AF;erw[Dn];lia
def uD(h:A5)(t:Tl)(b:Bool):∃w,AB (DJ t) (.int 0) h=.ok (w,h)/\Ay b w (.str (AL "at")) h=.ok (.AO (isAt t==b),h):=by cases t<;>refine⟨_,Hd h _ _,?_⟩<;>cases b<;>rfl
def fc:Af:=(AK (EV (DQ DV Tm Fr))
    (AK (AR (Ae 4 NO (J π (J (A1 AB ω (A1 AB ψ η)) (J ψ (J Θ A2))))) (A6 5))
    (AK (BZ (AV (A1 (Ay false) (A1 AB (I 5) η) (pu (.str (AL "at"))))) (At (As (J Tm (J (I 5) A2)))) B_)
    (AR (As (J (A1 AB (I 5) ζ) (J (A1 AB (I 5) Γ) A2))) (A6 2)))))
def HL(n b:Nat)(d:AS)(a k:Nat)(s5:Option W):B5:=[χ,↥(.ref b),KK,ς,↥(.ref k),s5]
structure OG(cs:↑Nat)(ws:ν)(B:↑↑Ce)(a:Nat)(Ea:AS)(L:↑AS)(d:AS):Prop where
 Bg:L.Nodup
 al:∀x∈L,x∈CR cs ⇑cs
 rc:∀x∈L,Jl ws B a Ea x
 cl:∀x∈L,∀y,AM ws B a x=.at y->y∈L\/y=d
 st:Ea∈L\/Ea=d
 YY:Jl ws B a Ea d
 jU:d∈CR cs ⇑cs
def af_{cs:↑Nat}{ws:ν}(N:Gk cs ws){B:↑↑Ce}(ok:F2 cs B){h:A5}{n b:Nat}(A:FL h n cs ws)(BC:D3 h b B){a:Nat}(AG:a<16){Ea:AS}(hd:Ea∈CR cs ⇑cs) :
  ∃(L:↑AS)(w:W),Oi [.ref n,.ref b,AI Ea,.int (a:Int)] h=.ok (.tup [.ref ⇑h,w],h++[⟨.lst,L.map AI⟩])/\(∀x,x∈L↔Jl ws B a Ea x)/\ ⇑L<=24/\∀x∈L,x∈CR cs ⇑cs:=by
 have OY:∀{L:↑AS},L.Nodup->(∀x∈L,x∈CR cs ⇑cs)->⇑L<=24:=λ{L} Bg s=>by have:=kv L _ Bg s;have:=Pd N.c ⇑cs;have:=N.EJ;lia
 have fin:∀{L:↑AS},(∀x∈L,Jl ws B a Ea x)->Ea∈L->(∀x∈L,∀y,AM ws B a x=.at y->y∈L)->∀x,x∈L↔Jl ws B a Ea x:=λ{L} r s c x=>⟨r x,λz=>by
  induction z with
  |ZI=>exact s
  |YZ _ e C4=>exact c _ C4 _ e⟩
 have B2:=Ends.FW (jk (c:=AV (A1 (Cs false) ψ Tm)) (b:=fc) (ρ:=HL n b Ea a ⇑h none) (h:=h++[⟨.lst,[]⟩]) (λk ρ H=>∃(L:↑AS)(d:AS)(s5:Option W),ρ=HL n b d a ⇑h s5/\H=h++[⟨.lst,L.map AI⟩]/\OG cs ws B a Ea L d/\k=24- ⇑L) (T:=λCK H=>∃L:↑AS,H=h++[⟨.lst,L.map AI⟩]/\L.Nodup/\(∀x∈L,x∈CR cs ⇑cs)/\(∀x∈L,Jl ws B a Ea x)/\Ea∈L/\(∀x∈L,∀y,AM ws B a x=.at y->y∈L)/\((∃w,CK=.Dq (.tup [.ref ⇑h,w]))\/∃d s5,CK=.AM (HL n b d a ⇑h s5)/\d∈L)) (n:=24) ε ⟨[],Ea,none,rfl,rfl,⟨Qp,(λ_ x=>by cases x),(λ_ x=>by cases x),(λ_ x=>by cases x),.inr rfl,.ZI,hd⟩,rfl⟩ (by
  rintro k _ _ ⟨L,d,s5,rfl,rfl,w,rfl⟩;have z:(h++[(⟨.lst,L.map AI⟩:O)])[⇑h]?=↥⟨.lst,L.map AI⟩:=by rw[DP];rfl
  have v2:∀s H,I 2 (HL n b d a ⇑h s) H=.ok (AI d,H):=λ_ _=>rfl;have v0:∀s H,I 0 (HL n b d a ⇑h s) H=.ok (.ref n,H):=λ_ _=>rfl;have v1:∀s H,I 1 (HL n b d a ⇑h s) H=.ok (.ref b,H):=λ_ _=>rfl;have I1:∀s H,I 3 (HL n b d a ⇑h s) H=.ok (.int (a:Int),H):=λ_ _=>rfl;have v4:∀s H,I 4 (HL n b d a ⇑h s) H=.ok (.ref ⇑h,H):=λ_ _=>rfl;have IY:∀s H,I 5 (HL n b d a ⇑h ↥s) H=.ok (s,H):=λ_ _=>rfl;refine⟨!decide (d∈L),h++[⟨.lst,L.map AI⟩],?_,λe=>?_,λe=>?_⟩
  .rw[Eg,BG,v2,A0,v4,A0,z1 false d z];rfl
  .have PA:d∈L:=by simpa using e
   exact⟨L,rfl,w.Bg,w.al,w.rc,w.st.elim id (λz=>z▸PA),λx AF y AX=>(w.cl x AF y AX).elim id (λz=>z▸PA),.inr ⟨d,s5,rfl,PA⟩⟩
  .have PA:d∉L:=by simpa using e
   obtain⟨Ko,HZ⟩:∃Ko,Ko=L++[d]:=ο;have e1:Ko.Nodup:=by rw[HZ,XX];exact⟨w.Bg,γ,λx AF y AX z=>PA (by rw[IC]at AX;rw[<-AX,<-z];exact AF)⟩
   have Sl:∀x∈Ko,x∈CR cs ⇑cs:=λx AF=>by
    rw[HZ,Gj,IC]at AF;rcases AF with AF|rfl
    .exact w.al x AF
    .exact w.jU
   have o0:∀x∈Ko,Jl ws B a Ea x:=λx AF=>by
    rw[HZ,Gj,IC]at AF;rcases AF with AF|rfl
    .exact w.rc x AF
    .exact w.YY
   have Pa:d∈Ko:=by rw[HZ];simp
   have sub:∀{x},x∈L->x∈Ko:=λAF=>by rw[HZ];exact Gx _ AF
   have H0:Ea∈Ko:=w.st.elim sub (λz=>z▸Pa);have ail:=OY e1 Sl;have de:⇑Ko=⇑L+1:=by rw[HZ];simp
   obtain⟨H,Bt⟩:∃H,H=h++[(⟨.lst,Ko.map AI⟩:O)]:=ο;have s1:EV (DQ DV Tm Fr) (HL n b d a ⇑h s5) (h++[⟨.lst,L.map AI⟩])=.ok (.AM (HL n b d a ⇑h s5),H):=by rw[JD,JV (us:=[AI d]) (ws':=Ko.map AI) (r:=.non) (v4 _ _) z (by rw[BD,v2,A0,Bx];rfl) z (by rw[HZ];simp[DV]) (by rw[CE];unfold B1;lia),A0,Po,Bt];rfl
   have A4:=(Pb.mp w.jU).1;obtain⟨rs,AA,L_,Ao⟩:=BC.ex;have AN:d.1< ⇑rs:=by rw[L_,ok.1];exact A4
   have BN:=Ao d.1 _ (C7 AN);have E0:AB (.ref b) (.int (d.1:Int)) H=.ok (.ref rs[d.1],H):=G2 (by rw[Bt];exact Bl _ AA _) (by rw[Da,C7 AN];rfl);have on:NO [.ref n,.ref rs[d.1],AI d,.int (a:Int)] H=.ok (DJ (AM ws B a d),H):=me (by rw[Bt];exact A.more _) (ok.2 d.1 A4) (by rw[Bt];exact Bl _ BN _) AG d;have s2:AR (Ae 4 NO (J π (J (A1 AB ω (A1 AB ψ η)) (J ψ (J Θ A2))))) (A6 5) (HL n b d a ⇑h s5) H=.ok (.AM (HL n b d a ⇑h ↥(DJ (AM ws B a d))),H):=by
    have q:Ae 4 NO (J π (J (A1 AB ω (A1 AB ψ η)) (J ψ (J Θ A2)))) (HL n b d a ⇑h s5) H=.ok (DJ (AM ws B a d),H):=LQ (us:=[.ref n,.ref rs[d.1],AI d,.int (a:Int)]) (h1:=H) (by have ET:AB (AI d) (.int 0) H=.ok (.int (d.1:Int),H):=rfl;erw[BD,Bx,BG,v0,v1,v2,I1,Be,A0,ET,E0]) rfl on
    rw[Cy,q];rfl
   obtain⟨GV,C2,v8⟩:=uD H (AM ws B a d) false;have t1:AV (A1 (Ay false) (A1 AB (I 5) η) (pu (.str (AL "at")))) (HL n b d a ⇑h ↥(DJ (AM ws B a d))) H=.ok (isAt (AM ws B a d)==false,H):=by rw[Eg,BG,BG,IY,A0,Be,A0,C2,A0,Be,A0,v8];rfl
   unfold fc;rw[Am,s1,A0,Ax,Am,s2,A0,Ax,Am,Cz,t1,A0];cases AZ:isAt (AM ws B a d)
   .rw[if_pos (by rfl),FZ,Je,BD,v4,A0,BD,IY,A0,Bx,A0,A0,A0,if_pos (by simp[B1])];refine⟨_,_,rfl,Ko,Bt,e1,Sl,o0,H0,λx AF y AX=>?_,.inl ⟨_,rfl⟩⟩;have Zw:=AF;rw[HZ,Gj,IC]at Zw;rcases Zw with Zw|rfl
    .exact(w.cl x Zw y AX).elim sub (λz=>z▸Pa)
    .rw[AX]at AZ;cases AZ
   .obtain⟨e,Ge⟩:∃e,AM ws B a d=.at e:=by
      cases q:AM ws B a d with
      |«at» e=>exact⟨e,rfl⟩
      |drop _=>rw[q]at AZ;cases AZ
      |out _=>rw[q]at AZ;cases AZ
      |LZ _=>rw[q]at AZ;cases AZ
    rw[if_neg γ,FD,A0,Ax,Ge];refine⟨.AM (HL n b e a ⇑h ↥(DJ (.at e))),H,by simp[HL,DJ,AI,JS,V1,B1],24- ⇑Ko,δ,Ko,e,_,rfl,Bt,⟨e1,Sl,o0,λx AF y AX=>?_,.inl H0,.YZ w.YY Ge,ZR N Ge⟩,rfl⟩;rw[HZ,Gj,IC]at AF;rcases AF with AF|rfl
    .exact .inl ((w.cl x AF y AX).elim sub (λz=>z▸Pa))
    .rw[Ge]at AX;cases AX;exact .inr rfl))
 obtain⟨CK,H,Go,L,rfl,Bg,al,rc,st,cl,alt⟩:=B2;have e:Oi [.ref n,.ref b,AI Ea,.int (a:Int)] h=(ZD [χ,↥(.ref b),↥(AI Ea),ς,none,none] h).bind outF:=rfl;have s0:AR (Bd A2) (A6 4) [χ,↥(.ref b),↥(AI Ea),ς,none,none] h=.ok (.AM (HL n b Ea a ⇑h none),h++[⟨.lst,[]⟩]):=by simp[nw,B1,HL]
 have uk:ZD=AK (AR (Bd A2) (A6 4)) (AK (T9 (AV (A1 (Cs false) ψ Tm)) fc) (At (As (J Tm (J (As (J (pu (.str (AL "ring"))) (J (Od Tm Fr) A2))) A2))))):=rfl;rw[e,uk,Am,s0,A0,Ax,Am,afv,Go,A0];rcases alt with⟨w,rfl⟩|⟨d,s5,rfl,hm⟩
 .exact⟨L,w,rfl,fin rc st cl,OY Bg al,al⟩
 .have z:(h++[(⟨.lst,L.map AI⟩:O)])[⇑h]?=↥⟨.lst,L.map AI⟩:=by rw[DP];rfl
  obtain⟨j,Ed⟩:∃j,(L.map J2).findIdx? (λz=>eqT z (J2 d))=↥j:=by
   cases q:(L.map J2).findIdx? (λz=>eqT z (J2 d))with
   |some j=>exact⟨j,rfl⟩
   |none=>rw[sT]at q;have:=q (J2 d) (List.mem_map.mpr ⟨d,hm,rfl⟩);rw[cY]at this;simp at this
  have Ac:j<1000000:=by have:=(List.findIdx?_eq_some_iff_getElem.mp Ed).1;have:=OY Bg al;rw[CE]at*;lia
  have E0:Od Tm Fr (HL n b d a ⇑h s5) (h++[⟨.lst,L.map AI⟩])=.ok (.int (j:Nat),h++[⟨.lst,L.map AI⟩]):=kB (rfl:I 4 (HL n b d a ⇑h s5) _=.ok (.ref ⇑h,_)) z rfl (en 5 _ d) (b9 _ L) Ed Ac;refine⟨L,.tup [.str (AL "ring"),.int (j:Nat)],?_,fin rc st cl,OY Bg al,al⟩;have v4:∀H,I 4 (HL n b d a ⇑h s5) H=.ok (.ref ⇑h,H):=λ_=>rfl;rw[Ax,FZ,Je,BD,v4,A0,BD,Je,BD,Be,A0,BD,E0,A0,Bx];rfl
variable{kw:Bool}
def gF{ρ:B5}{m:BB}{k:Int}{h h1:A5}(e:m ρ h=.ok (.int k,h1)):CP m ρ h=.ok (↥k,h1):=by unfold CP;rw[Hq,e];rfl
def o2{H:A5}(L:↑CH):(L.map (Ak kw)).mapM (CI 7 H)=↥(L.map Gu):=Zl λs _=>bA 5 H s
def yR{h:A5}{n:Nat}{dn:↑CH}(e:h[n]?=↥⟨.lst,dn.map (Ak kw)⟩):Cs true IQ ST h=.ok (.AO (decide ((none:CH)∈dn)),h):=by
 have Ea:Gd h ST IQ=none:=by erw[Gd,e]
 have r:CI 8 h ST=↥(.Ci false (dn.map Gu)):=by show(match E2 h ST with|some (t,ws)=>(ws.mapM (CI 7 h)).map (Co.Ci t)|none=>none)=_;rw[Gs h e];erw[o2,Nv]
 rw[Pu (d:=Gu none) Ea (by simp[IQ,CI,Gu]) r];have:(dn.map Gu).any (λy=>eqT y (Gu none))=decide ((none:CH)∈dn):=by
  rw[Uh,Qo,UR,decide_eq_true_eq];have q:∀s:CH,eqT (Gu s) (Gu none)=decide (s=none):=λs=>by
   cases s with
   |none=>simp[Gu,eqT,Gg]
   |some p=>simp[Gu,eqT,Gg]
  constructor
  .rintro⟨s,AP,z⟩;erw[MO,q,decide_eq_true_eq]at z;exact z▸AP
  .intro AP;exact⟨_,AP,by simp[MO,q]⟩
 rw[this];rfl
def bU(dn:↑CH)(hh:Nat):Prop:=∃i j:Nat,dn[i]?=↥↥(1,hh)/\i<=j/\dn[j]?=↥none
def afW{h:A5}{n hh:Nat}{dn:↑CH}(e:h[n]?=↥⟨.lst,dn.map (Ak kw)⟩)(hd:∀p,↥p∈dn->p.1<3)(AH:⇑dn<=100):∃b,Rq [.ref n,.int (hh:Int)] h=.ok (.AO b,h)/\(b=true↔bU dn hh):=by
 obtain⟨ρ,BY⟩:∃ρ:B5,ρ=[χ,↥(.int (hh:Int)),↥(.tup [.str (AL "turn"),.int (hh:Int)])]:=ο;have s1:AR (As (J (pu (.str (AL "turn"))) Ω)) (A6 2) [χ,↥(.int (hh:Int)),none] h=.ok (.AM ρ,h):=by rw[BY];simp[B1]
 have v0:∀H,I 0 ρ H=.ok (.ref n,H):=by rw[BY];exact λ_=>rfl
 have v2:∀H,I 2 ρ H=.ok (.tup [.str (AL "turn"),.int (hh:Int)],H):=by rw[BY];exact λ_=>rfl
 have CZ:=Pt (hh:=hh) (k:=1) true e δ hd;rw[show Ep 1=AL "turn" from rfl]at CZ;have BV:Rq [.ref n,.int (hh:Int)] h=((Z0 [χ,↥(.int (hh:Int)),none] h).bind outF).bind λp=>BX.settle h p.1 p.2:=rfl;rw[BV];unfold Z0;rw[Am,s1,A0,Ax,FZ,Fv,qT,BG,v2,A0,v0,A0,CZ,A0,F7,A0];by_cases B9:↥(1,hh)∈dn
 .obtain⟨i,hi⟩:=PM B9;obtain⟨j,Ed⟩:∃j,(dn.map Gu).findIdx? (λz=>eqT z (.Ci true [.str (Ep 1),.int (hh:Int)]))=↥j:=by
   cases q:(dn.map Gu).findIdx? (λz=>eqT z (.Ci true [.str (Ep 1),.int (hh:Int)]))with
   |some j=>exact⟨j,rfl⟩
   |none=>rw[sT]at q;have:=q (Gu ↥(1,hh)) (List.mem_map.mpr ⟨_,B9,rfl⟩);rw[TN δ (λp e=>by cases e;exact(by decide:1<3))]at this;simp at this
  obtain⟨Ac,AA,AE⟩:=List.findIdx?_eq_some_iff_getElem.mp Ed;have cN:j< ⇑dn:=by rwa [CE]at Ac
  have E0:Od π Fr ρ h=.ok (.int (j:Nat),h):=kB (v0 h) e (by rw[BD,v2,A0,Bx];rfl) (d:=.Ci true [.str (Ep 1),.int (hh:Int)]) (by simp[CI,Ep]) (o2 dn) Ed δ;have yG:dn[j]?=↥↥(1,hh):=by rw[C7 cN];rw[List.getElem_map,TN δ (λp e=>hd p (e▸Hu _)),decide_eq_true_eq]at AA;rw[AA]
  have C3:MS ST ↥(j:Int) none ρ h=.ok (.ref ⇑h,h++[⟨.lst,(dn.drop j).map (Ak kw)⟩]):=by rw[QP e (by rw[CE];lia),hv _ (by rw[CE];lia),Xa]
  have aD:Cs true IQ (.ref ⇑h) (h++[⟨.lst,(dn.drop j).map (Ak kw)⟩])=_:=yR (by rw[DP];rfl);refine⟨decide ((none:CH)∈dn.drop j),?_,?_⟩
  .rw[if_pos (B9:),BG,Be,A0,MG,v0,A0,gF E0,A0,Be,A0,C3,A0,aD,A0,Rb _ _ _ γ,A0,A0,GT,A0];exact OI h _ rfl
  .rw[decide_eq_true_eq];constructor
   .intro hm;obtain⟨k,AN⟩:=PM hm;rw[gp]at AN;exact⟨j,j+k,yG,δ,AN⟩
   .rintro⟨VQ,V2,h1,h2,AY⟩;have hle:j<=VQ:=XN λz=>by
     have Yt:=(List.getElem?_eq_some_iff.mp h1).1;refine AE VQ z ?_;rw[List.getElem_map,TN δ (λp e=>hd p (e▸Hu _)),decide_eq_true_eq];rw[C7 Yt]at h1;exact Fy h1
    refine IG (i:=V2-j) ?_;rw[gp,show j+(V2-j)=V2 by lia];exact AY
 .refine⟨false,?_,?_⟩
  .rw[if_neg (B9:),A0,OI h _ (by rfl),A0,A0,GT,A0];exact OI h _ rfl
  .erw[Kw,false_iff];rintro⟨i,j,h1,_⟩;exact B9 (IG h1)
def afk{h:A5}{n k:Nat}{dn:↑CH}{L:↑AS}(e:h[n]?=↥⟨.lst,dn.map (Ak kw)⟩)(hd:∀p,↥p∈dn->p.1<3)(DH:h[k]?=↥⟨.lst,L.map AI⟩)(AH:⇑L<=24):∃w,Wd [.ref n,.ref k] h=.ok (w,h)/\((w=.non/\∀x∈L,↥(0,x.1)∈dn)\/∃y:Nat,w=.int (y:Int)/\∃x∈L,↥(0,x.1)∉dn):=by
 obtain⟨EO,⟨s2,rfl⟩,es⟩:=Yb (mi:=Ca ω) (it:=FG (.ref k)) (g:=A6 2) (b:=BZ (AV (A1 (Cs false) (As (J (pu (.str (AL "teach"))) (J (A1 AB ψ η) A2))) π)) (At (A1 AB ψ η)) B_) (ρ:=[χ,↥(.ref k),none]) (h:=h) (h0:=h) ⇑L δ (λj=>AI (L.getD j (0,0))) (λρ=>∃s,ρ=[χ,↥(.ref k),s]) (λj=>if ↥(0,(L.getD j (0,0)).1)∈dn then none else↥(.int ((L.getD j (0,0)).1:Int))) (IT DH rfl) (λj _=>l9 DH j) ⟨none,rfl⟩ (by
  rintro j Ac _ ⟨s,rfl⟩;obtain⟨x,ex⟩:∃x,x=L.getD j (0,0):=ο;rw[<-ex];have ET:=Pt (hh:=x.1) (k:=0) false e δ hd;rw[show Ep 0=AL "teach" from rfl]at ET;have E0:AB (AI x) (.int 0) h=.ok (.int (x.1:Int),h):=rfl;have v2:∀H,I 2 [χ,↥(.ref k),↥(AI x)] H=.ok (AI x,H):=λ_=>rfl;have v0:∀H,I 0 [χ,↥(.ref k),↥(AI x)] H=.ok (.ref n,H):=λ_=>rfl;refine⟨[χ,↥(.ref k),↥(AI x)],[χ,↥(.ref k),↥(AI x)],γ,⟨_,rfl⟩,?_⟩;have Hp:As (J (pu (.str (AL "teach"))) (J (A1 AB ψ η) A2)) [χ,↥(.ref k),↥(AI x)] h=.ok (.tup [.str (AL "teach"),.int (x.1:Int)],h):=by rw[Je,BD,Be,A0,BD,BG,v2,A0,Be,A0,E0];rfl
  rw[Cz,Eg,BG,Hp,A0,v0,A0,ET,A0,F7,A0];by_cases hm:↥(0,x.1)∈dn
  .rw[if_pos hm,if_neg (by simp[hm]),FD];rfl
  .rw[if_neg hm,if_pos (by simp[hm]),FZ,BG,v2,A0,Be,A0,E0];rfl)
 have BV:Wd [.ref n,.ref k] h=((Yv [χ,↥(.ref k),none] h).bind outF).bind λp=>BX.settle h p.1 p.2:=rfl;rw[BV];unfold Yv;rw[Am,es];cases q:(C8 ⇑L).findSome? (λj=>if ↥(0,(L.getD j (0,0)).1)∈dn then none else↥(W.int ((L.getD j (0,0)).1:Int)))with
 |none=>refine⟨.non,by simp[Ii],.inl ⟨rfl,λx AF=>?_⟩⟩;obtain⟨j,Ac⟩:=PM AF;have cN:=(List.getElem?_eq_some_iff.mp Ac).1;have:=List.findSome?_eq_none_iff.mp q j (List.mem_range.mpr cN);rw[EC,Ac]at this;refine Q_ λz=>?_;erw[Qb]at this;rw[if_neg z]at this;cases this
 |some w=>
  obtain⟨j,Ac,e⟩:=List.exists_of_findSome?_eq_some q
  split at e
  .cases e
  .rename_i z;cases e;refine⟨.int ((L.getD j (0,0)).1:Int),by simp[Ii],.inr ⟨_,rfl,_,?_,z⟩⟩;have Ac:=List.mem_range.mp Ac;rw[EC,C7 Ac];exact Hu _
end E4
set_option maxHeartbeats 1000000
namespace E4
variable{kw:Bool}
def Flt(ws:ν)(A B:↑↑Ce)(ps:↑CH)(p:Nat)(d:AS)(a:Nat):Prop:=
 (ps[p]?=↥↥(1,d.1)/\∃x,Jl ws B a d x/\ ↥(0,x.1)∉ps.take p)\/(∃hh,ps[p]?=↥↥(2,hh)/\¬bU (ps.take p) d.1/\∃x,Jl ws A a d x/\x.1=hh)
def v3{h:A5}{s:CH}{k hh:Nat}(AN:k<3)(AP:∀p,s=↥p->p.1<3):Ay true ((Ak kw) s) (.tup [.str (Ep k),.int (hh:Int)]) h=.ok (.AO (decide (s=↥(k,hh))),h):=by unfold Ay;rw[show CI 8 h ((Ak kw) s)=↥(Gu s)from bA 6 h s,show CI 8 h (.tup [.str (Ep k),.int (hh:Int)])=↥(.Ci true [.str (Ep k),.int (hh:Int)])by simp[CI]];erw[TN AN AP,if_true]
def z2{h:A5}{n:Nat}{L:↑AS}(e:h[n]?=↥⟨.lst,L.map λx=>.int (x.1:Int)⟩)(i:Nat):Cs true (.int (i:Int)) ST h=.ok (.AO (decide (∃x∈L,x.1=i)),h):=by
 have Ea:Gd h ST (.int (i:Int))=none:=by erw[Gd,e]
 have r:CI 8 h ST=↥(.Ci false (L.map λx=>.int (x.1:Int))):=by show(match E2 h ST with|some (t,ws)=>(ws.mapM (CI 7 h)).map (Co.Ci t)|none=>none)=_;rw[Gs h e];erw[Zl (r:=CI 7 h) (f:=λx:AS=>W.int (x.1:Int)) (g:=λx:AS=>Co.int (x.1:Int)) λd _=>by simp[CI],Nv]
 rw[Pu (d:=.int (i:Int)) Ea (by simp[CI]) r];have:(L.map λx:AS=>Co.int (x.1:Int)).any (λy=>eqT y (.int (i:Int)))=decide (∃x∈L,x.1=i):=by
  rw[Uh,Qo,UR,decide_eq_true_eq];constructor
  .rintro⟨x,AF,q⟩;erw[MO,eqT,beq_iff_eq]at q;exact⟨x,AF,δ⟩
  .rintro⟨x,AF,q⟩;exact⟨x,AF,by simp[MO,eqT];lia⟩
 rw[this];rfl
noncomputable def aB:CH->Bool
 |some p=>decide (p.1=2)
 |none=>false
def y_{s:CH}(e:aB s=true):∃hh,s=↥(2,hh):=by
 cases s with
 |none=>cases e
 |some p=>exact⟨p.2,by rw[<-of_decide_eq_true e]⟩
section
variable{cs:↑Nat}{ws:ν}{A B:↑↑Ce}{ps:↑CH}{h:A5}{n b0 b1 q:Nat}
def t7(n b0 b1 q p:Nat)(d:AS)(a:Nat)(s7 EF:Option W):B5:=[χ,↥(.ref b0),↥(.ref b1),↥(.ref q),↥(.int (p:Int)),KK,ς,s7,EF]
def y7(N:Gk cs ws)(GC:F2 cs A)(Fs:F2 cs B)(P:LA ⇑cs ps)(HI:FL h n cs ws)(Ga:D3 h b0 A)(HA:D3 h b1 B)(eq:h[q]?=↥⟨.lst,ps.map (Ak kw)⟩){p:Nat}(AT:p< ⇑ps){d:AS}(hd:d∈CR cs ⇑cs){a:Nat}(AG:a<16) :
  ∃w,TK [.ref n,.ref b0,.ref b1,.ref q,.int (p:Int),AI d,.int (a:Int)] h=.ok (w,h)/\((w=.non/\¬Flt ws A B ps p d a)\/∃x:Nat,w=.int (x:Int)/\Flt ws A B ps p d a):=by
 have V7:=P.l;obtain⟨s,es⟩:∃s,s=ps[p]:=ο;have RD:ps[p]?=↥s:=by rw[es];exact C7 AT
 have Sx:∀z,s=↥z->z.1<3:=λz e=>(P.k z (by rw[<-e,es];exact Hu _)).1;have kY:∀z,↥z∈ps.take p->z.1<3:=λz e=>(P.k z (US e)).1;obtain⟨ρ,BY⟩:∃ρ:Option W->Option W->B5,ρ=t7 n b0 b1 q p d a:=ο;have v0:∀s t H,I 0 (ρ s t) H=.ok (.ref n,H):=by rw[BY];exact λ_ _ _=>rfl
 have v1:∀s t H,I 1 (ρ s t) H=.ok (.ref b0,H):=by rw[BY];exact λ_ _ _=>rfl
 have v2:∀s t H,I 2 (ρ s t) H=.ok (.ref b1,H):=by rw[BY];exact λ_ _ _=>rfl
 have I1:∀s t H,I 3 (ρ s t) H=.ok (.ref q,H):=by rw[BY];exact λ_ _ _=>rfl
 have v4:∀s t H,I 4 (ρ s t) H=.ok (.int (p:Int),H):=by rw[BY];exact λ_ _ _=>rfl
 have IY:∀s t H,I 5 (ρ s t) H=.ok (AI d,H):=by rw[BY];exact λ_ _ _=>rfl
 have v6:∀s t H,I 6 (ρ s t) H=.ok (.int (a:Int),H):=by rw[BY];exact λ_ _ _=>rfl
 have I2:∀s t H,I 7 (ρ ↥s t) H=.ok (s,H):=by rw[BY];exact λ_ _ _=>rfl
 have Kk:∀s t H,I 8 (ρ s ↥t) H=.ok (t,H):=by rw[BY];exact λ_ _ _=>rfl
 have E0:AB (.ref q) (.int (p:Int)) h=.ok ((Ak kw) s,h):=G2 eq (by rw[Da,RD];rfl);have s1:AR (A1 AB Θ Tm) (A6 7) (ρ none none) h=.ok (.AM (ρ ↥((Ak kw) s) none),h):=by rw[Cy,BG,I1,A0,v4,A0,E0,BY];rfl
 obtain⟨dn,Pl⟩:∃dn,dn=ps.take p:=ο;obtain⟨H1,TL⟩:∃H1:A5,H1=h++[⟨.lst,dn.map (Ak kw)⟩]:=ο;have Ff:H1[⇑h]?=↥⟨.lst,dn.map (Ak kw)⟩:=by rw[TL,DP];rfl
 have ldn:⇑dn<=100:=by rw[Pl,N0];lia
 have s2:AR (Bv (D9 Θ (pu none) (CP Tm))) (A6 8) (ρ ↥((Ak kw) s) none) h=.ok (.AM (ρ ↥((Ak kw) s) υ),H1):=by
  have C3:D9 Θ (pu none) (CP Tm) (ρ ↥((Ak kw) s) none) h=.ok (.ref ⇑h,H1):=by rw[MG,I1,A0,Be,A0,gF (v4 _ _ h),A0,QP eq (by rw[CE];lia),Vj _ (by rw[CE];lia),<-Ql,<-Pl,TL]
  have q:Bv (D9 Θ (pu none) (CP Tm)) (ρ ↥((Ak kw) s) none) h=.ok (.ref ⇑h,H1):=by rw[Fv,C3,A0,TL];exact MC h _ rfl (GR _ _ K6)
  rw[Cy,q,BY];rfl
 obtain⟨σ,eσ⟩:∃ σ,σ =ρ ↥((Ak kw) s) υ:=ο;have ET:∀H,AB (AI d) (.int 0) H=.ok (.int (d.1:Int),H):=λ_=>rfl;have fM:h<+: H1:=by rw[TL];exact FN _ _
 have BN:∀{b:Nat}{X:↑↑Ce},D3 h b X->D3 H1 b X:=λx=>by rw[TL];exact x.more _
 have rR:∀{b:Nat}{X:↑↑Ce}{i:Nat},F2 cs X->D3 h b X->(∀H,I i σ H=.ok (.ref b,H))->∃L:↑AS,A1 AB (Ae 4 Oi (J π (J (I i) (J (I 5) (J (I 6) A2))))) η σ H1=.ok (.ref ⇑H1,H1++[⟨.lst,L.map AI⟩])/\(∀x,x∈L↔Jl ws X a d x)/\ ⇑L<=24:=λ{b X i} ok at' afy=>by
  obtain⟨L,w,AA,AE,Cd,_⟩:=af_ N ok (HI.more _:FL (h++[⟨.lst,dn.map (Ak kw)⟩]) n cs ws) (at'.more _) AG hd;rw[<-TL]at AA;refine⟨L,?_,AE,Cd⟩;have c:Ae 4 Oi (J π (J (I i) (J (I 5) (J (I 6) A2)))) σ H1=.ok (.tup [.ref ⇑H1,w],H1++[⟨.lst,L.map AI⟩]):=LQ (us:=[.ref n,.ref b,AI d,.int (a:Int)]) (h1:=H1) (by
   have afm:∀H,I 0 σ H=.ok (.ref n,H):=λH=>by rw[eσ];exact v0 _ _ H
   have afn:∀H,I 5 σ H=.ok (AI d,H):=λH=>by rw[eσ];exact IY _ _ H
   have afo:∀H,I 6 σ H=.ok (.int (a:Int),H):=λH=>by rw[eσ];exact v6 _ _ H
   erw[BD,Bx,afm,afn,afo,afy,A0]) rfl AA
  rw[BG,c,A0,Be,A0];rfl
 have eq1:=v3 (kw:=kw) (h:=H1) (s:=s) (k:=1) (hh:=d.1) δ Sx;rw[show Ep 1=AL "turn" from rfl]at eq1;have t1:AV (A1 Ξ (I 7) (As (J (pu (.str (AL "turn"))) (J (A1 AB (I 5) η) A2)))) σ H1=.ok (decide (s=↥(1,d.1)),H1):=by
  have Hp:As (J (pu (.str (AL "turn"))) (J (A1 AB (I 5) η) A2)) σ H1=.ok (.tup [.str (AL "turn"),.int (d.1:Int)],H1):=by rw[eσ,Je,BD,Be,A0,BD,BG,IY,A0,Be,A0,ET];rfl
  rw[Eg,BG,show I 7 σ H1=.ok ((Ak kw) s,H1)by rw[eσ];exact I2 _ _ _,A0,Hp,A0,eq1];rfl
 have BV:TK [.ref n,.ref b0,.ref b1,.ref q,.int (p:Int),AI d,.int (a:Int)] h=((Yw (ρ none none) h).bind outF).bind λp=>BX.settle h p.1 p.2:=by rw[BY];rfl
 rw[BV];unfold Yw;rw[Am,s1,A0,Ax,Am,s2,A0,Ax,<-eσ,Am,Cz,t1,A0];by_cases B9:s=↥(1,d.1)
 .obtain⟨L,HZ,VS,de⟩:=rR Fs HA (i:=2) (λH=>by rw[eσ];exact v2 _ _ H);obtain⟨w,C2,alt⟩:=afk (h:=H1++[⟨.lst,L.map AI⟩]) (n:=⇑h) (k:=⇑H1) (dn:=dn) (L:=L) (Bl _ Ff _) (by rw[Pl];exact kY) (by rw[DP];rfl) de;have c:Ae 2 Wd (J (I 8) (J (A1 AB (Ae 4 Oi (J π (J ψ (J (I 5) (J (I 6) A2))))) η) A2)) σ H1=.ok (w,H1++[⟨.lst,L.map AI⟩]):=LQ (us:=[.ref ⇑h,.ref ⇑H1]) (h1:=H1++[⟨.lst,L.map AI⟩]) (by
   rw[BD,show I 8 σ H1=.ok (.ref ⇑h,H1)by rw[eσ];exact Kk _ _ _,A0,BD,HZ,A0,Bx,A0,A0]) rfl C2
  have nw:DR w=true:=by rcases alt with⟨rfl,_⟩|⟨y,rfl,_⟩<;>rfl
  refine⟨w,?_,?_⟩
  .rw[if_pos (B9:),FZ,c,A0,A0,Tk,A0,GT,A0];exact aM h _ _ nw (IW (FC fM _))
  .rcases alt with⟨rfl,al⟩|⟨y,rfl,x,AF,Zr⟩
   .refine .inl ⟨rfl,λz=>?_⟩;rcases z with⟨_,x,Au,Zr⟩|⟨hh,e,_⟩
    .rw[<-Pl]at Zr;exact Zr (al x ((VS x).mpr Au))
    .rw[RD,B9]at e;cases e
   .exact .inr ⟨y,rfl,.inl ⟨by rw[RD,B9],x,(VS x).mp AF,by rw[<-Pl];exact Zr⟩⟩
 .rw[if_neg (B9:),FD,A0,Ax];have dU:∀{r:Prop},(ps[p]?=↥↥(1,d.1)/\r)->False:=λz=>by
   rw[RD]at z;exact B9 (Fy z.1)
  have fin:∀{m:Af},m σ H1=.ok (.AM σ,H1)->((((m σ H1).bind (NZ (At (pu .non)))).bind outF).bind λp=>BX.settle h p.1 p.2)=.ok (.non,h):=λe=>by rw[e,A0,Ax,FZ,Be,A0,A0,GT,A0];exact aM h _ _ rfl (IW fM)
  have xL:∃x:Str,AB ((Ak kw) s) (.int 0) H1=.ok (.str x,H1)/\(x==AL "forget")=aB s:=by
   cases AP:s with
   |none=>cases kw<;>exact⟨AL "wait",rfl,rfl⟩
   |some z=>
    refine⟨Ep z.1,rfl,?_⟩;have:=Sx z AP;obtain⟨k,hh⟩:=z;have AN:k=0\/k=1\/k=2:=by simp only at this;lia
    rcases AN with rfl|rfl|rfl<;>rfl
  obtain⟨x,ex,CC⟩:=xL;have C_:AV (A1 Ξ (A1 AB (I 7) η) (pu (.str (AL "forget")))) σ H1=.ok (aB s,H1):=by rw[Eg,BG,BG,show I 7 σ H1=.ok ((Ak kw) s,H1)by rw[eσ];exact I2 _ _ _,A0,Be,A0,ex,A0,Be,A0,Ol,if_pos rfl,CC];rfl
  by_cases hf:aB s=true
  .obtain⟨b,BC,kA⟩:=afW (h:=H1) (n:=⇑h) (hh:=d.1) Ff (by rw[Pl];exact kY) ldn;have c:Ae 2 Rq (J (I 8) (J (A1 AB (I 5) η) A2)) σ H1=.ok (.AO b,H1):=LQ (us:=[.ref ⇑h,.int (d.1:Int)]) (h1:=H1) (by
    rw[BD,show I 8 σ H1=.ok (.ref ⇑h,H1)by rw[eσ];exact Kk _ _ _,A0,BD,BG,show I 5 σ H1=.ok (AI d,H1)by rw[eσ];exact IY _ _ _,A0,Be,A0,ET,A0,Bx,A0,A0]) rfl BC
   obtain⟨hh,AP⟩:=y_ hf;have BW:F9 (AV (A1 Ξ (A1 AB (I 7) η) (pu (.str (AL "forget"))))) (Du (AV (Ae 2 Rq (J (I 8) (J (A1 AB (I 5) η) A2))))) σ H1=.ok (!b,H1):=by rw[v_and,C_,A0,if_pos hf,v_not,Eg,c,A0,F7,A0]
   cases b
   .have abn:¬bU (ps.take p) d.1:=λz=>by rw[<-Pl]at z;simpa using kA.mpr z
    obtain⟨L,HZ,VS,de⟩:=rR GC Ga (i:=1) (λH=>by rw[eσ];exact v1 _ _ H);obtain⟨AU,dK⟩:∃AU,AU=H1++[(⟨.lst,L.map AI⟩:O)]:=ο;rw[<-dK]at HZ;have Ez:AU[⇑H1]?=↥⟨.lst,L.map AI⟩:=by rw[dK,DP];rfl
    have JL:=Ox (mi:=Ca (A1 AB (Ae 4 Oi (J π (J ω (J (I 5) (J (I 6) A2))))) η)) (it:=FG (.ref ⇑H1)) (g:=EI [(A6 0),(A6 1)]) (t:=pu true) (e:=I 0) (ρ:= σ) (h:=AU) (h0:=H1) (nl:=2) (caps:=[]) (L.map AI) (λ_=>true) (λw=>match w with
     |.tup [x,_]=>x
     |_=>.non) (λρ=>∃s t,ρ=[s,t]) (by rw[CE];lia) (IT Ez HZ) ⟨none,none,rfl⟩ (λj acc _=>K3 (Bl _ Ez _) j) (by rintro w hw ρ acc ⟨s,t,rfl⟩;obtain⟨y,_,rfl⟩:=List.mem_map.mp hw;exact⟨[↥(.int (y.1:Int)),↥(.int (y.2:Int))],by simp[AI],⟨_,_,rfl⟩,rfl,λ_=>rfl⟩)
    have CC:((L.map AI).filter λ_=>true).map (λw=>match w with
     |.tup [x,_]=>x
     |_=>.non)=L.map λx=>.int (x.1:Int):=by
     rw[List.filter_eq_self.mpr (λ_ _=>rfl),SI];rfl
    rw[CC]at JL;have ii:=z2 (h:=AU++[⟨.lst,L.map λx=>.int (x.1:Int)⟩]) (n:=⇑AU) (L:=L) (by rw[DP];rfl) hh;have CZ:∀H,AB ((Ak kw) s) (.int 1) H=.ok (.int (hh:Int),H):=λH=>by rw[AP];rfl
    have gD:∀H,I 7 σ H=.ok ((Ak kw) s,H):=λH=>by rw[eσ];exact I2 _ _ _
    obtain⟨C1,jf⟩:∃C1,C1=AU++[(⟨.lst,L.map λx=>.int (x.1:Int)⟩:O)]:=ο;rw[<-jf]at JL ii;have n1:h<+: C1:=by rw[jf,dK];exact FC (FC fM _) _
    by_cases hm:∃x∈L,x.1=hh
    .refine⟨.int (hh:Int),?_,.inr ⟨hh,rfl,.inr ⟨hh,by rw[RD,AP],abn,?_⟩⟩⟩
     .rw[Am,Cz,BW,A0,if_pos (by rfl),Cz,Eg,BG,BG,gD,A0,Be,A0,CZ,A0,JL,A0,ii,A0,F7,A0,if_pos (hm:),FZ,BG,gD,A0,Be,A0,CZ,A0,A0,Tk,A0,GT,A0];exact aM h _ _ rfl (IW n1)
     .obtain⟨x,AF,e⟩:=hm;exact⟨x,(VS x).mp AF,e⟩
    .refine⟨.non,?_,.inl ⟨rfl,λz=>?_⟩⟩
     .rw[Am,Cz,BW,A0,if_pos (by rfl),Cz,Eg,BG,BG,gD,A0,Be,A0,CZ,A0,JL,A0,ii,A0,F7,A0,if_neg (hm:),FD,A0,Ax,FZ,Be,A0,A0,GT,A0];exact aM h _ _ rfl (IW n1)
     .rcases z with z|⟨h2,e,_,x,Au,ex⟩
      .exact dU z
      .rw[RD,AP]at e;cases e;exact hm ⟨x,(VS x).mpr Au,ex⟩
   .refine⟨.non,?_,.inl ⟨rfl,λz=>?_⟩⟩
    .rw[Am];exact fin (by rw[Cz,BW,A0,if_neg γ,FD])
    .rcases z with z|⟨h2,e,nw,_⟩
     .exact dU z
     .rw[<-Pl]at nw;exact nw (kA.mp rfl)
  .have BW:F9 (AV (A1 Ξ (A1 AB (I 7) η) (pu (.str (AL "forget"))))) (Du (AV (Ae 2 Rq (J (I 8) (J (A1 AB (I 5) η) A2))))) σ H1=.ok (false,H1):=by
     rw[v_and,C_,A0,if_neg hf]
   refine⟨.non,?_,.inl ⟨rfl,λz=>?_⟩⟩
   .rw[Am];exact fin (by rw[Cz,BW,A0,if_neg γ,FD])
   .rcases z with z|⟨h2,e,_⟩
    .exact dU z
    .rw[RD]at e;exact hf (by rw[Fy e];rfl)
end
end E4
namespace E4
section
variable{cs:↑Nat}{ws:ν}{A B:↑↑Ce}{ps:↑CH}{h:A5}{n b0 b1 q:Nat}
def FX(cs:↑Nat)(ws:ν)(k:Nat):↑AS:=(CR cs k).filter λd=>(Dt ws d).isNone
def dY:Af:=BZ (AV (A1 (Cs false) (As (J ψ (J Θ A2))) (B3 (Av "Net" "far") π))) (EV (DQ DV ω (J (As (J ψ (J Θ A2))) A2))) B_
def dZ:Af:=DZ (Ct (J (A1 AB (B3 (Av "Net" "counts") π) ψ) A2)) (A6 3) dY
def adQ(N:Gk cs ws)(HI:FL h n cs ws):TC [.ref n] h=.ok (.ref ⇑h,h++[⟨.lst,(FX cs ws ⇑cs).map AI⟩]):=by
 obtain⟨f,AA,AE⟩:=HI.ex;have EJ:=N.EJ;have Z_:=Pd N.c ⇑cs;have Ee:∀{L:↑AS}{M:↑AS},⇑L<=⇑M->⇑M<=24->⇑L+1<=B1:=λa b=>by unfold B1;lia
 have Pn:∀g:A5,Av "Net" "many" ST (h++g)=.ok (.int ⇑cs,h++g):=λg=>Dy (Bl _ AA _) rfl;have cg:∀g:A5,Av "Net" "counts" ST (h++g)=.ok (.tup (Bq cs),h++g):=λg=>Dy (Bl _ AA _) rfl;have P4:∀g:A5,Av "Net" "far" ST (h++g)=.ok (.ref f,h++g):=λg=>Dy (Bl _ AA _) rfl;have B2:=Ends.FW (MZ (mi:=Ct (J (B3 (Av "Net" "many") π) A2)) (g:=A6 2) (b:=dZ) (ρ:=[χ,υ,none,none]) (h:=h++[⟨.lst,[]⟩]) (h0:=h++[⟨.lst,[]⟩]) 0 ⇑cs δ (λj ρ H=>∃s t,ρ=[χ,υ,s,t]/\H=h++[⟨.lst,(FX cs ws j).map AI⟩]) (T:=λCK H=>∃s t,CK=.AM [χ,υ,s,t]/\H=h++[⟨.lst,(FX cs ws ⇑cs).map AI⟩]) (Ir (by rw[BD,Gv,show I 0 [χ,υ,none,none] (h++[⟨.lst,[]⟩])=.ok (.ref n,h++[⟨.lst,[]⟩])from rfl,A0,Pn,A0,Bx];rfl) δ) ⟨none,none,rfl,rfl⟩ (by
  rintro j _ _ Ac ⟨s,t,rfl,rfl⟩;refine⟨[χ,υ,τ,t],h++[⟨.lst,(FX cs ws j).map AI⟩],γ,?_⟩;have lc:cs.getD j 0<=4:=by rw[EC,C7 Ac];exact(N.c _ (Hu _)).2
  have yx:AB (.tup (Bq cs)) (.int (j:Int)) (h++[⟨.lst,(FX cs ws j).map AI⟩])=.ok (.int (cs.getD j 0:Nat),h++[⟨.lst,(FX cs ws j).map AI⟩]):=T2 _ (ws:=Bq cs) rfl (by simp[Bq,EC,Ac]);have a7:=Ends.FW (MZ (mi:=Ct (J (A1 AB (B3 (Av "Net" "counts") π) ψ) A2)) (g:=A6 3) (b:=dY) (ρ:=[χ,υ,τ,t]) (h:=h++[⟨.lst,(FX cs ws j).map AI⟩]) (h0:=h++[⟨.lst,(FX cs ws j).map AI⟩]) 0 (cs.getD j 0) δ (λk ρ H=>∃t,ρ=[χ,υ,τ,t]/\H=h++[⟨.lst,(FX cs ws j++((C8 k).map λi=>(j,i)).filter λd=>(Dt ws d).isNone).map AI⟩]) (T:=λCK H=>∃t,CK=.AM [χ,υ,τ,t]/\H=h++[⟨.lst,(FX cs ws (j+1)).map AI⟩]) (Ir (by
   have v0:∀H,I 0 [χ,υ,τ,t] H=.ok (.ref n,H):=λ_=>rfl;have v2:∀H,I 2 [χ,υ,τ,t] H=.ok (.int (j:Int),H):=λ_=>rfl;rw[BD,BG,Gv,v0,A0,cg,A0,v2,A0,yx,A0,Bx,A0]) δ) ⟨t,rfl,γ⟩ (by
    rintro k _ _ AN ⟨t,rfl,rfl⟩;obtain⟨L,HZ⟩:∃L,L=FX cs ws j++((C8 k).map λi=>(j,i)).filter λd=>(Dt ws d).isNone:=ο;rw[<-HZ];obtain⟨r,Ao⟩:∃r:B5,r=[χ,υ,τ,↥(.int (k:Int))]:=ο;refine⟨r,h++[⟨.lst,L.map AI⟩],by rw[Ao];simp,?_⟩;have v0:∀H,I 0 r H=.ok (.ref n,H):=by rw[Ao];exact λ_=>rfl
    have v1:∀H,I 1 r H=.ok (.ref ⇑h,H):=by rw[Ao];exact λ_=>rfl
    have Hp:∀H,As (J ψ (J Θ A2)) r H=.ok (AI (j,k),H):=by rw[Ao];exact λ_=>rfl
    have z:(h++[(⟨.lst,L.map AI⟩:O)])[⇑h]?=↥⟨.lst,L.map AI⟩:=by rw[DP];rfl
    have CZ:Cs false (AI (j,k)) (.ref f) (h++[⟨.lst,L.map AI⟩])=.ok (.AO (Dt ws (j,k)).isNone,h++[⟨.lst,L.map AI⟩]):=by unfold Cs;rw[YW (Bl _ AE _)];cases Dt ws (j,k)<;>rfl
    have ex:L++(if(Dt ws (j,k)).isNone=true then[(j,k)]else[])=FX cs ws j++((C8 (k+1)).map λi=>(j,i)).filter λd=>(Dt ws d).isNone:=by
     rw[HZ,Ub,JG,gr,<-Dd]
     congr 1
     erw[Do,IE,PG,List.filter_nil]
    have OY:⇑L<=28:=by rw[HZ,F1];have a1:⇑(FX cs ws j)<=⇑(CR cs j):=X6 _ _;have a2:=Pd N.c j;have HM:⇑(((C8 k).map λi=>(j,i)).filter λd=>(Dt ws d).isNone)<=_:=X6 _ _;rw[CE,SF]at HM;lia
    unfold dY;rw[Cz,Eg,BG,Hp,A0,Gv,v0,A0,P4,A0,CZ,A0,F7,A0];cases A4:(Dt ws (j,k)).isNone
    .rw[if_neg γ,FD];exact⟨_,_,rfl,_,Ao,by rw[<-ex,A4];simp⟩
    .rw[if_pos rfl,JD,JV (us:=[AI (j,k)]) (ws':=(L++[(j,k)]).map AI) (r:=.non) (v1 _) z (by rw[BD,Hp,A0,Bx];rfl) z (by simp[DV]) (by simp[B1];lia),A0,Po];exact⟨_,_,rfl,_,Ao,by rw[<-ex,A4];rfl⟩) (by
    rintro _ _ ⟨t,rfl,rfl⟩;refine⟨t,rfl,?_⟩;have:FX cs ws (j+1)=FX cs ws j++((C8 (cs.getD j 0)).map λi=>(j,i)).filter λd=>(Dt ws d).isNone:=by unfold FX;rw[YA,gr];rfl
    rw[this]))
  obtain⟨_,_,El,t,rfl,rfl⟩:=a7;unfold dZ;rw[I3,El];exact⟨_,_,rfl,_,_,rfl,rfl⟩) (by
  rintro _ _ ⟨s,t,rfl,rfl⟩;exact⟨s,t,rfl,rfl⟩))
 obtain⟨_,_,Go,s,t,rfl,rfl⟩:=B2;have BV:TC [.ref n] h=((Xl [χ,none,none,none] h).bind outF).bind λp=>BX.settle h p.1 p.2:=rfl;have s0:AR (Bd A2) (A6 1) [χ,none,none,none] h=.ok (.AM [χ,υ,none,none],h++[⟨.lst,[]⟩]):=by simp[nw,B1]
 have BC:Xl=AK (AR (Bd A2) (A6 1)) (AK (DZ (Ct (J (B3 (Av "Net" "many") π) A2)) (A6 2) dZ) (At ω)):=rfl;rw[BV,BC,Am,s0,A0,Ax,Am,I3,Go,A0,Ax,FZ,show I 1 [χ,υ,s,t] (h++[⟨.lst,(FX cs ws ⇑cs).map AI⟩])=.ok (.ref ⇑h,h++[⟨.lst,(FX cs ws ⇑cs).map AI⟩])from rfl,A0,A0,GT,A0];exact MC h _ rfl (GR _ _ e0)
def fi:(AL "xxxx").cps.toList=[120,120,120,120]:=by decide+kernel
def aiQ:QC (AL "xxxx"):=⟨by rw[fi];rfl,λc AJ=>by rw[fi]at AJ;erw[Ix,PI,or_false,or_self]at AJ;exact .inr (.inr AJ)⟩
def aiP(a:Nat):LR (AL "xxxx") a=true:=by erw[LR,V9,fi,SH,hH];intro k AN;rcases(by lia:k=0\/k=1\/k=2\/k=3)with rfl|rfl|rfl|rfl<;>simp
def so(h:A5):Ss [.str (AL "xxxx")] h=.ok (.ref ⇑h,h++[⟨.lst,(C8 16).map λi:Nat=>W.int (i:Int)⟩]):=by
 obtain⟨n,Az⟩:∃n,n=16:=ο;have Te:=aiQ;have jJ:=aiP;obtain⟨x,ex⟩:∃x,x=AL "xxxx":=ο;rw[<-ex]at Te jJ |-;rw[<-Az];have g:J (A1 addW (pu Ot) ζ) A2 [↥(.str x)] h=.ok ([.int (n:Int)],h):=by rw[Az];simp[Ot]
 have c:=Ox (mi:=Ct (J (A1 addW (pu Ot) ζ) A2)) (it:=KA 0 n) (g:=A6 0) (t:=AV (Ae 2 PY (J ω Δ))) (e:=I 0) (ρ:=[↥(.str x)]) (h:=h) (h0:=h) (nl:=1) (caps:=[0]) ((C8 n).map λi:Nat=>W.int (i:Int)) (λ_=>true) id (λρ=>∃s,ρ=[s,↥(.str x)]) (by simp;lia) (Ir g δ) ⟨none,rfl⟩ (λj acc Ac=>by
   erw[CE,SF]at Ac;erw[KA,Da];by_cases DI:j<n
   .rw[PN DI];simp[DI]
   .rw[JE (by simp;lia)];simp[DI]) (by
   rintro w hw ρ acc ⟨s,rfl⟩;obtain⟨i,hi,rfl⟩:=List.mem_map.mp hw;have hi:=List.mem_range.mp hi;have f:=jC Te (a:=i) δ (h++[⟨.lst,acc⟩]);rw[jJ i]at f;refine⟨[↥(.int (i:Int)),↥(.str x)],γ,⟨_,rfl⟩,?_,λ_=>rfl⟩;have q:Ae 2 PY (J ω Δ) [↥(.int (i:Int)),↥(.str x)] (h++[⟨.lst,acc⟩])=.ok (.AO true,h++[⟨.lst,acc⟩]):=by
    have a:J ω Δ [↥(.int (i:Int)),↥(.str x)] (h++[⟨.lst,acc⟩])=.ok ([.str x,.int (i:Int)],h++[⟨.lst,acc⟩]):=γ
    unfold Ae;rw[Hq,a,A0];exact f
   rw[Eg,q];rfl)
 rw[List.filter_eq_self.mpr (λ_ _=>rfl),List.map_id]at c;have BV:Ss [.str x] h=((Xu [↥(.str x)] h).bind outF).bind λp=>BX.settle h p.1 p.2:=rfl;rw[BV];unfold Xu;rw[FZ,c,A0,A0,GT,A0];exact MC h _ rfl (GR _ _ λ_=>rfl)
end
variable{kw:Bool}
noncomputable def J1(n b0 b1 q:Nat)(s4 s5 s6 s7:Option W):B5:=[χ,↥(.ref b0),↥(.ref b1),↥(.ref q),s4,s5,s6,s7]
def lr:Af:=(AK (AR (Ae 7 TK (J π (J ω (J ψ (J Θ (J Tm (J (I 5) (J (I 6) A2)))))))) (A6 7))
    (BZ (AV (A1 (Dj false) (I 7) Cl)) (At (As (J Tm (J (I 5) (J (I 6) (J (I 7) A2)))))) B_))
def dg:Af:=DZ (Ca (Ae 1 Ss (J (pu (.str (AL "xxxx"))) A2))) (A6 6) lr
def Zc:Af:=DZ (Ca (CO "Net" "outer" 0 TC π A2)) (A6 5) dg
section
variable{cs:↑Nat}{ws:ν}{A B:↑↑Ce}{ps:↑CH}{h:A5}{n b0 b1 q:Nat}
def Lx(ws:ν)(A B:↑↑Ce)(ps:↑CH)(p:Nat)(d:AS):Prop:=∀a,a<16->¬Flt ws A B ps p d a
def Np(p:Nat)(d:AS)(a x:Nat):W:=.tup [.int (p:Int),AI d,.int (a:Int),.int (x:Int)]
def aaj(N:Gk cs ws)(GC:F2 cs A)(Fs:F2 cs B)(P:LA ⇑cs ps)(HI:FL h n cs ws)(Ga:D3 h b0 A)(HA:D3 h b1 B)(eq:h[q]?=↥⟨.lst,ps.map (Ak kw)⟩){p:Nat}(AT:p< ⇑ps){d:AS}(hd:d∈CR cs ⇑cs)(g:A5)(s6 s7:Option W) :
  Ends (dg (J1 n b0 b1 q ↥(.int (p:Int)) KK s6 s7) (h++g)) λCK H=>(∃g',H=h++g++g')/\((∃s6 s7,CK=.AM (J1 n b0 b1 q ↥(.int (p:Int)) KK s6 s7)/\Lx ws A B ps p d)\/∃a x,CK=.Dq (Np p d a x)/\Flt ws A B ps p d a):=by
 obtain⟨NR,jd⟩:∃n,n=16:=ο;have ad:=so (h++g);have sp:∀{a:Nat},a<NR->a<16:=λz=>δ
 have Il:∀{P:Nat->Prop},(∀a,a<NR->P a)->∀a,a<16->P a:=λz a AG=>z a δ;have AZ:NR<1000:=δ
 rw[<-jd]at ad;clear jd;have z:(h++g++[(⟨.lst,(C8 NR).map λi:Nat=>W.int (i:Int)⟩:O)])[⇑(h++g)]?=↥⟨.lst,(C8 NR).map λi:Nat=>W.int (i:Int)⟩:=by rw[DP];rfl
 have mi:∀ρ,Ae 1 Ss (J (pu (.str (AL "xxxx"))) A2) ρ (h++g)=.ok (.ref ⇑(h++g),h++g++[⟨.lst,(C8 NR).map λi:Nat=>W.int (i:Int)⟩]):=λρ=>by have a:J (pu (.str (AL "xxxx"))) A2 ρ (h++g)=.ok ([.str (AL "xxxx")],h++g):=rfl;rw[GZ,a,A0];exact ad
 unfold dg;rw[I3];refine Ends.FW (P1 (it:=FG (.ref ⇑(h++g))) ((C8 NR).map λi:Nat=>W.int (i:Int)) (AZ:) (λj ρ H=>(∃s6 s7,ρ=J1 n b0 b1 q ↥(.int (p:Int)) KK s6 s7)/\H=h++g++[⟨.lst,(C8 NR).map λi:Nat=>W.int (i:Int)⟩]/\∀a,a<j->¬Flt ws A B ps p d a) (IT z (mi _)) (λj ρ H _ q=>by obtain⟨_,rfl,_⟩:=q;exact K3 z j) ⟨⟨_,_,rfl⟩,rfl,λa AG=>absurd AG (XH _)⟩ ?_ ?_)
 .rintro j w _ _ C2 ⟨⟨s6,s7,rfl⟩,rfl,no⟩;rw[Da]at C2;have Ac:j<NR:=by
   refine Nat.lt_of_not_le λz=>?_;rw[JE (z:)]at C2;cases C2
  rw[PN Ac]at C2;cases C2;obtain⟨H,Bt⟩:∃H,H=h++g++[(⟨.lst,(C8 NR).map λi:Nat=>W.int (i:Int)⟩:O)]:=ο;rw[<-Bt];obtain⟨ρ,BY⟩:∃ρ:Option W->B5,ρ=λs=>J1 n b0 b1 q ↥(.int (p:Int)) KK τ s:=ο;refine⟨ρ s7,H,by rw[BY];simp[J1],?_⟩;have pr:h<+: H:=by rw[Bt];exact FC (FN _ _) _
  obtain⟨r,Ao⟩:=pr;obtain⟨w,C2,alt⟩:=y7 (h:=H) (n:=n) (b0:=b0) (b1:=b1) (q:=q) N GC Fs P (by rw[<-Ao];exact HI.more r) (by rw[<-Ao];exact Ga.more r) (by rw[<-Ao];exact HA.more r) (by rw[<-Ao];exact Bl _ eq r) AT hd (sp Ac);have v4:∀s H,I 4 (ρ s) H=.ok (.int (p:Int),H):=by rw[BY];exact λ_ _=>rfl
  have IY:∀s H,I 5 (ρ s) H=.ok (AI d,H):=by rw[BY];exact λ_ _=>rfl
  have v6:∀s H,I 6 (ρ s) H=.ok (.int (j:Int),H):=by rw[BY];exact λ_ _=>rfl
  have I2:∀s H,I 7 (ρ ↥s) H=.ok (s,H):=by rw[BY];exact λ_ _=>rfl
  have s1:AR (Ae 7 TK (J π (J ω (J ψ (J Θ (J Tm (J (I 5) (J (I 6) A2)))))))) (A6 7) (ρ s7) H=.ok (.AM (ρ ↥w),H):=by
   have a:J π (J ω (J ψ (J Θ (J Tm (J (I 5) (J (I 6) A2)))))) (ρ s7) H=.ok ([.ref n,.ref b0,.ref b1,.ref q,.int (p:Int),AI d,.int (j:Int)],H):=by rw[BY];rfl
   rw[Cy,GZ,a,A0,if_pos (by rfl),C2,A0,BY];rfl
  unfold lr;rcases alt with⟨rfl,abb⟩|⟨x,rfl,Wt⟩
  .rw[Am,s1,A0,Ax,Cz,Eg,BG,I2,A0,Be,A0];refine⟨.AM (ρ (↥.non)),H,rfl,⟨_,_,by rw[BY]⟩,rfl,λa AG=>?_⟩;by_cases e:a=j
   .subst e;exact abb
   .exact no a δ
  .rw[Am,s1,A0,Ax,Cz,Eg,BG,I2,A0,Be,A0];refine⟨.Dq (Np p d j x),H,?_,⟨_,Bt⟩,.inr ⟨j,x,rfl,Wt⟩⟩;have i:Dj false (.int (x:Int)) .non H=.ok (.AO true,H):=rfl;rw[i,A0,F7,A0,if_pos rfl,FZ,Je,BD,v4,A0,BD,IY,A0,BD,v6,A0,BD,I2,A0,Bx];rfl
 .rintro _ _ ⟨⟨s6,s7,rfl⟩,rfl,no⟩;rw[CE,SF]at no;exact⟨⟨_,rfl⟩,.inl ⟨_,_,rfl,λa AG=>Il (P:=λa=>¬Flt ws A B ps p d a) no a AG⟩⟩
def aak(N:Gk cs ws)(GC:F2 cs A)(Fs:F2 cs B)(P:LA ⇑cs ps)(HI:FL h n cs ws)(Ga:D3 h b0 A)(HA:D3 h b1 B)(eq:h[q]?=↥⟨.lst,ps.map (Ak kw)⟩){p:Nat}(AT:p< ⇑ps)(g:A5)(s5 s6 s7:Option W) :
  Ends (Zc (J1 n b0 b1 q ↥(.int (p:Int)) s5 s6 s7) (h++g)) λCK H=>(∃g',H=h++g')/\((∃s5 s6 s7,CK=.AM (J1 n b0 b1 q ↥(.int (p:Int)) s5 s6 s7)/\∀d∈FX cs ws ⇑cs,Lx ws A B ps p d)\/∃d a x,CK=.Dq (Np p d a x)/\d∈CR cs ⇑cs/\Flt ws A B ps p d a):=by
 have mr:=adQ N (HI.more g);have Hi:=Pd N.c ⇑cs;have EJ:=N.EJ;have lo:⇑(FX cs ws ⇑cs)<=⇑(CR cs ⇑cs):=X6 _ _;obtain⟨L,HZ⟩:∃L,L=FX cs ws ⇑cs:=ο;have sub:∀d∈L,d∈CR cs ⇑cs:=λd hd=>by rw[HZ]at hd;exact(List.mem_filter.mp hd).1
 rw[<-HZ]at mr lo |-;have z:(h++g++[(⟨.lst,L.map AI⟩:O)])[⇑(h++g)]?=↥⟨.lst,L.map AI⟩:=by rw[DP];rfl
 obtain⟨f,AA,_⟩:=(HI.more g).ex;have mi:CO "Net" "outer" 0 TC π A2 (J1 n b0 b1 q ↥(.int (p:Int)) s5 s6 s7) (h++g)=.ok (.ref ⇑(h++g),h++g++[⟨.lst,L.map AI⟩]):=NP (h1:=h++g) rfl AA rfl mr;unfold Zc;rw[I3];refine Ends.FW (P1 (it:=FG (.ref ⇑(h++g))) (L.map AI) (by rw[CE];lia) (λj ρ H=>(∃s5 s6 s7,ρ=J1 n b0 b1 q ↥(.int (p:Int)) s5 s6 s7)/\(∃g',H=h++g++[⟨.lst,L.map AI⟩]++g')/\∀i d,i<j->L[i]?=↥d->Lx ws A B ps p d) (IT z mi) (λj ρ H _ q=>by obtain⟨_,⟨g',rfl⟩,_⟩:=q;exact K3 (Bl _ z g') j) ⟨⟨_,_,_,rfl⟩,⟨[],γ⟩,λi d hi=>absurd hi (XH _)⟩ ?_ ?_)
 .rintro j w _ _ C2 ⟨⟨s5,s6,s7,rfl⟩,⟨g',rfl⟩,no⟩;rw[Da]at C2;cases BV:L[j]? with
  |none=>rw[BV]at C2;cases C2
  |some d=>
   rw[BV]at C2;cases C2;have Bt:h++g++[(⟨.lst,L.map AI⟩:O)]++g'=h++(g++[⟨.lst,L.map AI⟩]++g'):=γ
   refine⟨J1 n b0 b1 q ↥(.int (p:Int)) KK s6 s7,h++g++[⟨.lst,L.map AI⟩]++g',by simp[J1],?_⟩;have a7:=aaj N GC Fs P HI Ga HA eq AT (sub d (IG BV)) (g++[⟨.lst,L.map AI⟩]++g') s6 s7;rw[<-Bt]at a7;obtain⟨CK,A9,e,⟨g2,rfl⟩,alt⟩:=a7;refine⟨CK,_,e,?_⟩;rcases alt with⟨s6,s7,rfl,Il⟩|⟨a,x,rfl,Wt⟩
   .refine⟨⟨_,_,_,rfl⟩,⟨g'++g2,γ⟩,λi d' hi Bi=>?_⟩;by_cases El:i=j
    .subst El;rw[BV]at Bi;cases Bi;exact Il
    .exact no i d' δ Bi
   .exact⟨⟨_,by rw[Bt,Dd]⟩,.inr ⟨d,a,x,rfl,sub d (IG BV),Wt⟩⟩
 .rintro _ _ ⟨⟨s5,s6,s7,rfl⟩,⟨g',rfl⟩,no⟩;rw[CE]at no;refine⟨⟨_,by rw[Dd,Dd]⟩,.inl ⟨_,_,_,rfl,λd hd=>?_⟩⟩;obtain⟨i,hi⟩:=PM hd;exact no i d (List.getElem?_eq_some_iff.mp hi).1 hi
def aae(N:Gk cs ws)(GC:F2 cs A)(Fs:F2 cs B)(P:LA ⇑cs ps)(HI:FL h n cs ws)(Ga:D3 h b0 A)(HA:D3 h b1 B)(eq:h[q]?=↥⟨.lst,ps.map (Ak kw)⟩) :
  ∃w,Zj [.ref n,.ref b0,.ref b1,.ref q] h=.ok (w,h)/\((w=.non/\∀p,p< ⇑ps->∀d∈FX cs ws ⇑cs,Lx ws A B ps p d)\/∃p d a x,w=Np p d a x/\(d∈CR cs ⇑cs/\Flt ws A B ps p d a)/\∀Dv,Dv<p->∀d∈FX cs ws ⇑cs,Lx ws A B ps Dv d):=by
 have V7:=P.l;have lw:BO [.ref q] h=.ok (.int ⇑ps,h):=by rw[Gh eq,CE]
 have B2:=Ends.FW (MZ (mi:=Ct (J (B6 BO (J Θ A2)) A2)) (g:=A6 4) (b:=Zc) (ρ:=J1 n b0 b1 q none none none none) (h:=h) (h0:=h) 0 ⇑ps δ (λj ρ H=>(∃s4 s5 s6 s7,ρ=J1 n b0 b1 q s4 s5 s6 s7)/\(∃g,H=h++g)/\∀p,p<j->∀d∈FX cs ws ⇑cs,Lx ws A B ps p d) (T:=λCK H=>(∃g,H=h++g)/\((∃ρ,CK=.AM ρ/\∀p,p< ⇑ps->∀d∈FX cs ws ⇑cs,Lx ws A B ps p d)\/∃p d a x,CK=.Dq (Np p d a x)/\(d∈CR cs ⇑cs/\Flt ws A B ps p d a)/\∀Dv,Dv<p->∀d∈FX cs ws ⇑cs,Lx ws A B ps Dv d)) (Ir (by
  have I1:I 3 (J1 n b0 b1 q none none none none) h=.ok (.ref q,h):=rfl;rw[BD,G5,BD,I1,A0,Bx,A0,A0,lw,A0,Bx,A0]) δ) ⟨⟨_,_,_,_,rfl⟩,⟨[],γ⟩,λp AT=>absurd AT (XH _)⟩ (by
  rintro j _ _ Ac ⟨⟨s4,s5,s6,s7,rfl⟩,⟨g,rfl⟩,no⟩;refine⟨J1 n b0 b1 q τ s5 s6 s7,h++g,by simp[J1],?_⟩;obtain⟨CK,A9,e,⟨g2,rfl⟩,alt⟩:=aak N GC Fs P HI Ga HA eq Ac g s5 s6 s7;refine⟨CK,_,e,?_⟩;rcases alt with⟨s5,s6,s7,rfl,Il⟩|⟨d,a,x,rfl,Wt⟩
  .refine⟨⟨_,_,_,_,rfl⟩,⟨_,rfl⟩,λp AT=>?_⟩;by_cases El:p=j
   .subst El;exact Il
   .exact no p δ
  .exact⟨⟨_,rfl⟩,.inr ⟨j,d,a,x,rfl,Wt,no⟩⟩) (by
  rintro _ _ ⟨⟨s4,s5,s6,s7,rfl⟩,Ai,no⟩;exact⟨Ai,.inl ⟨_,rfl,no⟩⟩))
 obtain⟨CK,H,Go,⟨g,rfl⟩,alt⟩:=B2;have BV:Zj [.ref n,.ref b0,.ref b1,.ref q] h=((ZA (J1 n b0 b1 q none none none none) h).bind outF).bind λp=>BX.settle h p.1 p.2:=rfl;have BC:ZA=AK (DZ (Ct (J (B6 BO (J Θ A2)) A2)) (A6 4) Zc) (At (pu .non)):=rfl;rw[BV,BC,Am,I3,Go,A0];rcases alt with⟨ρ,rfl,no⟩|⟨p,d,a,x,rfl,no⟩
 .refine⟨.non,?_,.inl ⟨rfl,no⟩⟩;rw[Ax,FZ,Be,A0,A0,GT,A0];exact Rb h _ _ rfl
 .refine⟨Np p d a x,?_,.inr ⟨p,d,a,x,rfl,no⟩⟩;rw[Tk,A0,GT,A0];exact Rb h _ _ rfl
def j9(N:Gk cs ws)(GC:F2 cs A)(Fs:F2 cs B)(P:LA ⇑cs ps)(HI:FL h n cs ws)(Ga:D3 h b0 A)(HA:D3 h b1 B)(eq:h[q]?=↥⟨.lst,ps.map (Ak kw)⟩) :
  ∃w,Og [.ref n,.ref b0,.ref b1,.ref q] h=.ok (w,h)/\((w=.non/\∀p,p< ⇑ps->∀d∈FX cs ws ⇑cs,Lx ws A B ps p d)\/∃p d a x,w=Np p d a x/\(d∈CR cs ⇑cs/\Flt ws A B ps p d a)/\∀Dv,Dv<p->∀d∈FX cs ws ⇑cs,Lx ws A B ps Dv d):=by
 obtain⟨w,C2,alt⟩:=aae N GC Fs P HI Ga HA eq;refine⟨w,?_,alt⟩;have nw:DR w=true:=by rcases alt with⟨rfl,_⟩|⟨p,d,a,x,rfl,_⟩<;>rfl
 obtain⟨ρ,BY⟩:∃ρ:B5,ρ=[χ,↥(.ref b0),↥(.ref b1),↥(.ref q)]:=ο;have a1:J π (J ω (J ψ (J Θ A2))) ρ h=.ok ([.ref n,.ref b0,.ref b1,.ref q],h):=by rw[BY];rfl
 have s0:EV (Ae 4 Ry (J π (J ω (J ψ (J Θ A2))))) ρ h=.ok (.AM ρ,h):=by rw[JD,GZ,a1,A0,if_pos (by rfl),mK N.EJ GC Fs HI Ga HA P eq,A0]
 have BV:Og [.ref n,.ref b0,.ref b1,.ref q] h=((YH ρ h).bind outF).bind λp=>BX.settle h p.1 p.2:=by rw[BY];rfl
 rw[BV];unfold YH;rw[Am,s0,A0,Ax,FZ,GZ,a1,A0,if_pos (by rfl),C2,A0,A0,GT,A0];exact OI h _ nw
end
end E4
namespace E4
def outD(C:G8):↑AS:=FX C.cs C.ws ⇑C.cs
def road(l:Lt):↑AS:=l.pre++[l.d]
structure Ji(C:G8)(S:FR)(ca ga:Nat->Nat):Prop where
 D:RW C S
 ES:∀l∈Cr S,ca l.n<=⇑S.done
 Rz:∀l∈Cr S,l.m=FV (C.ps.take (ca l.n)) (EA l).1
 hd:∀l∈Cr S,EA l∈outD C
 ch:∀l∈Cr S,∀(i:Nat) x y,(road l)[i]?=↥x->(road l)[i+1]?=↥y->J7 C.ws (NC C l.m x.1) x l.a=.at y
 nw:∀l∈S.lets,l.m=0->∀i,ca l.n<=i->i< ⇑S.done->C.ps[i]?≠↥none
 ge:∀e∈S.ended,ga e.1.n<=⇑S.done/\e.2=Hk C (C.ps.take (ga e.1.n)) e.1/\isAt e.2=false
 CK:∀e∈S.ended,(∃x,e.2=.LZ x)->∃p,p< ⇑S.done/\∃d∈outD C,∃a,a<16/\Flt C.ws C.A C.B C.ps p d a
 nn:((Cr S).map (·.n)).Nodup
 Hw:∀l∈Cr S,l.n<S.CV
section
variable{C:G8}{S:FR}{ca ga:Nat->Nat}
def ey(l:Lt):(road l)[0]?=↥(EA l):=by unfold road EA;cases l.pre<;>rfl
def md(ws:ν)(BN:↑Ce)(d:AS)(a x:Nat):J7 ws BN d a≠.LZ x:=λz=>by
 unfold J7 at z
 split at z
 .cases z
 .unfold Kh at z
  split at z
  .cases z
  .split at z<;>cases z
def reach{l:Lt}(g:Ji C S ca ga)(AH:l∈Cr S):Jl C.ws (if l.m=1 then C.B else C.A) l.a (EA l) l.d:=by
 have q:∀(i:Nat) x,(road l)[i]?=↥x->Jl C.ws (if l.m=1 then C.B else C.A) l.a (EA l) x:=λi=>by
  induction i with
  |zero=>intro x e;rw[ey]at e;cases e;exact .ZI
  |succ i C4=>intro y e;have hi:=(List.getElem?_eq_some_iff.mp e).1;exact .YZ (C4 _ (C7 δ)) (g.ch l AH i _ y (C7 δ) e)
 exact q ⇑l.pre l.d (by unfold road;simp)
def aap(g:Ji C S ca ga){l:Lt}(AH:l∈S.lets)(HR:l.m<2)(Y9:l.a<16)(e:K2 S.done l.d.1 l.m=false):∃p,p< ⇑S.done/\∃d∈outD C,∃a,a<16/\Flt C.ws C.A C.B C.ps p d a:=by
 have Me:l∈Cr S:=Gx _ AH;have r:=reach g Me;have jV:=g.D.e;have dl:=g.D.le;have mk:=g.Rz l Me;have ES:=g.ES l Me;have at':∀{k:Nat}{s:CH},s∈C.ps.take k->∃i,i<k/\C.ps[i]?=↥s:=λ{k s} h=>by
  obtain⟨i,hi⟩:=PM h;rw[UN]at hi
  split at hi
  .rename_i AN;exact⟨i,AN,hi⟩
  .cases hi
 have aaw:l.m=0\/l.m=1:=δ
 rcases aaw with m0|GP
 .rw[m0]at r e mk;rw[if_neg ε]at r;have hf:↥(2,l.d.1)∈S.done:=by simpa[K2]using e
  rw[jV]at hf;obtain⟨f,AN,CC⟩:=at' hf;refine⟨f,AN,EA l,g.hd l Me,l.a,Y9,.inr ⟨l.d.1,CC,?_,l.d,r,rfl⟩⟩;rintro⟨i,j,h1,h2,AY⟩;rw[UN]at h1 AY
  split at AY
  .rename_i Ac
   split at h1
   .rename_i hi;have ci:ca l.n<=i:=XN λz=>by
     have:↥(1,(EA l).1)∈C.ps.take (ca l.n):=IG (i:=i) (by rw[UN,if_pos z];exact h1);unfold FV at mk;rw[if_pos this]at mk;cases mk
    exact g.nw l AH m0 j δ δ AY
   .cases h1
  .cases AY
 .rw[GP]at r e mk;rw[if_pos rfl]at r;have hf:↥(0,l.d.1)∉S.done:=by simpa[K2]using e
  have B9:↥(1,(EA l).1)∈C.ps.take (ca l.n):=by refine Q_ λz=>?_;unfold FV at mk;rw[if_neg z]at mk;cases mk
  obtain⟨t,AN,I5⟩:=at' B9;refine⟨t,δ,EA l,g.hd l Me,l.a,Y9,.inl ⟨I5,l.d,r,λz=>hf ?_⟩⟩;obtain⟨i,hi,El⟩:=at' z;rw[jV];exact IG (i:=i) (by rw[UN,if_pos δ];exact El)
def Ji.dB(g:Ji C S ca ga){L a:Nat}{d:AS}(hd:d∈outD C):Ji C (Ov S L d a) (λk=>if k=S.CV then⇑S.done else ca k) ga:=by
 have old:∀l∈Cr S,(if l.n=S.CV then⇑S.done else ca l.n)=ca l.n:=λl AH=>if_neg (by have:=g.Hw l AH;lia);have al:∀{Q:Lt->Prop},(∀l∈Cr S,Q l)->Q (Oj S L d a)->∀l∈Cr (Ov S L d a),Q l:=λq1 q2 l AH=>by
  rcases sx.mp AH with h|rfl
  .exact q1 l h
  .exact q2
 refine⟨⟨g.D.le,g.D.e⟩,al (λl AH=>?_) ?_,al (λl AH=>?_) ?_,al g.hd hd,al g.ch ?_,?_,g.ge,g.CK,?_,al (λl AH=>SE (g.Hw l AH)) (PE _)⟩
 .show(if l.n=S.CV then⇑S.done else ca l.n)<=_;rw[old l AH];exact g.ES l AH
 .show(if S.CV=S.CV then⇑S.done else ca S.CV)<=_;rw[if_pos rfl];exact C5 _
 .show l.m=FV (C.ps.take (if l.n=S.CV then⇑S.done else ca l.n)) (EA l).1;rw[old l AH];exact g.Rz l AH
 .show FV S.done d.1=FV (C.ps.take (if S.CV=S.CV then⇑S.done else ca S.CV)) d.1;rw[if_pos rfl,<-g.D.e]
 .intro i x y AA AE;have:=(List.getElem?_eq_some_iff.mp AE).1;simp[road,Oj]at this
 .intro l AH m0 i h1 h2;erw[Ov,Gj,IC]at AH;have h1:(if l.n=S.CV then⇑S.done else ca l.n)<=i:=h1;have h2:i< ⇑S.done:=h2;rcases AH with AH|rfl
  .rw[old l (Gx _ AH)]at h1;exact g.nw l AH m0 i h1 h2
  .rw[show(Oj S L d a).n=S.CV from rfl,if_pos rfl]at h1;lia
 .have:((Cr (Ov S L d a)).map (·.n)).Perm (S.CV::(Cr S).map (·.n)):=by
    erw[Cr,Ov,JG,Do,IE,Dd,Oj];exact List.perm_middle
  rw[this.nodup_iff,List.nodup_cons];refine⟨λz=>?_,g.nn⟩;obtain⟨l,AH,e⟩:=List.mem_map.mp z;have:=g.Hw l AH;lia
def Ji.step(g:Ji C S ca ga)(HR:∀l∈S.lets,l.m<2)(hm:Mn C S=true):Ji C (MT C S) ca ga:=by
 have DI:=lC g.D hm;have D0:(MT C S).done.length=⇑S.done+1:=by simp[MT]
 refine⟨aeV g.D DI,λl AH=>?_,g.Rz,g.hd,g.ch,λl AH m0 i h1 h2 z=>?_,λe he=>?_,λe he x=>?_,g.nn,g.Hw⟩
 .rw[D0];exact Nat.le_succ_of_le (g.ES l AH)
 .rw[D0]at h2;by_cases hi:i< ⇑S.done
  .exact g.nw l AH m0 i h1 hi z
  .have:i=⇑S.done:=δ
   subst this;unfold Mn at hm;rw[if_neg δ,EC,z]at hm;erw[Qb,Option.isSome_none,Kw,if_false]at hm;have:=List.all_eq_true.mp hm l AH;rw[m0]at this;cases this
 .obtain⟨a,b,c⟩:=g.ge e he;exact⟨by rw[D0];exact Nat.le_succ_of_le a,b,c⟩
 .obtain⟨p,AT,r⟩:=g.CK e he x;exact⟨p,by rw[D0];exact SE AT,r⟩
def Ji.go(g:Ji C S ca ga){Dw BU:↑Lt}{l:Lt}(es:S.lets=Dw++l::BU)(HR:l.m<2)(Y9:l.a<16):Ji C (Hb S Dw l BU (Hk C S.done l)) ca (λk=>if k=l.n then⇑S.done else ga k):=by
 have AH:l∈S.lets:=by rw[es];simp
 have JR:l∈Cr S:=Gx _ AH;have dn:(Hb S Dw l BU (Hk C S.done l)).done=S.done:=by cases Hk C S.done l<;>rfl
 have Az:∀e∈S.ended,e.1.n≠l.n:=λe he z=>by have nn:=g.nn;rw[Cr,JG]at nn;exact(List.nodup_append.mp nn).2.2 _ (List.mem_map.mpr ⟨l,AH,rfl⟩) _ (List.mem_map.mpr ⟨e.1,List.mem_map.mpr ⟨e,he,rfl⟩,rfl⟩) z.symm
 have ge:∀e∈S.ended,(if e.1.n=l.n then⇑S.done else ga e.1.n)<=⇑S.done/\e.2=Hk C (C.ps.take (if e.1.n=l.n then⇑S.done else ga e.1.n)) e.1/\isAt e.2=false:=λe he=>by rw[if_neg (Az e he)];exact g.ge e he
 have sub:∀y,y∈Dw\/y∈BU->y∈S.lets:=λy h=>by rw[es];rcases h with h|h<;>simp[h]
 have fin:∀t,Hk C S.done l=t->isAt t=false->Ji C { S with lets:=Dw++BU,ended:=S.ended++[(l,t)],Cf:=S.Cf+1 } ca (λk=>if k=l.n then⇑S.done else ga k):=λt B9 we=>by
  have al:∀{Q:Lt->Prop},(∀y∈Cr S,Q y)->∀y∈Cr { S with lets:=Dw++BU,ended:=S.ended++[(l,t)],Cf:=S.Cf+1 },Q y:=λq1 y AX=>by
   erw[Cr,JG,Do,IE,Dd,Gj,IC]at AX;rcases AX with AX|AX|AX|rfl
   .exact q1 y (Gx _ (sub y (.inl AX)))
   .exact q1 y (Gx _ (sub y (.inr AX)))
   .exact q1 y (IF _ AX)
   .exact q1 _ JR
  refine⟨⟨g.D.le,g.D.e⟩,al g.ES,al g.Rz,al g.hd,al g.ch,λy AX=>?_,λe he=>?_,λe he AF=>?_,?_,al g.Hw⟩
  .exact g.nw y (sub y (List.mem_append.mp AX))
  .rcases List.mem_append.mp he with he|he
   .exact ge e he
   .rw[IC]at he;subst he;refine⟨?_,?_,we⟩
    .show(if l.n=l.n then⇑S.done else ga l.n)<=⇑S.done;rw[if_pos rfl];exact C5 _
    .show t=Hk C (C.ps.take (if l.n=l.n then⇑S.done else ga l.n)) l;rw[if_pos rfl,<-g.D.e,B9]
  .rcases List.mem_append.mp he with he|he
   .exact g.CK e he AF
   .rw[IC]at he;subst he;obtain⟨x,AF⟩:=AF;refine aap (S:=S) g AH HR Y9 ?_;have AF:t=.LZ x:=AF;rw[<-B9]at AF;unfold Hk at AF
    split at AF
    .exact absurd AF (md _ _ _ _ _)
    .rename_i z;simpa using z
  .have:((Cr { S with lets:=Dw++BU,ended:=S.ended++[(l,t)],Cf:=S.Cf+1 }).map (·.n)).Perm ((Cr S).map (·.n)):=by
     erw[Cr,es,JG,Do,IE,Dd];refine gS _ ?_;have:=(List.perm_append_comm (l₁:=BU.map (·.n)++(S.ended.map (·.1)).map (·.n)) (l₂:=[l.n]));simpa[Dd]using this
   rw[this.nodup_iff];exact g.nn
 cases B9:Hk C S.done l with
 |«at» e=>
  have al:∀{Q:Lt->Prop},(∀y∈Cr S,Q y)->Q (Lj l e)->∀y∈Cr (Hb S Dw l BU (.at e)),Q y:=λq1 q2 y AX=>by
   erw[Cr,Hb,Dd,Ht,Gj,Ix]at AX;rcases AX with AX|rfl|AX|AX
   .exact q1 y (Gx _ (sub y (.inl AX)))
   .exact q2
   .exact q1 y (Gx _ (sub y (.inr AX)))
   .exact q1 y (IF _ AX)
  have hh:EA (Lj l e)=EA l:=by unfold EA Lj;cases l.pre<;>rfl
  have on:J7 C.ws (NC C l.m l.d.1) l.d l.a=.at e:=by
   unfold Hk at B9
   split at B9
   .exact B9
   .cases B9
  refine⟨⟨g.D.le,g.D.e⟩,al g.ES (g.ES l JR),al g.Rz (by rw[hh];exact g.Rz l JR),al g.hd (by rw[hh];exact g.hd l JR),al g.ch ?_,λy AX=>?_,ge,g.CK,?_,al g.Hw (g.Hw l JR)⟩
  .intro i x y AA AE;have Hm:road (Lj l e)=road l++[e]:=rfl;rw[Hm]at AA AE;have hi:=(List.getElem?_eq_some_iff.mp AE).1;rw[F1,gc]at hi;rw[GW δ]at AA;by_cases DI:i+1< ⇑(road l)
   .rw[GW DI]at AE;exact g.ch l JR i x y AA AE
   .have L_:⇑(road l)=⇑l.pre+1:=by simp[road]
    have El:i=⇑l.pre:=δ
    subst El;rw[Jp δ,show⇑l.pre+1- ⇑(road l)=0 by lia]at AE;cases AE;have:(road l)[⇑l.pre]?=↥l.d:=by simp[road]
    rw[this]at AA;cases AA;exact on
  .erw[Hb,Gj,Ix]at AX;rcases AX with AX|rfl|AX
   .exact g.nw y (sub y (.inl AX))
   .exact g.nw l AH
   .exact g.nw y (sub y (.inr AX))
  .have:(Cr (Hb S Dw l BU (.at e))).map (·.n)=(Cr S).map (·.n):=by
     simp[Cr,Hb,es,Lj]
   rw[this];exact g.nn
 |drop x=>exact fin _ B9 rfl
 |out x=>exact fin _ B9 rfl
 |LZ x=>exact fin _ B9 rfl
end
end E4
namespace BX
section
variable{Bp:Type}[DecidableEq Bp]
theorem q_{k k':Bp}{v:W}:∀{ks:↑Bp}{vs:↑W},⇑ks=⇑vs->DL ks (QN ks vs k v) k'=if k'=k then(if k∈ks then↥v else none)else DL ks vs k'
 |[],[],_=>by simp[DL]
 |a::ks,u::vs,l=>by
  have C4:=q_ (k:=k) (k':=k') (v:=v) (ks:=ks) (vs:=vs) (l:);erw[QN,DL];rw[C4];by_cases e:k'=k
  .subst e;by_cases BJ:a=k'
   .subst BJ;simp
   .rw[if_neg BJ,if_pos rfl,if_pos rfl];simp[Ix,show¬k'=a from λz=>BJ z.symm]
  .rw[if_neg e,if_neg e];by_cases BJ:a=k'
   .subst BJ;rw[if_pos rfl,if_pos rfl,if_neg e]
   .rw[if_neg BJ,if_neg BJ]
theorem f3{k:Bp}{v:W}:∀{ks:↑Bp}{vs:↑W},⇑ks=⇑vs->⇑(QN ks vs k v)=⇑vs
 |[],[],_=>rfl
 |a::ks,u::vs,l=>by erw[QN,Dn];rw[f3 (l:)]
theorem qa{k k':Bp}{v:W}:∀{ks:↑Bp}{vs:↑W},⇑ks=⇑vs->k∉ks->DL (ks++[k]) (vs++[v]) k'=if k'=k then↥v else DL ks vs k'
 |[],[],_,_=>by
  erw[Nu,DL];by_cases e:k'=k
  .subst e;simp
  .rw[if_neg e,if_neg (λz=>e z.symm)]
 |a::ks,u::vs,l,n=>by
  have C4:=qa (k:=k) (k':=k') (v:=v) (ks:=ks) (vs:=vs) (l:) (λz=>n (Gw _ z));have na:a≠k:=λz=>n (z▸Hs ..);erw[Ht,DL];rw[C4];by_cases e:k'=k
  .subst e;rw[if_neg na,if_pos rfl,if_pos rfl]
  .rw[if_neg e,if_neg e]
end
def vT{h:A5}{n:Nat}{ks:↑Key}{vs:↑W}{i:Int}{v:W}{ρ:B5}(e:h[n]?=↥⟨.B8 ks,vs⟩)(l:⇑vs<B1)(Ee:⇑ks=⇑vs):∃J5 Rg,Ni ST (.int i) v ρ h=.ok (.AM ρ,h.set n ⟨.B8 J5,Rg⟩)/\ ⇑J5=⇑Rg/\ ⇑Rg<=⇑vs+1/\∀k,DL J5 Rg k=if k=.inl i then↥v else DL ks vs k:=by
 unfold Ni;erw[e,keyOf,if_pos l,NU];by_cases AN:(.inl i:Key)∈ks
 .rw[if_pos AN];exact⟨_,_,rfl,by rw[f3 Ee];exact Ee,by rw[f3 Ee];lia,λk=>by rw[q_ Ee,if_pos AN]⟩
 .rw[if_neg AN];exact⟨_,_,rfl,by simp[Ee],γ,λk=>qa Ee AN⟩
end BX
namespace E4
structure FQ(C:G8)(pc CD:Nat)(h:A5)(S:FR)(ca ga:Nat->Nat):Prop where
 R:E_ C h S
 g:Ji C S ca ga
 ec:∃Gm:↑Nat,h[pc]?=↥⟨.lst,Gm.map W.ref⟩/\ ⇑Gm=S.CV/\∀(i x:Nat),Gm[i]?=↥x->h[x]?=↥⟨.lst,(C.ps.take (ca i)).map Ψ⟩/\C.T<=x
 eg:∃(Li:↑Key)(LV:↑W),h[CD]?=↥⟨.B8 Li,LV⟩/\ ⇑Li=⇑LV/\ ⇑LV<=S.Cf/\∀e∈S.ended,∃x,DL Li LV (Hh e.1)=↥(.ref x)/\h[x]?=↥⟨.lst,(C.ps.take (ga e.1.n)).map Ψ⟩/\C.T<=x
structure R4(C:G8)(ou pp pm pc CD:Nat):Prop where
 o:C.K[ou]?=↥⟨.lst,(outD C).map AI⟩
 p:C.K[pp]?=↥⟨.lst,C.ps.map Ψ⟩
 ne:outD C≠[]
 AJ:C.M+3<=pc/\pc<C.T
 Ai:C.M+3<=CD/\CD<C.T
 iJ:pc≠CD
section
variable{C:G8}{ou pp pm pc CD:Nat}{h h':A5}{S DG:FR}{ca ga GM:Nat->Nat}
def aeZ{l:Lt}{x:Nat}{ss:↑CH}(e:h[x]?=↥⟨.lst,ss.map Ψ⟩)(BV:h[l.Eo]?=↥(JM l)):x≠l.Eo:=λz=>by
 subst z;rw[e]at BV;have BV:ss.map Ψ=(l.pre++[l.d]).map AI:=by injection BV with BV;injection BV
 cases ss with
 |nil=>have:=congrArg List.length BV;simp at this
 |cons s r=>
  cases AT:l.pre++[l.d]with
  |nil=>simp at AT
  |cons x q=>rw[AT]at BV;erw[Do,hD]at BV;cases s<;>simp[Ak,AI]at BV
theorem FQ.app(P:FQ C pc CD h S ca ga)(g:A5):FQ C pc CD (h++g) S ca ga:=by
 obtain⟨Gm,AA,AE,Cd⟩:=P.ec;obtain⟨Li,LV,f1,f2,E9,f4⟩:=P.eg;exact⟨P.R.app g,P.g,⟨Gm,Bl _ AA _,AE,λi x e=>⟨Bl _ (Cd i x e).1 _,(Cd i x e).2⟩⟩,⟨Li,LV,Bl _ f1 _,f2,E9,λe he=>by obtain⟨x,a,b,c⟩:=f4 e he;exact⟨x,a,Bl _ b _,c⟩⟩⟩
def g5(R:E_ C h S){w v:W}{h1:A5}(e:K5 [.ref C.r,w] h=.ok (v,h1)):LC [.ref C.r,w] h=.ok (v,h1):=by
 have Fd:CO "Run" "move" 1 K5 π Ω [ι,↥w,↥.non] h=.ok (v,h1):=M6 (us:=[w]) rfl R.Ao rfl rfl rfl e;have BV:LC [.ref C.r,w] h=(SP [ι,↥w,none] h).bind outF:=rfl;have s1:AR Cl (A6 2) [ι,↥w,none] h=.ok (.AM [ι,↥w,↥.non],h):=rfl;have s2:Oe (CO "Run" "move" 1 K5 π Ω) 2 ["NoMove"] (AR Cl (A6 2)) [ι,↥w,↥.non] h=.ok (.AM [ι,↥w,↥v],h1):=by unfold Oe;rw[Fd];rfl
 rw[BV];unfold SP;rw[Am,s1,A0,Ax,Am,s2,A0,Ax];rfl
def agI(R:E_ C h S){w:W}(e:K5 [.ref C.r,w] h=.exc "NoMove" h):LC [.ref C.r,w] h=.ok (.non,h):=by
 have Fd:CO "Run" "move" 1 K5 π Ω [ι,↥w,↥.non] h=.exc "NoMove" h:=M6 (us:=[w]) rfl R.Ao rfl rfl rfl e;have BV:LC [.ref C.r,w] h=(SP [ι,↥w,none] h).bind outF:=rfl;have s1:AR Cl (A6 2) [ι,↥w,none] h=.ok (.AM [ι,↥w,↥.non],h):=rfl;have s2:Oe (CO "Run" "move" 1 K5 π Ω) 2 ["NoMove"] (AR Cl (A6 2)) [ι,↥w,↥.non] h=.ok (.AM [ι,↥w,↥.non],h):=by unfold Oe;rw[Fd];rfl
 rw[BV];unfold SP;rw[Am,s1,A0,Ax,Am,s2,A0,Ax];rfl
def LK(C:G8)(S:FR):O:=⟨.lst,(C.ps.take ⇑S.done).map Ψ⟩
theorem FQ.dB(k:R4 C ou pp pm pc CD)(c:GI C)(P:FQ C pc CD h S ca ga)(AJ:S.CV<900){a x:Nat}(BJ:h[x]?=↥(LK C S))(BW:C.T<=x){Gm:↑Nat}(AA:h[pc]?=↥⟨.lst,Gm.map W.ref⟩){d:AS}(hd:d∈outD C)(AG:a<16) :
  ∃v h' DG HB,LC [.ref C.r,Ow d a] (h.set pc ⟨.lst,(Gm++[x]).map W.ref⟩)=.ok (v,h')/\FQ C pc CD h' DG HB ga/\DG.CV<=S.CV+1/\DG.Cf<=S.Cf+1/\∀n,C.M+3<=n->n<C.T->n≠pc->n≠CD->h'[n]?=h[n]?:=by
 obtain⟨i0,Sq,AE,Cd⟩:=P.ec;obtain⟨Li,LV,f1,f2,E9,f4⟩:=P.eg;obtain rfl:Gm=i0:=by
  rw[AA]at Sq;have Sq:Gm.map W.ref=i0.map W.ref:=by injection Sq with Sq;injection Sq
  exact List.map_inj_right (λ_ _ z=>by injection z)|>.mp Sq
 have AH:=P.R.AH;have JZ:=c.JZ;obtain⟨k1,k2⟩:=k.AJ;obtain⟨q1,q2⟩:=k.Ai;have eR:=k.iJ;obtain⟨H,Bt⟩:∃H,H=h.set pc ⟨.lst,(Gm++[x]).map W.ref⟩:=⟨_,rfl⟩;have Jk:E_ C H S:=by rw[Bt];exact P.R.set c _ k1 k2
 have Kb:⇑H=⇑h:=by rw[Bt];simp
 have keep:∀n,n≠pc->H[n]?=h[n]?:=λn AZ=>by rw[Bt,Gz (λz=>AZ z.symm)]
 obtain⟨GP,HR⟩:=List.mem_filter.mp hd;obtain⟨h',e,EZ,Cm,fr⟩:=tZ c Jk AJ GP (Option.isNone_iff_eq_none.mp HR) AG;rw[<-Bt];have old:∀{n:Nat}{o:O},h[n]?=↥o->C.T<=n->h'[n]?=↥o:=λ{n o} z t=>by have:=HN z;rw[fr n δ δ (by have:=c.DO;lia),keep n δ];exact z
 refine⟨_,h',Ov S ⇑H d a,_,g5 Jk (ac3 Jk e),⟨EZ,P.g.dB hd,⟨Gm++[x],?_,by simp[AE,Ov],λi y AX=>?_⟩,⟨Li,LV,?_,f2,E9,λe he=>?_⟩⟩,C5 _,Uf _,λn a1 a2 HM NB=>?_⟩
 .rw[fr pc δ δ δ,Bt,KD AA]
 .by_cases hi:i< ⇑Gm
  .rw[GW hi]at AX;obtain⟨z,t⟩:=Cd i y AX;rw[if_neg δ];exact⟨old z t,t⟩
  .have:i=⇑Gm:=by
     have:=(List.getElem?_eq_some_iff.mp AX).1;simp at this;lia
   subst this;rw[Jp (C5 _),Nat.sub_self]at AX;cases AX;rw[if_pos AE];exact⟨old BJ BW,BW⟩
 .rw[fr CD δ δ δ,keep CD (λz=>eR z.symm)];exact f1
 .obtain⟨y,a,b,t⟩:=f4 e he;exact⟨y,a,old b t,t⟩
 .rw[fr n δ δ δ,keep n HM]
theorem FQ.go(k:R4 C ou pp pm pc CD)(c:GI C)(P:FQ C pc CD h S ca ga)(hm:S.Cf<900000){x:Nat}(BJ:h[x]?=↥(LK C S))(BW:C.T<=x){l:Lt}(AH:l∈S.lets){ρ:B5} :
  ∃H v h' DG GM,Ni (.ref CD) (.int (l.n:Int)) (.ref x) ρ h=.ok (.AM ρ,H)/\LC [.ref C.r,P8 l.n] H=.ok (v,h')/\FQ C pc CD h' DG ca GM/\DG.CV<=S.CV+1/\DG.Cf<=S.Cf+1/\∀n,C.M+3<=n->n<C.T->n≠pc->n≠CD->h'[n]?=h[n]?:=by
 obtain⟨Gm,AA,AE,Cd⟩:=P.ec;obtain⟨Li,LV,f1,f2,E9,f4⟩:=P.eg;have aj8:=P.R.AH;have JZ:=c.JZ;obtain⟨k1,k2⟩:=k.AJ;obtain⟨q1,q2⟩:=k.Ai;have eR:=k.iJ;have JR:l∈Cr S:=Gx _ AH;have x0:=P.R.lt l JR;obtain⟨J5,Rg,BV,d1,Eb,Vk⟩:=vT (i:=(l.n:Int)) (v:=.ref x) (ρ:=ρ) f1 (by unfold B1;lia) f2;obtain⟨H,Bt⟩:∃H,H=h.set CD ⟨.B8 J5,Rg⟩:=⟨_,rfl⟩;rw[<-Bt]at BV;have Jk:E_ C H S:=by rw[Bt];exact P.R.set c _ q1 q2
 have Kb:⇑H=⇑h:=by rw[Bt];simp
 have keep:∀n,n≠CD->H[n]?=h[n]?:=λn AZ=>by rw[Bt,Gz (λz=>AZ z.symm)]
 obtain⟨Dw,BU,es⟩:=List.append_of_mem AH;obtain⟨h',e,EZ,Cm,fr⟩:=wx c Jk hm es;have DO:=c.DO;have old:∀{n:Nat}{ss:↑CH},h[n]?=↥⟨.lst,ss.map Ψ⟩->C.T<=n->h'[n]?=↥⟨.lst,ss.map Ψ⟩:=λ{n ss} z t=>by have ne:=aeZ z x0.BV;rw[fr n δ δ ne,keep n δ];exact z
 have C_:=x0.C_;have ended:∀e∈(Hb S Dw l BU (Hk C S.done l)).ended,e∈S.ended\/e.1=l:=λe he=>by
  cases B9:Hk C S.done l<;>rw[B9]at he
  .exact .inl he
  all_goals
   rcases List.mem_append.mp he with he|he
   .exact .inl he
   .rw[IC]at he;exact .inr (by rw[he])
 refine⟨H,_,h',_,_,BV,g5 Jk (ac4 Jk e),⟨EZ,P.g.go es x0.m x0.a,⟨Gm,?_,by rw[iv];exact AE,λi y AX=>?_⟩,⟨J5,Rg,?_,d1,by rw[iw];lia,λe he=>?_⟩⟩,by rw[iv];lia,by rw[iw];lia,λn a1 a2 HM NB=>?_⟩
 .rw[fr pc δ δ δ,keep pc eR];exact AA
 .obtain⟨z,t⟩:=Cd i y AX;exact⟨old z t,t⟩
 .rw[fr CD δ δ δ,Bt,KD f1]
 .by_cases Az:e.1.n=l.n
  .refine⟨x,by rw[Vk,if_pos (by simp[Hh,Az])],?_,BW⟩;rw[if_pos Az];exact old BJ BW
  .rcases ended e he with he|he
   .obtain⟨y,a,b,t⟩:=f4 e he;refine⟨y,?_,?_,t⟩
    .rw[Vk,if_neg (by erw[Hh,U_];lia)];exact a
    .rw[if_neg Az];exact old b t
   .exact absurd (by rw[he]) Az
 .rw[fr n δ δ δ,keep n NB]
theorem FQ.step(k:R4 C ou pp pm pc CD)(c:GI C)(P:FQ C pc CD h S ca ga) :
  ∃v h' DG,LC [.ref C.r,r5] h=.ok (v,h')/\FQ C pc CD h' DG ca ga/\DG.CV<=S.CV+1/\DG.Cf<=S.Cf+1/\∀n,C.M+3<=n->n<C.T->n≠pc->n≠CD->h'[n]?=h[n]?:=by
 cases hm:Mn C S
 .exact⟨_,h,S,agI P.R (lI P.R (aeW c P.R P.g.D hm) (.inl rfl)),P,δ,δ,λ_ _ _ _ _=>rfl⟩
 .obtain⟨h',e,EZ,Cm,fr⟩:=aeY c P.R P.g.D hm;obtain⟨Gm,AA,AE,Cd⟩:=P.ec;obtain⟨Li,LV,f1,f2,E9,f4⟩:=P.eg;have DO:=c.DO;obtain⟨k1,k2⟩:=k.AJ;obtain⟨q1,q2⟩:=k.Ai;refine⟨_,h',MT C S,g5 P.R (lI P.R e (.inr ⟨_,rfl⟩)),⟨EZ,P.g.step (λl AH=>(P.R.lt l (Gx _ AH)).m) hm,⟨Gm,by rw[fr pc δ];exact AA,AE,λi y AX=>?_⟩,⟨Li,LV,by rw[fr CD δ];exact f1,f2,E9,λe he=>?_⟩⟩,by simp[MT],by simp[MT],λn a1 _ _ _=>fr n δ⟩
  .obtain⟨z,t⟩:=Cd i y AX;exact⟨by rw[fr y δ];exact z,t⟩
  .obtain⟨y,a,b,t⟩:=f4 e he;exact⟨y,a,by rw[fr y δ];exact b,t⟩
end
abbrev L6:=Option (Bool×Int)
noncomputable def CF:L6->W
 |none=>.tup [.str (AL "step")]
 |some (b,z)=>.tup [.str (if b then AL "come" else AL "go"),.int z]
def fS:Af:=(AK (AR (As (J ac (J (A1 AB (I 8) (A1 BR (A1 AB (I 6) ζ) (B6 BO (J (I 8) A2)))) A2))) (A6 6))
    (Mk (I 5) (A1 AB (I 6) ζ) (I 7)))
def fT:Af:=(AK (AR (As (J (pu (.str (AL "come"))) (J (A1 AB Θ (A1 BR (A1 AB (I 6) ζ) (B6 BO (J Θ A2)))) (J (A1 BR (A1 Cg (A1 AB (I 6) ζ) (pu (.int 30))) (pu (.int 16))) A2)))) (A6 6))
    (EV (DQ DV Tm (J (I 7) A2))))
def WF:DT:=(HS (F9 (AV (A1 Ξ (A1 AB (I 6) η) ac)) (AV (A1 (Ay false) (I 8) (Bd A2)))))
def WG:DT:=(AV (A1 (Ay false) (A1 AB (I 6) η) (pu (.str (AL "step")))))
def UH:Af:=(AK (AR (Bv (D9 ω (pu none) (CP (CO "Run" "place" 0 I9 π A2)))) (A6 7))
    (AK (AR (D8 1 [] (Ca (CO "Run" "under" 0 PX π A2)) (A6 0) (pu true) (A1 AB π η)) (A6 8))
    (AK (BZ WF fS (BZ WG fT B_))
    (EV (Ae 2 LC (J π (J (I 6) A2)))))))
noncomputable def On(r pp pm ou pc CD:Nat)(s6 s7 EF:Option W):B5:=[↥(.ref r),↥(.ref pp),↥(.ref pm),↥(.ref ou),↥(.ref pc),↥(.ref CD),s6,s7,EF]
section
variable{C:G8}{ou pp pm pc CD:Nat}{h h':A5}{S DG:FR}{ca ga GM:Nat->Nat}
def aeE(k:R4 C ou pp pm pc CD)(c:GI C)(P:FQ C pc CD h S ca ga)(AJ:S.CV<800)(hm:S.Cf<800000)(m:L6)(s7 EF:Option W) :
  ∃h' DG HB GM Ey HV KG,UH (On C.r pp pm ou pc CD ↥(CF m) s7 EF) h=.ok (.AM (On C.r pp pm ou pc CD Ey HV KG),h')/\FQ C pc CD h' DG HB GM/\DG.CV<=S.CV+1/\DG.Cf<=S.Cf+1/\∀n,C.M+3<=n->n<C.T->n≠pc->n≠CD->h'[n]?=h[n]?:=by
 have V7:=c.P.l;have le:=P.R.le;have few:=P.R.few;have AH:=P.R.AH;have vQ:=P.g.D.le;obtain⟨ρ,BY⟩:∃ρ:Option W->Option W->Option W->B5,ρ=On C.r pp pm ou pc CD:=ο;rw[<-BY];have v0:∀a b d H,I 0 (ρ a b d) H=.ok (.ref C.r,H):=by rw[BY];exact λ_ _ _ _=>rfl
 have v1:∀a b d H,I 1 (ρ a b d) H=.ok (.ref pp,H):=by rw[BY];exact λ_ _ _ _=>rfl
 have I1:∀a b d H,I 3 (ρ a b d) H=.ok (.ref ou,H):=by rw[BY];exact λ_ _ _ _=>rfl
 have v4:∀a b d H,I 4 (ρ a b d) H=.ok (.ref pc,H):=by rw[BY];exact λ_ _ _ _=>rfl
 have IY:∀a b d H,I 5 (ρ a b d) H=.ok (.ref CD,H):=by rw[BY];exact λ_ _ _ _=>rfl
 have v6:∀a b d H,I 6 (ρ ↥a b d) H=.ok (a,H):=by rw[BY];exact λ_ _ _ _=>rfl
 have I2:∀a b d H,I 7 (ρ a ↥b d) H=.ok (b,H):=by rw[BY];exact λ_ _ _ _=>rfl
 have Kk:∀a b d H,I 8 (ρ a b ↥d) H=.ok (d,H):=by rw[BY];exact λ_ _ _ _=>rfl
 have Wp:∀w a b d H,A6 6 w (ρ a b d) H=.ok (.AM (ρ ↥w b d),H):=by rw[BY];exact λ_ _ _ _ _=>rfl
 have fZ:∀w a b d H,A6 7 w (ρ a b d) H=.ok (.AM (ρ a ↥w d),H):=by rw[BY];exact λ_ _ _ _ _=>rfl
 have afU:∀w a b d H,A6 8 w (ρ a b d) H=.ok (.AM (ρ a b ↥w),H):=by rw[BY];exact λ_ _ _ _ _=>rfl
 obtain⟨a,BJ⟩:∃a,a=⇑h:=ο;obtain⟨h1,AA⟩:∃h1:A5,h1=h++[LK C S]:=ο;have pl:h[pp]?=↥⟨.lst,C.ps.map Ψ⟩:=P.R.Bu _ _ k.p (λz=>by cases z);have s1:AR (Bv (D9 ω (pu none) (CP (CO "Run" "place" 0 I9 π A2)))) (A6 7) (ρ ↥(CF m) s7 EF) h=.ok (.AM (ρ ↥(CF m) ↥(.ref a) EF),h1):=by
  have aeD:CO "Run" "place" 0 I9 π A2 (ρ ↥(CF m) s7 EF) h=.ok (.int (⇑S.done:Int),h):=NP (h1:=h) (v0 _ _ _ _) P.R.Ao rfl (az P.R);have C3:D9 ω (pu none) (CP (CO "Run" "place" 0 I9 π A2)) (ρ ↥(CF m) s7 EF) h=.ok (.ref a,h1):=by rw[MG,v1,A0,Be,A0,gF aeD,A0,QP pl (by rw[CE];lia),Vj _ (by rw[CE];lia),<-Ql,AA,BJ];rfl
  have q:Bv (D9 ω (pu none) (CP (CO "Run" "place" 0 I9 π A2))) (ρ ↥(CF m) s7 EF) h=.ok (.ref a,h1):=by rw[Fv,C3,A0,AA,BJ];exact MC h _ rfl (GR _ _ K6)
  rw[Cy,q,A0,fZ]
 have cA:FQ C pc CD h1 S ca ga:=by rw[AA];exact P.app _
 obtain⟨h2,AE⟩:∃h2:A5,h2=h1++[⟨.lst,S.lets.map Fu⟩]:=ο;obtain⟨AY,Cd⟩:∃AY:A5,AY=h2++[⟨.lst,(S.lets.map λl=>(l.n:Int)).map W.int⟩]:=ο;have r0:h2[⇑h1]?=↥⟨.lst,S.lets.map Fu⟩:=by rw[AE,DP];rfl
 have s2:AR (D8 1 [] (Ca (CO "Run" "under" 0 PX π A2)) (A6 0) (pu true) (A1 AB π η)) (A6 8) (ρ ↥(CF m) ↥(.ref a) EF) h1=.ok (.AM (ρ ↥(CF m) ↥(.ref a) ↥(.ref ⇑h2)),AY):=by
  have un:CO "Run" "under" 0 PX π A2 (ρ ↥(CF m) ↥(.ref a) EF) h1=.ok (.ref ⇑h1,h2):=by rw[AE];exact NP (h1:=h1) (v0 _ _ _ _) cA.R.Ao rfl (afj c cA.R)
  have JL:=Ox (mi:=Ca (CO "Run" "under" 0 PX π A2)) (it:=FG (.ref ⇑h1)) (g:=A6 0) (t:=pu true) (e:=A1 AB π η) (ρ:=ρ ↥(CF m) ↥(.ref a) EF) (h:=h2) (h0:=h1) (nl:=1) (caps:=[]) (S.lets.map Fu) (λ_=>true) (λw=>match w with
   |.tup (x::_)=>x
   |_=>.non) (λρ=>∃s,ρ=[s]) (by rw[CE];lia) (IT r0 un) ⟨none,rfl⟩ (λj acc _=>K3 (Bl _ r0 _) j) (by rintro w hw ρ acc ⟨s,rfl⟩;obtain⟨y,_,rfl⟩:=List.mem_map.mp hw;exact⟨[↥(Fu y)],γ,⟨_,rfl⟩,rfl,λ_=>rfl⟩)
  have CC:((S.lets.map Fu).filter λ_=>true).map (λw=>match w with
   |.tup (x::_)=>x
   |_=>.non)=(S.lets.map λl=>(l.n:Int)).map W.int:=by
   rw[List.filter_eq_self.mpr (λ_ _=>rfl),SI,SI];rfl
  rw[CC,<-Cd]at JL;rw[Cy,JL,A0,afU]
 have P3:FQ C pc CD AY S ca ga:=by rw[Cd,AE];exact(cA.app _).app _
 have fo:AY[⇑h2]?=↥⟨.lst,(S.lets.map λl=>(l.n:Int)).map W.int⟩:=by rw[Cd,DP];rfl
 have rh:AY[a]?=↥(LK C S):=by rw[Cd,AE];refine Bl _ (Bl _ ?_ _) _;rw[AA,BJ,DP];rfl
 have BW:C.T<=a:=δ
 have Yj:∀n,n<C.T->AY[n]?=h[n]?:=λn AZ=>by rw[Cd,AE,AA,Dd,Dd,GW δ]
 obtain⟨r,Ao⟩:∃r:Option W->B5,r=λw=>ρ w ↥(.ref a) ↥(.ref ⇑h2):=ο;have Cf:∀{w v:W}{H A9:A5},LC [.ref C.r,w] H=.ok (v,A9)->EV (Ae 2 LC (J π (J (I 6) A2))) (r ↥w) H=.ok (.AM (r ↥w),A9):=λ{w v H A9} e=>by
  have a1:J π (J (I 6) A2) (r ↥w) H=.ok ([.ref C.r,w],H):=by rw[Ao,BD,v0,A0,BD,v6,A0,Bx,A0,A0]
  rw[JD,GZ,a1,A0,if_pos (by rfl),e,A0]
 have fin:∀{w v:W}{H:A5}{h':A5}{DG:FR}{HB GM:Nat->Nat},BZ WF fS (BZ WG fT B_) (r ↥(CF m)) AY=.ok (.AM (r ↥w),H)->LC [.ref C.r,w] H=.ok (v,h')->FQ C pc CD h' DG HB GM->DG.CV<=S.CV+1->DG.Cf<=S.Cf+1->(∀n,C.M+3<=n->n<C.T->n≠pc->n≠CD->h'[n]?=AY[n]?)->∃h' DG HB GM Ey HV KG,UH (ρ ↥(CF m) s7 EF) h=.ok (.AM (ρ Ey HV KG),h')/\FQ C pc CD h' DG HB GM/\DG.CV<=S.CV+1/\DG.Cf<=S.Cf+1/\∀n,C.M+3<=n->n<C.T->n≠pc->n≠CD->h'[n]?=h[n]?:=λ{w v H h' DG HB GM} q1 q2 Dk LH QL NV=>by
  refine⟨h',DG,HB,GM,↥w,↥(.ref a),↥(.ref ⇑h2),?_,Dk,LH,QL,λn Cn CT EN QX=>(NV n Cn CT EN QX).trans (Yj n CT)⟩;have Yd:r ↥(CF m)=ρ ↥(CF m) ↥(.ref a) ↥(.ref ⇑h2):=by rw[Ao]
  unfold UH;rw[Am,s1,A0,Ax,Am,s2,A0,Ax,<-Yd,Am,q1,A0,Ax,Cf q2,Ao]
 have nl:∀g:A5,Bd A2 (r ↥(CF m)) g=.ok (.ref ⇑g,g++[⟨.lst,[]⟩]):=λg=>by rw[LL,Bx,A0,Hj _ γ]
 have t1:∀{x:Str}{b:Bool},AB (CF m) (.int 0) AY=.ok (.str x,AY)->(x==AL "go")=b->WF (r ↥(CF m)) AY=.ok (b&&!S.lets.isEmpty,AY):=λ{x b} AA AE=>by
  have j3:=eq_nil (h:=AY++[⟨.lst,[]⟩]) (n:=⇑h2) (m:=⇑AY) (l:=S.lets.map λl=>(l.n:Int)) false (Bl _ fo _) (by rw[DP];rfl);rw[List.isEmpty_map]at j3;unfold WF;rw[gH,v_and,Eg,BG,BG,show I 6 (r ↥(CF m)) AY=.ok (CF m,AY)by rw[Ao];exact v6 _ _ _ _,A0,Be,A0,AA,A0,Be,A0,Ol,if_pos rfl,AE,A0,F7,A0];cases b
  .rw[if_neg γ,A0,if_pos (mO _)];rfl
  .rw[if_pos (by rfl),Eg,BG,show I 8 (r ↥(CF m)) AY=.ok (.ref ⇑h2,AY)by rw[Ao];exact Kk _ _ _ _,A0,nl,A0,j3,A0,F7,A0,if_pos (UI _ _)];rfl
 have C_:∀{x:Str}{b:Bool},AB (CF m) (.int 0) AY=.ok (.str x,AY)->(!(x==AL "step"))=b->WG (r ↥(CF m)) AY=.ok (b,AY):=λ{x b} AA AE=>by unfold WG;rw[Eg,BG,BG,show I 6 (r ↥(CF m)) AY=.ok (CF m,AY)by rw[Ao];exact v6 _ _ _ _,A0,Be,A0,AA,A0,Be,A0,Ol,if_neg γ,AE,A0,F7]
 have hp:∀{z:Int}{b:Bool},m=↥(b,z)->WF (r ↥(CF m)) AY=.ok (false,AY)->WG (r ↥(CF m)) AY=.ok (true,AY)->∃h' DG HB GM Ey HV KG,UH (ρ ↥(CF m) s7 EF) h=.ok (.AM (ρ Ey HV KG),h')/\FQ C pc CD h' DG HB GM/\DG.CV<=S.CV+1/\DG.Cf<=S.Cf+1/\∀n,C.M+3<=n->n<C.T->n≠pc->n≠CD->h'[n]?=h[n]?:=λ{z b} em q1 q2=>by
  have lo:0< ⇑(outD C):=List.length_pos_iff.mpr k.ne;obtain⟨j,Ac,Ed⟩:=JX z (n:=⇑(outD C)) lo;obtain⟨d,ji⟩:∃d,d=(outD C)[j]:=ο;have Pa:d∈outD C:=by rw[ji];exact Hu _
  obtain⟨ad,xB,dM⟩:=JX (z/30) (n:=16) ε;have dM:z/30%16=(ad:Int):=dM;have Fc:AY[ou]?=↥⟨.lst,(outD C).map AI⟩:=P3.R.Bu _ _ k.o (λz=>by cases z);have E0:AB (.ref ou) (.int (j:Int)) AY=.ok (AI d,AY):=G2 Fc (by rw[Da,C7 Ac,ji];rfl);have CZ:AB (CF m) (.int 1) AY=.ok (.int z,AY):=by rw[em];rfl
  have lw:BO [.ref ou] AY=.ok (.int ⇑(outD C),AY):=by rw[Gh Fc,CE]
  have Hy:(0:Int)<(⇑(outD C):Int):=δ
  have b6:I 6 (r ↥(CF m)) AY=.ok (CF m,AY):=by rw[Ao];exact v6 _ _ _ _
  have FI:∀w,I 3 (r ↥w) AY=.ok (.ref ou,AY):=λw=>by rw[Ao];exact I1 _ _ _ _
  have f1:AR (As (J (pu (.str (AL "come"))) (J (A1 AB Θ (A1 BR (A1 AB (I 6) ζ) (B6 BO (J Θ A2)))) (J (A1 BR (A1 Cg (A1 AB (I 6) ζ) (pu (.int 30))) (pu (.int 16))) A2)))) (A6 6) (r ↥(CF m)) AY=.ok (.AM (r ↥(Ow d ad)),AY):=by
   have Hp:As (J (pu (.str (AL "come"))) (J (A1 AB Θ (A1 BR (A1 AB (I 6) ζ) (B6 BO (J Θ A2)))) (J (A1 BR (A1 Cg (A1 AB (I 6) ζ) (pu (.int 30))) (pu (.int 16))) A2))) (r ↥(CF m)) AY=.ok (Ow d ad,AY):=by rw[Je];erw[BG,G5,BD,Bx,Be,FI,b6,A0,CZ,lw,Kg,if_pos Hy,Ed,E0,Mp,if_pos (show(0:Int)<30/\(30:Int)<1073741824 by decide),if_pos (show(0:Int)<16 by decide),dM];simp[B1,Ow]
   rw[Cy,Hp,A0,Ao,Wp]
  obtain⟨Gm,Bm,Cc,FF⟩:=P3.ec;have f2:EV (DQ DV Tm (J (I 7) A2)) (r ↥(Ow d ad)) AY=.ok (.AM (r ↥(Ow d ad)),AY.set pc ⟨.lst,(Gm++[a]).map W.ref⟩):=by rw[JD,JV (us:=[.ref a]) (ws':=(Gm++[a]).map W.ref) (r:=.non) (show I 4 (r ↥(Ow d ad)) AY=.ok (.ref pc,AY)by rw[Ao];exact v4 _ _ _ _) Bm (by rw[BD,show I 7 (r ↥(Ow d ad)) AY=.ok (.ref a,AY)by rw[Ao];exact I2 _ _ _ _,A0,Bx];rfl) Bm (by simp[DV]) (by simp[B1,Cc];lia),A0]
  obtain⟨v,h',DG,HB,GP,Mw,Cn,CT,EN⟩:=P3.dB k c δ (a:=ad) rh BW Bm Pa xB;refine fin (w:=Ow d ad) ?_ GP Mw Cn CT EN;rw[Cz,q1,A0,if_neg γ,Cz,q2,A0,if_pos (by rfl)];unfold fT;rw[Am,f1,A0,Ax,f2]
 cases OR:m with
 |none=>
  rw[<-OR];have E8:AB (CF m) (.int 0) AY=.ok (.str (AL "step"),AY):=by rw[OR];rfl
  obtain⟨v,h',DG,GP,Mw,Cn,CT,EN⟩:=P3.step k c;refine fin (w:=r5) (H:=AY) ?_ GP Mw Cn CT EN;rw[Cz,t1 E8 (b:=false) rfl,A0,if_neg γ,Cz,C_ E8 (b:=false) rfl,A0,if_neg γ,FD,OR];rfl
 |some q=>
  rw[<-OR];obtain⟨b,z⟩:=q;cases b
  .have E8:AB (CF m) (.int 0) AY=.ok (.str (AL "go"),AY):=by rw[OR];rfl
   by_cases KX:S.lets=[]
   .exact hp OR (by rw[t1 E8 (b:=true) rfl,KX];rfl) (C_ E8 (b:=true) rfl)
   .have lo:0< ⇑S.lets:=List.length_pos_iff.mpr KX;obtain⟨j,Ac,Ed⟩:=JX z (n:=⇑S.lets) lo;obtain⟨l,el⟩:∃l,l=S.lets[j]:=ο;have W1:l∈S.lets:=by rw[el];exact Hu _
    have E0:AB (.ref ⇑h2) (.int (j:Int)) AY=.ok (.int (l.n:Int),AY):=G2 fo (by rw[Da,Da,C7 Ac,el];rfl);have lw:BO [.ref ⇑h2] AY=.ok (.int ⇑S.lets,AY):=by rw[Gh fo,CE,CE]
    have CZ:AB (CF m) (.int 1) AY=.ok (.int z,AY):=by rw[OR];rfl
    have Hy:(0:Int)<(⇑S.lets:Int):=δ
    have b6:∀w,I 6 (r ↥w) AY=.ok (w,AY):=λw=>by rw[Ao];exact v6 _ _ _ _
    have WI:∀w,I 8 (r ↥w) AY=.ok (.ref ⇑h2,AY):=λw=>by rw[Ao];exact Kk _ _ _ _
    have f1:AR (As (J ac (J (A1 AB (I 8) (A1 BR (A1 AB (I 6) ζ) (B6 BO (J (I 8) A2)))) A2))) (A6 6) (r ↥(CF m)) AY=.ok (.AM (r ↥(P8 l.n)),AY):=by
     have Hp:As (J ac (J (A1 AB (I 8) (A1 BR (A1 AB (I 6) ζ) (B6 BO (J (I 8) A2)))) A2)) (r ↥(CF m)) AY=.ok (P8 l.n,AY):=by rw[Je];erw[BG,G5,BD,Bx,Be,b6,WI,A0,CZ,lw,Kg,if_pos Hy,Ed,E0];simp[B1,P8]
     rw[Cy,Hp,A0,Ao,Wp]
    obtain⟨H,v,h',DG,GM,d1,GP,Mw,Cn,CT,EN⟩:=P3.go k c δ rh BW W1 (ρ:=r ↥(P8 l.n));refine fin (w:=P8 l.n) ?_ GP Mw Cn CT EN;rw[Cz,t1 E8 (b:=true) rfl,A0,if_pos (by cases Aa:S.lets with|nil=>exact absurd Aa KX|cons=>rfl)];have g1:AB (P8 l.n) (.int 1) AY=.ok (.int (l.n:Int),AY):=rfl;unfold fS;rw[Am,f1,A0,Ax,gE,show I 7 (r ↥(P8 l.n)) AY=.ok (.ref a,AY)by rw[Ao];exact I2 _ _ _ _,A0,show I 5 (r ↥(P8 l.n)) AY=.ok (.ref CD,AY)by rw[Ao];exact IY _ _ _ _,A0,BG,b6,A0,Be,A0,g1,A0,d1]
  .have E8:AB (CF m) (.int 0) AY=.ok (.str (AL "come"),AY):=by rw[OR];rfl
   exact hp OR (t1 E8 (b:=false) rfl) (C_ E8 (b:=true) rfl)
end
section
variable{C:G8}{ou pp pm pc CD:Nat}{h h':A5}{S DG:FR}{ca ga GM:Nat->Nat}
def dq(k:R4 C ou pp pm pc CD)(c:GI C)(P:FQ C pc CD h S ca ga)(s0:S.CV=0)(m0:S.Cf=0){ms:↑L6}(lm:⇑ms<=300)(em:h[pm]?=↥⟨.lst,ms.map CF⟩)(hm:C.M+3<=pm/\pm<C.T/\pm≠pc/\pm≠CD)(s6 s7 EF:Option W) :
  Ends (DZ (Ca ψ) (A6 6) UH (On C.r pp pm ou pc CD s6 s7 EF) h) λCK h'=>∃DG HB GM Ey HV KG,CK=.AM (On C.r pp pm ou pc CD Ey HV KG)/\FQ C pc CD h' DG HB GM/\DG.Cf<=300:=by
 rw[I3];refine Ends.FW (P1 (it:=FG (.ref pm)) (ms.map CF) (by rw[CE];lia) (λj ρ H=>∃DG HB GM Ey HV KG,ρ=On C.r pp pm ou pc CD Ey HV KG/\FQ C pc CD H DG HB GM/\DG.CV<=j/\DG.Cf<=j/\H[pm]?=↥⟨.lst,ms.map CF⟩) (IT em rfl) (λj ρ H _ q=>by obtain⟨_,_,_,_,_,_,_,_,_,_,e⟩:=q;exact K3 e j) ⟨S,ca,ga,_,_,_,rfl,P,δ,δ,em⟩ ?_ ?_)
 .rintro j w _ H C2 ⟨DG,HB,GM,Ey,HV,KG,rfl,Mw,Cn,CT,e⟩;rw[Da]at C2;cases ex:ms[j]? with
  |none=>rw[ex]at C2;cases C2
  |some m=>rw[ex]at C2;cases C2;have Ac:=(List.getElem?_eq_some_iff.mp ex).1;obtain⟨h',tK,tr,wo,ajX,ajY,u8,BC,tI,Jg,LM,fr⟩:=aeE k c Mw δ δ m HV KG;refine⟨On C.r pp pm ou pc CD ↥(CF m) HV KG,H,by simp[On],?_⟩;exact⟨_,_,BC,tK,tr,wo,_,_,_,rfl,tI,δ,δ,by rw[fr pm hm.1 hm.2.1 hm.2.2.1 hm.2.2.2];exact e⟩
 .rintro _ H ⟨DG,HB,GM,Ey,HV,KG,rfl,Mw,Cn,CT,e⟩;rw[CE]at CT;exact⟨DG,HB,GM,Ey,HV,KG,rfl,Mw,δ⟩
def Ji.zero:Ji C ⟨[],0,[],[],0⟩ (λ_=>0) (λ_=>0):=
 ⟨⟨IB _,γ⟩,(λ_ x=>by cases x),(λ_ x=>by cases x),(λ_ x=>by cases x),(λ_ x=>by cases x),(λ_ x=>by cases x),(λ_ x=>by cases x),(λ_ x=>by cases x),Qp,(λ_ x=>by cases x)⟩
def aeN(k:R4 C ou pp pm ⇑h (⇑h+1))(c:GI C)(R:E_ C (h++[⟨.lst,[]⟩,⟨.B8 [],[]⟩]) ⟨[],0,[],[],0⟩){ms:↑L6}(lm:⇑ms<=300)(em:h[pm]?=↥⟨.lst,ms.map CF⟩)(hm:C.M+3<=pm) :
  ∃h' DG HB GM,U9 [.ref C.r,.ref pp,.ref pm,.ref ou] h=.ok (.tup [.ref ⇑h,.ref (⇑h+1)],h')/\FQ C ⇑h (⇑h+1) h' DG HB GM/\DG.Cf<=300:=by
 have AT:=HN em;have B9:=k.AJ;have tH:FQ C ⇑h (⇑h+1) (h++[⟨.lst,[]⟩,⟨.B8 [],[]⟩]) ⟨[],0,[],[],0⟩ (λ_=>0) (λ_=>0):=⟨R,Ji.zero,⟨[],by rw[DP];rfl,rfl,λi x e=>by cases e⟩,⟨[],[],by rw[ND];rfl,rfl,C5 _,λe he=>by cases he⟩⟩;obtain⟨CK,h',Go,DG,HB,GM,Ey,HV,KG,rfl,Mw,Cf⟩:=dq k c tH rfl rfl lm (Bl _ em _) ⟨hm,δ,δ,δ⟩ none none none;refine⟨h',DG,HB,GM,?_,Mw,Cf⟩;have BV:U9 [.ref C.r,.ref pp,.ref pm,.ref ou] h=(Z9 [ι,↥(.ref pp),↥(.ref pm),↥(.ref ou),none,none,none,none,none] h).bind outF:=rfl;have s1:AR (Bd A2) (A6 4) [ι,↥(.ref pp),↥(.ref pm),↥(.ref ou),none,none,none,none,none] h=.ok (.AM [ι,↥(.ref pp),↥(.ref pm),↥(.ref ou),υ,none,none,none,none],h++[⟨.lst,[]⟩]):=by simp[nw,B1]
 have s2:AR (Kd false) (A6 5) [ι,↥(.ref pp),↥(.ref pm),↥(.ref ou),υ,none,none,none,none] (h++[⟨.lst,[]⟩])=.ok (.AM (On C.r pp pm ou ⇑h (⇑h+1) none none none),h++[⟨.lst,[]⟩,⟨.B8 [],[]⟩]):=by
  have:∀ρ,Kd false ρ (h++[⟨.lst,[]⟩])=.ok (.ref (⇑h+1),h++[⟨.lst,[]⟩,⟨.B8 [],[]⟩]):=λρ=>by show BX.R.ok (W.ref ⇑(h++[(⟨.lst,[]⟩:O)]),h++[⟨.lst,[]⟩]++[⟨.B8 [],[]⟩])=_;simp
  rw[Cy,this];rfl
 have BC:Z9=AK (AR (Bd A2) (A6 4)) (AK (AR (Kd false) (A6 5)) (AK (DZ (Ca ψ) (A6 6) UH) (At (As (J Tm (J (I 5) A2)))))):=rfl;rw[BV,BC,Am,s1,A0,Ax,Am,s2,A0,Ax,Am,Go,A0,Ax];rfl
end
def UB:Af:=(AK (AR (Ae 2 EW (J Θ (J ζ A2))) (A6 4))
    (AK (AR (Bv (A1 AB (Bd (J (pu (.str (AL "come"))) (J ac (J ac (J (pu (.str (AL "step"))) A2))))) (A1 BR Tm (pu (.int 4))))) (A6 5))
    (AK (AR (As (J (I 5) (J (A1 Cg Tm (pu (.int 8))) A2))) (A6 6))
    (AK (BZ (AV (A1 Ξ (I 5) (pu (.str (AL "step"))))) (AR (As (J (pu (.str (AL "step"))) A2)) (A6 6)) B_)
    (EV (DQ DV ψ (J (I 6) A2)))))))
def dz:Af:=(AR (Bv (A1 addW ψ (Bd (J (As (J ac (J (I 7) A2))) (J (As (J ac (J (A1 addW (A1 IA Γ (I 7)) ζ) A2))) (J (As (J (pu (.str (AL "step"))) A2)) A2)))))) (A6 2))
noncomputable def IU(n p:Nat)(s3 s4 s5 s6 s7:Option W):B5:=[χ,↥(.int 60),↥(.ref p),s3,s4,s5,s6,s7]
def acB(m:L6):DR (CF m)=true:=by
 cases m with
 |none=>rfl
 |some q=>rfl
def ag3(y:Int)(h:A5):∃x:Str,((x=AL "step"/\True)\/∃b:Bool,x=if b then AL "come" else AL "go")/\AB (.ref ⇑h) (.int (y%4)) (h++[⟨.lst,[.str (AL "come"),.str (AL "go"),.str (AL "go"),.str (AL "step")]⟩])=.ok (.str x,h++[⟨.lst,[.str (AL "come"),.str (AL "go"),.str (AL "go"),.str (AL "step")]⟩]):=by
 obtain⟨j,Ac,Ed⟩:=JX y (n:=4) δ;have Ed:y%4=(j:Int):=Ed;rw[Ed];have z:(h++[(⟨.lst,[.str (AL "come"),.str (AL "go"),.str (AL "go"),.str (AL "step")]⟩:O)])[⇑h]?=↥⟨.lst,[.str (AL "come"),.str (AL "go"),.str (AL "go"),.str (AL "step")]⟩:=by rw[DP];rfl
 rcases(by lia:j=0\/j=1\/j=2\/j=3)with rfl|rfl|rfl|rfl
 .exact⟨_,.inr ⟨true,rfl⟩,G2 z rfl⟩
 .exact⟨_,.inr ⟨false,rfl⟩,G2 z rfl⟩
 .exact⟨_,.inr ⟨false,rfl⟩,G2 z rfl⟩
 .exact⟨_,.inl ⟨rfl,trivial⟩,G2 z rfl⟩
def ac8{h:A5}{n:Nat}{ms:↑L6}(lm:⇑ms<=100)(x:Int)(s4 s5 s6 s7:Option W):∃m QT Jc Ey,UB (IU n ⇑h ↥(.int x) s4 s5 s6 s7) (h++[⟨.lst,ms.map CF⟩])=.ok (.AM (IU n ⇑h ↥(.int x) QT Jc Ey s7),h++[⟨.lst,(ms++[m]).map CF⟩]):=by
 obtain⟨y,DY⟩:=NQ x 1 δ;have DY:∀h,EW [.int x,.int 1] h=.ok (.int y,h):=DY;obtain⟨H,Bt⟩:∃H:A5,H=h++[⟨.lst,ms.map CF⟩]:=ο;have z:H[⇑h]?=↥⟨.lst,ms.map CF⟩:=by rw[Bt,DP];rfl
 obtain⟨w,hw,C2⟩:=ag3 y H;obtain⟨ρ,BY⟩:∃ρ:Option W->Option W->Option W->B5,ρ=λa b c=>IU n ⇑h ↥(.int x) a b c s7:=ο;have v2:∀a b c H,I 2 (ρ a b c) H=.ok (.ref ⇑h,H):=by rw[BY];exact λ_ _ _ _=>rfl
 have I1:∀a b c H,I 3 (ρ a b c) H=.ok (.int x,H):=by rw[BY];exact λ_ _ _ _=>rfl
 have v4:∀a b c H,I 4 (ρ ↥a b c) H=.ok (a,H):=by rw[BY];exact λ_ _ _ _=>rfl
 have IY:∀a b c H,I 5 (ρ a ↥b c) H=.ok (b,H):=by rw[BY];exact λ_ _ _ _=>rfl
 have v6:∀a b c H,I 6 (ρ a b ↥c) H=.ok (c,H):=by rw[BY];exact λ_ _ _ _=>rfl
 have ag2:∀w a b c H,A6 4 w (ρ a b c) H=.ok (.AM (ρ ↥w b c),H):=by rw[BY];exact λ_ _ _ _ _=>rfl
 have Tv:∀w a b c H,A6 5 w (ρ a b c) H=.ok (.AM (ρ a ↥w c),H):=by rw[BY];exact λ_ _ _ _ _=>rfl
 have Wp:∀w a b c H,A6 6 w (ρ a b c) H=.ok (.AM (ρ a b ↥w),H):=by rw[BY];exact λ_ _ _ _ _=>rfl
 have s1:AR (Ae 2 EW (J Θ (J ζ A2))) (A6 4) (ρ s4 s5 s6) H=.ok (.AM (ρ ↥(.int y) s5 s6),H):=by rw[Cy,GZ,BD,I1,A0,BD,Be,A0,Bx,A0,A0,A0,if_pos (by rfl),DY,A0,ag2]
 have s2:AR (Bv (A1 AB (Bd (J (pu (.str (AL "come"))) (J ac (J ac (J (pu (.str (AL "step"))) A2))))) (A1 BR Tm (pu (.int 4))))) (A6 5) (ρ ↥(.int y) s5 s6) H=.ok (.AM (ρ ↥(.int y) ↥(.str w) s6),H):=by have l:Bd (J (pu (.str (AL "come"))) (J ac (J ac (J (pu (.str (AL "step"))) A2)))) (ρ ↥(.int y) s5 s6) H=.ok (.ref ⇑H,H++[⟨.lst,[.str (AL "come"),.str (AL "go"),.str (AL "go"),.str (AL "step")]⟩]):=rfl;rw[Cy,Fv,BG,l,A0,BG,v4,A0,Be,A0,Kg,if_pos (show(0:Int)<4 by decide),A0,C2,A0,Rb _ _ _ (by rfl),A0,Tv]
 have s3:AR (As (J (I 5) (J (A1 Cg Tm (pu (.int 8))) A2))) (A6 6) (ρ ↥(.int y) ↥(.str w) s6) H=.ok (.AM (ρ ↥(.int y) ↥(.str w) ↥(.tup [.str w,.int (y/8)])),H):=by rw[Cy,Je,BD,IY,A0,BD,BG,v4,A0,Be,A0,Mp,if_pos (show(0:Int)<8/\(8:Int)<1073741824 by decide),A0,Bx,A0,A0,A0,if_pos (by simp[B1]),A0,Wp]
 have app:∀m,EV (DQ DV ψ (J (I 6) A2)) (ρ ↥(.int y) ↥(.str w) ↥(CF m)) H=.ok (.AM (ρ ↥(.int y) ↥(.str w) ↥(CF m)),h++[⟨.lst,(ms++[m]).map CF⟩]):=λm=>by rw[JD,JV (us:=[CF m]) (ws':=(ms++[m]).map CF) (r:=.non) (v2 _ _ _ _) z (by rw[BD,v6,A0,Bx];rfl) z (by simp[DV]) (by simp[B1];lia),A0,Bt,Po];rfl
 rw[<-Bt];show ∃m QT Jc Ey,UB ((λa b c=>IU n ⇑h ↥(.int x) a b c s7) s4 s5 s6) H=.ok (.AM ((λa b c=>IU n ⇑h ↥(.int x) a b c s7) QT Jc Ey),h++[⟨.lst,(ms++[m]).map CF⟩]);rw[<-BY];unfold UB;rcases hw with⟨rfl,_⟩|⟨b,rfl⟩
 .refine⟨none,↥(.int y),↥(.str (AL "step")),↥(CF none),?_⟩;rw[Am,s1,A0,Ax,Am,s2,A0,Ax,Am,s3,A0,Ax,Am,Cz,Eg,BG,IY,A0,Be,A0,Ol,A0,F7,A0,if_pos (by rfl),Cy,show As (J (pu (.str (AL "step"))) A2) (ρ ↥(.int y) ↥(.str (AL "step")) ↥(.tup [.str (AL "step"),.int (y/8)])) H=.ok (CF none,H)from rfl,A0,Wp,A0,Ax];exact app none
 .refine⟨↥(b,y/8),↥(.int y),↥(.str (if b then AL "come" else AL "go")),↥(CF ↥(b,y/8)),?_⟩;have ne:((if b then AL "come" else AL "go")==AL "step")=false:=by cases b<;>rfl
  rw[Am,s1,A0,Ax,Am,s2,A0,Ax,Am,s3,A0,Ax,Am,Cz,Eg,BG,IY,A0,Be,A0,Ol,if_pos rfl,ne,A0,F7,A0,if_neg γ,FD,A0,Ax];exact app ↥(b,y/8)
def ac5{h:A5}{n:Nat}{l:↑Int}(AH:⇑l<=60)(el:h[n]?=↥⟨.lst,BK l⟩):∃(p:Nat)(g:A5)(ms:↑L6),Ru [.ref n,.int 60] h=.ok (.ref p,h++g)/\(h++g)[p]?=↥⟨.lst,ms.map CF⟩/\ ⇑ms<=300/\ ⇑h<=p:=by
 obtain⟨s3,s4,s5,s6,s7,ms,lm,Go⟩:∃(s3 s4 s5 s6 s7:Option W)(ms:↑L6),⇑ms<=60/\DZ (Ca π) (A6 3) UB (IU n ⇑h none none none none none) (h++[⟨.lst,[]⟩])=.ok (.AM (IU n ⇑h s3 s4 s5 s6 s7),h++[⟨.lst,ms.map CF⟩]):=by
  have:=Ends.FW (P1 (mi:=Ca π) (it:=FG ST) (g:=A6 3) (b:=UB) (ρ:=IU n ⇑h none none none none none) (h:=h++[⟨.lst,[]⟩]) (h0:=h++[⟨.lst,[]⟩]) (BK l) (by simp[BK];lia) (λj ρ H=>∃s3 s4 s5 s6 s7,∃ms:↑L6,ρ=IU n ⇑h s3 s4 s5 s6 s7/\H=h++[⟨.lst,ms.map CF⟩]/\ ⇑ms=j) (T:=λCK H=>∃s3 s4 s5 s6 s7,∃ms:↑L6,CK=.AM (IU n ⇑h s3 s4 s5 s6 s7)/\H=h++[⟨.lst,ms.map CF⟩]/\ ⇑ms<=60) (IT (Bl _ el _) rfl) (λj ρ H _ q=>by
   obtain⟨_,_,_,_,_,_,_,rfl,_⟩:=q;exact K3 (Bl _ el _) j) ⟨_,_,_,_,_,[],rfl,rfl,rfl⟩ (by
   rintro j w _ _ C2 ⟨s3,s4,s5,s6,s7,ms,rfl,rfl,lm⟩;erw[BK,Da]at C2;cases ex:l[j]? with
   |none=>rw[ex]at C2;cases C2
   |some x=>rw[ex]at C2;cases C2;have Ac:=(List.getElem?_eq_some_iff.mp ex).1;obtain⟨m,QT,Jc,Ey,e⟩:=ac8 (h:=h) (n:=n) (ms:=ms) δ x s4 s5 s6 s7;exact⟨IU n ⇑h ↥(.int x) s4 s5 s6 s7,_,by simp[IU],_,_,e,_,_,_,_,_,ms++[m],rfl,rfl,by simp[lm]⟩) (by
   rintro _ _ ⟨s3,s4,s5,s6,s7,ms,rfl,rfl,lm⟩;erw[BK,CE]at lm;exact⟨_,_,_,_,_,ms,rfl,rfl,δ⟩))
  obtain⟨_,_,e,s3,s4,s5,s6,s7,ms,rfl,rfl,lm⟩:=this;exact⟨s3,s4,s5,s6,s7,ms,lm,by rw[I3];exact e⟩
 have Cm:=Ends.FW (MZ (mi:=Ct Ω) (g:=A6 7) (b:=dz) (ρ:=IU n ⇑h s3 s4 s5 s6 s7) (h:=h++[⟨.lst,ms.map CF⟩]) (h0:=h++[⟨.lst,ms.map CF⟩]) 0 60 δ (λj ρ H=>∃(p:Nat)(g:A5)(q:↑L6)(s7:Option W),ρ=IU n p s3 s4 s5 s6 s7/\H=h++g/\H[p]?=↥⟨.lst,q.map CF⟩/\ ⇑q<=60+3*j/\ ⇑h<=p) (T:=λCK H=>∃(p:Nat)(g:A5)(q:↑L6)(s7:Option W),CK=.AM (IU n p s3 s4 s5 s6 s7)/\H=h++g/\H[p]?=↥⟨.lst,q.map CF⟩/\ ⇑q<=300/\ ⇑h<=p) (Ir (n:=60) rfl δ) ⟨⇑h,[⟨.lst,ms.map CF⟩],ms,s7,rfl,rfl,by rw[DP];rfl,δ,C5 _⟩ (by
  rintro j _ _ Ac ⟨p,g,q,s7,rfl,rfl,eq,dt,AT⟩;obtain⟨H,Bt⟩:∃H,H=h++g:=ο;rw[<-Bt]at eq |-;obtain⟨r,Ao⟩:∃r:Nat->B5,r=λp=>IU n p s3 s4 s5 s6 τ:=ο;refine⟨r p,H,by rw[Ao];simp[IU],?_⟩;obtain⟨Dk,eq3⟩:∃Dk:↑L6,Dk=[↥(false,(j:Int)),↥(false,2*(j:Int)+1),none]:=ο;have l:Bd (J (As (J ac (J (I 7) A2))) (J (As (J ac (J (A1 addW (A1 IA Γ (I 7)) ζ) A2))) (J (As (J (pu (.str (AL "step"))) A2)) A2))) (r p) H=.ok (.ref ⇑H,H++[⟨.lst,Dk.map CF⟩]):=by
   have I2:∀H,I 7 (r p) H=.ok (.int (j:Int),H):=by rw[Ao];exact λ_=>rfl
   have JW:∀H,IA (.int 2) (.int (j:Int)) H=.ok (.int (2*(j:Int)),H):=λ_=>rfl;have t1:As (J ac (J (I 7) A2)) (r p) H=.ok (CF ↥(false,(j:Int)),H):=by rw[Je,BD,Be,A0,BD,I2,A0,Bx];rfl
   have C_:As (J ac (J (A1 addW (A1 IA Γ (I 7)) ζ) A2)) (r p) H=.ok (CF ↥(false,2*(j:Int)+1),H):=by rw[Je,BD,Be,A0,BD,BG,BG,Be,A0,I2,A0,JW,A0,Be,A0,NT,A0,Bx];rfl
   have t3:As (J (pu (.str (AL "step"))) A2) (r p) H=.ok (CF none,H):=rfl;rw[LL,BD,t1,A0,BD,C_,A0,BD,t3,A0,Bx,A0,A0,A0,A0,Hj _ (by simp[B1]),eq3];rfl
  have B2:=HN eq;have ad:=LF (h:=H++[⟨.lst,Dk.map CF⟩]) (i:=p) (j:=⇑H) (a:=q.map CF) (b:=Dk.map CF) (Bl _ eq _) (by rw[DP];rfl) (by rw[CE,CE,eq3];simp[B1];lia);have s1:Bv (A1 addW ψ (Bd (J (As (J ac (J (I 7) A2))) (J (As (J ac (J (A1 addW (A1 IA Γ (I 7)) ζ) A2))) (J (As (J (pu (.str (AL "step"))) A2)) A2))))) (r p) H=.ok (.ref ⇑H,H++[⟨.lst,(q++Dk).map CF⟩]):=by rw[Fv,BG,show I 2 (r p) H=.ok (.ref p,H)by rw[Ao];rfl,A0,l,A0,ad,A0,<-JG];exact J8 (ws:=(q++Dk).map CF) H _ (IW (FC (FN _ _) _)) γ (by rw[DP];rfl) (GR _ _ acB)
  refine⟨.AM (r ⇑H),H++[⟨.lst,(q++Dk).map CF⟩],?_,⇑H,g++[⟨.lst,(q++Dk).map CF⟩],q++Dk,τ,by rw[Ao],by rw[Bt,Dd],by rw[DP];rfl,by rw[F1,eq3];simp;lia,by rw[Bt,F1];lia⟩;unfold dz;rw[Cy,s1,A0,Ao];rfl) (by
  rintro _ _ ⟨p,g,q,s7,rfl,AA,AE,dt,AT⟩;exact⟨p,g,q,s7,rfl,AA,AE,δ,AT⟩))
 obtain⟨_,_,AE,p,g,q,Ti,rfl,rfl,eq,dt,AT⟩:=Cm;refine⟨p,g,q,?_,eq,dt,AT⟩;have BV:Ru [.ref n,.int 60] h=(Z7 [χ,↥(.int 60),none,none,none,none,none,none] h).bind outF:=rfl;have s0:AR (Bd A2) (A6 2) [χ,↥(.int 60),none,none,none,none,none,none] h=.ok (.AM (IU n ⇑h none none none none none),h++[⟨.lst,[]⟩]):=by simp[nw,B1,IU]
 have BC:Z7=AK (AR (Bd A2) (A6 2)) (AK (DZ (Ca π) (A6 3) UB) (AK (DZ (Ct Ω) (A6 7) dz) (At ψ))):=rfl;rw[BV,BC,Am,s0,A0,Ax,Am,Go,A0,Ax,Am,I3,AE,A0,Ax];rfl
def VY:Tl->Bool
 |.LZ _=>true
 |_=>false
def rS(h:A5)(t:Tl):∃x:Str,AB (DJ t) (.int 0) h=.ok (.str x,h)/\(x==AL "lost")=VY t:=by cases t<;>exact⟨_,rfl,rfl⟩
def cc(h:A5)(b:Bool)(t:Tl):Ay b (DJ t) (DJ t) h=.ok (.AO b,h):=by cases t<;>cases b<;>simp[Ay,DJ,CI,eqT,Gg]
def uC(y:AS)(h:A5):addW (.tup [.str (AL "at")]) (AI y) h=.ok (DJ (.at y),h):=rfl
def abJ{h:A5}{n hh m:Nat}{dn:↑CH}(e:h[n]?=↥⟨.lst,dn.map Ψ⟩)(hd:∀p,↥p∈dn->p.1<3)(hm:m<2):Rt [.ref n,.int (hh:Int),.int (m:Int)] h=.ok (.AO (K2 dn hh m),h):=by
 have ET:=Pt (hh:=hh) (k:=0) true e δ hd;have Fk:=Pt (hh:=hh) (k:=2) false e δ hd;rw[show Ep 0=AL "teach" from rfl]at ET;rw[show Ep 2=AL "forget" from rfl]at Fk;have BV:Rt [.ref n,.int (hh:Int),.int (m:Int)] h=((Z6 [χ,↥(.int (hh:Int)),↥(.int (m:Int))] h).bind outF).bind λp=>BX.settle h p.1 p.2:=rfl;rw[BV];unfold Z6;have:m=0\/m=1:=δ
 rcases this with rfl|rfl
 .simp[Fk,B1,K2]
 .simp[ET,B1,K2]
noncomputable def jj(LG po D1:Nat)(w:W)(pc CD:Nat)(n m:W)(d a r t bD f8 f9:Option W):B5:=[↥(.ref LG),↥(.tup [.ref po,.ref D1]),↥w,↥(.ref pc),↥(.ref CD),↥n,↥m,d,a,r,t,bD,f8,f9]
def cT:Af:=(AK (AR (A1 AB (A1 AB ω (I 6)) (A1 AB (A1 AB (I 9) (I 11)) η)) (A6 12))
    (BZ (AV (A1 (Ay false) (Ae 4 P_ (J π (J (I 12) (J (A1 AB (I 9) (I 11)) (J (I 8) A2))))) (A1 addW (As (J (pu (.str (AL "at"))) A2)) (A1 AB (I 9) (A1 addW (I 11) ζ))))) XL B_))
section
variable{C:G8}{LG po D1 pc CD:Nat}{h H:A5}{S:FR}{ca ga:Nat->Nat}
def uv(c:GI C)(P:FQ C pc CD H S ca ga)(Cf:S.Cf<=300)(kw:H[LG]?=↥⟨.lst,C.ws.map CJ⟩)(Ga:D3 H po C.A)(HA:D3 H D1 C.B){e:Lt×Tl}(he:e∈S.ended){q:Nat}(eq:H[q]?=↥(JM e.1)) :
  Wi [.ref LG,.tup [.ref po,.ref D1],I7 q e,.ref pc,.ref CD] H=.ok (.AO true,H):=by
 obtain⟨l,t⟩:=e;have JR:l∈Cr S:=eJ he;have x0:=P.R.lt l JR;have lm:=x0.m;have Hi:=x0.a;have ld:=x0.d;have pr:=P.R.pr l JR;have few:=c.N.few;obtain⟨g1,g2,g3⟩:=P.g.ge _ he;have g2:t=Hk C (C.ps.take (ga l.n)) l:=g2;obtain⟨Gm,Bm,Cc,FF⟩:=P.ec;obtain⟨Li,LV,f1,f2,E9,f4⟩:=P.eg;obtain⟨y,Jg,LM,_⟩:=f4 _ he;have abd:l.n< ⇑Gm:=by rw[Cc];exact P.g.Hw l JR
 obtain⟨x,ex⟩:∃x,Gm[l.n]?=↥x:=⟨_,C7 abd⟩;obtain⟨aib,_⟩:=FF l.n x ex;have Vk:∀{k:Nat} p,↥p∈C.ps.take k->p.1<3:=λ{k} p AT=>(c.P.k p (US AT)).1;have wm:(EA l)∈CR C.cs ⇑C.cs:=(List.mem_filter.mp (P.g.hd l JR)).1;obtain⟨Hm,TO⟩:∃Hm,Hm=road l:=ο;have L_:⇑Hm=⇑l.pre+1:=by rw[TO];simp[road]
 have eq:H[q]?=↥⟨.lst,Hm.map AI⟩:=by rw[TO];exact eq
 obtain⟨ρ,BY⟩:∃ρ:Option W->Option W->Option W->B5,ρ=jj LG po D1 (I7 q (l,t)) pc CD (.int (l.n:Int)) (.int (l.m:Int)) ↥(AI (EA l)) ↥(.int (l.a:Int)) ↥(.ref q) ↥(DJ t):=ο;have v0:∀a b d H,I 0 (ρ a b d) H=.ok (.ref LG,H):=by rw[BY];exact λ_ _ _ _=>rfl
 have v1:∀a b d H,I 1 (ρ a b d) H=.ok (.tup [.ref po,.ref D1],H):=by rw[BY];exact λ_ _ _ _=>rfl
 have I1:∀a b d H,I 3 (ρ a b d) H=.ok (.ref pc,H):=by rw[BY];exact λ_ _ _ _=>rfl
 have v4:∀a b d H,I 4 (ρ a b d) H=.ok (.ref CD,H):=by rw[BY];exact λ_ _ _ _=>rfl
 have IY:∀a b d H,I 5 (ρ a b d) H=.ok (.int (l.n:Int),H):=by rw[BY];exact λ_ _ _ _=>rfl
 have v6:∀a b d H,I 6 (ρ a b d) H=.ok (.int (l.m:Int),H):=by rw[BY];exact λ_ _ _ _=>rfl
 have I2:∀a b d H,I 7 (ρ a b d) H=.ok (AI (EA l),H):=by rw[BY];exact λ_ _ _ _=>rfl
 have Kk:∀a b d H,I 8 (ρ a b d) H=.ok (.int (l.a:Int),H):=by rw[BY];exact λ_ _ _ _=>rfl
 have Re:∀a b d H,I 9 (ρ a b d) H=.ok (.ref q,H):=by rw[BY];exact λ_ _ _ _=>rfl
 have v10:∀a b d H,I 10 (ρ a b d) H=.ok (DJ t,H):=by rw[BY];exact λ_ _ _ _=>rfl
 have v11:∀a b d H,I 11 (ρ ↥a b d) H=.ok (a,H):=by rw[BY];exact λ_ _ _ _=>rfl
 have gB:∀a b d H,I 12 (ρ a ↥b d) H=.ok (b,H):=by rw[BY];exact λ_ _ _ _=>rfl
 have gC:∀a b d H,I 13 (ρ a b ↥d) H=.ok (d,H):=by rw[BY];exact λ_ _ _ _=>rfl
 have ag0:∀w a b d H,A6 12 w (ρ a b d) H=.ok (.AM (ρ a ↥w d),H):=by rw[BY];exact λ_ _ _ _ _=>rfl
 have ag1:∀w a b d H,A6 13 w (ρ a b d) H=.ok (.AM (ρ a b ↥w),H):=by rw[BY];exact λ_ _ _ _ _=>rfl
 have ET:∀(d:AS) H,AB (AI d) (.int 0) H=.ok (.int (d.1:Int),H):=λ_ _=>rfl;have BN:∀d∈CR C.cs ⇑C.cs,∃b r,AB (.tup [.ref po,.ref D1]) (.int (l.m:Int)) H=.ok (.ref b,H)/\AB (.ref b) (.int (d.1:Int)) H=.ok (.ref r,H)/\P_ [.ref LG,.ref r,AI d,.int (l.a:Int)] H=.ok (DJ (J7 C.ws (NC C l.m d.1) d l.a),H):=λd hd=>by
  have A4:=(Pb.mp hd).1;have one:∀{b:Nat}{X:↑↑Ce},F2 C.cs X->D3 H b X->∃r,AB (.ref b) (.int (d.1:Int)) H=.ok (.ref r,H)/\P_ [.ref LG,.ref r,AI d,.int (l.a:Int)] H=.ok (DJ (J7 C.ws (X.getD d.1 []) d l.a),H):=λ{b X} ok at'=>by
   obtain⟨rs,AA,L_,Ao⟩:=at'.ex;have AN:d.1< ⇑rs:=by rw[L_,ok.1];exact A4
   exact⟨rs[d.1],G2 AA (by rw[Da,C7 AN];rfl),aba few kw (ok.2 d.1 A4) (Ao _ _ (C7 AN)) d⟩
  have:l.m=0\/l.m=1:=δ
  rcases this with m|m
  .obtain⟨r,a,b⟩:=one c.GC Ga;exact⟨po,r,by rw[m];rfl,a,by unfold NC;rw[m];exact b⟩
  .obtain⟨r,a,b⟩:=one c.Fs HA;exact⟨D1,r,by rw[m];rfl,a,by unfold NC;rw[m];exact b⟩
 have afH:∀(i:Nat) d,Hm[i]?=↥d->d∈CR C.cs ⇑C.cs:=λi=>by
  rw[TO];induction i with
  |zero=>intro d e;rw[ey]at e;cases e;exact wm
  |succ i C4=>intro d e;have hi:=(List.getElem?_eq_some_iff.mp e).1;exact ZR c.N (P.g.ch l JR i _ d (C7 δ) e)
 have t1:HS (FU (AV (A1 (Ay false) (I 6) (B6 Tr (J (A1 (Cs true) (As (J (pu (.str (AL "turn"))) (J (A1 AB (I 7) η) A2))) (A1 AB Θ (I 5))) A2)))) (AV (A1 (Ay false) (D9 (I 9) (pu none) (CP ζ)) (Bd (J (I 7) A2))))) (ρ none none none) H=.ok (false,H):=by
  have yY:AB (.ref pc) (.int (l.n:Int)) H=.ok (.ref x,H):=G2 Bm (by rw[Da,ex];rfl);have CZ:=Pt (hh:=(EA l).1) (k:=1) true aib δ Vk;rw[show Ep 1=AL "turn" from rfl]at CZ;have Hp:As (J (pu (.str (AL "turn"))) (J (A1 AB (I 7) η) A2)) (ρ none none none) H=.ok (.tup [.str (AL "turn"),.int ((EA l).1:Int)],H):=by rw[Je,BD,Be,A0,BD,BG,I2,A0,Be,A0,ET];rfl
  have Tq:Tr [.AO (decide (↥(1,(EA l).1)∈C.ps.take (ca l.n)))] H=.ok (.int (l.m:Int),H):=by
   rw[P.g.Rz l JR];unfold FV;by_cases z:↥(1,(EA l).1)∈C.ps.take (ca l.n)
   .rw[if_pos z,decide_eq_true z];rfl
   .rw[if_neg z,decide_eq_false z];rfl
  have C3:MS (.ref q) none ↥1 (ρ none none none) H=.ok (.ref ⇑H,H++[⟨.lst,[AI (EA l)]⟩]):=by
   have D6:=Vj (ws:=Hm.map AI) 1 (by rw[CE];lia);have D6:HO (Hm.map AI) none ↥1=(Hm.map AI).take 1:=D6;rw[QP eq (by rw[CE];lia),D6];have:Hm.take 1=[EA l]:=by
    have h0:Hm[0]?=↥(EA l):=by rw[TO];exact ey l
    cases BH:Hm with
    |nil=>rw[BH]at h0;cases h0
    |cons a r=>rw[BH]at h0;cases h0;rfl
   rw[<-Ql,this];rfl
  have nn:nw .lst [AI (EA l)] (H++[⟨.lst,[AI (EA l)]⟩])=.ok (.ref (⇑H+1),H++[⟨.lst,[AI (EA l)]⟩,⟨.lst,[AI (EA l)]⟩]):=by rw[Hj _ (by simp[B1]),Dd,F1];rfl
  have es:Ay false (.ref ⇑H) (.ref (⇑H+1)) (H++[⟨.lst,[AI (EA l)]⟩,⟨.lst,[AI (EA l)]⟩])=.ok (.AO false,H++[⟨.lst,[AI (EA l)]⟩,⟨.lst,[AI (EA l)]⟩]):=uz (us:=[AI (EA l)]) (vs:=[AI (EA l)]) (ds:=[J2 (EA l)]) false (by rw[DP];rfl) (by rw[ND];rfl) (b9 _ [EA l]) (b9 _ [EA l]) (λd hd=>by rw[IC]at hd;subst hd;simp[J2,GB]);have Ge:Ay false (.int (l.m:Int)) (.int (l.m:Int)) H=.ok (.AO false,H):=by simp[Ay,CI,eqT]
  rw[gH,v_or,Eg,BG,v6,A0,G5,BD,BG,Hp,A0,BG,I1,A0,IY,A0,yY,A0,CZ,A0,Bx,A0,A0];erw[if_true];rw[Tq,A0,Ge,A0,F7,A0,if_neg γ,Eg,BG,MG,Re,A0,Be,A0,Tu,A0,C3,A0,LL,BD,I2,A0,Bx,A0,A0,nn,A0,es,A0,F7,A0,if_pos (UI _ _)]
 have B2:=Ends.FW (MZ (mi:=Ct (J (A1 MD (B6 BO (J (I 9) A2)) ζ) A2)) (g:=A6 11) (b:=cT) (ρ:=ρ none none none) (h:=H) (h0:=H) 0 ⇑l.pre δ (λj r G=>(∃s t,r=ρ s t none)/\H=G) (T:=λCK G=>(∃s t,CK=.AM (ρ s t none))/\H=G) (Ir (by
  have lw:BO [.ref q] H=.ok (.int ((⇑l.pre+1:Nat):Int),H):=by rw[Gh eq,CE,L_]
  have HT:MD (.int ((⇑l.pre+1:Nat):Int)) (.int 1) H=.ok (.int (⇑l.pre:Int),H):=by show BX.R.ok (W.int (((⇑l.pre+1:Nat):Int)-1),H)=_;rw[show(((⇑l.pre+1:Nat):Int)-1)=(⇑l.pre:Int)by lia]
  rw[BD,BG,G5,BD,Re,A0,Bx,A0,A0,lw,A0,Be,A0,HT,A0,Bx,A0]) δ) ⟨⟨_,_,rfl⟩,rfl⟩ (by
  rintro j _ _ Ac ⟨⟨s,t',rfl⟩,rfl⟩;have AA:Hm[j]?=↥Hm[j]:=C7 δ;have AE:Hm[j+1]?=↥Hm[j+1]:=C7 δ;obtain⟨d,BV⟩:∃d,d=Hm[j]:=ο;obtain⟨Eb,ul⟩:∃d,d=Hm[j+1]:=ο;rw[<-BV]at AA;rw[<-ul]at AE;have on:J7 C.ws (NC C l.m d.1) d l.a=.at Eb:=by rw[TO]at AA AE;exact P.g.ch l JR j d Eb AA AE
  obtain⟨b,r,b1,F6,LP⟩:=BN d (afH j d AA);rw[on]at LP;have q1:AB (.ref q) (.int (j:Int)) H=.ok (AI d,H):=G2 eq (by rw[Da,AA];rfl);have q2:AB (.ref q) (.int ((j+1:Nat):Int)) H=.ok (AI Eb,H):=G2 eq (by rw[Da,AE];rfl);refine⟨ρ τ t' none,H,by rw[BY];simp[jj],?_⟩;have s1:AR (A1 AB (A1 AB ω (I 6)) (A1 AB (A1 AB (I 9) (I 11)) η)) (A6 12) (ρ τ t' none) H=.ok (.AM (ρ τ ↥(.ref r) none),H):=by rw[Cy,BG,BG,v1,A0,v6,A0,b1,A0,BG,BG,Re,A0,v11,A0,q1,A0,Be,A0,ET,A0,F6,A0,ag0]
  have a1:J π (J (I 12) (J (A1 AB (I 9) (I 11)) (J (I 8) A2))) (ρ τ ↥(.ref r) none) H=.ok ([.ref LG,.ref r,AI d,.int (l.a:Int)],H):=by rw[BD,v0,A0,BD,gB,A0,BD,BG,Re,A0,v11,A0,q1,A0,BD,Kk,A0,Bx,A0,A0,A0,A0]
  have BW:As (J (pu (.str (AL "at"))) A2) (ρ τ ↥(.ref r) none) H=.ok (.tup [.str (AL "at")],H):=rfl;have ad:addW (.int (j:Int)) (.int 1) H=.ok (.int ((j+1:Nat):Int),H):=rfl;unfold cT;rw[Am,s1,A0,Ax,Cz,Eg,BG,GZ,a1,A0,if_pos (by rfl),LP,A0,BG,BW,A0,BG,Re,A0,BG,v11,A0,Be,A0,ad,A0,q2,A0,uC,A0,cc,A0,F7,A0,if_neg γ,FD];exact⟨_,_,rfl,⟨_,_,rfl⟩,rfl⟩) (by
  rintro _ _ ⟨⟨s,t',rfl⟩,rfl⟩;exact⟨⟨_,_,rfl⟩,rfl⟩))
 obtain⟨_,_,Go,⟨s,t',rfl⟩,rfl⟩:=B2;have kC:AB (.ref q) (.int (-1)) H=.ok (AI l.d,H):=aE (us:=l.pre.map AI) (by rw[eq,TO];simp[road]);have Pc:∀G:A5,Ke (.int 1) G=.ok (.int (-1),G):=λ_=>rfl;have f9:AR (A1 AB (A1 AB (I 9) (B3 Ke ζ)) η) (A6 13) (ρ s t' none) H=.ok (.AM (ρ s t' ↥(.int (l.d.1:Int))),H):=by rw[Cy,BG,BG,Re,A0,Gv,Be,A0,Pc,A0,kC,A0,Be,A0,ET,A0,ag1]
 obtain⟨σ,eσ⟩:∃ σ,σ =ρ s t' ↥(.int (l.d.1:Int)):=ο;have ZW:Ae 3 Rt (J (A1 AB Tm (I 5)) (J (I 13) (J (I 6) A2))) σ H=.ok (.AO (K2 (C.ps.take (ga l.n)) l.d.1 l.m),H):=by
  have yy:AB (.ref CD) (.int (l.n:Int)) H=.ok (.ref y,H):=by unfold AB;rw[jW f1];have Jg:DL Li LV (.inl (l.n:Int))=↥(.ref y):=Jg;rw[Jg]
  have a1:J (A1 AB Tm (I 5)) (J (I 13) (J (I 6) A2)) σ H=.ok ([.ref y,.int (l.d.1:Int),.int (l.m:Int)],H):=by rw[eσ,BD,BG,v4,A0,IY,A0,yy,A0,BD,gC,A0,BD,v6,A0,Bx,A0,A0,A0]
  rw[GZ,a1,A0,if_pos (by rfl)];exact abJ LM Vk lm
 obtain⟨ajk,C2,uY⟩:=rS H t;have WK:I 10 σ H=.ok (DJ t,H):=by rw[eσ];exact v10 _ _ _ _
 have JA:AV (A1 Ξ (A1 AB (I 10) η) (pu (.str (AL "lost")))) σ H=.ok (VY t,H):=by rw[Eg,BG,BG,WK,A0,Be,A0,C2,A0,Be,A0,Ol,if_pos rfl,uY,A0,F7]
 have BV:Wi [.ref LG,.tup [.ref po,.ref D1],I7 q (l,t),.ref pc,.ref CD] H=((Z5 [↥(.ref LG),↥(.tup [.ref po,.ref D1]),↥(I7 q (l,t)),↥(.ref pc),↥(.ref CD),none,none,none,none,none,none,none,none,none] H).bind outF).bind λp=>BX.settle H p.1 p.2:=rfl;have s0:Lp ψ (EI [(A6 5),(A6 6),(A6 7),(A6 8),(A6 9),(A6 10)]) [↥(.ref LG),↥(.tup [.ref po,.ref D1]),↥(I7 q (l,t)),↥(.ref pc),↥(.ref CD),none,none,none,none,none,none,none,none,none] H=.ok (.AM (ρ none none none),H):=by rw[BY];rfl
 have BC:Z5=AK (Lp ψ (EI [(A6 5),(A6 6),(A6 7),(A6 8),(A6 9),(A6 10)])) (AK _ (AK (DZ (Ct (J (A1 MD (B6 BO (J (I 9) A2)) ζ) A2)) (A6 11) cT) _)):=rfl;rw[BV,BC,Am,s0,A0,Ax,Am,Cz,t1,A0,if_neg γ,FD,A0,Ax,Am,I3,Go,A0,Ax,Am,f9,A0,Ax,<-eσ,Am,Cz,JA,A0];have ZJ:Hk C (C.ps.take (ga l.n)) l=if K2 (C.ps.take (ga l.n)) l.d.1 l.m=true then J7 C.ws (NC C l.m l.d.1) l.d l.a else .LZ l.d.1:=rfl
 cases AN:K2 (C.ps.take (ga l.n)) l.d.1 l.m
 .rw[AN,if_neg γ]at ZJ;rw[AN]at ZW;rw[ZJ]at g2;subst g2;have Hp:As (J (pu (.str (AL "lost"))) (J (I 13) A2)) σ H=.ok (DJ (.LZ l.d.1),H):=by
   rw[eσ,Je,BD,Be,A0,BD,gC,A0,Bx];rfl
  rw[if_pos (by rfl),FZ,qT,BG,WK,A0,Hp,A0,cc,A0,F7,A0,if_pos (by rfl)];have abl:PU (Ae 3 Rt (J (A1 AB Tm (I 5)) (J (I 13) (J (I 6) A2)))) σ H=.ok (.AO true,H):=by unfold PU;rw[Hq,ZW];rfl
  rw[abl,A0,A0,Tk,A0,GT,A0];exact OI H _ rfl
 .rw[AN,if_pos rfl]at ZJ;rw[AN]at ZW;rw[ZJ]at g2;have nl:VY t=false:=by
   cases B9:t with
   |LZ z=>rw[B9]at g2;exact absurd g2.symm (md _ _ _ _ _)
   |_=>rfl
  obtain⟨b,r,b1,F6,LP⟩:=BN l.d ld;rw[<-g2]at LP;have a1:J π (J (A1 AB (A1 AB ω (I 6)) (I 13)) (J (A1 AB (I 9) (B3 Ke ζ)) (J (I 8) A2))) σ H=.ok ([.ref LG,.ref r,AI l.d,.int (l.a:Int)],H):=by rw[eσ,BD,v0,A0,BD,BG,BG,v1,A0,v6,A0,b1,A0,gC,A0,F6,A0,BD,BG,Re,A0,Gv,Be,A0,Pc,A0,kC,A0,BD,Kk,A0,Bx,A0,A0,A0,A0]
  rw[nl,if_neg γ,FD,A0,Ax,Am,Cz,v_not,Eg,ZW,A0,F7,A0,A0,if_neg γ,FD,A0,Ax,FZ,BG,WK,A0,GZ,a1,A0,if_pos (by rfl),LP,A0,cc,A0,A0,GT,A0];exact OI H _ rfl
end
def plain_len(n:Nat):⇑(plain n)=3*n+1:=by simp[plain,Gr];lia
def mG{n i:Nat}(hi:i<n):(plain n)[i]?=↥↥(0,i):=by unfold plain;rw[Dd,Dd,GW (by rw[KF];exact hi)];simp[Gr,hi]
def mH{n i:Nat}(hi:i<n):(plain n)[n+i]?=↥↥(1,i):=by unfold plain;rw[Dd,Dd,Jp (by rw[KF];lia),KF,GW (by rw[KF];lia)];simp[Gr,hi]
def mJ(n:Nat):(plain n)[n+n]?=↥none:=by unfold plain;rw[Dd,Dd,Jp (by rw[KF];lia),KF,Jp (by rw[KF];lia),KF];simp
def mI{n p c x:Nat}(e:(plain n)[p]?=↥↥(c,x)):(c=1->n<=p)/\(c=2->n+n<p):=by
 have a:p<n->c=0:=λz=>by rw[mG z]at e;cases e;rfl
 have b:n<=p->p<n+n->c=1:=λz y=>by rw[show p=n+(p-n)by lia,mH δ]at e;cases e;rfl
 have d:p≠n+n:=λz=>by rw[z,mJ]at e;cases e
 lia
def fy{α:Type}{L:↑α}{p i:Nat}{x:α}(h:L[i]?=↥x)(l:i<p):(L.take p)[i]?=↥x:=by rw[UN,if_pos l];exact h
def afG{cs:↑Nat}{ws:ν}{B:↑↑Ce}{a:Nat}{d x:AS}(N:Gk cs ws)(r:Jl ws B a d x)(hd:d∈CR cs ⇑cs):x∈CR cs ⇑cs:=by
 induction r with
 |ZI=>exact hd
 |YZ h e C4=>exact ZR N e
def aeI{cs:↑Nat}{ws:ν}{A B:↑↑Ce}(N:Gk cs ws){p:Nat}{d:AS}{a:Nat}(hd:d∈CR cs ⇑cs):¬Flt ws A B (plain ⇑cs) p d a:=by
 rintro(⟨e,x,r,z⟩|⟨hh,e,w,_⟩)
 .have AF:=(Pb.mp (afG N r hd)).1;have AT:=(mI e).1 rfl;exact z (IG (fy (mG AF) δ))
 .have h1:=(Pb.mp hd).1;have AT:=(mI e).2 rfl;exact w ⟨⇑cs+d.1,⇑cs+⇑cs,fy (mH h1) δ,δ,fy (mJ _) δ⟩
def aeH{n:Nat}(AZ:n<=6):LA n (plain n):=⟨by rw[plain_len];lia,(fV n).k,(fV n).Bg⟩
def fO{c n:Nat}{t:Str}(I5:t=Ep c)(AZ:n<=6)(ρ:B5){a:Nat}{h:A5}(h1:ρ[1]?=↥↥(.ref a))(BJ:h[a]?=↥⟨.lst,(C8 n).map λi:Nat=>W.int (i:Int)⟩):D8 1 [] (Ca ω) (A6 0) (pu true) (As (J (pu (.str t)) Δ)) ρ h=.ok (.ref ⇑h,h++[⟨.lst,(Gr c n).map Ψ⟩]):=by
 have v1:I 1 ρ h=.ok (.ref a,h):=by rw[v_var,h1,Cj]
 have JL:=Ox (mi:=Ca ω) (it:=FG (.ref a)) (g:=A6 0) (t:=pu true) (e:=As (J (pu (.str t)) Δ)) (ρ:=ρ) (h:=h) (h0:=h) (nl:=1) (caps:=[]) ((C8 n).map λi:Nat=>W.int (i:Int)) (λ_=>true) (λw=>.tup [.str t,w]) (λρ=>∃s,ρ=[s]) (by simp;lia) (IT BJ v1) ⟨none,rfl⟩ (λj acc _=>K3 (Bl _ BJ _) j) (by rintro w hw ρ acc ⟨s,rfl⟩;exact⟨[↥w],γ,⟨_,rfl⟩,rfl,λ_=>rfl⟩)
 rw[JL,List.filter_eq_self.mpr (λ_ _=>rfl),SI,pP,I5];rfl
def eX(c n:Nat):(Gr c n).map (Ak true)=(Gr c n).map Ψ:=by simp[Gr,Ny,Ak]
def aeJ{cs:↑Nat}{ws:ν}{m:Nat}{h:A5}(N:Gk cs ws)(HI:FL h m cs ws):Rx [.ref m] h=.ok (.ref ⇑h,h++[⟨.lst,(plain ⇑cs).map (Ak true)⟩]):=by
 have AZ:=N.EJ;obtain⟨n,Az⟩:∃n,n=⇑cs:=ο;obtain⟨f,AA,AE⟩:=HI.ex;have Pn:Av "Net" "many" (.ref m) h=.ok (.int (n:Int),h):=by rw[Az];exact Dy AA rfl
 rw[<-Az]at AZ |-;obtain⟨R,Y_⟩:∃R,R=(C8 n).map λi:Nat=>W.int (i:Int):=ο;obtain⟨A,KU⟩:∃A,A=(Gr 0 n).map Ψ:=ο;obtain⟨B,Lg⟩:∃B,B=(Gr 1 n).map Ψ:=ο;obtain⟨D,Pk⟩:∃D,D=(Gr 2 n).map Ψ:=ο;have Z_:⇑A=n:=by rw[KU,CE,KF]
 have T5:⇑B=n:=by rw[Lg,CE,KF]
 have abN:⇑D=n:=by rw[Pk,CE,KF]
 obtain⟨h1,AA⟩:∃h1:A5,h1=h++[⟨.lst,R⟩]:=ο;obtain⟨h2,AE⟩:∃h2:A5,h2=h1++[⟨.lst,A⟩]:=ο;obtain⟨AY,Cd⟩:∃AY:A5,AY=h2++[⟨.lst,B⟩]:=ο;have D0:⇑h1=⇑h+1:=by rw[AA];simp
 have Cm:⇑h2=⇑h+2:=by rw[AE];simp[D0]
 have OZ:⇑AY=⇑h+3:=by rw[Cd];simp[Cm]
 have Ff:h1[⇑h]?=↥⟨.lst,R⟩:=by rw[AA,DP];rfl
 have Ez:h2[⇑h]?=↥⟨.lst,R⟩:=by rw[AE];exact Bl _ Ff _
 have Wv:AY[⇑h]?=↥⟨.lst,R⟩:=by rw[Cd];exact Bl _ Ez _
 have aiW:AY[⇑h+1]?=↥⟨.lst,A⟩:=by rw[Cd,AE,<-D0];exact Bl _ (DP _ _) _
 have aiX:AY[⇑h+2]?=↥⟨.lst,B⟩:=by rw[Cd,<-Cm,DP];rfl
 obtain⟨ρ,BY⟩:∃ρ:Option W->Option W->Option W->B5,ρ=λa b c=>[↥(.ref m),a,b,c]:=ο;have s1:AR (B6 Mj (J (B3 (Av "Net" "many") π) A2)) (A6 1) (ρ none none none) h=.ok (.AM (ρ υ none none),h1):=by
  have v0:I 0 (ρ none none none) h=.ok (.ref m,h):=by rw[BY];rfl
  rw[Cy,G5,BD,Gv,v0,A0,Pn,A0,Bx,A0,A0,l8 δ,A0,<-Y_,<-AA,BY];rfl
 have s2:AR (D8 1 [] (Ca ω) (A6 0) (pu true) (As (J (pu (.str (AL "teach"))) Δ))) (A6 2) (ρ υ none none) h1=.ok (.AM (ρ υ ↥(.ref (⇑h+1)) none),h2):=by rw[Cy,fO (c:=0) (t:=AL "teach") rfl AZ (ρ υ none none) (a:=⇑h) (by rw[BY];rfl) (by rw[<-Y_];exact Ff),A0,<-KU,<-AE,D0,BY];rfl
 have s3:AR (D8 1 [] (Ca ω) (A6 0) (pu true) (As (J (pu (.str (AL "turn"))) Δ))) (A6 3) (ρ υ ↥(.ref (⇑h+1)) none) h2=.ok (.AM (ρ υ ↥(.ref (⇑h+1)) ↥(.ref (⇑h+2))),AY):=by rw[Cy,fO (c:=1) (t:=AL "turn") rfl AZ (ρ υ ↥(.ref (⇑h+1)) none) (a:=⇑h) (by rw[BY];rfl) (by rw[<-Y_];exact Ez),A0,<-Lg,<-Cd,Cm,BY];rfl
 obtain⟨σ,eσ⟩:∃ σ,σ =ρ υ ↥(.ref (⇑h+1)) ↥(.ref (⇑h+2)):=ο;have v2:∀H,I 2 σ H=.ok (.ref (⇑h+1),H):=by rw[eσ,BY];exact λ_=>rfl
 have I1:∀H,I 3 σ H=.ok (.ref (⇑h+2),H):=by rw[eσ,BY];exact λ_=>rfl
 have a1:=LF (h:=AY) (i:=⇑h+1) (j:=⇑h+2) (a:=A) (b:=B) aiW aiX (by simp[B1];lia);obtain⟨Ch,Jw⟩:∃Ch:A5,Ch=AY++[⟨.lst,A++B⟩]:=ο;rw[<-Jw]at a1;obtain⟨EH,JO⟩:∃EH:A5,EH=Ch++[⟨.lst,[Ak true none]⟩]:=ο;have lh:⇑Ch=⇑AY+1:=by rw[Jw];simp
 have abM:⇑EH=⇑AY+2:=by rw[JO];simp[lh]
 have G6:Bd (J (pu IQ) A2) σ Ch=.ok (.ref ⇑Ch,EH):=by rw[JO];rfl
 have a2:=LF (h:=EH) (i:=⇑AY) (j:=⇑Ch) (a:=A++B) (b:=[Ak true none]) (by rw[JO,Jw];exact Bl _ (DP _ _) _) (by rw[JO,DP];rfl) (by simp[B1];lia);obtain⟨EJ,Vm⟩:∃EJ:A5,EJ=EH++[⟨.lst,A++B++[Ak true none]⟩]:=ο;rw[<-Vm]at a2;have aiV:EJ[⇑h]?=↥⟨.lst,R⟩:=by rw[Vm,JO,Jw];exact Bl _ (Bl _ (Bl _ Wv _) _) _
 have Cc:=fO (c:=2) (t:=AL "forget") rfl AZ σ (a:=⇑h) (by rw[eσ,BY];rfl) (by rw[<-Y_];exact aiV);rw[<-Pk]at Cc;have HM:=LF (h:=EJ++[⟨.lst,D⟩]) (i:=⇑EH) (j:=⇑EJ) (a:=A++B++[Ak true none]) (b:=D) (Bl _ (by rw[Vm,DP];rfl) _) (by rw[DP];rfl) (by simp[B1];lia);obtain⟨cn,Vn⟩:∃cn:A5,cn=EJ++[⟨.lst,D⟩]++[⟨.lst,A++B++[Ak true none]++D⟩]:=ο;rw[<-Vn]at HM;have BA:(plain n).map (Ak true)=A++B++[Ak true none]++D:=by rw[KU,Lg,Pk,<-eX 0,<-eX 1,<-eX 2];simp[plain]
 have Kf:Fe (A++B++[Ak true none]++D)=true:=by rw[<-BA];exact GR _ _ K6
 have Gy:AY<+: cn:=by rw[Vn,Vm,JO,Jw];exact FC (FC (FC (FC (FN _ _) _) _) _) _
 have pr:Bv (A1 addW (A1 addW (A1 addW ψ Θ) (Bd (J (pu IQ) A2))) (D8 1 [] (Ca ω) (A6 0) (pu true) (As (J (pu (.str (AL "forget"))) Δ)))) σ AY=.ok (.ref ⇑AY,AY++[⟨.lst,A++B++[Ak true none]++D⟩]):=by
  rw[Fv,BG,BG,BG,v2,A0,I1,A0,a1,A0,G6,A0,a2,A0,Cc,A0,HM,A0];have ZZ:⇑(EJ++[⟨.lst,D⟩]:A5)=⇑AY+4:=by rw[Vm];simp[abM]
  rw[ZZ];exact J8 (ws:=A++B++[Ak true none]++D) AY _ (IW Gy) δ (by rw[Vn,<-ZZ,DP];rfl) Kf
 have e:Rx [.ref m] h=((ZC (ρ none none none) h).bind outF).bind λp=>settle h p.1 p.2:=by rw[BY];rfl
 rw[e];unfold ZC;rw[Am,s1,A0,Ax,Am,s2,A0,Ax,Am,s3,A0,Ax,<-eσ,FZ,pr,A0,A0,GT,A0,BA];exact J8 (ws:=A++B++[Ak true none]++D) h _ (IW (FC (by rw[Cd,AE,AA];exact FC (FC (FN _ _) _) _) _)) δ (by rw[DP];rfl) Kf
def D3.pre{h g:A5}{b:Nat}{B:↑↑Ce}(x:D3 h b B)(p:h<+: g):D3 g b B:=by obtain⟨r,rfl⟩:=p;exact x.more r
def acM{h K:A5}(Bu:∀(n:Nat) o,K[n]?=↥o->o≠KS->h[n]?=↥o){b:Nat}{cs:↑Nat}{ws:ν}(x:FL K b cs ws):FL h b cs ws:=by obtain⟨f,e,r⟩:=x.ex;exact⟨f,Bu _ _ e (λz=>by cases z),Bu _ _ r (λz=>by cases z)⟩
def FL.to{h h':A5}{b:Nat}{cs:↑Nat}{ws:ν}(x:FL h b cs ws)(e:∀n,n< ⇑h->h'[n]?=h[n]?):FL h' b cs ws:=by obtain⟨f,AA,r⟩:=x.ex;exact⟨f,(e _ (HN AA)).trans AA,(e _ (HN r)).trans r⟩
def ag9{ns:↑Int}(AH:⇑ns<=63){h:A5}{ρ:B5}(h0:ρ[0]?=↥↥(.Df (BK ns))):∃l:↑Int,⇑l<=60/\Bv (A1 addW (Bd (J η A2)) (D9 π (CP (pu (.int 16))) (pu none))) ρ h=.ok (.ref ⇑h,h++[⟨.lst,BK l⟩]):=by
 obtain⟨l,el⟩:∃l,HO (BK ns) ↥16 none=BK l:=dE ns _ _;have Ee:⇑l<=47:=by
  have e:⇑(HO (BK ns) ↥16 none)=⇑l:=by rw[el];simp[BK]
  rw[<-e];unfold HO;have:EQ.Cu ⇑(BK ns) 0 ↥16=min 16 ⇑(BK ns):=EQ.Tj _ _ 16;rw[this,EQ.bE];simp[BK];lia
 refine⟨0::l,by simp;lia,?_⟩;have FH:Bd (J η A2) ρ h=.ok (.ref ⇑h,h++[⟨.lst,[.int 0]⟩]):=rfl;have s1:D9 π (CP (pu (.int 16))) (pu none) ρ (h++[⟨.lst,[.int 0]⟩])=.ok (.ref (⇑h+1),h++[⟨.lst,[.int 0]⟩]++[⟨.lst,BK l⟩]):=by rw[MG,v_var,h0,Cj,A0,Tu,A0,Be,A0];unfold MS;erw[aL,el];rw[Hj _ (by simp[BK,B1];lia)];simp
 have a1:=LF (h:=h++[⟨.lst,[.int 0]⟩]++[⟨.lst,BK l⟩]) (i:=⇑h) (j:=⇑h+1) (a:=[.int 0]) (b:=BK l) γ γ (by simp[BK,B1];lia);rw[Fv,BG,FH,A0,s1,A0,a1,A0];exact J8 (ws:=BK (0::l)) h _ (IW (FC (FC (FN _ _) _) _)) γ (by simp[BK]) (Zo _)
def aF:Af:=(AK (BZ (Du (AV (Ae 5 Wi (J ψ (J (As (J Θ (J Tm A2))) (J (I 12) (J (I 9) (J (I 10) A2)))))))) XL B_)
    (BZ (F9 (AV (A1 Ξ (A1 AB (A1 AB (I 12) (pu (.int 5))) η) (pu (.str (AL "lost"))))) (FU (AV (A1 (Dj true) (I 11) Cl)) (AV (A1 VD (A1 AB (I 11) η) (CO "Run" "place" 0 I9 (I 8) A2))))) XL B_))
noncomputable def Ux(ns:↑Int)(po D1 ou pp nt r pc CD:Nat)(bD f8:Option W):B5:=[↥(.Df (BK ns)),↥(.ref 0),↥(.ref 1),↥(.ref po),↥(.ref D1),↥(.ref ou),↥(.ref pp),↥(.ref nt),↥(.ref r),↥(.ref pc),↥(.ref CD),bD,f8]
section
variable{C:G8}{po D1 ou pp nt pc CD:Nat}{h H:A5}{S:FR}{ca ga:Nat->Nat}
def aaG(c:GI C)(P:FQ C pc CD H S ca ga)(Cf:S.Cf<=300)(kw:H[1]?=↥⟨.lst,C.ws.map CJ⟩)(Ga:D3 H po C.A)(HA:D3 H D1 C.B){w:W}(IR:(w=.non/\∀p,p< ⇑C.ps->∀d∈outD C,Lx C.ws C.A C.B C.ps p d)\/∃p d a x,w=Np p d a x/\(d∈CR C.cs ⇑C.cs/\Flt C.ws C.A C.B C.ps p d a)/\∀Dv,Dv<p->∀d∈outD C,Lx C.ws C.A C.B C.ps Dv d){e:Lt×Tl}(he:e∈S.ended){q:Nat}(eq:H[q]?=↥(JM e.1))(ns:↑Int) :
  aF (Ux ns po D1 ou pp nt C.r pc CD ↥w ↥(I7 q e)) H=.ok (.AM (Ux ns po D1 ou pp nt C.r pc CD ↥w ↥(I7 q e)),H):=by
 obtain⟨ρ,BY⟩:∃ρ,ρ=Ux ns po D1 ou pp nt C.r pc CD ↥w ↥(I7 q e):=ο;have Kk:I 8 ρ H=.ok (.ref C.r,H):=by rw[BY];rfl
 have v11:I 11 ρ H=.ok (w,H):=by rw[BY];rfl
 have gB:I 12 ρ H=.ok (I7 q e,H):=by rw[BY];rfl
 have a1:J ψ (J (As (J Θ (J Tm A2))) (J (I 12) (J (I 9) (J (I 10) A2)))) ρ H=.ok ([.ref 1,.tup [.ref po,.ref D1],I7 q e,.ref pc,.ref CD],H):=by rw[BY];rfl
 have Ao:=uv c P Cf kw Ga HA he eq;rw[<-BY];unfold aF;obtain⟨x,ex,el⟩:=rS H e.2;have z4:AB (I7 q e) (.int 5) H=.ok (DJ e.2,H):=rfl;have t1:AV (A1 Ξ (A1 AB (A1 AB (I 12) (pu (.int 5))) η) (pu (.str (AL "lost")))) ρ H=.ok (VY e.2,H):=by rw[Eg,BG,BG,BG,gB,A0,Be,A0,z4,A0,Be,A0,ex,A0,Be,A0,Ol,if_pos rfl,el,A0,F7]
 rw[Am,Cz,v_not,Eg,GZ,a1,A0,if_pos (by rfl),Ao,A0,F7,A0,A0,if_neg γ,FD,A0,Ax,Cz,v_and,t1,A0];cases AH:VY e.2
 .rw[if_neg γ,A0,if_neg γ,FD]
 .have lo:∃x,e.2=.LZ x:=by
    cases B9:e.2 with
    |LZ y=>exact⟨y,rfl⟩
    |_=>rw[B9]at AH;cases AH
  obtain⟨Hy,xw,Ea,Yq,GL,kT,f0⟩:=P.g.CK e he lo;have B2:Hy< ⇑C.ps:=GH xw P.g.D.le;rcases IR with⟨rfl,no⟩|⟨p,d,a,x,rfl,_,no⟩
  .exact absurd f0 (no Hy B2 Ea Yq GL kT)
  .have AT:p<=Hy:=XN λz=>no Hy z Ea Yq GL kT f0;have pl:CO "Run" "place" 0 I9 (I 8) A2 ρ H=.ok (.int (⇑S.done:Int),H):=NP (h1:=H) Kk P.R.Ao rfl (az P.R);have FH:Dj true (Np p d a x) .non H=.ok (.AO false,H):=rfl;have ET:AB (Np p d a x) (.int 0) H=.ok (.int (p:Int),H):=rfl;rw[if_pos rfl,v_or,Eg,BG,v11,A0,Be,A0,FH,A0,F7,A0,if_neg γ,Eg,BG,BG,v11,A0,Be,A0,ET,A0,pl,A0,abr,A0,F7,decide_eq_false δ,A0,if_neg γ,FD]
end
def mP{h g:A5}(p:h<+: g){n:Nat}(AZ:n< ⇑h):g[n]?=h[n]?:=by obtain⟨r,rfl⟩:=p;exact GW AZ
theorem kP:∀(L:↑(Lt×Tl))(q i:Nat)(e:Lt×Tl),L[i]?=↥e->(JT q L)[i]?=↥(I7 (q+i) e)
 |[],q,i,e,z=>by cases z
 |x::L,q,0,e,z=>by cases z;rfl
 |x::L,q,i+1,e,z=>by have:=kP L (q+1) i e z;rw[show q+1+i=q+(i+1)by lia]at this;exact this
def aac{ns:↑Int}(AH:⇑ns<=63):Ends (lA [.Df (BK ns)] []) λw _=>w=.AO true:=by
 obtain⟨cs,ws,po,D1,A,B,C1,⟨Bm,Ph⟩,N,⟨Ea,Yq,wl⟩,GC,Fs,ajK,rf,fl,Ga,HA,BJ⟩:=t0 AH;have Z_:=GC.1;have T5:=Fs.1;obtain⟨Un,dL⟩:∃Un,Un=FX cs ws ⇑cs:=ο;have Fc:U8 [.ref 0,.ref 1] C1=.ok (.ref ⇑C1,C1++[⟨.lst,(FX cs ws ⇑cs).map AI⟩]):=adP N rf fl;rw[<-dL]at Fc;obtain⟨ou,cX⟩:∃ou,ou=⇑C1:=ο;obtain⟨E5,Xw⟩:∃E5:A5,E5=C1++[⟨.lst,Un.map AI⟩]:=ο;rw[<-Xw,<-cX]at Fc;have BX:⇑E5=ou+1:=by rw[Xw,cX];simp
 have fH:C1<+: E5:=by rw[Xw];exact FN _ _
 have Ww:E5[ou]?=↥⟨.lst,Un.map AI⟩:=by rw[Xw,cX,DP];rfl
 have as:∀{m:BB}{k:Nat}{xs ys:↑Nat}{x:Nat}{h h':A5},m (IM ns xs) h=.ok (.ref x,h')->A6 k (.ref x) (IM ns xs) h'=.ok (.AM (IM ns ys),h')->AR m (A6 k) (IM ns xs) h=.ok (.AM (IM ns ys),h'):=λ{m k xs ys x h h'} a b=>by rw[Cy,a];exact b
 have t1:Lp (Ae 1 Rr Δ) (EI [(A6 1),(A6 2),(A6 3),(A6 4)]) (IM ns []) []=.ok (.AM (IM ns [0,1,po,D1]),C1):=by have q:Ae 1 Rr Δ (IM ns []) []=.ok (.tup [.ref 0,.ref 1,.ref po,.ref D1],C1):=LQ (us:=[.Df (BK ns)]) (h1:=[]) rfl rfl BJ;obtain⟨ρ,BY⟩:∃ρ,ρ=IM ns []:=ο;rw[<-BY]at q |-;erw[qU,q,A0];rw[BY];rfl
 have C_:AR (Ae 2 U8 (J ω Fr)) (A6 5) (IM ns [0,1,po,D1]) C1=.ok (.AM (IM ns [0,1,po,D1,ou]),E5):=as (LQ (us:=[.ref 0,.ref 1]) (h1:=C1) rfl rfl Fc) rfl;have rg:=GD fH rf;have aiU:=GD fH fl;obtain⟨ps,cE,B2,BA⟩:=aeK (ns:=ns) (lo:=10) (hi:=18) δ δ Ph (h:=E5) (ρ:=IM ns [0,1,po,D1,ou]) rfl rfl rg;obtain⟨Er,Xx⟩:∃Er:A5,Er=E5++[⟨.lst,ps.map Ψ⟩]:=ο;rw[BX,<-Xx]at BA;have c6:⇑Er=ou+2:=by rw[Xx];simp[BX]
 have ax:E5<+: Er:=by rw[Xx];exact FN _ _
 have fm:Er[ou+1]?=↥⟨.lst,ps.map Ψ⟩:=by rw[Xx,<-BX,DP];rfl
 have t3:=as (k:=6) (ys:=[0,1,po,D1,ou,ou+1]) BA rfl;have nm:=kz N (h:=Er) (a:=0) (b:=1) (GD ax rg) (GD ax aiU);obtain⟨EP,Ut⟩:∃EP:A5,EP=Er++[Mo cs ws (⇑Er+1),H_ ws]:=ο;rw[<-Ut]at nm;have ajL:⇑EP=ou+4:=by rw[Ut];simp[c6]
 have fI:Er<+: EP:=by rw[Ut];exact FN _ _
 have HI:FL EP (ou+2) cs ws:=by
  refine⟨⇑Er+1,?_,?_⟩
  .rw[Ut,<-c6,DP];rfl
  .rw[Ut,ND];rfl
 have QT:AR (K4 "Net" 2 Of (J ω Fr)) (A6 7) (IM ns [0,1,po,D1,ou,ou+1]) Er=.ok (.AM (IM ns [0,1,po,D1,ou,ou+1,ou+2]),EP):=by have lH:K4 "Net" 2 Of (J ω Fr) (IM ns [0,1,po,D1,ou,ou+1]) Er=.ok (.ref ⇑Er,EP):=Zk (us:=[.ref 0,.ref 1]) (h1:=Er) rfl rfl nm;rw[c6]at lH;exact as lH rfl
 have fG:C1<+: EP:=fH.trans (ax.trans fI);have iX:=Ga.pre fG;have iY:=HA.pre fG;have fp:=GD fI fm;have aiZ:=GD (ax.trans fI) Ww;have aia:=GD fG fl;have eu:=aed N GC Fs cE HI iX iY fp;obtain⟨Ei,Xy⟩:∃Ei,Ei=NY EP cs ws A B ps:=ο;have eu:TG [.ref ⇑EP,.ref (ou+2),.ref po,.ref D1,.ref (ou+1)] (EP++[⟨.ins "Run" [],[]⟩])=.ok (.non,Ei):=by rw[Xy];exact eu
 have ajM:⇑Ei=⇑EP+8+⇑A+⇑B+3:=by rw[Xy];exact adZ EP
 have acZ:EP<+: Ei:=by rw[Xy];exact FN _ _
 have Jc:AR (K4 "Run" 4 TG (J (I 7) (J Θ (J Tm (J (I 6) A2))))) (A6 8) (IM ns [0,1,po,D1,ou,ou+1,ou+2]) EP=.ok (.AM (IM ns [0,1,po,D1,ou,ou+1,ou+2,⇑EP]),Ei):=
  as (Zk (us:=[.ref (ou+2),.ref po,.ref D1,.ref (ou+1)]) (h1:=EP) rfl rfl eu) rfl
 obtain⟨QZ,TP⟩:∃ρ,ρ=IM ns [0,1,po,D1,ou,ou+1,ou+2,⇑EP]:=ο;obtain⟨l,Ee,I5⟩:=ag9 AH (h:=Ei) (ρ:=QZ) (by rw[TP];rfl);obtain⟨Q8,Xz⟩:∃Q8:A5,Q8=Ei++[⟨.lst,BK l⟩]:=ο;rw[<-Xz]at I5;have ain:⇑Q8=⇑Ei+1:=by rw[Xz];simp
 obtain⟨pm,g,ms,em,rj,lm,ajC⟩:=ac5 (h:=Q8) (n:=⇑Ei) Ee (by rw[Xz,DP];rfl);obtain⟨FO,hk⟩:∃FO:A5,FO=Q8++g:=ο;rw[<-hk]at em rj;have mx:Ei<+: FO:=by rw[hk,Xz];exact FC (FN _ _) _
 have aio:=mx.length_le;obtain⟨G,br⟩:∃G:A5,G=FO++[⟨.lst,[]⟩,⟨.B8 [],[]⟩]:=ο;have aip:⇑G=⇑FO+2:=by rw[br];simp
 have mz:Ei<+: G:=by rw[br];exact FC mx _
 obtain⟨c,R⟩:=aaU (h:=EP) (G:=G) (T:=⇑FO+2) (ds:=[⇑EP]) (λn _ AZ=>by rw[mP mz δ,Xy]) (List.mem_singleton.mpr rfl) (λn AZ=>hA (List.mem_singleton.mp AZ)) δ δ N GC Fs cE;obtain⟨M,jg⟩:∃M,M=⇑EP+8+⇑A+⇑B:=ο;rw[<-jg]at c R;have low:∀n,n< ⇑EP->(LX G M [⇑EP])[n]?=EP[n]?:=aaH δ (λd hd=>by rw[List.mem_singleton.mp hd];exact C5 _) (λn AZ=>mP (acZ.trans mz) AZ);obtain⟨C,Nk⟩:∃C,C=dA ⇑EP cs ws A B ps (⇑FO+2) (LX G M [⇑EP]):=ο;rw[<-Nk]at c R;have Nm:C.K=LX G M [⇑EP]:=by rw[Nk];rfl
 rw[<-Nm]at low;have ajG:C.M=M:=by rw[Nk,jg];rfl
 have ajH:C.T=⇑FO+2:=by rw[Nk];rfl
 have hL:C.r=⇑EP:=by rw[Nk];rfl
 have hg:C.cs=cs:=by rw[Nk];rfl
 have hM:C.ws=ws:=by rw[Nk];rfl
 have ha:C.A=A:=by rw[Nk];rfl
 have hb:C.B=B:=by rw[Nk];rfl
 have hj:C.ps=ps:=by rw[Nk];rfl
 have dX:outD C=Un:=by unfold outD;rw[hg,hM,dL]
 have lo:∀{n o},EP[n]?=↥o->C.K[n]?=↥o:=λ{n o} e=>(low n (HN e)).trans e;have k:R4 C ou (ou+1) pm ⇑FO (⇑FO+1):=by
  refine⟨by rw[dX];exact lo aiZ,by rw[hj];exact lo fp,?_,δ,δ,δ⟩;have Pa:Ea∈outD C:=by
   rw[dX,dL];refine List.mem_filter.mpr ⟨Yq,?_⟩;cases q:Dt ws Ea with
   |none=>rfl
   |some x=>exact absurd (d4 q).1 wl
  exact λz=>by rw[z]at Pa;cases Pa
 obtain⟨Fz,S,ca,ga,DY,P,Cf⟩:=aeN (h:=FO) k c (by rw[<-br];exact R) lm rj δ;rw[hL]at DY;have Ey:Lp (Ae 4 U9 (J (I 8) (J (I 6) (J (Ae 2 Ru (J (Bv (A1 addW (Bd (J η A2)) (D9 π (CP (pu (.int 16))) (pu none)))) (J (pu (.int 60)) A2))) (J (I 5) A2))))) (EI [(A6 9),(A6 10)]) QZ Ei=.ok (.AM (Ux ns po D1 ou (ou+1) (ou+2) ⇑EP ⇑FO (⇑FO+1) none none),Fz):=by
  have Kk:I 8 QZ Ei=.ok (.ref ⇑EP,Ei):=by rw[TP];rfl
  have v6:I 6 QZ Ei=.ok (.ref (ou+1),Ei):=by rw[TP];rfl
  have IY:I 5 QZ FO=.ok (.ref ou,FO):=by rw[TP];rfl
  have a1:J (Bv (A1 addW (Bd (J η A2)) (D9 π (CP (pu (.int 16))) (pu none)))) (J (pu (.int 60)) A2) QZ Ei=.ok ([.ref ⇑Ei,.int 60],Q8):=by rw[BD,I5,A0,BD,Be,A0,Bx,A0,A0]
  have q1:Ae 2 Ru (J (Bv (A1 addW (Bd (J η A2)) (D9 π (CP (pu (.int 16))) (pu none)))) (J (pu (.int 60)) A2)) QZ Ei=.ok (.ref pm,FO):=LQ a1 rfl em;have a2:J (I 8) (J (I 6) (J (Ae 2 Ru (J (Bv (A1 addW (Bd (J η A2)) (D9 π (CP (pu (.int 16))) (pu none)))) (J (pu (.int 60)) A2))) (J (I 5) A2))) QZ Ei=.ok ([.ref ⇑EP,.ref (ou+1),.ref pm,.ref ou],FO):=by rw[BD,Kk,A0,BD,v6,A0,BD,q1,A0,BD,IY,A0,Bx,A0,A0,A0,A0]
  have q2:=LQ (mf:=U9) (k:=4) a2 rfl DY;rw[qU,q2,A0,TP];rfl
 have tG:FL C.K (ou+2) cs ws:=HI.to low;have uH:D3 C.K po A:=iX.to low;have uI:D3 C.K D1 B:=iY.to low;have cq:∀{H},FQ C ⇑FO (⇑FO+1) H S ca ga->FL H (ou+2) cs ws:=λP=>acM P.R.Bu tG;have Gq:∀{H},FQ C ⇑FO (⇑FO+1) H S ca ga->D3 H po A:=λP=>ZE P.R.Bu uH;have GA:∀{H},FQ C ⇑FO (⇑FO+1) H S ca ga->D3 H D1 B:=λP=>ZE P.R.Bu uI;obtain⟨w,C2,IR⟩:=j9 (kw:=false) N GC Fs cE (cq P) (Gq P) (GA P) (P.R.Bu _ _ (lo fp) (λz=>by cases z));obtain⟨σ,eσ⟩:∃ σ :Option W->Option W->B5,σ =Ux ns po D1 ou (ou+1) (ou+2) ⇑EP ⇑FO (⇑FO+1):=ο;rw[<-eσ]at Ey;have I1:∀a b H,I 3 (σ a b) H=.ok (.ref po,H):=by rw[eσ];exact λ_ _ _=>rfl
 have v4:∀a b H,I 4 (σ a b) H=.ok (.ref D1,H):=by rw[eσ];exact λ_ _ _=>rfl
 have v6:∀a b H,I 6 (σ a b) H=.ok (.ref (ou+1),H):=by rw[eσ];exact λ_ _ _=>rfl
 have I2:∀a b H,I 7 (σ a b) H=.ok (.ref (ou+2),H):=by rw[eσ];exact λ_ _ _=>rfl
 have Kk:∀a b H,I 8 (σ a b) H=.ok (.ref ⇑EP,H):=by rw[eσ];exact λ_ _ _=>rfl
 have HV:AR (Ae 4 Og (J (I 7) (J Θ (J Tm (J (I 6) A2))))) (A6 11) (σ none none) Fz=.ok (.AM (σ ↥w none),Fz):=by
  have a1:J (I 7) (J Θ (J Tm (J (I 6) A2))) (σ none none) Fz=.ok ([.ref (ou+2),.ref po,.ref D1,.ref (ou+1)],Fz):=by rw[BD,I2,A0,BD,I1,A0,BD,v4,A0,BD,v6,A0,Bx,A0,A0,A0,A0]
  have q:=LQ (mf:=Og) (k:=4) a1 rfl C2;rw[Cy,q,A0,eσ];rfl
 obtain⟨Jj,Y0⟩:∃Jj,Jj=K0 Fz S.ended:=ο;have kQ:=aaF c P.R δ;rw[<-Y0]at kQ;have Se:FQ C ⇑FO (⇑FO+1) Jj S ca ga:=by rw[Y0];exact P.app _
 have ri:Jj[⇑Fz]?=↥⟨.lst,JT (⇑Fz+1) S.ended⟩:=by rw[Y0];unfold K0;rw[DP];rfl
 have ac0:CO "Run" "journal" 0 Rm (I 8) A2 (σ ↥w none) Fz=.ok (.ref ⇑Fz,Jj):=by refine NP (h1:=Fz) ?_ P.R.Ao rfl kQ;rw[Kk,hL]
 have few:=P.R.few;have le:=P.R.le;have aan:⇑(JT (⇑Fz+1) S.ended)=⇑S.ended:=eO _ _;have lw:=Ends.FW (P1 (mi:=Ca (CO "Run" "journal" 0 Rm (I 8) A2)) (it:=FG (.ref ⇑Fz)) (g:=A6 12) (b:=aF) (ρ:= σ ↥w none) (h:=Fz) (h0:=Jj) (JT (⇑Fz+1) S.ended) (by rw[aan];lia) (λj ρ H=>(∃s,ρ= σ ↥w s)/\Jj=H) (T:=λCK H=>(∃s,CK=.AM (σ ↥w s))/\Jj=H) (IT ri ac0) (λj ρ H _ q=>by
  obtain⟨_,rfl⟩:=q;exact K3 ri j) ⟨⟨_,rfl⟩,rfl⟩ (by
  rintro j x _ _ Ed ⟨⟨s,rfl⟩,rfl⟩;have Ac:j< ⇑S.ended:=by have:=(List.getElem?_eq_some_iff.mp Ed).1;lia
  have ex:=kP S.ended (⇑Fz+1) j S.ended[j] (C7 Ac);rw[Ed]at ex;have ex:x=I7 (⇑Fz+1+j) S.ended[j]:=by injection ex
  have rk:=aaE (h:=Fz) j S.ended[j] (C7 Ac);rw[<-Y0]at rk;have SQ:=aaG (ou:=ou) (pp:=ou+1) (nt:=ou+2) c Se Cf (w:=w) (by rw[hM];exact Se.R.Bu _ _ (lo aia) (λz=>by cases z)) (by rw[ha];exact Gq Se) (by rw[hb];exact GA Se) (by unfold outD;rw[hM,ha,hb,hj,hg];exact IR) (Hu Ac) rk ns;rw[hL,<-eσ,<-ex]at SQ;exact⟨σ ↥w ↥x,Jj,by rw[eσ];rfl,_,_,SQ,⟨_,rfl⟩,rfl⟩) (by
  rintro _ _ ⟨⟨s,rfl⟩,rfl⟩;exact⟨⟨_,rfl⟩,rfl⟩))
 obtain⟨_,_,Go,⟨s,rfl⟩,rfl⟩:=lw;have pt:=aeJ N (cq Se);obtain⟨Sc,bt⟩:∃Sc:A5,Sc=Jj++[⟨.lst,(plain ⇑cs).map (Ak true)⟩]:=ο;rw[<-bt]at pt;have cC:FQ C ⇑FO (⇑FO+1) Sc S ca ga:=by rw[bt];exact Se.app _
 obtain⟨H5,j7,Yg⟩:=j9 (kw:=true) N GC Fs (aeH Ph) (cq cC) (Gq cC) (GA cC) (show Sc[⇑Jj]?=_ by rw[bt,DP];rfl);have GQ:H5=.non:=by
  rcases Yg with⟨e,_⟩|⟨p,d,a,x,_,⟨hd,f⟩,_⟩
  .exact e
  .exact absurd f (aeI N hd)
 rw[GQ]at j7;have fin:At (A1 (Dj true) (Ae 4 Og (J (I 7) (J Θ (J Tm (J (Ae 1 Rx (J (I 7) A2)) A2))))) Cl) (σ ↥w s) Jj=.ok (.Dq (.AO true),Sc):=by
  have GL:J (I 7) A2 (σ ↥w s) Jj=.ok ([.ref (ou+2)],Jj):=by rw[BD,I2,A0,Bx,A0]
  have ef:=LQ (mf:=Rx) (k:=1) GL rfl pt;have a1:J (I 7) (J Θ (J Tm (J (Ae 1 Rx (J (I 7) A2)) A2))) (σ ↥w s) Jj=.ok ([.ref (ou+2),.ref po,.ref D1,.ref ⇑Jj],Sc):=by rw[BD,I2,A0,BD,I1,A0,BD,v4,A0,BD,ef,A0,Bx,A0,A0,A0,A0]
  have q1:=LQ (mf:=Og) (k:=4) a1 rfl j7;rw[FZ,BG,q1,A0,Be,A0];rfl
 have BV:lA [.Df (BK ns)] []=(R8 (IM ns []) []).bind outF:=rfl;rw[BV];have BC:R8=AK (Lp (Ae 1 Rr Δ) (EI [(A6 1),(A6 2),(A6 3),(A6 4)])) (AK _ (AK (AR (Bv (Ae 2 Rw (J (Bv (D9 π (CP (pu (.int (10:Nat)))) (CP (pu (.int (18:Nat)))))) (J (B6 BO Ω) A2)))) (A6 6)) (AK _ (AK _ (AK _ (AK _ (AK (DZ (Ca (CO "Run" "journal" 0 Rm (I 8) A2)) (A6 12) aF) _))))))):=rfl;rw[BC,Am,t1,A0,Ax,Am,C_,A0,Ax,Am,t3,A0,Ax,Am,QT,A0,Ax,Am,Jc,A0,Ax,<-TP,Am,Ey,A0,Ax,Am,HV,A0,Ax,Am,I3,Go,A0,Ax,fin];exact⟨_,_,rfl,rfl⟩
def aff{P:C9}{w:Br}{K:Ap}{mg:Str->Option A8}{f:A7}{GS Ck Ih pm cd D6:A8}{E1 an:Option A7}{C3:Array (Option A8)}(T:Di K mg)(a:JH K FM "law"=↥↥(.ref f))(l:K.lookup f=↥⟨GS,E1,.func (KM "law" "law" (M4 KC) (KR KC) (Bn KC) .none Ck Ih pm an cd D6),C3⟩)(c:My K cd "law"=true)(k:KI K (.ref f)=true) :
  (∃(f:A7)(GS:A8)(E1 an:Option A7)(Ck Ih pm cd D6:A8)(C3:Array (Option A8)),JH K FM "law"=↥↥(.ref f)/\K.lookup f=↥⟨GS,E1,.func (KM "law" "law" (M4 KC) (KR KC) (Bn KC) .none Ck Ih pm an cd D6),C3⟩/\My K cd "law"=true/\KI K (.ref f)=true)/\∀base:BF,C6 P w K mg base "law" KC ["_law_script","_law_counts_here","_law_wires_here","_law_old","_law_new","_law_outer_here","_law_plan_here","_law_net","_law_run","_law_came","_law_gone","_law_found","_law_entry"] 11 R8:=
 ⟨⟨f,GS,E1,an,Ck,Ih,pm,cd,D6,C3,a,l,c,k⟩,λbase=>tf _ _ base T⟩
def afY{l:gd}{q:C9}{loose:↑Str}{LO:(Str->Option A8)->BF->Prop}{MW:Br->BF->Prop}{d:DefRec}{K:Params->Ap}(AZ:l.most=↥63)(RO:d.params.defaults=[])(hd:d.name="law")(VG:∀(w:Br)(h:BF),MW w h->(K w.params).In h)(T:∀(w:Br)(mg:Str->Option A8)(h:BF),(K w.params).In h->h.Ns FM mg->(∃(f:A7)(GS:A8)(E1 an:Option A7)(Ck Ih pm cd D6:A8)(C3:Array (Option A8)),JH (K w.params) FM "law"=↥↥(.ref f)/\(K w.params).lookup f=↥⟨GS,E1,.func (KM "law" "law" (M4 KC) (KR KC) (Bn KC) .none Ck Ih pm an cd D6),C3⟩/\My (K w.params) cd "law"=true/\KI (K w.params) (.ref f)=true)/\∀base:BF,C6 l.prog w (K w.params) mg base "law" KC ["_law_script","_law_counts_here","_law_wires_here","_law_old","_law_new","_law_outer_here","_law_plan_here","_law_net","_law_run","_law_came","_law_gone","_law_found","_law_entry"] 11 R8) :
  h5 q loose LO MW l.row.toRowW d [] (λf vs=>Xf f vs):=
 afX (st:=KC) (x:="law") (k:=11) (m:=R8) AZ RO ⟨rfl,ε,ε⟩ qO hd VG T λns AH=>aac AH
end E4
end
namespace PySem.W.Fast
def tw3694372397901280269:=0
def tw9517017747132100512:=0
def tw560271044853146607:=0
def tw14206966462848614294:=0
def tw15567634589000025006:=0
def tw13198523662248708325:=0
def tw17038645575894094500:=0
def tw18028576630617880389:=0
def tw14988275437156079419:=0
def tw10161257388725708193:=0
def tw6759803383736792252:=0
def tw12361077946766589076:=0
def tw16684323540238277244:=0
def tw14729348339481628051:=0
def tw9631435116237624298:=0
def tw218303086544924536:=0
def tw2593241527604288317:=0
def tw11184375882965767685:=0
def tw2604942538348462407:=0
def tw5045636623988527145:=0
def tw15050484464245805176:=0
def tw37739638718592892:=0
def tw3577449415582632187:=0
def tw1937868663848409305:=0
def tw10400806057560612396:=0
def tw14567475394414479794:=0
def tw9909069100307255105:=0
def tw11623379701646858522:=0
def tw17828600109707714755:=0
def tw8149840770098091816:=0
def tw6971929937869334795:=0
def tw2133273578284577536:=0
def tw985377745017888602:=0
def tw15343064929051707710:=0
def tw8192021304478468435:=0
def tw8852094580603729587:=0
def tw11060143351463468147:=0
def tw17786257217533048848:=0
def tw8266199570750407869:=0
def tw14362718791507608793:=0
def tw12179167222989336445:=0
def tw803488190732258274:=0
def tw13352798341631694783:=0
def tw17239118872734609905:=0
def tw16582148048080144579:=0
def tw1242026631850379598:=0
def tw14359912813132027930:=0
def tw9282211645431390153:=0
def tw14508195781790702866:=0
def tw10431655519197646765:=0
def tw788907903369606601:=0
def tw16094878564786224561:=0
def tw2243081022947633295:=0
def tw2672823393507566715:=0
def tw18321106093476196465:=0
def tw6338826677487447811:=0
def tw12657899782605488080:=0
def tw5369169188897244666:=0
def tw1609326911603322999:=0
def tw11644433958539179620:=0
def tw11412664115579554354:=0
def tw4765807388016983339:=0
def tw16510181760826801842:=0
def tw7775740751238554267:=0
def tw1984178984135577207:=0
def tw15732255824436347983:=0
def tw17673942559277722396:=0
def tw5343764778588936970:=0
def tw17700291803699319076:=0
def tw12595942815588304786:=0
def tw8557304063835728055:=0
def tw6096627083318748932:=0
def tw9542190770264256017:=0
def tw10365779998669487254:=0
def tw5321365494299254848:=0
def tw3573454428563705812:=0
def tw1633662365836569525:=0
def tw13567062641593186949:=0
def tw7214599261137450057:=0
def tw863861761953959456:=0
def tw1281053791426236987:=0
def tw9024112787058023881:=0
def tw9334375556834854801:=0
def tw6960955677523360828:=0
def tw2026729292036280786:=0
def tw10287472586815057377:=0
def tw3610814394597395992:=0
def tw13109575033560891554:=0
def tw1642728444597436547:=0
def tw14263086365804193015:=0
def tw1896738494660810493:=0
def tw13375363124100727619:=0
def tw397221537165472785:=0
def tw4487727989670386571:=0
def tw17296859284738329114:=0
def tw455661597310435416:=0
def tw11808419126124866222:=0
def tw17810221417015239125:=0
def tw14582123453398556304:=0
def tw16642487081422265594:=0
def tw14825304803177874894:=0
def tw4015756062559176568:=0
def tw3386445462809086548:=0
def tw10879882276561125920:=0
def tw4753768229572095805:=0
def tw13837534473887934561:=0
def tw11340351549878286359:=0
def tw1216019305310442473:=0
def tw11927853302414535605:=0
def tw12229353125237300859:=0
def tw16249115369512574527:=0
def tw8662956698735026697:=0
def tw13575107947240940240:=0
def tw13198012852462327046:=0
def tw13918701285756678635:=0
def tw5417338044145844690:=0
def tw3011871977761997663:=0
def tw8668523456141392193:=0
def tw6585801210106125236:=0
def tw3116675783950381441:=0
def tw14735502773108866930:=0
def tw1214048229424649701:=0
def tw2363057501073647808:=0
def tw13803928754461349941:=0
def tw17400946910161347883:=0
def tw17413449281787030726:=0
def tw345440734158790708:=0
def tw6806187206209429914:=0
def tw16921385603519401584:=0
def tw17344417612128703445:=0
def tw15557851692029340318:=0
def tw1959076116774015342:=0
def tw17561303796612715413:=0
def tw17332423922055514308:=0
def tw12366190425570893614:=0
def tw4979182062243848345:=0
def tw16799356082260236603:=0
def tw10797453346457305697:=0
def tw4136461537633646581:=0
def tw13668246578253126012:=0
def tw3330555100754659676:=0
def tw14704829333582617338:=0
def tw18219982163893492745:=0
def tw509347285779506112:=0
def tw15527724824685428244:=0
def tw12603477386063560606:=0
def tw2016490381399695232:=0
def tw4950797460504166925:=0
def tw12887527047473671202:=0
def tw14720780084566056538:=0
def tw9359915994994900825:=0
def tw9998722337258924061:=0
def tw7292313520157332259:=0
def tw15342991783839918508:=0
def tw12625140689442967954:=0
def tw10495458901776495380:=0
def tw3227058554989414110:=0
def tw18003874392756700889:=0
def tw12604620877176404650:=0
def tw9988795147439170307:=0
def tw16705596244525886121:=0
def tw2266493044665051742:=0
def tw12172492896067999479:=0
def tw10581385252913120307:=0
def tw13675393968405604560:=0
def tw6317436513582065381:=0
def tw4167120509957492640:=0
def tw4418399677662072856:=0
def tw10093065115591395466:=0
def tw3024033891034550220:=0
def tw1268950160558585807:=0
def tw13542520638137757609:=0
def tw45287899988857683:=0
def tw14407029197902709901:=0
def tw2881793343429371543:=0
def tw3350642670781239624:=0
def tw4857538062761903177:=0
def tw4810059269203587408:=0
def tw13522191380811919367:=0
def tw6031178074741866244:=0
def tw18123380692612042162:=0
def tw12579116839961394052:=0
def tw14565362990015473483:=0
def tw12295808816674255812:=0
def tw8400352580482748957:=0
def tw4654151094555587243:=0
def tw9969365983234174994:=0
def tw2231054855707453743:=0
def tw8935477108870441768:=0
def tw13648702924386275054:=0
def tw4725788396055090700:=0
def tw18146700845701611770:=0
def tw487040624260214857:=0
def tw17988119616633082550:=0
def tw11473629534335121634:=0
def tw15518531498959793150:=0
def tw17649977823001684603:=0
def tw3153688960920939778:=0
def tw14626117634793982806:=0
def tw10408626729893361364:=0
def tw13845377799794331360:=0
def tw13665547099151925652:=0
def tw9530874423768460276:=0
def tw1218475342105011342:=0
def tw9617757905613170782:=0
def tw9861102283613774098:=0
def tw14115155749526876050:=0
def tw7384335838838265481:=0
def tw16525971130637300185:=0
def tw12983266331466064115:=0
def tw4307073485741479004:=0
def tw10578293319316484898:=0
def tw16263409879660884592:=0
def tw2273186541321900181:=0
def tw1532297576656208517:=0
def tw2453332997796032836:=0
def tw7808453922182396333:=0
def tw4643570006395233141:=0
def tw16817877030612719538:=0
def tw9704114020497398811:=0
def tw13425421703363225224:=0
def tw18252168873630133780:=0
def tw17737718852537466477:=0
def tw4668173164725206291:=0
def tw14855894410783620079:=0
def tw14977079429724332202:=0
def tw11512575383209285110:=0
def tw17864946452906200000:=0
def tw5224509189139209250:=0
def tw12346826092719537952:=0
def tw18021063504100251693:=0
def tw2132917940596133407:=0
def tw18077443974376632699:=0
def tw11074566462285052379:=0
def tw17247208066298582765:=0
def tw8716105334413645367:=0
def tw10313857253528735960:=0
def tw9998333963368312296:=0
def tw2406720465575553587:=0
def tw8164983604964139048:=0
def tw15654269570996237859:=0
def tw2527903791726282213:=0
def tw5996214150517456402:=0
def tw15218183020784372986:=0
def tw8552175663649015360:=0
def tw4699899672980750261:=0
def tw11602989147270841322:=0
def tw14061103499949685761:=0
def tw8424370104448207820:=0
def tw6815460488099679798:=0
def tw3689920322114587422:=0
def tw4032376883030849533:=0
def tw17567880566890252578:=0
def tw16689736384747465216:=0
def tw15922371415052799406:=0
def tw11684442902203267885:=0
def tw11077889160802822628:=0
def tw9426280010982144574:=0
def tw9299654067843739712:=0
def tw4392253735925318578:=0
def tw1661371488419112299:=0
def tw472265020717626961:=0
def tw7142856817643315266:=0
def tw13397422567456793648:=0
def tw6407598077063817804:=0
def tw10493249717390787184:=0
def tw11218764561923610577:=0
def tw17503553009686326682:=0
end PySem.W.Fast
open PySem PySem.W PyProof.Rows BU BX E4
set_option maxRecDepth 100000 in
set_option maxHeartbeats 0 in
theorem PySem.Challenge.cw_nohalfway_k63_whole_lost_just_by_faults_holds : PySem.Challenge.rw_nohalfway_k63_whole_lost_just_by_faults.Holds := by
 w_on;o_law;k_head;(case hw=>w_witness2)
 k_fill
 refine E4.afY (l:=PySem.Challenge.rw_nohalfway_k63_whole_lost_just_by_faults) rfl rfl rfl (λw h Y=>PySem.W.kIn_of Y) ?T
 case T=>
  intro w mg h IK G
  refine' E4.aff ?T ?ya ?yl ?yc ?yk
  (case T=>constructor<;>first
    |(refine' BX.xJ IK G ?a ?l ?c ?k;(case a=>k_is);(case l=>k_is);(case c=>k_is);(case k=>k_is))
    |(refine' BX.ac2 ?n ?g1 ?g2 ?g3 ?g4 ?a ?l ?c ?k ?i;(case n=>k_is);(case g1=>k_is);(case g2=>k_is);(case g3=>k_is);(case g4=>k_is);(case a=>k_is);(case l=>k_is);(case c=>k_is);(case k=>k_is);(case i=>k_is))
    |(refine' BX.aaa IK G ?n ?mk ?kc ?a ?l ?c ?k ?i;(case n=>k_is);(case mk=>k_is);(case kc=>k_is);(case a=>k_is);(case l=>k_is);(case c=>k_is);(case k=>k_is);(case i=>k_is))
    |(refine' BX.tW ?n ?g1 ?g2 ?g3 ?g4 ?u;(case n=>k_is);(case g1=>k_is);(case g2=>k_is);(case g3=>k_is);(case g4=>k_is);(case u=>(repeat' first|exact λ_ h=>absurd h PI|refine sk.2 ⟨?_,?_⟩|k_is)))
    |(refine' BX.vB IK G ?n ?e;(case n=>k_is);(case e=>k_exc))
    |(refine' BX.agH IK G ?n ?u;(case n=>k_is);(case u=>(repeat' first|exact λ_ h=>absurd h PI|refine sk.2 ⟨?_,?_⟩|(refine' BX.agG ?va ?vb;(case va=>k_is);(case vb=>kts_exm)))))
    |(refine' BX.tX IK G ?z;(case z=>k_is))
    |(refine' PySem.W.mg_none_of IK G ?a;(case a=>k_is))
    |(refine' BX.vF IK G ?z ?y ?hz ?e;(case z=>k_is);(case y=>k_is);(case hz=>exact sB rfl);(case e=>rfl)))
  case ya|yl|yc|yk=>k_is
