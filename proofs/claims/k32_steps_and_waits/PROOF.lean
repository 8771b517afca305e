import PyProof.Rows.All
import Wide.All
import OpenK.AllK
import Wide.FinOn
import Lean
import PyProof.EqAt
import PyProof.EqKinds
import PyProof.TupleCall
import PySem.SetOps
import PyProof.TupleKey
import PyProof.SetKind
import PyProof.IsRules
import PyProof.Rows.SetFrom
import PyProof.DictWalks
import PyProof.CollectWalk
import PyProof.Rows.SortWalk
import PyProof.Rows.SortShell
import PyProof.NeKinds
import KE.KEqDict
import PyProof.SetRoads
import PyProof.AutoListH
import PyProof.DictValues
import PyProof.DictItems
import PyProof.DictItemsLoops
import KE.RegKIsAll
import KE.RegKTryMore
import PySem.Challenge.RW_nohalfway_k32_steps_and_waits
set_option bootstrap.genMatcherCode false
set_option genSizeOf false
set_option compiler.extract_closed false
open PySem.Str renaming ofString -> AJ, ofString -> QO
open PySem renaming wpAny_bind -> AU, Value -> A6, Shared -> AM, wpAny_pure -> BP, Addr -> A4, sizeLine -> CG, starEach -> CJ, wpAny -> Ag, Program -> C5, model -> Av, mainGlobals -> FG, World -> Bo, wpAny_newObj_type -> LK, compareOp -> Ft, tupleKeyHash -> IC, Expr -> Al, mem_of_lookup -> N2, Around -> D4, wpAny_truthy_bool -> MB, wpAny_mono -> HB, wpAny_callSpecial?_slot -> QL, Heap -> B8, wpAny_field -> JY, wpAny_call_entry -> Nu, Stmt -> BC, cellsFrom -> Hs, foldedSetIterable -> P6, behindInMarks -> M8, wpAny_holding -> M9, attributeBase -> MA, wpAny_seqItems -> N5, wpAny_typeNameOfWhole_keyiter -> Wa, FuncData -> HX, sysModules -> Jy, eval -> BZ, sizeLine_eq -> LP, keywordEach -> LQ, strIterType -> LN, wpAny_setField_rec -> Ru, cLine -> Dp, SetTable -> Ia, backTo -> Fj, assignEach -> LX, wpAny_passesOwn -> QS, wpAny_typeNameOf_keyiter -> Wm, bootBuiltins -> Ny, binaryOp -> JZ, wpAny_Call_Name_kw -> Tt, tupleKind_room_in1 -> Te, wpAny_execs_nil -> Rq, DictEntry -> LW, codeAny_builtin -> Rr, wpAny_setState_of -> Ti, IsPair -> Gu, NameKind -> Kd, Scope -> F7, holding -> J3, codeAny_mono -> QN, IsTupleKey -> Nx, backToKw -> LV, sliceBounds -> QX, ofAClassStatement -> X1, carriedByValue -> U3, swapsWith -> Nz, getMethod -> O0, wpAny_updateSeq_pair -> eE, call_meets -> QV, letOwnedTupleGo -> Wu, relabel -> LZ, step -> DY, call_meetsIn -> Tv, standAt -> ME, codeAny -> MF, wpAny_setField -> XB, firstArgMember -> XC, wpAny_Call_method -> ea, wpAny_pyIter_list -> ee, wpAny_dictEntries -> ef, callWith -> PC, wpAny_onRaise -> X4, wpAny_attempt -> X5, plainId_quiet -> X6, wpAny_execs_cons -> eS, assign -> Ke, wpAny_isInstance -> eT, wpAny_forIn_list -> eV, Keyword -> O1, wpAny_typeOf -> X3, seqIndex? -> Ry, wpAny_specialOf -> eP, wpAny_dictEpoch -> f6, pyNext -> MG, rawInt -> MH, newFunctionEnv -> fA, getItem -> PE, subscripted -> XH, evalArgs_none -> r0, valueAt -> PF, callerA -> PG, notedBy -> PD, IsZip -> J4, hashByValue -> XE, KeyKind -> er, call -> XF, Builtin -> QZ, Within -> ej
open PySem.W renaming Frag -> Aq, kia_one -> J0, findIn -> JT, keepIn -> Jz, nsIn -> J2, emptyDict -> Nt, fnOf -> K0, codeIn -> N4, instObj -> P9, plainGet -> Rv, methodCall_KW -> Wf, hasDictIn -> Tf, mg_of -> QR, callWith_K -> We, plainOver -> Wz, exmOne -> U4, excIn -> Tx, hideAll -> Wt, plainGet_of -> eH, isFn -> Tu, lookIn -> X9, kitOne -> XA, methodObj -> eZ, cellsFrom_some -> qT, takerIn -> eW, makesIn -> eX, OpenLaw -> eQ, hideAll_get -> qz, of_hideAll -> qd, kitx_tuple -> qe, WalkO -> ew, kitx_none -> qi, kitx_bool -> qj, kitx_list -> qk, kitx_dict -> ql
open List renaming getElem?_eq_getElem -> Cc, getElem?_cons_zero -> DM, getD_eq_getElem?_getD -> EW, getElem?_cons_succ -> ED, length_map -> CS, size_toArray -> DX, length_cons -> Df, map_cons -> D3, length_append -> Ej, getElem?_map -> Ed, getElem?_append_left -> Gs, append_assoc -> F6, range -> CW, mem_cons_of_mem -> GF, length_nil -> Es, prefix_append -> G4, mem_cons_self -> Gq, mem_append_right -> IY, replicate -> Fu, getElem?_set_self -> JU, mem_append_left -> Iz, getElem?_eq_none -> JV, cons_append -> HU, mem_append -> HV, getElem?_append_right -> N1, mem_singleton -> JW, mem_of_getElem? -> LM, map_append -> IZ, mem_cons -> HW, getElem?_set_ne -> M7, map_nil -> Hq, not_mem_nil -> Ka, length_take -> LR, getElem_mem -> LS, set_cons_zero -> N6, append_nil -> LU, take_append_drop -> PA, nil_append -> N7, replicate_succ -> QI, flatten_cons -> P7, set_cons_succ -> QJ, filterMap_cons -> Ro, nodup_iff_pairwise_ne -> W_, filter_cons -> QF, length_replicate -> Td, take_succ_eq_append_getElem -> e8, find?_cons -> QT, getElem?_replicate -> Wn, getElem_of_mem -> Tp, mergeSort_perm -> Tq, getElem?_range -> Tr, pairwise_map -> Th, length_eraseIdx_of_lt -> e4, mem_of_mem_drop -> Wi, nodup_nil -> Rs, drop_eq_getElem_cons -> e6, all_eq_true -> Tk, map_congr_left -> Wd, mem_singleton_self -> eI, prefix_rfl -> U0, take_of_length_le -> eK, length_pos_of_mem -> eL, lookup -> QW, eraseIdxIfInBounds_toArray -> qI, eraseIdx_eq_take_drop_succ -> qJ, all_map -> Rx, findSome?_append -> eN, singleton_append -> eD, getElem_inj -> Wq, length_drop -> Wr, lookup_cons -> Ws, eq_nil_of_length_eq_zero -> qB, mem_of_mem_take -> eF, getElem?_of_mem -> eG, range_succ -> Wx, lookup_append -> eA, mem_map -> Tw, length_mapIdx -> eC, mem_of_find?_eq_some -> qZ, mapM_cons -> XD, length_erase_of_mem -> qa, nodup_append -> ed, ext_getElem? -> eh, length_range -> ei, length -> U5, eraseIdx_cons_succ -> qQ, all_cons -> X7, map_take -> X8, of_mem_zip -> eY, length_set -> eO, length_singleton -> qL, forIn_cons -> eR, getElem?_toArray -> qX, dropLast_eq_take -> qp, zipWith_map_left -> qs, set_append_right -> qt, filterMap_append -> qv, mem_erase_of_ne -> qw, range_eq_range' -> qx, forall_mem_cons -> qy, any_cons -> et, map_drop -> f5
open PySem.Heap renaming get?_push_of_some -> Cw, get?_push_size -> F_, lt_size -> DB, size_push -> Kc, SameBut -> LO, get?_update_self -> Rn, get?_update_other -> Wp
open Nat renaming le_refl -> CB, lt_of_lt_of_le -> G3, ne_of_lt -> Ei, reduceAdd -> Gr, lt_irrefl -> Iy, le_trans -> I_, zero_le -> ID, lt_succ_self -> QE, le_add_right -> QG, ne_of_gt -> N3, lt_of_le_of_lt -> Rt, add_le_add_left -> To, le_succ -> PB, le_of_lt -> QM, reduceLT -> QP, lt_succ_of_lt -> X0, reduceSub -> Tz, le_of_lt_succ -> eb, le_of_ble_eq_true -> qN, min_eq_left -> f9, mod_lt -> U7, lt_trans -> eo
open PySem.Value renaming ref -> Cj, none -> J1, type -> Nv, bool -> QU, int -> Rz, str -> S0, float -> ep
open Option.some renaming inj -> GU
open Array renaming getElem?_eq_getElem -> LL, getD_eq_getD_getElem? -> Rp, length_toList -> QH, getElem?_toList -> Wg, append_assoc -> e9
open Bool renaming and_eq_true -> Hr, false_ne_true -> Kb, false_eq_true -> M6, and_false -> U2, eq_iff_iff -> Ww, false_or -> eu, not_true -> ez, true_and -> f3
open PySem.Builtin.SmallTypes renaming nextOf -> P4, ownedTupleIsFree -> Wc, ownedTupleHandOut -> q7
open PyProof.Rows renaming callWith_type1 -> QD, slot_tuple_getitem -> qH, IsTup -> eB, kindOf -> K1, AllBare -> N8, Call_ -> qg, IntsAre -> QY, envOfC -> O2
open PySem.NameKind renaming free -> JX
open False renaming elim -> HC
open True renaming intro -> Ht
open Function renaming comp_def -> P8, comp -> QQ
open Classical renaming byContradiction -> Tc
open PySem.F renaming slot_dict_keyiterator_next -> Wb, slot_tuple_iterator_next -> WZ, plainAttrs_list -> Wo, plainAttrs_dict -> e7, slot_dict_get -> eM, args_dict_keyiterator_next_1 -> qK, entry_dict_keyiterator_next -> qA, args_tuple_iterator_next_1 -> qC, entry_tuple_iterator_next -> qE, slot_zip_next -> Wv, slot_dict_delitem -> qY, args_tuple_add_2 -> q_, entry_tuple_add -> qP, args_dict_get_2 -> qR, slot_tuple_add -> qU, entry_dict_get -> qV, slot_dict_pop -> qM, slot_list_pop -> qq, type_list_pop -> qr
open Int renaming toNat_natCast -> QK, fdiv_eq_ediv_of_nonneg -> q8
open ForInStep renaming yield -> P5
open PySem.Heap.SameBut renaming update -> Rm
open PySem.Calls renaming callWith_builtin -> Tb, spliced_cons -> Ts, spliced_nil -> Tg, evalArgs_plain -> Wh, Name_function_global -> qG
open PySem.Builtin.Slice renaming slicePlaces -> Wj, sliceAdjust -> e5, sliceApplied -> q9
open PySem.Around renaming under_plainId -> Tn, under -> ek
open PySem.Builtin.Tuple renaming tupleExact -> Wk
open PySem.Builtin.List renaming listTooLong -> Wl, listExtendWith -> qF, listSameRef -> qb
open Option renaming getD_some -> Tj, map_some -> U1, isSome_map -> e_, bind_some -> eU, isSome_some -> qf
open PySem.Obj renaming mapSeq -> Nw, data_mapFields -> Wy, isFreed_of_fields -> qO
open PyProof.Rows.F renaming plain_set_update_loop -> eJ, entry_set_update_loop -> qS
open Sum.inl renaming injEq -> Rw
open PySem.SetTable renaming insertAt -> X2, leap -> ey, sizeAbove -> qh
open PySem.Builtin.Dict_items renaming ownsTuple -> qD
open Ne renaming symm -> LY
open Sum renaming inl -> MC, inr -> MD
open PySem.Builtin.Range renaming rangeSize -> qc
open PySem.SeqAt renaming ne_of_list_tuple -> qW, RcAt -> U8, EqAt -> XG
open PySem.Builtin.Dict renaming showsAll -> qo
open List.cons renaming injEq -> f7
open PySem.PassesOwn renaming never -> f8
open List.Perm renaming append_left -> qu
open PySem.Data renaming cell -> U6
open List.Pairwise renaming nil -> qm
open PySem.Code renaming isFrame -> en
set_option Elab.async false
set_option linter.all false
set_option maxRecDepth 100000
noncomputable section
set_option hygiene false in
local macro_rules| `(tactic|ac_rfl)=> `(tactic|repeat' first
 |(show A_ _ _ _ _;first|refine ag5 ?_|(show A_ _ _ (.Name _ _) _;first|exact agC _|exact Og (DU.V0 ‹_›)|exact Og (DU.SB ‹_›)|exact Og (DU.SC ‹_›)|exact Og (DU.V1 ‹_›)|exact Og (DU.SD ‹_›)|exact Og (DU.RQ ‹_›)|exact Og (DU.SE ‹_›)|exact Og (DU.MO ‹_›)|exact Og (DU.O6 ‹_›))|(show A_ _ _ (.Constant _ _ _) _;first|exact aek|exact afK|exact ag6|exact aeV)|(show A_ _ _ (.BinOp _ _ _ _) _;first|refine afF ?_ ?_|refine ag8 ?_ ?_|refine aey ?_ ?_|refine aef ?_ ?_|refine aex ?_ ?_|refine ag1 ?_ ?_|refine ag2 ?_ ?_|refine afI ?_ ?_)|(show A_ _ _ (.Compare _ _ _ _) _;first|refine aee (Cz.units ‹_›) ?_|refine aeR (Cz.units ‹_›) ?_|refine aed (Cz.units ‹_›) ?_ ?_|refine aeQ (Cz.units ‹_›) ?_ ?_|refine aet ?_ ?_|refine aen ?_ ?_|refine aeh ?_ ?_|refine aeg ?_ ?_|refine ael ?_ ?_|refine aeX ?_ ?_|refine aej (Cz.units ‹_›) ?_ ?_|refine aeU (Cz.units ‹_›) ?_ ?_|refine pO Pi Pi Ss Ss ?_ ?_ ?_|refine pO Pi Zx Ss kJ ?_ ?_ ?_)|(show A_ _ _ (.BoolOp _ _ _) _;first|refine afH ?_ ?_|refine aeZ ?_ ?_|refine aeY ?_)|(show A_ _ _ (.UnaryOp _ _ _) _;first|refine aeW ?_|refine aeS ?_)|(show A_ _ _ (.IfExp _ _ _ _) _;first|refine aei ?_ ?_ ?_)|(show A_ _ _ (.Attribute _ _ _) _;first|refine dY (DU.jC ‹_›) ?_|refine dY (DU.jD ‹_›) ?_|refine dY (DU.jE ‹_›) ?_)|(show A_ _ _ (.Subscript _ _ _) _;first|refine aem (Cz.units ‹_›) ?_ ?_ cr|refine ag3 ?_ ?_ ?_)|(show A_ _ _ (.Tuple _ _ _) _;first|refine agA ?_)|(show A_ _ _ (.List _ _) _;first|refine aes ?_)|(show A_ _ _ (.Dict _ _ _) _;first|refine aeb ?_|exact ae_|exact aea)|(show A_ _ _ (.ListComp _ _ _ _) _;first|refine afO _ _ (by rfl) ?_ ?_ ?_ (λ_ _ _ _ _ _ _=>?_)|refine afN _ _ (by rfl) ?_ ?_ ?_ (λ_ _ _ _ _ _ _=>?_))|(show A_ _ _ (.Call (.Name _ _) _ _ _) _;first|refine afL ‹_› (Cz.mono ‹_› (by decide)) ?_|refine aeu ‹_› (Cz.mono ‹_› (by decide)) ?_|refine afG ‹_› (DU.rZ ‹_›) ?_|refine W6 (WW _ (by decide)) (DU.Uv ‹_›) (DU.r_ ‹_›) (by kernel_rfl) ?_|refine ag9 (DU.hF ‹_›) ?_|refine W6 (WW _ (by decide)) (DU.Uv ‹_›) (DU.hF ‹_›) (by kernel_rfl) ?_|refine aep ‹_› (DU.hM ‹_›) (DU.rc ‹_›) ?_|refine aeo (DU.hM ‹_›) ?_|refine aer (DU.b6 ‹_›) (DU.b7 ‹_›) ?_|refine aeq (DU.b6 ‹_›) ?_|refine W6 (WW _ (by decide)) (DU.Uv ‹_›) (DU.b6 ‹_›) (by kernel_rfl) ?_|refine ag4 (DU.rd ‹_›) ?_|refine ag7 (DU.hO ‹_›) ?_|refine W6 (WW _ (by decide)) (DU.Uv ‹_›) (DU.hO ‹_›) (by kernel_rfl) ?_|refine agB (DU.hQ ‹_›) ?_|refine W6 (WW _ (by decide)) (DU.Uv ‹_›) (DU.hQ ‹_›) (by kernel_rfl) ?_)|(show A_ _ _ (.Call (.Attribute _ _ _) _ _ _) _;first|refine aew ‹_› (Cz.mono ‹_› (by decide)) ?_|refine aev ‹_› (Cz.mono ‹_› (by decide)) ?_ ?_|refine afJ ?_ ?_|refine afM ?_|refine afP (Cz.units ‹_›) ?_ ?_|refine aec ?_ ?_|refine aez ?_|refine ag0 ?_ ?_))
 |(show Fa _ _ _ _;first|refine agO ?_|(show Fa _ _ (.Compare _ _ _ _) _;first|refine afy (Cz.units ‹_›) ?_|refine afX (Cz.units ‹_›) ?_|refine afx (Cz.units ‹_›) ?_ ?_|refine afW (Cz.units ‹_›) ?_ ?_|refine afV ?_ ?_|refine afU ?_ ?_|refine afR ?_ ?_|refine afQ ?_ ?_|refine afT ?_ ?_|refine afz ?_ ?_|refine afS (Cz.units ‹_›) ?_ ?_|refine afY (Cz.units ‹_›) ?_ ?_|refine pP Pi Pi Ss Ss ?_ ?_ ?_|refine pP Pi Zx Ss kJ ?_ ?_ ?_)|refine afZ ?_|refine agP ?_|refine agQ ?_)
 |(show Ks _ _ _ _;first|exact afE|exact afm|refine afn ?_|refine aff ?_ ?_)
 |(show Fw _ _ _ _;first|(show Fw _ _ (.Expr _ _) _;first|exact afg|refine afi ?_)|(show Fw _ _ (.Return _ _) _;first|exact afr|refine afq ?_)|(show Fw _ _ (.Assign _ _ _) _;first|refine aft ?_|refine afe _ _ _ (C7.C1 ‹_›) (by rfl) ?_ ?_ ?_ (λ_ _ _ _ _ _ _=>?_)|refine afs _ (C7.C1 ‹_›) ?_|refine afc ?_ ?_|refine afh (Cz.units ‹_›) ?_ ?_ ?_|refine afp ?_ ?_ ?_|refine d_ (DU.jC ‹_›) ?_ ?_|refine d_ (DU.jD ‹_›) ?_ ?_|refine d_ (DU.jE ‹_›) ?_ ?_)|(show Fw _ _ (.For _ _ _ _ _) _;first|refine afj ?_ ?_ ?_|refine afk ?_ ?_ ?_)|exact afd|exact afo|refine afl ?_ ?_ ?_|exact aC (DU.af8 ‹_›)|exact aC (DU.af9 ‹_›)|exact aC (DU.afA ‹_›)|exact aC (DU.afB ‹_›)|refine afu _ (C7.C1 ‹_›) (DU.ad_ ‹_›) ?_ (λ_=>?_)|refine afv ?_ ?_)
 |refine agV ‹_› (Cz.mono ‹_› (by decide)) (λ_=>?_) (λ_=>?_)
 |exact afa
 |refine af_ ?_ ?_
 |exact afD
 |refine afC ?_ ?_
 |refine agR ?_ ?_
 |refine agT ?_ ?_
 |refine agS ?_
 |refine agU ?_
 |exact agM
 |refine agN ?_
 |exact rC _ (hN:=of_decide_eq_true ( by kernel_rfl ))
 |exact rk _ (hN:=of_decide_eq_true ( by kernel_rfl ))
 |exact rD _ _ (hN:=of_decide_eq_true ( by kernel_rfl ))
 |exact sz
 |refine sy (λ_ _ _ _ _ _ _=>?_)
 |exact agE _ (C7.C1 ‹_›)
 |refine agG ?_
 |exact agF
 |refine agD ?_ ?_
 |refine agI (DU.ra ‹_›) ?_
 |refine agJ (DU.b7 ‹_›) ?_
 |refine agK (DU.b7 ‹_›) ?_
 |refine agL (DU.re ‹_›) ?_
 |refine agH ?_
 )
namespace B6
open PySem PySem.Spec PyProof.Rows
abbrev Key:=Sum Int Str
def Qz:Key->A6->Bool
 |.inl k,v=>Value.isInt k v
 |.inr x,v=>Value.isStrOf x v
def xl(w:Bo):Key->Int
 |.inl k=>hashInt k
 |.inr x=>hashStr w x
def Mx:∀{k:Key}{v:A6},Qz k v=true->(∃i t,k=MC i/\v=Rz i t)\/(∃x t,k=MD x/\v=S0 x t)
 |.inl i,v,h=>by obtain⟨t,e⟩:=Value.isInt_shape (k:=i) (v:=v) h;exact .inl ⟨i,t,rfl,e⟩
 |.inr x,v,h=>by obtain⟨t,e⟩:=Value.isStrOf_shape (x:=x) (v:=v) h;exact .inr ⟨x,t,rfl,e⟩
def xm(i:Int)(t:Tok):Qz (.inl i) (.int i t)=true:=by simp[Qz,Value.isInt]
def xn(x:Str)(t:Tok):Qz (.inr x) (.str x t)=true:=by simp[Qz,Value.isStrOf]
def xo(a b:Int):decide ((MC a:Key)=MC b)=(a==b):=by
 by_cases e:a=b
 .subst e;simp
 .have h:¬(MC a:Key)=MC b:=λq=>e (Sum.inl.inj q);rw[decide_eq_false h];exact(beq_eq_false_iff_ne.mpr e).symm
def xt(a b:Str):decide ((MD a:Key)=MD b)=decide (a=b):=by
 by_cases e:a=b
 .subst e;simp
 .have h:¬(MD a:Key)=MD b:=λq=>e (Sum.inr.inj q);rw[decide_eq_false h,decide_eq_false e]
def xp(a:Int)(b:Str):decide ((MC a:Key)=MD b)=false:=decide_eq_false (λq=>nomatch q)
def xr(a:Str)(b:Int):decide ((MD a:Key)=MC b)=false:=decide_eq_false (λq=>nomatch q)
noncomputable def GM(prog:C5)(w:Bo):er prog w Key where
 is:=Qz
 hash:=xl w
 inj:=λv a b AE A2=>by
  rcases Mx AE with⟨i,t,rfl,rfl⟩|⟨x,t,rfl,rfl⟩
  .rcases Mx A2 with⟨j,u,rfl,e⟩|⟨y,u,rfl,e⟩
   .injection e with A9 _;rw[A9]
   .exact nomatch e
  .rcases Mx A2 with⟨j,u,rfl,e⟩|⟨y,u,rfl,e⟩
   .exact nomatch e
   .injection e with A9 _;rw[A9]
 byValue:=λk v h=>by rcases Mx h with⟨i,t,rfl,rfl⟩|⟨x,t,rfl,rfl⟩<;>rfl
 pyHash:=λB_ h=>by
  rcases Mx B_ with⟨i,t,rfl,rfl⟩|⟨x,t,rfl,rfl⟩
  .exact wpAny_pyHash_int h
  .exact wpAny_pyHash_str h
 eqBool:=λBI B_ h=>by
  rcases Mx BI with⟨i,t,rfl,rfl⟩|⟨x,t,rfl,rfl⟩
  .rcases Mx B_ with⟨j,u,rfl,rfl⟩|⟨y,u,rfl,rfl⟩
   .rw[xo]at h;exact wpAny_eqBool_int h
   .rw[xp]at h;exact SeqAt.EqAt.int_str i t y u _ _ _ _ h
  .rcases Mx B_ with⟨j,u,rfl,rfl⟩|⟨y,u,rfl,rfl⟩
   .rw[xr]at h;exact SeqAt.EqAt.str_int x t j u _ _ _ _ h
   .rw[xt]at h;exact wpAny_eqBool_str h
 «strs»:=λk x t v h=>by
  rcases Mx h with⟨i,u,rfl,e⟩|⟨y,u,rfl,e⟩
  .exact nomatch e
  .injection e with A9 _;subst A9;cases v<;>rfl
def kk(prog:C5)(w:Bo)(k:Key)(v:A6):(GM prog w).is k v=Qz k v:=rfl
def aaE(prog:C5)(w:Bo)(i:Int)(t:Tok):(GM prog w).is (.inl i) (.int i t)=true:=xm i t
def aaF(prog:C5)(w:Bo)(x:Str)(t:Tok):(GM prog w).is (.inr x) (.str x t)=true:=xn x t
abbrev El:=List Key
inductive V where
 |non|AL (b:Bool)|int (i:Int)|str (x:Str)|PK (b:Array UInt8)|RY (b:UInt64)|ref (a:A4)|ty (n:String)
 deriving DecidableEq
noncomputable def RelV:V->A6->Prop
 |.non,u=>u=J1
 |.AL b,u=>u=QU b
 |.int i,u=>∃t,u=Rz i t
 |.str x,u=>∃t,u=S0 x t
 |.PK b,u=>∃t,u=Value.bytes b t
 |.RY b,u=>∃t,u=ep b t
 |.ref a,u=>u=Cj a
 |.ty n,u=>u=Nv n
abbrev Vals:List V->List A6->Prop:=Paired RelV
theorem Vals.length{xs:List V}{us:List A6}(r:Vals xs us):xs.length=us.length:=Paired.length r
theorem Vals.get:∀{xs:List V}{us:List A6}{i:Nat}{x:V},Vals xs us->xs[i]?=some x->∃u,us[i]?=some u/\RelV x u
 |_,_,_,_,.nil,e=>by simp at e
 |_,_,0,_,.cons r _,e=>by simp at e;subst e;exact⟨_,rfl,r⟩
 |_,_,i+1,x,.cons _ t,e=>by obtain⟨u,h1,h2⟩:=Vals.get (i:=i) (x:=x) t (by simpa using e);exact⟨u,by simpa using h1,h2⟩
theorem Vals.set{x:V}{u:A6}(r:RelV x u):∀{xs:List V}{us:List A6}(i:Nat),Vals xs us->Vals (xs.set i x) (us.set i u)
 |_,_,_,.nil=>.nil
 |_,_,0,.cons _ t=>.cons r t
 |_,_,i+1,.cons q t=>.cons q (Vals.set r i t)
theorem Vals.append:∀{xs ys:List V}{us ws:List A6},Vals xs us->Vals ys ws->Vals (xs++ys) (us++ws)
 |_,_,_,_,.nil,s=>s
 |_,_,_,_,.cons r t,s=>.cons r (Vals.append t s)
theorem Vals.take:∀{xs:List V}{us:List A6}(n:Nat),Vals xs us->Vals (xs.take n) (us.take n)
 |_,_,0,_=>.nil
 |_,_,_+1,.nil=>.nil
 |_,_,n+1,.cons r t=>.cons r (Vals.take n t)
theorem Vals.drop:∀{xs:List V}{us:List A6}(n:Nat),Vals xs us->Vals (xs.drop n) (us.drop n)
 |_,_,0,r=>r
 |_,_,_+1,.nil=>.nil
 |_,_,n+1,.cons _ t=>Vals.drop n t
def I0:Option V->Option A6->Prop
 |some v,some u=>RelV v u
 |none,none=>True
 |_,_=>False
def ES{Bj:Type}:List (Bj×V)->List (Bj×A6)->Prop:=Paired λ(p:Bj×V)(q:Bj×A6)=>p.1=q.1/\RelV p.2 q.2
def Cm:Key->V
 |.inl i=>.int i
 |.inr x=>.str x
inductive Et where
 |lst (xs:List V)
 |tup (xs:List V)
 |Aj (A8:List (Key×V))|Ds (A8:List (El×V))
 |set (S:Int->Bool) (n:Nat)
 |ins (C Bl:A4) (B1:List (Str×V))
 |own (x:A4)
 |Zo (B1:List (Str×V))
 |met (f x:A4)
 |ZQ (lo AB:Int)
 |DR (o:Obj) (u:Et)
 |Ob (ps:Array A6)
 |ext (φ:B8->Prop)
abbrev AC:=A4->Option Et
def upd(H:AC)(a:A4)(o:Et):AC:=λb=>if b=a then some o else H b
def E4{H:AC}{a:A4}{o:Et}:upd H a o a=some o:=by unfold upd;rw[if_pos rfl]
def D6{H:AC}{a b:A4}{o:Et}(h:b≠a):upd H a o b=H b:=by unfold upd;rw[if_neg h]
def zf{H:AC}{a b:A4}{o u:Et}(h:H a=some o)(h':H b=some u)(d:o≠u):a≠b:=by intro e;subst e;rw[h]at h';exact d (GU h')
def L9{H:AC}{a b:A4}{o:Et}(h:H a=some o)(h':H b=none):a≠b:=by intro e;subst e;rw[h]at h';cases h'
def OO(H:AC)(k:El)(a:A4):Prop:=H a=some (.tup (k.map Cm))
section
variable(P:C5)(w:Bo)(K:Aq)
noncomputable def Dr(H:AC)(h:B8)(a:A4):Et->Prop
 |.lst xs=>xs.length<=CG/\∃(its:List A6)(n:Nat),Vals xs its/\h.get? a=some { cls:=.type "list",data:=.seq its.toArray n }
 |.tup xs=>xs.length<=CG/\∃its:List A6,Vals xs its/\IsTup h a its.toArray
 |.Aj A8=>A8.length<=CG/\(a==Jy)=false/\∃vs,ES A8 vs/\h.DictOf (GM P w) a vs
 |.Ds A8=>A8.length<=CG/\(a==Jy)=false/\∃xs:List (El×A4×A6),
     Paired (λ(p:El×V)(q:El×A4×A6)=>p.1=q.1/\OO H p.1 q.2.1/\RelV p.2 q.2.2) A8 xs/\
     ∃o es An,h.get? a=some o/\o.ExactDict/\o.data=.dict es An/\es.toList=xs.map (entryOfKey (tupleKind (GM P w)))/\(xs.map (·.1)).Nodup
 |.set S n=>h.SetOf (intKind P w) a S n
 |.ins C Bl B1=>H Bl=some (.own a)/\B1.length<=1000/\Bl≠a/\h.get? a=some (P9 C Bl)/\
     ∃E7,h.Ns1 Bl E7/\(∀f,I0 (B1.lookup f) (E7 f))/\ej E7 (B1.map (·.1))
 |.own _=>∃o,h.get? a=some o
 |.Zo B1=>∃E7,h.Ns1 a E7/\∀f,I0 (B1.lookup f) (E7 f)
 |.ZQ lo AB=>∃t u v,h.get? a=some { cls:=.type "range",data:=.fields #[.int lo t,.int AB u,.int 1 v] }
 |.DR o u=>h.get? a=some o/\Dr H h a u
 |.Ob ps=>h.get? a=some { cls:=.none,data:=.fields ps }
 |.met f x=>h.get? a=some (eZ (.ref f) (.ref x))
 |.ext φ=>φ h/\(∃o,h.get? a=some o)/\∀h1 h2:B8,φ h1->(∀o,h1.get? a=some o->h2.get? a=some o)->φ h2
def Ek(H:AC)(h:B8):Prop:=∀a o,H a=some o->Dr P w H h a o
end
section
variable{P:C5}{w:Bo}{K:Aq}{H A7:AC}{h h':B8}{a:A4}{o:Et}
theorem Dr.lt(x:Dr P w H h a o):a<h.objs.size:=by
 cases o with
 |lst xs=>obtain⟨_,_,_,_,e⟩:=x;exact DB e
 |tup xs=>obtain⟨_,_,_,p⟩:=x;exact p.lt
 |Aj A8=>obtain⟨_,_,_,_,o,_,_,e,_⟩:=x;exact DB e
 |Ds A8=>obtain⟨_,_,_,_,o,_,_,e,_⟩:=x;exact DB e
 |set S n=>obtain⟨o,_,_,_,e,_⟩:=x;exact DB e
 |ins C Bl B1=>obtain⟨_,_,_,e,_⟩:=x;exact DB e
 |own y=>obtain⟨_,e⟩:=x;exact DB e
 |Zo B1=>obtain⟨_,⟨_,_,_,e,_⟩,_⟩:=x;exact DB e
 |ZQ lo AB=>obtain⟨_,_,_,e⟩:=x;exact DB e
 |DR BJ u=>obtain⟨e,_⟩:=x;exact DB e
 |Ob ps=>exact DB (show h.get? a=some _ from x)
 |met f y=>exact DB (show h.get? a=some _ from x)
 |ext φ=>obtain⟨_,⟨_,e⟩,_⟩:=x;exact DB e
theorem Paired.dD{α β:Type}{F G:α->β->Prop}:∀{l₁:List α}{l₂:List β},Paired F l₁ l₂->(∀a b,F a b->G a b)->Paired G l₁ l₂
 |_,_,.nil,_=>.nil
 |_,_,.cons r t,f=>.cons (f _ _ r) (Paired.dD t f)
def Dr.NX(x:Dr P w H h a o)(k:∀b u,(b=a\/H b=some (.own a))->h.get? b=some u->h'.get? b=some u)(ho:∀b,H b=some (.own a)->A7 b=some (.own a))(Bi:∀b xs,H b=some (.tup xs)->A7 b=some (.tup xs)):Dr P w A7 h' a o:=by
 induction o with
 |lst xs=>obtain⟨z,its,n,r,e⟩:=x;exact⟨z,its,n,r,k _ _ (.inl rfl) e⟩
 |tup xs=>obtain⟨z,its,r,BJ,e,c⟩:=x;exact⟨z,its,r,BJ,k _ _ (.inl rfl) e,c⟩
 |Aj A8=>obtain⟨z,y,vs,r,BJ,es,An,e,c⟩:=x;exact⟨z,y,vs,r,BJ,es,An,k _ _ (.inl rfl) e,c⟩
 |Ds A8=>obtain⟨z,y,xs,r,BJ,es,An,e,c⟩:=x;exact⟨z,y,xs,Paired.dD r λp q z=>⟨z.1,Bi _ _ z.2.1,z.2.2⟩,BJ,es,An,k _ _ (.inl rfl) e,c⟩
 |set S n=>obtain⟨BJ,es,An,t,e,c⟩:=x;exact⟨BJ,es,An,t,k _ _ (.inl rfl) e,c⟩
 |ins C Bl B1=>obtain⟨d,z,ne,e,E7,⟨Dy,es,An,AF,c⟩,r⟩:=x;exact⟨ho _ d,z,ne,k _ _ (.inl rfl) e,E7,⟨Dy,es,An,k _ _ (.inr d) AF,c⟩,r⟩
 |own y=>obtain⟨BJ,e⟩:=x;exact⟨BJ,k _ _ (.inl rfl) e⟩
 |Zo B1=>obtain⟨E7,⟨Dy,es,An,e,c⟩,r⟩:=x;exact⟨E7,⟨Dy,es,An,k _ _ (.inl rfl) e,c⟩,r⟩
 |ZQ lo AB=>obtain⟨t,u,v,e⟩:=x;exact⟨t,u,v,k _ _ (.inl rfl) e⟩
 |DR BJ u C9=>obtain⟨e,q⟩:=x;exact⟨k _ _ (.inl rfl) e,C9 q⟩
 |Ob ps=>have e:h.get? a=some { cls:=.none,data:=.fields ps }:=x;show h'.get? a=some { cls:=.none,data:=.fields ps };exact k a _ (.inl rfl) e
 |met f y=>have e:h.get? a=some (eZ (.ref f) (.ref y)):=x;show h'.get? a=some (eZ (.ref f) (.ref y));exact k a _ (.inl rfl) e
 |ext φ=>obtain⟨p,⟨o,e⟩,st⟩:=x;exact⟨st _ _ p λo q=>k _ _ (.inl rfl) q,⟨o,k _ _ (.inl rfl) e⟩,st⟩
theorem Ek.lt(x:Ek P w H h)(e:H a=some o):a<h.objs.size:=(x a o e).lt
def Ek.fresh(x:Ek P w H h)(e:h.objs.size<=a):H a=none:=by
 cases q:H a with
 |none=>rfl
 |some u=>exact absurd (G3 (x.lt q) e) (Iy _)
def Ek.kept(x:Ek P w H h)(k:∀b u,h.get? b=some u->h'.get? b=some u):Ek P w H h':=λa o e=>
 (x a o e).NX (λb u _ q=>k b u q) (λ_ q=>q) λ_ _ q=>q
def Ek.laid(x:Ek P w H h)(k:∀b u,h.get? b=some u->h'.get? b=some u)(AT:h.objs.size<=a)(new:Dr P w (upd H a o) h' a o):Ek P w (upd H a o) h':=λb u e=>by
 have AV:=x.fresh AT;by_cases A2:b=a
 .subst A2;rw[E4]at e;cases e;exact new
 .rw[D6 A2]at e;exact(x b u e).NX (λc v _ q=>k c v q) (λc q=>by rw[D6 (L9 q AV)];exact q) λc xs q=>by rw[D6 (L9 q AV)];exact q
end
def K6(H:AC)(a:A4)(u:Et):Prop:=H a=some u\/∃o,H a=some (.DR o u)
def K6.ok{P:C5}{w:Bo}{H:AC}{h:B8}{a:A4}{u:Et}(r:K6 H a u)(x:Ek P w H h):Dr P w H h a u:=by
 rcases r with r|⟨o,r⟩
 .exact x a u r
 .obtain⟨_,q⟩:=x a _ r;exact q
def Uo:Option Et->Prop
 |some (.lst _)=>True
 |some (.Aj _)=>True
 |some (.Ds _)=>True
 |some (.set _ _)=>True
 |some (.ins _ _ _)=>True
 |some (.ext _)=>True
 |_=>False
section
variable{P:C5}{w:Bo}{K:Aq}{H:AC}{h h':B8}{x e:A4}{o':Et}
def Ek.write(ok:Ek P w H h)(KO:Uo (H x))(he:e=x\/H e=some (.own x))(k:∀b u,b≠e->h.get? b=some u->h'.get? b=some u)(SW:∃u,h'.get? e=some u)(new:Dr P w (upd H x o') h' x o'):Ek P w (upd H x o') h':=λb u q=>by
 have kC:∀c y,H c=some (.own y)->c≠x:=λc y r z=>by subst z;rw[r]at KO;exact KO
 have zu:∀c xs,H c=some (.tup xs)->c≠x:=λc xs r z=>by subst z;rw[r]at KO;exact KO
 by_cases A2:b=x
 .subst A2;rw[E4]at q;cases q;exact new
 .rw[D6 A2]at q;by_cases Re:b=e
  .have CT:H b=some (.own x):=by
     rcases he with z|z
     .exact absurd (Re.trans z) A2
     .rw[Re];exact z
   rw[q]at CT;cases CT;obtain⟨v,B_⟩:=SW;exact⟨v,by rw[Re];exact B_⟩
  .refine(ok b u q).NX (λc v AH r=>k c v ?_ r) (λc r=>by rw[D6 (kC c b r)];exact r) λc xs r=>by rw[D6 (zu c xs r)];exact r
   rcases AH with rfl|AH
   .exact Re
   .rintro rfl;rcases he with z|z
    .exact kC c b AH z
    .rw[AH]at z;cases z;exact A2 rfl
end
structure Fp(B1 ex:List A4)(H A7:AC)(h h':B8):Prop where
 keep:∀b o,h.get? b=some o->H b=none->b∉B1->b∉ex->h'.get? b=some o
 slot:∀b o,h.get? b=some o->H b=none->b∈B1->b∉ex->∃Bn,h'.get? b=some { o with slots:=Bn }
 free:∀b o,h.get? b=some o->H b=none->b∉ex->A7 b=none
 there:∀b o,h.get? b=some o->b∉ex->∃o',h'.get? b=some o'
 Iw:∀b xs,H b=some (.tup xs)->A7 b=some (.tup xs)
 Hl:∀b o u,H b=some (.DR o u)->A7 b=some (.DR o u)
 Il:∀b ps,H b=some (.Ob ps)->∃more,A7 b=some (.Ob (ps++more))
section
variable{B1 NH ex ah2:List A4}{H H1 AS:AC}{h h1 h2 h':B8}{a x e:A4}{o:Et}
def Fp.any(u:Fp B1 ex H H1 h h1){b:A4}{BJ:Obj}(q:h.get? b=some BJ)(n:H b=none)(AK:b∉ex):∃Bn,h1.get? b=some { BJ with slots:=Bn }:=by
 by_cases A2:b∈B1
 .exact u.slot b BJ q n A2 AK
 .exact⟨BJ.slots,u.keep b BJ q n A2 AK⟩
def Fp.trans(a:Fp B1 ex H H1 h h1)(b:Fp B1 ex H1 AS h1 h2):Fp B1 ex H AS h h2 where
 keep:=λc BJ q n AH AK=>b.keep c BJ (a.keep c BJ q n AH AK) (a.free c BJ q n AK) AH AK
 slot:=λc BJ q n AH AK=>by obtain⟨Bn,A9⟩:=a.slot c BJ q n AH AK;obtain⟨cY,AF⟩:=b.slot c _ A9 (a.free c BJ q n AK) AH AK;exact⟨cY,AF⟩
 free:=λc BJ q n AK=>by obtain⟨o',A9⟩:=a.there c BJ q AK;exact b.free c o' A9 (a.free c BJ q n AK) AK
 there:=λc BJ q AK=>by obtain⟨o',A9⟩:=a.there c BJ q AK;exact b.there c o' A9 AK
 Iw:=λc xs q=>b.Iw c xs (a.Iw c xs q)
 Hl:=λc BJ xs q=>b.Hl c BJ xs (a.Hl c BJ xs q)
 Il:=λc ps q=>by obtain⟨GB,A9⟩:=a.Il c ps q;obtain⟨GC,AF⟩:=b.Il c _ A9;exact⟨GB++GC,by rw[AF,e9]⟩
def Fp.kept(k:∀b u,h.get? b=some u->h'.get? b=some u):Fp B1 ex H H h h':=
 ⟨λb BJ q _ _ _=>k b BJ q,λb BJ q _ _ _=>⟨BJ.slots,k b BJ q⟩,λ_ _ _ n _=>n,λb BJ q _=>⟨BJ,k b BJ q⟩,λ_ _ q=>q,λ_ _ _ q=>q,λ_ ps q=>⟨#[],by rw[q];simp⟩⟩
def Fp.refl:Fp B1 ex H H h h:=Fp.kept λ_ _ q=>q
def Fp.laid(k:∀b u,h.get? b=some u->h'.get? b=some u)(AT:h.objs.size<=a)(AV:H a=none):Fp B1 ex H (upd H a o) h h' where
 keep:=λb u q _ _ _=>k b u q
 slot:=λb u q _ _ _=>⟨u.slots,k b u q⟩
 free:=λb u q n _=>by rw[D6 (Ei (G3 (DB q) AT))];exact n
 there:=λb u q _=>⟨u,k b u q⟩
 Iw:=λb xs q=>by rw[D6 (L9 q AV)];exact q
 Hl:=λb u xs q=>by rw[D6 (L9 q AV)];exact q
 Il:=λb ps q=>⟨#[],by rw[D6 (L9 q AV),q];simp⟩
def Fp.write(KO:Uo (H x))(he:e=x\/H e=some (.own x))(k:∀b u,b≠e->h.get? b=some u->h'.get? b=some u)(SW:∃u,h'.get? e=some u):Fp B1 ex H (upd H x o) h h':=by
 have AK:∀b,H b=none->b≠x:=λb n z=>by subst z;rw[n]at KO;exact KO
 have A2:∀b,H b=none->b≠e:=λb n z=>by
  subst z;rcases he with r|r
  .exact AK b n r
  .rw[n]at r;cases r
 have hm:∀b u,H b=some u->¬Uo (some u)->b≠x:=λb u q nm z=>by subst z;rw[q]at KO;exact nm KO
 refine⟨λb u q n _ _=>k b u (A2 b n) q,λb u q n _ _=>⟨u.slots,k b u (A2 b n) q⟩,λb u q n _=>by rw[D6 (AK b n)];exact n,λb u q _=>?_,
  λb xs q=>by rw[D6 (hm b _ q λz=>z)];exact q,λb u xs q=>by rw[D6 (hm b _ q λz=>z)];exact q,λb ps q=>⟨#[],by rw[D6 (hm b _ q λz=>z),q];simp⟩⟩
 by_cases Re:b=e
 .subst Re;exact SW
 .exact⟨u,k b u Re q⟩
end
def ZG(h:B8)(H:AC):List A4:=(CW h.objs.size).filter λa=>(H a).isSome
def Ol(h:B8)(H:AC):B8:=Wt h (ZG h H)
def vv(h:B8)(H:AC):(Ol h H).objs.size=h.objs.size:=PySem.W.hideAll_size _ _
def vu{h:B8}{H:AC}{b:A4}{o:Obj}(e:h.get? b=some o)(n:H b=none):(Ol h H).get? b=some o:=
 qz _ e λhm=>by have q:(H b).isSome=true:=(List.mem_filter.mp hm).2;rw[n]at q;simp at q
def zW{h:B8}{H:AC}{b:A4}{o:Obj}(e:(Ol h H).get? b=some o):h.get? b=some o/\H b=none:=by
 have BX:h.get? b=some o:=qd (ZG h H) e;refine⟨BX,?_⟩;cases q:H b with
 |none=>rfl
 |some x=>have hm:b∈ZG h H:=List.mem_filter.mpr ⟨List.mem_range.mpr (DB BX),by simp[q]⟩;have z:(Ol h H).get? b=none:=PySem.W.hideAll_none (ZG h H) hm;rw[z]at e;cases e
def rO(g h:B8)(L:A4):List (A4×Obj):=(CW h.objs.size).filterMap λa=>if a=L\/(g.get? a).isSome=true then none else(h.get? a).map λo=>(a,o)
def rest(g h:B8)(L d:A4):List (A4×Obj):=(rO g h L).filter λp=>decide (p.1≠d)
structure Mod(K:Aq)(mg:Str->Option A6)(base:B8):Prop where
 Oq:K.In base
 glob:base.Ns FG mg
 blt:∃Gd,base.Ns builtinsNs Gd/\∀x:Str,x≠"__name__"->Gd x=Ny x
 nolimit:base.NoLimit
structure Ao where
 prog:C5
 w:Bo
 K:Aq
 mg:Str->Option A6
 base:B8
 A:D4
 N:List Str
 Fz:AM
 M3:AC
 env:Env
 outer:List Env
 stack:List Env
 ex:List A4
 fn:Str->Bool
 calm:Bool
 Cd:List (A4×Obj)
 Cr:A6->AM->Prop
def Ep(l:List Env):List A4:=l.filterMap (·.frame)
abbrev Ao.B1(X:Ao):List A4:=Ep X.outer
def Y7(sc:F7)(x:Str):Prop:=sc.names.lookup x=some .local\/sc.names.lookup x=some .cell\/sc.names.lookup x=some .free
def Loc(sc:F7)(x:Str):Prop:=sc.names.lookup x=some .local\/sc.names.lookup x=some .cell
noncomputable def Look(env:Env)(h:B8)(m:Str->Option A6)(x:Str)(u:A6):Prop:=
 (env.kindOf x=some .local/\m x=some u)\/((env.kindOf x=some .cell\/env.kindOf x=some .free)/\∃c,env.cells.lookup x=some c/\h.IsCell c (some u))
structure Ao.Ok(X:Ao):Prop where
 mod:Mod X.K X.mg X.base
 kind:X.env.scope.kind=.function
 glob:X.env.globals=FG
 blt:X.env.builtins=builtinsNs
 above:X.Fz.heap.objs.size<=X.env.locals
 inj:∀x y c,X.env.cells.lookup x=some c->X.env.cells.lookup y=some c->x=y
 has:∀x,(X.env.kindOf x=some .cell\/X.env.kindOf x=some .free)->∃c,X.env.cells.lookup x=some c
 SF:∀x c,X.fn x=true->X.env.cells.lookup x=some c->X.Fz.heap.objs.size<=c
 hd:X.calm=true->X.A.handled=none
 frames:X.A.frames=some X.stack
 WQ:X.stack=X.outer\/(X.stack=X.env::X.outer/\X.env.frame=some X.env.locals)
 aq:∀b∈X.ex,b≠X.env.locals/\∀x c,X.env.cells.lookup x=some c->c≠b
 bs:∀b o,X.base.get? b=some o->X.Fz.heap.get? b=some o/\X.M3 b=none
 O5:X.base.objs.size<=X.Fz.heap.objs.size
 Ph:∀b o,X.base.get? b=some o->b∉X.ex
 UU:∀b∈X.ex,b∉X.B1
 Ji:X.Fz.heap.FunFrames X.base X.outer
 Pz:∀b∈X.B1,X.M3 b=none
structure Inv(X:Ao)(pins:List (A4×Obj))(σ :List (Option V))(H:AC)(s:AM):Prop where
 ok:X.Ok
 os:s.os=X.Fz.os
 bare:N8 s.gens
 base:Fp X.B1 X.ex X.M3 H X.Fz.heap s.heap
 loc:∃m,s.heap.Ns X.env.locals m/\∀(i:Nat)(x:Str)(v:V),X.N[i]?=some x-> σ[i]?=some (some v)->Y7 X.env.scope x->∃u,RelV v u/\Look X.env s.heap m x u
 cell:∀x c,X.env.cells.lookup x=some c->∃v,s.heap.IsCell c v
 free:H X.env.locals=none
 KF:∀x c,X.env.cells.lookup x=some c->H c=none
 pin:∀p∈X.Cd++pins,s.heap.get? p.1=some p.2/\H p.1=none/\p.1≠X.env.locals/\p.1∉X.B1/\∀v,p.2.data≠.cell v
 Aw:Ek X.prog X.w H s.heap
 len: σ.length=X.N.length
section
variable{X:Ao}{pins:List (A4×Obj)}{σ :List (Option V)}{H A7:AC}{s:AM}{h':B8}
def Ao.Ok.zo(ok:X.Ok){b:A4}{o:Obj}(e:X.base.get? b=some o):b∉X.B1:=λA2=>by have:=(ok.Ji.mem A2).1;rw[e]at this;cases this
theorem Inv.bs(J:Inv X pins σ H s):∀b o,X.base.get? b=some o->s.heap.get? b=some o/\H b=none:=λb o e=>
 ⟨J.base.keep b o (J.ok.bs b o e).1 (J.ok.bs b o e).2 (J.ok.zo e) (J.ok.Ph b o e),J.base.free b o (J.ok.bs b o e).1 (J.ok.bs b o e).2 (J.ok.Ph b o e)⟩
def Inv.BU(J:Inv X pins σ H s):∀b o,X.base.get? b=some o->s.heap.get? b=some o:=λb o e=>(J.bs b o e).1
theorem Inv.mod(J:Inv X pins σ H s):Mod X.K X.mg X.base:=J.ok.mod
def Inv.F0(J:Inv X pins σ H s):X.K.In s.heap:=J.ok.mod.Oq.keeps J.BU
theorem Inv.lt(J:Inv X pins σ H s):X.env.locals<s.heap.objs.size:=let⟨_,AV,_⟩:=J.loc;AV.lt
def Inv.Zb(J:Inv X pins σ H s):X.Fz.heap.objs.size<=s.heap.objs.size:=I_ J.ok.above (QM J.lt)
def Inv.zq(J:Inv X pins σ H s){a:A4}(h:s.heap.objs.size<=a):a∉X.B1:=λA2=>by obtain⟨_,o,ho,_⟩:=J.ok.Ji.mem A2;exact absurd (G3 (DB ho) (I_ J.Zb h)) (Iy _)
def Inv.RR(J:Inv X pins σ H s):∀x c,X.env.cells.lookup x=some c->c≠X.env.locals:=λx c e z=>by obtain⟨v,o,ho,hd⟩:=J.cell x c e;obtain⟨m,⟨o',es,An,I5,c4,_⟩,_⟩:=J.loc;rw[z,I5]at ho;cases ho;rw[c4]at hd;cases hd
theorem Inv.Ji(J:Inv X pins σ H s):s.heap.FunFrames X.base X.outer:=by
 have all:∀(l:List Env),(∀b∈Ep l,b∈X.B1)->X.Fz.heap.FunFrames X.base l->s.heap.FunFrames X.base l:=by
  intro l;induction l with
  |nil=>intro _ _;trivial
  |cons env r C9=>intro AN AG;obtain⟨AO,⟨L,o,hf,AV,ho,hd⟩,B7⟩:=AG;have GJ:L∈X.B1:=AN L (by unfold Ep;rw[Ro,hf];exact Gq);obtain⟨Bn,e⟩:=J.base.slot L o ho (J.ok.Pz L GJ) GJ λz=>J.ok.UU L z GJ;exact⟨AO,⟨L,_,hf,AV,e,hd⟩,C9 (λb A2=>AN b (by unfold Ep;rw[Ro,hf];exact GF _ A2)) B7⟩
 exact all X.outer (λ_ A2=>A2) J.ok.Ji
theorem Inv.stack(J:Inv X pins σ H s):s.heap.FunFrames X.base X.stack:=by
 rcases J.ok.WQ with e|⟨e,hf⟩
 .rw[e];exact J.Ji
 .rw[e];obtain⟨m,AV,_⟩:=J.loc;refine .cons (by rw[J.ok.kind];decide) hf AV ?_ J.Ji;exact Heap.get?_none_of_le (I_ J.ok.O5 J.ok.above)
def Inv.Z_(J:Inv X pins σ H s):∀b∈Ep X.stack,b∈X.env.locals::X.B1:=λb A2=>by
 rcases J.ok.WQ with e|⟨e,hf⟩
 .rw[e]at A2;exact GF _ A2
 .rw[e]at A2;unfold Ep at A2;rw[Ro,hf]at A2;exact A2
def Inv.d8(J:Inv X pins σ H s):∀b∈Ep X.stack,H b=none:=λb A2=>by
 rcases List.mem_cons.mp (J.Z_ b A2)with e|A2
 .rw[e];exact J.free
 .obtain⟨_,o,ho,_⟩:=J.ok.Ji.mem A2;exact J.base.free b o ho (J.ok.Pz b A2) λz=>J.ok.UU b z A2
def Inv.step{g':Array GenState}{t':Nat}{d':Drawn}{ch:List A4}(J:Inv X pins σ H s)(Nb:∀b∈ch,(b∈X.ex\/X.Fz.heap.objs.size<=b)/\b≠X.env.locals/\(∀x c,X.env.cells.lookup x=some c->c≠b)/\∀p∈X.Cd++pins,p.1≠b)(keep:∀b o,b≠X.env.locals->b∉X.B1->b∉ch->s.heap.get? b=some o->H b=none->h'.get? b=some o)(slot:∀b o,b≠X.env.locals->b∈X.B1->b∉ch->s.heap.get? b=some o->H b=none->∃Bn,h'.get? b=some { o with slots:=Bn })(free:∀b o,b∉ch->s.heap.get? b=some o->H b=none->A7 b=none)(there:∀b o,b∉ch->s.heap.get? b=some o->∃o',h'.get? b=some o')(Iw:∀b xs,H b=some (.tup xs)->A7 b=some (.tup xs))(Hl:∀b o u,H b=some (.DR o u)->A7 b=some (.DR o u))(Il:∀b ps,H b=some (.Ob ps)->∃more,A7 b=some (.Ob (ps++more)))(ns:∀m,s.heap.Ns X.env.locals m->h'.Ns X.env.locals m)(Aw:Ek X.prog X.w A7 h')(Ak:N8 g') :
  Inv X pins σ A7 { s with heap:=h',gens:=g',drawn:=d',toks:=t' }:=by
 have k6:∀b o,X.Fz.heap.get? b=some o->b≠X.env.locals:=λb o e=>Ei (G3 (DB e) J.ok.above);have Yo:∀b o,X.Fz.heap.get? b=some o->b∉X.ex->b∉ch:=λb o e AK A2=>by
  rcases(Nb b A2).1 with z|z
  .exact AK z
  .exact absurd (G3 (DB e) z) (Iy _)
 have cellK:∀x c,X.env.cells.lookup x=some c->∀v,s.heap.IsCell c v->h'.IsCell c v:=λx c e v⟨o,ho,hd⟩=>by
  have VZ:c∉ch:=λz=>(Nb c z).2.2.1 x c e rfl;by_cases AH:c∈X.B1
  .obtain⟨Bn,q⟩:=slot c o (J.RR x c e) AH VZ ho (J.KF x c e);exact⟨_,q,hd⟩
  .exact⟨o,keep c o (J.RR x c e) AH VZ ho (J.KF x c e),hd⟩
 refine⟨J.ok,J.os,Ak,⟨λb o e n A2 AK=>?_,λb o e n A2 AK=>?_,λb o e n AK=>?_,λb o e AK=>?_,λb xs e=>Iw b xs (J.base.Iw b xs e),λb o xs e=>Hl b o xs (J.base.Hl b o xs e),λb ps e=>?_⟩,?_,λx c e=>?_,?_,λx c e=>?_,λp AT=>?_,Aw,J.len⟩
 .exact keep b o (k6 b o e) A2 (Yo b o e AK) (J.base.keep b o e n A2 AK) (J.base.free b o e n AK)
 .obtain⟨Bn,A9⟩:=J.base.slot b o e n A2 AK;obtain⟨cY,AF⟩:=slot b _ (k6 b o e) A2 (Yo b o e AK) A9 (J.base.free b o e n AK);exact⟨cY,AF⟩
 .obtain⟨o',A9⟩:=J.base.there b o e AK;exact free b o' (Yo b o e AK) A9 (J.base.free b o e n AK)
 .obtain⟨o',A9⟩:=J.base.there b o e AK;exact there b o' (Yo b o e AK) A9
 .obtain⟨GB,A9⟩:=J.base.Il b ps e;obtain⟨GC,AF⟩:=Il b _ A9;exact⟨GB++GC,by rw[AF,e9]⟩
 .obtain⟨m,AV,AG⟩:=J.loc;refine⟨m,ns m AV,λi x v A9 AF Dh=>?_⟩;obtain⟨u,r,l⟩:=AG i x v A9 AF Dh;refine⟨u,r,?_⟩;rcases l with l|⟨k,c,e,z⟩
  .exact .inl l
  .exact .inr ⟨k,c,e,cellK x c e _ z⟩
 .obtain⟨v,z⟩:=J.cell x c e;exact⟨v,cellK x c e v z⟩
 .obtain⟨m,⟨o,_,_,ho,_⟩,_⟩:=J.loc;exact free _ o (λz=>(Nb _ z).2.1 rfl) ho J.free
 .obtain⟨v,o,ho,hd⟩:=J.cell x c e;exact free c o (λz=>(Nb c z).2.2.1 x c e rfl) ho (J.KF x c e)
 .obtain⟨e,n,ne,Lp,d⟩:=J.pin p AT;have VZ:p.1∉ch:=λz=>(Nb p.1 z).2.2.2 p AT rfl;exact⟨keep p.1 p.2 ne Lp VZ e n,free p.1 p.2 VZ e n,ne,Lp,d⟩
def Inv.un{t':Nat}(J:Inv X pins σ H s)(u:Fp X.B1 [] H A7 s.heap h')(Aw:Ek X.prog X.w A7 h'):Inv X pins σ A7 { s with heap:=h',toks:=t' }:=by
 obtain⟨m,⟨o,es,An,ho,r⟩,_⟩:=id J.loc;obtain⟨Bn,GJ⟩:=u.any ho J.free (by simp);exact J.step (g':=s.gens) (d':=s.drawn) (ch:=[]) (λ_ z=>nomatch z) (λb o _ A2 _ e n=>u.keep b o e n A2 (by simp)) (λb o _ A2 _ e n=>u.slot b o e n A2 (by simp)) (λb o _ e n=>u.free b o e n (by simp)) (λb o _ e=>u.there b o e (by simp)) u.Iw u.Hl u.Il (λE0 hm=>by obtain⟨o',es',NF,I5,BW⟩:=hm;rw[ho]at I5;cases I5;exact⟨_,es',NF,GJ,BW⟩) Aw J.bare
def Inv.call{g':Array GenState}{t':Nat}{d':Drawn}{ch:List A4}(J:Inv X pins σ H s)(u:Fp (Ep X.stack) ch H A7 s.heap h')(Aw:Ek X.prog X.w A7 h')(Ak:N8 g')(Nb:∀b∈ch,(b∈X.ex\/X.Fz.heap.objs.size<=b)/\b≠X.env.locals/\(∀x c,X.env.cells.lookup x=some c->c≠b)/\∀p∈X.Cd++pins,p.1≠b) :
  Inv X pins σ A7 { s with heap:=h',gens:=g',drawn:=d',toks:=t' }:=by
 obtain⟨m,⟨o,es,An,ho,r⟩,_⟩:=id J.loc;obtain⟨Bn,GJ⟩:=u.any ho J.free λz=>(Nb _ z).2.1 rfl;exact J.step (ch:=ch) Nb (λb o GJ A2 AH e n=>u.keep b o e n (λz=>(List.mem_cons.mp (J.Z_ b z)).elim GJ A2) AH) (λb o _ _ AH e n=>u.any e n AH) (λb o AH e n=>u.free b o e n AH) (λb o AH e=>u.there b o e AH) u.Iw u.Hl u.Il (λE0 hm=>by obtain⟨o',es',NF,I5,BW⟩:=hm;rw[ho]at I5;cases I5;exact⟨_,es',NF,GJ,BW⟩) Aw Ak
def Inv.turned{t':Nat}{it:A4}(J:Inv X pins σ H s)(k:∀b o,b≠it->s.heap.get? b=some o->h'.get? b=some o)(AV:H it=none)(GJ:it≠X.env.locals)(h1:it∈X.ex\/X.Fz.heap.objs.size<=it)(h2:∀x c,X.env.cells.lookup x=some c->c≠it)(BH:∀p∈X.Cd++pins,p.1≠it):Inv X pins σ H { s with heap:=h',toks:=t' }:=by
 have Pg:∀b u,H b=some u->b≠it:=λb u e z=>by rw[z,AV]at e;cases e
 refine J.step (g':=s.gens) (d':=s.drawn) (ch:=[it]) (λb A2=>?_) (λb o _ _ AH e _=>k b o (λz=>AH (by simp[z])) e) (λb o _ _ AH e _=>⟨o.slots,k b o (λz=>AH (by simp[z])) e⟩) (λ_ _ _ _ n=>n)
  (λb o AH e=>⟨o,k b o (λz=>AH (by simp[z])) e⟩) (λ_ _ e=>e) (λ_ _ _ e=>e) (λb ps e=>⟨#[],by rw[e];simp⟩) (λm hm=>?_) (λb u e=>?_) J.bare
 .have e:b=it:=by simpa using A2
  subst e;exact⟨h1,GJ,h2,BH⟩
 .obtain⟨o,es,An,ho,r⟩:=hm;exact⟨o,es,An,k _ o (LY GJ) ho,r⟩
 .refine(J.Aw b u e).NX (λc v AH q=>k c v ?_ q) (λ_ q=>q) λ_ _ q=>q;rcases AH with z|z
  .rw[z];exact Pg b u e
  .exact Pg c _ z
def Inv.tok(J:Inv X pins σ H s)(t:Nat):Inv X pins σ H { s with toks:=t }:=J.un (h':=s.heap) (t':=t) Fp.refl J.Aw
theorem Inv.kept{t':Nat}(J:Inv X pins σ H s)(k:∀b u,s.heap.get? b=some u->h'.get? b=some u):Inv X pins σ H { s with heap:=h',toks:=t' }:=J.un (Fp.kept k) (J.Aw.kept k)
theorem Inv.laid{a:A4}{o:Et}{t':Nat}(J:Inv X pins σ H s)(k:∀b u,s.heap.get? b=some u->h'.get? b=some u)(AT:s.heap.objs.size<=a)(new:Dr X.prog X.w (upd H a o) h' a o) :
  Inv X pins σ (upd H a o) { s with heap:=h',toks:=t' }:=J.un (Fp.laid k AT (J.Aw.fresh AT)) (J.Aw.laid k AT new)
theorem Inv.write{x e:A4}{o:Et}{t':Nat}(J:Inv X pins σ H s)(KO:Uo (H x))(he:e=x\/H e=some (.own x))(k:∀b u,b≠e->s.heap.get? b=some u->h'.get? b=some u)(SW:∃u,h'.get? e=some u)(new:Dr X.prog X.w (upd H x o) h' x o):Inv X pins σ (upd H x o) { s with heap:=h',toks:=t' }:=J.un (Fp.write KO he k SW) (J.Aw.write KO he k SW new)
def Inv.lY{lX:List (A4×Obj)}(J:Inv X pins σ H s)(h:∀p∈lX,s.heap.get? p.1=some p.2/\H p.1=none/\p.1≠X.env.locals/\p.1∉X.B1/\∀v,p.2.data≠.cell v):Inv X lX σ H s:=
 ⟨J.ok,J.os,J.bare,J.base,J.loc,J.cell,J.free,J.KF,λp AT=>(List.mem_append.mp AT).elim (λz=>J.pin p (Iz _ z)) (h p),J.Aw,J.len⟩
def k9{N:List Str}(hN:N.Nodup){i j:Nat}{x:Str}(a:N[i]?=some x)(b:N[j]?=some x):i=j:=by obtain⟨h1,A9⟩:=List.getElem?_eq_some_iff.mp a;obtain⟨h2,AF⟩:=List.getElem?_eq_some_iff.mp b;exact(Wq hN).mp (A9.trans AF.symm)
def oP{M:Model}{A:D4}{E:A6->AM->Prop}{i:Nat}{x:Str}{v:V}{u:A6}{Q:Unit->AM->Prop}(J:Inv X pins σ H s)(hN:X.N.Nodup)(AB:X.N[i]?=some x)(AK:Loc X.env.scope x)(r:RelV v u)(h:∀s',Inv X pins (σ.set i (some v)) H s'->(∃a,LO a s.heap s'.heap/\(a=X.env.locals\/X.env.cells.lookup x=some a))->Q () s')(hf:X.fn x=true\/X.env.scope.names.lookup x=some .local:=by first|exact .inl rfl|exact .inr rfl|assumption):Ag M A (storeName X.env x u) Q E s:=by
 obtain⟨m,AV,AG⟩:=id J.loc;have vg:(X.env.scope.kind==.class||(X.env.scope.kind==.module&&X.env.locals !=X.env.globals))=false:=by rw[J.ok.kind];rfl
 have ABσ :i< σ.length:=by rw[J.len];exact(List.getElem?_eq_some_iff.mp AB).1
 have RR:=J.RR;have tracked:∀{a:A4}{h':B8},(∃o,s.heap.get? a=some o/\H a=none)->LO a s.heap h'->Ek X.prog X.w H h':=λ{a h'} AE AN b BJ e=>by
  obtain⟨_,_,Z1⟩:=AE;refine(J.Aw b BJ e).NX (λc CR AH q=>(AN.2 c ?_).trans q) (λ_ q=>q) λ_ _ q=>q;rintro rfl;rcases AH with rfl|AH
  .rw[Z1]at e;cases e
  .rw[Z1]at AH;cases AH
 rcases AK with AO|AO
 .refine wpAny_storeName_local AO AV (λh' cI AN=>?_) vg;obtain⟨zQ,_,_,vc,_⟩:=id AV;refine h _ ⟨J.ok,J.os,J.bare,⟨λb o e n A2 AK=>?_,λb o e n A2 AK=>?_,J.base.free,λb o e AK=>?_,J.base.Iw,J.base.Hl,J.base.Il⟩,⟨_,cI,λj y Ix A9 AF Dh=>?_⟩,λy c e=>?_,J.free,J.KF,λp AT=>?_,tracked ⟨zQ,vc,J.free⟩ AN,by simpa using J.len⟩ ⟨_,AN,.inl rfl⟩
  .exact(AN.2 b (Ei (G3 (DB e) J.ok.above))).trans (J.base.keep b o e n A2 AK)
  .obtain⟨Bn,A9⟩:=J.base.slot b o e n A2 AK;exact⟨Bn,(AN.2 b (Ei (G3 (DB e) J.ok.above))).trans A9⟩
  .obtain⟨o',A9⟩:=J.base.there b o e AK;exact⟨o',(AN.2 b (Ei (G3 (DB e) J.ok.above))).trans A9⟩
  .by_cases Ap:j=i
   .subst Ap;rw[AB]at A9;cases A9;rw[JU ABσ]at AF;cases AF;exact⟨u,r,.inl ⟨AO,by simp⟩⟩
   .rw[M7 (LY Ap)]at AF;obtain⟨JS,BW,q⟩:=AG j y Ix A9 AF Dh;refine⟨JS,BW,?_⟩;rcases q with⟨k,e⟩|⟨k,c,e,z⟩
    .refine .inl ⟨k,?_⟩;have:y≠x:=λe=>Ap (k9 hN A9 (e▸AB));simp[this,e]
    .exact .inr ⟨k,c,e,z.sameBut AN (RR y c e)⟩
  .obtain⟨CR,z⟩:=J.cell y c e;exact⟨CR,z.sameBut AN (RR y c e)⟩
  .obtain⟨e,n,ne,Lp,d⟩:=J.pin p AT;exact⟨(AN.2 p.1 ne).trans e,n,ne,Lp,d⟩
 .have c7:X.fn x=true:=by
    rcases hf with z|z
    .exact z
    .rw[z]at AO;cases AO
  obtain⟨c,AH⟩:=J.ok.has x (.inl AO);obtain⟨CR,z⟩:=J.cell x c AH;refine wpAny_storeName_cell J.ok.kind AO AH z (λh' Mp AN=>?_);obtain⟨GD,jU,w6⟩:=id z;refine h { s with heap:=h' } ⟨J.ok,J.os,J.bare,⟨λb o e n A2 AK=>?_,λb o e n A2 AK=>?_,J.base.free,λb o e AK=>?_,J.base.Iw,J.base.Hl,J.base.Il⟩,⟨m,AV.sameBut AN (LY (RR x c AH)),λj y Ix A9 AF Dh=>?_⟩,λy G6 e=>?_,J.free,J.KF,λp AT=>?_,tracked ⟨GD,jU,J.KF x c AH⟩ AN,by simpa using J.len⟩ ⟨c,AN,.inr AH⟩
  .exact(AN.2 b (Ei (G3 (DB e) (J.ok.SF x c c7 AH)))).trans (J.base.keep b o e n A2 AK)
  .obtain⟨Bn,A9⟩:=J.base.slot b o e n A2 AK;exact⟨Bn,(AN.2 b (Ei (G3 (DB e) (J.ok.SF x c c7 AH)))).trans A9⟩
  .obtain⟨o',A9⟩:=J.base.there b o e AK;exact⟨o',(AN.2 b (Ei (G3 (DB e) (J.ok.SF x c c7 AH)))).trans A9⟩
  .by_cases Ap:j=i
   .subst Ap;rw[AB]at A9;cases A9;rw[JU ABσ]at AF;cases AF;exact⟨u,r,.inr ⟨.inl AO,c,AH,Mp⟩⟩
   .rw[M7 (LY Ap)]at AF;obtain⟨JS,BW,q⟩:=AG j y Ix A9 AF Dh;refine⟨JS,BW,?_⟩;rcases q with q|⟨k,G6,e,Fi⟩
    .exact .inl q
    .refine .inr ⟨k,G6,e,Fi.sameBut AN ?_⟩;rintro rfl;exact Ap (k9 hN A9 (J.ok.inj _ _ _ e AH▸AB))
  .by_cases hq:G6=c
   .subst hq;exact⟨_,Mp⟩
   .obtain⟨Gb,Eg⟩:=J.cell y G6 e;exact⟨Gb,Eg.sameBut AN hq⟩
  .obtain⟨e,n,ne,Lp,d⟩:=J.pin p AT;refine⟨(AN.2 p.1 ?_).trans e,n,ne,Lp,d⟩;intro q;rw[q,jU]at e;have CT:GD=p.2:=GU e;exact d CR (by rw[<-CT];exact w6)
def df{M:Model}{A:D4}{E:A6->AM->Prop}{i:Nat}{x:Str}{v:V}{u:A6}{Q:Unit->AM->Prop}(J:Inv X pins σ H s)(hN:X.N.Nodup)(AB:X.N[i]?=some x)(AK:Loc X.env.scope x)(r:RelV v u)(h:∀s',Inv X pins (σ.set i (some v)) H s'->Q () s')(hf:X.fn x=true\/X.env.scope.names.lookup x=some .local:=by first|exact .inl rfl|exact .inr rfl|assumption):Ag M A (storeName X.env x u) Q E s:=
 oP J hN AB AK r (λs' GR _=>h s' GR) hf
def Inv.gq{s':AM}{ch:List A4}(J:Inv X pins σ H s)(ho:s'.os=s.os)(u:Fp (Ep X.stack) ch H A7 s.heap s'.heap)(Aw:Ek X.prog X.w A7 s'.heap)(Ak:N8 s'.gens)(Nb:∀b∈ch,(b∈X.ex\/X.Fz.heap.objs.size<=b)/\b≠X.env.locals/\(∀x c,X.env.cells.lookup x=some c->c≠b)/\∀p∈X.Cd++pins,p.1≠b):Inv X pins σ A7 s':=by obtain⟨h',g',d',t',o'⟩:=s';have e:o'=s.os:=ho;subst e;exact J.call (g':=g') (t':=t') (d':=d') u Aw Ak Nb
end
abbrev En:=A6->Option A4->AC->Prop
abbrev St:=List (Option V)
abbrev CK:=V->AC->Prop
abbrev TE:=St->AC->CK->Prop
abbrev TT:=St->AC->(Bool->AC->Prop)->Prop
abbrev FV:=St->AC->(List V->AC->Prop)->Prop
structure Ends where
 AR:St->AC->Prop
 EA:CK
 BU:St->AC->Prop:=λ_ _=>False
 DA:St->AC->Prop:=λ_ _=>False
abbrev Eu:=Ends->St->AC->Prop
def Gj(X:Ao)(pins:List (A4×Obj))(σ :St)(Q:CK)(u:A6)(s':AM):Prop:=∃v A7,Inv X pins σ A7 s'/\RelV v u/\Q v A7
def X_(X:Ao)(pins:List (A4×Obj))(σ :St)(Q:Bool->AC->Prop)(b:Bool)(s':AM):Prop:=∃A7,Inv X pins σ A7 s'/\Q b A7
def rA(X:Ao)(pins:List (A4×Obj))(σ :St)(Q:List V->AC->Prop)(us:List A6)(s':AM):Prop:=∃vs A7,Inv X pins σ A7 s'/\Vals vs us/\Q vs A7
noncomputable def PW(X:Ao)(pins:List (A4×Obj))(D:Ends)(f:Flow)(s':AM):Prop:=
 match f with
 |.next=>∃ σ' A7,Inv X pins σ' A7 s'/\D.AR σ' A7
 |.brk=>∃ σ' A7,Inv X pins σ' A7 s'/\D.BU σ' A7
 |.cont=>∃ σ' A7,Inv X pins σ' A7 s'/\D.DA σ' A7
 |.ret u=>∃v σ' A7,Inv X pins σ' A7 s'/\RelV v u/\D.EA v A7
def Ae(X:Ao)(e:Al)(t:TE):Prop:=
 ∀(pins:List (A4×Obj))(s:AM)(σ :St)(H:AC)(Q:CK),Inv X pins σ H s->t σ H Q->Ag (Av X.prog X.w) X.A (BZ e X.env) (Gj X pins σ Q) X.Cr s
noncomputable def EJ(X:Ao)(e:Al)(t:TT):Prop:=
 ∀(pins:List (A4×Obj))(s:AM)(σ :St)(H:AC)(Q:Bool->AC->Prop),Inv X pins σ H s->t σ H Q->Ag (Av X.prog X.w) X.A (isTrue e X.env (BZ e X.env)) (X_ X pins σ Q) X.Cr s
noncomputable def Jc(X:Ao)(e:Al)(t:TT):Prop:=
 ∀(whole:Sem A6)(pins:List (A4×Obj))(s:AM)(σ :St)(H:AC)(Q:Bool->AC->Prop),Inv X pins σ H s->t σ H Q->Ag (Av X.prog X.w) X.A (isTrue e X.env whole) (X_ X pins σ Q) X.Cr s
def Jc.pt{X:Ao}{e:Al}{t:TT}(h:Jc X e t):EJ X e t:=h _
noncomputable def Gl(X:Ao)(es:List Al)(t:FV):Prop:=
 ∀(pos:Pos)(pins:List (A4×Obj))(s:AM)(σ :St)(H:AC)(Q:List V->AC->Prop),Inv X pins σ H s->t σ H Q->Ag (Av X.prog X.w) X.A (spliced (Fj pos (CJ es X.env))) (rA X pins σ Q) X.Cr s
def DT(X:Ao)(st:BC)(t:Eu):Prop:=
 ∀(pins:List (A4×Obj))(s:AM)(σ :St)(H:AC)(D:Ends),Inv X pins σ H s->t D σ H->Ag (Av X.prog X.w) X.A (exec st X.env) (PW X pins D) X.Cr s
def Gw(X:Ao)(st:List BC)(t:Eu):Prop:=
 ∀(pins:List (A4×Obj))(s:AM)(σ :St)(H:AC)(D:Ends),Inv X pins σ H s->t D σ H->Ag (Av X.prog X.w) X.A (execs st X.env) (PW X pins D) X.Cr s
def BN{α:Type}{t:Sem α}{Q HT:α->AM->Prop}{M:Model}{A:D4}{E:A6->AM->Prop}{s:AM}(h:Ag M A t Q E s)(Eh:∀a s,Q a s->HT a s):Ag M A t HT E s:=HB h Eh λ_ _ x=>x
section
variable{X:Ao}
def bin{a b:Al}{Bp tb:TE}(AE:Ae X a Bp)(A2:Ae X b tb){pins:List (A4×Obj)}{s:AM}{σ :St}{H:AC}{R:V->V->AC->Prop}(J:Inv X pins σ H s)(h:Bp σ H λx H1=>tb σ H1 λy AS=>R x y AS){α:Type}{Q:α->AM->Prop}{f:A6->A6->Sem α}(hf:∀v u s2 x y AS,Inv X pins σ AS s2->RelV x v->RelV y u->R x y AS->Ag (Av X.prog X.w) X.A (f v u) Q X.Cr s2) :
  Ag (Av X.prog X.w) X.A (BZ a X.env) (λv Cq=>Ag (Av X.prog X.w) X.A (BZ b X.env) (λu JR=>Ag (Av X.prog X.w) X.A (f v u) Q X.Cr JR) X.Cr Cq) X.Cr s:=by
 refine BN (AE pins s σ H _ J h) λv s1⟨x,H1,Ab,Ar,q1⟩=>?_;refine BN (A2 pins s1 σ H1 _ Ab q1) λu s2⟨y,AS,BS,BD,q2⟩=>?_;exact hf v u s2 x y AS BS Ar BD q2
def ph(i:Nat):TE:=λσ H Q=>∃v,σ[i]?=some (some v)/\Q v H
def Oa(v:V):TE:=λ_ H Q=>Q v H
def ac1{i:Nat}{x:Str}{pos:Pos}(hN:X.N[i]?=some x)(B_:Y7 X.env.scope x)(hd:(x==("__debug__" :Str))=false:=by decide)(L0:(x==("__classdict__" :Str))=false:=by decide):Ae X (.Name x pos) (ph i):=by
 intro pins s σ H Q J h;obtain⟨v,e,h⟩:=h;obtain⟨m,AV,AG⟩:=J.loc;obtain⟨u,r,l⟩:=AG i x v hN e B_;have fin:Gj X pins σ Q u s:=⟨v,H,J,r,h⟩;rcases l with⟨AO,hm⟩|⟨AO,c,AH,hr⟩
 .exact wpAny_Name (wpAny_loadName_local J.ok.kind AO AV hm fin) hd
 .rcases AO with AO|AO
  .exact wpAny_Name (wpAny_loadName_cell J.ok.kind AO AH hr fin) hd
  .exact wpAny_Name (wpAny_loadName_free J.ok.kind AO AH hr fin L0) hd
def aaQ{i j pos}:Ae X (.Constant (.int i) j pos) (Oa (.int i)):=λ_ _ _ H _ J h=>wpAny_Constant_int ⟨.int i,H,J.tok _,⟨_,rfl⟩,h⟩
def aak{b j pos}:Ae X (.Constant (.bool b) j pos) (Oa (.AL b)):=λ_ _ _ H _ J h=>Constant_bool ⟨.AL b,H,J,rfl,h⟩
def aaX{j pos}:Ae X (.Constant .none j pos) (Oa .non):=λ_ _ _ H _ J h=>Constant_none ⟨.non,H,J,rfl,h⟩
def cf{x j pos}:Ae X (.Constant (.str x) j pos) (Oa (.str x)):=λ_ _ _ H _ J h=>Calls.Constant_str ⟨.str x,H,J.tok _,⟨_,rfl⟩,h⟩
def EI(X:Ao)(x:Str):Prop:=X.env.kindOf x=some .globalImplicit
def Vo{E:A6->AM->Prop}{pins:List (A4×Obj)}{s:AM}{σ :St}{H:AC}{x:Str}{u:A6}{pos:Pos}{Q:A6->AM->Prop}(J:Inv X pins σ H s)(Ak:EI X x)(hm:X.mg x=some u)(h:Q u s)(hd:(x==("__debug__" :Str))=false:=by decide):Ag (Av X.prog X.w) X.A (BZ (.Name x pos) X.env) Q E s:=
 qG J.ok.kind Ak (Calls.loadGlobal_global (by rw[J.ok.glob];exact J.mod.glob.keeps J.BU) hm h) hd
def Ot{E:A6->AM->Prop}{pins:List (A4×Obj)}{s:AM}{σ :St}{H:AC}{x:Str}{u:A6}{pos:Pos}{Q:A6->AM->Prop}(J:Inv X pins σ H s)(Ak:EI X x)(hm:X.mg x=none)(B_:Ny x=some u)(h:Q u s)(AV:x≠"__name__":=by decide)(hd:(x==("__debug__" :Str))=false:=by decide):Ag (Av X.prog X.w) X.A (BZ (.Name x pos) X.env) Q E s:=by obtain⟨Gd,h1,h2⟩:=J.mod.blt;exact qG J.ok.kind Ak (Calls.loadGlobal_builtin (by rw[J.ok.glob];exact J.mod.glob.keeps J.BU) hm (by rw[J.ok.blt];exact h1.keeps J.BU) ((h2 x AV).trans B_) h) hd
def aau{x:Str}{v:V}{u:A6}{pos:Pos}(Ak:EI X x)(hm:X.mg x=some u)(r:RelV v u)(hd:(x==("__debug__" :Str))=false:=by decide):Ae X (.Name x pos) (Oa v):=
 λ_ _ _ H _ J h=>Vo J Ak hm ⟨v,H,J,r,h⟩ hd
def aal{x:Str}{v:V}{u:A6}{pos:Pos}(Ak:EI X x)(hm:X.mg x=none)(B_:Ny x=some u)(r:RelV v u)(AV:x≠"__name__":=by decide)(hd:(x==("__debug__" :Str))=false:=by decide):Ae X (.Name x pos) (Oa v):=
 λ_ _ _ H _ J h=>Ot J Ak hm B_ ⟨v,H,J,r,h⟩ AV hd
variable{a b:Al}{Bp tb:TE}{pos:Pos}
noncomputable def rv(X:Ao)(op:CmpOp)(a b:Al)(t:TE):Prop:=
 ∀(pins:List (A4×Obj))(s:AM)(σ :St)(H:AC)(Q:CK),Inv X pins σ H s->t σ H Q->
  Ag (Av X.prog X.w) X.A (BZ a X.env) (λv Cq=>Ag (Av X.prog X.w) X.A (BZ b X.env) (λu JR=>Ag (Av X.prog X.w) X.A (Ft op v u) (Gj X pins σ Q) X.Cr JR) X.Cr Cq) X.Cr s
def zn(b:Al){op:CmpOp}(h:op≠.In)(h2:op≠.NotIn):M8 op b=false:=by
 have A9:(op==CmpOp.In)=false:=by cases op<;>first|rfl|exact absurd rfl h
 have AF:(op==CmpOp.NotIn)=false:=by cases op<;>first|rfl|exact absurd rfl h2
 cases b<;>simp[M8,A9,AF]
def dk(t:TE):TT:=λσ H Q=>t σ H λx H1=>∃c,x=.AL c/\Q c H1
def ahX{op:CmpOp}{t:TE}(h:rv X op a b t)(h1:M8 op b=false:=by first|exact zn _ (by decide) (by decide)|rfl):EJ X (.Compare a [op] [b] pos) (dk t):=by intro pins s σ H Q J hw;refine wpAny_isTrue_Compare1 (BN (h pins s σ H _ J hw) λv s1 h1=>BN h1 λu s2 h2=>BN h2 λc s3⟨x,H1,Ab,Ar,q1⟩=>?_) h1;obtain⟨d,rfl,q⟩:=q1;cases Ar;exact MB ⟨H1,Ab,q⟩
def abS{e:Al}{t:TE}(h:Ae X e t)(he:∀whole,isTrue e X.env whole=(do let v <-whole;ME e.pos;J3 [v] (truthy v)):=by intro _;rfl):EJ X e (dk t):=by intro pins s σ H Q J hw;refine isTrue_plain (BN (h pins s σ H _ J hw) λv s1⟨x,H1,Ab,Ar,q1⟩=>?_) (he _);obtain⟨d,rfl,q⟩:=q1;cases Ar;exact MB ⟨H1,Ab,q⟩
variable{GP Zf:TT}{rest:List Al}
def oU(t u:TT):TT:=λσ H Q=>t σ H λc H1=>if c=true then u σ H1 Q else Q false H1
def pX(t u:TT):TT:=λσ H Q=>t σ H λc H1=>if c=true then Q true H1 else u σ H1 Q
def oE(t:TT):TT:=λσ H Q=>t σ H λc H1=>Q (!c) H1
def ad0(AE:EJ X a GP):Jc X (.BoolOp .And [a] pos) GP:=by
 intro Of pins s σ H Q J h;refine isTrue_and (BN (AE pins s σ H Q J h) λc s1 e=>?_);cases c with
 |true=>exact isTrue_and_nil e
 |false=>exact e
def ad2(AE:EJ X a GP):Jc X (.BoolOp .Or [a] pos) GP:=by
 intro Of pins s σ H Q J h;refine isTrue_or (BN (AE pins s σ H Q J h) λc s1 e=>?_);cases c with
 |false=>exact isTrue_or_nil e
 |true=>exact e
def acz(AE:EJ X a GP)(A2:Jc X (.BoolOp .And (b::rest) pos) Zf):Jc X (.BoolOp .And (a::b::rest) pos) (oU GP Zf):=by
 intro Of pins s σ H Q J h;refine isTrue_and (BN (AE pins s σ H _ J h) λc s1⟨H1,Ab,q1⟩=>?_);cases c with
 |true=>exact A2 Of pins s1 σ H1 Q Ab q1
 |false=>exact⟨H1,Ab,q1⟩
def ad1(AE:EJ X a GP)(A2:Jc X (.BoolOp .Or (b::rest) pos) Zf):Jc X (.BoolOp .Or (a::b::rest) pos) (pX GP Zf):=by
 intro Of pins s σ H Q J h;refine isTrue_or (BN (AE pins s σ H _ J h) λc s1⟨H1,Ab,q1⟩=>?_);cases c with
 |true=>exact⟨H1,Ab,q1⟩
 |false=>exact A2 Of pins s1 σ H1 Q Ab q1
def abR(AE:EJ X a GP):EJ X (.UnaryOp .Not a pos) (oE GP):=by intro pins s σ H Q J h;exact isTrue_not (AE pins s σ H (λc H1=>Q (!c) H1) J h)
def oV(Bp tb:TE):TE:=λσ H Q=>Bp σ H λx H1=>∃c,x=.AL c/\if c=true then tb σ H1 Q else Q (.AL false) H1
def pY(Bp tb:TE):TE:=λσ H Q=>Bp σ H λx H1=>∃c,x=.AL c/\if c=true then Q (.AL true) H1 else tb σ H1 Q
def oc(Bp:TE):TE:=λσ H Q=>Bp σ H λx H1=>∃c,x=.AL c/\Q (.AL (!c)) H1
def abv{op}{t:TE}(h:Ae X a t):Ae X (.BoolOp op [a] pos) t:=λpins s σ H Q J hw=>BoolOp_one (h pins s σ H Q J hw)
def aaj(AE:Ae X a Bp)(A2:Ae X (.BoolOp .And (b::rest) pos) tb):Ae X (.BoolOp .And (a::b::rest) pos) (oV Bp tb):=by
 intro pins s σ H Q J h;refine BoolOp_and (BN (AE pins s σ H _ J h) λv s1⟨x,H1,Ab,Ar,q1⟩=>?_);obtain⟨c,rfl,q1⟩:=q1;cases Ar;refine MB ?_;cases c with
 |true=>exact A2 pins s1 σ H1 Q Ab q1
 |false=>exact⟨.AL false,H1,Ab,rfl,q1⟩
def abw(AE:Ae X a Bp)(A2:Ae X (.BoolOp .Or (b::rest) pos) tb):Ae X (.BoolOp .Or (a::b::rest) pos) (pY Bp tb):=by
 intro pins s σ H Q J h;refine BoolOp_or (BN (AE pins s σ H _ J h) λv s1⟨x,H1,Ab,Ar,q1⟩=>?_);obtain⟨c,rfl,q1⟩:=q1;cases Ar;refine MB ?_;cases c with
 |false=>exact A2 pins s1 σ H1 Q Ab q1
 |true=>exact⟨.AL true,H1,Ab,rfl,q1⟩
def aav(AE:Ae X a Bp):Ae X (.UnaryOp .Not a pos) (oc Bp):=by intro pins s σ H Q J h;refine UnaryOp_ (BN (AE pins s σ H _ J h) λv s1⟨x,H1,Ab,Ar,q1⟩=>?_);obtain⟨c,rfl,q1⟩:=q1;cases Ar;exact not_of (MB ⟨.AL (!c),H1,Ab,rfl,q1⟩)
def o8(t:TT)(Bp tb:TE):TE:=λσ H Q=>t σ H λc H1=>if c=true then Bp σ H1 Q else tb σ H1 Q
def aaP{c:Al}(AH:EJ X c GP)(AE:Ae X a Bp)(A2:Ae X b tb):Ae X (.IfExp c a b pos) (o8 GP Bp tb):=by
 intro pins s σ H Q J h;refine wpAny_IfExp (BN (AH pins s σ H _ J h) λd s1⟨H1,Ab,q1⟩=>?_);cases d with
 |true=>exact AE pins s1 σ H1 Q Ab q1
 |false=>exact A2 pins s1 σ H1 Q Ab q1
end
noncomputable def E_(K:Aq)(H:AC)(a:A4)(xs:List V):Prop:=
 K6 H a (.lst xs)\/
  ∃(o:Obj)(its:Array A6)(n:Nat),K.lookup a=some o/\o.cls=.type "list"/\o.dict=none/\o.data=.seq its n/\its.size<=CG/\Vals xs its.toList
noncomputable def Ea(K:Aq)(H:AC)(a:A4)(xs:List V):Prop:=
 K6 H a (.tup xs)\/
  ∃(o:Obj)(its:Array A6)(n:Nat),K.lookup a=some o/\o.cls=.type "tuple"/\o.data=.seq its n/\its.size<=CG/\Vals xs its.toList
noncomputable def sD:A6->Option V
 |.none=>some .non
 |.bool b=>some (.AL b)
 |.int i _=>some (.int i)
 |.str x _=>some (.str x)
 |.bytes b _=>some (.PK b)
 |.float b _=>some (.RY b)
 |.ref a=>some (.ref a)
 |.type n=>some (.ty n)
 |_=>none
def RelV.abs{x:V}{u:A6}(r:RelV x u):sD u=some x:=by
 cases x with
 |non=>cases r;rfl
 |AL _=>cases r;rfl
 |int _=>obtain⟨t,rfl⟩:=r;rfl
 |str _=>obtain⟨t,rfl⟩:=r;rfl
 |PK _=>obtain⟨t,rfl⟩:=r;rfl
 |RY _=>obtain⟨t,rfl⟩:=r;rfl
 |ref _=>cases r;rfl
 |ty _=>cases r;rfl
def RelV.inj{x y:V}{u:A6}(r:RelV x u)(q:RelV y u):x=y:=GU (r.abs.symm.trans q.abs)
theorem Vals.inj:∀{xs ys:List V}{us:List A6},Vals xs us->Vals ys us->xs=ys
 |_,_,_,.nil,.nil=>rfl
 |_,_,_,.cons r t,.cons BW t'=>by rw[r.inj BW,Vals.inj t t']
section
variable{X:Ao}{pins:List (A4×Obj)}{σ :St}{H:AC}{s:AM}{a:A4}{xs ys:List V}
def Inv.list(J:Inv X pins σ H s)(h:E_ X.K H a xs):∃its:List A6,Vals xs its/\PlainL s.heap a its.toArray/\xs.length<=CG:=by
 rcases h with h|⟨o,its,n,AO,AH,hd,AN,hz,r⟩
 .obtain⟨z,its,n,r,e⟩:=h.ok J.Aw;exact⟨its,r,⟨_,n,e,rfl,rfl,rfl⟩,z⟩
 .refine⟨its.toList,r,⟨o,n,J.F0 a o AO,AH,hd,by simpa using AN⟩,?_⟩;have e:=r.length;simp only[QH]at e;lia
def Inv.tuple(J:Inv X pins σ H s)(h:Ea X.K H a xs):∃its:List A6,Vals xs its/\IsTup s.heap a its.toArray/\xs.length<=CG:=by
 rcases h with h|⟨o,its,n,AO,AH,AN,hz,r⟩
 .obtain⟨z,its,r,p⟩:=h.ok J.Aw;exact⟨its,r,p,z⟩
 .refine⟨its.toList,r,⟨o,J.F0 a o AO,AH,n,by simpa using AN⟩,?_⟩;have e:=r.length;simp only[QH]at e;lia
def Inv.bW(J:Inv X pins σ H s)(h:E_ X.K H a xs)(h':E_ X.K H a ys):xs=ys:=by
 obtain⟨its,r,⟨o,n,e,_,_,d⟩,_⟩:=J.list h;obtain⟨its',BW,⟨o',VW,BX,_,_,d'⟩,_⟩:=J.list h';rw[e]at BX;cases BX;rw[d]at d';injection d' with d1 _;have:its=its':=by simpa using congrArg Array.toList d1
 subst this;exact r.inj BW
def Inv.du(J:Inv X pins σ H s)(h:Ea X.K H a xs)(h':Ea X.K H a ys):xs=ys:=by
 obtain⟨its,r,⟨o,e,_,n,d⟩,_⟩:=J.tuple h;obtain⟨its',BW,⟨o',BX,_,VW,d'⟩,_⟩:=J.tuple h';rw[e]at BX;cases BX;rw[d]at d';injection d' with d1 _;have:its=its':=by simpa using congrArg Array.toList d1
 subst this;exact r.inj BW
end
abbrev Ao.K_(X:Ao)(E:A6->AM->Prop):Ao:={ X with Cr:=E }
abbrev Ao.GN(X:Ao):Ao:=X.K_ λ_ _=>False
theorem Ao.Ok.K_{X:Ao}(ok:X.Ok)(E:A6->AM->Prop):(X.K_ E).Ok:=
 ⟨ok.mod,ok.kind,ok.glob,ok.blt,ok.above,ok.inj,ok.has,ok.SF,ok.hd,ok.frames,ok.WQ,ok.aq,ok.bs,ok.O5,ok.Ph,ok.UU,ok.Ji,ok.Pz⟩
def Ao.Ok.KZ{X:Ao}{E:A6->AM->Prop}(ok:(X.K_ E).Ok):X.Ok:=
 ⟨ok.mod,ok.kind,ok.glob,ok.blt,ok.above,ok.inj,ok.has,ok.SF,ok.hd,ok.frames,ok.WQ,ok.aq,ok.bs,ok.O5,ok.Ph,ok.UU,ok.Ji,ok.Pz⟩
section
variable{X:Ao}{pins:List (A4×Obj)}{σ :St}{H:AC}{s:AM}{E:A6->AM->Prop}
theorem Inv.K_(J:Inv X pins σ H s)(E:A6->AM->Prop):Inv (X.K_ E) pins σ H s:=⟨J.ok.K_ E,J.os,J.bare,J.base,J.loc,J.cell,J.free,J.KF,J.pin,J.Aw,J.len⟩
theorem Inv.KZ(J:Inv (X.K_ E) pins σ H s):Inv X pins σ H s:=⟨J.ok.KZ,J.os,J.bare,J.base,J.loc,J.cell,J.free,J.KF,J.pin,J.Aw,J.len⟩
theorem PW.KZ{D:Ends}{f:Flow}{s':AM}(h:PW (X.K_ E) pins D f s'):PW X pins D f s':=by
 cases f with
 |next=>obtain⟨σ',A7,J,q⟩:=h;exact⟨σ',A7,J.KZ,q⟩
 |brk=>obtain⟨σ',A7,J,q⟩:=h;exact⟨σ',A7,J.KZ,q⟩
 |cont=>obtain⟨σ',A7,J,q⟩:=h;exact⟨σ',A7,J.KZ,q⟩
 |ret u=>obtain⟨v,σ',A7,J,r,q⟩:=h;exact⟨v,σ',A7,J.KZ,r,q⟩
theorem Ae.GN{e:Al}{t:TE}(h:Ae X.GN e t):Ae X e t:=λpins s σ H Q J hw=>
 HB (h pins s σ H Q (J.K_ _) hw) (λ_ _⟨v,A7,GR,r,q⟩=>⟨v,A7,GR.KZ,r,q⟩) λ_ _ z=>HC z
theorem EJ.GN{e:Al}{t:TT}(h:EJ X.GN e t):EJ X e t:=λpins s σ H Q J hw=>
 HB (h pins s σ H Q (J.K_ _) hw) (λ_ _⟨A7,GR,q⟩=>⟨A7,GR.KZ,q⟩) λ_ _ z=>HC z
theorem Gw.GN{st:List BC}{t:Eu}(h:Gw X.GN st t):Gw X st t:=λpins s σ H D J hw=>
 HB (h pins s σ H D (J.K_ _) hw) (λ_ _ q=>q.KZ) λ_ _ z=>HC z
end
section
variable{X:Ao}{st:BC}{rest:List BC}{t u:Eu}{e:Al}{te:TE}{pos:Pos}
def Zj:Eu:=λD σ H=>D.AR σ H
def pc(t u:Eu):Eu:=λD σ H=>t { D with AR:=u D } σ H
def abO:Gw X [] Zj:=λ_ _ σ H _ J h=>Rq ⟨σ,H,J,h⟩
def abM(h1:DT X st t)(h2:Gw X rest u):Gw X (st::rest) (pc t u):=by
 intro pins s σ H D J h;refine eS (BN (h1 pins s σ H { D with AR:=u D } J h) λf s1 q=>?_);cases f with
 |next=>obtain⟨σ',A7,GR,q⟩:=q;exact h2 pins s1 σ' A7 D GR q
 |ret v=>exact q
 |brk=>exact q
 |cont=>exact q
def abP(h1:DT X st t):Gw X [st] t:=by
 intro pins s σ H D J h;refine eS (BN (h1 pins s σ H D J h) λf s1 q=>?_);cases f with
 |next=>exact Rq q
 |ret v=>exact q
 |brk=>exact q
 |cont=>exact q
def abm:DT X (.Pass pos) Zj:=λ_ _ σ H _ J h=>wpAny_Pass ⟨σ,H,J,h⟩
def Inv.quiet{pins:List (A4×Obj)}{σ :St}{H:AC}{s:AM}(J:Inv X pins σ H s):interactive X.env=false:=by simp[interactive,J.ok.kind]
def abg{x j pos pos'}:DT X (.Expr (.Constant (.str x) j pos) pos') Zj:=λ_ s σ H _ J h=>wpAny_Expr (Calls.Constant_str (show PW X _ _ .next { s with toks:=s.toks+1 }from⟨σ,H,J.tok _,h⟩)) J.quiet
def o6(te:TE):Eu:=λD σ H=>te σ H λ_ H1=>D.AR σ H1
def abi(he:Ae X e te)(AN:Nz e none pos.line X.env=pure false:=by rfl):DT X (.Expr e pos) (o6 te):=by intro pins s σ H D J h;exact wpAny_Expr_any (BN (he pins s σ H _ J h) λv s1⟨x,H1,Ab,Ar,q1⟩=>⟨σ,H1,Ab,q1⟩) J.quiet AN
def pa(te:TE):Eu:=λD σ H=>te σ H D.EA
def abo(he:Ae X e te):DT X (.Return (some e) pos) (pa te):=by intro pins s σ H D J h;exact wpAny_Return_some (BN (he pins s σ H _ J h) λv s1⟨x,H1,Ab,Ar,q1⟩=>⟨x,σ,H1,Ab,Ar,q1⟩)
def pb:Eu:=λD _ H=>D.EA .non H
def abp:DT X (.Return none pos) pb:=λ_ _ σ H _ J h=>wpAny_Return_none ⟨.non,σ,H,J,rfl,h⟩
def o9(c:TT)(t u:Eu):Eu:=λD σ H=>c σ H λb H1=>if b=true then t D σ H1 else u D σ H1
def abk{c:Al}{a b:List BC}{Gg:TT}(AH:EJ X c Gg)(AE:Gw X a t)(A2:Gw X b u):DT X (.If c a b pos) (o9 Gg t u):=by
 intro pins s σ H D J h;refine wpAny_If (BN (AH pins s σ H _ J h) λd s1⟨H1,Ab,q1⟩=>?_);cases d with
 |true=>exact AE pins s1 σ H1 D Ab q1
 |false=>exact A2 pins s1 σ H1 D Ab q1
def oC:Eu:=λ_ _ _=>False
def abl:DT X st oC:=λ_ _ _ _ _ _ h=>h.elim
def abN{Pr:List BC}:Gw X Pr oC:=λ_ _ _ _ _ _ h=>h.elim
end
abbrev Jf:=V->St->AC->(St->AC->Prop)->Prop
abbrev ON:=List V->St->AC->(St->AC->Prop)->Prop
noncomputable def Gv(X:Ao)(target:Al)(t:Jf):Prop:=
 ∀(pins:List (A4×Obj))(s:AM)(σ :St)(H:AC)(v:V)(u:A6)(Q:St->AC->Prop),Inv X pins σ H s->RelV v u->t v σ H Q->
  Ag (Av X.prog X.w) X.A (Ke target X.env u) (λ_ s'=>∃ σ' A7,Inv X pins σ' A7 s'/\Q σ' A7) X.Cr s
noncomputable def Kq(X:Ao)(ts:List Al)(t:ON):Prop:=
 ∀(pins:List (A4×Obj))(s:AM)(σ :St)(H:AC)(vs:List V)(us:List A6)(Q:St->AC->Prop),Inv X pins σ H s->Vals vs us->t vs σ H Q->
  Ag (Av X.prog X.w) X.A (assignInOrder ((LX ts X.env).map (·.2)) us) (λ_ s'=>∃ σ' A7,Inv X pins σ' A7 s'/\Q σ' A7) X.Cr s
abbrev fR:=V->V->V->AC->(AC->Prop)->Prop
noncomputable def gR(X:Ao)(t:fR):Prop:=
 ∀(pins:List (A4×Obj))(s:AM)(σ :St)(H:AC)(o i v:V)(CO Gc u:A6)(Q:AC->Prop),Inv X pins σ H s->RelV o CO->RelV i Gc->RelV v u->t o i v H Q->
  Ag (Av X.prog X.w) X.A (setItem CO Gc u) (λ_ s'=>∃A7,Inv X pins σ A7 s'/\Q A7) X.Cr s
section
variable{X:Ao}{pos:Pos}
def Yu(i:Nat):Jf:=λv σ H Q=>Q (σ.set i (some v)) H
def WE{i:Nat}{x:Str}(hN:X.N.Nodup)(AB:X.N[i]?=some x)(AK:Loc X.env.scope x)(hf:X.fn x=true\/X.env.scope.names.lookup x=some .local:=by first|exact .inl rfl|exact .inr rfl|assumption):Gv X (.Name x pos) (Yu i):=by intro pins s σ H v u Q J r h;exact wpAny_assign_Name (df J hN AB AK r (λs' GR=>⟨_,H,GR,h⟩) hf)
def i3:ON:=λvs σ H Q=>vs=[]/\Q σ H
def i2(t:Jf)(u:ON):ON:=λvs σ H Q=>∃v r,vs=v::r/\t v σ H λσ' A7=>u r σ' A7 Q
def lV:Kq X [] i3:=by intro pins s σ H vs us Q J r h;obtain⟨e,h⟩:=h;subst e;cases r;exact assignInOrder_nil ⟨σ,H,J,h⟩
def cg{e:Al}{es:List Al}{t:Jf}{u:ON}(h1:Gv X e t)(h2:Kq X es u)(AN:(LX (e::es) X.env).map (·.2)=Ke e X.env::(LX es X.env).map (·.2):=by rfl):Kq X (e::es) (i2 t u):=by
 intro pins s σ H vs us Q J r h;obtain⟨v,pE,A9,h⟩:=h;subst A9;cases r with
 |cons r KU=>rw[AN];refine assignInOrder_cons (BN (h1 pins s σ H _ _ _ J r h) λ_ s1⟨σ1,H1,Ab,q1⟩=>?_);exact h2 pins s1 σ1 H1 _ _ Q Ab KU q1
def i5(K:Aq)(n:Nat)(t:ON):Jf:=λv σ H Q=>∃a xs,v=.ref a/\Ea K H a xs/\xs.length=n/\t xs σ H Q
def lU{es:List Al}{k:Nat}{t:ON}{n:Nat}(AH:X.calm=true)(h:Kq X es t)(AV:(LX es X.env).length=n:=by rfl)(Fd:(LX es X.env).findIdx? (·.1)=none:=by rfl):Gv X (.Tuple es k pos) (i5 X.K n t):=by intro pins s σ H v u Q J r hw;obtain⟨a,xs,A9,AX,AG,hw⟩:=hw;subst A9;cases r;obtain⟨its,C6,Bi,hz⟩:=J.tuple AX;refine assign_Tuple_tuple (J.ok.hd AH) Bi (by simp[AV,<-AG,C6.length]) Fd λh' AK=>?_;have Ab:Inv X pins σ H { s with heap:=h' }:=J.kept (t':=s.toks) λb o e=>AK b o (Ei (DB e)) e;exact h pins _ σ H xs _ Q Ab (by simpa using C6) hw
def i4(to ZF:TE)(t:fR):Jf:=λv σ H Q=>to σ H λo H1=>ZF σ H1 λi AS=>t o i v AS λBx=>Q σ Bx
def ac4 {o i:Al} {to ZF:TE} {t:fR} (ho:Ae X o to) (AB:Ae X i ZF) (AN:gR X t)(AE:∀v,Ke (.Subscript o i pos) X.env v=(do
    let CO <-J3 [v] (BZ o X.env)
    let Gc <-J3 [v,CO] (BZ i X.env)
    ME pos
    J3 [v,CO,Gc] (setItem CO Gc v)
    release [v,CO,Gc] []):=by intro _;rfl):Gv X (.Subscript o i pos) (i4 to ZF t):=by
 intro pins s σ H v u Q J r h;rw[AE];refine AU (M9 (BN (ho pins s σ H _ J h) λCO s1⟨x,H1,Ab,Ar,q1⟩=>?_));refine AU (M9 (BN (AB pins s1 σ H1 _ Ab q1) λGc s2⟨y,AS,BS,BD,q2⟩=>?_));refine AU (wpAny_standAt (AU (M9 (BN (AN pins s2 σ AS x y v CO Gc u _ BS Ar BD r q2) λ_ s3⟨Bx,D8,Ee⟩=>?_))));exact wpAny_release ⟨σ,Bx,D8,Ee⟩
def dj(te:TE)(g:Jf):Eu:=λD σ H=>te σ H λx H1=>g x σ H1 D.AR
def lh{C4 e:Al}{te:TE}{g:Jf}(he:Ae X e te)(Ak:Gv X C4 g)(AN:swapsWithSole [C4] e pos.line X.env=pure false:=by rfl)(hw:swappedStores [C4] e X.env=pure none:=by rfl)(h1:(LX [C4] X.env).map (·.2)=[Ke C4 X.env]:=by rfl):DT X (.Assign [C4] e pos) (dj te g):=by intro pins s σ H D J h;refine wpAny_Assign_stores (BN (he pins s σ H _ J h) λv s1⟨x,H1,Ab,Ar,q1⟩=>?_) AN hw;rw[h1];exact BN (Ak pins s1 σ H1 x v _ Ab Ar q1) λ_ s2 q=>q
def abq{i:Nat}{x:Str}{e:Al}{te:TE}{pos':Pos}(hN:X.N.Nodup)(AB:X.N[i]?=some x)(AK:Loc X.env.scope x)(he:Ae X e te)(AN:Nz e (some (.Name x pos')) pos.line X.env=pure false:=by rfl)(hf:X.fn x=true\/X.env.scope.names.lookup x=some .local:=by first|exact .inl rfl|exact .inr rfl|assumption) :
  DT X (.Assign [.Name x pos'] e pos) (dj te (Yu i)):=by
 intro pins s σ H D J h;refine wpAny_Assign_Name (BN (he pins s σ H _ J h) λv s1⟨y,H1,Ab,Ar,q1⟩=>?_) AN;exact df Ab hN AB AK Ar (λs2 BS=>⟨_,H1,BS,q1⟩) hf
end
section
variable{X:Ao}{pos:Pos}
noncomputable def pi(c:TT)(tb:Eu):Eu:=λD σ H=>∃W:Nat->St->AC->Prop,(∃m,W m σ H)/\∀m σ H,W m σ H->
 c σ H λb H1=>if b=true then ∃N:St->AC->Prop,(∀ σ' A7,N σ' A7->∃E0,E0<m/\W E0 σ' A7)/\tb { D with AR:=N,DA:=N,BU:=D.AR } σ H1 else D.AR σ H1
def abL{c:Al}{body:List BC}{Gg:TT}{tb:Eu}(AT:PassesOwn (Av X.prog X.w) X.A X.env X.Cr)(AH:EJ X c Gg)(A2:Gw X body tb):DT X (.While c body [] pos) (pi Gg tb):=by
 intro pins s σ H D J h;obtain⟨W,⟨m0,Jw⟩,turn⟩:=h;refine wpAny_While (codeAny_whileLoop (λn s'=>∃ σ' A7,Inv X pins σ' A7 s'/\W n σ' A7) ?_ m0 ⟨σ,H,J,Jw⟩);rintro n s1 ⟨σ1,H1,Ab,G2⟩;refine QS AT (BN (AH pins s1 σ1 H1 _ Ab (turn n σ1 H1 G2)) λb s2⟨AS,BS,q2⟩=>?_);cases b with
 |true=>
  obtain⟨N,hN,q2⟩:=q2;rw[if_pos rfl];refine QS AT (BN (A2 pins s2 σ1 AS _ BS q2) λf s3 Ee=>?_);cases f with
  |next=>obtain⟨σ3,Bx,D8,Ql⟩:=Ee;obtain⟨E0,hm,W3⟩:=hN σ3 Bx Ql;exact⟨E0,hm,σ3,Bx,D8,W3⟩
  |cont=>obtain⟨σ3,Bx,D8,Ql⟩:=Ee;obtain⟨E0,hm,W3⟩:=hN σ3 Bx Ql;exact⟨E0,hm,σ3,Bx,D8,W3⟩
  |brk=>exact Ee
  |ret v=>exact Ee
 |false=>rw[if_neg Kb];exact Rq ⟨σ1,AS,BS,q2⟩
end
structure It where
 go:Nat->AC->Prop
 W8:Nat->AC->V->AC->Prop
 stop:Nat->AC->Prop
def KC(X:Ao)(pins:List (A4×Obj))(H:AC)(b:A4):Prop:=
 H b=none/\b≠X.env.locals/\b∉X.B1/\(b∈X.ex\/X.Fz.heap.objs.size<=b)/\(∀x c,X.env.cells.lookup x=some c->c≠b)/\∀p∈X.Cd++pins,p.1≠b
def Inv.NG{X:Ao}{pins:List (A4×Obj)}{σ :St}{H A7:AC}{s:AM}{b:A4}(J:Inv X pins σ H s)(A2:s.heap.objs.size<=b)(AV:A7 b=none):KC X pins A7 b:=by
 refine⟨AV,N3 (G3 J.lt A2),J.zq A2,.inr (I_ J.Zb A2),λx c e z=>?_,λp AT z=>?_⟩
 .obtain⟨v,q⟩:=J.cell x c e;exact absurd (G3 q.lt (by rw[z];exact A2)) (Iy _)
 .exact absurd (G3 (DB (J.pin p AT).1) (by rw[z];exact A2)) (Iy _)
structure Turn(P:C5)(w:Bo)(K:Aq)(C4:Al)(BK:It)(BG:List A4)(it:A4)(HP:Nat->B8->Prop):Prop where
 mem:it∈BG
 obj:∀i h,HP i h->∀b∈BG,∃o,h.get? b=some o/\∀v,o.data≠.cell v
 keep:∀i h h',HP i h->(∀b∈BG,∀o,h.get? b=some o->h'.get? b=some o)->HP i h'
 item:∀(X:Ao),X.prog=P->X.w=w->X.K=K->X.calm=true->∀(i:Nat)(pins:List (A4×Obj))(s:AM)(σ :St)(H:AC)(E:A6->AM->Prop),Inv X pins σ H s->(∀b∈BG,KC X pins H b)->HP i s.heap->BK.go i H->
  Ag (Av P w) X.A (MG (.ref it)) (λr s1=>∃u,r=some u/\
   Ag (Av P w) X.A (Wu C4 (.ref it) u) (λ_ s2=>∃x A7,Inv X pins σ A7 s2/\RelV x u/\BK.W8 i H x A7/\HP (i+1) s2.heap/\∀b∈BG,A7 b=none) E s1) E s
 done:∀(X:Ao),X.prog=P->X.w=w->X.K=K->X.calm=true->∀(i:Nat)(pins:List (A4×Obj))(s:AM)(σ :St)(H:AC)(E:A6->AM->Prop),Inv X pins σ H s->(∀b∈BG,KC X pins H b)->HP i s.heap->BK.stop i H->
  Ag (Av P w) X.A (MG (.ref it)) (λr s1=>r=none/\Inv X pins σ H s1) E s
 self:∀(A:D4)(i:Nat)(s:AM)(Q:A6->AM->Prop)(E:A6->AM->Prop),HP i s.heap->Q (.ref it) s->Ag (Av P w) A (pyIter (.ref it)) Q E s
abbrev TI:=St->AC->(It->AC->Prop)->Prop
noncomputable def gP(X:Ao)(pins:List (A4×Obj))(σ :St)(C4:Al)(R:It->AC->Prop)(Ya:A6)(s2:AM):Prop:=
 ∃(it:A4)(BG:List A4)(HP:Nat->B8->Prop)(BK:It)(A7:AC),Ya=.ref it/\Inv X pins σ A7 s2/\Turn X.prog X.w X.K C4 BK BG it HP/\HP 0 s2.heap/\(∀b∈BG,KC X pins A7 b)/\R BK A7
noncomputable def Hg(X:Ao)(C4 iter:Al)(IX:TI):Prop:=
 ∀(pins:List (A4×Obj))(s:AM)(σ :St)(H:AC)(R:It->AC->Prop),Inv X pins σ H s->IX σ H R->
  Ag (Av X.prog X.w) X.A (BZ iter X.env) (λv s1=>Ag (Av X.prog X.w) X.A (pyIter v) (gP X pins σ C4 R) X.Cr s1) X.Cr s
def SQ{M:Model}{A:D4}{E:A6->AM->Prop}{s:AM}{C4:Al}{it:A4}{u:A6}{o:Obj}{n:String}{vs:Array A6}{Q:Unit->AM->Prop}(ho:s.heap.get? it=some o)(AH:o.cls=.type n)(hd:o.data=.fields vs)(AV:["enumerate","zip","dict_itemiterator","dict_reverseitemiterator","odict_iterator","itertools.zip_longest","itertools.pairwise"].contains n=false)(Eh:Q () s):Ag M A (Wu C4 (.ref it) u) Q E s:=by
 unfold Wu
 cases C4<;>first
  |exact BP Eh
  |(cases u<;>first
      |exact BP Eh
      |(refine AU (wpAny_load ho ?_)
        rw[AH,hd];show Ag M A (if(["enumerate","zip","dict_itemiterator","dict_reverseitemiterator","odict_iterator","itertools.zip_longest","itertools.pairwise"].contains n&&vs[0]?==some (MH _))=true then _ else _) Q E s;rw[if_neg (by intro h;rw[AV,Bool.false_and]at h;cases h)];exact BP Eh))
def fx(K:Aq)(a:A4):It:=
 ⟨λi H=>∃xs x,E_ K H a xs/\xs[i]?=some x,λi H x A7=>A7=H/\∀xs,E_ K H a xs->xs[i]?=some x,λi H=>∃xs,E_ K H a xs/\xs.length<=i⟩
def fz(K:Aq)(a:A4):It:=
 ⟨λi H=>∃xs x,Ea K H a xs/\xs[i]?=some x,λi H x A7=>A7=H/\∀xs,Ea K H a xs->xs[i]?=some x,λi H=>∃xs,Ea K H a xs/\xs.length<=i⟩
def UC(lo:Int)(n:Nat):It:=⟨λi _=>i<n,λi H x A7=>A7=H/\x=.int (lo+i),λi _=>n<=i⟩
def adn{P:C5}{w:Bo}{K:Aq}{C4:Al}(a it:A4):Turn P w K C4 (fx K a) [it] it (λi h=>h.IsListIter it a i) where
 mem:=by simp
 obj:=λi h st b A2=>by
  have e:b=it:=by simpa using A2
  subst e;obtain⟨o,e,c,d⟩:=st;exact⟨o,e,λv z=>by rw[d]at z;cases z⟩
 keep:=λi h h' st k=>st.at λo e=>k it (by simp) o e
 item:=by intro X Dl hw AZ AH i pins s σ H E J hf st Ak;subst Dl hw AZ;obtain⟨xs,x,AX,AK⟩:=Ak;obtain⟨its,C6,p,hz⟩:=J.list AX;obtain⟨u,BI,Fo⟩:=C6.get AK;obtain⟨f0,f1,f2,Eo,f4,Fx⟩:=hf it (by simp);refine wpAny_pyNext_list_item st p.isList (x:=u) (by simpa using BI) λh' H9 FZ=>?_;have Ab:Inv X pins σ H { s with heap:=h' }:=J.turned (t':=s.toks) (λb o A2 e=>(FZ.2 b A2).trans e) f0 f1 Eo f4 Fx;obtain⟨o,e,c,d⟩:=id H9;exact⟨u,rfl,SQ (s:={ s with heap:=h' }) e c d (by decide) ⟨x,H,Ab,Fo,⟨rfl,λys AP=>by rw[J.bW AP AX];exact AK⟩,H9,λb A2=>(hf b A2).1⟩⟩
 done:=by intro X Dl hw AZ AH i pins s σ H E J hf st Ak;subst Dl hw AZ;obtain⟨xs,AX,AK⟩:=Ak;obtain⟨its,C6,p,hz⟩:=J.list AX;obtain⟨f0,f1,f2,Eo,f4,Fx⟩:=hf it (by simp);have AG:=C6.length;exact wpAny_pyNext_list_end (J.ok.hd AH) st p.isList (by simp;lia) λh' BF=>⟨rfl,J.turned (t':=s.toks) (λb o A2 e=>BF b o A2 e) f0 f1 Eo f4 Fx⟩
 self:=λ_ _ _ _ _ st h=>wpAny_pyIter_listiter st h
def adq{P:C5}{w:Bo}{K:Aq}{C4:Al}(a it:A4):Turn P w K C4 (fz K a) [it] it (λi h=>h.IsTupleIter it a i) where
 mem:=by simp
 obj:=λi h st b A2=>by
  have e:b=it:=by simpa using A2
  subst e;obtain⟨o,e,c,d⟩:=st;exact⟨o,e,λv z=>by rw[d]at z;cases z⟩
 keep:=λi h h' st k=>st.at λo e=>k it (by simp) o e
 item:=by intro X Dl hw AZ AH i pins s σ H E J hf st Ak;subst Dl hw AZ;obtain⟨xs,x,AX,AK⟩:=Ak;obtain⟨its,C6,p,hz⟩:=J.tuple AX;obtain⟨u,BI,Fo⟩:=C6.get AK;obtain⟨f0,f1,f2,Eo,f4,Fx⟩:=hf it (by simp);refine wpAny_pyNext_tuple_item st (show s.heap.IsTuple a its.toArray from p) (x:=u) (by simpa using BI) λh' H9 FZ=>?_;have Ab:Inv X pins σ H { s with heap:=h' }:=J.turned (t':=s.toks) (λb o A2 e=>(FZ.2 b A2).trans e) f0 f1 Eo f4 Fx;obtain⟨o,e,c,d⟩:=id H9;exact⟨u,rfl,SQ (s:={ s with heap:=h' }) e c d (by decide) ⟨x,H,Ab,Fo,⟨rfl,λys AP=>by rw[J.du AP AX];exact AK⟩,H9,λb A2=>(hf b A2).1⟩⟩
 done:=by intro X Dl hw AZ AH i pins s σ H E J hf st Ak;subst Dl hw AZ;obtain⟨xs,AX,AK⟩:=Ak;obtain⟨its,C6,p,hz⟩:=J.tuple AX;obtain⟨f0,f1,f2,Eo,f4,Fx⟩:=hf it (by simp);have AG:=C6.length;exact wpAny_pyNext_tuple_end (J.ok.hd AH) st (show s.heap.IsTuple a its.toArray from p) (by simp;lia) λh' BF=>⟨rfl,J.turned (t':=s.toks) (λb o A2 e=>BF b o A2 e) f0 f1 Eo f4 Fx⟩
 self:=λ_ _ _ _ _ st h=>wpAny_pyIter_tupleiter st h
def ado{P:C5}{w:Bo}{K:Aq}{C4:Al}(it:A4)(lo:Int)(n:Nat):Turn P w K C4 (UC lo n) [it] it (λi h=>IsRangeIter h it (lo+(i:Nat)*1) ((n:Int)-(i:Nat)) 1) where
 mem:=by simp
 obj:=λi h st b A2=>by
  have e:b=it:=by simpa using A2
  subst e;exact⟨_,st,λv z=>by have Fi:Data.fields _=U6 v:=z;cases Fi⟩
 keep:=λi h h' st k=>k it (by simp) _ st
 item:=by intro X Dl hw AZ AH i pins s σ H E J hf st Ak;subst Dl hw AZ;obtain⟨f0,f1,f2,Eo,f4,Fx⟩:=hf it (by simp);have W:=Walks.range (prog:=X.prog) (w:=X.w) (J.ok.hd AH) it lo 1 n;refine W.item i s _ _ Ak st λv h' CL B_ H9 G_=>?_;obtain⟨t,rfl⟩:=B_;have Ab:Inv X pins σ H { s with heap:=h',toks:=CL }:=J.turned (λb o A2 e=>G_ b o (by simpa using A2) e) f0 f1 Eo f4 Fx;refine⟨_,rfl,SQ (s:={ s with heap:=h',toks:=CL }) (n:="range_iterator") H9 rfl rfl (by decide) ⟨.int (lo+i),H,Ab,⟨t,?_⟩,⟨rfl,rfl⟩,H9,λb A2=>(hf b A2).1⟩⟩;rw[Int.mul_one]
 done:=by intro X Dl hw AZ AH i pins s σ H E J hf st Ak;subst Dl hw AZ;obtain⟨f0,f1,f2,Eo,f4,Fx⟩:=hf it (by simp);exact wpAny_pyNext_range_end (J.ok.hd AH) st (by have:n<=i:=Ak;lia) λh' BF=>⟨rfl,J.turned (t':=s.toks) (λb o A2 e=>BF b o A2 e) f0 f1 Eo f4 Fx⟩
 self:=λ_ _ _ _ _ st h=>wpAny_pyIter_rangeiter st h
section
variable{X:Ao}{C4:Al}
def kr{pins:List (A4×Obj)}{σ :St}{H:AC}{s:AM}{R:It->AC->Prop}{E:A6->AM->Prop}{lo AB:Int}{t u v:Tok}{CL:Nat}(J:Inv X pins σ H s)(h1: -(2^62)<=lo)(h2:lo<2^62)(BH: -(2^62)<=AB)(Cs:AB<2^62)(q:R (UC lo (AB-lo).toNat) H):Ag (Av X.prog X.w) X.A (pyIter (.ref s.heap.objs.size)) (gP X pins σ C4 R) E { s with heap:=s.heap.push { cls:=.type "range",data:=.fields #[.int lo t,.int AB u,.int 1 v] },toks:=CL }:=by
 refine wpAny_pyIter_range (IsRange.new ..) (small_one h1 h2 BH Cs) ?_;have Ab:Inv X pins σ H { s with heap:=s.heap.push { cls:=.type "range",data:=.fields #[.int lo t,.int AB u,.int 1 v] },toks:=CL }:=J.kept λb o e=>Cw _ e
 refine⟨(s.heap.push { cls:=.type "range",data:=.fields #[.int lo t,.int AB u,.int 1 v] }).objs.size,[(s.heap.push { cls:=.type "range",data:=.fields #[.int lo t,.int AB u,.int 1 v] }).objs.size],_,_,H,rfl,
  Ab.kept (t':=CL) λb o e=>Cw _ e,ado _ lo (AB-lo).toNat,?_,λb A2=>?_,q⟩
 .have A9:lo+((0:Nat):Int)*1=lo:=by simp
  have AF:(((AB-lo).toNat:Nat):Int)-((0:Nat):Int)=qc lo AB 1:=by rw[rangeSize_one];split<;>lia
  show IsRangeIter _ _ (lo+((0:Nat):Int)*1) ((((AB-lo).toNat:Nat):Int)-((0:Nat):Int)) 1;rw[A9,AF];exact F_ _ rfl
 .have e:b=(s.heap.push { cls:=.type "range",data:=.fields #[.int lo t,.int AB u,.int 1 v] }).objs.size:=by simpa using A2
  subst e;exact Ab.NG (CB _) (Ab.Aw.fresh (CB _))
def xV(Bp:FV):TI:=λσ H R=>Bp σ H λvs H1=>∃j:Int,vs=[.int j]/\-(2^62)<=j/\j<2^62/\R (UC 0 j.toNat) H1
def xW(Bp:FV):TI:=λσ H R=>Bp σ H λvs H1=>∃i j:Int,vs=[.int i,.int j]/\(-(2^62)<=i/\i<2^62/\-(2^62)<=j/\j<2^62)/\R (UC i (j-i).toNat) H1
def ac8{a:Al}{Bp:FV}{p pos:Pos}(Ak:EI X "range")(hm:X.mg "range"=none)(AE:Gl X [a] Bp)(AN:CJ [a] X.env=[(false,BZ a X.env)]:=by rfl):Hg X C4 (.Call (.Name "range" p) [a] [] pos) (xV Bp):=by
 intro pins s σ H R J h;refine Call_ (Ot J Ak hm boot_range (QD (BN (AE pos pins s σ H _ J h) λus s1⟨vs,H1,Ab,Ar,q1⟩=>?_) AN rfl));obtain⟨j,e,q1,q2,q⟩:=q1;subst e;cases Ar with
 |cons r KU=>cases KU;obtain⟨t,rfl⟩:=r;exact call_range_1 (kr Ab (by lia) (by lia) q1 q2 (by simpa using q))
def ac9{a b:Al}{Bp:FV}{p pos:Pos}(Ak:EI X "range")(hm:X.mg "range"=none)(AE:Gl X [a,b] Bp)(AN:CJ [a,b] X.env=[(false,BZ a X.env),(false,BZ b X.env)]:=by rfl)(H2:CJ [b] X.env=[(false,BZ b X.env)]:=by rfl) :
  Hg X C4 (.Call (.Name "range" p) [a,b] [] pos) (xW Bp):=by
 intro pins s σ H R J h;refine Call_ (Ot J Ak hm boot_range (QD (BN (AE pos pins s σ H _ J h) λus s1⟨vs,H1,Ab,Ar,q1⟩=>?_) (by rw[AN,H2]) (by rw[H2];rfl)));obtain⟨i,j,e,⟨q1,q2,Ee,MZ⟩,q⟩:=q1;subst e;cases Ar with
 |cons r KU=>
  cases KU with
  |cons BW KU=>cases KU;obtain⟨t,rfl⟩:=r;obtain⟨t',rfl⟩:=BW;exact call_range_2 (kr Ab q1 q2 Ee MZ q)
noncomputable def Zh(IX:TI)(g:Jf)(tb:Eu):Eu:=λD σ H=>IX σ H λBK H1=>∃W:Nat->Nat->St->AC->Prop,(∃m,W 0 m σ H1)/\∀i m σ H,W i m σ H->
 (BK.stop i H/\D.AR σ H)\/(BK.go i H/\∃N:St->AC->Prop,(∀ σ' A7,N σ' A7->∃E0,E0<m/\W (i+1) E0 σ' A7)/\∀x A7,BK.W8 i H x A7->g x σ A7 λσ2 AS=>tb { D with AR:=N,DA:=N,BU:=D.AR } σ2 AS)
def WF(BG:List A4)(h:B8):List (A4×Obj):=BG.filterMap λb=>(h.get? b).map λo=>(b,o)
def Ym{BG:List A4}{h:B8}{b:A4}{o:Obj}(A2:b∈BG)(e:h.get? b=some o):(b,o)∈WF BG h:=List.mem_filterMap.mpr ⟨b,A2,by rw[e];rfl⟩
def zX{BG:List A4}{h:B8}{p:A4×Obj}(AT:p∈WF BG h):p.1∈BG/\h.get? p.1=some p.2:=by
 obtain⟨b,A2,e⟩:=List.mem_filterMap.mp AT;cases q:h.get? b with
 |none=>rw[q]at e;cases e
 |some o=>rw[q]at e;have BX:(b,o)=p:=GU e;subst BX;exact⟨A2,q⟩
def Inv.pinned{pins:List (A4×Obj)}{σ :St}{H:AC}{s:AM}{BG:List A4}(J:Inv X pins σ H s)(hf:∀b∈BG,KC X pins H b)(ho:∀b∈BG,∃o,s.heap.get? b=some o/\∀v,o.data≠.cell v):Inv X (pins++WF BG s.heap) σ H s:=
 J.lY λp AT=>(List.mem_append.mp AT).elim (λz=>J.pin p (IY _ z)) λz=>by obtain⟨A2,e⟩:=zX z;obtain⟨f0,f1,f2,_⟩:=hf p.1 A2;obtain⟨o,BX,d⟩:=ho p.1 A2;rw[e]at BX;cases BX;exact⟨e,f0,f1,f2,d⟩
def Inv.ZJ{pins pl:List (A4×Obj)}{σ :St}{H:AC}{s:AM}(J:Inv X (pins++pl) σ H s):Inv X pins σ H s:=J.lY λp AT=>J.pin p (IY _ (Iz _ AT))
def kx{iter:Al}{body:List BC}{IX:TI}{g:Jf}{tb:Eu}{pos:Pos}(AT:PassesOwn (Av X.prog X.w) X.A X.env X.Cr)(AH:X.calm=true)(AB:Hg X C4 iter IX)(Ak:Gv X C4 g)(A2:Gw X body tb)(AN:∀x,P6 iter X.env x=pure x:=by intro _;rfl):DT X (.For C4 iter body [] pos) (Zh IX g tb):=by
 intro pins s σ H D J h;refine wpAny_For (BN (AB pins s σ H _ J h) λv s1 h1=>BN h1 λYa s2 h2=>?_) AN;obtain⟨it,BG,HP,BK,AS,e,BS,T,Ju,f2,W,⟨m0,Jw⟩,turn⟩:=h2;subst e;have stat:∀{A7:AC},(∀b∈BG,A7 b=none)->∀b∈BG,KC X pins A7 b:=λAV b A2=>⟨AV b A2,(f2 b A2).2⟩;refine codeAny_forLoop_any (λn s'=>∃i σ' A7,Inv X pins σ' A7 s'/\HP i s'.heap/\(∀b∈BG,A7 b=none)/\W i n σ' A7) ?_ m0 ⟨0,σ,AS,BS,Ju,λb A2=>(f2 b A2).1,Jw⟩;rintro n s3 ⟨i,σ3,Bx,D8,oM,hy,W3⟩;rcases turn i n σ3 Bx W3 with⟨stop,qn⟩|⟨go,N,hN,DY⟩
 .refine QS AT (BN (T.done X rfl rfl rfl AH i pins s3 σ3 Bx X.Cr D8 (stat hy) oM stop) λr s4⟨B7,M4⟩=>?_);subst B7;exact Rq ⟨σ3,Bx,M4,qn⟩
 .refine QS AT (BN (T.item X rfl rfl rfl AH i pins s3 σ3 Bx X.Cr D8 (stat hy) oM go) λr s4⟨u,B7,Cs⟩=>?_);subst B7;refine QS AT (BN Cs λ_ s5⟨x,Dq,OH,Qo,da,T2,Yr⟩=>?_);have rm:=OH.pinned (stat Yr) (T.obj _ _ T2);refine QS AT (BN (Ak _ s5 σ3 Dq x u _ rm Qo (DY x Dq da)) λ_ s6⟨σ6,II,Qc,Pk⟩=>?_);refine QS AT (BN (A2 _ s6 σ6 II _ Qc Pk) λf s7 LA=>?_);have again:∀{σ7:St}{DZ:AC},Inv X (pins++WF BG s5.heap) σ7 DZ s7->N σ7 DZ->∃m,m<n/\∃i σ' A7,Inv X pins σ' A7 s7/\HP i s7.heap/\(∀b∈BG,A7 b=none)/\W i m σ' A7:=λ{σ7 DZ} Kn VX=>by
   obtain⟨E0,hm,adX⟩:=hN σ7 DZ VX;refine⟨E0,hm,i+1,σ7,DZ,Kn.ZJ,T.keep _ _ _ T2 λb A2 o e=>(Kn.pin (b,o) (IY _ (IY _ (Ym A2 e)))).1,λb A2=>?_,adX⟩;obtain⟨o,e,d⟩:=T.obj _ _ T2 b A2;exact(Kn.pin (b,o) (IY _ (IY _ (Ym A2 e)))).2.1
  cases f with
  |next=>obtain⟨σ7,DZ,Kn,VX⟩:=LA;exact again Kn VX
  |cont=>obtain⟨σ7,DZ,Kn,VX⟩:=LA;exact again Kn VX
  |brk=>obtain⟨σ7,DZ,Kn,LA⟩:=LA;exact⟨σ7,DZ,Kn.ZJ,LA⟩
  |ret v=>obtain⟨af7,σ7,DZ,Kn,Qp,LA⟩:=LA;exact⟨af7,σ7,DZ,Kn.ZJ,Qp,LA⟩
end
abbrev FA:=V->V->AC->CK->Prop
noncomputable def Dg(X:Ao)(f:A6->A6->Sem A6)(r:FA):Prop:=
 ∀(pins:List (A4×Obj))(s:AM)(σ :St)(H:AC)(x y:V)(v u:A6)(Q:CK),Inv X pins σ H s->RelV x v->RelV y u->r x y H Q->
  Ag (Av X.prog X.w) X.A (f v u) (Gj X pins σ Q) X.Cr s
noncomputable def fU(X:Ao)(f:A6->Sem A6)(r:V->AC->CK->Prop):Prop:=
 ∀(pins:List (A4×Obj))(s:AM)(σ :St)(H:AC)(x:V)(v:A6)(Q:CK),Inv X pins σ H s->RelV x v->r x H Q->
  Ag (Av X.prog X.w) X.A (f v) (Gj X pins σ Q) X.Cr s
noncomputable def J5(X:Ao)(f:A6)(r:List V->AC->CK->Prop):Prop:=
 ∀(pins:List (A4×Obj))(s:AM)(σ :St)(H:AC)(xs:List V)(us:List A6)(Q:CK),Inv X pins σ H s->Vals xs us->r xs H Q->
  Ag (Av X.prog X.w) X.A (call f us) (Gj X pins σ Q) X.Cr s
noncomputable def rz(X:Ao)(r:V->AC->(Bool->AC->Prop)->Prop):Prop:=
 ∀(pins:List (A4×Obj))(s:AM)(σ :St)(H:AC)(x:V)(v:A6)(Q:Bool->AC->Prop),Inv X pins σ H s->RelV x v->r x H Q->
  Ag (Av X.prog X.w) X.A (truthy v) (X_ X pins σ Q) X.Cr s
def T6(r:FA)(Bp tb:TE):TE:=λσ H Q=>Bp σ H λx H1=>tb σ H1 λy AS=>r x y AS Q
def pg(r:V->AC->CK->Prop)(Bp:TE):TE:=λσ H Q=>Bp σ H λx H1=>r x H1 Q
def IS(C:Int->Int->Prop)(g:Int->Int->V):FA:=λx y H Q=>∃i j,x=.int i/\y=.int j/\C i j/\Q (g i j) H
def LF(g:Int->Int->V):FA:=λx y H Q=>∃i j,x=.int i/\y=.int j/\Q (g i j) H
def kq(g:Int->V):V->AC->CK->Prop:=λx H Q=>∃i,x=.int i/\Q (g i) H
section
variable{X:Ao}{a b c:Al}{Bp tb Gg:TE}{pos:Pos}
def bC(AE:Ae X a Bp)(A2:Ae X b tb){pins:List (A4×Obj)}{s:AM}{σ :St}{H:AC}{R:V->V->AC->Prop}(J:Inv X pins σ H s)(h:Bp σ H λx H1=>tb σ H1 λy AS=>R x y AS){Q:A6->AM->Prop}{f:A6->A6->Sem A6}(hf:∀v u s2 x y AS,Inv X pins σ AS s2->RelV x v->RelV y u->R x y AS->Ag (Av X.prog X.w) X.A (f v u) Q X.Cr s2) :
  Ag (Av X.prog X.w) X.A (BZ a X.env) (λv Cq=>Ag (Av X.prog X.w) X.A (BZ b X.env) (λu JR=>Ag (Av X.prog X.w) X.A (f v u) Q X.Cr JR) X.Cr Cq) X.Cr s:=by
 refine BN (AE pins s σ H _ J h) λv s1⟨x,H1,Ab,Ar,q1⟩=>?_;refine BN (A2 pins s1 σ H1 _ Ab q1) λu s2⟨y,AS,BS,BD,q2⟩=>?_;exact hf v u s2 x y AS BS Ar BD q2
def Pj{op:Operator}{r:FA}(ho:Dg X (JZ op) r)(AE:Ae X a Bp)(A2:Ae X b tb):Ae X (.BinOp a op b pos) (T6 r Bp tb):=by intro pins s σ H Q J h;exact wpAny_BinOp (bC AE A2 J h λv u s2 x y AS BS At Bf q=>ho pins s2 σ AS x y v u Q BS At Bf q)
def ac0{op:UnaryOp}{r:V->AC->CK->Prop}(ho:fU X (unaryOp op) r)(AE:Ae X a Bp):Ae X (.UnaryOp op a pos) (pg r Bp):=by intro pins s σ H Q J h;exact UnaryOp_ (BN (AE pins s σ H _ J h) λv s1⟨x,H1,Ab,Ar,q1⟩=>ho pins s1 σ H1 x v Q Ab Ar q1)
def V6{f:A6->A6->Sem A6}{C:Int->Int->Prop}{g:Int->Int->Int}(rule:∀(i j:Int)(t u:Tok)(s:AM)(Q:A6->AM->Prop)(E:A6->AM->Prop),C i j->Q (.int (g i j) s.toks) { s with toks:=s.toks+1 }->Ag (Av X.prog X.w) X.A (f (.int i t) (.int j u)) Q E s) :
  Dg X f (IS C λi j=>.int (g i j)):=by
 intro pins s σ H x y v u Q J At Bf h;obtain⟨i,j,rfl,rfl,AH,q⟩:=h;obtain⟨t,rfl⟩:=At;obtain⟨t',rfl⟩:=Bf;exact rule i j t t' s _ _ AH ⟨.int (g i j),H,J.tok _,⟨_,rfl⟩,q⟩
def dQ{f:A6->A6->Sem A6}{g:Int->Int->Int}(rule:∀(i j:Int)(t u:Tok)(s:AM)(Q:A6->AM->Prop)(E:A6->AM->Prop),Q (.int (g i j) s.toks) { s with toks:=s.toks+1 }->Ag (Av X.prog X.w) X.A (f (.int i t) (.int j u)) Q E s) :
  Dg X f (LF λi j=>.int (g i j)):=by
 intro pins s σ H x y v u Q J At Bf h;obtain⟨i,j,rfl,rfl,q⟩:=h;obtain⟨t,rfl⟩:=At;obtain⟨t',rfl⟩:=Bf;exact rule i j t t' s _ _ ⟨.int (g i j),H,J.tok _,⟨_,rfl⟩,q⟩
def Zt{f:A6->A6->Sem A6}{g:Int->Int->Bool}(rule:∀(i j:Int)(t u:Tok)(s:AM)(Q:A6->AM->Prop)(E:A6->AM->Prop),Q (.bool (g i j)) s->Ag (Av X.prog X.w) X.A (f (.int i t) (.int j u)) Q E s) :
  Dg X f (LF λi j=>.AL (g i j)):=by
 intro pins s σ H x y v u Q J At Bf h;obtain⟨i,j,rfl,rfl,q⟩:=h;obtain⟨t,rfl⟩:=At;obtain⟨t',rfl⟩:=Bf;exact rule i j t t' s _ _ ⟨.AL (g i j),H,J,rfl,q⟩
def Sc(i j:Int):Prop:=0<j/\j<1073741824
def OD(i j:Int):Prop:=0<=j/\j<=1000000/\i.natAbs<2^64
def LC(i j:Int):Prop:=(-(2^64)<i/\i<2^64)\/(-(2^64)<j/\j<2^64)
def LC.ok{i j:Int}(h:LC i j):IntMulOk i j:=by
 rcases h with⟨h1,h2⟩|⟨h1,h2⟩
 .exact .of_left (intBits_le_64 h1 h2)
 .exact .of_right (intBits_le_64 h1 h2)
def adu(k:Nat):(0:Int)<=2^k:=by rw[two_pow_cast];exact Int.natCast_nonneg _
def abE:Dg X (JZ .Add) (LF λi j=>.int (i+j)):=dQ λ_ _ _ _ _ _ _ q=>add_int q
def aac:Dg X (JZ .Sub) (LF λi j=>.int (i-j)):=dQ λ_ _ _ _ _ _ _ q=>sub_int q
def aaZ:Dg X (JZ .Mult) (IS LC λi j=>.int (i*j)):=V6 λ_ _ _ _ _ _ _ AH q=>mul_int q AH.ok
def abK:Dg X (JZ .FloorDiv) (IS Sc λi j=>.int (i/j)):=V6 λi j _ _ _ _ _ AH q=>by have h1:(0:Int)<j:=AH.1;have h2:j<1073741824:=AH.2;exact floordiv_int (by lia) (by rw[q8 i (by lia)];exact q) (.inl (PyProof.noPylong_small (by lia)))
def aaY:Dg X (JZ .Mod) (IS (λ_ j=>0<j) λi j=>.int (i%j)):=V6 λi j _ _ _ _ _ AH q=>by have h1:(0:Int)<j:=AH;exact mod_int' (by lia) (by rw[Int.fmod_eq_emod_of_nonneg i (by lia)];exact q)
def aa_:Dg X (JZ .Pow) (IS OD λi j=>.int (i^j.toNat)):=V6 λ_ _ _ _ _ _ _ AH q=>pow_int_small AH.1 AH.2.1 AH.2.2 q
def aab:Dg X (JZ .RShift) (IS (λ_ j=>0<=j) λi j=>.int (i/2^j.toNat)):=V6 λi j _ _ _ _ _ AH q=>
 rshift_int AH (by rw[q8 i (adu _)];exact q)
def abH:Dg X (JZ .BitAnd) (LF λi j=>.int (Builtin.bitAnd i j)):=dQ λ_ _ _ _ _ _ _ q=>and_int q
def adx{f:A6->Sem A6}{g:Int->Int}(rule:∀(i:Int)(t:Tok)(s:AM)(Q:A6->AM->Prop)(E:A6->AM->Prop),Q (.int (g i) s.toks) { s with toks:=s.toks+1 }->Ag (Av X.prog X.w) X.A (f (.int i t)) Q E s) :
  fU X f (kq λi=>.int (g i)):=by
 intro pins s σ H x v Q J At h;obtain⟨i,rfl,q⟩:=h;obtain⟨t,rfl⟩:=At;exact rule i t s _ _ ⟨.int (g i),H,J.tok _,⟨_,rfl⟩,q⟩
def ady:fU X (unaryOp .USub) (kq λi=>.int (-i)):=adx λ_ _ _ _ _ q=>neg_int q
end
section
variable{X:Ao}{a b c:Al}{Bp tb Gg:TE}{pos:Pos}
def ig{pins:List (A4×Obj)}{σ :St}{H:AC}{s:AM}{Q:CK}{k k':Bool}(J:Inv X pins σ H s)(q:Q (.AL k) H)(e:k=k'):Gj X pins σ Q (.bool k') s:=by subst e;exact⟨.AL k,H,J,rfl,q⟩
def Zx:Dg X (Ft .Lt) (LF λi j=>.AL (decide (i<j))):=Zt λ_ _ _ _ _ _ _ q=>lt_int q
def Pi:Dg X (Ft .LtE) (LF λi j=>.AL (decide (i<=j))):=Zt λ_ _ _ _ _ _ _ q=>le_int q
def jk:Dg X (Ft .Gt) (LF λi j=>.AL (decide (j<i))):=Zt λ_ _ _ _ _ _ _ q=>gt_int q
def jj:Dg X (Ft .GtE) (LF λi j=>.AL (decide (j<=i))):=Zt λ_ _ _ _ _ _ _ q=>ge_int q
def jl:Dg X (Ft .Is) (λx y H Q=>y=.non/\Q (.AL (decide (x=.non))) H):=by
 intro pins s σ H x y v u Q J At Bf h;obtain⟨rfl,q⟩:=h;cases Bf;refine is_none_gen (ig J q ?_)
 cases x<;>first
  |(cases At;rfl)
  |(obtain⟨t,rfl⟩:=At;rfl)
def jn:Dg X (Ft .IsNot) (λx y H Q=>y=.non/\Q (.AL (!decide (x=.non))) H):=by
 intro pins s σ H x y v u Q J At Bf h;obtain⟨rfl,q⟩:=h;cases Bf;refine isnot_none_gen (ig J q ?_)
 cases x<;>first
  |(cases At;rfl)
  |(obtain⟨t,rfl⟩:=At;rfl)
def Dg.or{f:A6->A6->Sem A6}{r BW:FA}(h:Dg X f r)(h':Dg X f BW):Dg X f (λx y H Q=>r x y H Q\/BW x y H Q):=by
 intro pins s σ H x y v u Q J At Bf q;rcases q with q|q
 .exact h pins s σ H x y v u Q J At Bf q
 .exact h' pins s σ H x y v u Q J At Bf q
def HZ(b:Al){op:CmpOp}(h:op≠.In:=by decide)(h2:op≠.NotIn:=by decide):M8 op b=false:=by
 have A9:(op==CmpOp.In)=false:=by cases op<;>first|rfl|exact absurd rfl h
 have AF:(op==CmpOp.NotIn)=false:=by cases op<;>first|rfl|exact absurd rfl h2
 cases b<;>simp[M8,A9,AF]
def Lr{op:CmpOp}{r:FA}(ho:Dg X (Ft op) r)(AE:Ae X a Bp)(A2:Ae X b tb)(hm:M8 op b=false):Ae X (.Compare a [op] [b] pos) (T6 r Bp tb):=by intro pins s σ H Q J h;exact wpAny_Compare1 (bC AE A2 J h λv u s2 x y AS BS At Bf q=>ho pins s2 σ AS x y v u Q BS At Bf q) hm
def pe(t:TE):TT:=λσ H Q=>t σ H λx A7=>∃k,x=.AL k/\Q k A7
def Ls{op:CmpOp}{r:FA}(ho:Dg X (Ft op) r)(AE:Ae X a Bp)(A2:Ae X b tb)(hm:M8 op b=false):EJ X (.Compare a [op] [b] pos) (pe (T6 r Bp tb)):=by
 intro pins s σ H Q J h;refine wpAny_isTrue_Compare1 (BN (AE pins s σ H _ J h) λv s1⟨x,H1,Ab,Ar,q1⟩=>BN (A2 pins s1 σ H1 _ Ab q1) λu s2⟨y,AS,BS,BD,q2⟩=>
  BN (ho pins s2 σ AS x y v u _ BS Ar BD q2) λc s3⟨z,Bx,D8,FY,k,e,Ee⟩=>?_) hm
 subst e;cases FY;exact MB ⟨Bx,D8,Ee⟩
def dm(r BW:FA)(Bp tb Gg:TE):TE:=λσ H Q=>Bp σ H λx H1=>tb σ H1 λy AS=>r x y AS λz Bx=>∃k,z=.AL k/\
 (if k=true then Gg σ Bx λCR Cy=>BW y CR Cy Q else Q (.AL false) Bx)
def aan{op Jp:CmpOp}{r BW:FA}(ho:Dg X (Ft op) r)(I5:Dg X (Ft Jp) BW)(AE:Ae X a Bp)(A2:Ae X b tb)(AH:Ae X c Gg)(hm:lastMarks [op,Jp] [b,c]=false:=by with_unfolding_all rfl):Ae X (.Compare a [op,Jp] [b,c] pos) (dm r BW Bp tb Gg):=by
 intro pins s σ H Q J h;refine Compare_chain (BN (AE pins s σ H _ J h) λv s1⟨x,H1,Ab,Ar,q1⟩=>chain_link (BN (A2 pins s1 σ H1 _ Ab q1) λu s2⟨y,AS,BS,BD,q2⟩=>
  BN (ho pins s2 σ AS x y v u _ BS Ar BD q2) λd s3⟨z,Bx,D8,FY,k,e,Ee⟩=>?_)) hm
 subst e;cases FY;refine MB ?_;cases k with
 |false=>exact ite_ff ⟨.AL false,Bx,D8,rfl,Ee⟩
 |true=>exact ite_tt (chain_last (BN (AH pins s3 σ Bx _ D8 Ee) λCR s4⟨Fi,Cy,M4,NS,MZ⟩=>I5 pins s4 σ Cy y Fi u CR Q M4 BD NS MZ))
def abQ{op Jp:CmpOp}{r BW:FA}(ho:Dg X (Ft op) r)(I5:Dg X (Ft Jp) BW)(AE:Ae X a Bp)(A2:Ae X b tb)(AH:Ae X c Gg)(hm:lastMarks [op,Jp] [b,c]=false:=by with_unfolding_all rfl):EJ X (.Compare a [op,Jp] [b,c] pos) (pe (dm r BW Bp tb Gg)):=by
 intro pins s σ H Q J h;refine isTrue_chain (BN (AE pins s σ H _ J h) λv s1⟨x,H1,Ab,Ar,q1⟩=>test_link (BN (A2 pins s1 σ H1 _ Ab q1) λu s2⟨y,AS,BS,BD,q2⟩=>
  BN (ho pins s2 σ AS x y v u _ BS Ar BD q2) λd s3⟨z,Bx,D8,FY,k,e,Ee⟩=>?_)) hm
 subst e;cases FY;refine MB ?_;cases k with
 |false=>obtain⟨k',BX,CT⟩:=Ee;cases BX;exact ite_ff ⟨Bx,D8,CT⟩
 |true=>refine ite_tt (test_last (BN (AH pins s3 σ Bx _ D8 Ee) λCR s4⟨Fi,Cy,M4,NS,MZ⟩=>BN (I5 pins s4 σ Cy y Fi u CR _ M4 BD NS MZ) λd' s5⟨Eg,Dq,OH,Qo,k2,AF,Sw⟩=>?_));subst AF;cases Qo;exact MB ⟨Dq,OH,Sw⟩
noncomputable def s8(K:Aq)(x:V)(H:AC)(k:Bool):Prop:=
 match x with
 |.non=>k=false
 |.AL b=>k=b
 |.int i=>k=(i !=0)
 |.str y=>y.length<=CG/\k=((y.length:Int) !=0)
 |.PK y=>y.size<=CG/\k=((y.size:Int) !=0)
 |.ref p=>(∃xs,E_ K H p xs/\k=!xs.isEmpty)\/(∃xs,Ea K H p xs/\k=!xs.isEmpty)\/∃A8,H p=some (.Aj A8)/\k=!A8.isEmpty
 |_=>False
def yG{Bj:Type}{A8:List (Bj×V)}{vs:List (Bj×A6)}(r:ES A8 vs):(!vs.isEmpty)=!A8.isEmpty:=by cases r<;>rfl
def j2{xs:List V}{its:List A6}(r:Vals xs its):(!its.toArray.isEmpty)=!xs.isEmpty:=by cases r<;>simp
def S5:(CG:Nat)<2^63:=by rw[LP];decide
def ahb:rz X (λx H Q=>∃k,s8 X.K x H k/\Q k H):=by
 intro pins s σ H x v Q J At h;obtain⟨k,e,q⟩:=h;have AG:=S5;have AN:CG=16777216:=LP;cases x with
 |non=>cases At;have BX:k=false:=e;subst BX;exact truthy_none ⟨H,J,q⟩
 |AL b=>cases At;have BX:k=b:=e;subst BX;exact MB ⟨H,J,q⟩
 |int i=>obtain⟨t,rfl⟩:=At;have BX:k=(i !=0):=e;subst BX;exact PySem.P.truthy_int ⟨H,J,q⟩
 |str y=>obtain⟨t,rfl⟩:=At;obtain⟨AP,BX⟩:y.length<=CG/\k=((y.length:Int) !=0):=e;subst BX;exact PySem.P.truthy_str (by lia) ⟨H,J.tok _,q⟩
 |PK y=>obtain⟨t,rfl⟩:=At;obtain⟨AP,BX⟩:y.size<=CG/\k=((y.size:Int) !=0):=e;subst BX;exact PySem.W.truthy_bytes (by lia) ⟨H,J.tok _,q⟩
 |ref p=>
  cases At;have BX:(∃xs,E_ X.K H p xs/\k=!xs.isEmpty)\/(∃xs,Ea X.K H p xs/\k=!xs.isEmpty)\/∃A8,H p=some (.Aj A8)/\k=!A8.isEmpty:=e;rcases BX with⟨xs,AK,BX⟩|⟨xs,AK,BX⟩|⟨A8,AK,BX⟩
  .subst BX;obtain⟨its,r,pl,hz⟩:=J.list AK;have hlen:=r.length;exact wpAny_truthy_list pl.isList (by simp only[DX];lia) ⟨H,J.tok _,by rw[j2 r];exact q⟩
  .subst BX;obtain⟨its,r,pl,hz⟩:=J.tuple AK;have hlen:=r.length;exact truthy_tuple pl (by simp only[DX];lia) ⟨H,J.tok _,by rw[j2 r];exact q⟩
  .subst BX;obtain⟨hz,Mo,vs,r,m⟩:A8.length<=CG/\(p==Jy)=false/\∃vs,ES A8 vs/\s.heap.DictOf (GM X.prog X.w) p vs:=J.Aw p _ AK;have hlen:A8.length=vs.length:=Paired.length r;exact wpAny_truthy_dict Mo m (by lia) ⟨H,J.tok _,by rw[yG r];exact q⟩
 |_=>exact(show False from e).elim
def abG:Dg X (JZ .Add) (λx y H Q=>∃i j,x=.str i/\y=.str j/\i.length+j.length<=CG/\Q (.str (i++j)) H):=by intro pins s σ H x y v u Q J At Bf h;obtain⟨i,j,rfl,rfl,hz,q⟩:=h;obtain⟨t,rfl⟩:=At;obtain⟨t',rfl⟩:=Bf;exact add_str (λt' CL=>⟨.str (i++j),H,J.tok _,⟨_,rfl⟩,q⟩) hz
def vals1{x:V}{us:List A6}(r:Vals [x] us):∃u,us=[u]/\RelV x u:=by
 cases r with
 |cons Ar BD=>cases BD;exact⟨_,rfl,Ar⟩
def vals2{x y:V}{us:List A6}(r:Vals [x,y] us):∃u CR,us=[u,CR]/\RelV x u/\RelV y CR:=by
 cases r with
 |cons Ar BD=>
  cases BD with
  |cons FY NS=>cases NS;exact⟨_,_,rfl,Ar,FY⟩
def t9:J5 X (.type "int") (λxs H Q=>(∃i,xs=[.int i]/\Q (.int i) H)\/∃k,xs=[.AL k]/\Q (.int (if k then 1 else 0)) H):=by
 intro pins s σ H xs us Q J r h;rcases h with⟨i,rfl,q⟩|⟨k,rfl,q⟩
 .obtain⟨u,rfl,t,rfl⟩:=vals1 r;exact call_int_int ⟨.int i,H,J,⟨_,rfl⟩,q⟩
 .obtain⟨u,rfl,Ar⟩:=vals1 r;cases Ar;exact call_int_bool ⟨.int (if k then 1 else 0),H,J.tok _,⟨_,rfl⟩,q⟩
def tH:J5 X (.type "str") (λxs H Q=>∃i,xs=[.int i]/\i.natAbs.log2<1920/\Q (.str (toString i)) H):=by intro pins s σ H xs us Q J r h;obtain⟨i,rfl,hz,q⟩:=h;obtain⟨u,rfl,t,rfl⟩:=vals1 r;exact PySem.P.str_of_int hz ⟨.str _,H,J.tok _,⟨_,rfl⟩,q⟩
noncomputable def gO(K:Aq)(x:V)(H:AC)(n:Nat):Prop:=
 match x with
 |.str y=>y.length<=CG/\n=y.length
 |.PK y=>y.size<=CG/\n=y.size
 |.ref p=>(∃xs,E_ K H p xs/\n=xs.length)\/∃xs,Ea K H p xs/\n=xs.length
 |_=>False
def tB:J5 X (.builtin "len") (λxs H Q=>∃x n,xs=[x]/\gO X.K x H n/\Q (.int n) H):=by
 intro pins s σ H xs us Q J r h;obtain⟨x,n,rfl,e,q⟩:=h;obtain⟨u,rfl,At⟩:=vals1 r;have AG:=S5;have AN:CG=16777216:=LP;cases x with
 |str y=>obtain⟨t,rfl⟩:=At;obtain⟨AP,BX⟩:y.length<=CG/\n=y.length:=e;subst BX;exact len_str (by lia) ⟨.int _,H,J.tok _,⟨_,rfl⟩,q⟩
 |PK y=>obtain⟨t,rfl⟩:=At;obtain⟨AP,BX⟩:y.size<=CG/\n=y.size:=e;subst BX;exact PySem.W.len_bytes (by lia) ⟨.int _,H,J.tok _,⟨_,rfl⟩,q⟩
 |ref p=>
  cases At;have BX:(∃xs,E_ X.K H p xs/\n=xs.length)\/∃xs,Ea X.K H p xs/\n=xs.length:=e;rcases BX with⟨xs,AK,BX⟩|⟨xs,AK,BX⟩
  .subst BX;obtain⟨its,BW,pl,hz⟩:=J.list AK;have hlen:=BW.length;exact Calls.call_len_list pl.isList (by simp only[DX];lia) ⟨.int xs.length,H,J.tok _,⟨_,by simp only[DX];rw[hlen]⟩,q⟩
  .subst BX;obtain⟨its,BW,pl,hz⟩:=J.tuple AK;have hlen:=BW.length;exact len_tuple pl (by simp only[DX];lia) ⟨.int xs.length,H,J.tok _,⟨_,by simp only[DX];rw[hlen]⟩,q⟩
 |_=>exact(show False from e).elim
end
structure Qh(h:B8)(x Bl C:A4)(E7:Str->Option A6):Prop where
 obj:h.get? x=some (P9 C Bl)
 ns:h.Ns1 Bl E7
 ne:Bl≠x
def yS{h:B8}{Bl:A4}{E7:Str->Option A6}(n:h.Ns1 Bl E7):∃Dy,h.get? Bl=some Dy/\∀name,X9 name Dy=some (E7 name):=by
 obtain⟨o,es,An,ho,hd,AO,_,hm⟩:=n;refine⟨o,ho,λname=>?_⟩;have e:=hm name;unfold nsFind findBy at e;rw[<-Array.find?_toList]at e;unfold X9;rw[hd];dsimp only
 split
 .rename_i y q;rw[q]at e;exact congrArg some e
 .rename_i q;rw[q]at e;have a:es.toList.any (·.refKey)=false:=by
   rw[List.any_eq_false];intro y AP;obtain⟨z,t,w0⟩:=AO y (Array.mem_toList_iff.mp AP);simp[DictEntry.refKey,w0]
  have GS:¬es.toList.any (·.refKey)=true:=by rw[a];exact Kb
  rw[if_neg GS];exact congrArg some e
def Qh.look{h:B8}{x Bl C:A4}{E7:Str->Option A6}(J:Qh h x Bl C E7):∃Dy,PySem.W.InstAt h x (P9 C Bl) C (some Dy)/\∀name,X9 name Dy=some (E7 name):=
 let⟨Dy,ho,AG⟩:=yS J.ns
 ⟨Dy,⟨J.obj,rfl,rfl,ho⟩,AG⟩
section
variable{prog:C5}{w:Bo}{A:D4}{E:A6->AM->Prop}{s:AM}{K:Aq}{x Bl C f:A4}{E7:Str->Option A6}{name:Str}{v:A6}
def get_map{expr:Bool}{Q:A6->AM->Prop}(X:K.In s.heap)(J:Qh s.heap x Bl C E7)(Ak:Rv K C name=true)(hh:Tf K C=true)(AE:JT K (.ref C) name=some none)(B_:E7 name=some v)(YS:PySem.W.handedIn v=true)(h:Q v { s with toks:=s.toks+1 }) :
  Ag (Av prog w) A (getAttr (.ref x) name expr) Q E s:=by
 obtain⟨Dy,BK,AG⟩:=J.look;exact PySem.W.get_value X BK (eH Ak).1 (PySem.W.findObj_own hh AE rfl (by rw[AG,B_])) YS h
def w9{pl:Sem Bool}{Q:A6×List A6->AM->Prop}(X:K.In s.heap)(J:Qh s.heap x Bl C E7)(Ak:Rv K C name=true)(hf:JT K (.ref C) name=some (some (.ref f)))(Bi:Tu K (.ref f)=true)(B_:E7 name=none)(h:Q (.ref f,[.ref x]) s) :
  Ag (Av prog w) A (O0 (.ref x) name pl) Q E s:=by
 obtain⟨Dy,BK,AG⟩:=J.look;exact PySem.W.method_fn X BK (eH Ak).1 (eH Ak).2 hf (beq_iff_eq.mp Bi) (by show(X9 name Dy).map (·.isSome)=some false;rw[AG,B_];rfl) h
def acr{ns:List Str}{Q:Unit->AM->Prop}(X:K.In s.heap)(J:Qh s.heap x Bl C E7)(AN:JT K (.ref C) "__setattr__"=some (some (.builtin "object.__setattr__")))(AT:Wz K C=true)(Bi:eW K C name=some none)(hh:Tf K C=true)(hw:ej E7 ns)(hsz:ns.length<=CG)(h:∀h',Qh h' x Bl C (λy=>if y=name then some v else E7 y)->LO Bl s.heap h'->Q () { s with heap:=h',toks:=s.toks+2 }) :
  Ag (Av prog w) A (setAttr (.ref x) name v) Q E s:=by
 obtain⟨Dy,BK,AG⟩:=J.look;refine PySem.W.set_plain X BK AN (PySem.W.osa_open (s:={ s with toks:=s.toks+1 }) (r:=none) X BK AT Bi λb=>?_);obtain⟨cd,AH,c4⟩:=PySem.W.any_some hh;have AK:s.heap.get? x=some ⟨.ref C,some Bl,.plain,#[]⟩:=J.obj;refine AU (BP (AU (AU (wpAny_loadPart AK (AU (PySem.W.Looks.here (s:={ s with toks:=s.toks+1 }) (PySem.W.looks_clsIn X AH) ?_))))));rw[c4];refine BP (a:=some Bl) (AU (BP (AU ?_)));refine wpAny_nsSet1 (s:={ s with toks:=s.toks+1 }) J.ns λh' Z6 H2=>?_;obtain⟨ai7,ah1,ah0,v_,vk,wU⟩:=Z6.count (PySem.Within.cons name v hw);refine AU (wpAny_lookBehind v_ (by rw[vk];exact pastItsLine_dict (I_ wU (by rw[Df];lia))) ?_);exact BP (h _ ⟨(H2.2 _ (LY J.ne)).trans J.obj,Z6,J.ne⟩ H2)
def aa8 {R:Result->AM->Prop} {vs:List A6} {kw:List (Str×A6)} (X:K.In s.heap) (hm:eX K C=true)(AB:JT K (.ref C) "__init__"=some (some (.ref f))) (hf:PySem.W.typeIn K (.ref f)=some (.type "function"))(h:MF (Av prog w) (A.under (.builtin "type.__call__" ⟨.ref C::vs,kw⟩)) (.call (.ref f) ⟨.ref (s.heap.objs.size+1)::vs,kw⟩) (PySem.W.InitBack (s.heap.objs.size+1) R)
    { s with heap:=(s.heap.push Nt).push (P9 C s.heap.objs.size) }) :
  MF (Av prog w) A (.call (.ref C) ⟨vs,kw⟩) R s:=by
 obtain⟨hh,g,d,t,os⟩:=s;exact PySem.W.make_core (PySem.W.makes_of X hm) (PySem.W.looks_findIn X AB) (λself=>PySem.W.bind_fn X self hf) (.inl rfl) h
end
def HN(f:Str)(v:V):List (Str×V)->List (Str×V)
 |[]=>[(f,v)]
 |(g,x)::r=>if g=f then(g,v)::r else(g,x)::HN f v r
theorem kT(f g:Str)(v:V):∀B1:List (Str×V),(HN f v B1).lookup g=if g=f then some v else B1.lookup g
 |[]=>by
  show QW g [(f,v)]=_;by_cases h:g=f
  .have A2:(g==f)=true:=beq_iff_eq.mpr h;simp only[QW,A2,if_pos h]
  .have A2:(g==f)=false:=beq_eq_false_iff_ne.mpr h;simp only[QW,A2,if_neg h]
 |(k,x)::r=>by
  have C9:=kT f g v r;rw[show HN f v ((k,x)::r)=(if k=f then(k,v)::r else(k,x)::HN f v r)from rfl];by_cases AO:k=f
  .rw[if_pos AO];by_cases h:g=k
   .have A2:(g==k)=true:=beq_iff_eq.mpr h;simp only[QW,A2,if_pos (h.trans AO)]
   .have A2:(g==k)=false:=beq_eq_false_iff_ne.mpr h;simp only[QW,A2,if_neg (λe:g=f=>h (e.trans AO.symm))]
  .rw[if_neg AO];by_cases h:g=k
   .have A2:(g==k)=true:=beq_iff_eq.mpr h;simp only[QW,A2,if_neg (λe:g=f=>AO (h.symm.trans e))]
   .have A2:(g==k)=false:=beq_eq_false_iff_ne.mpr h;simp only[QW,A2];exact C9
theorem bz(f:Str)(v:V):∀B1:List (Str×V),f∈(HN f v B1).map (·.1)/\∀g,g∈B1.map (·.1)->g∈(HN f v B1).map (·.1)
 |[]=>⟨by simp[HN],λg h=>by simp at h⟩
 |(k,x)::r=>by
  obtain⟨BB,Bm⟩:=bz f v r;rw[show HN f v ((k,x)::r)=(if k=f then(k,v)::r else(k,x)::HN f v r)from rfl];by_cases AO:k=f
  .rw[if_pos AO];subst AO;exact⟨by simp,λg h=>by simpa using h⟩
  .rw[if_neg AO];refine⟨?_,λg h=>?_⟩
   .rw[D3];exact GF _ BB
   .rw[D3]at h |-;rcases List.mem_cons.mp h with e|e
    .exact List.mem_cons.mpr (.inl e)
    .exact GF _ (Bm g e)
theorem kR(f:Str)(v:V):∀B1:List (Str×V),(HN f v B1).length<=B1.length+1
 |[]=>by simp[HN]
 |(k,x)::r=>by
  have C9:=kR f v r;rw[show HN f v ((k,x)::r)=(if k=f then(k,v)::r else(k,x)::HN f v r)from rfl];by_cases AO:k=f
  .rw[if_pos AO,Df,Df];lia
  .rw[if_neg AO,Df,Df];lia
def I0.some_of{v:V}{o:Option A6}(r:I0 (some v) o):∃u,o=some u/\RelV v u:=by
 cases o with
 |none=>exact(show False from r).elim
 |some u=>exact⟨u,rfl,r⟩
def I0.none_of{o:Option A6}(r:I0 none o):o=none:=by
 cases o with
 |none=>rfl
 |some u=>exact(show False from r).elim
def wR{v:V}{u:A6}(r:RelV v u):PySem.W.handedIn u=true:=by
 cases v with
 |non=>cases(show u=J1 from r);rfl
 |AL b=>cases(show u=QU b from r);rfl
 |int i=>obtain⟨t,e⟩:=(show ∃t,u=Rz i t from r);cases e;rfl
 |str x=>obtain⟨t,e⟩:=(show ∃t,u=S0 x t from r);cases e;rfl
 |PK b=>obtain⟨t,e⟩:=(show ∃t,u=Value.bytes b t from r);cases e;rfl
 |RY b=>obtain⟨t,e⟩:=(show ∃t,u=ep b t from r);cases e;rfl
 |ref a=>cases(show u=Cj a from r);rfl
 |ty n=>cases(show u=Nv n from r);rfl
section
variable{P:C5}{w:Bo}{K:Aq}{H A7:AC}{h h':B8}{a C Bl:A4}{B1 NH:List (Str×V)}
def YY(Aw:Ek P w H h)(e:H a=some (.ins C Bl B1)):∃E7,Qh h a Bl C E7/\(∀f,I0 (B1.lookup f) (E7 f))/\ej E7 (B1.map (·.1))/\B1.length<=1000/\H Bl=some (.own a):=by obtain⟨d,z,ne,BJ,E7,n,r,q⟩:=(show Dr P w H h a (.ins C Bl B1)from Aw a _ e);exact⟨E7,⟨BJ,n,ne⟩,r,q,z,d⟩
end
structure J_(K:Aq)(C:A4):Prop where
 ac3:Rv K C Str.empty=true
 hd:Tf K C=true
 po:Wz K C=true
 OY:JT K (.ref C) "__setattr__"=some (some (.builtin "object.__setattr__"))
def J_.get{K:Aq}{C:A4}(c:J_ K C)(f:Str):Rv K C f=true:=c.ac3
def Qg(K:Aq)(C:A4)(f:Str):Prop:=JT K (.ref C) f=some none
def Qg.adb{K:Aq}{C:A4}{f:Str}(n:Qg K C f):eW K C f=some none:=by unfold eW;rw[show JT K (.ref C) f=some none from n];rfl
structure Meth(K:Aq)(C:A4)(m:Str)(f:A4):Prop where
 at_:JT K (.ref C) m=some (some (.ref f))
 fn:Tu K (.ref f)=true
 Bc:Jz K (.ref f)=true
section
variable{X:Ao}{pins:List (A4×Obj)}{σ :St}{H:AC}{s:AM}{a C Bl:A4}{B1:List (Str×V)}{f:Str}{v:V}{A:D4}{E:A6->AM->Prop}
def wA{b:Bool}{Q:A6->AM->Prop}(J:Inv X pins σ H s)(e:H a=some (.ins C Bl B1))(c:J_ X.K C)(n:Qg X.K C f)(l:B1.lookup f=some v)(h:∀u s',Inv X pins σ H s'->RelV v u->Q u s'):Ag (Av X.prog X.w) A (getAttr (.ref a) f b) Q E s:=by obtain⟨E7,O,r,_,_,_⟩:=YY J.Aw e;obtain⟨u,BI,Fo⟩:=I0.some_of (v:=v) (o:=E7 f) (by rw[<-l];exact r f);exact get_map J.F0 O (c.get f) c.hd n BI (wR Fo) (h u _ (J.tok _) Fo)
def Yw{m:Str}{g:A4}{pl:Sem Bool}{Q:A6×List A6->AM->Prop}(J:Inv X pins σ H s)(e:H a=some (.ins C Bl B1))(c:J_ X.K C)(k:Meth X.K C m g)(l:B1.lookup m=none)(h:Q (.ref g,[.ref a]) s):Ag (Av X.prog X.w) A (O0 (.ref a) m pl) Q E s:=by obtain⟨E7,O,r,_,_,_⟩:=YY J.Aw e;have AV:E7 m=none:=I0.none_of (by rw[<-l];exact r m);exact w9 J.F0 O (c.get m) k.at_ k.fn AV h
def acv{y:V}{u:A6}{Q:Unit->AM->Prop}(J:Inv X pins σ H s)(e:H a=some (.ins C Bl B1))(c:J_ X.K C)(n:Qg X.K C f)(AG:B1.length<1000)(Bf:RelV y u)(h:∀s',Inv X pins σ (upd H a (.ins C Bl (HN f y B1))) s'->Q () s'):Ag (Av X.prog X.w) A (setAttr (.ref a) f u) Q E s:=by
 obtain⟨E7,O,r,IX,_,ho⟩:=YY J.Aw e;have hz:(B1.map (·.1)).length<=CG:=by rw[CS,LP];lia
 refine acr J.F0 O c.OY c.po n.adb c.hd IX hz λh' fM FZ=>h _ ?_;have hd:∃o,h'.get? Bl=some o:=let⟨o,_,_,BX,_⟩:=fM.ns;⟨o,BX⟩
 refine J.write (x:=a) (e:=Bl) (by rw[e];exact Ht) (.inr ho) (λb q A2 z=>(FZ.2 b A2).trans z) hd ?_;refine⟨by rw[D6 O.ne];exact ho,?_,O.ne,fM.obj,_,fM.ns,λg=>?_,λg Ak=>?_⟩
 .have:=kR f y B1;lia
 .show I0 ((HN f y B1).lookup g) (if g=f then some u else E7 g);rw[kT];by_cases q:g=f
  .rw[if_pos q,if_pos q];exact Bf
  .rw[if_neg q,if_neg q];exact r g
 .by_cases q:g=f
  .rw[q];exact(bz f y B1).1
  .refine(bz f y B1).2 g (IX g λz=>Ak ?_);show(if g=f then some u else E7 g)=none;rw[if_neg q];exact z
def Inv.made(J:Inv X pins σ H s):Inv X pins σ (upd (upd H s.heap.objs.size (.own (s.heap.objs.size+1))) (s.heap.objs.size+1) (.ins C s.heap.objs.size []))
  { s with heap:=(s.heap.push Nt).push (P9 C s.heap.objs.size) }:=by
 have A9:(s.heap.push Nt).get? s.heap.objs.size=some Nt:=F_ s.heap rfl;have AF:((s.heap.push Nt).push (P9 C s.heap.objs.size)).get? (s.heap.objs.size+1)=some (P9 C s.heap.objs.size):=by
  have:=F_ (s.heap.push Nt) (o:=P9 C s.heap.objs.size) rfl
  rwa [Kc]at this
 have Dh:(s.heap.push Nt).Ns s.heap.objs.size (λ_=>none):=⟨Nt,#[],_,A9,rfl,(λe he=>absurd he (by simp)),λ_=>rfl⟩;have Ab:=J.laid (a:=s.heap.objs.size) (o:=.own (s.heap.objs.size+1)) (h':=s.heap.push Nt) (t':=s.toks) (λb u q=>Cw _ q) (CB _) ⟨_,A9⟩;refine Ab.laid (a:=s.heap.objs.size+1) (o:=.ins C s.heap.objs.size []) (t':=s.toks) (λb u q=>Cw _ q) (Nat.le_of_eq (Kc _ _)) ?_;have ne:s.heap.objs.size≠s.heap.objs.size+1:=Ei (QE _);refine⟨by rw[D6 ne,E4],ID _,ne,AF,λ_=>none,(Heap.Ns1.of_empty Dh).at λo q=>Cw _ q,λ_=>Ht,λy AP=>absurd rfl AP⟩
def rW{prog:C5}{w:Bo}{env:Env}{e:Al}{f:Str}{pos:Pos}{s:AM}{Q:A6->AM->Prop}(A2:MA e f env (BZ e env)=BZ e env)(h:Ag (Av prog w) A (BZ e env) (λo Cq=>Ag (Av prog w) A (getAttr o f true) Q E Cq) E s):Ag (Av prog w) A (BZ (.Attribute e f pos) env) Q E s:=
 Attribute_any_ h (by rw[arm_eval_Attribute,A2])
end
def o7(K:Aq)(Bp:TE)(f:Str):TE:=λσ H Q=>Bp σ H λx H1=>∃a C Bl B1 v,x=.ref a/\H1 a=some (.ins C Bl B1)/\J_ K C/\Qg K C f/\B1.lookup f=some v/\Q v H1
noncomputable def mh(K:Aq)(Bp KY:TE)(f:Str):Eu:=λD σ H=>KY σ H λy H1=>Bp σ H1 λx AS=>∃a C Bl B1,x=.ref a/\AS a=some (.ins C Bl B1)/\J_ K C/\Qg K C f/\B1.length<1000/\
 D.AR σ (upd AS a (.ins C Bl (HN f y B1)))
section
variable{X:Ao}{o e value:Al}{f:Str}{pos pos' WV:Pos}{Bp KY:TE}
def aat(he:Ae X e Bp)(A2:MA e f X.env (BZ e X.env)=BZ e X.env):Ae X (.Attribute e f pos) (o7 X.K Bp f):=by intro pins s σ H Q J h;refine rW A2 (BN (he pins s σ H _ J h) λu s1⟨x,H1,Ab,At,a,C,Bl,B1,v,ex,BY,c,n,l,q⟩=>?_);subst ex;obtain rfl:u=Cj a:=At;exact wA Ab BY c n l λJS s2 BS Fo=>⟨v,H1,BS,Fo,q⟩
def abj(AE:Ae X o Bp)(B_:Ae X value KY)(AN:Nz value (some (.Attribute o f pos')) pos.line X.env=pure false):DT X (.Assign [.Attribute o f pos'] value pos) (mh X.K Bp KY f):=by intro pins s σ H D J h;refine plainObj_wpAny_Assign_Attribute (BN (B_ pins s σ H _ J h) λu s1⟨y,H1,Ab,Bf,q⟩=>BN (AE pins s1 σ H1 _ Ab q) λCO s2⟨x,AS,BS,At,a,C,Bl,B1,ex,BY,c,n,l,q2⟩=>?_) AN;subst ex;obtain rfl:CO=Cj a:=At;exact acv BS BY c n l Bf λs3 D8=>⟨σ,_,D8,q2⟩
def ahF {pl:Sem Bool} {m:Str} {apos:Pos} {args:List Al} {pins:List (A4×Obj)} {s:AM} {σ :St} {H:AC} {Q:A6->AM->Prop} {te:TE} (he:Ae X e te) (J:Inv X pins σ H s)(h:te σ H λx H1=>∃a C Bl B1 g,x=.ref a/\H1 a=some (.ins C Bl B1)/\J_ X.K C/\Meth X.K C m g/\B1.lookup m=none/\
    ∀s1,Inv X pins σ H1 s1->Ag (Av X.prog X.w) X.A (PC pos (.ref g) [.ref a] (Fj pos (CJ args X.env)) (LV pos (LQ [] X.env))) Q X.Cr s1)
  (Bi:BZ (.Call (.Attribute e m apos) args [] pos) X.env=(do
    let CO <-BZ e X.env
    ME apos.atName
    let(f,first) <-J3 [CO] (O0 CO m pl)
    PC pos f first (Fj pos (CJ args X.env)) (LV pos (LQ [] X.env)))) :
  Ag (Av X.prog X.w) X.A (BZ (.Call (.Attribute e m apos) args [] pos) X.env) Q X.Cr s:=by
 refine Wf (pl:=pl) (BN (he pins s σ H _ J h) λu s1⟨x,H1,Ab,At,a,C,Bl,B1,g,ex,BY,c,k,l,q⟩=>?_) Bi;subst ex;obtain rfl:u=Cj a:=At;exact Yw Ab BY c k l (q s1 Ab)
end
section
variable{X:Ao}{pins:List (A4×Obj)}{σ :St}{H:AC}{s:AM}{A:D4}{E:A6->AM->Prop}{Q:A6->AM->Prop}{c:A6}{b:Bool}
inductive La(K:Aq)(H:AC):V->A6->Prop where
 |non:La K H .non (.type "NoneType")
 |AL (x:Bool):La K H (.AL x) (.type "bool")
 |int (i:Int):La K H (.int i) (.type "int")
 |str (x:Str):La K H (.str x) (.type "str")
 |RY (x:UInt64):La K H (.RY x) (.type "float")
 |lst {a:A4} {xs:List V} (e:H a=some (.lst xs)):La K H (.ref a) (.type "list")
 |DR {a:A4} {o:Obj} {xs:List V} (e:H a=some (.DR o (.lst xs))):La K H (.ref a) (.type "list")
 |tup {a:A4} {xs:List V} (e:H a=some (.tup xs)):La K H (.ref a) (.type "tuple")
 |Aj {a:A4} {A8:List (Key×V)} (e:H a=some (.Aj A8)):La K H (.ref a) (.type "dict")
 |Ds {a:A4} {A8:List (El×V)} (e:H a=some (.Ds A8)):La K H (.ref a) (.type "dict")
 |ins {a C Bl:A4} {B1:List (Str×V)} (e:H a=some (.ins C Bl B1)) (cl:J_ K C) (AE:JT K (.ref C) "__class__"=some (some (.builtin "object.__class__")))
    (AV:PySem.W.specialIn K (.builtin "object.__class__") "__get__"=some (some (.builtin "getset_descriptor.__get__"))) (ZE:PySem.W.takesIn K (.builtin "object.__class__")=some true)
    (hm:PySem.W.mroIn K C (.type "object")=some true):La K H (.ref a) (.ref C)
def br{x:V}{u t:A6}(J:Inv X pins σ H s)(At:RelV x u)(ty:La X.K H x t)(e:XA X.K t c=some b)(h:∀CL,Q (.bool b) { s with toks:=CL }) :
  Ag (Av X.prog X.w) A (call (.builtin "isinstance") [u,c]) Q E s:=by
 cases ty with
 |non=>cases(show u=J1 from At);exact J0 qi J.F0 Ht e (λz=>nomatch z) h
 |AL y=>cases(show u=QU y from At);exact J0 qj J.F0 Ht e (λz=>nomatch z) h
 |int i=>obtain⟨t,q⟩:=(show ∃t,u=Rz i t from At);cases q;exact J0 PySem.W.kitx_int J.F0 Ht e (λz=>nomatch z) h
 |str y=>obtain⟨t,q⟩:=(show ∃t,u=S0 y t from At);cases q;exact J0 PySem.W.kitx_str J.F0 Ht e (λz=>nomatch z) h
 |RY y=>obtain⟨t,q⟩:=(show ∃t,u=ep y t from At);cases q;exact J0 PySem.W.kitx_float J.F0 Ht e (λz=>nomatch z) h
 | @lst a xs BY=>cases(show u=Cj a from At);obtain⟨_,_,n,_,h1⟩:=(show Dr X.prog X.w H s.heap a (.lst xs)from J.Aw a _ BY);exact J0 qk J.F0 ⟨_,h1,rfl⟩ e (λz=>nomatch z) h
 | @DR a BJ xs BY=>cases(show u=Cj a from At);obtain⟨_,_,_,n,_,h1⟩:=(show Dr X.prog X.w H s.heap a (.DR BJ (.lst xs))from J.Aw a _ BY);exact J0 qk J.F0 ⟨_,h1,rfl⟩ e (λz=>nomatch z) h
 | @tup a xs BY=>cases(show u=Cj a from At);obtain⟨_,_,_,p⟩:=(show Dr X.prog X.w H s.heap a (.tup xs)from J.Aw a _ BY);obtain⟨o,h1,h2,_⟩:=p;exact J0 qe J.F0 ⟨o,h1,h2⟩ e (λz=>nomatch z) h
 | @Aj a A8 BY=>cases(show u=Cj a from At);obtain⟨_,_,vs,_,p⟩:=(show Dr X.prog X.w H s.heap a (.Aj A8)from J.Aw a _ BY);obtain⟨o,es,An,h1,h2,_⟩:=p;exact J0 ql J.F0 ⟨o,h1,h2.1⟩ e (λz=>nomatch z) h
 | @Ds a A8 BY=>cases(show u=Cj a from At);obtain⟨_,_,xs,_,o,es,An,h1,h2,_⟩:=(show Dr X.prog X.w H s.heap a (.Ds A8)from J.Aw a _ BY);exact J0 ql J.F0 ⟨o,h1,h2.1⟩ e (λz=>nomatch z) h
 | @ins a C Bl B1 BY cl AE AV ZE hm=>cases(show u=Cj a from At);obtain⟨E7,O,_⟩:=YY J.Aw BY;obtain⟨Dy,BK,_⟩:=O.look;exact J0 (PySem.W.kitx_own (cl.get _) cl.hd AE AV ZE hm) J.F0 BK e (λz=>nomatch z) h
end
structure Cz(k:Nat)(A:D4):Prop where
 hd:A.handled=none
 Eb:A.depth+3*k+5<recursionLimit
 un:A.units+16*k+200<Dp
def Cz.mono{j k:Nat}{A:D4}(r:Cz k A)(h:j<=k):Cz j A:=⟨r.hd,by have:=r.Eb;lia,by have:=r.un;lia⟩
theorem Cz.deeper{k:Nat}{A:D4}(r:Cz (k+1) A)(env:Env):Cz k (A.deeper env):=
 ⟨r.hd,by have:=r.Eb;show A.depth+1+3*k+5<_;lia,by have:=r.un;show A.units+3+16*k+200<_;lia⟩
def aa7{A:D4}{C:A4}{us:List A6}{kw:List (Str×A6)}:(A.under (.builtin "type.__call__" ⟨.ref C::us,kw⟩)).depth=A.depth+1:=by
 first|rfl|simp[ek,Code.weight,Code.isCreation,Code.isGuard,Code.isCaller,Code.frames,en,guardIds]
def aa9{A:D4}{C:A4}{us:List A6}{kw:List (Str×A6)}:(A.under (.builtin "type.__call__" ⟨.ref C::us,kw⟩)).units=A.units+1:=by
 first|rfl|simp[ek,Code.cUnits,Code.frames,en]
def Cz.make{k:Nat}{A:D4}(r:Cz (k+1) A)(C:A4)(us:List A6)(kw:List (Str×A6)):Cz k (A.under (.builtin "type.__call__" ⟨.ref C::us,kw⟩)):=
 ⟨r.hd,by have:=r.Eb;rw[aa7];lia,by have:=r.un;rw[aa9];lia⟩
theorem Cz.depth{k:Nat}{A:D4}(r:Cz k A):A.depth<recursionLimit:=by have:=r.Eb;lia
theorem Cz.units{k:Nat}{A:D4}(r:Cz k A):A.units+64<Dp:=by have:=r.un;lia
def Zk:FV:=λ_ H Q=>Q [] H
def Zg(Bp:TE)(adh:FV):FV:=λσ H Q=>Bp σ H λx H1=>adh σ H1 λxs AS=>Q (x::xs) AS
section
variable{X:Ao}{e:Al}{es:List Al}{te:TE}{t:FV}{pos:Pos}
def VB:Gl X [] Zk:=λ_ _ _ _ H Q J h=>Tg ⟨[],H,J,.nil,h⟩
def Su(AE:Ae X e te)(B7:Gl X es t)(AN:CJ (e::es) X.env=(false,BZ e X.env)::CJ es X.env:=by rfl):Gl X (e::es) (Zg te t):=by intro pos pins s σ H Q J h;rw[AN];show Ag _ _ (spliced ((false,BZ e X.env)::Fj pos (CJ es X.env))) _ _ s;refine Ts (BN (AE pins s σ H _ J h) λu s1⟨x,H1,Ab,Ar,q1⟩=>?_);exact BN (B7 pos pins s1 σ H1 _ Ab q1) λus s2⟨xs,AS,BS,BD,q2⟩=>⟨x::xs,AS,BS,.cons Ar BD,q2⟩
def pf(t:FV):TE:=λσ H Q=>t σ H λxs H1=>xs.length<=CG/\∀p,H1 p=none->Q (.ref p) (upd H1 p (.tup xs))
def oA(t:FV):TE:=λσ H Q=>t σ H λxs H1=>xs.length<=CG/\∀p,H1 p=none->Q (.ref p) (upd H1 p (.lst xs))
def abz{x1}(h:Gl X es t):Ae X (.Tuple es x1 pos) (pf t):=by intro pins s σ H Q J AX;refine wpAny_Tuple_spliced (BN (h pos pins s σ H _ J AX) λus s1⟨xs,H1,Ab,r,z,q⟩=>⟨by rw[<-r.length];exact z,?_⟩);have hf:H1 s1.heap.objs.size=none:=Ab.Aw.fresh (CB _);refine⟨.ref s1.heap.objs.size,upd H1 s1.heap.objs.size (.tup xs),Ab.laid (t':=s1.toks) (λb u e=>Cw _ e) (CB _) ?_,rfl,q _ hf⟩;exact⟨z,us,r,⟨_,F_ _ rfl,rfl,_,rfl⟩⟩
def aaT(h:Gl X es t):Ae X (.List es pos) (oA t):=by intro pins s σ H Q J AX;refine wpAny_List_spliced (BN (h pos pins s σ H _ J AX) λus s1⟨xs,H1,Ab,r,z,q⟩=>⟨by rw[<-r.length];exact z,?_⟩);have hf:H1 s1.heap.objs.size=none:=Ab.Aw.fresh (CB _);refine⟨.ref s1.heap.objs.size,upd H1 s1.heap.objs.size (.lst xs),Ab.laid (t':=s1.toks) (λb u e=>Cw _ e) (CB _) ?_,rfl,q _ hf⟩;exact⟨z,us,0,r,F_ _ rfl⟩
end
abbrev Ck:=List V->AC->CK->En->Prop
abbrev LD:=List Env->AC->AM->En->A6->AM->Prop
structure Qb(P:C5)(w:Bo)(K:Aq)(mg:Str->Option A6)(base:B8)(A:D4)(outer:List Env)(s:AM)(H:AC):Prop where
 frames:A.frames=some outer
 mod:Mod K mg base
 bs:∀b o,base.get? b=some o->s.heap.get? b=some o/\H b=none
 O5:base.objs.size<=s.heap.objs.size
 Ji:s.heap.FunFrames base outer
 Pz:∀b∈Ep outer,H b=none
 Aw:Ek P w H s.heap
 bare:N8 s.gens
noncomputable def fo(outer:List Env)(P:C5)(w:Bo)(K:Aq)(H:AC)(s:AM)(Q:CK)(u:A6)(s':AM):Prop:=
 ∃v A7,s'.os=s.os/\N8 s'.gens/\Fp (Ep outer) [] H A7 s.heap s'.heap/\Ek P w A7 s'.heap/\RelV v u/\Q v A7
noncomputable def r3(CX:LD)(outer:List Env)(P:C5)(w:Bo)(K:Aq)(H:AC)(s:AM)(Q:CK)(E:En)(r:Result)(s':AM):Prop:=
 match r with
 |.ok (.ret u)=>fo outer P w K H s Q u s'
 |.ok _=>False
 |.error e=>CX outer H s E e s'
structure IH(P:C5)(w:Bo)(K:Aq)(mg:Str->Option A6)(base:B8)(CX:LD)(k:Nat)(f:A4)(fd:HX)(ps:List Str)(sp:Ck):Prop where
 len:∀vs H Q E,sp vs H Q E->vs.length=ps.length
 run:∀(A:D4)(outer:List Env)(s:AM)(H:AC)(args:Args)(us:List A6)(vs:List V)(Q:CK)(E:En),Cz k A->Qb P w K mg base A outer s H->BindsTo s fd args (ps.zip us)->Vals vs us->sp vs H Q E->
  MF (Av P w) A (.call (.ref f) args) (r3 CX outer P w K H s Q E) s
def IH.imp{P:C5}{w:Bo}{K:Aq}{mg:Str->Option A6}{base:B8}{CX:LD}{k:Nat}{f:A4}{fd:HX}{ps:List Str}{sp oG:Ck}(F:IH P w K mg base CX k f fd ps sp)(h:∀vs H Q E,oG vs H Q E->sp vs H Q E):IH P w K mg base CX k f fd ps oG:=
 ⟨λvs H Q E q=>F.len vs H Q E (h _ _ _ _ q),λA outer s H args us vs Q E B7 he A2 B_ AN=>F.run A outer s H args us vs Q E B7 he A2 B_ (h _ _ _ _ AN)⟩
def Qb.make{P:C5}{w:Bo}{K:Aq}{mg:Str->Option A6}{base:B8}{A:D4}{outer:List Env}{s:AM}{H:AC}(e:Qb P w K mg base A outer s H)(C:A4)(us:List A6)(kw:List (Str×A6)) :
  Qb P w K mg base (A.under (.builtin "type.__call__" ⟨.ref C::us,kw⟩)) outer s H:=⟨by first|exact e.frames|(simpa[ek,Code.envs,en,pushEnvs]using e.frames),e.mod,e.bs,e.O5,e.Ji,e.Pz,e.Aw,e.bare⟩
section
variable{X:Ao}{pins:List (A4×Obj)}{σ :St}{H:AC}{s s':AM}
def Inv.ah(J:Inv X pins σ H s):Qb X.prog X.w X.K X.mg X.base X.A X.stack s H:=
 ⟨J.ok.frames,J.ok.mod,J.bs,I_ J.ok.O5 J.Zb,J.stack,J.d8,J.Aw,J.bare⟩
def Inv.after{Q:CK}{u:A6}(J:Inv X pins σ H s)(h:fo X.stack X.prog X.w X.K H s Q u s'):Gj X pins σ Q u s':=by obtain⟨v,A7,os,bare,un,Aw,r,q⟩:=h;obtain⟨hh,g,d,t,dR⟩:=s';obtain rfl:dR=s.os:=os;exact⟨v,A7,J.call (h':=hh) (g':=g) (d':=d) (t':=t) (ch:=[]) un Aw bare (λb z=>absurd z (by simp)),r,q⟩
end
def oY(sp:Ck)(HF:List V)(E:En)(t:FV):TE:=λσ H Q=>t σ H λvs H1=>sp (vs++HF) H1 Q E
def Zi(C:A4)(m:Str)(sp:Ck)(HF:List V)(E:En)(Bp:TE)(t:FV):TE:=λσ H Q=>Bp σ H λx H1=>∃a Bl B1,x=.ref a/\H1 a=some (.ins C Bl B1)/\B1.lookup m=none/\
 t σ H1 λvs AS=>sp (x::(vs++HF)) AS Q E
noncomputable def oB(C:A4)(sp:Ck)(HF:List V)(E:En)(t:FV):TE:=λσ H Q=>t σ H λvs H1=>∀x Bl,H1 x=none->H1 Bl=none->Bl≠x->
 sp (.ref x::(vs++HF)) (upd (upd H1 Bl (.own x)) x (.ins C Bl [])) (λv AS=>v=.non/\Q (.ref x) AS) E
def Binds(K:Aq)(fd:HX)(ps:List Str)(ds:List A6):Prop:=
 ∀(s:AM)(us:List A6),K.In s.heap->(us++ds).length=ps.length->BindsTo s fd ⟨us,[]⟩ (ps.zip (us++ds))
def Binds.all{K:Aq}{fd:HX}{ps:List Str}(h:∀us:List A6,us.length=ps.length->bindArgs fd ⟨us,[]⟩=pure (ps.zip us)):Binds K fd ps []:=λs us _ AG=>by rw[LU]at AG |-;exact .of_eq (h us AG)
def Passes(CX:LD)(X:Ao)(E:En):Prop:=∀(pins:List (A4×Obj))(σ :St)(H:AC)(s:AM)(e:A6)(s':AM),Inv X pins σ H s->CX X.stack H s E e s'->X.Cr e s'
section
variable{X:Ao}{CX:LD}{k:Nat}{f C:A4}{fd:HX}{ps:List Str}{sp:Ck}{HF:List V}{ds:List A6}{E:En}{x m:Str}{p pos apos:Pos}{e o:Al}{es:List Al}{Bp:TE}{t:FV}
def d6{pins:List (A4×Obj)}{σ :St}{H:AC}{s:AM}{Q:CK}{us:List A6}{vs:List V}(F:IH X.prog X.w X.K X.mg X.base CX k f fd ps sp)(B7:Cz k X.A)(A2:Binds X.K fd ps ds)(hd:Vals HF ds)(AK:Passes CX X E)(J:Inv X pins σ H s)(r:Vals vs us)(h:sp (vs++HF) H Q E):Ag (Av X.prog X.w) X.A (call (.ref f) us) (Gj X pins σ Q) X.Cr s:=by
 have BD:Vals (vs++HF) (us++ds):=r.append hd;have AG:(us++ds).length=ps.length:=by rw[<-BD.length];exact F.len _ _ _ _ h
 refine wpAny_call (QN (F.run X.A X.stack s H ⟨us,[]⟩ (us++ds) (vs++HF) Q E B7 J.ah (A2 s us J.F0 AG) BD h) λr s' AX=>?_);cases r with
 |error e=>exact AK pins σ H s e s' J AX
 |ok Du=>
  cases Du with
  |ret u=>exact J.after AX
  |next=>exact HC AX
  |brk=>exact HC AX
  |cont=>exact HC AX
def aam(F:IH X.prog X.w X.K X.mg X.base CX k f fd ps sp)(B7:Cz k X.A)(Ak:EI X x)(hm:X.mg x=some (.ref f))(AO:Jz X.K (.ref f)=true)(A2:Binds X.K fd ps ds)(hd:Vals HF ds)(AK:Passes CX X E)(AE:Gl X (e::es) t)(Mq:(x==("__debug__" :Str))=false:=by decide)(he:CJ (e::es) X.env=(false,BZ e X.env)::CJ es X.env:=by rfl)(Fy:(Fj pos (CJ es X.env)).any (·.1)=false:=by rfl) :
  Ae X (.Call (.Name x p) (e::es) [] pos) (oY sp HF E t):=by
 intro pins s σ H Q J h;refine Tt (Vo J Ak hm ?_ Mq);refine We (h₀:=X.base) J.ok.mod.Oq AO (BN (AE pos pins s σ H _ J h) λus s1⟨vs,H1,Ab,r,q⟩=>⟨Ab.F0,?_⟩) he Fy;exact d6 F B7 A2 hd AK Ab r q
def aaV {pl:Sem Bool} (he:Ae X o Bp) (c:J_ X.K C) (hm:Meth X.K C m f) (F:IH X.prog X.w X.K X.mg X.base CX k f fd ps sp) (B7:Cz k X.A) (A2:Binds X.K fd ps ds) (hd:Vals HF ds) (AK:Passes CX X E) (AE:Gl X (e::es) t)(Fd:CJ (e::es) X.env=(false,BZ e X.env)::CJ es X.env:=by rfl) (Fy:(Fj pos (CJ es X.env)).any (·.1)=false:=by rfl)(Bi:BZ (.Call (.Attribute o m apos) (e::es) [] pos) X.env=(do
    let CO <-BZ o X.env
    ME apos.atName
    let(f,first) <-J3 [CO] (O0 CO m pl)
    PC pos f first (Fj pos (CJ (e::es) X.env)) (LV pos (LQ [] X.env))):=by rfl) :
  Ae X (.Call (.Attribute o m apos) (e::es) [] pos) (Zi C m sp HF E Bp t):=by
 intro pins s σ H Q J h;refine Wf (pl:=pl) (BN (he pins s σ H _ J h) λu s1⟨x,H1,Ab,At,a,Bl,B1,ex,BY,l,q⟩=>?_) Bi;subst ex;obtain rfl:u=Cj a:=At;refine Yw Ab BY c hm l ?_;refine We (first:=[.ref a]) (h₀:=X.base) J.ok.mod.Oq hm.Bc (BN (AE pos pins s1 σ H1 _ Ab q) λus s2⟨vs,AS,BS,r,q2⟩=>⟨BS.F0,?_⟩) Fd Fy;exact d6 (us:=.ref a::us) (vs:=.ref a::vs) F B7 A2 hd AK BS (.cons rfl r) q2
def aaW {pl:Sem Bool} (he:Ae X o Bp) (c:J_ X.K C) (hm:Meth X.K C m f) (F:IH X.prog X.w X.K X.mg X.base CX k f fd ps sp) (B7:Cz k X.A) (A2:Binds X.K fd ps ds) (hd:Vals HF ds) (AK:Passes CX X E)(Bi:BZ (.Call (.Attribute o m apos) [] [] pos) X.env=(do
    let CO <-BZ o X.env
    ME apos.atName
    let(f,first) <-J3 [CO] (O0 CO m pl)
    PC pos f first (Fj pos (CJ [] X.env)) (LV pos (LQ [] X.env))):=by rfl) :
  Ae X (.Call (.Attribute o m apos) [] [] pos) (Zi C m sp HF E Bp Zk):=by
 intro pins s σ H Q J h;refine Wf (pl:=pl) (BN (he pins s σ H _ J h) λu s1⟨x,H1,Ab,At,a,Bl,B1,ex,BY,l,q⟩=>?_) Bi;subst ex;obtain rfl:u=Cj a:=At;refine Yw Ab BY c hm l ?_;exact PySem.W.callWith_K0 (first:=[.ref a]) Ab.F0 hm.Bc (d6 (us:=[.ref a]) (vs:=[.ref a]) F B7 A2 hd AK Ab (.cons rfl .nil) q)
structure XK(K:Aq)(C f:A4):Prop where
 makes:eX K C=true
 init:JT K (.ref C) "__init__"=some (some (.ref f))
 fn:Tu K (.ref f)=true
 Bc:Jz K (.ref C)=true
def ack{pins:List (A4×Obj)}{σ :St}{H:AC}{s:AM}{Q:CK}{us:List A6}{vs:List V}(M:XK X.K C f)(F:IH X.prog X.w X.K X.mg X.base CX k f fd ps sp)(B7:Cz (k+1) X.A)(A2:Binds X.K fd ps ds)(hd:Vals HF ds)(AK:Passes CX X E)(J:Inv X pins σ H s)(r:Vals vs us)(h:∀x Bl,H x=none->H Bl=none->Bl≠x->sp (.ref x::(vs++HF)) (upd (upd H Bl (.own x)) x (.ins C Bl [])) (λv AS=>v=.non/\Q (.ref x) AS) E) :
  Ag (Av X.prog X.w) X.A (call (.ref C) us) (Gj X pins σ Q) X.Cr s:=by
 have AX:=h (s.heap.objs.size+1) s.heap.objs.size (J.Aw.fresh (PB _)) (J.Aw.fresh (CB _)) (Ei (QE _));have BS:=Inv.made (C:=C) J;have BD:Vals (V.ref (s.heap.objs.size+1)::(vs++HF)) (Cj (s.heap.objs.size+1)::(us++ds)):=.cons rfl (r.append hd);have AG:(Cj (s.heap.objs.size+1)::us++ds).length=ps.length:=by have e:=BD.length;rw[F.len _ _ _ _ AX]at e;exact e.symm
 refine wpAny_call (aa8 (f:=f) J.F0 M.makes M.init (beq_iff_eq.mp M.fn) (QN (F.run _ X.stack _ _ ⟨Cj (s.heap.objs.size+1)::us,[]⟩ (Cj (s.heap.objs.size+1)::(us++ds)) _ _ E (B7.make C us [])
  (BS.ah.make C us []) (A2 _ (Cj (s.heap.objs.size+1)::us) BS.F0 AG) BD AX) λr s' UE=>?_))
 cases r with
 |error e=>exact AK pins σ _ _ e s' BS UE
 |ok Du=>
  cases Du with
  |ret u=>obtain⟨v,A7,D8,C6,ev,Ee⟩:=BS.after UE;subst ev;exact⟨C6,⟨V.ref (s.heap.objs.size+1),A7,D8,rfl,Ee⟩⟩
  |next=>exact HC UE
  |brk=>exact HC UE
  |cont=>exact HC UE
def aaU(M:XK X.K C f)(F:IH X.prog X.w X.K X.mg X.base CX k f fd ps sp)(B7:Cz (k+1) X.A)(Ak:EI X x)(hm:X.mg x=some (.ref C))(A2:Binds X.K fd ps ds)(hd:Vals HF ds)(AK:Passes CX X E)(AE:Gl X (e::es) t)(Mq:(x==("__debug__" :Str))=false:=by decide)(he:CJ (e::es) X.env=(false,BZ e X.env)::CJ es X.env:=by rfl)(Fy:(Fj pos (CJ es X.env)).any (·.1)=false:=by rfl) :
  Ae X (.Call (.Name x p) (e::es) [] pos) (oB C sp HF E t):=by
 intro pins s σ H Q J h;refine Tt (Vo J Ak hm ?_ Mq);refine We (h₀:=X.base) J.ok.mod.Oq M.Bc (BN (AE pos pins s σ H _ J h) λus s1⟨vs,H1,Ab,r,q⟩=>⟨Ab.F0,?_⟩) he Fy;exact ack M F B7 A2 hd AK Ab r q
end
section
variable{X:Ao}{CX:LD}{k:Nat}{f C:A4}{fd:HX}{ps AI:List Str}{sp:Ck}{E:En}{x m:Str}{p pos apos agh:Pos}{e o:Al}{es:List Al}{agj:List O1}{te Bp:TE}{t CL:FV}{nm:Option Str}
variable{g:List A6->List A6->List A6}{ah4:List V->List V->List V}
end
structure C7(N P:List Str)(sc:F7):Prop where
 kind:sc.kind=.function
 co:sc.isCoroutine=false
 gen:sc.isGenerator=false
 C1:N.Nodup
 pre:N.take P.length=P
 par:∀x∈P,sc.names.lookup x=some .local\/sc.names.lookup x=some .cell
 zp:∀y∈sc.names,y.2≠.free
theorem hY{K1:Str->Option Kd}{x:Str}:∀{binds:List (Str×A6)}{m:Str->Option A6},(∀v,(x,v)∉binds)->bindL K1 binds m x=m x
 |[],_,_=>rfl
 |(n,v)::r,m,h=>by
  unfold bindL;rw[hY λw hw=>h w (GF _ hw)]
  split
  .have:x≠n:=by rintro rfl;exact h v Gq
   simp[this]
  .rfl
theorem hW{K1:Str->Option Kd}{x:Str}:∀{binds:List (Str×A6)}{m:Str->Option A6},(∀v,(x,v)∉binds)->bindC K1 binds m x=m x
 |[],_,_=>rfl
 |(n,v)::r,m,h=>by
  unfold bindC;rw[hW λw hw=>h w (GF _ hw)]
  split
  .rfl
  .have:x≠n:=by rintro rfl;exact h v Gq
   simp[this]
theorem hX{K1:Str->Option Kd}{x:Str}{v:A6}:∀{P:List Str}{vs:List A6}{i:Nat}{m:Str->Option A6},P.Nodup->P[i]?=some x->vs[i]?=some v->K1 x=some .local->
  bindL K1 (P.zip vs) m x=some v
 |[],_,_,_,_,h,_,_=>by simp at h
 |_::_,[],_,_,_,_,h,_=>by simp at h
 |p::P,w::vs,0,m,C1,h1,h2,AO=>by simp at h1 h2;subst h1;subst h2;show bindL K1 ((p,w)::P.zip vs) m p=_;unfold bindL;rw[hY λv B_=>(List.nodup_cons.mp C1).1 (eY B_).1,if_pos AO];simp
 |p::P,w::vs,i+1,m,C1,h1,h2,AO=>by show bindL K1 ((p,w)::P.zip vs) m x=_;unfold bindL;exact hX (i:=i) (List.nodup_cons.mp C1).2 (by simpa using h1) (by simpa using h2) AO
theorem hV{K1:Str->Option Kd}{x:Str}{v:A6}:∀{P:List Str}{vs:List A6}{i:Nat}{m:Str->Option A6},P.Nodup->P[i]?=some x->vs[i]?=some v->K1 x≠some .local->
  bindC K1 (P.zip vs) m x=some v
 |[],_,_,_,_,h,_,_=>by simp at h
 |_::_,[],_,_,_,_,h,_=>by simp at h
 |p::P,w::vs,0,m,C1,h1,h2,AO=>by simp at h1 h2;subst h1;subst h2;show bindC K1 ((p,w)::P.zip vs) m p=_;unfold bindC;rw[hW λv B_=>(List.nodup_cons.mp C1).1 (eY B_).1,if_neg AO];simp
 |p::P,w::vs,i+1,m,C1,h1,h2,AO=>by show bindC K1 ((p,w)::P.zip vs) m x=_;unfold bindC;exact hV (i:=i) (List.nodup_cons.mp C1).2 (by simpa using h1) (by simpa using h2) AO
def start(N:List Str)(vs:List V):St:=vs.map some++Fu (N.length-vs.length) none
noncomputable def KB(CX:LD)(P:C5)(w:Bo)(K:Aq)(mg:Str->Option A6)(base:B8)(N:List Str)(qual:Str)(scope:F7)(f:A4)(cd:A6)(A:D4)(outer:List Env)(s:AM)(H:AC)(E:En):Ao where
 prog:=P
 w:=w
 K:=K
 mg:=mg
 base:=base
 A:=A.deeper (O2 qual scope s.heap.objs.size f cd)
 N:=N
 Fz:=s
 M3:=H
 env:=O2 qual scope s.heap.objs.size f cd
 outer:=outer
 stack:=O2 qual scope s.heap.objs.size f cd::outer
 ex:=[]
 calm:=true
 fn:=λ_=>true
 Cd:=[]
 Cr:=λe s'=>Ag (Av P w) (A.deeper (O2 qual scope s.heap.objs.size f cd)) (leaving (O2 qual scope s.heap.objs.size f cd) e) (λ_ Jr=>CX outer H s E e Jr) (λBX Jr=>CX outer H s E BX Jr) s'
def bF{sc:F7}{n:Nat}{x:Str}(h:sc.names.lookup x=some .cell):∃c,(Hs n sc.names []).lookup x=some c:=by have q:=qT sc.names n [] (.inl h);exact Option.isSome_iff_exists.mp q
def yE{CX:LD}{P:C5}{w:Bo}{K:Aq}{mg:Str->Option A6}{base:B8}{N ps:List Str}{qual:Str}{scope:F7}{f:A4}{cd:A6}{A:D4}{outer:List Env}{s s1:AM}{H:AC}{E:En}{us:List A6}{vs:List V}(S:C7 N ps scope)(hd:A.handled=none)(FC:Qb P w K mg base A outer s H)(AG:vs.length=ps.length)(r:Vals vs us)(x:InCallC s s.heap.objs.size (bindL (O2 qual scope s.heap.objs.size f cd).kindOf (ps.zip us) λ_=>none) (Hs (s.heap.objs.size+1) scope.names []) (bindC (O2 qual scope s.heap.objs.size f cd).kindOf (ps.zip us) λ_=>none) s1) :
  Inv (KB CX P w K mg base N qual scope f cd A outer s H E) [] (start N vs) H s1:=by
 have Fy:ps.length<=N.length:=by have:=congrArg U5 S.pre;rw[LR]at this;lia
 obtain⟨h1,CL,rfl,AO⟩:=x.done;have V3:∀b:A4,b∉(KB CX P w K mg base N qual scope f cd A outer s H E).ex:=λb z=>absurd (show b∈([]:List A4)from z) (by simp)
 refine⟨⟨FC.mod,S.kind,rfl,rfl,CB _,λy z c h1 h2=>?_,λy AP=>?_,λy c _ h=>?_,λ_=>hd,Around.frames_deeper FC.frames,.inr ⟨rfl,rfl⟩,λb z=>absurd z (V3 b),FC.bs,FC.O5,λb _ _=>V3 b,λb z=>absurd z (V3 b),FC.Ji,FC.Pz⟩,
  rfl,FC.bare,Fp.kept AO,⟨_,x.toInCall.ns,λi y v h1 h2 BH=>?_⟩,λy c h=>⟨_,x.cell y c h⟩,FC.Aw.fresh (CB _),λy c h=>?_,λp AT=>absurd (show p∈([]:List (A4×Obj))from AT) (by simp),FC.Aw.kept AO,?_⟩
 .exact name_of_addr x.apart (N2 h1) (N2 h2)
 .have AP:scope.names.lookup y=some .cell\/scope.names.lookup y=some .free:=AP;rcases AP with AP|AP
  .exact bF AP
  .exact absurd rfl (S.zp _ (N2 AP))
 .exact QM (x.above y c (N2 h))
 .have AB:i<vs.length:=by
    unfold start at h2;by_cases AB:i<vs.length
    .exact AB
    .rw[N1 (by simpa using AB)]at h2;rw[Wn]at h2
     split at h2<;>cases h2
  have AE:vs[i]?=some v:=by
   unfold start at h2;rw[Gs (by simpa using AB),Ed]at h2;cases e:vs[i]? with
   |none=>rw[e]at h2;cases h2
   |some a=>rw[e]at h2;cases h2;rfl
  obtain⟨u,BI,C6⟩:=r.get AE;have AT:ps[i]?=some y:=by rw[<-S.pre,List.getElem?_take_of_lt (by lia)];exact h1
  have k4:ps.Nodup:=by rw[<-S.pre];exact S.C1.sublist (List.take_sublist _ _)
  refine⟨u,C6,?_⟩;rcases S.par y (LM AT)with k|k
  .exact .inl ⟨k,hX k4 AT BI k⟩
  .obtain⟨c,e⟩:=bF (n:=s.heap.objs.size+1) k;refine .inr ⟨.inl k,c,e,?_⟩;have q:=x.cell y c e;rw[hV k4 AT BI (by show scope.names.lookup y≠_;rw[k];decide)]at q;exact q
 .exact FC.Aw.fresh (QM (x.above y c (N2 h)))
 .unfold start;show _=N.length;rw[Ej,CS,Td];lia
def hu {CX:LD} {P:C5} {w:Bo} {K:Aq} {mg:Str->Option A6} {base:B8} {k:Nat} {f:A4} {name qual:Str} {params:Arguments} {body:List BC} {scope:F7} {Y2 Cm doc pm FJ DA GD:A6} {an Dy:Option A4}{OU:Array (Option A6)} {N ps:List Str} {sp:Ck} (lk:K.lookup f=some ⟨GD,Dy,.func (K0 name qual params body scope Y2 Cm doc pm an FJ DA),OU⟩) (L0:N4 K FJ qual=true) (S:C7 N ps scope)(len:∀vs H Q E,sp vs H Q E->vs.length=ps.length)(c3:∀(A:D4)(outer:List Env)(s:AM)(H:AC)(vs:List V)(Q:CK)(E:En),Cz k (A.deeper (O2 qual scope s.heap.objs.size f FJ))->sp vs H Q E->
    ∃t,Gw (KB CX P w K mg base N qual scope f FJ A outer s H E) body t/\t { AR:=λ_ A7=>Q .non A7,EA:=Q } (start N vs) H) :
  IH P w K mg base CX (k+1) f (K0 name qual params body scope Y2 Cm doc pm an FJ DA) ps sp:=by
 refine⟨len,λA outer s H args us vs Q E B7 FC A2 r Lh=>?_⟩;have AG:=len _ _ _ _ Lh;have Hy:K.In s.heap:=FC.mod.Oq.keeps λb o e=>(FC.bs b o e).1;have lim:s.heap.NoLimit:=FC.mod.nolimit.keeps λb o e=>(FC.bs b o e).1;have w1:∀y∈ps.zip us,scope.names.lookup y.1=some .local\/(scope.names.lookup y.1=some .cell/\((Hs (s.heap.objs.size+1) scope.names []).lookup y.1).isSome=true):=λ⟨n,v⟩ AP=>by
  rcases S.par n (eY AP).1 with q|q
  .exact .inl q
  .exact .inr ⟨q,qT _ _ _ (.inl q)⟩
 refine codeAny_call_function B7.depth (Hy _ _ lk) rfl S.co S.gen rfl (PySem.W.codeRec_of Hy L0) (A2 _ _ _ _ ?_);refine wpAny_newFunctionEnv_cells S.kind w1 λenv he s1 x=>?_;subst he;refine⟨lim.keeps x.toInCall.keep,codeAny_func ?_⟩;obtain⟨t,Bi,AX⟩:=c3 A outer s H vs Q E (B7.deeper _) Lh;have J:Inv (KB CX P w K mg base N qual scope f FJ A outer s H E) [] (start N vs) H s1:=yE S B7.hd FC AG r x;refine HB (Bi [] s1 (start N vs) H _ J AX) (λDu s' AN=>?_) λe s' AN=>AN;have fin:∀{σ' :St}{A7:AC}{v:V}{u:A6},Inv (KB CX P w K mg base N qual scope f FJ A outer s H E) [] σ' A7 s'->RelV v u->Q v A7->fo outer P w K H s Q u s':=
  λ{σ' A7 v u} BK C6 q=>⟨v,A7,BK.os,BK.bare,BK.base,BK.Aw,C6,q⟩
 cases Du with
 |ret u=>obtain⟨v,σ',A7,BK,C6,q⟩:=AN;exact fin BK C6 q
 |next=>obtain⟨σ',A7,BK,q⟩:=AN;exact fin (v:=V.non) (u:=J1) BK rfl q
 |brk=>obtain⟨_,_,_,q⟩:=AN;exact HC q
 |cont=>obtain⟨_,_,_,q⟩:=AN;exact HC q
section
variable{X:Ao}{x:Str}{p pos:Pos}{e:Al}{es:List Al}{t:FV}{id T:String}{r:List V->AC->CK->Prop}
def WR(r:List V->AC->CK->Prop)(t:FV):TE:=λσ H Q=>t σ H λvs H1=>r vs H1 Q
def Vb(AH:J5 X (.builtin id) r)(Ak:EI X x)(hm:X.mg x=none)(B_:Ny x=some (.builtin id))(AE:Gl X (e::es) t)(AV:x≠"__name__":=by decide)(Mq:(x==("__debug__" :Str))=false:=by decide)(he:CJ (e::es) X.env=(false,BZ e X.env)::CJ es X.env:=by rfl)(Fy:(Fj pos (CJ es X.env)).any (·.1)=false:=by rfl):Ae X (.Call (.Name x p) (e::es) [] pos) (WR r t):=by intro pins s σ H Q J h;refine Tt (Ot J Ak hm B_ ?_ AV Mq);exact PyProof.Rows.callWith_builtin1 (BN (AE pos pins s σ H _ J h) λus s1⟨vs,H1,Ab,Ar,q1⟩=>AH pins s1 σ H1 vs us Q Ab Ar q1) he Fy
def WC(AH:J5 X (.type T) r)(Ak:EI X x)(hm:X.mg x=none)(B_:Ny x=some (.type T))(AE:Gl X (e::es) t)(AV:x≠"__name__":=by decide)(Mq:(x==("__debug__" :Str))=false:=by decide)(he:CJ (e::es) X.env=(false,BZ e X.env)::CJ es X.env:=by rfl)(Fy:(Fj pos (CJ es X.env)).any (·.1)=false:=by rfl):Ae X (.Call (.Name x p) (e::es) [] pos) (WR r t):=by intro pins s σ H Q J h;refine Tt (Ot J Ak hm B_ ?_ AV Mq);exact QD (BN (AE pos pins s σ H _ J h) λus s1⟨vs,H1,Ab,Ar,q1⟩=>AH pins s1 σ H1 vs us Q Ab Ar q1) he Fy
end
end B6
namespace Dz
open PySem PyProof.Rows
section
open PySem.SeqAt
open PySem.AutoSeq1 (wpAny_loadPart')
open PySem.MeetsSeq PySem.MeetsSeq2 PySem.MeetsSeq3
end
section
variable{prog:C5}{w:Bo}{A:D4}{E:A6->AM->Prop}{s:AM}
def sT{t b:A4}{vs ws:List A6}{Q:A6->AM->Prop}(Bi:IsTup s.heap t vs.toArray)(A2:IsTup s.heap b ws.toArray)(B_:vs≠[])(h1:ws=[]->Q (.ref t) s)(h2:ws≠[]->Q (.ref s.heap.objs.size) { s with heap:=s.heap.push { cls:=.type "tuple",data:=.seq (vs++ws).toArray } })(hsz:vs.length+ws.length<=CG):Ag (Av prog w) A (JZ .Add (.ref t) (.ref b)) Q E s:=by
 obtain⟨⟨cls,dd,data,Bn⟩,ho,AH,n,hd⟩:=id Bi;obtain⟨⟨agv,Y3,data2,Pm⟩,Z8,hp,Dx,hd2⟩:=id A2;simp only at AH hd hp hd2;subst AH hd hp hd2;have e:vs.toArray++ws.toArray=(vs++ws).toArray:=by simp
 by_cases hw:ws=[]
 .exact concat_meets ⟨_,ho,rfl⟩ ⟨_,Z8,rfl⟩ noFill_tuple_add seq_tuple_add qU qP (q_ _ _)
    (tuple_addW1 t b vs.toArray ws.toArray n Dx dd Y3 Bn Pm (by simpa using B_) (by simp[hw])) ⟨ho,Z8,h1 hw⟩
 .refine concat_meets ⟨_,ho,rfl⟩ ⟨_,Z8,rfl⟩ noFill_tuple_add seq_tuple_add qU qP (q_ _ _)
    (tuple_addW2 t b vs.toArray ws.toArray n Dx dd Y3 Bn Pm (by simpa using B_) (by simpa using hw) (by rw[DX,DX];exact hsz)) ⟨ho,Z8,?_⟩
  rw[e];exact h2 hw
def CV(n d:Nat):Option Int->Nat
 |none=>d
 |some v=>if v<0 then(v+(n:Int)).toNat else min v.toNat n
def ZT(n d:Nat):CV n d none=d:=rfl
def Sz(n d k:Nat):CV n d (some (k:Int))=min k n:=by show(if(k:Int)<0 then((k:Int)+(n:Int)).toNat else min (k:Int).toNat n)=min k n;rw[if_neg (by lia),QK]
def acn(n d:Nat)(hd:d<=n)(o:Option Int):CV n d o<=n:=by
 cases o with
 |none=>exact hd
 |some v=>
  show(if v<0 then(v+(n:Int)).toNat else min v.toNat n)<=n;by_cases B_:v<0
  .rw[if_pos B_];lia
  .rw[if_neg B_];exact Nat.min_le_right _ _
def gu(v:Int)(n d:Nat):(if v<0 then max (v+(n:Int)) 0 else min v (n:Int))=((CV n d (some v):Nat):Int):=by
 show(if v<0 then max (v+(n:Int)) 0 else min v (n:Int))=(((if v<0 then(v+(n:Int)).toNat else min v.toNat n):Nat):Int);by_cases B_:v<0
 .simp only[if_pos B_];lia
 .simp only[if_neg B_];lia
def sG(lo AB:Option Int)(n:Nat):e5 lo AB 1 (n:Int)=(((CV n 0 lo:Nat):Int),((CV n n AB:Nat):Int)):=by
 have h1:¬((1:Int)<0):=by lia
 unfold e5;simp only[h1,if_false];refine Prod.ext ?_ ?_
 .cases lo with
  |none=>rfl
  |some v=>exact gu v n 0
 .cases AB with
  |none=>rfl
  |some v=>exact gu v n n
def acI(i j:Nat):Wj (i:Int) (j:Int) 1=j-i:=by
 unfold Wj;have h1:(1:Int)>0:=by lia
 simp only[h1,if_true,Int.ediv_one]
 split<;>lia
def p8{v:A6}{o:Option Int}{Q:Option Int->AM->Prop}(p:IsPart v o)(h:Q o s):Ag (Av prog w) A (Builtin.Slice.slicePartIndex v) Q E s:=by
 cases p with
 |none=>exact slicePart_none h
 |int i t=>exact slicePart_int h
def acT{Bn:A4}{DW Hu:A6}{lo AB:Option Int}{n:Nat}{Q:Int×Int×Nat->AM->Prop}(AN:s.heap.IsSliceOf Bn DW Hu .none)(pl:IsPart DW lo)(pu:IsPart Hu AB)(h:Q (((CV n 0 lo:Nat):Int),1,CV n n AB-CV n 0 lo) s):Ag (Av prog w) A (q9 (.ref Bn) (pure (n:Int))) Q E s:=by obtain⟨os,Qu,hs,Z0⟩:=id AN;unfold q9 Builtin.Slice.sliceFields;refine AU (AU (JY Qu Z0 (x:=DW) rfl (AU (JY Qu Z0 (x:=Hu) rfl (AU (JY Qu Z0 (x:=.none) rfl (BP ?_)))))));refine AU (slicePart_none ?_);show Ag _ _ (if((1:Int)==0)=true then _ else _) _ _ s;rw[if_neg (by decide)];refine AU (p8 pl (AU (p8 pu (AU (BP ?_)))));show Ag _ _ (match e5 lo AB 1 (n:Int)with|(lo,AB)=>pure (lo,(1:Int),Wj lo AB 1)) _ _ s;rw[sG lo AB n];show Ag _ _ (pure (((CV n 0 lo:Nat):Int),(1:Int),Wj ((CV n 0 lo:Nat):Int) ((CV n n AB:Nat):Int) 1)) _ _ s;rw[acI];exact BP h
def acH(xs:Array A6)(i k:Nat):((CW k).filterMap λ(m:Nat)=>xs[((i:Int)+(m:Int)*1).toNat]?).toArray=((xs.toList.drop i).take k).toArray:=by
 have e:(λ(m:Nat)=>xs[((i:Int)+(m:Int)*1).toNat]?)=λm=>xs[i+m]?:=by
  funext m
  have:((i:Int)+(m:Int)*1).toNat=i+m:=by lia
  rw[this]
 rw[e];have:=pick_run xs i k;rw[List.filterMap_map]at this;have AF:((λx=>xs[x]?)∘λx=>i+x)=λm=>xs[i+m]?:=rfl;rw[AF]at this;rw[this]
def w8{t Bn:A4}{items:Array A6}{DW Hu:A6}{lo AB:Option Int}{Q:A6->AM->Prop}(Bi:IsTup s.heap t items)(AN:s.heap.IsSliceOf Bn DW Hu .none)(pl:IsPart DW lo)(pu:IsPart Hu AB)(hw:¬(CV items.size 0 lo=0/\CV items.size items.size AB=items.size))(h:Q (.ref s.heap.objs.size) { s with heap:=s.heap.push { cls:=.type "tuple",data:=.seq ((items.toList.drop (CV items.size 0 lo)).take (CV items.size items.size AB-CV items.size 0 lo)).toArray } })(hsz:items.size<=CG):Ag (Av prog w) A (PE (.ref t) (.ref Bn)) Q E s:=by
 have ZD:sizeOk (.seq ((items.toList.drop (CV items.size 0 lo)).take (CV items.size items.size AB-CV items.size 0 lo)).toArray):=by show((items.toList.drop (CV items.size 0 lo)).take (CV items.size items.size AB-CV items.size 0 lo)).toArray.size<=CG;rw[DX,LR,Wr,QH];lia
 have Ap:CV items.size items.size AB<=items.size:=acn _ _ (CB _) AB;obtain⟨os,Qu,hs,Z0⟩:=id AN;have wM:s.TypeIs (.ref Bn) "slice":=⟨os,Qu,hs⟩;unfold PE
 try with_reducible refine M9 ?_
 first|refine AU (BP ?_)|skip
 refine AU (wpAny_sequenceKey Bi.typeIs (by decide) ?_)
 refine AU (QL (name:=QO "__getitem__") Bi.typeIs qH
  (Nu qH Bi.typeIs entry_tuple_getitem ?_ (args_tuple_getitem _ _)))
 show Ag _ _ (Builtin.Tuple.tupleItemsOf (.ref t)>>=_) _ _ s;refine AU (tupleItemsOf_ Bi ?_);refine AU (X3 wM ?_);rw[if_pos (by decide)];refine AU (acT AN pl pu ?_);have vZ:¬((((CV items.size 0 lo:Nat):Int)==0&&(1:Int)==1&&(CV items.size items.size AB-CV items.size 0 lo)==items.size)=true):=by intro q;rw[Hr,Hr]at q;have q1:((CV items.size 0 lo:Nat):Int)=0:=eq_of_beq q.1.1;have q2:CV items.size items.size AB-CV items.size 0 lo=items.size:=eq_of_beq q.2;exact hw ⟨by lia,by lia⟩
 show Ag _ _ (if(((CV items.size 0 lo:Nat):Int)==0&&(1:Int)==1&&(CV items.size items.size AB-CV items.size 0 lo)==items.size)=true then _ else _) _ _ s;rw[if_neg vZ,acH]
 first
  |exact AU (m:=Wk _) (LK (BP ⟨_,rfl,BP h⟩) ZD)
  |exact AU (m:=Wk _) (LK (AU (BP (BP ⟨_,rfl,BP h⟩))) ZD)
  |exact AU (AU (m:=Wk _) (LK (BP (BP ⟨_,rfl,BP h⟩)) ZD))
  |exact AU (AU (m:=Wk _) (LK (BP ⟨_,rfl,BP h⟩) ZD))
end
end Dz
namespace B6
open PySem PySem.Spec PyProof.Rows
abbrev Bz:=St->AC->(Option Int->AC->Prop)->Prop
noncomputable def Up(X:Ao)(e:Option Al)(t:Bz):Prop:=
 ∀(pins:List (A4×Obj))(s:AM)(σ :St)(H:AC)(Q:Option Int->AC->Prop),Inv X pins σ H s->t σ H Q->
  Ag (Av X.prog X.w) X.A (evalPart e X.env) (λu s'=>∃o A7,Inv X pins σ A7 s'/\IsPart u o/\Q o A7) X.Cr s
def oD:Bz:=λ_ H Q=>Q none H
def pZ(t:TE):Bz:=λσ H Q=>t σ H λx H1=>∃i,x=.int i/\Q (some i) H1
section
variable{X:Ao}{e:Al}{te:TE}{lo AB:Option Al}{Im Zm:Bz}{pos Ct:Pos}
def abY:Up X none oD:=by intro pins s σ H Q J h;rw[evalPart_none];exact BP ⟨none,H,J,.none,h⟩
def abZ(h:Ae X e te):Up X (some e) (pZ te):=by intro pins s σ H Q J hw;rw[evalPart_some];refine BN (h pins s σ H _ J hw) λu s1⟨x,H1,Ab,Ar,q1⟩=>?_;obtain⟨i,rfl,q⟩:=q1;obtain⟨t,rfl⟩:=Ar;exact⟨some i,H1,Ab,.int i t,q⟩
noncomputable def RJ(X:Ao)(r:V->Option Int->Option Int->AC->CK->Prop):Prop:=
 ∀(pins:List (A4×Obj))(s:AM)(σ :St)(H:AC)(x:V)(v DW Hu:A6)(lo AB:Option Int)(Bn:A4)(Q:CK),Inv X pins σ H s->RelV x v->s.heap.IsSliceOf Bn DW Hu .none->IsPart DW lo->IsPart Hu AB->r x lo AB H Q->
  ∃T id,typeLookup (.type T) "__getitem__"=pure (some (.builtin id))/\s.TypeIs v T/\Ag (Av X.prog X.w) X.A (PE v (.ref Bn)) (Gj X pins σ Q) X.Cr s
def RJ.or{r BW:V->Option Int->Option Int->AC->CK->Prop}(h:RJ X r)(h':RJ X BW):RJ X (λx lo AB H Q=>r x lo AB H Q\/BW x lo AB H Q):=by
 intro pins s σ H x v DW Hu lo AB Bn Q J At AN pl pu q;rcases q with q|q
 .exact h pins s σ H x v DW Hu lo AB Bn Q J At AN pl pu q
 .exact h' pins s σ H x v DW Hu lo AB Bn Q J At AN pl pu q
def pd(r:V->Option Int->Option Int->AC->CK->Prop)(te:TE)(Im Zm:Bz):TE:=λσ H Q=>te σ H λx H1=>Im σ H1 λl AS=>Zm σ AS λu Bx=>r x l u Bx Q
def abx{r:V->Option Int->Option Int->AC->CK->Prop}(B7:RJ X r)(he:Ae X e te)(AG:Up X lo Im)(BI:Up X AB Zm):Ae X (.Subscript e (.Slice lo AB none Ct) pos) (pd r te Im Zm):=by intro pins s σ H Q J h;refine Subscript_ (BN (he pins s σ H _ J h) λv s1⟨x,H1,Ab,Ar,q1⟩=>?_);refine wpAny_Slice (BN (AG pins s1 σ H1 _ Ab q1) λDW s2⟨l,AS,BS,pl,q2⟩=>BN (BI pins s2 σ AS _ BS q2) λHu s3⟨u,Bx,D8,pu,Ee⟩=>?_);rw[evalPart_none];refine BP ?_;have M4:Inv X pins σ Bx { s3 with heap:=s3.heap.push { cls:=.type "slice",data:=.fields #[DW,Hu,.none] } }:=D8.kept (t':=s3.toks) λb BJ q=>Cw _ q;obtain⟨T,id,ET,Bi,Ak⟩:=B7 pins { s3 with heap:=s3.heap.push { cls:=.type "slice",data:=.fields #[DW,Hu,.none] } } σ Bx x v DW Hu l u s3.heap.objs.size Q M4 Ar (Heap.IsSliceOf.new ..) pl pu Ee;show Ag (Av X.prog X.w) X.A (subscriptTail e (.Slice lo AB none Ct) v (.ref s3.heap.objs.size)) (Gj X pins σ Q) X.Cr { s3 with heap:=s3.heap.push { cls:=.type "slice",data:=.fields #[DW,Hu,.none] } };exact tail_any (ops:=[.ref s3.heap.objs.size,v]) Bi ET Ak (by with_unfolding_all rfl)
def PM(xs:List V)(lo AB:Option Int):List V:=(xs.drop (Dz.CV xs.length 0 lo)).take (Dz.CV xs.length xs.length AB-Dz.CV xs.length 0 lo)
def h6(xs:List V)(lo AB:Option Int):(PM xs lo AB).length<=xs.length:=by unfold PM;rw[LR,Wr];lia
noncomputable def ko(K:Aq):V->Option Int->Option Int->AC->CK->Prop:=λx lo AB H Q=>∃a xs,x=.ref a/\Ea K H a xs/\
 ¬(Dz.CV xs.length 0 lo=0/\Dz.CV xs.length xs.length AB=xs.length)/\∀p,H p=none->Q (.ref p) (upd H p (.tup (PM xs lo AB)))
def acS:RJ X (ko X.K):=by
 intro pins s σ H x v DW Hu lo AB Bn Q J At AN pl pu h;obtain⟨a,xs,rfl,AK,hw,q⟩:=h;cases At;obtain⟨its,r,Bi,hz⟩:=J.tuple AK;have hlen:its.toArray.size=xs.length:=by rw[DX];exact r.length.symm
 refine⟨"tuple",_,PyProof.Rows.slot_tuple_getitem.lookup,Bi.typeIs,?_⟩;refine Dz.w8 Bi AN pl pu (by rw[hlen];exact hw) ?_ (by rw[hlen];exact hz);rw[hlen];refine⟨.ref s.heap.objs.size,_,J.laid (t':=s.toks) (o:=.tup (PM xs lo AB)) (λb BJ q=>Cw _ q) (CB _) ?_,rfl,q _ (J.Aw.fresh (CB _))⟩;exact⟨I_ (h6 xs lo AB) hz,_,(r.drop (Dz.CV xs.length 0 lo)).take (Dz.CV xs.length xs.length AB-Dz.CV xs.length 0 lo),IsTup.new _ _⟩
noncomputable def lA(K:Aq):FA:=λx y H Q=>∃a b xs ys,x=.ref a/\y=.ref b/\Ea K H a xs/\Ea K H b ys/\xs≠[]/\xs.length+ys.length<=CG/\
 (ys=[]->Q (.ref a) H)/\(ys≠[]->∀p,H p=none->Q (.ref p) (upd H p (.tup (xs++ys))))
def Vals.dJ{xs:List V}{us:List A6}(r:Vals xs us):us=[]↔xs=[]:=by
 cases r with
 |nil=>simp
 |cons _ _=>simp
def abJ:Dg X (JZ .Add) (lA X.K):=by intro pins s σ H x y v u Q J At Bf h;obtain⟨a,b,xs,ys,rfl,rfl,AE,A2,AK,hz,q1,q2⟩:=h;cases At;cases Bf;obtain⟨its,Ar,E3,_⟩:=J.tuple AE;obtain⟨Go,BD,Ct,_⟩:=J.tuple A2;refine Dz.sT E3 Ct (λz=>AK (Ar.dJ.mp z)) (λz=>⟨.ref a,H,J,rfl,q1 (BD.dJ.mp z)⟩) (λz=>?_) (by rw[<-Ar.length,<-BD.length];exact hz);refine⟨.ref s.heap.objs.size,_,J.laid (t':=s.toks) (o:=.tup (xs++ys)) (λb BJ q=>Cw _ q) (CB _) ?_,rfl,q2 (λw=>z (BD.dJ.mpr w)) _ (J.Aw.fresh (CB _))⟩;exact⟨by rw[Ej];exact hz,_,Ar.append BD,IsTup.new _ _⟩
end
def Lk(n:Nat)(i:Int):Option Nat:=if 0<=i then(if i<n then some i.toNat else none)else if-(n:Int)<=i then some (i+n).toNat else none
def J8{α:Type}(xs:List α)(i:Int):Option α:=(Lk xs.length i).bind λj=>xs[j]?
def j7{n:Nat}{i:Int}{j:Nat}(h:Lk n i=some j):Ry i n=some j/\j<n/\-(n:Int)<=i/\i<n:=by
 unfold Lk at h;by_cases h0:0<=i
 .rw[if_pos h0]at h;by_cases h1:i<n
  .rw[if_pos h1]at h;have e:i.toNat=j:=GU h;exact⟨by rw[seqIndex_of h0 h1,e],by lia,by lia,h1⟩
  .rw[if_neg h1]at h;cases h
 .rw[if_neg h0]at h;by_cases h1: -(n:Int)<=i
  .rw[if_pos h1]at h;have e:(i+n).toNat=j:=GU h;exact⟨by rw[seqIndex_neg (by lia) h1,e],by lia,h1,by lia⟩
  .rw[if_neg h1]at h;cases h
def fa{α:Type}{xs:List α}{i:Int}{v:α}(h:J8 xs i=some v):∃j,Ry i xs.length=some j/\xs[j]?=some v/\j<xs.length/\-(xs.length:Int)<=i/\i<xs.length:=by
 unfold J8 at h;cases e:Lk xs.length i with
 |none=>rw[e]at h;cases h
 |some j=>rw[e]at h;obtain⟨h1,h2,BH,Cs⟩:=j7 e;exact⟨j,h1,h,h2,BH,Cs⟩
def fP(b:Al):Prop:=∀o i,XH b false o i=operate [o,i] (PE o i)
noncomputable def NK(X:Ao)(r:FA):Prop:=
 ∀(value slice:Al)(pins:List (A4×Obj))(s:AM)(σ :St)(H:AC)(x y:V)(v u:A6)(Q:CK),Inv X pins σ H s->RelV x v->RelV y u->r x y H Q->
  XH slice false v u=operate [v,u] (PE v u)->Ag (Av X.prog X.w) X.A (subscriptTail value slice v u) (Gj X pins σ Q) X.Cr s
noncomputable def PU(X:Ao)(id:String)(r:V->List V->AC->CK->Prop):Prop:=
 ∀(pins:List (A4×Obj))(s:AM)(σ :St)(H:AC)(x:V)(xs:List V)(v:A6)(us:List A6)(Q:CK),Inv X pins σ H s->RelV x v->Vals xs us->r x xs H Q->
  Ag (Av X.prog X.w) X.A (call (.builtin id) (v::us)) (Gj X pins σ Q) X.Cr s
section
variable{X:Ao}{a b:Al}{Bp tb:TE}{pos:Pos}
def NK.or{r BW:FA}(h:NK X r)(h':NK X BW):NK X (λx y H Q=>r x y H Q\/BW x y H Q):=by
 intro value slice pins s σ H x y v u Q J At Bf q AN;rcases q with q|q
 .exact h value slice pins s σ H x y v u Q J At Bf q AN
 .exact h' value slice pins s σ H x y v u Q J At Bf q AN
def PU.or{id:String}{r BW:V->List V->AC->CK->Prop}(h:PU X id r)(h':PU X id BW):PU X id (λx xs H Q=>r x xs H Q\/BW x xs H Q):=by
 intro pins s σ H x xs v us Q J At rs q;rcases q with q|q
 .exact h pins s σ H x xs v us Q J At rs q
 .exact h' pins s σ H x xs v us Q J At rs q
def aaR{r:FA}(B7:NK X r)(AE:Ae X a Bp)(A2:Ae X b tb)(AN:fP b):Ae X (.Subscript a b pos) (T6 r Bp tb):=by intro pins s σ H Q J h;exact Subscript_ (bC AE A2 J h λv u s2 x y AS BS At Bf q=>B7 a b pins s2 σ AS x y v u Q BS At Bf q (AN _ _))
def lE(K:Aq):FA:=λx y H Q=>∃p xs i v,x=.ref p/\y=.int i/\E_ K H p xs/\J8 xs i=some v/\Q v H
def lG(K:Aq):FA:=λx y H Q=>∃p xs i v,x=.ref p/\y=.int i/\Ea K H p xs/\J8 xs i=some v/\Q v H
def lF:FA:=λx y H Q=>∃z i c,x=.str z/\y=.int i/\z.length<=CG/\J8 z.cps.toList i=some c/\Q (.str ⟨#[c]⟩) H
def xg:NK X (lE X.K):=by
 intro value slice pins s σ H x y v u Q J At Bf h AN;obtain⟨p,xs,i,z,rfl,rfl,AX,he,q⟩:=h;cases At;obtain⟨t,rfl⟩:=Bf;obtain⟨its,r,pl,hz⟩:=J.list AX;obtain⟨j,h1,h2,BH,Cs,Ez⟩:=fa he;obtain⟨w,Cp,IA⟩:=r.get h2;have AG:=r.length;have AV:=S5;have fin:Gj X pins σ Q w s:=⟨z,H,J,IA,q⟩;by_cases h0:0<=i
 .have Ap:i.toNat=j:=by
    rw[seqIndex_of h0 Ez]at h1;exact GU h1
  exact item_listR pl.isList h0 (by lia) (by rw[Ap];simpa using Cp) fin AN
 .have Ap:(i+(its.toArray.size:Int)).toNat=j:=by
    rw[seqIndex_neg (by lia) Cs]at h1;rw[DX,<-AG];exact GU h1
  exact subscriptTail_builtinR (x:=w) pl.isList.typeIs slot_list_getitem.lookup
   (wpAny_getItem_list_neg (Q:=λr s'=>r=w/\Gj X pins σ Q r s') pl.isList (by lia) (by rw[DX]<;>lia) (by lia) (by rw[Ap];simpa using Cp) ⟨rfl,fin⟩) AN
def Qx:NK X (lG X.K):=by
 intro value slice pins s σ H x y v u Q J At Bf h AN;obtain⟨p,xs,i,z,rfl,rfl,AX,he,q⟩:=h;cases At;obtain⟨t,rfl⟩:=Bf;obtain⟨its,r,pl,hz⟩:=J.tuple AX;obtain⟨j,h1,h2,BH,Cs,Ez⟩:=fa he;obtain⟨w,Cp,IA⟩:=r.get h2;have AG:=r.length;have AV:=S5;have fin:Gj X pins σ Q w s:=⟨z,H,J,IA,q⟩
 exact subscriptTail_builtinR (x:=w) pl.typeIs slot_tuple_getitem.lookup
  (getItem_tuple (j:=j) (Q:=λr s'=>r=w/\Gj X pins σ Q r s') pl (by lia) (by lia) (by rw[DX,<-AG];exact h1) (by simpa using Cp) ⟨rfl,fin⟩) AN
def xi:NK X lF:=by
 intro value slice pins s σ H x y v u Q J At Bf h AN;obtain⟨z,i,c,rfl,rfl,hz,he,q⟩:=h;obtain⟨t,rfl⟩:=At;obtain⟨t',rfl⟩:=Bf;obtain⟨j,h1,h2,BH,Cs,Ez⟩:=fa he;have AG:z.cps.toList.length=z.length:=by simp[Str.length]
 rw[AG]at h1 Cs Ez;have AV:=S5;exact tail_any (typeIs_str s z t) slot_str_getitem.lookup (getItem_str (c:=c) (by have A9:decide (i< -(2^63:Int))=false:=decide_eq_false (by lia);have AF:decide (i≥2^63)=false:=decide_eq_false (by lia);rw[A9,AF,Bool.or_false]) (by rw[h1];simpa using h2) ⟨.str ⟨#[c]⟩,H,J.tok _,⟨_,rfl⟩,q⟩) AN
def cx(K:Aq):FA:=λx y H Q=>lE K x y H Q\/lG K x y H Q\/lF x y H Q
def xh:NK X (cx X.K):=xg.or (Qx.or xi)
def aaA(its:List A6)(n j:Nat)(u:A6):Nw (·.setIfInBounds j u) { cls:=.type "list",data:=.seq its.toArray n }={ cls:=.type "list",data:=.seq (its.set j u).toArray n }:=by simp[Nw]
theorem Inv.lst{pins:List (A4×Obj)}{σ :St}{H:AC}{s:AM}{p:A4}{xs:List V}(J:Inv X pins σ H s)(h:H p=some (.lst xs)) :
  ∃(its:List A6)(n:Nat),Vals xs its/\s.heap.get? p=some { cls:=.type "list",data:=.seq its.toArray n }/\xs.length<=CG:=by
 obtain⟨z,its,n,r,e⟩:=J.Aw p _ h;exact⟨its,n,r,e,z⟩
def Inv.aa0{pins:List (A4×Obj)}{σ :St}{H:AC}{s:AM}{p:A4}{xs ys:List V}{its its':List A6}{n VW:Nat}{f:Obj->Obj}(J:Inv X pins σ H s)(h:H p=some (.lst xs))(ho:s.heap.get? p=some { cls:=.type "list",data:=.seq its.toArray n })(hf:f { cls:=.type "list",data:=.seq its.toArray n }={ cls:=.type "list",data:=.seq its'.toArray VW })(r:Vals ys its')(hz:ys.length<=CG)(t:Nat) :
  Inv X pins σ (upd H p (.lst ys)) { s with heap:=s.heap.update p f,toks:=t }:=by
 have e:(s.heap.update p f).get? p=some { cls:=.type "list",data:=.seq its'.toArray VW }:=by rw[Rn f ho (by rw[hf]<;>rfl),hf]
 refine J.write (x:=p) (e:=p) (by rw[h];trivial) (.inl rfl) (λb u A2 q=>(Wp _ _ (LY A2)).trans q) ⟨_,e⟩ ?_;exact⟨hz,its',VW,r,e⟩
def km:V->V->V->AC->(AC->Prop)->Prop:=λo i v H Q=>∃p xs k j,o=.ref p/\i=.int k/\H p=some (.lst xs)/\Lk xs.length k=some j/\Q (upd H p (.lst (xs.set j v)))
def set_list:gR X km:=by
 intro pins s σ H o i v CO Gc u Q J F3 ac_ C6 h;obtain⟨p,xs,k,j,rfl,rfl,AT,Ap,q⟩:=h;cases F3;obtain⟨t,rfl⟩:=ac_;obtain⟨its,n,r,ho,hz⟩:=J.lst AT;obtain⟨h1,h2,BH,Cs⟩:=j7 Ap;have AG:=r.length;have AV:=S5;have GR:Inv X pins σ (upd H p (.lst (xs.set j v))) { s with heap:=s.heap.update p (Nw (·.setIfInBounds j u)) }:=
  J.aa0 AT ho (aaA its n j u) (r.set C6 j) (by rw[eO];exact hz) s.toks
 by_cases h0:0<=k
 .have AO:k.toNat=j:=by
    rw[seqIndex_of h0 Cs]at h1;exact GU h1
  exact PySem.W.ki_setAt ho h0 (by lia) (by rw[DX,<-AG];exact Cs) (by rw[AO];exact⟨_,GR,q⟩)
 .have AO:(k+(its.toArray.size:Int)).toNat=j:=by
    rw[seqIndex_neg (by lia) BH]at h1;rw[DX,<-AG];exact GU h1
  exact PySem.W.ki_setBack ho (by lia) (by rw[DX,<-AG];exact BH) (by lia) (by rw[AO];exact⟨_,GR,q⟩)
def acx(lo AB:Option Int)(n:Nat):(QX lo AB none n).1=((Dz.CV n 0 lo:Nat):Int)/\(QX lo AB none n).2.1=((Dz.CV n n AB:Nat):Int)/\(QX lo AB none n).2.2=1:=by
 refine⟨?_,?_,rfl⟩
 .cases lo with
  |none=>simp[QX,Dz.CV]
  |some i=>
   simp only[QX,Dz.CV,Option.getD_none,show(1:Int)>0 by decide,if_true];by_cases h:i<0
   .simp only[h,if_true]<;>lia
   .simp only[h,if_false]<;>lia
 .cases AB with
  |none=>simp[QX,Dz.CV]
  |some i=>
   simp only[QX,Dz.CV,Option.getD_none,show(1:Int)>0 by decide,if_true];by_cases h:i<0
   .simp only[h,if_true]<;>lia
   .simp only[h,if_false]<;>lia
def acU(its:List A6)(lo AB:Option Int):slicePick its.toArray lo AB none=((its.drop (Dz.CV its.length 0 lo)).take (Dz.CV its.length its.length AB-Dz.CV its.length 0 lo)).toArray:=by obtain⟨h1,h2,BH⟩:=acx lo AB its.toArray.size;unfold slicePick;rw[h1,h2,BH];simp only[sliceRange_one,pick_run,DX]<;>rfl
def kn(K:Aq):V->Option Int->Option Int->AC->CK->Prop:=λx lo AB H Q=>∃a xs,x=.ref a/\E_ K H a xs/\∀p,H p=none->Q (.ref p) (upd H p (.lst (PM xs lo AB)))
def acR:RJ X (kn X.K):=by intro pins s σ H x v DW Hu lo AB Bn Q J At AN pl pu h;obtain⟨a,xs,rfl,AK,q⟩:=h;cases At;obtain⟨its,r,Bi,hz⟩:=J.list AK;have hlen:=r.length;refine⟨"list",_,slot_list_getitem.lookup,Bi.isList.typeIs,?_⟩;refine wpAny_getItem_list_slice Bi.isList AN pl pu .none (by simp) ?_ (by rw[DX]<;>lia);rw[acU,<-hlen];refine⟨.ref s.heap.objs.size,_,J.laid (t':=s.toks) (o:=.lst (PM xs lo AB)) (λb BJ q=>Cw _ q) (CB _) ?_,rfl,q _ (J.Aw.fresh (CB _))⟩;exact⟨I_ (h6 xs lo AB) hz,_,0,(r.drop (Dz.CV xs.length 0 lo)).take (Dz.CV xs.length xs.length AB-Dz.CV xs.length 0 lo),F_ _ rfl⟩
def J5.or{f:A6}{r BW:List V->AC->CK->Prop}(h:J5 X f r)(h':J5 X f BW):J5 X f (λxs H Q=>r xs H Q\/BW xs H Q):=by
 intro pins s σ H xs us Q J rs q;rcases q with q|q
 .exact h pins s σ H xs us Q J rs q
 .exact h' pins s σ H xs us Q J rs q
def tD:J5 X (.type "list") (λxs H Q=>∃p ys,xs=[.ref p]/\(E_ X.K H p ys\/Ea X.K H p ys)/\∀l,H l=none->Q (.ref l) (upd H l (.lst ys))):=by
 intro pins s σ H xs us Q J r h;obtain⟨p,ys,rfl,AX,q⟩:=h;obtain⟨u,rfl,At⟩:=vals1 r;cases At
 have fin:∀(its:List A6),Vals ys its->ys.length<=CG->∀(h':B8)(G6:Nat),(∀b o',s.heap.get? b=some o'->h'.get? b=some o')->
   h'.get? s.heap.objs.size=some { cls:=.type "list",dict:=none,data:=.seq its.toArray G6,slots:= #[] }->Gj X pins σ Q (.ref s.heap.objs.size) { s with heap:=h' }:=λits BW hz h' G6 Bc e=>
  ⟨.ref s.heap.objs.size,_,J.laid (t':=s.toks) Bc (CB _) (show Dr X.prog X.w _ h' _ (.lst ys)from⟨hz,its,G6,BW,e⟩),rfl,q _ (J.Aw.fresh (CB _))⟩
 rcases AX with AX|AX
 .obtain⟨its,BW,pl,hz⟩:=J.list AX;have hlen:=BW.length;obtain⟨o,ho,AH,n,hd⟩:=pl.isList;exact call_list_seq p (.inl rfl) ho AH hd (λh' G6 Bc e=>fin its BW hz h' G6 Bc e) (by simp only[DX]<;>lia)
 .obtain⟨its,BW,pl,hz⟩:=J.tuple AX;have hlen:=BW.length;obtain⟨o,ho,AH,n,hd⟩:=pl;exact call_list_seq p (.inr rfl) ho AH hd (λh' G6 Bc e=>fin its BW hz h' G6 Bc e) (by simp only[DX]<;>lia)
def tI:J5 X (.type "tuple") (λxs H Q=>∃p ys,xs=[.ref p]/\((E_ X.K H p ys/\∀l,H l=none->Q (.ref l) (upd H l (.tup ys)))\/(Ea X.K H p ys/\Q (.ref p) H))):=by
 intro pins s σ H xs us Q J r h;obtain⟨p,ys,rfl,h⟩:=h;obtain⟨u,rfl,At⟩:=vals1 r;cases At;rcases h with⟨AX,q⟩|⟨AX,q⟩
 .obtain⟨its,BW,pl,hz⟩:=J.list AX;have hlen:=BW.length;refine call_tuple_list pl.isList (λh' Bc=>?_) (by simp only[DX]<;>lia);have Ab:Inv X pins σ H { s with heap:=h' }:=J.kept (t':=s.toks) Bc;have BS:Inv X pins σ (upd H h'.objs.size (.tup ys)) { s with heap:=h'.push { cls:=.type "tuple",data:=.seq its.toArray } }:=
   Ab.laid (t':=s.toks) (λb o e=>Cw _ e) (CB _) (show Dr X.prog X.w _ _ _ (.tup ys)from⟨hz,its,BW,IsTup.new _ _⟩)
  exact⟨.ref h'.objs.size,_,BS,rfl,q _ (Ab.Aw.fresh (CB _))⟩
 .obtain⟨its,BW,pl,hz⟩:=J.tuple AX;exact call_tuple_same pl ⟨.ref p,H,J,rfl,q⟩
noncomputable def dv(K:Aq)(T:String)(x:V)(H:AC):Prop:=match x with
 |.str _=>T="str"
 |.int _=>T="int"
 |.ref p=>(T="list"/\∃xs,E_ K H p xs)\/(T="tuple"/\∃o,K.lookup p=some o/\o.cls=.type "tuple"/\o.dict=none)\/
     (T="dict"/\((∃A8,H p=some (.Aj A8))\/∃A8,H p=some (.Ds A8)))\/(T="set"/\∃S n,H p=some (.set S n))
 |_=>False
def pv{pins:List (A4×Obj)}{σ :St}{H:AC}{s:AM}{T:String}{x:V}{v:A6}(J:Inv X pins σ H s)(r:RelV x v)(ty:dv X.K T x H) :
  s.TypeIs v T/\∀a,v=.ref a->∃BJ,s.heap.get? a=some BJ/\BJ.dict=none:=by
 cases x with
 |str z=>obtain⟨t,rfl⟩:=r;cases(show T="str" from ty);exact⟨typeIs_str s z t,λ_ e=>nomatch e⟩
 |int i=>obtain⟨t,rfl⟩:=r;cases(show T="int" from ty);exact⟨typeIs_int s i t,λ_ e=>nomatch e⟩
 |ref p=>
  cases r;rcases ty with⟨rfl,xs,AX⟩|⟨rfl,o,AO,AH,hd⟩|⟨rfl,AO⟩|⟨rfl,S,n,AO⟩
  .obtain⟨its,_,pl,_⟩:=J.list AX;refine⟨pl.isList.typeIs,λa e=>?_⟩;cases e;obtain⟨o,n,e,c,hd,_⟩:=pl;exact⟨o,e,hd⟩
  .refine⟨⟨o,J.F0 p o AO,AH⟩,λa e=>?_⟩;cases e;exact⟨o,J.F0 _ o AO,hd⟩
  .have z:∃o,s.heap.get? p=some o/\o.ExactDict:=by
     rcases AO with⟨A8,AO⟩|⟨A8,AO⟩
     .obtain⟨_,_,_,_,o,_,_,e,ex,_⟩:=J.Aw p _ AO;exact⟨o,e,ex⟩
     .obtain⟨_,_,_,_,o,_,_,e,ex,_⟩:=J.Aw p _ AO;exact⟨o,e,ex⟩
   obtain⟨o,e,ex⟩:=z;refine⟨⟨o,e,ex.1⟩,λa AF=>?_⟩;cases AF;exact⟨o,e,ex.2.1⟩
  .obtain⟨o,_,_,_,e,ex,_⟩:=J.Aw p _ AO;refine⟨⟨o,e,ex.1⟩,λa AF=>?_⟩;cases AF;exact⟨o,e,ex.2.1⟩
 |_=>exact HC ty
def oX(K:Aq)(T:String)(r:V->List V->AC->CK->Prop)(to:TE):TE:=λσ H Q=>to σ H λx H1=>dv K T x H1/\r x [] H1 Q
def oW(K:Aq)(T:String)(r:V->List V->AC->CK->Prop)(to:TE)(t:FV):TE:=λσ H Q=>to σ H λx H1=>dv K T x H1/\t σ H1 λxs AS=>r x xs AS Q
variable{o e:Al}{es:List Al}{to:TE}{t:FV}{name:Str}{apos Da:Pos}{T id:String}{r:V->List V->AC->CK->Prop}
def lS(VA:PlainAttrs T)(slot:Slot T name id)(cR:typeOf (.builtin id)=pure (.type "method_descriptor"))(hm:PU X id r)(ho:Ae X o to)(az:MA o name X.env (BZ o X.env)=BZ o X.env:=by rfl)(cD:(apos.endLine==Da.line)=true:=by rfl):Ae X (.Call (.Attribute o name apos) [] [] Da) (oX X.K T r to):=by intro pins s σ H Q J h;refine wpAny_Call_method0_late az cD (BN (ho pins s σ H _ J h) λv s1⟨x,H1,Ab,Ar,ty,q1⟩=>?_);obtain⟨h1,h2⟩:=pv Ab Ar ty;exact⟨T,id,VA,slot,cR,h1,h2,Tb rfl (r0 (hm pins s1 σ H1 x [] v [] Q Ab Ar .nil q1))⟩
def lR (VA:PlainAttrs T) (slot:Slot T name id) (cR:typeOf (.builtin id)=pure (.type "method_descriptor")) (hm:PU X id r) (ho:Ae X o to) (AE:Gl X (e::es) t)(az:MA o name X.env (BZ o X.env)=BZ o X.env:=by rfl)(vp:((Fj Da (CJ (e::es) X.env)).all (λx=>!x.1)&&(LV Da (LQ [] X.env)).all (λx=>x.1.isSome)
    &&decide ((e::es).length+([]:List O1).length+(if([]:List O1).isEmpty then 0 else 1)<30))=true:=by rfl)
  (cD:(apos.endLine==Da.line)=true:=by rfl) (AN:CJ (e::es) X.env=(false,BZ e X.env)::CJ es X.env:=by rfl) (xE:(Fj Da (CJ es X.env)).any (·.1)=false:=by rfl) :
  Ae X (.Call (.Attribute o name apos) (e::es) [] Da) (oW X.K T r to t):=by
 intro pins s σ H Q J h;refine wpAny_Call_method_late az vp cD rfl (BN (ho pins s σ H _ J h) λv s1⟨x,H1,Ab,Ar,ty,q1⟩=>?_);obtain⟨h1,h2⟩:=pv Ab Ar ty;refine⟨T,id,VA,slot,cR,h1,h2,?_⟩;have Hm:=AE Da pins s1 σ H1 _ Ab q1;rw[AN]at Hm |-;refine Tb (by show(false||(Fj Da (CJ es X.env)).any (·.1))=false;rw[xE]<;>rfl) (Wh ?_);exact BN Hm λus s2⟨vs,AS,BS,BD,q2⟩=>hm pins s2 σ AS x vs v us Q BS Ar BD q2
end
noncomputable def Um(X:Ao)(id:String)(r:V->List V->AC->CK->Prop):Prop:=
 ∀(pins:List (A4×Obj))(s:AM)(σ :St)(H:AC)(x:V)(xs:List V)(v:A6)(us:List A6)(Q:CK),Inv X pins σ H s->RelV x v->Vals xs us->r x xs H Q->
  Ag (Av X.prog X.w) X.A (call (.builtin id) (v::us)) (Gj X pins σ Q) X.Cr s
def Vals.one:∀{x:V}{us:List A6},Vals [x] us->∃u,us=[u]/\RelV x u
 |_,_,.cons r .nil=>⟨_,rfl,r⟩
def Vals.two:∀{x y:V}{us:List A6},Vals [x,y] us->∃u v,us=[u,v]/\RelV x u/\RelV y v
 |_,_,_,.cons r (.cons q .nil)=>⟨_,_,rfl,r,q⟩
def Vals.zero:∀{us:List A6},Vals [] us->us=[]
 |_,.nil=>rfl
theorem Vals.dropLast{xs:List V}{us:List A6}(h:Vals xs us):Vals xs.dropLast us.dropLast:=by
 induction h with
 |nil=>exact .nil
 |cons r t C9=>
  cases t with
  |nil=>exact .nil
  |cons q t'=>exact .cons r C9
theorem Vals.eraseIdx:∀{xs:List V}{us:List A6}(i:Nat),Vals xs us->Vals (xs.eraseIdx i) (us.eraseIdx i)
 |_,_,_,.nil=>.nil
 |_,_,0,.cons _ t=>t
 |_,_,i+1,.cons r t=>.cons r (Vals.eraseIdx i t)
theorem Vals.rep{xs:List V}{us:List A6}(h:Vals xs us):∀k:Nat,Vals (Fu k xs).flatten (Fu k us).flatten
 |0=>.nil
 |k+1=>by rw[QI,QI,P7,P7];exact Vals.append h (Vals.rep h k)
def tW{α:Type}(l:List α):l.eraseIdx (l.length-1)=l.dropLast:=by
 induction l with
 |nil=>rfl
 |cons a r C9=>
  cases r with
  |nil=>rfl
  |cons b r=>
   have e:(a::b::r).length-1=((b::r).length-1)+1:=by have h1:(a::b::r).length=r.length+2:=rfl;have h2:(b::r).length=r.length+1:=rfl;lia
   rw[e,qQ,C9]
   all_goals rfl
theorem kP{α:Type}:∀(l:List α)(i:Nat),(l.eraseIdx i).length<=l.length
 |[],_=>CB _
 |_::_,0=>PB _
 |_::r,i+1=>Nat.succ_le_succ (kP r i)
theorem foldl_rep(its:List A6):∀(k:Nat)(acc:List A6),
  List.foldl (λx1 x2=>x1++x2) acc.toArray (Fu k its.toArray)=(acc++(Fu k its).flatten).toArray
 |0,acc=>by simp
 |k+1,acc=>by
  have e:acc.toArray++its.toArray=(acc++its).toArray:=by simp
  have AF:(acc++its)++(Fu k its).flatten=acc++(Fu (k+1) its).flatten:=by rw[QI,P7,F6]
  rw[<-AF,<-foldl_rep its k (acc++its),<-e,QI,List.foldl_cons]
section
variable{X:Ao}{pins:List (A4×Obj)}{σ :St}{H:AC}{s:AM}{l b:A4}{xs ys zs:List V}
def Inv.Vq{its its':List A6}{n:Nat}{f:Array A6->Array A6}{t':Nat}(J:Inv X pins σ H s)(H0:H l=some (.lst xs))(e:s.heap.get? l=some { cls:=.type "list",data:=.seq its.toArray n })(hf:f its.toArray=its'.toArray)(B_:Vals ys its')(hz:ys.length<=CG) :
  Inv X pins σ (upd H l (.lst ys)) { s with heap:=s.heap.update l (Nw f),toks:=t' }:=by
 have q:=PySem.IsL.update e f;rw[hf]at q;refine J.write (x:=l) (e:=l) (by rw[H0];exact trivial) (.inl rfl) (λHh u A2 BI=>(Wp s.heap (Nw f) (LY A2)).trans BI) ⟨_,q⟩ ?_;exact⟨hz,its',_,B_,q⟩
def Inv.c2{its:List A6}{t':Nat}(J:Inv X pins σ H s)(B_:Vals ys its)(hz:ys.length<=CG) :
  Inv X pins σ (upd H s.heap.objs.size (.lst ys)) { s with heap:=s.heap.push { cls:=.type "list",data:=.seq its.toArray },toks:=t' }:=
 J.laid (λ_ _ q=>Cw _ q) (CB _) ⟨hz,its,0,B_,F_ _ rfl⟩
theorem Inv.fresh(J:Inv X pins σ H s):H s.heap.objs.size=none:=J.Aw.fresh (CB _)
def Inv.Ox(J:Inv X pins σ H s)(H0:H l=some (.lst xs)):xs.length<=CG/\∃(its:List A6)(n:Nat),Vals xs its/\xs.length=its.length/\s.heap.get? l=some { cls:=.type "list",data:=.seq its.toArray n }:=by obtain⟨z,its,n,r,e⟩:=J.Aw l _ H0;exact⟨z,its,n,r,r.length,e⟩
def kB{n:Nat}(h:n<=CG):Wl n=false:=by unfold Wl;exact decide_eq_false (by lia)
end
section
variable{X:Ao}
def l7:V->List V->AC->CK->Prop:=λx vs H Q=>∃l xs y,x=.ref l/\vs=[y]/\H l=some (.lst xs)/\xs.length<CG/\Q .non (upd H l (.lst (xs++[y])))
theorem jq:Um X "list.append" l7:=by intro pins s σ H x vs v us Q J At C6 h;obtain⟨l,xs,y,rfl,rfl,H0,hz,q⟩:=h;cases At;obtain⟨u,rfl,Fo⟩:=C6.one;obtain⟨z,its,n,r,AG,e⟩:=J.Ox H0;refine QV F.slot_list_append ⟨_,e,rfl⟩ F.entry_list_append (F.args_list_append_2 _ _) (PySem.list_append l its.toArray n u (by rw[DX];lia)) ⟨e,?_⟩;refine⟨.non,_,J.Vq (its':=its++[u]) H0 e (by simp) (r.append (.cons Fo .nil)) ?_,rfl,q⟩;rw[Ej,qL];lia
def adE:V->List V->AC->CK->Prop:=λx vs H Q=>∃l b xs zs,x=.ref l/\vs=[.ref b]/\H l=some (.lst xs)/\H b=some (.lst zs)/\xs.length+zs.length<=CG/\Q .non (upd H l (.lst (xs++zs)))
theorem ahp:Um X "list.extend" adE:=by
 intro pins s σ H x vs v us Q J At C6 h;obtain⟨l,b,xs,zs,rfl,rfl,H0,Gn,hz,q⟩:=h;cases At;obtain⟨u,rfl,Fo⟩:=C6.one;cases Fo;obtain⟨z,its,n,r,AG,e⟩:=J.Ox H0;obtain⟨Eg,Go,Dx,BD,SY,AF⟩:=J.Ox Gn;have hsz:its.toArray.size+Go.toArray.size<=CG:=by rw[DX,DX];lia
 have cE:¬(!its.toArray.isEmpty&&Wl (its.toArray.size+Go.toArray.size))=true:=by rw[kB hsz,U2];exact Kb
 refine QV F.slot_list_extend ⟨_,e,rfl⟩ F.entry_list_extend (F.args_list_extend_2 _ _)
  (AutoSeq1.list_extend_list_list_0 l its.toArray n b Go.toArray Dx cE (by rw[DX];lia) (by lia)) ⟨e,AF,?_⟩
 refine⟨.non,_,J.Vq (its':=its++Go) H0 e (by simp) (r.append BD) ?_,rfl,q⟩;rw[Ej];lia
def lI:V->List V->AC->CK->Prop:=λx vs H Q=>∃l xs y,x=.ref l/\vs=[]/\H l=some (.lst xs)/\xs[xs.length-1]?=some y/\Q y (upd H l (.lst xs.dropLast))
theorem jr:Um X "list.pop" lI:=by
 intro pins s σ H x vs v us Q J At C6 h;obtain⟨l,xs,y,rfl,rfl,H0,AP,q⟩:=h;cases At;have bZ:=C6.zero;subst bZ;obtain⟨z,its,n,r,AG,e⟩:=J.Ox H0;obtain⟨u,BI,Fo⟩:=r.get AP;have Lj:its.toArray[its.toArray.size-1]?=some u:=by show its.toArray[its.length-1]?=some u;rw[<-Wg,<-AG];exact BI
 refine QV F.slot_list_pop ⟨_,e,rfl⟩ F.entry_list_pop (F.args_list_pop_1 _) (MeetsSeq.list_pop_last l its.toArray n u Lj (by rw[DX];lia)) ⟨e,?_⟩;refine⟨y,_,J.Vq (its':=its.dropLast) H0 e ?_ r.dropLast ?_,Fo,q⟩
 .show its.toArray.eraseIdxIfInBounds (its.toArray.size-1)=its.dropLast.toArray;rw[DX,qI,tW]
 .rw[List.length_dropLast];lia
def lJ:V->List V->AC->CK->Prop:=λx vs H Q=>∃l xs i k y,x=.ref l/\vs=[.int i]/\H l=some (.lst xs)/\-(2^63)<=i/\i<2^63/\Ry i xs.length=some k/\xs[k]?=some y/\Q y (upd H l (.lst (xs.eraseIdx k)))
theorem js:Um X "list.pop" lJ:=by
 intro pins s σ H x vs v us Q J At C6 h;obtain⟨l,xs,i,k,y,rfl,rfl,H0,h1,h2,AO,AP,q⟩:=h;cases At;obtain⟨u,rfl,Fo⟩:=C6.one;obtain⟨t,rfl⟩:=Fo;obtain⟨z,its,n,r,AG,e⟩:=J.Ox H0;obtain⟨w,hw,IA⟩:=r.get AP
 refine QV F.slot_list_pop ⟨_,e,rfl⟩ F.entry_list_pop (F.args_list_pop_2 _ _)
  (MeetsSeq.list_pop_at l its.toArray n i t k w (fitsIndex_both h1 h2) (by rw[DX,<-AG];exact AO) (by rw[<-Wg];exact hw) (by rw[DX];lia)) ⟨e,?_⟩
 refine⟨y,_,J.Vq (its':=its.eraseIdx k) H0 e ?_ (r.eraseIdx k) ?_,IA,q⟩
 .show its.toArray.eraseIdxIfInBounds k=(its.eraseIdx k).toArray;rw[qI]
 .have:=kP xs k;lia
def lB:V->List V->AC->CK->Prop:=λx vs H Q=>∃l xs,x=.ref l/\vs=[]/\H l=some (.lst xs)/\Q .non (upd H l (.lst []))
theorem aaL:Um X "list.clear" lB:=by intro pins s σ H x vs v us Q J At C6 h;obtain⟨l,xs,rfl,rfl,H0,q⟩:=h;cases At;have bZ:=C6.zero;subst bZ;obtain⟨z,its,n,r,AG,e⟩:=J.Ox H0;refine QV F.slot_list_clear ⟨_,e,rfl⟩ F.entry_list_clear (F.args_list_clear_1 _) (AutoSeq1.list_clear_list_0 l its.toArray n (by rw[DX];lia)) ⟨e,?_⟩;exact⟨.non,_,J.Vq (its':=[]) (ys:=[]) H0 e rfl .nil (ID _),rfl,q⟩
def l9:FA:=λx y H Q=>∃l b xs zs,x=.ref l/\y=.ref b/\H l=some (.lst xs)/\H b=some (.lst zs)/\xs.length+zs.length<=CG/\∀p,H p=none->Q (.ref p) (upd H p (.lst (xs++zs)))
def abI:Dg X (JZ .Add) l9:=by
 intro pins s σ H x y v u Q J At Bf h;obtain⟨l,b,xs,zs,rfl,rfl,H0,Gn,hz,q⟩:=h;cases At;cases Bf;obtain⟨z,its,n,r,AG,e⟩:=J.Ox H0;obtain⟨Eg,Go,Dx,BD,SY,AF⟩:=J.Ox Gn;refine PySem.P.add_list e AF ?_ (by rw[DX,DX];lia);have BY:its.toArray++Go.toArray=(its++Go).toArray:=by simp
 rw[BY];exact⟨.ref _,_,J.c2 (t':=s.toks) (r.append BD) (by rw[Ej];lia),rfl,q _ J.fresh⟩
def kl:FA:=λx y H Q=>∃l k xs,x=.ref l/\y=.int k/\H l=some (.lst xs)/\-(2^63)<=k/\k<2^63/\xs.length*k.toNat<=CG/\
 ∀p,H p=none->Q (.ref p) (upd H p (.lst (Fu k.toNat xs).flatten))
def len_rep{α:Type}(xs:List α)(k:Nat):(Fu k xs).flatten.length=k*xs.length:=by
 induction k with
 |zero=>simp
 |succ k C9=>rw[QI,P7,Ej,C9,Nat.succ_mul,Nat.add_comm]
theorem aaa:Dg X (JZ .Mult) kl:=by
 intro pins s σ H x y v u Q J At Bf h;obtain⟨l,k,xs,rfl,rfl,H0,h1,h2,hz,q⟩:=h;cases At;obtain⟨t,rfl⟩:=Bf;obtain⟨z,its,n,r,AG,e⟩:=J.Ox H0;have hlen:its.toArray.size*k.toNat<=CG:=by rw[DX,<-AG];exact hz
 have vf:¬its.toArray.size*k.toNat>(2^63-1)/8:=by
  have:(CG:Nat)<=(2^63-1)/8:=by decide
  lia
 have vq:¬(!Builtin.List.listFitsIndex k)=true:=by rw[fitsIndex_both h1 h2];exact Kb
 have cE:¬Wl (its.toArray.size*k.toNat)=true:=by rw[kB hlen];exact Kb
 have vY:List.foldl (λx1 x2=>x1++x2) #[] (Fu (if its.toArray.isEmpty=true then 0 else k.toNat) its.toArray)=(Fu k.toNat its).flatten.toArray:=by
  have f0:∀m:Nat,List.foldl (λx1 x2=>x1++x2) #[] (Fu m its.toArray)=(Fu m its).flatten.toArray:=λm=>by have:=foldl_rep its m [];rw[N7]at this;exact this
  rw[f0];cases its with
  |nil=>simp
  |cons a BW=>rw[if_neg (by simp)]
 refine wpAny_binaryOp_repeat_ref (T:="list") (U:="int") (by decide) ⟨_,e,rfl⟩ (λs'=>typeIs_int s' k t) noFill_list_mul F.fills_int_mul F.slot_int_rmul repeat_list F.slot_int_index.lookup
  (QV F.slot_int_rmul (typeIs_int s k t) F.entry_int_rmul (F.args_int_rmul_2 _ _) (int___rmul___int_list k t l its.toArray n)
    ⟨e,rfl,⟨_,e,rfl⟩,QV F.slot_list_mul ⟨_,e,rfl⟩ F.entry_list_mul (F.args_list_mul_2 _ _) (AutoListH.list___mul___list_int_3 l its.toArray n k t vq vf cE) ⟨e,?_⟩⟩)
 rw[vY];exact⟨.ref _,_,J.c2 (t':=s.toks) (r.rep k.toNat) (by rw[len_rep,Nat.mul_comm];exact hz),rfl,q _ J.fresh⟩
end
section
variable{prog:C5}{w:Bo}{A:D4}{E:A6->AM->Prop}{s:AM}
end
section
variable{X:Ao}
end
section
variable{Bj:Type}[DecidableEq Bj]
def HQ(A8:List (Bj×V))(k:Bj):Option V:=(A8.find? λBv=>decide (Bv.1=k)).map (·.2)
def putK(A8:List (Bj×V))(k:Bj)(v:V):List (Bj×V):=
 if(A8.any λBv=>decide (Bv.1=k))=true then A8.map (λBv=>if Bv.1=k then(Bv.1,v)else Bv)else A8++[(k,v)]
def MR(A8:List (Bj×V))(k:Bj):List (Bj×V):=A8.filter λBv=>decide (Bv.1≠k)
def adV{k:Bj}:HQ ([]:List (Bj×V)) k=none:=rfl
def W0{p:Bj×V}{r:List (Bj×V)}{k:Bj}(e:p.1=k):HQ (p::r) k=some p.2:=by simp[HQ,QT,e]
def Vz{p:Bj×V}{r:List (Bj×V)}{k:Bj}(e:¬p.1=k):HQ (p::r) k=HQ r k:=by simp[HQ,QT,e]
theorem q6(k:Bj):∀A8:List (Bj×V),(A8.any λBv=>decide (Bv.1=k))=(HQ A8 k).isSome
 |[]=>rfl
 |p::r=>by
  rw[et];by_cases e:p.1=k
  .simp only[W0 e,decide_eq_true e,Bool.true_or,qf]
  .rw[Vz e,decide_eq_false e,eu];exact q6 k r
def bU(A8:List (Bj×V))(k:Bj)(v:V):(putK A8 k v).length<=A8.length+1:=by
 unfold putK
 split
 .rw[CS];lia
 .rw[Ej,Df,Es];lia
def I0.S3{o:Option V}{u:Option A6}(r:I0 o u):o.isSome=u.isSome:=by
 cases o with
 |none=>cases u with
  |none=>rfl
  |some _=>exact(show False from r).elim
 |some _=>cases u with
  |none=>exact(show False from r).elim
  |some _=>rfl
theorem I0.getD{o:Option V}{u:Option A6}{d:V}{d':A6}(r:I0 o u)(KR:RelV d d'):RelV (o.getD d) (u.getD d'):=by
 cases o with
 |none=>cases u with
  |none=>exact KR
  |some _=>exact(show False from r).elim
 |some _=>cases u with
  |none=>exact(show False from r).elim
  |some _=>exact r
def ES.val{A8:List (Bj×V)}{vs:List (Bj×A6)}(r:ES A8 vs)(k:Bj):I0 (HQ A8 k) (PF vs k):=by
 unfold ES at r;induction r with
 |nil=>exact Ht
 | @cons p q ps EV h t C9=>
   obtain⟨h1,h2⟩:=h;by_cases e:p.1=k
   .have BX:q.1=k:=h1.symm.trans e;have b:PF (q::EV) k=some q.2:=by simp[PF,QT,BX]
    rw[W0 e,b];exact h2
   .have BX:¬q.1=k:=λz=>e (h1.trans z);have b:PF (q::EV) k=PF EV k:=by simp[PF,QT,BX]
    rw[Vz e,b];exact C9
theorem ES.any{A8:List (Bj×V)}{vs:List (Bj×A6)}(r:ES A8 vs)(k:Bj):(A8.any λBv=>decide (Bv.1=k))=vs.any λBv=>decide (Bv.1=k):=by
 unfold ES at r;induction r with
 |nil=>rfl
 |cons h t C9=>rw[et,et,C9,h.1]
def ES.cz{A8:List (Bj×V)}{vs:List (Bj×A6)}(r:ES A8 vs)(k:Bj){y:V}{u:A6}(Bf:RelV y u) :
  ES (A8.map λBv=>if Bv.1=k then(Bv.1,y)else Bv) (vs.map λBv=>if Bv.1=k then(Bv.1,u)else Bv):=by
 unfold ES at r |-;induction r with
 |nil=>exact .nil
 | @cons p q ps EV h t C9=>
   rw[D3,D3];refine .cons ?_ C9;obtain⟨h1,h2⟩:=h;by_cases e:p.1=k
   .rw[if_pos e,if_pos (h1.symm.trans e)];exact⟨h1,Bf⟩
   .rw[if_neg e,if_neg (λz=>e (h1.trans z))];exact⟨h1,h2⟩
def ES.put{A8:List (Bj×V)}{vs:List (Bj×A6)}(r:ES A8 vs)(k:Bj){y:V}{u:A6}(Bf:RelV y u):ES (putK A8 k y) (stored vs k u):=by
 unfold putK stored;rw[r.any k];by_cases e:(vs.any λBv=>decide (Bv.1=k))=true
 .rw[if_pos e,if_pos e];exact r.cz k Bf
 .rw[if_neg e,if_neg e];exact Paired.snoc r ⟨rfl,Bf⟩
def ES.drop{A8:List (Bj×V)}{vs:List (Bj×A6)}(r:ES A8 vs)(k:Bj):ES (MR A8 k) (without vs k):=by
 unfold ES at r |-;unfold MR without;induction r with
 |nil=>exact .nil
 | @cons p q ps EV h t C9=>
   obtain⟨h1,h2⟩:=h;rw[QF,QF];by_cases e:p.1=k
   .have a:¬decide (p.1≠k)=true:=by simp[e]
    have b:¬decide (q.1≠k)=true:=by simp[h1.symm.trans e]
    rw[if_neg a,if_neg b];exact C9
   .have BX:¬q.1=k:=λz=>e (h1.trans z);have a:decide (p.1≠k)=true:=by simp[e]
    have b:decide (q.1≠k)=true:=by simp[BX]
    rw[if_pos a,if_pos b];exact .cons ⟨h1,h2⟩ C9
theorem ES.length{A8:List (Bj×V)}{vs:List (Bj×A6)}(r:ES A8 vs):A8.length=vs.length:=Paired.length r
def iK(A8:List (Bj×V))(k:Bj):(MR A8 k).length<=A8.length:=List.length_filter_le _ _
end
def Op{P:C5}{w:Bo}{k:Key}{u:A6}(r:RelV (Cm k) u):(GM P w).is k u=true:=by
 cases k with
 |inl i=>obtain⟨t,e⟩:=(show ∃t,u=Rz i t from r);subst e;exact aaE P w i t
 |inr x=>obtain⟨t,e⟩:=(show ∃t,u=S0 x t from r);subst e;exact aaF P w x t
theorem j4{P:C5}{w:Bo}:∀{AI:List Key}{us:List A6},Vals (AI.map Cm) us->ItemsAre (GM P w) AI us
 |[],_,r=>by rw[Hq]at r;cases r;exact .nil
 |k::AI,_,r=>by
  rw[D3]at r;cases r with
  |cons h t=>exact .cons (Op h) (j4 t)
abbrev KT(H:AC):List (El×V)->List (El×A4×A6)->Prop:=Paired λp q=>p.1=q.1/\OO H p.1 q.2.1/\RelV p.2 q.2.2
def KT.val{H:AC}{A8:List (El×V)}{xs:List (El×A4×A6)}(r:KT H A8 xs)(k:El):I0 (HQ A8 k) ((atKey xs k).map (·.2)):=by
 induction r with
 |nil=>exact Ht
 | @cons p q ps EV h t C9=>
   obtain⟨h1,_,h2⟩:=h;by_cases e:p.1=k
   .have BX:q.1=k:=h1.symm.trans e;have b:atKey (q::EV) k=some q.2:=by simp[atKey,QT,BX]
    rw[W0 e,b];exact h2
   .have BX:¬q.1=k:=λz=>e (h1.trans z);have b:atKey (q::EV) k=atKey EV k:=by simp[atKey,QT,BX]
    rw[Vz e,b];exact C9
def KT.cz{H:AC}{A8:List (El×V)}{xs:List (El×A4×A6)}(r:KT H A8 xs)(k:El){y:V}{u:A6}(Bf:RelV y u) :
  KT H (A8.map λBv=>if Bv.1=k then(Bv.1,y)else Bv) (xs.map (putAt k u)):=by
 induction r with
 |nil=>exact .nil
 | @cons p q ps EV h t C9=>
   rw[D3,D3];refine .cons ?_ C9;obtain⟨h1,h2,BH⟩:=h;unfold putAt;by_cases e:p.1=k
   .rw[if_pos e,if_pos (h1.symm.trans e)];exact⟨h1,h2,Bf⟩
   .rw[if_neg e,if_neg (λz=>e (h1.trans z))];exact⟨h1,h2,BH⟩
def KT.put{H:AC}{A8:List (El×V)}{xs:List (El×A4×A6)}(r:KT H A8 xs)(k:El){b:A4}{y:V}{u:A6}(A2:OO H k b)(Bf:RelV y u) :
  KT H (putK A8 k y) (storedH xs k b u):=by
 have e:(A8.any λBv=>decide (Bv.1=k))=(atKey xs k).isSome:=by rw[q6,(r.val k).S3,e_]
 unfold putK storedH;rw[e];by_cases q:(atKey xs k).isSome=true
 .rw[if_pos q,if_pos q];exact r.cz k Bf
 .rw[if_neg q,if_neg q];exact Paired.snoc r ⟨rfl,A2,Bf⟩
def KT.keeps{H A7:AC}{A8:List (El×V)}{xs:List (El×A4×A6)}(r:KT H A8 xs)(Bi:∀b ys,H b=some (.tup ys)->A7 b=some (.tup ys)):KT A7 A8 xs:=
 Paired.dD r λ_ _ z=>⟨z.1,Bi _ _ z.2.1,z.2.2⟩
section
variable{P:C5}{w:Bo}{K:Aq}{H:AC}{h:B8}{a:A4}
def lK{u:Et}(ok:Ek P w H h)(e:K6 H a u):Dr P w H h a u:=e.ok ok
def NC{A8:List (Key×V)}(ok:Ek P w H h)(e:K6 H a (.Aj A8)):A8.length<=CG/\(a==Jy)=false/\∃vs,ES A8 vs/\h.DictOf (GM P w) a vs:=
 show Dr P w H h a (.Aj A8)from lK ok e
def PN{A8:List (Key×V)}(ok:Ek P w H h)(e:H a=some (.Aj A8)):A8.length<=CG/\(a==Jy)=false/\∃vs,ES A8 vs/\h.DictOf (GM P w) a vs:=NC ok (.inl e)
def R0{AI:List Key}(ok:Ek P w H h)(e:H a=some (.tup (AI.map Cm))):(tupleKind (GM P w)).is h AI a:=by obtain⟨_,its,r,o,h1,h2,n,BH⟩:=(show Dr P w H h a (.tup (AI.map Cm))from ok a _ e);exact⟨o,its.toArray,n,h1,h2,BH,by simpa using j4 r⟩
def RS{A8:List (El×V)}(ok:Ek P w H h)(e:K6 H a (.Ds A8)):A8.length<=CG/\(a==Jy)=false/\
  ∃xs,KT H A8 xs/\h.DictOfH (tupleKind (GM P w)) a xs:=by
 obtain⟨z,y,xs,r,o,es,An,h1,h2,BH,Cs,Ez⟩:=(show Dr P w H h a (.Ds A8)from lK ok e);refine⟨z,y,xs,r,o,es,An,h1,h2,BH,Cs,λx AK=>?_,Ez⟩;have all:∀{l:List (El×V)}{m:List (El×A4×A6)},KT H l m->∀x∈m,Nx (GM P w) h x.1 x.2.1:=by
  intro l m q;induction q with
  |nil=>intro x AK;exact nomatch AK
  | @cons p q ps EV AX t C9=>
    intro x AK;rcases List.mem_cons.mp AK with e|AK
    .subst e;exact R0 ok (by rw[<-AX.1];exact AX.2.1)
    .exact C9 x AK
 exact all r x AK
end
def J6(H:AC)(a:A4)(y:V)(r:Option V):Prop:=
 (∃A8 k,K6 H a (.Aj A8)/\y=Cm k/\r=HQ A8 k)\/∃A8 k b,K6 H a (.Ds A8)/\y=.ref b/\OO H k b/\r=HQ A8 k
noncomputable def PR(H:AC)(a:A4)(y v:V)(A7:AC):Prop:=
 (∃A8 k,H a=some (.Aj A8)/\y=Cm k/\A8.length<CG/\A7=upd H a (.Aj (putK A8 k v)))\/
 ∃A8 k b,H a=some (.Ds A8)/\y=.ref b/\OO H k b/\A8.length<CG/\A7=upd H a (.Ds (putK A8 k v))
theorem J6.k{H:AC}{a:A4}{A8:List (Key×V)}{k:Key}(e:H a=some (.Aj A8)):J6 H a (Cm k) (HQ A8 k):=.inl ⟨A8,k,.inl e,rfl,rfl⟩
def J6.t{H:AC}{a b:A4}{A8:List (El×V)}{k:El}(e:H a=some (.Ds A8))(BF:OO H k b):J6 H a (.ref b) (HQ A8 k):=.inr ⟨A8,k,b,.inl e,rfl,BF,rfl⟩
theorem PR.k{H:AC}{a:A4}{A8:List (Key×V)}{k:Key}{v:V}(e:H a=some (.Aj A8))(AG:A8.length<CG):PR H a (Cm k) v (upd H a (.Aj (putK A8 k v))):=.inl ⟨A8,k,e,rfl,AG,rfl⟩
def PR.t{H:AC}{a b:A4}{A8:List (El×V)}{k:El}{v:V}(e:H a=some (.Ds A8))(BF:OO H k b)(AG:A8.length<CG) :
  PR H a (.ref b) v (upd H a (.Ds (putK A8 k v))):=.inr ⟨A8,k,b,e,rfl,BF,AG,rfl⟩
section
variable{X:Ao}{pins:List (A4×Obj)}{σ :St}{H:AC}{s:AM}{a:A4}{y v:V}{u r:A6}{o:Option V}{A:D4}{E:A6->AM->Prop}
def Inv.big(J:Inv X pins σ H s):Jy<s.heap.objs.size:=by have h:FG<s.heap.objs.size:=(J.mod.glob.keeps J.BU).lt;exact eo (by decide) h
def hD{Q:A6->AM->Prop}(BI:A.units+16<Dp)(J:Inv X pins σ H s)(g:J6 H a y (some v))(Bf:RelV y u)(h:∀CR s',Inv X pins σ H s'->RelV v CR->Q CR s') :
  Ag (Av X.prog X.w) A (PE (.ref a) u) Q E s:=by
 rcases g with⟨A8,k,e,DP,l⟩|⟨A8,k,b,e,DP,BF,l⟩
 .subst DP;obtain⟨z,hd,vs,rel,dd⟩:=NC J.Aw e;obtain⟨CR,hw,IA⟩:=I0.some_of (v:=v) (o:=PF vs k) (by rw[l];exact rel.val k);exact wpAny_getItem_of (Op Bf) dd.mapOf hw (h CR _ (J.tok _) IA)
 .subst DP;cases(show u=Cj b from Bf);obtain⟨z,hd,xs,rel,dd⟩:=RS J.Aw e;obtain⟨CR,hw,IA⟩:=I0.some_of (v:=v) (o:=(atKey xs k).map (·.2)) (by rw[l];exact rel.val k);obtain⟨p,AT,UD⟩:=Option.map_eq_some_iff.mp hw;refine wpAny_getItem_heap (Te (Rt (To (by decide:1<=16) _) BI)) (R0 J.Aw BF) dd AT ?_;rw[UD];exact h CR _ (J.tok _) IA
def ss{Q:A6->AM->Prop}(BI:A.units+16<Dp)(J:Inv X pins σ H s)(g:J6 H a y o)(Bf:RelV y u)(h:∀s',Inv X pins σ H s'->Q (.bool o.isSome) s') :
  Ag (Av X.prog X.w) A (Ft .In u (.ref a)) Q E s:=by
 rcases g with⟨A8,k,e,DP,l⟩|⟨A8,k,b,e,DP,BF,l⟩
 .subst DP;obtain⟨z,hd,vs,rel,dd⟩:=NC J.Aw e;refine wpAny_in_of (Op Bf) hd dd.mapOf ?_;rw[<-(rel.val k).S3,<-l];exact h _ (J.tok _)
 .subst DP;cases(show u=Cj b from Bf);obtain⟨z,hd,xs,rel,dd⟩:=RS J.Aw e;refine wpAny_in_heap (Te (Rt (To (by decide:1<=16) _) BI)) (R0 J.Aw BF) hd dd ?_;have q:=(rel.val k).S3;rw[e_]at q;rw[<-q,<-l];exact h _ (J.tok _)
def su{Q:A6->AM->Prop}(BI:A.units+16<Dp)(J:Inv X pins σ H s)(g:J6 H a y o)(Bf:RelV y u)(h:∀s',Inv X pins σ H s'->Q (.bool (!o.isSome)) s') :
  Ag (Av X.prog X.w) A (Ft .NotIn u (.ref a)) Q E s:=by
 rcases g with⟨A8,k,e,DP,l⟩|⟨A8,k,b,e,DP,BF,l⟩
 .subst DP;obtain⟨z,hd,vs,rel,dd⟩:=NC J.Aw e;refine wpAny_notIn_of (Op Bf) hd dd.mapOf ?_;rw[<-(rel.val k).S3,<-l];exact h _ (J.tok _)
 .subst DP;cases(show u=Cj b from Bf);obtain⟨z,hd,xs,rel,dd⟩:=RS J.Aw e;refine wpAny_notIn_heap (Te (Rt (To (by decide:1<=16) _) BI)) (R0 J.Aw BF) hd dd ?_;have q:=(rel.val k).S3;rw[e_]at q;rw[<-q,<-l];exact h _ (J.tok _)
def UO{h':B8}{t':Nat}{BJ:Et}(J:Inv X pins σ H s)(KO:Uo (H a))(AN:LO a s.heap h')(he:∃q,h'.get? a=some q)(new:Dr X.prog X.w (upd H a BJ) h' a BJ) :
  Inv X pins σ (upd H a BJ) { s with heap:=h',toks:=t' }:=
 J.write (x:=a) (e:=a) KO (.inl rfl) (λb q A2 z=>(AN.2 b A2).trans z) he new
def Xa{P:C5}{w:Bo}{A7:AC}{h':B8}{A8:List (Key×V)}{vs:List (Key×A6)}(z:A8.length<=CG)(hd:(a==Jy)=false)(rel:ES A8 vs)(dd:h'.DictOf (GM P w) a vs) :
  Dr P w A7 h' a (.Aj A8):=⟨z,hd,vs,rel,dd⟩
def sJ{A7:AC}{Q:Unit->AM->Prop}(BI:A.units+16<Dp)(J:Inv X pins σ H s)(g:PR H a y v A7)(Bf:RelV y u)(C6:RelV v r)(h:∀s',Inv X pins σ A7 s'->Q () s') :
  Ag (Av X.prog X.w) A (setItem (.ref a) u r) Q E s:=by
 rcases g with⟨A8,k,e,DP,l,Cg⟩|⟨A8,k,b,e,DP,BF,l,Cg⟩
 .subst DP Cg;obtain⟨z,hd,vs,rel,dd⟩:=PN J.Aw e;have hz:vs.length<=CG:=by rw[<-rel.length];exact z
  have AG:(putK A8 k v).length<=CG:=by have:=bU A8 k v;lia
  refine wpAny_setItem_pairs (hsz:=hz) (Op Bf) dd λh' Ku AN=>h _ ?_;have he:∃q,h'.get? a=some q:=let⟨q,_,_,AX,_⟩:=Ku;⟨q,AX⟩
  exact UO J (by rw[e];exact Ht) AN he (Xa AG hd (rel.put k C6) Ku)
 .subst DP Cg;cases(show u=Cj b from Bf);obtain⟨z,hd,xs,rel,dd⟩:=RS J.Aw (.inl e);have hz:xs.length<=CG:=by rw[<-Paired.length rel];exact z
  have AG:(putK A8 k v).length<=CG:=by have:=bU A8 k v;lia
  refine wpAny_setItem_heap (hsz:=hz) (Te (Rt (To (by decide:1<=16) _) BI)) (R0 J.Aw BF) dd λh' Ku AN=>h _ ?_;obtain⟨q,es,An,AX,h2,BH,Cs,_,Ez⟩:=Ku;refine UO J (by rw[e];exact Ht) AN ⟨q,AX⟩ ⟨AG,hd,_,(rel.put k BF C6).keeps λc ys ec=>?_,q,es,An,AX,h2,BH,Cs,Ez⟩;rw[D6 (zf ec e (λz=>nomatch z))];exact ec
end
section
variable{X:Ao}{pins:List (A4×Obj)}{σ :St}{H:AC}{s:AM}{a:A4}{A8:List (Key×V)}{k:Key}{u:A6}{A:D4}{E:A6->AM->Prop}
def agw{Q:Unit->AM->Prop}(J:Inv X pins σ H s)(e:H a=some (.Aj A8))(Bf:RelV (Cm k) u)(l:(HQ A8 k).isSome=true)(h:∀s',Inv X pins σ (upd H a (.Aj (MR A8 k))) s'->Q () s') :
  Ag (Av X.prog X.w) A (delItem (.ref a) u) Q E s:=by
 obtain⟨z,hd,vs,rel,dd⟩:=PN J.Aw e
 refine wpAny_delItem_slot dd.typeIs (by decide) qY
  (Tv qY dd.typeIs PySem.F.entry_dict_delitem (PySem.F.args_dict_delitem_2 _ _) (meets_dict_delitem_pairs (GM X.prog X.w) a (Op Bf)) ⟨vs,dd,by rw[<-rel.length];exact z,by rw[<-(rel.val k).S3];exact l,λh' Ku AN=>h _ ?_⟩)
 have he:∃q,h'.get? a=some q:=let⟨q,_,_,AX,_⟩:=Ku;⟨q,AX⟩
 exact UO J (by rw[e];exact Ht) AN he (Xa (I_ (iK A8 k) z) hd (rel.drop k) Ku)
def sv{v:V}{more:List A6}{Q:A6->AM->Prop}(J:Inv X pins σ H s)(e:H a=some (.Aj A8))(Bf:RelV (Cm k) u)(l:HQ A8 k=some v)(hm:more=[]\/∃x,more=[x])(h:∀CR s',Inv X pins σ (upd H a (.Aj (MR A8 k))) s'->RelV v CR->Q CR s'):Ag (Av X.prog X.w) A (call (.builtin "dict.pop") (.ref a::u::more)) Q E s:=by
 obtain⟨z,hd,vs,rel,dd⟩:=PN J.Aw e;obtain⟨CR,hw,IA⟩:=I0.some_of (v:=v) (o:=PF vs k) (by rw[<-l];exact rel.val k);have AT:(keyPart u).isSome=true:=by
  cases k with
  |inl i=>obtain⟨t,q⟩:=(show ∃t,u=Rz i t from Bf);subst q;rfl
  |inr x=>obtain⟨t,q⟩:=(show ∃t,u=S0 x t from Bf);subst q;rfl
 have AE:argsOk "dict.pop" ⟨.ref a::u::more,[]⟩:=by
  rcases hm with q|⟨x,q⟩
  .subst q;exact PySem.F.args_dict_pop_2 _ _
  .subst q;exact PySem.F.args_dict_pop_3 _ _ _
 refine Tv qM dd.typeIs PySem.F.entry_dict_pop AE (meets_dict_pop_there (GM X.prog X.w) a (Op Bf) more hm AT)
  ⟨vs,CR,dd,by rw[<-rel.length];exact z,hw,λh' Ku AN=>h CR _ ?_ IA⟩
 have he:∃q,h'.get? a=some q:=let⟨q,_,_,AX,_⟩:=Ku;⟨q,AX⟩
 exact UO J (by rw[e];exact Ht) AN he (Xa (I_ (iK A8 k) z) hd (rel.drop k) Ku)
end
def fL(i:Al):Prop:=∀CO Gc,XH i false CO Gc=operate [CO,Gc] (PE CO Gc)
def aeM{prog:C5}{w:Bo}{A:D4}{E:A6->AM->Prop}{s:AM}{env:Env}{value slice:Al}{pos:Pos}{T id:String}{Q:A6->AM->Prop}(AG:typeLookup (.type T) "__getitem__"=pure (some (.builtin id)))(AN:fL slice)(h:Ag (Av prog w) A (BZ value env) (λo Cq=>Ag (Av prog w) A (BZ slice env) (λi JR=>JR.TypeIs o T/\Ag (Av prog w) A (PE o i) Q E JR) E Cq) E s) :
  Ag (Av prog w) A (BZ (.Subscript value slice pos) env) Q E s:=by
 refine Subscript_ (HB h (λo Cq L3=>HB L3 (λi JR Mt=>?_) λ_ _ x=>x) λ_ _ x=>x);obtain⟨ET,Mt⟩:=Mt;unfold subscriptTail;refine AU ?_;rw[getitemInPython_of_ne ET.not_modules];refine AU (eP ET AG ?_);have fin:Ag (Av prog w) A (XH slice false o i) (λr Ps=>Ag (Av prog w) A (letTemporaryGo value o r>>=λ_=>pure r) Q E Ps) E JR:=by rw[AN o i];exact wpAny_operating (HB Mt (λr Ps Nd=>AU (wpAny_letTemporaryGo (BP Nd))) λ_ _ x=>x)
 first
  |exact BP (AU fin)
  |exact AU (BP (AU fin))
  |exact AU fin
def gZ{X:Ao}{pins:List (A4×Obj)}{σ :St}{H:AC}{s:AM}{a:A4}{y:V}{o:Option V}(J:Inv X pins σ H s)(g:J6 H a y o):s.TypeIs (.ref a) "dict":=by
 rcases g with⟨A8,k,e,_,_⟩|⟨A8,k,b,e,_,_,_⟩
 .obtain⟨_,_,vs,_,dd⟩:=NC J.Aw e;exact dd.typeIs
 .obtain⟨_,_,xs,_,dd⟩:=RS J.Aw e;exact dd.typeIs
def oZ(Hc ty:TE):TE:=λσ H Q=>Hc σ H λx H1=>ty σ H1 λy AS=>∃a v,x=.ref a/\J6 AS a y (some v)/\Q v AS
def me(Hc ty KY:TE):Eu:=λD σ H=>KY σ H λv H1=>Hc σ H1 λx AS=>ty σ AS λy Bx=>∃a Cy,x=.ref a/\PR Bx a y v Cy/\D.AR σ Cy
section
variable{X:Ao}{o i e value:Al}{pos pos' WV:Pos}{Hc ty KY:TE}
def aao(BI:X.A.units+16<Dp)(ho:Ae X o Hc)(AB:Ae X i ty)(AN:fL i):Ae X (.Subscript o i pos) (oZ Hc ty):=by intro pins s σ H Q J h;refine aeM PySem.F.slot_dict_getitem.lookup AN (BN (ho pins s σ H _ J h) λu s1⟨x,H1,Ab,At,q1⟩=>BN (AB pins s1 σ H1 _ Ab q1) λGc s2⟨y,AS,BS,Bf,a,v,ex,g,q2⟩=>?_);subst ex;obtain rfl:u=Cj a:=At;exact⟨gZ BS g,hD BI BS g Bf λCR s3 D8 IA=>⟨v,AS,D8,IA,q2⟩⟩
def abh(BI:X.A.units+16<Dp)(ho:Ae X o Hc)(AB:Ae X i ty)(B_:Ae X value KY)(AN:Nz value (some (.Subscript o i pos')) pos.line X.env=pure false) :
  DT X (.Assign [.Subscript o i pos'] value pos) (me Hc ty KY):=by
 intro pins s σ H D J h;refine wpAny_Assign_Subscript (BN (B_ pins s σ H _ J h) λr s1⟨v,H1,Ab,C6,q1⟩=>BN (ho pins s1 σ H1 _ Ab q1) λu s2⟨x,AS,BS,At,q2⟩=>BN (AB pins s2 σ AS _ BS q2) λGc s3⟨y,Bx,D8,Bf,a,Cy,ex,g,Ee⟩=>?_) AN;subst ex;obtain rfl:u=Cj a:=At;exact sJ BI D8 g Bf C6 λs4 M4=>⟨σ,Cy,M4,Ee⟩
end
def g_{P:C5}{w:Bo}{H:AC}(h:B8)(A2:Jy<h.objs.size):Dr P w H (h.push { cls:=.type "dict",data:=.dict #[] }) h.objs.size (.Aj []):=
 ⟨ID _,beq_eq_false_iff_ne.mpr (LY (Ei A2)),[],.nil,Heap.DictOf.new h⟩
def tz{P:C5}{w:Bo}{H:AC}(h:B8)(A2:Jy<h.objs.size):Dr P w H (h.push { cls:=.type "dict",data:=.dict #[] }) h.objs.size (.Ds []):=
 ⟨ID _,beq_eq_false_iff_ne.mpr (LY (Ei A2)),[],.nil,_,#[],0,F_ _ rfl,⟨rfl,rfl,rfl⟩,rfl,rfl,Rs⟩
def dn:TE:=λ_ H Q=>∀p,H p=none->Q (.ref p) (upd H p (.Aj []))
def oa:TE:=λ_ H Q=>∀p,H p=none->Q (.ref p) (upd H p (.Ds []))
section
variable{X:Ao}{pos:Pos}
def WD:Ae X (.Dict [] [] pos) dn:=λpins s σ H Q J h=>
 wpAny_Dict_empty ⟨.ref s.heap.objs.size,_,J.laid (a:=s.heap.objs.size) (o:=.Aj []) (t':=s.toks) (λ_ _ q=>Cw _ q) (CB _) (g_ s.heap J.big),rfl,h _ (J.Aw.fresh (CB _))⟩
def aar:Ae X (.Dict [] [] pos) oa:=λpins s σ H Q J h=>
 wpAny_Dict_empty ⟨.ref s.heap.objs.size,_,J.laid (a:=s.heap.objs.size) (o:=.Ds []) (t':=s.toks) (λ_ _ q=>Cw _ q) (CB _) (tz s.heap J.big),rfl,h _ (J.Aw.fresh (CB _))⟩
end
def Zl:List (TE×TE)->St->AC->(List (V×V)->AC->Prop)->Prop
 |[],_,H,Q=>Q [] H
 |(CL,KY)::r,σ,H,Q=>CL σ H λx H1=>KY σ H1 λy AS=>Zl r σ AS λps Bx=>Q ((x,y)::ps) Bx
abbrev gX:List (V×V)->List (A6×A6)->Prop:=Paired λp q=>RelV p.1 q.1/\RelV p.2 q.2
noncomputable def Uq(X:Ao)(pos:Pos)(keys:List (Option Al))(values:List Al)(KX:List (TE×TE)):Prop:=
 ∀(pins:List (A4×Obj))(s:AM)(σ :St)(H:AC)(Q:List (V×V)->AC->Prop),Inv X pins σ H s->Zl KX σ H Q->
  Ag (Av X.prog X.w) X.A (evalPairs (pairTrees keys values X.env pos)) (λvs s'=>∃ps A7,Inv X pins σ A7 s'/\gX ps vs/\Q ps A7) X.Cr s
def abd{X:Ao}{pos:Pos}:Uq X pos [] [] []:=λpins s σ H Q J h=>pairTrees_nil_walk ⟨[],H,J,.nil,h⟩
def abb{X:Ao}{pos:Pos}{k v:Al}{AI:List (Option Al)}{vs:List Al}{CL KY:TE}{KX:List (TE×TE)}(AO:Ae X k CL)(B_:Ae X v KY)(B7:Uq X pos AI vs KX) :
  Uq X pos (some k::AI) (v::vs) ((CL,KY)::KX):=λpins s σ H Q J h=>
 pairTrees_cons_walk (BN (AO pins s σ H _ J h) λu s1⟨x,H1,Ab,At,q1⟩=>BN (B_ pins s1 σ H1 _ Ab q1) λGb s2⟨y,AS,BS,Bf,q2⟩=>
  BN (B7 pins s2 σ AS _ BS q2) λws s3⟨ps,Bx,D8,rel,Ee⟩=>⟨(x,y)::ps,Bx,D8,.cons ⟨At,Bf⟩ rel,Ee⟩)
def Pf(A8 more:List (Key×V)):List (Key×V):=more.foldl (λacc Bv=>putK acc Bv.1 Bv.2) A8
def ES.merge:∀{more:List (Key×V)}{rs:List (Key×A6)}{A8:List (Key×V)}{vs:List (Key×A6)},ES more rs->ES A8 vs->ES (Pf A8 more) (merged vs rs):=by
 intro more rs A8 vs r;unfold ES at r;induction r generalizing A8 vs with
 |nil=>intro q;exact q
 | @cons p q ps EV h t C9=>
   intro WJ;have e:ES (putK A8 p.1 p.2) (stored vs q.1 q.2):=by have:=WJ.put p.1 h.2;rw[<-h.1];exact this
   exact C9 e
theorem kQ:∀(more A8:List (Key×V)),(Pf A8 more).length<=A8.length+more.length
 |[],A8=>by show A8.length<=A8.length+0;lia
 |p::r,A8=>by have h1:=kQ r (putK A8 p.1 p.2);have h2:=bU A8 p.1 p.2;show(Pf (putK A8 p.1 p.2) r).length<=_;rw[Df];lia
theorem gr{P:C5}{w:Bo}:∀{A8:List (Key×V)}{ws:List (A6×A6)},gX (A8.map λBv=>(Cm Bv.1,Bv.2)) ws->∃rs,Carries (GM P w) ws rs/\ES A8 rs
 |[],_,r=>by rw[Hq]at r;cases r;exact⟨[],Ht,.nil⟩
 |p::A8,_,r=>by
  rw[D3]at r;cases r with
  | @cons a b as bs h t=>obtain⟨rs,c,q⟩:=gr (P:=P) (w:=w) t;obtain⟨D_,FX⟩:=b;exact⟨(p.1,FX)::rs,⟨Op h.1,rfl,c⟩,.cons ⟨rfl,h.2⟩ q⟩
noncomputable def o5(KX:List (TE×TE)):TE:=λσ H Q=>∀p,H p=none->Zl KX σ (upd H p (.Aj [])) λps AS=>AS p=some (.Aj [])/\∃A8:List (Key×V),ps=A8.map (λBv=>(Cm Bv.1,Bv.2))/\A8.length<=15/\Q (.ref p) (upd AS p (.Aj (Pf [] A8)))
def aaq{X:Ao}{pos:Pos}{keys:List (Option Al)}{values:List Al}{KX:List (TE×TE)}(h:Uq X pos keys values KX)(Ud:keys.all (·.isSome)=true)(AG:keys.length=values.length)(h0:keys≠[])(wE:keys.length<=15):Ae X (.Dict keys values pos) (o5 KX):=by
 intro pins s σ H Q J q;have AV:=J.Aw.fresh (CB s.heap.objs.size);have Ab:=J.laid (a:=s.heap.objs.size) (o:=.Aj []) (h':=s.heap.push { cls:=.type "dict",data:=.dict #[] }) (t':=s.toks) (λ_ _ q=>Cw _ q) (CB _) (g_ s.heap J.big);refine wpAny_Dict_walk (knd:=GM X.prog X.w) Ud AG h0 wE (BN (h pins _ σ _ _ Ab (q _ AV)) λws s2⟨ps,AS,BS,rel,e,A8,An,lk,q2⟩=>?_);subst An;obtain⟨rs,c,aca⟩:=gr (P:=X.prog) (w:=X.w) rel;obtain⟨z,hd,ahL,WJ,dd⟩:=PN BS.Aw e;cases WJ;refine⟨rs,c,dd,λh' Ku AN=>⟨.ref s.heap.objs.size,_,?_,rfl,q2⟩⟩;have hz:(Pf [] A8).length<=CG:=by have h1:=kQ A8 [];rw[Es]at h1;rw[LP];lia
 have he:∃q,h'.get? s.heap.objs.size=some q:=let⟨q,_,_,AX,_⟩:=Ku;⟨q,AX⟩
 exact UO BS (by rw[e];exact Ht) AN he (Xa hz hd (aca.merge .nil) Ku)
structure Qe(X:Ao)(o:Al)(m:Str)(apos:Pos)(e:Al)(Da:Pos):Prop where
 base:MA o m X.env (BZ o X.env)=BZ o X.env
 few:((Fj Da (CJ [e] X.env)).all (λx=>!x.1)&&(LV Da (LQ [] X.env)).all (λx=>x.1.isSome)
  &&decide (([e]:List Al).length+([]:List O1).length+(if([]:List O1).isEmpty then 0 else 1)<30))=true
 line:(apos.endLine==Da.line)=true
 trees:Fj Da (CJ [e] X.env)=[(false,BZ e X.env)]
def XZ(H:AC)(a:A4):Prop:=(∃A8,K6 H a (.Aj A8))\/∃A8,K6 H a (.Ds A8)
def bp{X:Ao}{pins:List (A4×Obj)}{σ :St}{H:AC}{s:AM}{a:A4}(J:Inv X pins σ H s)(d:XZ H a) :
  s.TypeIs (.ref a) "dict"/\(∀b,Cj a=.ref b->∃BJ,s.heap.get? b=some BJ/\BJ.dict=none)/\(a==Jy)=false:=by
 rcases d with⟨A8,e⟩|⟨A8,e⟩
 .obtain⟨_,hd,vs,_,dd⟩:=NC J.Aw e;refine⟨dd.typeIs,λb q=>?_,hd⟩;cases q;obtain⟨BJ,_,_,h1,h2,_⟩:=dd;exact⟨BJ,h1,h2.2.1⟩
 .obtain⟨_,hd,xs,_,dd⟩:=RS J.Aw e;refine⟨dd.typeIs,λb q=>?_,hd⟩;cases q;obtain⟨BJ,_,_,h1,h2,_⟩:=dd;exact⟨BJ,h1,h2.2.1⟩
section
variable{X:Ao}{pins:List (A4×Obj)}{σ :St}{H:AC}{s:AM}{a:A4}{y d:V}{u r:A6}{o:Option V}{A:D4}{E:A6->AM->Prop}
def sr{Q:A6->AM->Prop}(BI:A.units+16<Dp)(J:Inv X pins σ H s)(g:J6 H a y o)(Bf:RelV y u)(h:∀CR s',Inv X pins σ H s'->RelV (o.getD .non) CR->Q CR s') :
  Ag (Av X.prog X.w) A (call (.builtin "dict.get") [.ref a,u]) Q E s:=by
 rcases g with⟨A8,k,e,DP,l⟩|⟨A8,k,b,e,DP,BF,l⟩
 .subst DP;obtain⟨z,hd,vs,rel,dd⟩:=NC J.Aw e;refine Tv eM dd.typeIs qV (qR _ _) (meets_dict_get (GM X.prog X.w) a (Op Bf) hd) ⟨_,dd.mapOf,h _ _ (J.tok _) ?_⟩;rw[l];exact(rel.val k).getD rfl
 .subst DP;cases(show u=Cj b from Bf);obtain⟨z,hd,xs,rel,dd⟩:=RS J.Aw e;refine Tv eM dd.typeIs qV (qR _ _) (meetsH_dict_get (tupleKind (GM X.prog X.w)) a b hd) ⟨Te (Rt (To (by decide:1<=16) _) BI),k,xs,R0 J.Aw BF,dd,h _ _ (J.tok _) ?_⟩;rw[l];exact(rel.val k).getD rfl
end
def o_(Hc ty:TE):TE:=λσ H Q=>Hc σ H λx H1=>∃a,x=.ref a/\XZ H1 a/\ty σ H1 λy AS=>∃o,J6 AS a y o/\Q (o.getD .non) AS
def ob(Hc ty:TE):TE:=λσ H Q=>Hc σ H λx H1=>∃a,x=.ref a/\XZ H1 a/\ty σ H1 λy AS=>∃A8 k v,AS a=some (.Aj A8)/\y=Cm k/\HQ A8 k=some v/\Q v (upd AS a (.Aj (MR A8 k)))
section
variable{X:Ao}{o e f:Al}{apos Da:Pos}{Hc ty ahc:TE}
def aap(BI:X.A.units+16<Dp)(ho:Ae X o Hc)(he:Ae X e ty)(m:Qe X o "get" apos e Da):Ae X (.Call (.Attribute o "get" apos) [e] [] Da) (o_ Hc ty):=by intro pins s σ H Q J h;refine ea m.base m.few m.line e7 eM PySem.F.type_dict_get (BN (ho pins s σ H _ J h) λu s1⟨x,H1,Ab,At,a,ex,d,q1⟩=>?_);subst ex;obtain rfl:u=Cj a:=At;obtain⟨t1,Cb,_⟩:=bp Ab d;refine⟨t1,Cb,?_⟩;rw[m.trees];refine Tb rfl (Wh (Ts (BN (he pins s1 σ H1 _ Ab q1) λGc s2⟨y,AS,BS,Bf,CO,g,q2⟩=>Tg ?_)));exact sr BI BS g Bf λCR s3 D8 IA=>⟨_,AS,D8,IA,q2⟩
def aas(ho:Ae X o Hc)(he:Ae X e ty)(m:Qe X o "pop" apos e Da):Ae X (.Call (.Attribute o "pop" apos) [e] [] Da) (ob Hc ty):=by intro pins s σ H Q J h;refine ea m.base m.few m.line e7 qM PySem.F.type_dict_pop (BN (ho pins s σ H _ J h) λu s1⟨x,H1,Ab,At,a,ex,d,q1⟩=>?_);subst ex;obtain rfl:u=Cj a:=At;obtain⟨t1,Cb,_⟩:=bp Ab d;refine⟨t1,Cb,?_⟩;rw[m.trees];refine Tb rfl (Wh (Ts (BN (he pins s1 σ H1 _ Ab q1) λGc s2⟨y,AS,BS,Bf,A8,k,v,BY,DP,l,q2⟩=>Tg ?_)));subst DP;exact sv BS BY Bf l (.inl rfl) λCR s3 D8 IA=>⟨v,_,D8,IA,q2⟩
end
section
variable{X:Ao}{pins:List (A4×Obj)}{σ :St}{H:AC}{s:AM}{a:A4}{A8:List (Key×V)}{A:D4}{E:A6->AM->Prop}
end
section
variable{X:Ao}{pins:List (A4×Obj)}{σ :St}{H:AC}{s:AM}{a:A4}{y:V}{u:A6}{A:D4}{E:A6->AM->Prop}
end
end B6
namespace gH
open PySem PySem.W PySem.Calls PyProof.Rows
def yC{P:Params}{h:B8}:∀(ns:List Int)(vs:List A6),WellAll P h vs (ns.map WData.int)->QY vs ns:=by
 intro ns;induction ns with
 |nil=>intro vs w;rw[Hq]at w;cases w;exact .nil
 |cons n ns C9=>
  intro vs w;rw[D3]at w;cases w with
  |cons a b=>cases a;exact .cons _ _ (C9 _ b)
def acp{l:OpenLaw}{n:Nat}(AV:l.most=some n){P:Params}{h:B8}{args:List WData}{vals:List A6}(Z9:l.row.toRowW.claim.pre args=true)(b_:WellAll P h vals args) :
  ∃a vs ns,vals=[Cj a]/\args=[WData.list (ns.map WData.int)]/\h.get? a=some { cls:=.type "list",data:=.seq vs.toArray }/\QY vs ns/\ns.length<=n:=by
 have xI:WShape.hasAll [] args [.list .int]=true:=(pre_splitW Z9).1;have AH:l.pre.holds [] { args:=args }=true:=(pre_splitW Z9).2;obtain⟨d,r,rfl,h1,h2⟩:=hasAllW_cons xI;obtain rfl:=hasAllW_nil h2;obtain⟨xs,rfl,BH⟩:=hasW_list h1;obtain⟨ns,rfl⟩:=items_int BH;have hlen:ns.length<=n:=by
  unfold OpenLaw.pre at AH;have Cs:(WTm.not (.lt (.lit (.int (n:Int))) (.len (.arg 0)))).holds [] { args:=[.list (ns.map .int)] }=true:=by have Cs:=(holds_andW AH).1;rw[AV]at Cs;exact Cs
  have Ez:=condW_of Cs (w_not (w_lt w_lit (w_len_list (w_arg rfl))));rw[CS]at Ez;refine Nat.le_of_not_lt λq=>?_;have CT:(n:Int)<((ns.length:Nat):Int):=by lia
  first
   |(rw[decide_eq_true CT]at Ez;exact absurd Ez (by decide))
   |(simp at Ez;lia)
 cases b_ with
 |cons G2 Gb=>
  cases Gb;cases G2 with
  |list ho Ud=>exact⟨_,_,ns,rfl,rfl,ho,yC ns _ Ud,hlen⟩
def ab_(l:OpenLaw)(args:List WData):l.row.toRowW.claim.post args (.bool true) args=true:=
 postW_of (r:=l.row.toRowW) (X:=(true==true))
  (show WShape.has [] (.bool true) .bool=true by first|rfl|decide|simp[WShape.has,WShape.arms,WShape.armsAll])
  (show(WTm.eq .res (.lit (.bool true))).value [] { args:=args,res:=some (.bool true),after:=args }=some (.bool (true==true))from w_eq_bool (w_res rfl) w_lit) rfl
def rV {l:OpenLaw} {n:Nat} {q:C5} {loose:List Str} {Kt:(Str->Option A6)->B8->Prop} {MJ:Bo->B8->Prop} {d:DefRec}(AV:l.most=some n) (Rg:d.params.defaults=[])(call:∀(w:Bo)(Fz Cq:AM)(mg Gd:Str->Option A6)(Jh:A4)(o:Obj)(pm cd doc:A6)(a:A4)(vs:List A6)(ns:List Int),
    Ground q loose [] Kt w Fz mg Gd Cq.heap->MJ w Cq.heap->
    Cq.heap.get? Jh=some o->o.data=.func (docDef d.name d.params d.body d.scope pm cd doc)->Cq.heap.CodeRec cd d.name->mg d.name=some (.ref Jh)->
    Cq.heap.get? a=some { cls:=.type "list",data:=.seq vs.toArray }->QY vs ns->ns.length<=n->Cq.gens= #[]->
    MF (Av l.prog w) PG (.call (.ref Jh) ⟨[.ref a],[]⟩) (λr s'=>r=.ok (.ret (.bool true))/\OldK Cq.heap s'.heap/\s'.os=Cq.os/\N8 s'.gens) Cq) :
  WalkO q loose Kt MJ l.row.toRowW d [] (λf vs=>XF f vs):=by
 intro w Fz Cq mg Gd G Y Jh o pm cd doc Y2 Cm ho hd L0 iD cH Ak args vals as Z9 ah8 ahC b_ ah9;obtain rfl:Y2=.none:=Dflts.none iD Rg;obtain rfl:Cm=.none:=Dflts.noKw iD;obtain⟨a,vs,ns,rfl,rfl,cJ,hints,hlen⟩:=acp AV Z9 b_;refine enter_call (QN (call w Fz Cq mg Gd Jh o pm cd doc a vs ns G Y ho (fd_plain hd) L0 cH cJ hints hlen Ak) λr s' AX=>?_);obtain⟨rfl,h2,BH,Cs⟩:=AX;exact⟨.inl ⟨.bool true,.bool true,[],rfl,λ_=>rfl,.bool true,ab_ l _,λ_=>⟨qm,λ_ hm=>(nomatch hm)⟩⟩,h2,BH,Cs⟩
section
variable{prog:C5}{w:Bo}{A:D4}{E:A6->AM->Prop}{s:AM}{K:Frag}
end
end gH
namespace B6
open PySem PySem.Spec PyProof.Rows
theorem pA:∀{vs:List A6}{ns:List Int},QY vs ns->Vals (ns.map V.int) vs
 |_,_,.nil=>.nil
 |_,_,.cons n t h=>.cons ⟨t,rfl⟩ (pA h)
def fN(H:AC):Prop:=∀b,H b=none\/∃o xs,H b=some (.DR o (.lst xs))
def yo{P:C5}{w:Bo}{K:Aq}{mg Gd:Str->Option A6}{CX:LD}{k:Nat}{Jh a:A4}{fd:HX}{x:Str}{sp:Ck}{Cq:AM}{vs:List A6}{ns:List Int}(Hy:K.In Cq.heap)(jS:Cq.heap.Ns FG mg)(A2:Cq.heap.Ns builtinsNs Gd)(wS:∀x:Str,x≠"__name__"->Gd x=Ny x)(w4:Cq.heap.NoLimit)(Ak:Cq.gens= #[])(AE:Cq.heap.get? a=some { cls:=.type "list",data:=.seq vs.toArray })(AB:QY vs ns)(AG:ns.length<=CG)(B7:Cz k PG)(F:∀base:B8,K.In base->base.Ns FG mg->IH P w K mg base CX k Jh fd [x] sp)(wT:∀(s:AM)(u:A6),BindsTo s fd ⟨[u],[]⟩ [(x,u)])(Lh:∀H:AC,fN H->E_ K H a (ns.map V.int)->sp [.ref a] H (λv _=>v=.AL true) λ_ _ _=>False)(aR:∀H e s',CX [] H Cq (λ_ _ _=>False) e s'->False) :
  MF (Av P w) PG (.call (.ref Jh) ⟨[.ref a],[]⟩) (λr s'=>r=.ok (.ret (.bool true))/\OldK Cq.heap s'.heap/\s'.os=Cq.os/\N8 s'.gens) Cq:=by
 have C6:=pA AB;have yy:=AB.length
 have core:∀H:AC,fN H->E_ K H a (ns.map V.int)->Ek P w H Cq.heap->(∀b,H b≠none->b=a)->(H a≠none->K.lookup a=none)->
   MF (Av P w) PG (.call (.ref Jh) ⟨[.ref a],[]⟩) (λr s'=>r=.ok (.ret (.bool true))/\OldK Cq.heap s'.heap/\s'.os=Cq.os/\N8 s'.gens) Cq:=by
  intro H SR Mo Aw Hm AZ;have hR:∀{b:A4}{o:Obj},Cq.heap.get? b=some o->H b=none->(Ol Cq.heap H).get? b=some o:=λe n=>vu e n;have V3:∀{b:A4}{o:Obj}{es:Array LW}{An:Nat},Cq.heap.get? b=some o->o.data=.dict es An->H b=none:=λ{b o es An} e d=>by
   cases q:H b with
   |none=>rfl
   |some u=>have BX:b=a:=Hm b (by rw[q];simp);subst BX;rw[AE]at e;cases e;have d':Data.seq vs.toArray _=Data.dict es An:=d;cases d'
  have Yp:∀{b:A4}{m:Str->Option A6},Cq.heap.Ns b m->(Ol Cq.heap H).Ns b m:=λ{b m}⟨o,es,An,e,d,r⟩=>⟨o,es,An,hR e (V3 e d),d,r⟩;have iF:K.In (Ol Cq.heap H):=λb o e=>hR (Hy b o e) (by
   cases q:H b with
   |none=>rfl
   |some u=>have BX:b=a:=Hm b (by rw[q];simp);subst BX;rw[AZ (by rw[q];simp)]at e;cases e)
  have OR:Mod K mg (Ol Cq.heap H):=⟨iF,Yp jS,⟨Gd,Yp A2,wS⟩,let⟨VT,h1,h2⟩:=w4;⟨VT,Yp h1,h2⟩⟩;have FC:Qb P w K mg (Ol Cq.heap H) PG [] Cq H:=⟨rfl,OR,λb o e=>zW e,Nat.le_of_eq (vv _ _),trivial,λb A2=>absurd (show b∈([]:List A4)from A2) (by simp),Aw,.of_eq Ak⟩;refine QN ((F _ iF (Yp jS)).run PG [] Cq H ⟨[.ref a],[]⟩ [.ref a] [.ref a] _ _ B7 FC (wT Cq (.ref a)) (.cons rfl .nil) (Lh H SR Mo)) λr s' h=>?_;cases r with
  |error e=>exact(aR H e s' h).elim
  |ok Du=>
   cases Du with
   |next=>exact HC h
   |brk=>exact HC h
   |cont=>exact HC h
   |ret u=>
    obtain⟨v,A7,os,bare,un,x9,BW,q⟩:=h;have CT:v=.AL true:=q;subst CT;obtain rfl:u=QU true:=BW;refine⟨rfl,OldK.of_keep λb o e=>?_,os,bare⟩;cases q:H b with
    |none=>exact un.keep b o e q (by intro z;exact absurd (show b∈([]:List A4)from z) (by simp)) (by simp)
    |some u=>
     rcases SR b with z|⟨BJ,xs,z⟩
     .rw[q]at z;cases z
     .have Eg:=un.Hl b BJ _ z;obtain⟨A9,_⟩:=Aw b _ z;obtain⟨AF,_⟩:=x9 b _ Eg;rw[e]at A9;cases A9;exact AF
 cases AO:K.lookup a with
 |some o=>have e:=Hy a o AO;rw[AE]at e;cases e;refine core (λ_=>none) (λ_=>.inl rfl) (.inr ⟨_,vs.toArray,_,AO,rfl,rfl,rfl,by rw[DX,yy];exact AG,by simpa using C6⟩) (λb u z=>by have Fi:(none:Option Et)=some u:=z;cases Fi) (λb z=>absurd rfl z) λz=>absurd rfl z
 |none=>
  refine core (λb=>if b=a then some (.DR { cls:=.type "list",data:=.seq vs.toArray } (.lst (ns.map V.int)))else none) (λb=>?_) (.inl (.inr ⟨{ cls:=.type "list",data:=.seq vs.toArray },if_pos rfl⟩)) (λb u z=>?_) (λb z=>?_) λ_=>AO
  .by_cases A2:b=a
   .exact .inr ⟨_,_,if_pos A2⟩
   .exact .inl (if_neg A2)
  .by_cases A2:b=a
   .have Fi:=(if_pos A2).symm.trans z;cases Fi;subst A2;exact⟨AE,by rw[CS];exact AG,vs,_,C6,AE⟩
   .have Fi:=(if_neg A2).symm.trans z;cases Fi
  .by_cases A2:b=a
   .exact A2
   .exact absurd (if_neg A2) z
def af2 {l:eQ} {n k:Nat} {q:C5} {loose:List Str} {Kt:(Str->Option A6)->B8->Prop} {MJ:Bo->B8->Prop} {d:DefRec} {K:Params->Aq} {CX:Bo->LD} {sp:Bo->Ck} {x:Str}(AV:l.most=some n) (Z6:n<=CG) (Rg:d.params.defaults=[]) (B7:Cz k PG)(Ub:∀(w:Bo)(h:B8),MJ w h->(K w.params).In h)(F:∀(w:Bo)(mg:Str->Option A6)(Jh:A4)(h:B8),(K w.params).In h->h.Ns FG mg->mg d.name=some (.ref Jh)->
    ∃fd:HX,(∀(s:AM)(u:A6),BindsTo s fd ⟨[u],[]⟩ [(x,u)])/\
     ∀base:B8,(K w.params).In base->base.Ns FG mg->IH l.prog w (K w.params) mg base (CX w) k Jh fd [x] (sp w))
  (Lh:∀(w:Bo)(H:AC)(a:A4)(ns:List Int),ns.length<=n->fN H->E_ (K w.params) H a (ns.map V.int)->sp w [.ref a] H (λv _=>v=.AL true) λ_ _ _=>False)
  (aR:∀(w:Bo)(H:AC)(s:AM)(e:A6)(s':AM),CX w [] H s (λ_ _ _=>False) e s'->False) :
  ew q loose Kt MJ l.row.toRowW d [] (λf vs=>XF f vs):=by
 refine gH.rV AV Rg λw Fz Cq mg Gd Jh o pm cd doc a vs ns G Y ho hd L0 cH cJ hints hlen Ak=>?_;have Hy:=Ub w _ Y;obtain⟨fd,A2,iE⟩:=F w mg Jh _ Hy G.T.g cH;exact yo Hy G.T.g G.T.b G.T.builtins G.T.nolimit Ak cJ hints (I_ hlen Z6) B7 iE A2 (λH SR Mo=>Lh w H a ns hlen SR Mo) λH e s'=>aR w H Cq e s'
def inClass(s:BC)(j:Nat):BC:=match s with
 |.ClassDef _ _ _ body _ _ _ _ _ _ _=>body.getD j (.Pass ⟨0,0,0,0⟩)
 |_=>.Pass ⟨0,0,0,0⟩
def Ld(s:BC):Arguments:=match s with
 |.FunctionDef _ a _ _ _ _ _ _ _ _=>a
 |_=>{ posonlyargs:=[],args:=[],vararg:=none,kwonlyargs:=[],kw_defaults:=[],kwarg:=none,defaults:=[] }
def KD(s:BC):List BC:=match s with
 |.FunctionDef _ _ b _ _ _ _ _ _ _=>b
 |_=>[]
def Bs(s:BC):F7:=match s with
 |.FunctionDef _ _ _ _ _ _ sc _ _ _=>sc
 |_=>{ kind:=.function,names:=[],isGenerator:=false,isCoroutine:=false }
abbrev gI:LD:=λ_ _ _ _ _ _=>False
abbrev fp:En:=λ_ _ _=>False
structure OF(K:Aq)(x qual:Str)(st:BC)(f:A4)(fd:HX):Prop where
 ex:∃(GD:A6)(Dy:Option A4)(Cm doc pm:A6)(an:Option A4)(FJ DA:A6)(OU:Array (Option A6)),
  fd=K0 x qual (Ld st) (KD st) (Bs st) .none Cm doc pm an FJ DA/\K.lookup f=some ⟨GD,Dy,.func fd,OU⟩/\N4 K FJ qual=true
 Bc:Jz K (.ref f)=true
section
variable{P:C5}{w:Bo}{K:Aq}{mg:Str->Option A6}{base:B8}
def OF.ok {x qual:Str} {st:BC} {f:A4} {fd:HX} {N ps:List Str} {k:Nat} {sp:Ck} (F:OF K x qual st f fd) (S:C7 N ps (Bs st)) (len:∀vs H Q E,sp vs H Q E->vs.length=ps.length)(c3:∀(FJ:A6)(A:D4)(outer:List Env)(s:AM)(H:AC)(vs:List V)(Q:CK)(E:En),Cz k (A.deeper (O2 qual (Bs st) s.heap.objs.size f FJ))->sp vs H Q E->
    ∃t,Gw (KB gI P w K mg base N qual (Bs st) f FJ A outer s H E).GN (KD st) t/\t { AR:=λ_ A7=>Q .non A7,EA:=Q } (start N vs) H):IH P w K mg base gI (k+1) f fd ps sp:=by
 obtain⟨GD,Dy,Cm,doc,pm,an,FJ,DA,OU,rfl,lk,L0⟩:=F.ex;refine hu lk L0 S len λA outer s H vs Q E B7 Lh=>?_;obtain⟨t,h,q⟩:=c3 FJ A outer s H vs Q E B7 Lh;exact⟨t,h.GN,q⟩
def OF.binds{x qual:Str}{st:BC}{f:A4}{fd:HX}{ps:List Str}(F:OF K x qual st f fd)(h:∀(Cm doc pm:A6)(an:Option A4)(FJ DA:A6)(us:List A6),us.length=ps.length->bindArgs (K0 x qual (Ld st) (KD st) (Bs st) .none Cm doc pm an FJ DA) ⟨us,[]⟩=pure (ps.zip us)):Binds K fd ps []:=by obtain⟨GD,Dy,Cm,doc,pm,an,FJ,DA,OU,rfl,lk,L0⟩:=F.ex;exact .all (h Cm doc pm an FJ DA)
def Ra{x qual:Str}{st:BC}{f:A4}{GD:A6}{Dy an:Option A4}{OU:Array (Option A6)}{Cm doc pm FJ DA:A6}(l:K.lookup f=some ⟨GD,Dy,.func (K0 x qual (Ld st) (KD st) (Bs st) .none Cm doc pm an FJ DA),OU⟩)(c:N4 K FJ qual=true)(k:Jz K (.ref f)=true):OF K x qual st f (K0 x qual (Ld st) (KD st) (Bs st) .none Cm doc pm an FJ DA):=⟨⟨GD,Dy,Cm,doc,pm,an,FJ,DA,OU,rfl,l,c⟩,k⟩
end
section
variable{X:Ao}
end
def PX(H A7:AC):Prop:=∀b o,H b=some o->A7 b=some o
def PX.refl(H:AC):PX H H:=λ_ _ h=>h
def PX.trans{H H1 AS:AC}(a:PX H H1)(b:PX H1 AS):PX H AS:=λc o h=>b c o (a c o h)
def PX.free{H A7:AC}(e:PX H A7){l:A4}(h:A7 l=Option.none):H l=Option.none:=by
 cases q:H l with
 |none=>rfl
 |some o=>rw[e l o q]at h;cases h
section
variable{X:Ao}
end
section
variable{Bj:Type}[DecidableEq Bj]
end
def Hi(env:Env):List (Str×Kd)->List (Str×A4)->List (Str×A4)
 |[],cs=>cs
 |(x,k)::r,cs=>Hi env r (if k==.free then(x,(env.cells.lookup x).getD 0)::cs else cs)
theorem gx{env:Env}:∀(names:List (Str×Kd))(cs:List (Str×A4)),(∀p∈names,p.2=.free->∃c,env.cells.lookup p.1=some c)->
 (forIn (m:=Sem) names cs λ(x:Str×Kd) cs=>if(x.2==JX)=true then do
   let a <-cellOf env x.1
   pure (P5 ((x.1,a)::cs))else pure (P5 cs))=pure (Hi env names cs)
 |[],cs,_=>rfl
 |(x,k)::r,cs,h=>by
  rw[eR];have C9:=gx (env:=env) r;by_cases AO:k=.free
  .subst AO;obtain⟨c,AH⟩:=h (x,.free) Gq rfl;have A9:cellOf env x=pure c:=by unfold cellOf;rw[AH]
   simp only[beq_self_eq_true,if_true,Hi,A9,AH,Tj,pure_bind];exact C9 _ λp AT=>h p (GF _ AT)
  .have A2:(k==JX)=false:=by simpa using AO
   simp only[A2,M6,if_false,Hi,pure_bind];exact C9 _ λp AT=>h p (GF _ AT)
def gw{env:Env}{scope:F7}(h:∀p∈scope.names,p.2=.free->∃c,env.cells.lookup p.1=some c):closureFor scope env=pure (Hi env scope.names []):=by
 have e:=gx (env:=env) scope.names [] h;unfold closureFor
 refine Eq.trans (b:=(forIn (m:=Sem) scope.names [] λ(x:Str×Kd) cs=>if(x.2==JX)=true then do
   let a <-cellOf env x.1
   pure (P5 ((x.1,a)::cs))else pure (P5 cs))>>=pure) rfl ?_
 rw[e];rfl
theorem gv{env:Env}{x:Str}:∀(names:List (Str×Kd))(cs:List (Str×A4)),(∀p∈names,p.2=.free->∃c,env.cells.lookup p.1=some c)->
  (Hi env names cs).lookup x=if(x,JX)∈names then env.cells.lookup x else cs.lookup x
 |[],cs,_=>by simp[Hi]
 |(y,k)::r,cs,h=>by
  rw[Hi,gv r _ λp AT=>h p (GF _ AT)];by_cases hm:(x,JX)∈r
  .rw[if_pos hm,if_pos (GF _ hm)]
  .rw[if_neg hm];by_cases AO:k=.free
   .subst AO;obtain⟨c,AH⟩:=h (y,.free) Gq rfl;by_cases AK:x=y
    .subst AK;rw[if_pos Gq];simp[Ws,AH]
    .have nm:¬(x,JX)∈(y,JX)::r:=λz=>by
       rcases List.mem_cons.mp z with e|e
       .exact AK (by injection e)
       .exact hm e
     rw[if_neg nm];have A2:(x==y)=false:=by simpa using AK
     simp[Ws,A2]
   .have A2:(k==JX)=false:=by simpa using AO
    have nm:¬(x,JX)∈(y,k)::r:=λz=>by
     rcases List.mem_cons.mp z with e|e
     .exact AO (by injection e with _ AF;exact AF.symm)
     .exact hm e
    rw[if_neg nm];simp[A2]
def sa {prog:C5} {w:Bo} {A:D4} {R:Result->AM->Prop} {s:AM} {elt target iter:Al} {ifs:List Al} {scope:F7} {pos:Pos} {it acc:A6} {env:Env} (J:Nat->AM->Prop)(turn:∀n s,J n s->Ag (Av prog w) A (MG it) (λr Cq=>match r with
    |none=>R (.ok .next) Cq
    |some v=>Ag (Av prog w) A (Wu target it v) (λ_ oR=>Ag (Av prog w) A (Ke target env v) (λ_ JR=>
       Ag (Av prog w) A (forIn ifs true λc r=>if r=true then do let ok <-isTrue c env (BZ c env);pure (P5 ok)else pure (P5 r)) (λok Ps=>
        if ok=true then Ag (Av prog w) A (BZ elt env) (λx Zd=>
         Ag (Av prog w) A (call (.builtin "list.append") [acc,x]) (λ_ oS=>∃m,m<n/\J m oS) (PD (Av prog w) A env λe s'=>R (.error e) s') Zd) (PD (Av prog w) A env λe s'=>R (.error e) s') Ps
        else ∃m,m<n/\J m Ps) (PD (Av prog w) A env λe s'=>R (.error e) s') JR) (PD (Av prog w) A env λe s'=>R (.error e) s') oR) (PD (Av prog w) A env λe s'=>R (.error e) s') Cq) (PD (Av prog w) A env λe s'=>R (.error e) s') s)
  (n:Nat) (h:J n s):MF (Av prog w) A (.compLoop (.ListComp elt [⟨target,iter,ifs,0⟩] scope pos) 0 it acc env) R s:=by
 refine codeAny_loop rfl J (λn s Q0=>?_) n h;show Ag _ A ((compTurn (.ListComp elt [⟨target,iter,ifs,0⟩] scope pos) 0 it acc env).onRaise (λx=>do noteFrame x env;theTreesLotGoes x)) _ _ s;refine wpAny_noted ?_;rw[compTurn_list];refine AU (wpAny_standAt (AU (HB (turn n s Q0) (λr Cq L3=>?_) λ_ _ h'=>h')));cases r with
 |none=>exact BP L3
 |some v=>
  refine AU (HB L3 (λ_ oR xQ=>?_) λ_ _ h'=>h');refine AU (HB xQ (λ_ JR Mt=>AU (HB Mt (λok Ps Nd=>?_) λ_ _ h'=>h')) λ_ _ h'=>h');cases ok with
  |false=>exact BP ⟨rfl,Nd⟩
  |true=>exact AU (AU (HB Nd (λx Zd S1=>AU (HB S1 (λ_ oS H3=>BP (BP ⟨rfl,H3⟩)) λ_ _ h'=>h')) λ_ _ h'=>h'))
abbrev GG(X:Ao)(scope:F7)(N:List Str)(cl:List (Str×A4))(C:A4)(s:AM)(H:AC)(BG:List A4):Ao where
 prog:=X.prog
 w:=X.w
 K:=X.K
 mg:=X.mg
 base:=X.base
 A:=X.A
 N:=N
 Fz:=s
 M3:=H
 env:=compEnvC scope cl C X.env
 outer:=X.stack
 stack:=X.stack
 ex:=BG
 calm:=X.calm
 fn:=λx=>scope.names.lookup x==some .cell
 Cd:=[]
 Cr:=λ_ _=>False
def N9(nl:Nat)(caps:List Nat)(σ :St):St:=Fu nl none++caps.map λj=> σ.getD j none
def YZ:Option Kd->Bool
 |some .cell=>true
 |some .free=>true
 |_=>false
structure M1(sc:F7)(NL:List Str)(scope:F7)(N:List Str)(nl:Nat)(caps:List Nat):Prop where
 kind:scope.kind=.function
 uniq:∀x∈scope.names,scope.names.lookup x.1=some x.2
 free:∀x∈scope.names,x.2=.free->YZ (sc.names.lookup x.1)=true
 len:N.length=nl+caps.length
 tK:∀k j,caps[k]?=some j->∃x,NL[j]?=some x/\N[nl+k]?=some x/\scope.names.lookup x=some .free/\YZ (sc.names.lookup x)=true
noncomputable def UK(sc:F7)(NL:List Str)(scope:F7)(N:List Str)(nl:Nat)(caps:List Nat):Bool:=
 (scope.kind==.function)&&scope.names.all (λx=>scope.names.lookup x.1==some x.2&&(x.2 !=.free||YZ (sc.names.lookup x.1)))&&
 (N.length==nl+caps.length)&&(caps.zipIdx.all λjA=>match NL[jA.1]? with
   |none=>false
   |some x=>N[nl+jA.2]?==some x&&scope.names.lookup x==some .free&&YZ (sc.names.lookup x))
def M1.of{sc:F7}{NL:List Str}{scope:F7}{N:List Str}{nl:Nat}{caps:List Nat}(h:UK sc NL scope N nl caps=true):M1 sc NL scope N nl caps:=by
 unfold UK at h;rw[Hr,Hr,Hr]at h;obtain⟨⟨⟨h1,h2⟩,BH⟩,Cs⟩:=h;rw[Tk]at h2 Cs;refine⟨eq_of_beq h1,λx AK=>?_,λx AK e=>?_,eq_of_beq BH,λk j e=>?_⟩
 .have:=h2 x AK;rw[Hr]at this;exact eq_of_beq this.1
 .have:=h2 x AK;rw[Hr]at this;have q:=this.2;rw[e]at q;simpa using q
 .have m:(j,k)∈caps.zipIdx:=by
    rw[List.mem_zipIdx_iff_getElem?];exact e
  have q:=Cs _ m;dsimp only at q
  split at q
  .cases q
  .rename_i x ex;rw[Hr,Hr]at q;exact⟨x,ex,eq_of_beq q.1.1,eq_of_beq q.1.2,q.2⟩
def M1.locs{sc:F7}{NL:List Str}{scope:F7}{N:List Str}{nl:Nat}{caps:List Nat}(S:M1 sc NL scope N nl caps):∀x∈scope.names,x.2=.local->scope.names.lookup x.1=some .local:=λx AK e=>e▸S.uniq x AK
theorem bG:∀(ns:List (Str×Kd))(n:Nat)(a b:List (Str×A4)),Hs n ns (a++b)=Hs n ns a++b
 |[],_,_,_=>rfl
 |(x,k)::r,n,a,b=>by
  unfold Hs
  split
  .exact bG r (n+1) ((x,n)::a) b
  .exact bG r n a b
theorem Y0{x:Str}{c:A4}:∀(ns:List (Str×Kd))(n:Nat)(a:List (Str×A4)),(x,c)∈Hs n ns a->(x,NameKind.cell)∈ns\/(x,c)∈a
 |[],_,_,h=>.inr h
 |(y,k)::r,n,a,h=>by
  unfold Hs at h
  split at h
  .rename_i AO;rcases Y0 r _ _ h with z|z
   .exact .inl (GF _ z)
   .rcases List.mem_cons.mp z with e|z
    .injection e with A9 AF;subst A9;rw[eq_of_beq AO];exact .inl Gq
    .exact .inr z
  .rcases Y0 r _ _ h with z|z
   .exact .inl (GF _ z)
   .exact .inr z
def zi{M:Model}{A:D4}{E:A6->AM->Prop}{s:AM}{scope:F7}{globals:A4}{cl:List (Str×A4)}{qual:Str}{env:Env}{Q:Env->AM->Prop}(Eh:Q { scope:=scope,locals:=s.heap.objs.size,globals:=globals,cells:=Hs (s.heap.objs.size+1) scope.names cl,qual:=qual,func:=none,code:=env.code,frame:=env.frame,builtins:=env.builtins } { s with heap:=pushCells (s.heap.push { cls:=.type "dict",data:=.dict #[] }) scope.names }) :
  Ag M A (fA scope globals cl [] qual none .none (some env)) Q E s:=by
 simp only[fA,qf,if_true];refine AU (wpAny_alloc ?_);refine AU (wpAny_layCells _ (λname kind cells=>by cases vz:kind==NameKind.cell<;>simp[vz]) _ _ _ _ ?_);rw[show({ s with heap:=s.heap.push { cls:=.type "dict",data:=.dict #[] } }:AM).heap.objs.size=s.heap.objs.size+1 from Kc ..];exact AU (BP (BP Eh))
def cy{scope:F7}{env:Env}{x:Str}{k:Kd}(h:(LZ scope env).names.lookup x=some k):(x,k)∈scope.names\/(k=.cell/\(x,JX)∈scope.names):=by
 have m:=N2 h;obtain⟨⟨y,q⟩,AP,e⟩:=List.mem_map.mp m;dsimp only at e
 split at e
 .rename_i AH;injection e with A9 AF;subst A9;have hf:q=.free:=by
   rw[Hr,Hr]at AH;exact eq_of_beq AH.1.1
  subst hf;exact .inr ⟨AF.symm,AP⟩
 .injection e with A9 AF;subst A9;subst AF;exact .inl AP
noncomputable def WS(IX:TI)(g:Jf)(Gg:TT)(te:TE)(nl:Nat)(caps:List Nat):TE:=λσ H Q=>
 IX σ H λBK H1=>∀acc,H1 acc=none->∃W:Nat->Nat->St->AC->Prop,(∃m,W 0 m (N9 nl caps σ) (upd H1 acc (.lst [])))/\
  ∀i m σ' A7,W i m σ' A7->(BK.stop i A7/\Q (.ref acc) A7)\/
   (BK.go i A7/\∀x AS,BK.W8 i A7 x AS->g x σ' AS λσ2 Bx=>Gg σ2 Bx λb Cy=>
      if b=true then te σ2 Cy λy Dq=>∃ys,Dq acc=some (.lst ys)/\ys.length<CG/\∃E0,E0<m/\W (i+1) E0 σ2 (upd Dq acc (.lst (ys++[y])))
      else ∃E0,E0<m/\W (i+1) E0 σ2 Cy)
section
variable{X:Ao}{elt target iter:Al}{ifs:List Al}{scope:F7}{pos:Pos}{N:List Str}{nl:Nat}{caps:List Nat}{IX:TI}{g:Jf}{Gg:TT}{te:TE}
noncomputable def PV(X:Ao)(ifs:List Al)(t:TT):Prop:=
 ∀(pins:List (A4×Obj))(s:AM)(σ :St)(H:AC)(Q:Bool->AC->Prop),Inv X pins σ H s->t σ H Q->
  Ag (Av X.prog X.w) X.A (forIn ifs true λc r=>if r=true then do let ok <-isTrue c X.env (BZ c X.env);pure (P5 ok)else pure (P5 r)) (X_ X pins σ Q) X.Cr s
def adZ:TT:=λ_ H Q=>Q true H
def abU:PV X [] adZ:=λ_ _ _ H _ J h=>wpAny_tests_nil ⟨H,J,h⟩
def abu{c:Al}{t:TT}(h:EJ X c t):PV X [c] t:=λpins s σ H Q J hw=>wpAny_tests_one (h pins s σ H Q J hw)
def yD{pins:List (A4×Obj)}{σ :St}{H:AC}{s s4:AM}{cl:List (Str×A4)}{BG:List A4}(S:M1 X.env.scope X.N scope N nl caps)(J:Inv X pins σ H s)(k1:∀x c,cl.lookup x=some c->X.env.cells.lookup x=some c\/(scope.names.lookup x=some .cell/\s.heap.objs.size<c/\s4.heap.IsCell c none))(k2:∀x,(x,JX)∈scope.names->cl.lookup x=X.env.cells.lookup x)(k3:∀x,scope.names.lookup x=some .cell->∃c,cl.lookup x=some c/\s.heap.objs.size<c)(Yb:∀x y c,cl.lookup x=some c->cl.lookup y=some c->x=y)(hf:∀b∈BG,KC X pins H b)(DS:∀b∈BG,b<s.heap.objs.size)(Qu:s4.os=s.os)(Ak:s4.gens=s.gens)(AV:∃m,s4.heap.Ns s.heap.objs.size m)(AO:∀b o,s.heap.get? b=some o->s4.heap.get? b=some o) :
  Inv (GG X scope N cl s.heap.objs.size s H BG) [] (N9 nl caps σ) H s4:=by
 refine⟨⟨J.ok.mod,?_,J.ok.glob,J.ok.blt,CB _,Yb,λx AK=>?_,λx c z e=>?_,J.ok.hd,J.ok.frames,.inl rfl,λb A2=>⟨Ei (DS b A2),λx c e=>(k1 x c e).elim (λe=>(hf b A2).2.2.2.2.1 x c e) λe=>N3 (eo (DS b A2) e.2.1)⟩,J.bs,I_ J.ok.O5 J.Zb,λb o e A2=>?_,λb A2 AN=>?_,J.stack,J.d8⟩,
  Qu,?_,Fp.kept AO,?_,λx c e=>?_,J.Aw.fresh (CB _),λx c e=>(k1 x c e).elim (J.KF x c) λe=>J.Aw.fresh (QM e.2.1),λp AT=>absurd (show p∈([]:List (A4×Obj))from AT) (by simp),J.Aw.kept AO,?_⟩
 .show(LZ scope X.env).kind=.function;exact S.kind
 .have AK:(LZ scope X.env).names.lookup x=some .cell\/(LZ scope X.env).names.lookup x=some .free:=AK;have hm:(x,JX)∈scope.names\/scope.names.lookup x=some .cell:=by
   rcases AK with h|h
   .rcases cy h with m|⟨_,m⟩
    .exact .inr (S.uniq _ m)
    .exact .inl m
   .rcases cy h with m|⟨e,_⟩
    .exact .inl m
    .cases e
  rcases hm with hm|hm
  rotate_left
  .obtain⟨c,e,_⟩:=k3 x hm;exact⟨c,e⟩
  have AX:=S.free _ hm rfl;have AH:∃c,X.env.cells.lookup x=some c:=by
   apply J.ok.has x;show X.env.scope.names.lookup x=some .cell\/X.env.scope.names.lookup x=some .free;cases e:X.env.scope.names.lookup x with
   |none=>rw[e]at AX;cases AX
   |some k=>
    rw[e]at AX
    cases k<;>first
     |exact .inl rfl
     |exact .inr rfl
     |cases AX
  obtain⟨c,e⟩:=AH;exact⟨c,by show cl.lookup x=some c;rw[k2 x hm];exact e⟩
 .obtain⟨G6,BX,q⟩:=k3 x (eq_of_beq z);rw[show cl.lookup x=some c from e]at BX;cases BX;exact QM q
 .rcases(hf b A2).2.2.2.1 with z|z
  .exact J.ok.Ph b o e z
  .exact absurd (G3 (DB (J.ok.bs b o e).1) z) (Iy _)
 .rcases List.mem_cons.mp (J.Z_ b AN)with z|z
  .exact(hf b A2).2.1 z
  .exact(hf b A2).2.2.1 z
 .rw[Ak];exact J.bare
 .obtain⟨m,AV⟩:=AV;refine⟨m,AV,λi x v h1 h2 BH=>?_⟩;have hN:N[i]?=some x:=h1;unfold N9 at h2;by_cases AB:i<nl
  .rw[Gs (by simpa using AB),Wn,if_pos AB]at h2;cases h2
  .rw[N1 (by simpa using AB),Td,Ed]at h2;cases e:caps[i-nl]? with
   |none=>rw[e]at h2;cases h2
   |some j=>
    rw[e]at h2;have h2: σ.getD j none=some v:=GU h2;obtain⟨y,A9,AF,aY,O9⟩:=S.tK _ _ e;have Dh:(y,JX)∈scope.names:=N2 aY;have O8:Y7 X.env.scope y:=by
     cases q:X.env.scope.names.lookup y with
     |none=>rw[q]at O9;cases O9
     |some k=>
      rw[q]at O9
      cases k<;>first
       |exact .inr (.inl q)
       |exact .inr (.inr q)
       |cases O9
    have G7:nl+(i-nl)=i:=by lia
    rw[G7,hN]at AF;cases AF;have AN: σ[j]?=some (some v):=by
     rw[EW]at h2;cases q: σ[j]? with
     |none=>rw[q]at h2;cases h2
     |some o=>rw[q]at h2;exact congrArg some h2
    obtain⟨m0,_,AG⟩:=J.loc;obtain⟨u,r,l⟩:=AG j x v A9 AN O8;refine⟨u,r,.inr ⟨?_,?_⟩⟩
    .show(LZ scope X.env).names.lookup x=some .cell\/(LZ scope X.env).names.lookup x=some .free;rcases BH with BH|BH|BH
     .have BH:(LZ scope X.env).names.lookup x=some .local:=BH;rcases cy BH with z|⟨z,_⟩
      .have Eg:scope.names.lookup x=some .local:=S.locs _ z rfl;rw[Eg]at aY;cases aY
      .cases z
     .exact .inl BH
     .exact .inr BH
    .have AX:X.env.scope.names.lookup x≠some .local:=λz=>by rw[z]at O9;cases O9
     rcases l with⟨z,_⟩|⟨_,c,FP,Eg⟩
     .exact absurd z AX
     .refine⟨c,?_,Eg.keeps AO⟩;show cl.lookup x=some c;rw[k2 x Dh];exact FP
 .rcases k1 x c e with e|e
  .obtain⟨v,z⟩:=J.cell x c e;exact⟨v,z.keeps AO⟩
  .exact⟨_,e.2.2⟩
 .show(N9 nl caps σ).length=N.length;unfold N9;rw[Ej,Td,CS,S.len]
def yF{pins:List (A4×Obj)}{σ σ' :St}{H A7:AC}{s s':AM}{cl:List (Str×A4)}{BG:List A4}{h':B8}(J:Inv X pins σ H s)(hf:∀b∈BG,KC X pins H b)(BK:Inv (GG X scope N cl s.heap.objs.size s H BG) [] σ' A7 s')(AN:LO s.heap.objs.size s'.heap h'):Inv X pins σ A7 { s' with heap:=h' }:=by
 have ne:∀b o,s.heap.get? b=some o->b≠s.heap.objs.size:=λb o e=>Ei (DB e);have u:Fp (Ep X.stack) BG H A7 s.heap s'.heap:=BK.base;have fr:A7 s.heap.objs.size=none:=BK.free;refine J.gq (ch:=BG) (s':={ s' with heap:=h' }) BK.os ⟨λb o e n A2 AK=>(AN.2 b (ne b o e)).trans (u.keep b o e n A2 AK),λb o e n A2 AK=>?_,u.free,λb o e AK=>?_,u.Iw,u.Hl,u.Il⟩ (λb o e=>?_) BK.bare λb A2=>?_
 .obtain⟨Bn,q⟩:=u.slot b o e n A2 AK;exact⟨Bn,(AN.2 b (ne b o e)).trans q⟩
 .obtain⟨o',q⟩:=u.there b o e AK;exact⟨o',(AN.2 b (ne b o e)).trans q⟩
 .refine(BK.Aw b o e).NX (λc v AH q=>(AN.2 c ?_).trans q) (λ_ q=>q) λ_ _ q=>q;rintro rfl;rcases AH with z|z
  .rw[<-z,fr]at e;cases e
  .rw[fr]at z;cases z
 .obtain⟨_,f1,_,Eo,f4,Fx⟩:=hf b A2;exact⟨Eo,f1,f4,Fx⟩
def h3 {pins:List (A4×Obj)} {σ :St} {s2:AM} {AS:AC} {it:A4} {BG:List A4} {HP:Nat->B8->Prop} {BK:It} {E:A6->AM->Prop} {Q:AC->Prop} {W:Nat->Nat->St->AC->Prop} {m0:Nat}(S:M1 X.env.scope X.N scope N nl caps) (AH:X.calm=true) (BS:Inv X pins σ AS s2) (T:Turn X.prog X.w X.K target BK BG it HP) (Ju:HP 0 s2.heap) (f2:∀b∈BG,KC X pins AS b)(Ak:∀cl C s H BG,Gv (GG X scope N cl C s H BG) target g) (Bi:∀cl C s H BG,PV (GG X scope N cl C s H BG) ifs Gg) (he:∀cl C s H BG,Ae (GG X scope N cl C s H BG) elt te)(Jw:W 0 m0 (N9 nl caps σ) (upd AS s2.heap.objs.size (.lst [])))(turn:∀i m σ' A7,W i m σ' A7->(BK.stop i A7/\Q A7)\/
    (BK.go i A7/\∀x Bx,BK.W8 i A7 x Bx->g x σ' Bx λσ2 Cy=>Gg σ2 Cy λb Dq=>
       if b=true then te σ2 Dq λy II=>∃ys,II s2.heap.objs.size=some (.lst ys)/\ys.length<CG/\∃E0,E0<m/\W (i+1) E0 σ2 (upd II s2.heap.objs.size (.lst (ys++[y])))
       else ∃E0,E0<m/\W (i+1) E0 σ2 Dq))
  (Us:A6->A4->Result->AM->Prop)
  (wI:∀(C:A4) s' A7,(∃m,s'.heap.Ns C m)->KC X pins A7 C->(∀h',LO C s'.heap h'->Inv X pins σ A7 { s' with heap:=h' })->Q A7->Us (.ref s2.heap.objs.size) C (.ok .next) s') :
  Ag (Av X.prog X.w) X.A (newList []) (λacc Ps=>Ag (Av X.prog X.w) X.A (fA scope X.env.globals (Hi X.env scope.names []) [] X.env.qual none .none (some X.env)) (λgt Zd=>
   MF (Av X.prog X.w) X.A (.compStart (.ListComp elt [⟨target,iter,ifs,0⟩] scope pos) 0 (.ref it) acc { gt with scope:=LZ scope X.env }) (Us acc gt.locals) Zd) E Ps) E s2:=by
 have Z1:∀p∈scope.names,p.2=.free->∃c,X.env.cells.lookup p.1=some c:=λp AT e=>by
  have q:=S.free p AT e;apply BS.ok.has p.1;show X.env.scope.names.lookup p.1=some .cell\/X.env.scope.names.lookup p.1=some .free;cases AF:X.env.scope.names.lookup p.1 with
  |none=>rw[AF]at q;cases q
  |some k=>
   rw[AF]at q
   cases k<;>first
    |exact .inl rfl
    |exact .inr rfl
    |cases q
 have Rf:∀x,(Hi X.env scope.names []).lookup x=if(x,JX)∈scope.names then X.env.cells.lookup x else none:=λx=>gv scope.names [] Z1
 have hn:AS s2.heap.objs.size=none:=BS.Aw.fresh (CB _);refine LK (zi ?_);dsimp only;have D8:Inv X pins σ (upd AS s2.heap.objs.size (.lst [])) { s2 with heap:=s2.heap.push { cls:=.type "list",dict:=none,data:=.seq ([]:List A6).toArray } }:=BS.c2 (its:=[]) (ys:=[]) (t':=s2.toks) .nil (ID _);generalize cN:({ s2 with heap:=s2.heap.push { cls:=.type "list",dict:=none,data:=.seq ([]:List A6).toArray } }:AM)=s3 at D8;have c8:s2.heap.push { cls:=.type "list",dict:=none,data:=.seq ([]:List A6).toArray }=s3.heap:=by rw[<-cN]
 rw[c8];have jh:∀b o,s2.heap.get? b=some o->s3.heap.get? b=some o:=λb o e=>by rw[<-c8];exact Cw _ e
 have acQ:s3.heap.objs.size=s2.heap.objs.size+1:=by rw[<-c8,Kc]
 have kc:=bG scope.names (s3.heap.objs.size+1) [] (Hi X.env scope.names []);have ok:=cellsFrom_ok scope.names (s3.heap.push { cls:=.type "dict",data:=.dict #[] }) (s3.heap.objs.size+1) [] ⟨λ_ _ hm=>(nomatch hm),qm⟩ (by rw[Kc];exact CB _);have jT:=(Heap.Ns.new s3.heap (.type "dict")).keeps (pushCells_keeps scope.names _);have Yd:∀b o,s3.heap.get? b=some o->(pushCells (s3.heap.push { cls:=.type "dict",data:=.dict #[] }) scope.names).get? b=some o:=λb o e=>pushCells_keeps _ _ b o (Cw _ e);rw[Kc]at ok;rw[N7]at kc;rw[kc];generalize pushCells (s3.heap.push { cls:=.type "dict",data:=.dict #[] }) scope.names=L3 at jT Yd ok |-;have old:∀x c,X.env.cells.lookup x=some c->c<s3.heap.objs.size:=λx c e=>by obtain⟨v,z⟩:=D8.cell x c e;exact z.lt
 have k0:∀x c,(Hs (s3.heap.objs.size+1) scope.names []++Hi X.env scope.names []).lookup x=some c->((x,c)∈Hs (s3.heap.objs.size+1) scope.names []/\scope.names.lookup x=some .cell/\s3.heap.objs.size<c/\L3.IsCell c none)\/X.env.cells.lookup x=some c:=λx c e=>by
  rw[eA]at e;cases A9:(Hs (s3.heap.objs.size+1) scope.names []).lookup x with
  |some G6=>
   rw[A9]at e;have e:G6=c:=GU e;subst e;have m:=N2 A9;rcases Y0 _ _ _ m with z|z
   .exact .inl ⟨m,S.uniq _ z,(ok.empty _ _ m).2,(ok.empty _ _ m).1⟩
   .cases z
  |none=>
   rw[A9]at e;have e:(Hi X.env scope.names []).lookup x=some c:=e;rw[Rf]at e
   split at e
   .exact .inr e
   .cases e
 have k2:∀x,(x,JX)∈scope.names->(Hs (s3.heap.objs.size+1) scope.names []++Hi X.env scope.names []).lookup x=X.env.cells.lookup x:=λx AK=>by
  rw[eA];cases A9:(Hs (s3.heap.objs.size+1) scope.names []).lookup x with
  |some G6=>
   rcases Y0 _ _ _ (N2 A9)with z|z
   .have q1:=S.uniq _ z;have q2:=S.uniq _ AK;dsimp only at q1 q2;rw[q1]at q2;cases q2
   .cases z
  |none=>show(Hi X.env scope.names []).lookup x=_;rw[Rf,if_pos AK]
 have k3:∀x,scope.names.lookup x=some .cell->∃c,(Hs (s3.heap.objs.size+1) scope.names []++Hi X.env scope.names []).lookup x=some c/\s3.heap.objs.size<c:=λx AK=>by obtain⟨c,e⟩:=bF (n:=s3.heap.objs.size+1) AK;exact⟨c,by rw[eA,e];rfl,(ok.empty _ _ (N2 e)).2⟩
 have Yb:∀x y c,(Hs (s3.heap.objs.size+1) scope.names []++Hi X.env scope.names []).lookup x=some c->(Hs (s3.heap.objs.size+1) scope.names []++Hi X.env scope.names []).lookup y=some c->x=y:=λx y c h1 h2=>by
  rcases k0 x c h1 with FP|FP<;>rcases k0 y c h2 with Eg|Eg
  .exact name_of_addr ok.apart FP.1 Eg.1
  .exact absurd (old y c Eg) (Nat.not_lt_of_gt FP.2.2.1)
  .exact absurd (old x c FP) (Nat.not_lt_of_gt Eg.2.2.1)
  .exact D8.ok.inj x y c FP Eg
 have k1:∀x c,(Hs (s3.heap.objs.size+1) scope.names []++Hi X.env scope.names []).lookup x=some c->X.env.cells.lookup x=some c\/(scope.names.lookup x=some .cell/\s3.heap.objs.size<c/\L3.IsCell c none):=λx c e=>(k0 x c e).elim (λz=>.inr z.2) .inl;generalize Hs (s3.heap.objs.size+1) scope.names []++Hi X.env scope.names []=cl at k0 k1 k2 k3 Yb |-;have jR:∀b∈BG,b<s2.heap.objs.size:=λb A2=>by obtain⟨o,e,_⟩:=T.obj 0 _ Ju b A2;exact DB e
 have Eo:∀b∈BG,KC X pins (upd AS s2.heap.objs.size (.lst [])) b:=λb A2=>by obtain⟨HD,a1⟩:=f2 b A2;exact⟨by rw[D6 (Ei (jR b A2))];exact HD,a1⟩
 have cF:∀b∈BG,b<s3.heap.objs.size:=λb A2=>by rw[acQ];exact X0 (jR b A2)
 have loop:∀s4:AM,s4={ s3 with heap:=L3 }->
   MF (Av X.prog X.w) X.A (.compLoop (.ListComp elt [⟨target,iter,ifs,0⟩] scope pos) 0 (.ref it) (.ref s2.heap.objs.size) (compEnvC scope cl s3.heap.objs.size X.env))
    (Us (.ref s2.heap.objs.size) s3.heap.objs.size) s4:=by
  intro s4 Sa;have M4:Inv (GG X scope N cl s3.heap.objs.size s3 (upd AS s2.heap.objs.size (.lst [])) BG) [] (N9 nl caps σ) (upd AS s2.heap.objs.size (.lst [])) s4:=
   yD S D8 (by rw[Sa];exact k1) k2 k3 Yb Eo cF (by rw[Sa]) (by rw[Sa]) ⟨_,by rw[Sa];exact jT⟩ (by rw[Sa];exact Yd)
  have aeB:HP 0 s4.heap:=T.keep 0 _ _ Ju λb A2 o e=>by rw[Sa];exact Yd b o (jh b o e)
  generalize Lg:GG X scope N cl s3.heap.objs.size s3 (upd AS s2.heap.objs.size (.lst [])) BG=B at M4;have stat:∀{A7:AC},(∀b∈BG,A7 b=none)->∀b∈BG,KC B [] A7 b:=λ{A7} AV b A2=>by
   subst Lg;obtain⟨HD,a1,a2,GT,MK,Lb⟩:=Eo b A2;refine⟨AV b A2,Ei (cF b A2),λz=>?_,.inl A2,λx c e=>?_,λp AT=>absurd (show p∈([]:List (A4×Obj))from AT) (by simp)⟩
   .rcases List.mem_cons.mp (D8.Z_ b z)with q|q
    .exact a1 q
    .exact a2 q
   .rcases k1 x c e with e|e
    .exact MK x c e
    .exact N3 (eo (cF b A2) e.2.1)
  have vr:Gv B target g:=by subst Lg;exact Ak _ _ _ _ _
  have xL:PV B ifs Gg:=by subst Lg;exact Bi _ _ _ _ _
  have vn:Ae B elt te:=by subst Lg;exact he _ _ _ _ _
  have UQ:B.prog=X.prog:=by subst Lg;rfl
  have Cp:B.w=X.w:=by subst Lg;rfl
  have iN:B.K=X.K:=by subst Lg;rfl
  have NE:B.A=X.A:=by subst Lg;rfl
  have aZ:B.env=compEnvC scope cl s3.heap.objs.size X.env:=by subst Lg;rfl
  have iQ:B.calm=true:=by subst Lg;exact AH
  have ta:B.Cr=λ_ _=>False:=by subst Lg;rfl
  rw[<-UQ,<-Cp,<-NE,<-aZ];refine sa (λn s'=>∃i σ' A7,Inv B [] σ' A7 s'/\HP i s'.heap/\(∀b∈BG,A7 b=none)/\W i n σ' A7) ?_ m0 ⟨0,_,_,M4,aeB,λb A2=>(Eo b A2).1,Jw⟩;rintro n s5 ⟨i,σ5,Dq,OH,T2,Yr,ZN⟩;have away:∀{α:Type}{t:Sem α}{gS:α->AM->Prop}{r6:A6->AM->Prop}{OY:AM},Ag (Av B.prog B.w) B.A t gS B.Cr OY->Ag (Av B.prog B.w) B.A t gS r6 OY:=λh=>HB h (λ_ _ q=>q) λe s' z=>by rw[ta]at z;cases z
  rcases turn i n σ5 Dq ZN with⟨stop,q⟩|⟨go,DY⟩
  .have d:=T.done B UQ Cp iN iQ i [] s5 σ5 Dq (PD (Av B.prog B.w) B.A B.env λe s'=>Us (.ref s2.heap.objs.size) s3.heap.objs.size (.error e) s') OH (stat Yr) T2 stop;rw[<-UQ,<-Cp]at d;refine BN d λr s6⟨B7,Qc⟩=>?_;subst B7;refine wI _ s6 Dq ?_ (D8.NG (CB _) ?_) (λh' L1=>?_) q
   .obtain⟨m,AV,_⟩:=Qc.loc;rw[aZ]at AV;exact⟨m,AV⟩
   .have z:=Qc.free;rw[aZ]at z;exact z
   .subst Lg;exact yF D8 Eo Qc L1
  .have d:=T.item B UQ Cp iN iQ i [] s5 σ5 Dq (PD (Av B.prog B.w) B.A B.env λe s'=>Us (.ref s2.heap.objs.size) s3.heap.objs.size (.error e) s') OH (stat Yr) T2 go;rw[<-UQ,<-Cp]at d;refine BN d λr s6⟨u,B7,FD⟩=>?_;subst B7;refine BN FD λ_ s7⟨x,DZ,Kn,Qp,agX,c_,uw⟩=>?_;have rn:=Kn.pinned (stat uw) (T.obj _ _ c_);refine away (BN (vr _ s7 σ5 DZ x u _ rn Qp (DY x DZ agX)) λ_ GO⟨σ8,GX,ro,Pl⟩=>?_);refine away (BN (xL _ GO σ8 GX _ ro Pl) λb CP⟨E1,gL,l4⟩=>?_);have again:∀{σa:St}{OG:AC}{OY:AM},Inv B ([]++WF BG s7.heap) σa OG OY->(∃E0,E0<n/\W (i+1) E0 σa OG)->∃m,m<n/\∃i σ' A7,Inv B [] σ' A7 OY/\HP i OY.heap/\(∀b∈BG,A7 b=none)/\W i m σ' A7:=λ{σa OG OY} ft⟨E0,hm,adz⟩=>by
    refine⟨E0,hm,i+1,σa,OG,ft.ZJ,T.keep _ _ _ c_ λb A2 o e=>(ft.pin (b,o) (IY _ (IY _ (Ym A2 e)))).1,λb A2=>?_,adz⟩;obtain⟨o,e,d⟩:=T.obj _ _ c_ b A2;exact(ft.pin (b,o) (IY _ (IY _ (Ym A2 e)))).2.1
   cases b with
   |false=>exact again gL l4
   |true=>show Ag _ _ (BZ elt B.env) _ _ CP;refine away (BN (vn _ CP σ8 E1 _ gL l4) λagY Di⟨y,gJ,r9,Bf,ys,AE,hz,ad5⟩=>?_);refine away (BN (jq _ Di σ8 gJ (.ref s2.heap.objs.size) [y] (.ref s2.heap.objs.size) [agY] (λ_ gK=>gK=upd gJ s2.heap.objs.size (.lst (ys++[y]))) r9 rfl (.cons Bf .nil) ⟨_,ys,y,rfl,rfl,AE,hz,rfl⟩) λ_ EB⟨z,gK,rB,_,u1⟩=>?_);subst u1;exact again rB ad5
 exact codeAny_compStart_list (loop _ (by rw[<-cN])) (T.self X.A 0 _ _ _ (T.keep 0 _ _ Ju λb A2 o e=>Yd b o (jh b o e)) (loop _ (by rw[<-cN])))
def jN{pins:List (A4×Obj)}{σ :St}{s:AM}{H:AC}(S:M1 X.env.scope X.N scope N nl caps)(J:Inv X pins σ H s):∀p∈scope.names,p.2=.free->∃c,X.env.cells.lookup p.1=some c:=λp AT e=>by
 have q:=S.free p AT e;apply J.ok.has p.1;show X.env.scope.names.lookup p.1=some .cell\/X.env.scope.names.lookup p.1=some .free;cases AF:X.env.scope.names.lookup p.1 with
 |none=>rw[AF]at q;cases q
 |some k=>
  rw[AF]at q
  cases k<;>first
   |exact .inl rfl
   |exact .inr rfl
   |cases q
def lT(S:M1 X.env.scope X.N scope N nl caps)(AH:X.calm=true)(AB:Hg X target iter IX)(Ak:∀cl C s H BG,Gv (GG X scope N cl C s H BG) target g)(Bi:∀cl C s H BG,PV (GG X scope N cl C s H BG) ifs Gg)(he:∀cl C s H BG,Ae (GG X scope N cl C s H BG) elt te)(AN:∀x,P6 iter X.env x=pure x:=by intro _;rfl):Ae X (.ListComp elt [⟨target,iter,ifs,0⟩] scope pos) (WS IX g Gg te nl caps):=by intro pins s σ H Q J h;rw[eval_ListComp];refine wpAny_comprehension_free (use:=none) rfl AN (gw (jN S J)) S.kind S.locs ?_;refine BN (AB pins s σ H _ J h) λv s1 h1=>BN h1 λYa s2 h2=>?_;obtain⟨it,BG,HP,BK,AS,e,BS,T,Ju,f2,k⟩:=h2;subst e;obtain⟨W,⟨m0,Jw⟩,turn⟩:=k s2.heap.objs.size (BS.Aw.fresh (CB _));refine h3 (Q:=λA7=>Q (.ref s2.heap.objs.size) A7) S AH BS T Ju f2 Ak Bi he Jw turn (λacc C=>compPost (Av X.prog X.w) X.A X.Cr none (Gj X pins σ Q) acc C) ?_;intro C s' A7 AV _ Q0 q;obtain⟨m,AV⟩:=AV;exact⟨m,AV,λh' L1=>⟨.ref s2.heap.objs.size,A7,Q0 h' L1,rfl,q⟩⟩
def abf{i:Nat}{y:Str}{py oJ:Pos}(S:M1 X.env.scope X.N scope N nl caps)(AH:X.calm=true)(hN:X.N.Nodup)(AP:X.N[i]?=some y)(AG:X.env.kindOf y=some .local)(AB:Hg X target iter IX)(Ak:∀cl C s H BG,Gv (GG X scope N cl C s H BG) target g)(Bi:∀cl C s H BG,PV (GG X scope N cl C s H BG) ifs Gg)(he:∀cl C s H BG,Ae (GG X scope N cl C s H BG) elt te)(Qv:Nz (.ListComp elt [⟨target,iter,ifs,0⟩] scope pos) (some (.Name y py)) oJ.line X.env=pure true:=by rfl)(AN:∀x,P6 iter X.env x=pure x:=by intro _;rfl):DT X (.Assign [.Name y py] (.ListComp elt [⟨target,iter,ifs,0⟩] scope pos) oJ) (dj (WS IX g Gg te nl caps) (Yu i)):=by
 intro pins s σ H De J h;rw[exec_Assign_Name_used _ _ _ _ Qv];refine AU (wpAny_standAt (AU ?_));show Ag _ X.A (do let _ <-comprehension (.ListComp elt [⟨target,iter,ifs,0⟩] scope pos) scope X.env _ (newList []) false (BZ iter X.env) (some (Ke (.Name y py) X.env))) _ _ s;refine AU (HB (wpAny_comprehension_free (use:=some (Ke (.Name y py) X.env)) (Q:=λ_ s'=>PW X pins De .next s') rfl AN (gw (jN S J)) S.kind S.locs ?_) (λ_ s' AX=>BP (BP AX)) λ_ _ e=>e);refine BN (AB pins s σ H _ J h) λv s1 h1=>BN h1 λYa s2 h2=>?_;obtain⟨it,BG,HP,BK,AS,e,BS,T,Ju,f2,k⟩:=h2;subst e;obtain⟨W,⟨m0,Jw⟩,turn⟩:=k s2.heap.objs.size (BS.Aw.fresh (CB _));refine h3 (Q:=λA7=>De.AR (σ.set i (some (.ref s2.heap.objs.size))) A7) S AH BS T Ju f2 Ak Bi he Jw turn (λacc C=>compPost (Av X.prog X.w) X.A X.Cr (some (Ke (.Name y py) X.env)) (λ_ s'=>PW X pins De .next s') acc C) ?_;intro C s' A7 AV JE Q0 q;obtain⟨m,AV⟩:=AV;show Ag _ X.A (Ke (.Name y py) X.env (.ref s2.heap.objs.size)) _ _ s';have GR:Inv X pins σ A7 s':=Q0 s'.heap (Heap.SameBut.refl _ _);refine wpAny_assign_Name (oP (v:=.ref s2.heap.objs.size) GR hN AP (.inl AG) (show RelV (V.ref _) _ from rfl) (λJr r7 xH=>?_) (.inr AG));obtain⟨a,xG,AE⟩:=xH;obtain⟨PL,Bk,Co,FH,NA,Uy⟩:=JE;have aaN:C≠a:=by
  rcases AE with z|z
  .rw[z];exact Bk
  .exact λw=>NA y a z w.symm
 refine⟨m,AV.sameBut xG aaN,λh' L1=>?_⟩;exact⟨_,A7,r7.turned (t':=Jr.toks) (it:=C) (λb o A2 e=>(L1.2 b A2).trans e) PL Bk FH NA Uy,q⟩
end
structure Se(P:C5)(w:Bo)(outer:List Env)(H A7:AC)(s:AM)(a:A4)(C HD:A6)(B:B8)(s':AM):Prop where
 os:s'.os=s.os
 bare:N8 s'.gens
 un:Fp (Ep outer) [] H A7 s.heap s'.heap
 RZ:Heap.FlyingW B outer a C HD s'.heap
 old:∀b o,s.heap.get? b=some o->H b=none->b∉Ep outer->B.get? b=some o
 Zn:∀b o,s.heap.get? b=some o->b∉Ep outer->∃o',B.get? b=some o'
 Aw:Ek P w A7 B
 AE:A7 a=none
def IE(P:C5)(w:Bo):LD:=λouter H s E e s'=>∃(a:A4)(C HD:A6)(B:B8)(A7:AC),e=.ref a/\Se P w outer H A7 s a C HD B s'/\E C (some a) A7
section
variable{X:Ao}{pins:List (A4×Obj)}{σ :St}{H A7:AC}{s s':AM}{a:A4}{C HD:A6}{B:B8}
def Ek.part(x:Ek X.prog X.w H s.heap)(k:∀b u,(H b).isSome=true->s.heap.get? b=some u->B.get? b=some u):Ek X.prog X.w H B:=λb o e=>
 (x b o e).NX (λc u AH q=>k c u (by rcases AH with rfl|AH<;>simp[*]) q) (λ_ q=>q) λ_ _ q=>q
def i1{env:Env}{outer:List Env}{L:A4}(h:env.frame=some L){b:A4}(A2:b∈Ep (env::outer)):b=L\/b∈Ep outer:=by unfold Ep at A2;rw[Ro,h]at A2;exact List.mem_cons.mp A2
def Inv.yw{M:Model}{A:D4}{E:A6->AM->Prop}{h':B8}{vs:List A6}{Q:Unit->AM->Prop}(J:Inv X pins σ H s)(Fd:X.stack=X.env::X.outer)(Nc:X.env.frame=some X.env.locals)(hex:X.ex=[])(Hm:A.frames=some X.stack)(AK:Heap.MadeExcOf s.heap h' a C vs)(Eh:∀HD B Jr,Se X.prog X.w X.outer X.M3 H X.Fz a C HD B Jr->Q () Jr):Ag M A (leaving X.env (.ref a)) Q E { s with heap:=h' }:=by
 have vx:∀env∈X.stack,∀b,env.frame=some b->b∈Ep X.stack:=λenv he b A2=>List.mem_filterMap.mpr ⟨env,he,A2⟩;have Gn:∀b o,s.heap.get? b=some o->b∉Ep X.stack->(Wt s.heap (Ep X.stack)).get? b=some o:=λb o q n=>qz _ q n;have On:∀b o,X.Fz.heap.get? b=some o->b∉Ep X.outer->b∉Ep X.stack:=λb o q n z=>by
  rw[Fd]at z;rcases i1 Nc z with r|r
  .subst r;exact absurd (G3 (DB q) J.ok.above) (Iy _)
  .exact n r
 have Iv:∀b,b∉X.ex:=λb z=>by rw[hex]at z;cases z
 refine PySem.wpAny_leaves_madeW (base:=Wt s.heap (Ep X.stack)) (h:=s.heap) (by rw[Hm,Fd]) Nc (λb o q=>qd _ q) (by have:=PySem.W.funFrames_hide (as:=Ep X.stack) J.stack vx;rw[Fd]at this |-;exact this) AK λRd t x1 x2 x3 x4=>?_;refine Eh (.ref t) (Wt s.heap (Ep X.stack)) _ ⟨J.os,J.bare,⟨?_,?_,?_,?_,J.base.Iw,J.base.Hl,J.base.Il⟩,x1,?_,?_,?_,?_⟩
 .exact λb o q n A2 _=>x1.1 b o (Gn b o (J.base.keep b o q n A2 (Iv b)) (On b o q A2))
 .intro b o q n A2 _;obtain⟨Bn,q1⟩:=J.base.slot b o q n A2 (Iv b);obtain⟨_,o',CT,Lp⟩:=J.ok.Ji.mem A2;rw[q]at CT;cases CT;obtain⟨Pm,q2⟩:=x4 b _ (AK.keeps b _ q1) Lp;exact⟨Pm,q2⟩
 .exact λb o q n _=>J.base.free b o q n (Iv b)
 .intro b o q _;by_cases A2:b∈Ep X.outer
  .obtain⟨_,o',CT,_⟩:=x1.2.2.1.mem A2;exact⟨o',CT⟩
  .obtain⟨o',CT⟩:=J.base.there b o q (Iv b);exact⟨o',x1.1 b o' (Gn b o' CT (On b o q A2))⟩
 .exact λb o q n A2=>Gn b o (J.base.keep b o q n A2 (Iv b)) (On b o q A2)
 .intro b o q A2;obtain⟨o',CT⟩:=J.base.there b o q (Iv b);exact⟨o',Gn b o' CT (On b o q A2)⟩
 .exact Ek.part (X:=X) (s:=s) J.Aw λb u AN q=>Gn b u q λz=>by rw[J.d8 b z]at AN;cases AN
 .cases q:H a with
  |none=>rfl
  |some o=>
   have k:∀o:Et,Dr X.prog X.w H s.heap a o->∃u,s.heap.get? a=some u:=λo x=>by
    induction o with
    |lst xs=>obtain⟨_,_,_,_,e⟩:=x;exact⟨_,e⟩
    |tup xs=>obtain⟨_,_,_,_,e,_⟩:=x;exact⟨_,e⟩
    |Aj A8=>obtain⟨_,_,_,_,o,_,_,e,_⟩:=x;exact⟨_,e⟩
    |Ds A8=>obtain⟨_,_,_,_,o,_,_,e,_⟩:=x;exact⟨_,e⟩
    |set S n=>obtain⟨o,_,_,_,e,_⟩:=x;exact⟨_,e⟩
    |ins C Bl B1=>obtain⟨_,_,_,e,_⟩:=x;exact⟨_,e⟩
    |own y=>obtain⟨_,e⟩:=x;exact⟨_,e⟩
    |Zo B1=>obtain⟨_,⟨_,_,_,e,_⟩,_⟩:=x;exact⟨_,e⟩
    |ZQ lo AB=>obtain⟨_,_,_,e⟩:=x;exact⟨_,e⟩
    |DR BJ u=>obtain⟨e,_⟩:=x;exact⟨_,e⟩
    |Ob ps=>exact⟨_,(show s.heap.get? a=some _ from x)⟩
    |met f y=>exact⟨_,(show s.heap.get? a=some _ from x)⟩
    |ext φ=>obtain⟨_,⟨_,e⟩,_⟩:=x;exact⟨_,e⟩
   obtain⟨u,e⟩:=k o (J.Aw a o q);rw[AK.new]at e;cases e
def Inv.yx{M:Model}{A:D4}{E:A6->AM->Prop}{Q:Unit->AM->Prop}(J:Inv X pins σ H s)(Fd:X.stack=X.env::X.outer)(Nc:X.env.frame=some X.env.locals)(hex:X.ex=[])(Hm:A.frames=some X.stack)(f:Se X.prog X.w X.stack H A7 s a C HD B s')(Eh:∀Jr,Se X.prog X.w X.outer X.M3 A7 X.Fz a C HD B Jr->Q () Jr):Ag M A (leaving X.env (.ref a)) Q E s':=by
 have On:∀b o,X.Fz.heap.get? b=some o->b∉Ep X.outer->b∉Ep X.stack:=λb o q n z=>by
  rw[Fd]at z;rcases i1 Nc z with r|r
  .subst r;exact absurd (G3 (DB q) J.ok.above) (Iy _)
  .exact n r
 have xB:∀b,b∈Ep X.outer->b∈Ep X.stack:=λb z=>by rw[Fd];unfold Ep;rw[Ro,Nc];exact GF _ z
 have Iv:∀b,b∉X.ex:=λb z=>by rw[hex]at z;cases z
 have no:∀b:A4,b∉([]:List A4):=λb z=>by cases z
 obtain⟨os,bare,un,RZ,old,Zn,Aw,AE⟩:=f;rw[Fd]at RZ;refine PySem.wpAny_leaves_onW (by rw[Hm,Fd]) Nc RZ λRd x1 x2=>?_;refine Eh _ ⟨os.trans J.os,bare,⟨?_,?_,?_,?_,λb xs q=>un.Iw b xs (J.base.Iw b xs q),λb o u q=>un.Hl b o u (J.base.Hl b o u q),?_⟩,x1,?_,?_,Aw,AE⟩
 .exact λb o q n A2 _=>x1.1 b o (old b o (J.base.keep b o q n A2 (Iv b)) (J.base.free b o q n (Iv b)) (On b o q A2))
 .intro b o q n A2 _;obtain⟨Bn,q1⟩:=J.base.slot b o q n A2 (Iv b);obtain⟨_,o',CT,Lp⟩:=J.ok.Ji.mem A2;rw[q]at CT;cases CT;obtain⟨Qq,q2⟩:=un.slot b _ q1 (J.base.free b o q n (Iv b)) (xB b A2) (no b);obtain⟨Pm,Ee⟩:=x2 b _ q2 Lp;exact⟨Pm,Ee⟩
 .intro b o q n _;obtain⟨o',CT⟩:=J.base.there b o q (Iv b);exact un.free b o' CT (J.base.free b o q n (Iv b)) (no b)
 .intro b o q _;by_cases A2:b∈Ep X.outer
  .obtain⟨_,o',CT,_⟩:=x1.2.2.1.mem A2;exact⟨o',CT⟩
  .obtain⟨o',CT⟩:=J.base.there b o q (Iv b);obtain⟨Dm,q2⟩:=Zn b o' CT (On b o q A2);exact⟨Dm,x1.1 b Dm q2⟩
 .intro b ps q;obtain⟨GB,A9⟩:=J.base.Il b ps q;obtain⟨GC,AF⟩:=un.Il b _ A9;exact⟨GB++GC,by rw[AF,e9]⟩
 .exact λb o q n A2=>old b o (J.base.keep b o q n A2 (Iv b)) (J.base.free b o q n (Iv b)) (On b o q A2)
 .intro b o q A2;obtain⟨o',CT⟩:=J.base.there b o q (Iv b);exact Zn b o' CT (On b o q A2)
end
def t_{K:Aq}{h:B8}{C:A4}{Ux:List A6}{newId:String}(X:K.In h)(q:Tx K C Ux newId=true) :
  ∃bm N nm q bs hdct sn sub ab col dd k0 k1 k2 k3 k5 mN,h.get? C=some (excClassObj nm q C N bs bm hdct sn sub ab col dd k0 k1 k2 k3 k5 newId)/\h.Ns N mN/\mN "__init__"=none/\OwnTail h Ux bm:=by
 unfold Tx at q
 split at q
 .rename_i dd cd Bn ho
  split at q
  .rename_i M0 bm k0 k1 k2 k3 n k5 hm AN;simp only[Hr,beq_iff_eq,Bool.not_eq_true']at q;obtain⟨⟨⟨⟨⟨rfl,rfl⟩,jK⟩,Bi⟩,Aw⟩,Z7⟩:=q;obtain⟨nm,bs,mro,ns,qn,hd,sn,sub,ab,col,del⟩:=cd;dsimp only at hm jK Aw Z7;subst hm jK;have xJ:Bn= #[k0,k1,k2,k3,some (.builtin n),k5]:=by
    obtain⟨l⟩:=Bn;simp only at AN;rw[AN]
   subst xJ;exact⟨bm,ns,nm,qn,bs,hd,sn,sub,ab,col,dd,k0,k1,k2,k3,k5,_,X _ _ ho,.of_isNs (PySem.W.isNs_of_in X Aw),PySem.W.nsMap_none_of_in X Aw Z7,PySem.W.tail_of_in X Bi⟩
  .cases q
 .cases q
def p_(X:Ao)(C:A4):Eu:=λ_ σ H=>∀pins s h' a vs,Inv X pins σ H s->Heap.MadeExcOf s.heap h' a (.ref C) vs->X.Cr (.ref a) { s with heap:=h' }
section
variable{X:Ao}{x:Str}{np Da pos Y1:Pos}{C:A4}{Ux:List A6}{B newId yA:String}{m:Str}{j:Nat}
def abn(FB:ExcBaseFacts B newId yA Ux)(q:Tx X.K C Ux newId=true)(hm:X.mg x=some (.ref C))(AH:X.calm=true:=by rfl)(Ak:EI X x:=by rfl)(hd:(x==("__debug__" :Str))=false:=by decide) :
  DT X (.Raise (some (.Call (.Name x np) [.Constant (.str m) j Y1] [] Da)) none pos) (p_ X C):=by
 intro pins s σ H D J h;obtain⟨bm,N,nm,qn,bs,hdct,sn,sub,ab,col,dd,k0,k1,k2,k3,k5,mN,JE,hN,Z7,gW⟩:=t_ J.mod.Oq q;refine wpAny_Raise_call_subT (mN:=mN) (C:=C) (nm:=nm) (q:=qn) (N:=N) (bs:=bs) (bm:=bm) (hdct:=hdct) (sn:=sn) (sub:=sub) (ab:=ab) (col:=col) (dd:=dd) (k0:=k0) (k1:=k1) (k2:=k2) (k3:=k3) (k5:=k5) FB (gW.hasType FB.hasBase) (J.ok.hd AH) rfl Z7 (Vo J Ak hm ⟨rfl,?_⟩ hd);refine Wh (Ts (BN (cf (X:=X) (x:=m) (j:=j) (pos:=Y1) pins s σ H (λ_ H1=>H1=H) J rfl) λu s1⟨v,H1,Ab,Ar,A9⟩=>?_));subst A9;refine Tg ⟨rfl,qN rfl,Ab.BU _ _ JE,hN.keeps Ab.BU,gW.keeps Ab.BU,λh' a AK=>h pins s1 h' a _ Ab AK⟩
def aeT{P:C5}{w:Bo}{K:Aq}{mg:Str->Option A6}{base:B8}{N:List Str}{qual:Str}{scope:F7}{f:A4}{cd:A6}{A:D4}{outer:List Env}{s0:AM}{Bu:AC}{E:En}{σ :St}{H:AC}{De:Ends}(h:∀a,H a=none->E (.ref C) (some a) H):p_ (KB (IE P w) P w K mg base N qual scope f cd A outer s0 Bu E) C De σ H:=λpins s h' a vs J AK=>
 J.yw (C:=.ref C) rfl rfl rfl J.ok.frames AK λHD B Jr Du=>⟨a,.ref C,HD,B,H,rfl,Du,h a Du.AE⟩
def aai{P:C5}{w:Bo}{K:Aq}{mg:Str->Option A6}{base:B8}{N:List Str}{qual:Str}{scope:F7}{f:A4}{cd:A6}{A:D4}{outer:List Env}{s0:AM}{Bu:AC}{E:En} :
  Passes (IE P w) (KB (IE P w) P w K mg base N qual scope f cd A outer s0 Bu E) E:=λpins σ H s e s' J AK=>by
 obtain⟨a,C,HD,B,A7,rfl,Du,Mn⟩:=AK;exact J.yx (X:=KB (IE P w) P w K mg base N qual scope f cd A outer s0 Bu E) rfl rfl rfl J.ok.frames Du λJr ur=>⟨a,C,HD,B,A7,rfl,ur,Mn⟩
end
abbrev tZ(a:A4)(C:A6):Et:=.ext λh=>∃BJ,h.get? a=some BJ/\BJ.cls=C
section
variable{X:Ao}{pins:List (A4×Obj)}{σ :St}{H A7:AC}{s s':AM}{a:A4}{C HD:A6}{B:B8}{Rd:B8}
def Se.inv(f:Se X.prog X.w X.stack H A7 s a C HD B s')(J:Inv X pins σ H s)(st:B.StaysIn Rd)(RX:Rd.FunFrames B X.stack)(up:s'.heap.UpToSlots Rd):Inv X pins σ A7 { s' with heap:=Rd }:=by
 have no:∀b:A4,b∉([]:List A4):=λb z=>by cases z
 refine J.gq (s':={ s' with heap:=Rd }) (ch:=[]) f.os ⟨λb o q n A2 _=>st b o (f.old b o q n A2),λb o q n A2 _=>?_,f.un.free,λb o q _=>?_,f.un.Iw,f.un.Hl,f.un.Il⟩ (f.Aw.kept λb u q=>st b u q) f.bare (λb A2=>nomatch A2)
 .obtain⟨Bn,q1⟩:=f.un.slot b o q n A2 (no b);obtain⟨_,o',CT,Lp⟩:=J.stack.mem A2;rw[q]at CT;cases CT;obtain⟨Pm,q2⟩:=up b _ q1 Lp;exact⟨Pm,q2⟩
 .by_cases A2:b∈Ep X.stack
  .obtain⟨_,o',CT,_⟩:=RX.mem A2;exact⟨o',CT⟩
  .obtain⟨o',CT⟩:=f.Zn b o q A2;exact⟨o',st b o' CT⟩
end
noncomputable def fO(X:Ao)(e:Al)(t:TE)(E:En):Prop:=∀(pins:List (A4×Obj))(s:AM)(σ :St)(H:AC)(Q:CK),Inv X pins σ H s->t σ H Q->
 Ag (Av X.prog X.w) X.A (BZ e X.env) (Gj X pins σ Q) (λx s'=>∃H1 s1,Inv X pins σ H1 s1/\IE X.prog X.w X.stack H1 s1 E x s') s
section
variable{X:Ao}{k:Nat}{f C:A4}{fd:HX}{ps:List Str}{sp:Ck}{E:En}{x:Str}{p pos:Pos}{e:Al}{es:List Al}{t:FV}
end
abbrev Ao.marked(X:Ao)(a:A4):Ao:={ X with A:=X.A.mark (some (.ref a)),calm:=false,Cr:=λ_ _=>False }
section
variable{X:Ao}{pins:List (A4×Obj)}{σ :St}{H A7:AC}{s s':AM}{a:A4}
theorem Ao.Ok.marked(ok:X.Ok)(a:A4):(X.marked a).Ok:=
 ⟨ok.mod,ok.kind,ok.glob,ok.blt,ok.above,ok.inj,ok.has,ok.SF,(λz=>Bool.noConfusion z),ok.frames,ok.WQ,ok.aq,ok.bs,ok.O5,ok.Ph,ok.UU,ok.Ji,ok.Pz⟩
theorem Inv.marked(J:Inv X pins σ H s)(a:A4):Inv (X.marked a) pins σ H s:=⟨J.ok.marked a,J.os,J.bare,J.base,J.loc,J.cell,J.free,J.KF,J.pin,J.Aw,J.len⟩
def Inv.unmarked(ok:X.Ok)(J:Inv (X.marked a) pins σ H s):Inv X pins σ H s:=⟨ok,J.os,J.bare,J.base,J.loc,J.cell,J.free,J.KF,J.pin,J.Aw,J.len⟩
end
section
variable{X:Ao}{i:Nat}{x n:Str}{W:A4}{e:Al}{te:TE}{E:En}{Sr:BC}{T4:List BC}{ts:Eu}{Sv np AT pos:Pos}
end
end B6
namespace B6
open PySem PySem.Spec
section
variable{prog:C5}{w:Bo}{A:D4}{E:A6->AM->Prop}{s:AM}
def zk{it t:A4}{i:Nat}{items:Array A6}{x:A6}{Q:A6->AM->Prop}(hit:s.heap.IsTupleIter it t i)(Bi:s.heap.IsTuple t items)(AK:items[i]?=some x)(Eh:∀h',h'.IsTupleIter it t (i+1)->LO it s.heap h'->Q x { s with heap:=h' }):Ag (Av prog w) A (P4 (.ref it)) Q E s:=by
 obtain⟨o,ho,AH,hd⟩:=id hit;obtain⟨ol,SZ,_,nl,SV⟩:=Bi;unfold P4
 refine AU (QL (name:=QO "__next__") hit.typeIs WZ
  (Nu WZ hit.typeIs qE ?_ (qC _)))
 show Ag _ _ (field (.ref it) 0>>=_) _ _ s;refine AU (JY ho hd (x:=.ref t) rfl ?_);show Ag _ _ (if(Cj t==J1)=true then _ else _) _ _ s;rw[if_neg (show¬((Cj t==J1)=true)from Kb)];show Ag _ _ (field (.ref it) 1>>=_) _ _ s;refine AU (JY ho hd (x:=.int i 0) rfl ?_);show Ag _ _ (seqItems? (.ref t)>>=_) _ _ s;refine AU (N5 SZ SV ?_);simp only[QK,AK];refine AU (XB ho hd (by simp) (BP ⟨x,rfl,BP (Eh _ ?_ (Rm ..))⟩));exact⟨_,Rn _ ho (qO (Wy hd _)),(Obj.cls_mapFields ..).trans AH,by
  rw[Wy hd];simp[MH]⟩
def zj{it t:A4}{i:Nat}{items:Array A6}{Q:A6->AM->Prop}(hh:A.handled=none)(hit:s.heap.IsTupleIter it t i)(Bi:s.heap.IsTuple t items)(AK:items[i]?=none)(Mn:∀h' e,Heap.ExtBut it s.heap h'->(∃o,h'.get? e=some o/\o.cls=.type "StopIteration")->E (.ref e) { s with heap:=h' }):Ag (Av prog w) A (P4 (.ref it)) Q E s:=by
 obtain⟨o,ho,AH,hd⟩:=id hit;obtain⟨ol,SZ,_,nl,SV⟩:=Bi;unfold P4
 refine AU (QL (name:=QO "__next__") hit.typeIs WZ
  (Nu WZ hit.typeIs qE ?_ (qC _)))
 show Ag _ _ (field (.ref it) 0>>=_) _ _ s;refine AU (JY ho hd (x:=.ref t) rfl ?_);show Ag _ _ (if(Cj t==J1)=true then _ else _) _ _ s;rw[if_neg (show¬((Cj t==J1)=true)from Kb)];show Ag _ _ (field (.ref it) 1>>=_) _ _ s;refine AU (JY ho hd (x:=.int i 0) rfl ?_);show Ag _ _ (seqItems? (.ref t)>>=_) _ _ s;refine AU (N5 SZ SV ?_);simp only[QK,AK];refine AU (wpAny_rule (AU (XB ho hd (by simp) ?_)));show Ag _ _ (newExc (.type "StopIteration") []>>=_) _ _ _;refine AU ?_;simp only[newExc,newTuple];refine AU (LK ?_ (by size_fits));refine AU (m:=XC _ _) (wpAny_of_eq (a:=J1) (by first|rfl|(simp only[XC];rfl)) ?_);refine LK ?_ (by size_fits);simp only[raiseNew];refine AU (wpAny_handled ?_)
 first|rw[show A.in1.handled=none from hh]|rw[hh]
 refine AU (BP (wpAny_throw ?_));exact Mn _ _ (((Rm ..).extBut.push _).push _) ⟨_,F_ _ rfl,rfl⟩
def iJ(hh:A.handled=none)(it l:A4)(KH:l≠it)(items:Array A6) :
  Draws prog w A it [it,l] items.size (λi v=>items[i]?=some v) (λi h=>h.IsTupleIter it l i/\h.IsTuple l items) where
 live:=λ_ _ st=>let⟨o,ho,_⟩:=st.1;⟨o,ho⟩
 frame:=λ_ _ _ st AO=>⟨st.1.at λo e=>AO it (by simp) o e,st.2.at λo e=>AO l (by simp) o e⟩
 item:=λi s Q E AB st Eh=>by refine zk st.1 st.2 (x:=items[i]) (by simp[AB]) λh' SX L1=>?_;exact Eh _ h' s.toks (by simp[AB]) ⟨SX,st.2.extBut L1.extBut KH⟩ L1
 done:=λs Q E st Mn=>zj hh st.1 st.2 (by simp) Mn
structure Sl(z TI Bz BB Bm:A4)(f1 f2:List A4):Prop where
 TIz:TI≠z
 TOz:Bz≠z
 TITO:TI≠Bz
 TIi1:TI≠BB
 TIi2:TI≠Bm
 TOi1:Bz≠BB
 TOi2:Bz≠Bm
 i1z:BB≠z
 i2z:Bm≠z
 i12:BB≠Bm
 ar:z∉f1
 i_:Bz∉f1
 td:Bm∉f1
 av:z∉f2
 au:Bz∉f2
 ia:BB∉f2
def Lf{BG:List A4}{n:Nat}{P:Nat->A6->Prop}{St:Nat->B8->Prop}{it b:A4}{h h':B8}{i:Nat}(D:Draws prog w A it BG n P St)(st:St i h)(AN:LO b h h')(A2:b∉BG):St i h':=
 D.frame i h h' st λc AH o e=>AN.extBut c o (λz=>A2 (z▸AH)) e
def agc {z TI Bz BB Bm:A4} {f1 f2:List A4} {DC Dx i:Nat} {OK OL:Nat->A6->Prop} {Jd Je:Nat->B8->Prop} {a b:A6} {Q:A6->AM->Prop} (IG:Draws prog w A BB f1 DC OK Jd) (Hx:Draws prog w A Bm f2 Dx OL Je) (ap:Sl z TI Bz BB Bm f1 f2)(hz:J4 s.heap z TI Bz .none) (Iu:Gu s.heap TI (.ref BB) (.ref Bm)) (JF:Gu s.heap Bz a b) (h1:Jd i s.heap) (h2:Je i s.heap) (CZ:i<DC) (CN:i<Dx)(Eh:∀x y h' CL,OK i x->OL i y->J4 h' z TI Bz (MH s.heap.objs.size)->Gu h' Bz x y->Jd (i+1) h'->Je (i+1) h'->Gu h' s.heap.objs.size x y->h'.objs.size=s.heap.objs.size+1->
    (∀c o,c≠z->c≠Bz->c≠BB->c≠Bm->s.heap.get? c=some o->h'.get? c=some o)->Q (.ref s.heap.objs.size) { s with heap:=h',toks:=CL }) :
  Ag (Av prog w) A (QZ.«zip.__next__» ⟨[.ref z],[]⟩) (λfin s'=>∃v,fin=.done (.ret v)/\Q v s') E s:=by
 show Ag _ _ (field (.ref z) 2>>=_) _ _ _;refine AU (JY hz rfl (x:=.bool false) rfl ?_);show Ag _ _ (field (.ref z) 3>>=_) _ _ _;refine AU (JY hz rfl (x:=.ref TI) rfl ?_);refine AU (N5 Iu rfl ?_);show Ag _ _ (Wc (.ref z)>>=_) _ _ _;refine AU ?_;unfold Wc;refine AU (JY hz rfl (x:=.none) rfl (BP ?_));simp only[if_true];refine AU (wpAny_rule ?_);refine AU (JY hz rfl (x:=.ref Bz) rfl ?_);refine AU (Ru hz (by simp) λL3 Q6 Ms=>?_);replace Q6:J4 L3 z TI Bz .ellipsis:=Q6;refine AU ?_;simp only[List.zipIdx_cons,List.zipIdx_nil,eR,List.forIn_nil];refine AU (AU (X4 ?_));show Ag _ _ (P4 (.ref BB)>>=_) _ _ _;refine AU (IG.item i _ _ _ CZ (Lf IG h1 Ms ap.ar) λx Mt pw AK oQ L2=>BP ?_);have Ua:Gu Mt Bz a b:=L2.extBut _ _ ap.TOi1 (Ms.extBut _ _ ap.TOz JF);refine AU (N5 Ua rfl ?_);refine AU (eE Ua λNd Yx Li=>?_);replace Yx:Gu Nd Bz x b:=Yx;refine AU (wpAny_letGo (BP ?_));refine AU (AU (X4 ?_));show Ag _ _ (P4 (.ref Bm)>>=_) _ _ _;have ae9:Je i Nd:=Lf Hx (Lf Hx (Lf Hx h2 Ms ap.av) L2 ap.ia) Li ap.au;refine AU (Hx.item i _ _ _ CN ae9 λy S1 ahd AP aeL Q4=>BP ?_);have hj:Gu S1 Bz x b:=Q4.extBut _ _ ap.TOi2 Yx;refine AU (N5 hj rfl ?_);refine AU (eE hj λH3 Yy Q5=>?_);replace Yy:Gu H3 Bz x y:=Yy;refine AU (wpAny_letGo (BP (BP ?_)));refine AU (N5 Yy rfl ?_);refine AU (wpAny_newTuple ?_);have hsz:H3.objs.size=s.heap.objs.size:=by rw[Q5.1,Q4.1,Li.1,L2.1,Ms.1]
 have j_:J4 H3 z TI Bz .ellipsis:=Q5.extBut _ _ ap.TOz.symm (Q4.extBut _ _ ap.i2z.symm (Li.extBut _ _ ap.TOz.symm (L2.extBut _ _ ap.i1z.symm Q6)));have w3:∀c o,c≠z->c≠Bz->c≠BB->c≠Bm->s.heap.get? c=some o->H3.get? c=some o:=λc o Bk Co FH NA e=>
  Q5.extBut _ _ Co (Q4.extBut _ _ NA (Li.extBut _ _ Co (L2.extBut _ _ FH (Ms.extBut _ _ Bk e))))
 have ae8:Jd (i+1) H3:=Lf IG (Lf IG (Lf IG oQ Li ap.i_) Q4 ap.td) Q5 ap.i_;have aeA:Je (i+1) H3:=Lf Hx aeL Q5 ap.au;have jX:z<H3.objs.size:=DB j_;show Ag _ _ (q7 (.ref z) (.ref H3.objs.size)>>=_) _ _ _;refine AU ?_;unfold q7;have xP:J4 (H3.push { cls:=.type "tuple",data:=.seq #[x,y] }) z TI Bz .ellipsis:=Cw _ j_;refine AU (Ru xP (by simp) λxS ba cO=>?_);replace ba:J4 xS z TI Bz (MH H3.objs.size):=ba;refine Ru ba (by simp) λUF YT cP=>?_;replace YT:J4 UF z TI Bz (MH H3.objs.size):=YT;have up:∀c o,c≠z->H3.get? c=some o->UF.get? c=some o:=λc o Bk e=>cP.extBut _ _ Bk (cO.extBut _ _ Bk (Cw _ e));have hl:Gu UF H3.objs.size x y:=cP.extBut _ _ (N3 jX) (cO.extBut _ _ (N3 jX) (F_ _ rfl));have jW:UF.objs.size=H3.objs.size+1:=by rw[cP.1,cO.1,Kc]
 rw[hsz]at YT hl jW;refine BP ⟨_,rfl,?_⟩;show Q (.ref H3.objs.size) _;rw[hsz];exact Eh x y UF _ AK AP YT (up _ _ ap.TOz Yy) (IG.frame _ _ _ ae8 λc AH o e=>up c o (λq=>ap.ar (q▸AH)) e) (Hx.frame _ _ _ aeA λc AH o e=>up c o (λq=>ap.av (q▸AH)) e) hl jW λc o Bk Co FH NA e=>up c o Bk (w3 c o Bk Co FH NA e)
def agb{z TI Bz BB Bm:A4}{f1 f2:List A4}{DC Dx i:Nat}{OK OL:Nat->A6->Prop}{Jd Je:Nat->B8->Prop}{a b:A6}{Q:Fin->AM->Prop}(IG:Draws prog w A BB f1 DC OK Jd)(Hx:Draws prog w A Bm f2 Dx OL Je)(ap:Sl z TI Bz BB Bm f1 f2)(hz:J4 s.heap z TI Bz .none)(Iu:Gu s.heap TI (.ref BB) (.ref Bm))(JF:Gu s.heap Bz a b)(h1:Jd i s.heap)(h2:Je i s.heap)(c5:i=DC\/(i<DC/\i=Dx))(Mn:∀h' e CL,(∀c o,c≠z->c≠Bz->c≠BB->c≠Bm->s.heap.get? c=some o->h'.get? c=some o)->(∃o,h'.get? e=some o/\o.cls=.type "StopIteration")->E (.ref e) { s with heap:=h',toks:=CL }) :
  Ag (Av prog w) A (QZ.«zip.__next__» ⟨[.ref z],[]⟩) Q E s:=by
 show Ag _ _ (field (.ref z) 2>>=_) _ _ _;refine AU (JY hz rfl (x:=.bool false) rfl ?_);show Ag _ _ (field (.ref z) 3>>=_) _ _ _;refine AU (JY hz rfl (x:=.ref TI) rfl ?_);refine AU (N5 Iu rfl ?_);show Ag _ _ (Wc (.ref z)>>=_) _ _ _;refine AU ?_;unfold Wc;refine AU (JY hz rfl (x:=.none) rfl (BP ?_));simp only[if_true];refine AU (wpAny_rule ?_);refine AU (JY hz rfl (x:=.ref Bz) rfl ?_);refine AU (Ru hz (by simp) λL3 Q6 Ms=>?_);replace Q6:J4 L3 z TI Bz .ellipsis:=Q6;refine AU ?_;simp only[List.zipIdx_cons,List.zipIdx_nil,eR,List.forIn_nil];refine AU (AU (X4 ?_));show Ag _ _ (P4 (.ref BB)>>=_) _ _ _;have NV:Jd i L3:=Lf IG h1 Ms ap.ar;rcases c5 with A9|⟨CZ,AF⟩
 .subst A9;refine AU (IG.done _ _ _ NV λMt e L2 he=>?_);obtain⟨V5,Qt,Uf⟩:=he;have jY:J4 Mt z TI Bz .ellipsis:=L2 _ _ ap.i1z.symm Q6;have c6:e≠z:=λx=>by subst x;rw[jY]at Qt;cases Qt;simp at Uf
  refine Ru jY (by simp) λNd _ Li=>Mn Nd e s.toks (λc o Bk _ FH _ x=>Li.extBut _ _ Bk (L2 _ _ FH (Ms.extBut _ _ Bk x))) ⟨V5,Li.extBut _ _ c6 Qt,Uf⟩
 .subst AF;refine AU (IG.item _ _ _ _ CZ NV λx Mt pw AK oQ L2=>BP ?_);have Ua:Gu Mt Bz a b:=L2.extBut _ _ ap.TOi1 (Ms.extBut _ _ ap.TOz JF);refine AU (N5 Ua rfl ?_);refine AU (eE Ua λNd Yx Li=>?_);refine AU (wpAny_letGo (BP ?_));refine AU (AU (X4 ?_));show Ag _ _ (P4 (.ref Bm)>>=_) _ _ _;refine AU (Hx.done _ _ _ (Lf Hx (Lf Hx (Lf Hx h2 Ms ap.av) L2 ap.ia) Li ap.au) λS1 e Q4 he=>?_);obtain⟨V5,Qt,Uf⟩:=he;have jZ:J4 S1 z TI Bz .ellipsis:=Q4 _ _ ap.i2z.symm (Li.extBut _ _ ap.TOz.symm (L2.extBut _ _ ap.i1z.symm Q6));have c6:e≠z:=λx=>by subst x;rw[jZ]at Qt;cases Qt;simp at Uf
  refine Ru jZ (by simp) λH3 _ Q5=>Mn H3 e pw (λc o Bk Co FH NA x=>Q5.extBut _ _ Bk (Q4 _ _ NA (Li.extBut _ _ Co (L2.extBut _ _ FH (Ms.extBut _ _ Bk x))))) ⟨V5,Q5.extBut _ _ c6 Qt,Uf⟩
theorem ad4 {z TI Bz BB Bm:A4} {f1 f2:List A4} {DC Dx i:Nat} {OK OL:Nat->A6->Prop} {Jd Je:Nat->B8->Prop} {a b:A6} {Q:Option A6->AM->Prop} (IG:Draws prog w A.in1 BB f1 DC OK Jd) (Hx:Draws prog w A.in1 Bm f2 Dx OL Je) (ap:Sl z TI Bz BB Bm f1 f2)(hz:J4 s.heap z TI Bz .none) (Iu:Gu s.heap TI (.ref BB) (.ref Bm)) (JF:Gu s.heap Bz a b) (h1:Jd i s.heap) (h2:Je i s.heap) (CZ:i<DC) (CN:i<Dx)(Eh:∀x y h' CL,OK i x->OL i y->J4 h' z TI Bz (MH s.heap.objs.size)->Gu h' Bz x y->Jd (i+1) h'->Je (i+1) h'->Gu h' s.heap.objs.size x y->h'.objs.size=s.heap.objs.size+1->
    (∀c o,c≠z->c≠Bz->c≠BB->c≠Bm->s.heap.get? c=some o->h'.get? c=some o)->Q (some (.ref s.heap.objs.size)) { s with heap:=h',toks:=CL }) :
  Ag (Av prog w) A (MG (.ref z)) Q E s:=by
 have ET:s.TypeIs (.ref z) "zip":=⟨_,hz,rfl⟩;unfold MG
 exact AU (X5 (QL (name:=QO "__next__") ET Wv
  (Nu Wv ET F.entry_zip_next
    (agc IG Hx ap hz Iu JF h1 h2 CZ CN λx y h' CL a1 a2 GT MK Lb fW sA sB sC=>BP (Eh x y h' CL a1 a2 GT MK Lb fW sA sB sC)) (F.args_zip_next_1 _))))
theorem ad3{z TI Bz BB Bm:A4}{f1 f2:List A4}{DC Dx i:Nat}{OK OL:Nat->A6->Prop}{Jd Je:Nat->B8->Prop}{a b:A6}{Q:Option A6->AM->Prop}(IG:Draws prog w A.in1 BB f1 DC OK Jd)(Hx:Draws prog w A.in1 Bm f2 Dx OL Je)(ap:Sl z TI Bz BB Bm f1 f2)(hz:J4 s.heap z TI Bz .none)(Iu:Gu s.heap TI (.ref BB) (.ref Bm))(JF:Gu s.heap Bz a b)(h1:Jd i s.heap)(h2:Je i s.heap)(c5:i=DC\/(i<DC/\i=Dx))(Eh:∀h' CL,(∀c o,c≠z->c≠Bz->c≠BB->c≠Bm->s.heap.get? c=some o->h'.get? c=some o)->Q none { s with heap:=h',toks:=CL }):Ag (Av prog w) A (MG (.ref z)) Q E s:=by
 have ET:s.TypeIs (.ref z) "zip":=⟨_,hz,rfl⟩;unfold MG
 refine AU (X5 (QL (name:=QO "__next__") ET Wv
  (Nu Wv ET F.entry_zip_next (agb IG Hx ap hz Iu JF h1 h2 c5 λh' e CL AO he=>?_) (F.args_zip_next_1 _))))
 obtain⟨o,ho,AH⟩:=he;refine AU (eT (T:="StopIteration") (b:=true) ⟨o,ho,AH⟩ isSubtype_stop ?_);exact BP (Eh _ _ AO)
end
def Inv.ZH{X:Ao}{pins:List (A4×Obj)}{σ :St}{H:AC}{s:AM}{h':B8}{t':Nat}{ch:List A4}(J:Inv X pins σ H s)(k:∀b o,b∉ch->s.heap.get? b=some o->h'.get? b=some o)(hf:∀b∈ch,KC X pins H b):Inv X pins σ H { s with heap:=h',toks:=t' }:=by
 have Pg:∀b u,H b=some u->b∉ch:=λb u e z=>by rw[(hf b z).1]at e;cases e
 refine J.step (g':=s.gens) (d':=s.drawn) (ch:=ch) (λb A2=>?_) (λb o _ _ AH e _=>k b o AH e) (λb o _ _ AH e _=>⟨o.slots,k b o AH e⟩) (λ_ _ _ _ n=>n)
  (λb o AH e=>⟨o,k b o AH e⟩) (λ_ _ e=>e) (λ_ _ _ e=>e) (λb ps e=>⟨#[],by rw[e];simp⟩) (λm hm=>?_) (λb u e=>?_) J.bare
 .obtain⟨_,f1,_,Eo,f4,Fx⟩:=hf b A2;exact⟨Eo,f1,f4,Fx⟩
 .obtain⟨o,es,An,ho,r⟩:=hm;exact⟨o,es,An,k _ o (λz=>(hf _ z).2.1 rfl) ho,r⟩
 .refine(J.Aw b u e).NX (λc v AH q=>k c v ?_ q) (λ_ q=>q) λ_ _ q=>q;rcases AH with z|z
  .rw[z];exact Pg b u e
  .exact Pg c _ z
def Inv.pq{X:Ao}{pins:List (A4×Obj)}{σ :St}{H:AC}{s:AM}{h':B8}{t':Nat}{ch:List A4}{T:A4}{xs:List V}{its:List A6}(J:Inv X pins σ H s)(k:∀b o,b∉ch->s.heap.get? b=some o->h'.get? b=some o)(hf:∀b∈ch,KC X pins H b)(ET:s.heap.objs.size<=T)(Bi:eB h' T its.toArray)(C6:Vals xs its)(hz:xs.length<=CG):Inv X pins σ (upd H T (.tup xs)) { s with heap:=h',toks:=t' }:=by
 have Pg:∀b u,H b=some u->b∉ch:=λb u e z=>by rw[(hf b z).1]at e;cases e
 have AV:H T=none:=J.Aw.fresh ET;have neT:∀b o,s.heap.get? b=some o->b≠T:=λb o e=>Ei (G3 (DB e) ET)
 refine J.step (g':=s.gens) (d':=s.drawn) (ch:=ch) (λb A2=>?_) (λb o _ _ AH e _=>k b o AH e) (λb o _ _ AH e _=>⟨o.slots,k b o AH e⟩) (λb o _ e n=>by rw[D6 (neT b o e)];exact n)
  (λb o AH e=>⟨o,k b o AH e⟩) (λb ys e=>by rw[D6 (L9 e AV)];exact e) (λb _ _ e=>by rw[D6 (L9 e AV)];exact e) (λb ps e=>⟨#[],by rw[D6 (L9 e AV),e];simp⟩) (λm hm=>?_) (λb u e=>?_) J.bare
 .obtain⟨_,f1,_,Eo,f4,Fx⟩:=hf b A2;exact⟨Eo,f1,f4,Fx⟩
 .obtain⟨o,es,An,ho,r⟩:=hm;exact⟨o,es,An,k _ o (λz=>(hf _ z).2.1 rfl) ho,r⟩
 .by_cases A2:b=T
  .subst A2;rw[E4]at e;cases e;exact⟨hz,its,C6,Bi⟩
  .rw[D6 A2]at e;refine(J.Aw b u e).NX (λc v AH q=>k c v ?_ q) (λc q=>by rw[D6 (L9 q AV)];exact q) λc ys q=>by rw[D6 (L9 q AV)];exact q
   rcases AH with z|z
   .rw[z];exact Pg b u e
   .exact Pg c _ z
def fy(x:Str):It:=⟨λi _=>i<x.cps.size,λi H v A7=>A7=H/\∃c,x.cps[i]?=some c/\v=.str ⟨#[c]⟩,λi _=>i=x.cps.size⟩
def pG{prog:C5}{w:Bo}{A:D4}(hh:A.handled=none)(J:A4)(x:Str)(t:Tok):Walks prog w A J [J] [J] x.cps.size (SignAt x) (λi h=>h.IsStrIter J (LN x) x t i):=by
 unfold LN;cases AE:x.cps.all (· <128)
 .rw[if_neg Kb];exact Walks.strWide hh J x t
 .rw[if_pos rfl];exact Walks.strAscii hh J x t
def hE{prog:C5}{w:Bo}{A:D4}(hh:A.handled=none)(J:A4)(x:Str)(t:Tok):Draws prog w A J [J] x.cps.size (λi v=>∃c u,x.cps[i]?=some c/\v=.str ⟨#[c]⟩ u) (λi h=>h.IsStrIter J (LN x) x t i):=by
 unfold LN;cases AE:x.cps.all (· <128)
 .rw[if_neg Kb];exact Draws.strWide hh J x t
 .rw[if_pos rfl];exact Draws.strAscii hh J x t
def aeJ(x:Str):["enumerate","zip","dict_itemiterator","dict_reverseitemiterator","odict_iterator","itertools.zip_longest","itertools.pairwise"].contains (LN x)=false:=by
 unfold LN
 split<;>decide
def adp{P:C5}{w:Bo}{K:Aq}{C4:Al}(it:A4)(x:Str)(t:Tok):Turn P w K C4 (fy x) [it] it (λi h=>h.IsStrIter it (LN x) x t i) where
 mem:=by simp
 obj:=λi h st b A2=>by
  have e:b=it:=by simpa using A2
  subst e;obtain⟨o,e,c,d⟩:=st;exact⟨o,e,λv z=>by rw[d]at z;cases z⟩
 keep:=λi h h' st k=>by obtain⟨o,e,r⟩:=st;exact⟨o,k it (by simp) o e,r⟩
 item:=by intro X Dl hw AZ AH i pins s σ H E J hf st Ak;subst Dl hw AZ;have W:=pG (prog:=X.prog) (w:=X.w) (A:=X.A) (J.ok.hd AH) it x t;refine W.item i s _ _ Ak st λv h' CL B_ H9 G_=>?_;obtain⟨c,u,Mp,rfl⟩:=B_;have Ab:Inv X pins σ H { s with heap:=h',toks:=CL }:=J.ZH (ch:=[it]) G_ hf;obtain⟨o,e,Bk,d1⟩:=id H9;exact⟨_,rfl,SQ (s:={ s with heap:=h',toks:=CL }) e Bk d1 (aeJ x) ⟨.str ⟨#[c]⟩,H,Ab,⟨u,rfl⟩,⟨rfl,c,Mp,rfl⟩,H9,λb A2=>(hf b A2).1⟩⟩
 done:=by intro X Dl hw AZ AH i pins s σ H E J hf st Ak;subst Dl hw AZ;have W:=pG (prog:=X.prog) (w:=X.w) (A:=X.A) (J.ok.hd AH) it x t;have AB:i=x.cps.size:=Ak;subst AB;exact W.done s _ _ st λh' CL G_=>⟨rfl,J.ZH (ch:=[it]) G_ hf⟩
 self:=λA i s Q E st h=>by
  unfold LN at st;cases AE:x.cps.all (· <128)
  .rw[AE,if_neg Kb]at st;exact wpAny_pyIter_striter_wide st h
  .rw[AE,if_pos rfl]at st;exact wpAny_pyIter_striter_ascii st h
section
variable{X:Ao}{C4:Al}
end
noncomputable def fv(K:Aq)(l:A4):It:=⟨λi H=>∃xs x,E_ K H l xs/\xs[i]?=some x,λi H v A7=>∃p x,H p=none/\A7=upd H p (.tup [.int (i:Int),x])/\v=.ref p/\∀xs,E_ K H l xs->xs[i]?=some x,λi H=>∃xs,E_ K H l xs/\xs.length=i⟩
def adl{P:C5}{w:Bo}{K:Aq}{elts:List Al}{G_:Nat}{pos:Pos}(e it l:A4)(jL:e≠it) :
  Turn P w K (.Tuple elts G_ pos) (fv K l) [e,it] e (λi h=>(∃old,IsEnum h e it i old)/\h.IsListIter it l i) where
 mem:=by simp
 obj:=λi h st b A2=>by
  obtain⟨⟨old,he⟩,o,A9,c,d⟩:=st;rcases List.mem_cons.mp A2 with z|z
  .subst z;exact⟨_,he,λv z=>by have Fi:Data.fields _=U6 v:=z;cases Fi⟩
  .have z:b=it:=by simpa using z
   subst z;exact⟨o,A9,λv z=>by rw[d]at z;cases z⟩
 keep:=λi h h' st k=>by obtain⟨⟨old,he⟩,hit⟩:=st;exact⟨⟨old,k e (by simp) _ he⟩,hit.at λo x=>k it (by simp) o x⟩
 item:=by
  intro X Dl hw AZ AH i pins s σ H E J hf st Ak;subst Dl hw AZ;obtain⟨xs,x,AX,AK⟩:=Ak;obtain⟨its,C6,pl,hz⟩:=J.list AX;obtain⟨⟨old,he⟩,hit⟩:=st;have GJ:=pl.isList;have hle:l≠e:=λz=>by subst z;obtain⟨o,ho,Jj,_⟩:=GJ;rw[he]at ho;cases ho;have Jj:Nv "enumerate"=Nv "list":=Jj;injection Jj with Jj;exact absurd Jj (by decide)
  have Z2:l≠it:=λz=>by subst z;obtain⟨o,ho,Jj,_⟩:=GJ;obtain⟨o',I5,Oj,_⟩:=hit;rw[I5]at ho;cases ho;rw[Jj]at Oj;injection Oj with Oj;exact absurd Oj (by decide)
  have W:=WalksT.enumerate (prog:=X.prog) (w:=X.w) (A:=X.A) (J.ok.hd AH) e it l jL hle Z2 its.toArray;have hlen:=C6.length;have cA:i<xs.length:=(List.getElem?_eq_some_iff.mp AK).1;refine W.item i s _ _ (by rw[DX,<-hlen];exact cA) ⟨⟨old,he⟩,hit,GJ⟩ λT vals h' CL Dl ET wN OR AO=>?_;obtain⟨t,u,BI,rfl⟩:=Dl;obtain⟨JS,cS,Fo⟩:=C6.get AK;have Fq:JS=u:=by rw[qX]at BI;rw[cS]at BI;exact GU BI
  subst Fq;refine⟨_,rfl,?_⟩;refine W.go elts G_ pos i T { s with heap:=h',toks:=CL } _ _ OR λh2 Ju Om=>?_;have hk:T∉[e,it]:=W.apart i T h' OR;have keep:∀b o,b∉[e,it]->s.heap.get? b=some o->h2.get? b=some o:=λb o A2 q=>Om b o A2 (AO b o A2 q);have cQ:eB h2 T (#[.int i t,JS]:Array A6):=by obtain⟨o,ho,r⟩:=wN;exact⟨o,Om T o hk ho,r⟩
  have AV:H T=none:=J.Aw.fresh ET;have BS:Inv X pins σ (upd H T (.tup [.int (i:Int),x])) { s with heap:=h2,toks:=CL }:=J.pq (its:=[.int i t,JS]) (ch:=[e,it]) keep hf ET cQ (.cons ⟨t,rfl⟩ (.cons Fo .nil)) (by show 2<=CG;decide);refine⟨.ref T,upd H T (.tup [.int (i:Int),x]),BS,rfl,⟨T,x,AV,rfl,rfl,λys AP=>by rw[J.bW AP AX];exact AK⟩,⟨Ju.1,Ju.2.1⟩,λb A2=>?_⟩;have nb:b≠T:=λz=>hk (z▸A2);rw[D6 nb];exact(hf b A2).1
 done:=by
  intro X Dl hw AZ AH i pins s σ H E J hf st Ak;subst Dl hw AZ;obtain⟨xs,AX,AK⟩:=Ak;obtain⟨its,C6,pl,hz⟩:=J.list AX;obtain⟨⟨old,he⟩,hit⟩:=st;have GJ:=pl.isList;have hle:l≠e:=λz=>by subst z;obtain⟨o,ho,Jj,_⟩:=GJ;rw[he]at ho;cases ho;have Jj:Nv "enumerate"=Nv "list":=Jj;injection Jj with Jj;exact absurd Jj (by decide)
  have Z2:l≠it:=λz=>by subst z;obtain⟨o,ho,Jj,_⟩:=GJ;obtain⟨o',I5,Oj,_⟩:=hit;rw[I5]at ho;cases ho;rw[Jj]at Oj;injection Oj with Oj;exact absurd Oj (by decide)
  have W:=WalksT.enumerate (prog:=X.prog) (w:=X.w) (A:=X.A) (J.ok.hd AH) e it l jL hle Z2 its.toArray;have G7:i=its.toArray.size:=by rw[DX,<-C6.length];exact AK.symm
  subst G7;exact W.done s _ _ ⟨⟨old,he⟩,hit,GJ⟩ λh' CL G_=>⟨rfl,J.ZH (ch:=[e,it]) G_ hf⟩
 self:=λA i s Q E st h=>by obtain⟨⟨old,he⟩,_⟩:=st;exact wpAny_pyIter_enum he h
section
variable{X:Ao}{elts:List Al}{G_:Nat}{WV:Pos}
def xU(K:Aq)(Bp:FV):TI:=λσ H R=>Bp σ H λvs H1=>∃l,vs=[.ref l]/\(∃xs,E_ K H1 l xs)/\R (fv K l) H1
def ac6{a:Al}{Bp:FV}{p pos:Pos}(Ak:EI X "enumerate")(hm:X.mg "enumerate"=none)(AE:Gl X [a] Bp)(AN:CJ [a] X.env=[(false,BZ a X.env)]:=by rfl):Hg X (.Tuple elts G_ WV) (.Call (.Name "enumerate" p) [a] [] pos) (xU X.K Bp):=by
 have A2:Ny "enumerate"=some (.type "enumerate"):=by kernel_rfl
 intro pins s σ H R J h;refine qg (Ot J Ak hm A2 (QD (BN (AE pos pins s σ H _ J h) λus s1⟨vs,H1,Ab,Ar,q1⟩=>?_) AN rfl));obtain⟨l,e,⟨xs,AX⟩,q⟩:=q1;subst e;obtain⟨u,rfl,Fo⟩:=vals1 Ar;cases Fo;obtain⟨its,C6,pl,hz⟩:=Ab.list AX;refine call_enumerate_list pl.isList λh' he hit hsz AO=>?_;have BS:Inv X pins σ H1 { s1 with heap:=h' }:=Ab.kept (t':=s1.toks) AO;refine wpAny_pyIter_enum he ?_;refine⟨s1.heap.objs.size+1,[s1.heap.objs.size+1,s1.heap.objs.size],_,_,H1,rfl,BS,adl _ _ l (Nat.succ_ne_self _),⟨⟨_,he⟩,hit⟩,λb A2=>?_,q⟩;have A2:b=s1.heap.objs.size+1\/b=s1.heap.objs.size:=by simpa using A2
 rcases A2 with z|z
 .subst z;exact Ab.NG (PB _) (Ab.Aw.fresh (PB _))
 .subst z;exact Ab.NG (CB _) (Ab.Aw.fresh (CB _))
end
abbrev aF(h:B8)(x:Str)(t:Tok):B8:=h.push { cls:=.type (LN x),data:=.fields #[.str x t,.int 0 0] }
abbrev aG(h:B8)(x:Str)(t:Tok)(l:A4):B8:=(aF h x t).push { cls:=.type "tuple_iterator",data:=.fields #[.ref l,.int 0 0] }
abbrev aH(h:B8)(x:Str)(t:Tok)(l:A4):B8:=(aG h x t l).push { cls:=.type "tuple",data:=.seq #[.ref h.objs.size,.ref (aF h x t).objs.size] }
abbrev aI(h:B8)(x:Str)(t:Tok)(l:A4):B8:=(aH h x t l).push { cls:=.type "tuple",data:=.seq #[.none,.none] }
abbrev Rl(h:B8)(x:Str)(t:Tok)(l:A4):B8:=(aI h x t l).push { cls:=.type "zip",data:=.fields #[.none,.bool false,.bool false,.ref (aG h x t l).objs.size,.ref (aH h x t l).objs.size] }
set_option maxHeartbeats 4000000 in
def aaC(x:Str)(t:Tok)(CN:A4)(ys:Array A6) :
  Meets (QZ.«zip.__new__» ⟨[.type "zip",.str x t,.ref CN],[]⟩) (λ_ R s=>s.heap.IsTuple CN ys/\R (.ok (.ret (.ref (aI s.heap x t CN).objs.size))) { s with heap:=Rl s.heap x t CN }):=
 .of_wp λprog w A R s h=>by
   obtain⟨AT,g,d,CL,os⟩:=s;obtain⟨SY,h⟩:=h;have Q3:=sub_zip;have wG:Heap.IsTuple (Shared.heap ⟨AT.push { cls:=.type (LN x),data:=.fields #[.str x t,.int 0 0] },g,d,CL,os⟩) CN ys:=Heap.IsTuple.push SY _
   wp_walk using wpAny_pyIter_strU,wpAny_pyIter_tuple wG
   exact⟨_,rfl,h⟩
theorem tJ {prog:C5} {w:Bo} {A:D4} {E:A6->AM->Prop} {s:AM} {x:Str} {t:Tok} {CN:A4} {ys:Array A6} {Q:A6->AM->Prop} (SY:s.heap.IsTuple CN ys)(h:∀h',J4 h' (s.heap.objs.size+4) (s.heap.objs.size+2) (s.heap.objs.size+3) .none->Gu h' (s.heap.objs.size+2) (.ref s.heap.objs.size) (.ref (s.heap.objs.size+1))->
    Gu h' (s.heap.objs.size+3) .none .none->h'.IsStrIter s.heap.objs.size (LN x) x t 0->h'.IsTupleIter (s.heap.objs.size+1) CN 0->h'.objs.size=s.heap.objs.size+5->
    (∀c o,s.heap.get? c=some o->h'.get? c=some o)->Q (.ref (s.heap.objs.size+4)) { s with heap:=h' }) :
  Ag (Av prog w) A (call (.type "zip") [.str x t,.ref CN]) Q E s:=by
 refine callType_new F.called_zip (by decide) (F.typeCall_zip_2 _ _) (F.newCall_zip_2 _ _) (λobj=>F.args_object_init_3 obj _ _) F.entry_zip_new (aaC x t CN ys) ⟨SY,?_⟩;have FP:(aF s.heap x t).objs.size=s.heap.objs.size+1:=Kc ..;have Eg:(aG s.heap x t CN).objs.size=s.heap.objs.size+2:=by rw[Kc,FP]
 have dc:(aH s.heap x t CN).objs.size=s.heap.objs.size+3:=by rw[Kc,Eg]
 have W9:(aI s.heap x t CN).objs.size=s.heap.objs.size+4:=by rw[Kc,dc]
 have WA:(Rl s.heap x t CN).objs.size=s.heap.objs.size+5:=by rw[Kc,W9]
 have Ky:(Rl s.heap x t CN).get? (aI s.heap x t CN).objs.size=some _:=F_ _ rfl;have g4:(Rl s.heap x t CN).get? (aH s.heap x t CN).objs.size=some _:=Cw _ (F_ _ rfl);have g3:(Rl s.heap x t CN).get? (aG s.heap x t CN).objs.size=some _:=Cw _ (Cw _ (F_ _ rfl));have g2:(Rl s.heap x t CN).get? (aF s.heap x t).objs.size=some _:=Cw _ (Cw _ (Cw _ (F_ _ rfl)));have g1:(Rl s.heap x t CN).get? s.heap.objs.size=some _:=Cw _ (Cw _ (Cw _ (Cw _ (F_ _ rfl))));show _/\_;rw[Eg,dc,W9]at Ky;rw[FP,Eg]at g3;rw[dc]at g4;rw[FP]at g2;rw[W9];exact⟨⟨_,Ky,rfl⟩,h _ Ky g3 g4 ⟨_,g1,rfl,rfl⟩ ⟨_,g2,rfl,rfl⟩ WA λc o x=>
  Cw _ (Cw _ (Cw _ (Cw _ (Cw _ x))))⟩
noncomputable def gM(K:Aq)(x:Str)(l:A4):It:=⟨λi H=>i<x.cps.size/\∃ys y,Ea K H l ys/\ys[i]?=some y,
 λi H v A7=>∃p c y,x.cps[i]?=some c/\H p=none/\A7=upd H p (.tup [.str ⟨#[c]⟩,y])/\v=.ref p/\∀ys,Ea K H l ys->ys[i]?=some y,
 λi H=>∃ys,Ea K H l ys/\i=min x.cps.size ys.length⟩
structure g8(z TI Bz BB Bm:A4):Prop where
 TIz:TI≠z
 TOz:Bz≠z
 TITO:TI≠Bz
 TIi1:TI≠BB
 TIi2:TI≠Bm
 TOi1:Bz≠BB
 TOi2:Bz≠Bm
 i1z:BB≠z
 i2z:Bm≠z
 i12:BB≠Bm
def adt{P:C5}{w:Bo}{K:Aq}{elts:List Al}{G_:Nat}{pos:Pos}(x:Str)(t:Tok)(l z TI Bz BB Bm:A4)(ap:g8 z TI Bz BB Bm) :
  Turn P w K (.Tuple elts G_ pos) (gM K x l) [z,TI,Bz,BB,Bm] z (λi h=>J4 h z TI Bz .none/\Gu h TI (.ref BB) (.ref Bm)/\(∃a b,Gu h Bz a b)/\h.IsStrIter BB (LN x) x t i/\h.IsTupleIter Bm l i) where
 mem:=by simp
 obj:=λi h st b A2=>by
  obtain⟨hz,Iu,⟨a,Hh,JF⟩,⟨Cn,A9,Bk,d1⟩,Dm,AF,Co,Ex⟩:=st;have A2:b=z\/b=TI\/b=Bz\/b=BB\/b=Bm:=by simpa using A2
  rcases A2 with q|q|q|q|q<;>subst q
  .exact⟨_,hz,λv z=>by have Fi:Data.fields _=U6 v:=z;cases Fi⟩
  .exact⟨_,Iu,λv z=>by have Fi:Data.seq _ _=U6 v:=z;cases Fi⟩
  .exact⟨_,JF,λv z=>by have Fi:Data.seq _ _=U6 v:=z;cases Fi⟩
  .exact⟨Cn,A9,λv z=>by rw[d1]at z;cases z⟩
  .exact⟨Dm,AF,λv z=>by rw[Ex]at z;cases z⟩
 keep:=λi h h' st k=>by obtain⟨hz,Iu,⟨a,Hh,JF⟩,⟨Cn,A9,Ar⟩,Dm,AF,BD⟩:=st;exact⟨k z (by simp) _ hz,k TI (by simp) _ Iu,⟨a,Hh,k Bz (by simp) _ JF⟩,⟨Cn,k BB (by simp) _ A9,Ar⟩,Dm,k Bm (by simp) _ AF,BD⟩
 item:=by
  intro X Dl hw AZ AH i pins s σ H E J hf st Ak;subst Dl hw AZ;obtain⟨AB,ys,y,AX,AP⟩:=Ak;obtain⟨its,C6,Bi,xM⟩:=J.tuple AX;obtain⟨hz,Iu,⟨a,Hh,JF⟩,ZC,H2⟩:=st;have nl:∀b∈[z,TI,Bz,BB,Bm],l≠b:=λb A2 q=>by
   subst q;rcases AX with(h|⟨o,h⟩)|⟨o,yL,n,h,_⟩
   .rw[(hf l A2).1]at h;cases h
   .rw[(hf l A2).1]at h;cases h
   .have h1:=J.ok.mod.Oq l o h;rcases(hf l A2).2.2.2.1 with q|q
    .exact J.ok.Ph l o h1 q
    .exact absurd (G3 (DB (J.ok.bs l o h1).1) q) (Iy _)
  have hh:X.A.in1.handled=none:=J.ok.hd AH;have IG:=hE (prog:=X.prog) (w:=X.w) (A:=X.A.in1) hh BB x t;have Hx:=iJ (prog:=X.prog) (w:=X.w) (A:=X.A.in1) hh Bm l (nl Bm (by simp)) its.toArray;have hlen:=C6.length;have cA:i<ys.length:=(List.getElem?_eq_some_iff.mp AP).1
  have NN:Sl z TI Bz BB Bm [BB] [Bm,l]:=⟨ap.TIz,ap.TOz,ap.TITO,ap.TIi1,ap.TIi2,ap.TOi1,ap.TOi2,ap.i1z,ap.i2z,ap.i12,by simpa using ap.i1z.symm,by simpa using ap.TOi1,by simpa using ap.i12.symm,
   by simp only[HW,Ka,or_false,not_or];exact⟨ap.i2z.symm,(nl z (by simp)).symm⟩,by simp only[HW,Ka,or_false,not_or];exact⟨ap.TOi2,(nl Bz (by simp)).symm⟩,by simp only[HW,Ka,or_false,not_or];exact⟨ap.i12,(nl BB (by simp)).symm⟩⟩
  refine ad4 IG Hx NN hz Iu JF ZC ⟨H2,Bi⟩ AB (by rw[DX,<-hlen];exact cA) λZI Rh h' CL E3 Ct a1 a2 GT MK Lb fW AO=>?_;obtain⟨c,t1,vh,rfl⟩:=E3;obtain⟨JS,cS,Fo⟩:=C6.get AP;have Fq:JS=Rh:=by rw[qX]at Ct;rw[cS]at Ct;exact GU Ct
  subst Fq;refine⟨_,rfl,?_⟩;refine wpAny_letOwnedTupleGo_zip a1 λh2 xN S_=>?_;have aeP:∀b∈[z,TI,Bz,BB,Bm],b<s.heap.objs.size:=λb A2=>by
   have A2:b=z\/b=TI\/b=Bz\/b=BB\/b=Bm:=by simpa using A2
   obtain⟨Cn,A9,_⟩:=ZC;obtain⟨Dm,AF,_⟩:=H2;rcases A2 with q|q|q|q|q<;>subst q
   .exact DB hz
   .exact DB Iu
   .exact DB JF
   .exact DB A9
   .exact DB AF
  have jz:∀b∈[z,TI,Bz,BB,Bm],b≠s.heap.objs.size:=λb A2=>Ei (aeP b A2);have keep:∀b o,b∉[z,Bz,BB,Bm]->s.heap.get? b=some o->h2.get? b=some o:=λb o A2 q=>by have A2:¬(b=z\/b=Bz\/b=BB\/b=Bm):=λw=>A2 (by simpa using w);exact S_.extBut b o (λw=>A2 (.inl w)) (AO b o (λw=>A2 (.inl w)) (λw=>A2 (.inr (.inl w))) (λw=>A2 (.inr (.inr (.inl w)))) (λw=>A2 (.inr (.inr (.inr w)))) q)
  have cQ:eB h2 s.heap.objs.size ([.str ⟨#[c]⟩ t1,JS]:List A6).toArray:=⟨_,S_.extBut _ _ (jz z (by simp)).symm Lb,rfl,_,rfl⟩;have AV:H s.heap.objs.size=none:=J.Aw.fresh (CB _);have BS:Inv X pins σ (upd H s.heap.objs.size (.tup [.str ⟨#[c]⟩,y])) { s with heap:=h2,toks:=CL }:=J.pq (its:=[.str ⟨#[c]⟩ t1,JS]) (ch:=[z,Bz,BB,Bm]) keep (λb A2=>hf b (by
   have A2:b=z\/b=Bz\/b=BB\/b=Bm:=by simpa using A2
   rcases A2 with q|q|q|q<;>simp[q])) (CB _) cQ (.cons ⟨t1,rfl⟩ (.cons Fo .nil)) (by show 2<=CG;decide)
  refine⟨.ref s.heap.objs.size,_,BS,rfl,⟨s.heap.objs.size,c,y,vh,AV,rfl,rfl,λzs xO=>by rw[J.du xO AX];exact AP⟩,?_,λb A2=>?_⟩
  .refine⟨xN,S_.extBut _ _ ap.TIz (AO _ _ ap.TIz ap.TITO ap.TIi1 ap.TIi2 Iu),⟨_,_,S_.extBut _ _ ap.TOz a2⟩,?_,?_⟩
   .obtain⟨Cn,A9,Ar⟩:=GT;exact⟨Cn,S_.extBut _ _ ap.i1z A9,Ar⟩
   .obtain⟨⟨Dm,AF,BD⟩,_⟩:=MK;exact⟨Dm,S_.extBut _ _ ap.i2z AF,BD⟩
  .rw[D6 (jz b A2)];exact(hf b A2).1
 done:=by
  intro X Dl hw AZ AH i pins s σ H E J hf st Ak;subst Dl hw AZ;obtain⟨ys,AX,AB⟩:=Ak;obtain⟨its,C6,Bi,xM⟩:=J.tuple AX;obtain⟨hz,Iu,⟨a,Hh,JF⟩,ZC,H2⟩:=st;have nl:∀b∈[z,TI,Bz,BB,Bm],l≠b:=λb A2 q=>by
   subst q;rcases AX with(h|⟨o,h⟩)|⟨o,yL,n,h,_⟩
   .rw[(hf l A2).1]at h;cases h
   .rw[(hf l A2).1]at h;cases h
   .have h1:=J.ok.mod.Oq l o h;rcases(hf l A2).2.2.2.1 with q|q
    .exact J.ok.Ph l o h1 q
    .exact absurd (G3 (DB (J.ok.bs l o h1).1) q) (Iy _)
  have hh:X.A.in1.handled=none:=J.ok.hd AH;have IG:=hE (prog:=X.prog) (w:=X.w) (A:=X.A.in1) hh BB x t;have Hx:=iJ (prog:=X.prog) (w:=X.w) (A:=X.A.in1) hh Bm l (nl Bm (by simp)) its.toArray;have hlen:=C6.length
  have NN:Sl z TI Bz BB Bm [BB] [Bm,l]:=⟨ap.TIz,ap.TOz,ap.TITO,ap.TIi1,ap.TIi2,ap.TOi1,ap.TOi2,ap.i1z,ap.i2z,ap.i12,by simpa using ap.i1z.symm,by simpa using ap.TOi1,by simpa using ap.i12.symm,
   by simp only[HW,Ka,or_false,not_or];exact⟨ap.i2z.symm,(nl z (by simp)).symm⟩,by simp only[HW,Ka,or_false,not_or];exact⟨ap.TOi2,(nl Bz (by simp)).symm⟩,by simp only[HW,Ka,or_false,not_or];exact⟨ap.i12,(nl BB (by simp)).symm⟩⟩
  refine ad3 IG Hx NN hz Iu JF ZC ⟨H2,Bi⟩ ?_ λh' CL G_=>⟨rfl,J.ZH (ch:=[z,Bz,BB,Bm]) (λb o A2 q=>?_) λb A2=>hf b ?_⟩
  .have es:its.toArray.size=its.length:=by simp
   rw[es,<-hlen];lia
  .have A2:¬(b=z\/b=Bz\/b=BB\/b=Bm):=λw=>A2 (by simpa using w);exact G_ b o (λw=>A2 (.inl w)) (λw=>A2 (.inr (.inl w))) (λw=>A2 (.inr (.inr (.inl w)))) (λw=>A2 (.inr (.inr (.inr w)))) q
  .have A2:b=z\/b=Bz\/b=BB\/b=Bm:=by simpa using A2
   rcases A2 with q|q|q|q<;>simp[q]
 self:=λA i s Q E st h=>wpAny_pyIter_zip st.1 h
section
variable{X:Ao}{elts:List Al}{G_:Nat}{WV:Pos}
def agd(n:Nat):g8 (n+4) (n+2) (n+3) n (n+1):=
 ⟨(show n+2≠n+4 from Ei (show(n+2:Nat)<n+4 by lia)),
  (show n+3≠n+4 from Ei (show(n+3:Nat)<n+4 by lia)),
  (show n+2≠n+3 from Ei (show(n+2:Nat)<n+3 by lia)),
  (show n+2≠n from N3 (show(n:Nat)<n+2 by lia)),
  (show n+2≠n+1 from N3 (show(n+1:Nat)<n+2 by lia)),
  (show n+3≠n from N3 (show(n:Nat)<n+3 by lia)),
  (show n+3≠n+1 from N3 (show(n+1:Nat)<n+3 by lia)),
  (show n≠n+4 from Ei (show(n:Nat)<n+4 by lia)),
  (show n+1≠n+4 from Ei (show(n+1:Nat)<n+4 by lia)),
  (show n≠n+1 from Ei (show(n:Nat)<n+1 by lia))⟩
def we(K:Aq)(Bp:FV):TI:=λσ H R=>Bp σ H λvs H1=>∃x l,vs=[.str x,.ref l]/\(∃ys,Ea K H1 l ys)/\R (gM K x l) H1
def acB{a b:Al}{Bp:FV}{p pos:Pos}(Ak:EI X "zip")(hm:X.mg "zip"=none)(AE:Gl X [a,b] Bp)(AN:CJ [a,b] X.env=[(false,BZ a X.env),(false,BZ b X.env)]:=by rfl)(H2:CJ [b] X.env=[(false,BZ b X.env)]:=by rfl) :
  Hg X (.Tuple elts G_ WV) (.Call (.Name "zip" p) [a,b] [] pos) (we X.K Bp):=by
 have A2:Ny "zip"=some (.type "zip"):=by kernel_rfl
 intro pins s σ H R J h;refine qg (Ot J Ak hm A2 (QD (BN (AE pos pins s σ H _ J h) λus s1⟨vs,H1,Ab,Ar,q1⟩=>?_) (by rw[AN,H2]) (by rw[H2];rfl)));obtain⟨x,l,e,⟨ys,AX⟩,q⟩:=q1;subst e;obtain⟨u,Rh,rfl,⟨t,rfl⟩,Fo⟩:=vals2 Ar;cases Fo;obtain⟨its,C6,Bi,hz⟩:=Ab.tuple AX;refine tJ (show s1.heap.IsTuple l its.toArray from Bi) λh' a1 a2 GT MK Lb fW AO=>?_;have BS:Inv X pins σ H1 { s1 with heap:=h' }:=Ab.kept (t':=s1.toks) AO;refine wpAny_pyIter_zip a1 ?_;refine⟨s1.heap.objs.size+4,[s1.heap.objs.size+4,s1.heap.objs.size+2,s1.heap.objs.size+3,s1.heap.objs.size,s1.heap.objs.size+1],_,_,H1,rfl,BS,adt x t l _ _ _ _ _ (agd s1.heap.objs.size),⟨a1,a2,⟨_,_,GT⟩,MK,Lb⟩,λb A2=>?_,q⟩;have A2:s1.heap.objs.size<=b:=by
  have A2:b=s1.heap.objs.size+4\/b=s1.heap.objs.size+2\/b=s1.heap.objs.size+3\/b=s1.heap.objs.size\/b=s1.heap.objs.size+1:=by simpa using A2
  rcases A2 with q|q|q|q|q
  .rw[q];exact QG _ _
  .rw[q];exact QG _ _
  .rw[q];exact QG _ _
  .rw[q];exact CB _
  .rw[q];exact QG _ _
 exact Ab.NG A2 (Ab.Aw.fresh A2)
end
end B6
namespace XI
open PySem PySem.SetTable
theorem bA(xs:Array Nat)(j:Nat)(AN:xs.toList.Pairwise (· <·)):∀fuel lo AB,AB<=lo+fuel->lo<=AB->AB<=xs.size->(∀k,k<lo->xs.getD k j<j)->(∀k,AB<=k->k<xs.size->j<=xs.getD k j)->
  below.go xs j fuel lo AB<=xs.size/\(∀k,k<below.go xs j fuel lo AB->xs.getD k j<j)/\(∀k,below.go xs j fuel lo AB<=k->k<xs.size->j<=xs.getD k j)
 |0,lo,AB,h1,h2,BH,Cs,Ez=>by
  have e:lo=AB:=by lia
  subst e;exact⟨BH,Cs,Ez⟩
 |fuel+1,lo,AB,h1,h2,BH,Cs,Ez=>by
  have mono:∀a b,a<=b->b<xs.size->xs.getD a j<=xs.getD b j:=by
   intro a b Uc A2;rcases Nat.eq_or_lt_of_le Uc with rfl|Uc
   .exact CB _
   have:=List.pairwise_iff_getElem.mp AN a b (by simp;lia) (by simpa using A2) Uc;simp only[Array.getElem_toList]at this;rw[Rp,Rp,LL (by lia),LL A2];exact QM this
  unfold below.go;by_cases h:lo<AB
  .rw[if_pos h];dsimp only;by_cases q:xs.getD ((lo+AB)/2) j<j
   .rw[if_pos q];refine bA xs j AN fuel _ AB (by lia) (by lia) BH (λk AO=>?_) Ez;exact Rt (mono k ((lo+AB)/2) (by lia) (by lia)) q
   .rw[if_neg q];refine bA xs j AN fuel lo _ (by lia) (by lia) (by lia) Cs λk AO L1=>?_;exact I_ (Nat.not_lt.mp q) (mono _ k AO L1)
  .rw[if_neg h];have e:lo=AB:=by lia
   subst e;exact⟨BH,Cs,Ez⟩
def hS{xs:Array Nat}(AN:xs.toList.Pairwise (· <·))(j:Nat):below xs j<=xs.size/\(∀y∈xs.toList.take (below xs j),y<j)/\(∀y∈xs.toList.drop (below xs j),j<=y):=by
 obtain⟨a,b,c⟩:=bA xs j AN xs.size 0 xs.size (by lia) (by lia) (CB _) (λk AO=>absurd AO (Nat.not_lt_zero _)) (λk h1 h2=>absurd h2 (by lia));refine⟨a,λy AP=>?_,λy AP=>?_⟩
 .obtain⟨k,AO,rfl⟩:=Tp AP;have Qs:k<below xs j/\k<xs.size:=by simpa[LR,Nat.lt_min]using AO
  have:=b k Qs.1;rw[Rp,LL Qs.2]at this;simpa using this
 .obtain⟨k,AO,rfl⟩:=Tp AP;have Qs:below xs j+k<xs.size:=by simp at AO;lia
  have:=c (below xs j+k) (QG _ _) Qs;rw[Rp,LL Qs]at this;simpa using this
def bk{α:Type}(xs:Array α)(p:Nat)(x:α):(insertAt xs p x).toList=xs.toList.take p++x::xs.toList.drop p:=by unfold insertAt;simp[Array.toList_extract,List.extract_eq_take_drop];exact eK (by simp)
structure Tab(t:Ia)(n:Nat):Prop where
 SI:t.dummies= #[]
 Mb:t.place.size=n
 Sy:t.place.toList.Pairwise (· <·)
 le:∀j∈t.place.toList,j<=t.mask
def slot_of{t:Ia}{n:Nat}(T:Tab t n)(j:Nat):(∃i,t.slot j=.live i/\t.place.toList[i]?=some j)\/(t.slot j=.empty/\j∉t.place.toList):=by
 obtain⟨a,b,c⟩:=hS T.Sy j;unfold slot;dsimp only;by_cases h:t.place[below t.place j]?=some j
 .left
  refine⟨below t.place j,?_,by simpa using h⟩;rw[h];simp
 .right
  constructor
  .have:(t.place[below t.place j]?==some j)=false:=by simpa using h
   rw[this,T.SI];simp[has]
  .intro m;have E0:=m;rw[<-PA (below t.place j) t.place.toList]at E0;rcases List.mem_append.mp E0 with E0|E0
   .exact absurd (b j E0) (Iy _)
   .cases hd:t.place.toList.drop (below t.place j)with
    |nil=>rw[hd]at E0;cases E0
    |cons y r=>
     have AP:t.place[below t.place j]?=some y:=by
      have:(t.place.toList.drop (below t.place j))[0]?=some y:=by rw[hd];rfl
      rw[List.getElem?_drop]at this;simpa using this
     have B7:=T.Sy;rw[<-PA (below t.place j) t.place.toList,hd]at B7;have B7:=(List.pairwise_append.mp B7).2.1;rw[hd]at E0;rcases List.mem_cons.mp E0 with rfl|E0
     .exact h AP
     .have h1:=(List.pairwise_cons.mp B7).1 j E0;have h2:=c y (by rw[hd];simp);lia
def ae2{t:Ia}{n:Nat}(T:Tab t n){j:Nat}(m:j∈t.place.toList):∃i,t.slot j=.live i/\t.place.toList[i]?=some j:=by
 rcases slot_of T j with h|h
 .exact h
 .exact absurd m h.2
def ae1{t:Ia}{n:Nat}(T:Tab t n){j:Nat}(m:j∉t.place.toList):t.slot j=.empty:=by
 rcases slot_of T j with⟨i,h,e⟩|h
 .exact absurd (LM e) m
 .exact h.1
def acy{t:Ia}{n:Nat}(T:Tab t n){j:Nat}(m:j∉t.place.toList)(Ap:j<=t.mask):∃p,(t.put j).2=p/\p<=n/\Tab (t.put j).1 (n+1)/\(t.put j).1.place.toList=t.place.toList.take p++j::t.place.toList.drop p/\(t.put j).1={ t with place:=(t.put j).1.place }:=by
 obtain⟨a,b,c⟩:=hS T.Sy j;have e:(t.put j).1.place.toList=t.place.toList.take (below t.place j)++j::t.place.toList.drop (below t.place j):=by unfold put;exact bk _ _ _
 have CC:(t.put j).1.dummies= #[]:=by unfold put;simp[has,T.SI]
 have em:(t.put j).1.mask=t.mask:=rfl;refine⟨below t.place j,rfl,T.Mb▸a,⟨CC,?_,?_,?_⟩,e,?_⟩
 .have:(t.put j).1.place.toList.length=n+1:=by
    rw[e,Ej,Df,LR,Wr];have:=T.Mb;simp only[QH];lia
  simpa using this
 .rw[e];have B7:=T.Sy;rw[<-PA (below t.place j) t.place.toList]at B7;obtain⟨Ar,BD,FY⟩:=List.pairwise_append.mp B7;refine List.pairwise_append.mpr ⟨Ar,List.pairwise_cons.mpr ⟨λy AP=>?_,BD⟩,λx AK y AP=>?_⟩
  .rcases Nat.eq_or_lt_of_le (c y AP)with q|q
   .exact absurd (q▸Wi AP) m
   .exact q
  .rcases List.mem_cons.mp AP with rfl|AP
   .exact b x AK
   .exact FY x AK y AP
 .intro y AP;rw[em];rw[e]at AP;rcases List.mem_append.mp AP with AP|AP
  .exact T.le y (eF AP)
  .rcases List.mem_cons.mp AP with rfl|AP
   .exact Ap
   .exact T.le y (Wi AP)
 .have Xd:(t.put j).1.dummies=t.dummies:=CC.trans T.SI.symm;show(t.put j).1=_;have:(t.put j).1={ t with place:=(t.put j).1.place,dummies:=(t.put j).1.dummies }:=rfl;rw[this,Xd]
noncomputable def Lc(mask:Nat)(p:Probe):Probe:=
 if p.more>0 then{ p with j:=p.j+1,more:=p.more-1 }else
 { p with j:=(leap mask p.i p.perturb).1,more:=runEnd mask (leap mask p.i p.perturb).1-(leap mask p.i p.perturb).1,i:=(leap mask p.i p.perturb).1,perturb:=(leap mask p.i p.perturb).2 }
def gA(t:Ia)(p:Probe):t.advance p=Lc t.mask p:=rfl
def ky(mask:Nat)(i q:Nat):Probe:={ j:=i,more:=runEnd mask i-i,i,perturb:=q,dummy:=none }
def EU(mask:Nat)(h:Int):Nat->Probe
 |0=>ky mask (bits h%(mask+1)) (bits h)
 |n+1=>Lc mask (EU mask h n)
def BL(mask:Nat)(h:Int):Nat->Nat×Nat
 |0=>(bits h%(mask+1),bits h)
 |n+1=>leap mask (BL mask h n).1 (BL mask h n).2
def JO(mask i:Nat):Nat:=runEnd mask i-i
def FN(mask:Nat)(h:Int):Nat->Nat
 |0=>0
 |n+1=>FN mask h n+JO mask (BL mask h n).1+1
def acb(mask i:Nat):JO mask i<=9:=by unfold JO runEnd;split<;>lia
def d4(mask i:Nat):i<=runEnd mask i:=by unfold runEnd;split<;>lia
theorem p7(mask:Nat)(h:Int):∀n,FN mask h n<=10*n
 |0=>CB _
 |n+1=>by have:=p7 mask h n;have:=acb mask (BL mask h n).1;unfold FN;lia
def sH{mask i q r:Nat}(B7:r<JO mask i):Lc mask { j:=i+r,more:=JO mask i-r,i:=i,perturb:=q,dummy:=none }={ j:=i+(r+1),more:=JO mask i-(r+1),i:=i,perturb:=q,dummy:=none }:=by unfold Lc;rw[if_pos (by show JO mask i-r>0;lia)];simp only[Probe.mk.injEq];refine⟨by lia,by lia,trivial,trivial,trivial⟩
def sI{mask i q:Nat}:Lc mask { j:=i+JO mask i,more:=JO mask i-JO mask i,i:=i,perturb:=q,dummy:=none }=ky mask (leap mask i q).1 (leap mask i q).2:=by unfold Lc;rw[if_neg (by show¬(JO mask i-JO mask i>0);lia)];rfl
theorem cq(mask:Nat)(h:Int):∀L r,r<=JO mask (BL mask h L).1->EU mask h (FN mask h L+r)={ j:=(BL mask h L).1+r,more:=JO mask (BL mask h L).1-r,i:=(BL mask h L).1,perturb:=(BL mask h L).2,dummy:=none }
 |0,0,_=>rfl
 |L,r+1,B7=>by have:=cq mask h L r (by lia);show Lc mask (EU mask h (FN mask h L+r))=_;rw[this];exact sH (by lia)
 |L+1,0,_=>by have:=cq mask h L (JO mask (BL mask h L).1) (CB _);show Lc mask (EU mask h (FN mask h L+JO mask (BL mask h L).1))=_;rw[this,sI];rfl
def rE(h:Int):bits h<2^64:=by unfold bits;have:=Int.emod_lt_of_pos h (b:=2^64) (by decide);have:=Int.emod_nonneg h (b:=2^64) (by decide);lia
theorem kW(mask:Nat)(h:Int):∀n,(BL mask h n).2=bits h/32^n
 |0=>by simp[BL]
 |n+1=>by show(BL mask h n).2/32=_;rw[kW mask h n,Nat.div_div_eq_div_mul,Nat.pow_succ]
def yU(mask:Nat)(h:Int)(n:Nat)(AV:13<=n):(BL mask h n).2=0:=by
 rw[kW];apply Nat.div_eq_of_lt;have h1:=rE h;have h2:32^13<=32^n:=Nat.pow_le_pow_right (by decide) AV;have BH:(2:Nat)^64<32^13:=by decide
 lia
def L4(mask:Nat):Nat->Nat->Nat
 |0,i=>i
 |n+1,i=>(L4 mask n i*5+1)%(mask+1)
theorem kV(mask:Nat)(h:Int):∀m,(BL mask h (13+m)).1=L4 mask m (BL mask h 13).1
 |0=>rfl
 |m+1=>by have e:(BL mask h (13+(m+1))).2=0:=yU mask h _ (by lia);have AF:(BL mask h (13+m)).2/32=0:=e;show((BL mask h (13+m)).1*5+1+(BL mask h (13+m)).2/32)%(mask+1)=_;rw[AF,kV mask h m];rfl
theorem Ye(mask:Nat)(a:Nat):∀b i,L4 mask (a+b) i=L4 mask b (L4 mask a i)
 |0,_=>rfl
 |b+1,i=>by show(L4 mask (a+b) i*5+1)%(mask+1)=_;rw[Ye mask a b i];rfl
def Zy(mask:Nat):Nat->Nat->List Nat
 |0,_=>[]
 |n+1,i=>i::Zy mask n ((i*5+1)%(mask+1))
theorem kO(mask i:Nat):∀n,L4 mask n ((i*5+1)%(mask+1))=L4 mask (n+1) i
 |0=>rfl
 |n+1=>by show(L4 mask n _*5+1)%_=_;rw[kO mask i n];rfl
theorem dF(mask:Nat):∀n i j,j∈Zy mask n i->∃m,m<n/\L4 mask m i=j
 |0,_,_,h=>by cases h
 |n+1,i,j,h=>by
  rcases List.mem_cons.mp h with rfl|h
  .exact⟨0,by lia,rfl⟩
  .obtain⟨m,h1,h2⟩:=dF mask n _ j h;exact⟨m+1,by lia,by rw[<-kO];exact h2⟩
structure Hw(mask:Nat):Prop where
 all:∀j,j<=mask->j∈Zy mask (mask+1) 0
 back:L4 mask (mask+1) 0=0
def Hw.reach{mask:Nat}(C:Hw mask){i j:Nat}(AB:i<=mask)(Ap:j<=mask):∃m,m<=mask/\L4 mask m i=j:=by
 obtain⟨a,a1,a2⟩:=dF _ _ _ _ (C.all i AB);obtain⟨b,D_,FX⟩:=dF _ _ _ _ (C.all j Ap);by_cases h:a<=b
 .refine⟨b-a,by lia,?_⟩;rw[<-a2,<-Ye,show a+(b-a)=b by lia,FX]
 .refine⟨mask+1-a+b,by lia,?_⟩;rw[<-a2,<-Ye,show a+(mask+1-a+b)=(mask+1)+b by lia,Ye,C.back,FX]
def bN{mask:Nat}(h:(CW (mask+1)).all (λj=>(Zy mask (mask+1) 0).contains j)=true)(b:L4 mask (mask+1) 0=0):Hw mask:=
 ⟨λj Ap=>by have:=List.all_eq_true.mp h j (List.mem_range.mpr (by lia));exact List.contains_iff_mem.mp this,b⟩
def hC:Hw 7:=bN (by decide+kernel) (by decide+kernel)
def hB:Hw 31:=bN (by decide+kernel) (by decide+kernel)
def hA:Hw 127:=bN (by decide+kernel) (by decide+kernel)
def dA(mask:Nat)(h:Int):∀n,(BL mask h n).1<=mask
 |0=>eb (U7 _ (by lia))
 |n+1=>eb (U7 _ (by lia))
def Hw.leap{mask:Nat}(C:Hw mask)(h:Int){j:Nat}(Ap:j<=mask):∃L,L<mask+15/\(BL mask h L).1=j:=by obtain⟨m,h1,h2⟩:=C.reach (dA mask h 13) Ap;exact⟨13+m,by lia,by rw[kV];exact h2⟩
def Hw.cover{mask:Nat}(C:Hw mask)(h:Int){j:Nat}(Ap:j<=mask):∃n,n<10*turns mask/\(EU mask h n).j=j:=by
 obtain⟨L,h1,h2⟩:=C.leap h Ap;refine⟨FN mask h L,?_,?_⟩
 .have:=p7 mask h L;unfold turns;lia
 .have:=cq mask h L 0 (ID _);simp only[Nat.add_zero]at this;rw[this];exact h2
def uO{P:List Nat}{mask:Nat}(AN:P.Pairwise (· <·))(AV:P.length<=mask):∃j,j<=mask/\j∉P:=by
 apply Tc;intro no;have all:∀j,j<=mask->j∈P:=λj Ap=>Tc λz=>no ⟨j,Ap,z⟩;have C1:(CW (mask+1)).Nodup:=List.nodup_range;have sub:∀x∈CW (mask+1),x∈P:=λx AK=>all x (by have:=List.mem_range.mp AK;lia);have key:∀(l:List Nat),l.Nodup->∀(P:List Nat),(∀x∈l,x∈P)->l.length<=P.length:=by
  intro l;induction l with
  |nil=>intro _ P _;simp
  |cons a r C9=>intro C1 P sub;obtain⟨DC,Dx⟩:=List.nodup_cons.mp C1;have AE:=sub a (by simp);have:=C9 Dx (P.erase a) (λx AK=>(qw (by intro e;subst e;exact DC AK)).mpr (sub x (by simp[AK])));rw[qa AE]at this;have:0<P.length:=eL AE;simp;lia
 have:=key _ C1 P sub;simp at this;lia
def least(p:Nat->Prop):(∃n,p n)->∃n,p n/\∀m,m<n->¬p m:=by
 rintro⟨n,h⟩;induction n using Nat.strongRecOn with
 |_ n C9=>
  by_cases q:∃m,m<n/\p m
  .obtain⟨m,GB,GC⟩:=q;exact C9 m GB GC
  .exact⟨n,h,λm hm AT=>q ⟨m,hm,AT⟩⟩
def Hw.first{mask:Nat}(C:Hw mask){P:List Nat}(AN:P.Pairwise (· <·))(AV:P.length<=mask)(h:Int):∃N,N<10*turns mask/\(EU mask h N).j∉P/\∀m,m<N->(EU mask h m).j∈P:=by obtain⟨j,Jk,KM⟩:=uO AN AV;obtain⟨n,DC,Dx⟩:=C.cover h Jk;obtain⟨N,XM,XN⟩:=least (λn=>(EU mask h n).j∉P) ⟨n,by rw[Dx];exact KM⟩;refine⟨N,?_,XM,λm hm=>Tc (XN m hm)⟩;have:¬n<N:=λz=>XN n z (by rw[Dx];exact KM);lia
theorem kU(mask:Nat)(h:Int):∀n,(EU mask h n).dummy=none
 |0=>rfl
 |n+1=>by
  show(Lc mask (EU mask h n)).dummy=none;unfold Lc
  split<;>exact kU mask h n
def d5{mask i:Nat}(AB:i<=mask):runEnd mask i<=mask:=by unfold runEnd;split<;>lia
structure gQ(mask:Nat)(p:Probe):Prop where
 i:p.i<=mask
 j:p.j+p.more<=mask
theorem l3(mask:Nat)(h:Int):∀n,gQ mask (EU mask h n)
 |0=>by have:=dA mask h 0;have h2:=d5 this;have BH:=d4 mask (BL mask h 0).1;exact⟨this,by show(BL mask h 0).1+(runEnd mask (BL mask h 0).1-(BL mask h 0).1)<=mask;lia⟩
 |n+1=>by
  obtain⟨a,b⟩:=l3 mask h n;show gQ mask (Lc mask (EU mask h n));unfold Lc
  split
  .rename_i q;refine⟨a,?_⟩;show(EU mask h n).j+1+((EU mask h n).more-1)<=mask;lia
  .have h1:(ey mask (EU mask h n).i (EU mask h n).perturb).1<=mask:=eb (U7 _ (by lia));have h2:=d5 h1;have BH:=d4 mask (ey mask (EU mask h n).i (EU mask h n).perturb).1;refine⟨h1,?_⟩;show(ey mask (EU mask h n).i (EU mask h n).perturb).1+(runEnd mask _-_)<=mask;lia
def abT(mask:Nat)(h:Int)(n:Nat):(EU mask h n).j<=mask:=by have:=(l3 mask h n).j;lia
section
variable{α:Type}
structure K7(t:Ia)(es:Array (Int×α)):Prop where
 tab:Tab t es.size
 sq:Hw t.mask
 room:es.size<=t.mask
def K7.len{t:Ia}{es:Array (Int×α)}(J:K7 t es):t.place.toList.length=es.size:=by simpa using J.tab.Mb
theorem K7.first{t:Ia}{es:Array (Int×α)}(J:K7 t es)(h:Int):∃N,N<10*turns t.mask/\(EU t.mask h N).j∉t.place.toList/\∀m,m<N->(EU t.mask h m).j∈t.place.toList:=
 J.sq.first J.tab.Sy (by rw[J.len];exact J.room) h
theorem K7.fits{t:Ia}{es:Array (Int×α)}(J:K7 t es):t.fits es.size=true:=by unfold SetTable.fits SetTable.fill;rw[J.tab.SI,J.tab.Mb];have:=J.room;simp;lia
theorem lg{t:Ia}{es:Array (Int×α)}(J:K7 t es)(f:Nat->Int)(h:Int){N:Nat}(h1:(EU t.mask h N).j∉t.place.toList)(h2:∀m,m<N->(EU t.mask h m).j∈t.place.toList) :
  ∀fuel n,n<=N->N-n<fuel->
  probe.go t f h fuel (EU t.mask h n)=some (.empty (EU t.mask h N).j none)\/
  ∃m i e,n<=m/\m<N/\t.slot (EU t.mask h m).j=.live i/\es[i]?=some e/\probe.go t f h fuel (EU t.mask h n)=some (.candidate (EU t.mask h m).j i (EU t.mask h (m+1)))
 |0,n,_,ah6=>by lia
 |fuel+1,n,AV,iE=>by
  unfold probe.go;by_cases q:n=N
  .subst q;rw[ae1 J.tab h1];exact .inl (by dsimp only;rw[kU])
  .obtain⟨i,s1,s2⟩:=ae2 J.tab (h2 n (by lia));have AB:i<es.size:=by rw[<-J.len];exact(List.getElem?_eq_some_iff.mp s2).1
   by_cases w:f i=h
   .exact .inr ⟨n,i,_,CB _,by lia,s1,LL AB,by rw[s1];dsimp only;rw[if_pos (by simpa using w),gA];rfl⟩
   .rw[s1];dsimp only;rw[if_neg (by simpa using w),gA];exact(lg J f h h1 h2 fuel (n+1) (by lia) (by lia)).imp_right λ⟨m,ja,e,a1,a⟩=>⟨m,ja,e,by lia,a⟩
def yB{es:Array α}{p:Nat}{e:α}(AT:p<=es.size):(insertAt es p e).size=es.size+1:=by
 have:(insertAt es p e).toList.length=es.size+1:=by rw[bk,Ej,Df,LR,Wr,QH];lia
 simpa using this
def kh{es:Array α}{p:Nat}{x e:α}:e∈(insertAt es p x).toList↔e=x\/e∈es.toList:=by
 rw[bk]
 conv=>rhs;rw[<-PA p es.toList]
 simp only[HV,HW];exact⟨λh=>h.elim (λh=>.inr (.inl h)) λh=>h.imp_right .inr,λh=>h.elim (λh=>.inr (.inl h)) λh=>h.imp_right .inr⟩
end
structure Own(M:Nat)(owner:Array (Option Nat))(a:List Nat):Prop where
 Mb:owner.size=M+1
 C1:a.Nodup
 le:∀j∈a,j<=M
 of:∀j k:Nat,owner[j]?=some (some k)↔a[k]?=some j
def Own.free{M:Nat}{owner:Array (Option Nat)}{a:List Nat}(O:Own M owner a){j:Nat}(Ap:j<=M):(owner.getD j (some 0)).isNone=true↔j∉a:=by
 have AN:j<owner.size:=by have:=O.Mb;lia
 rw[Rp,LL AN,Tj];constructor
 .intro h m;obtain⟨k,AO,rfl⟩:=Tp m;have:=(O.of _ k).mpr (Cc AO);rw[LL AN]at this;rw[GU this]at h;cases h
 .intro h;cases e:owner[j]with
  |none=>rfl
  |some k=>exact absurd (LM ((O.of j k).mp (by rw[LL AN,e]))) h
theorem i0{M:Nat}{owner:Array (Option Nat)}{a:List Nat}(O:Own M owner a)(h:Int):∀fuel L,(∃Ko,L<=Ko/\Ko<L+fuel/\(BL M h Ko).1∉a)->
  ∃j,layClean.free M owner fuel (BL M h L).1 (BL M h L).2=some j/\j<=M/\j∉a
 |0,L,⟨Ko,h1,h2,_⟩=>by lia
 |fuel+1,L,⟨Ko,h1,h2,BH⟩=>by
  unfold layClean.free;have hle:=dA M h L;have ahD:=d5 hle;have ah7:=d4 M (BL M h L).1;cases hf:(CW (runEnd M (BL M h L).1+1-(BL M h L).1)).find? λk=>(owner.getD ((BL M h L).1+k) (some 0)).isNone with
  |some k=>have AO:=List.mem_range.mp (qZ hf);exact⟨_,rfl,by lia,(O.free (by lia)).mp (by have:=List.find?_some hf;exact this)⟩
  |none=>
   have ne:L≠Ko:=by rintro rfl;exact List.find?_eq_none.mp hf 0 (List.mem_range.mpr (by lia)) ((O.free (by lia)).mpr BH)
   exact i0 O h fuel (L+1) ⟨Ko,by lia,by lia,BH⟩
def dM{l P:List Nat}(C1:l.Nodup)(sub:∀x∈l,x∈P):l.length<=P.length:=by
 induction l generalizing P with
 |nil=>simp
 |cons a r C9=>obtain⟨DC,Dx⟩:=List.nodup_cons.mp C1;have AE:=sub a (by simp);have:=C9 Dx (P:=P.erase a) (λx AK=>(qw (by intro e;subst e;exact DC AK)).mpr (sub x (by simp[AK])));rw[qa AE]at this;have:0<P.length:=eL AE;simp;lia
def uP{M:Nat}(C:Hw M){owner:Array (Option Nat)}{a:List Nat}(O:Own M owner a)(AG:a.length<=M)(h:Int):∃j,layClean.free M owner (turns M) (bits h%(M+1)) (bits h)=some j/\j<=M/\j∉a:=by
 obtain⟨j,Jk,KM⟩:∃j,j<=M/\j∉a:=by apply Tc;intro no;have:=dM (List.nodup_range (n:=M+1)) (P:=a) λx AK=>Tc λz=>no ⟨x,by have:=List.mem_range.mp AK;lia,z⟩;simp at this;lia
 obtain⟨Ko,CZ,CN⟩:=C.leap h Jk;exact i0 O h (turns M) 0 ⟨Ko,ID _,by unfold turns;lia,by rw[CN];exact KM⟩
noncomputable def ZZ(M:Nat)(acc:Option (Array (Option Nat)×Nat))(h:Int):Option (Array (Option Nat)×Nat):=do
 let(owner,k) <-acc
 let j <-layClean.free M owner (turns M) (bits h%(M+1)) (bits h)
 pure (owner.setIfInBounds j (some k),k+1)
def yq(M:Nat)(AN:Array Int):layClean M AN=(AN.toList.foldl (ZZ M) (some (Array.replicate (M+1) none,0))).map (·.1):=by unfold layClean;rw[<-Array.foldl_toList];rfl
def Own.add{M:Nat}{owner:Array (Option Nat)}{a:List Nat}(O:Own M owner a){j:Nat}(Ap:j<=M)(AV:j∉a):Own M (owner.setIfInBounds j (some a.length)) (a++[j]):=by
 have AN:j<owner.size:=by have:=O.Mb;lia
 refine⟨by simp[O.Mb],?_,?_,λi k=>?_⟩
 .refine List.nodup_append.mpr ⟨O.C1,by simp,λx AK y AP=>?_⟩;simp at AP;subst AP;intro e;subst e;exact AV AK
 .intro i AB;rcases List.mem_append.mp AB with AB|AB
  .exact O.le i AB
  .simp at AB;lia
 .rw[Array.getElem?_setIfInBounds,List.getElem?_append];by_cases q:j=i
  .subst q;rw[if_pos rfl,if_pos AN];constructor
   .intro e;have e:=GU (GU e);subst e;rw[if_neg (Iy _)];simp
   .intro e
    split at e
    .exact absurd (LM e) AV
    .have:k-a.length<1:=(List.getElem?_eq_some_iff.mp e).1;rw[show k=a.length by lia]
  .rw[if_neg q,O.of i k]
   split
   .rfl
   .rw[JV (by lia)];refine⟨(λe=>nomatch e),λe=>?_⟩;obtain⟨l,e⟩:=List.getElem?_eq_some_iff.mp e;simp at l e;exact absurd e q
theorem hv{M:Nat}(C:Hw M):∀(AN:List Int)(owner:Array (Option Nat))(a:List Nat),Own M owner a->a.length+AN.length<=M->
  ∃Zz GS,AN.foldl (ZZ M) (some (owner,a.length))=some (Zz,GS.length)/\Own M Zz GS/\GS.length=a.length+AN.length
 |[],owner,a,O,_=>⟨owner,a,rfl,O,rfl⟩
 |h::AN,owner,a,O,AG=>by
  simp only[Df]at AG;obtain⟨j,f1,f2,Eo⟩:=uP C O (by lia) h;obtain⟨Zz,GS,Ar,BD,FY⟩:=hv C AN _ _ (O.add f2 Eo) (by simp;lia);refine⟨Zz,GS,?_,BD,by simp at FY |-;lia⟩;have DY:ZZ M (some (owner,a.length)) h=some (owner.setIfInBounds j (some a.length),(a++[j]).length):=by unfold ZZ;simp only[Option.bind_eq_bind,eU,f1];simp
  rw[List.foldl_cons,DY];exact Ar
section
variable{α:Type}
theorem ie{es:List α}:∀{l:List Nat},(∀k∈l,k<es.length)->(l.filterMap (es[·]?)).length=l.length
 |[],_=>rfl
 |k::l,AO=>by rw[Ro,Cc (AO k (by simp))];simp[ie (es:=es) (l:=l) λx AK=>AO x (by simp[AK])]
def yn{M:Nat}(C:Hw M){es:Array (Int×α)}(AG:es.size<=M)(finger moves:Nat)(led plain:Bool) :
  ∃t' order,laid M finger moves led plain (es.map (·.1))=some (t',order)/\t'.mask=M/\
   (order.filterMap (es[·]?)).size=es.size/\K7 t' (order.filterMap (es[·]?))/\∀e,e∈(order.filterMap (es[·]?)).toList↔e∈es.toList:=by
 obtain⟨owner,a,Bk,O,bX⟩:=hv C (es.map (·.1)).toList (Array.replicate (M+1) none) [] ⟨by simp,by simp,by simp,λj k=>by
  rw[Array.getElem?_replicate]
  split<;>simp⟩ (by simpa using AG)
 have bX:a.length=es.size:=by simpa using bX
 have Bk:layClean M (es.map (·.1))=some owner:=by rw[yq];rw[show(U5 ([]:List Nat))=0 from rfl]at Bk;rw[Bk];rfl
 obtain⟨live,a_⟩:∃live,live=(CW (M+1)).filterMap λj=>(owner.getD j none).map (j,·):=⟨_,rfl⟩;have mem:∀j k,(j,k)∈live↔a[k]?=some j:=by
  intro j k;rw[a_,List.mem_filterMap,<-O.of j k];simp only[Rp,List.mem_range,Option.map_eq_some_iff,Prod.mk.injEq];constructor
  .rintro⟨i,AB,y,e,rfl,rfl⟩;cases q:owner[i]? with
   |none=>rw[q]at e;cases e
   |some x=>rw[q]at e;exact congrArg some e
  .intro e;have:=(Array.getElem?_eq_some_iff.mp e).1;exact⟨j,by have:=O.Mb;lia,k,by rw[e];rfl,rfl,rfl⟩
 have rise:(live.map (·.1)).Pairwise (· <·):=by rw[a_,Th];refine List.Pairwise.filterMap _ (R:=(· <·)) ?_ (by simpa using List.pairwise_lt_range);intro i ja vw b A2 Hh aU;obtain⟨_,_,rfl⟩:=Option.map_eq_some_iff.mp A2;obtain⟨_,_,rfl⟩:=Option.map_eq_some_iff.mp aU;exact vw
 have JI:live.length=es.size:=by
  apply Nat.le_antisymm
  .have:=dM (rise.imp λh=>Ei h) (P:=a) (λx AK=>by
     obtain⟨p,E3,rfl⟩:=List.mem_map.mp AK;exact LM ((mem p.1 p.2).mp E3))
   simp at this;lia
  .have:=dM O.C1 (P:=live.map (·.1)) (λx AK=>by
     obtain⟨k,AO,rfl⟩:=Tp AK;exact List.mem_map.mpr ⟨(a[k],k),(mem _ _).mpr (Cc AO),rfl⟩)
   simp at this;lia
 have aad:∀k∈live.map (·.2),k<es.toList.length:=λk AO=>by obtain⟨p,E3,rfl⟩:=List.mem_map.mp AO;have:=(List.getElem?_eq_some_iff.mp ((mem p.1 p.2).mp E3)).1;simp;lia
 have Y6:((live.map (·.2)).toArray.filterMap (es[·]?)).toList=(live.map (·.2)).filterMap (es.toList[·]?):=by rw[Array.toList_filterMap];simp
 have hsz:((live.map (·.2)).toArray.filterMap (es[·]?)).size=es.size:=by
  have:((live.map (·.2)).toArray.filterMap (es[·]?)).toList.length=es.size:=by rw[Y6,ie aad];simp[JI]
  simpa using this
 refine⟨_,_,by
  unfold laid;rw[Bk];show some _=_;rw[<-a_],rfl,hsz,⟨⟨rfl,?_,?_,?_⟩,C,by rw[hsz];exact AG⟩,λe=>?_⟩
 .rw[hsz];simp[JI]
 .simpa using rise
 .intro j Ap;have Ap:j∈live.map (·.1):=by simpa using Ap
  obtain⟨p,E3,rfl⟩:=List.mem_map.mp Ap;exact O.le _ (LM ((mem p.1 p.2).mp E3))
 .rw[Y6,List.mem_filterMap];constructor
  .rintro⟨k,_,q⟩;exact LM q
  .intro q;obtain⟨k,AO,rfl⟩:=Tp q;have vy:k<a.length:=by rw[bX];simpa using AO
   exact⟨k,List.mem_map.mpr ⟨(a[k],k),(mem _ _).mpr (Cc vy),rfl⟩,Cc AO⟩
end
section
variable{prog:C5}{w:Bo}{A:D4}{E:A6->AM->Prop}{s:AM}{K:Type}[DecidableEq K]{knd:KeyKind prog w K}
def kA{AI:List K}{a:A4}{n:Nat}{Q:Bool->AM->Prop}(AO:Nx knd s.heap AI a)(h:Q false s):Ag (Av prog w) A (X1 (n+1) (.ref a)) Q E s:=by
 have ET:=AO.typeIs;obtain⟨o,items,m,ho,_,hd,AB⟩:=AO;unfold X1;refine AU (X3 ET ?_);dsimp only;rw[if_pos (by rfl)];refine AU (BP ?_);simp only[ez,M6,if_false];refine AU (N5 ho hd ?_);refine AU ?_;rw[<-Array.forIn_toList];refine eV _ (λrest r s'=>r.1=none/\s'=s/\∀v∈rest,U3 v=true) _ ?_ ?_ _ _ ⟨rfl,rfl,AB.byValue⟩
 .rintro v rest r s' ⟨B7,rfl,al⟩;have e:X1 n v=pure false:=by
   have:=al v Gq;cases v<;>first|(simp[U3]at this;done)|(unfold X1;rfl)
  rw[e];exact AU (BP (BP ⟨rfl,rfl,λu BI=>al u (GF _ BI)⟩))
 .rintro⟨Ar,BD⟩ s' ⟨B7,rfl,_⟩;simp only at B7;subst B7;exact BP h
theorem t2{AI:List K}{a:A4}{Q:Bool->AM->Prop}(AO:Nx knd s.heap AI a)(h:∀b,Q b s):Ag (Av prog w) A (XE 8 (.ref a)) Q E s:=by
 have ET:=AO.typeIs;obtain⟨o,items,m,ho,_,hd,AB⟩:=AO;unfold XE;refine AU (eP ET F.slot_tuple_hash.lookup ?_);refine AU (N5 ho hd ?_);simp only[Tj];refine AU ?_;rw[<-Array.forIn_toList];refine eV _ (λrest r s'=>r.1=none/\s'=s/\∀v∈rest,U3 v=true) _ ?_ ?_ _ _ ⟨rfl,rfl,AB.byValue⟩
 .rintro v rest r s' ⟨B7,rfl,al⟩;have e:∃b,XE 7 v=pure b:=by
   have:=al v Gq;cases v<;>first|(simp[U3]at this;done)|(unfold XE;exact⟨_,rfl⟩)
  obtain⟨b,e⟩:=e;rw[e];refine AU (BP ?_);cases b with
  |true=>exact BP ⟨rfl,rfl,λu BI=>al u (GF _ BI)⟩
  |false=>exact BP (BP (h _))
 .rintro⟨Ar,BD⟩ s' ⟨B7,rfl,_⟩;simp only at B7;subst B7;exact BP (h _)
def OI(knd:KeyKind prog w K)(ok:A4->Prop)(h:B8)(S:List (List K))(v:A6):Prop:=∃AI b,v=.ref b/\Nx knd h AI b/\AI∈S/\ok b
def OI.to{ok kI:A4->Prop}{h h':B8}{S Cf:List (List K)}{v:A6}(x:OI knd ok h S v)(m:∀b o,ok b->h.get? b=some o->h'.get? b=some o)(s:∀AI∈S,AI∈Cf)(k:∀b,ok b->kI b):OI knd kI h' Cf v:=
 let⟨AI,b,e,⟨o,i,n,ho,r⟩,q,z⟩:=x;⟨AI,b,e,⟨o,i,n,m b o z ho,r⟩,s AI q,k b z⟩
def zr{AI:List K}{x:A4}{ok:A4->Prop}{S:List (List K)}(AK:Nx knd s.heap AI x):∀(l:List A6),(∀y∈l,OI knd ok s.heap S y)->∀{Q:Bool->AM->Prop},Q false s->Ag (Av prog w) A (searchCouldBeSeen (.ref x) l) Q E s:=by
 intro l AG Q h;unfold searchCouldBeSeen;refine AU ?_;refine eV _ (λrest r s'=>r.1=none/\s'=s/\∀y∈rest,OI knd ok s.heap S y) _ ?_ ?_ _ _ ⟨rfl,rfl,AG⟩
 .rintro v rest r s' ⟨B7,rfl,al⟩;obtain⟨Nh,b,rfl,A2,_⟩:=al v Gq;have gB:=λu(BI:u∈rest)=>al u (GF _ BI);dsimp only;by_cases q:(x==b)=true
  .rw[if_pos (by simp[q])];exact BP ⟨rfl,rfl,gB⟩
  .rw[if_neg (by simp[U3];simpa using q)];exact AU (wpAny_eqIsQuiet_tuple AK (AU (wpAny_eqIsQuiet_tuple A2 (AU (kA AK (AU (kA A2 (BP ⟨rfl,rfl,gB⟩))))))))
 .rintro⟨Ar,BD⟩ s' ⟨B7,rfl,_⟩;simp only at B7;subst B7;exact BP h
def acq{α:Type}{c:Bool}{m:Sem Bool}{U R:Sem α}{Q:α->AM->Prop}(hm:∀{Q:Bool->AM->Prop},Q false s->Ag (Av prog w) A m Q E s)(h:Ag (Av prog w) A R Q E s) :
  Ag (Av prog w) A (if c=true then m>>=λb=>if b=true then U else R else R) Q E s:=by
 split
 .exact AU (hm (by rw[if_neg (by simp)];exact h))
 .exact h
theorem p6{a x:A4}{o:Obj}{An:Nat}{t:Ia}{es:Array (Int×A6)}{AI:List K}{ok:A4->Prop}{S:List (List K)}(BI:A.units<Dp)(ho:s.heap.get? a=some o)(hd:o.data=.set es An t)(J:K7 t es)(X:∀e∈es.toList,OI knd ok s.heap S e.2)(AK:Nx knd s.heap AI x)(no:AI∉S)(Zs:t.mask%2=1){N:Nat}(hN:N<10*turns t.mask)(h1:(EU t.mask (IC knd AI) N).j∉t.place.toList)(h2:∀m,m<N->(EU t.mask (IC knd AI) m).j∈t.place.toList){Q:SetFound->AM->Prop}(q:Q (.free (EU t.mask (IC knd AI) N).j false) s) :
  ∀(fuel n:Nat)(st:Option Probe),n<=N->N-n<fuel->st.getD (t.probeStart (IC knd AI))=EU t.mask (IC knd AI) n->
   Ag (Av prog w) A (setSearchFrom a (.ref x) (IC knd AI) true fuel st) Q E s
 |0,n,_,_,z,_=>by lia
 |fuel+1,n,st,AV,hf,Fd=>by
  unfold setSearchFrom;refine AU (Ti ho hd J.fits ?_);dsimp only;rw[if_neg (by unfold SetTable.gaveWay;simp[Zs]),Fd];unfold SetTable.probe;have G:=lg J (λi=>(es[i]?.map (·.1)).getD 0) (IC knd AI) h1 h2 (10*turns t.mask) n AV (by lia);generalize hz:probe.go t _ (IC knd AI) (10*turns t.mask) (EU t.mask (IC knd AI) n)=z;rcases G with g|⟨m,i,e,GB,GC,Bn,G7,g⟩
  .have g:=hz.symm.trans g;subst g;exact BP q
  .have g:=hz.symm.trans g;subst g;dsimp only;obtain⟨Nh,b,BF,S4,ms,_⟩:=X e (by rw[<-Wg]at G7;exact LM G7);have G7:es[i]?=some (e.1,.ref b):=by rw[G7,<-BF]
   refine acq (λh=>zr (S:=S) (ok:=ok) AK _ (λy AP=>?_) h) ?_
   .obtain⟨e,he,rfl⟩:=List.mem_map.mp AP;exact X e (by simp at he;simpa using he.1)
   .rw[G7];refine AU (M9 (wpAny_eqBool_tuple BI S4 AK ?_));refine AU (Ti ho hd J.fits ?_);have ne:decide (Nh=AI)=false:=decide_eq_false λz=>no (z▸ms);rw[ne];dsimp only;rw[if_neg (by simp),show t.sameMemory t.moves t.mask=some true by unfold SetTable.sameMemory;simp];dsimp only;rw[if_pos rfl,Bn];dsimp only;rw[G7];refine AU (wpAny_isSame_ref_self ?_);rw[if_pos rfl];refine AU (BP ?_);dsimp only;rw[if_neg (by simp)];exact p6 BI ho hd J X AK no Zs hN h1 h2 q fuel (m+1) _ (by lia) (by lia) rfl
noncomputable def OM(knd:KeyKind prog w K)(ok:A4->Prop)(h:B8)(a:A4)(S:List (List K)):Prop:=
 ∃o es An t,h.get? a=some o/\o.ExactSet/\o.data=.set es An t/\K7 t es/\(∀e∈es.toList,OI knd ok h S e.2)/\es.size=S.length/\((t.mask=7/\es.size<5)\/(t.mask=31/\es.size<19)\/(t.mask=127/\es.size<77))
end
section
variable{prog:C5}{w:Bo}{A:D4}{E:A6->AM->Prop}{s:AM}{K:Type}[DecidableEq K]{knd:KeyKind prog w K}
def i9{h:B8}{a:A4}{o:Obj}{es es':Array (Int×A6)}{An:Nat}{t t':Ia}(ho:h.get? a=some o)(AK:o.ExactSet)(hd:o.data=.set es An t):∃o',(h.update a (Obj.putSet es' t')).get? a=some o'/\o'.ExactSet/\o'.data=.set es' (An+1) t':=by
 refine⟨_,Rn _ ho (by rw[putSet_of es' t' hd];rfl),?_,?_⟩
 .rw[putSet_of es' t' hd];exact AK
 .rw[putSet_of es' t' hd]
def acY{a:A4}{o:Obj}{An:Nat}{t:Ia}{es:Array (Int×A6)}{M wanted:Nat}{Q:Unit->AM->Prop}(ho:s.heap.get? a=some o)(AK:o.ExactSet)(hd:o.data=.set es An t)(J:K7 t es)(C:Hw M)(AG:es.size<=M)(OR:qh wanted=M+1)(hm:M<=127)(h:∀es' t' o' h',LO a s.heap h'->h'.get? a=some o'->o'.ExactSet->o'.data=.set es' (An+1) t'->t'.mask=M->K7 t' es'->es'.size=es.size->(∀e,e∈es'.toList↔e∈es.toList)->Q () { s with heap:=h' }) :
  Ag (Av prog w) A (setRelay a wanted) Q E s:=by
 unfold setRelay;refine AU (Ti ho hd J.fits ?_);dsimp only;rw[if_neg (by rw[OR];show¬(M+1>CG);rw[LP];lia)];obtain⟨t',order,Ar,BD,Qp,ad8,adD⟩:=yn C AG t.finger (t.movedTo M) t.led t.plain;have e:t.relaid (es.map (·.1)) wanted=some (t',order):=by unfold SetTable.relaid;rw[OR];exact Ar
 rw[e];have DY:Ag (Av prog w) A (if((order.filterMap (es[·]?)).size !=es.size)=true then(do unsupported "internal:set-table-lost-an-element";pure (order.filterMap (es[·]?),t'))else pure (order.filterMap (es[·]?),t')) (λr s'=>Ag (Av prog w) A (storeSet a r.1 r.2) Q E s') E s:=by rw[if_neg (by rw[Qp];simp)];refine BP ?_;obtain⟨o',g1,g2,g3⟩:=i9 (es':=order.filterMap (es[·]?)) (t':=t') ho AK hd;exact wpAny_storeSet_of ho hd (h _ t' o' _ (Rm _ _ _) g1 g2 g3 BD ad8 Qp adD) (by rw[Qp,LP];lia)
 exact AU DY
def sE{ok:A4->Prop}{a x:A4}{S:List (List K)}{AI:List K}{Q:Bool->AM->Prop}(BI:A.units<Dp)(T:OM knd ok s.heap a S)(AK:Nx knd s.heap AI x)(Aw:ok x)(na:∀b,ok b->b≠a)(no:AI∉S)(Mo:S.length<76)(h:∀b h',LO a s.heap h'->OM knd ok h' a (S++[AI])->Q b { s with heap:=h' }) :
  Ag (Av prog w) A (setAddHashed a (.ref x) (IC knd AI)) Q E s:=by
 obtain⟨o,es,An,t,ho,hex,hd,J,X,AV,B7⟩:=T;obtain⟨C,Zs⟩:Hw t.mask/\t.mask%2=1:=by
  rcases B7 with⟨e,_⟩|⟨e,_⟩|⟨e,_⟩<;>rw[e]
  .exact⟨hC,rfl⟩
  .exact⟨hB,rfl⟩
  .exact⟨hA,rfl⟩
 obtain⟨N,rt,XM,XN⟩:=J.first (IC knd AI);unfold setAddHashed setAddHashedIn;refine M9 (AU (Ti ho hd J.fits ?_));dsimp only;rw[if_neg (by simp[byScan,Value.scannable])];unfold setSearch;refine AU (p6 BI ho hd J X AK no Zs rt XM XN ?_ 100000 0 none (ID _) (by
  have:turns t.mask<=142:=by unfold turns;lia
  lia) rfl)
 dsimp only;refine AU (Ti ho hd J.fits ?_);dsimp only;obtain⟨p,E3,Ct,Si,-,Ir⟩:=acy J.tab XM (abT _ _ _);generalize Ap:(EU t.mask (IC knd AI) N).j=j at*;have HM:=yB (e:=(IC knd AI,Cj x)) Ct
 have fin:∀pl:Bool,Ag (Av prog w) A (do
       storeSet a (X2 es (t.put j).2 (IC knd AI,Cj x)) { (t.put j).1 with plain:=pl }
       if(!false&&({ (t.put j).1 with plain:=pl }:Ia).tooFull)=true then do
          setRelay a (SetTable.grown (es.size+1))
          pure true
        else pure true) Q E s:=by
  intro pl;have Ir:(t.put j).1.mask=t.mask:=by rw[Ir]
  have Ab:K7 { (t.put j).1 with plain:=pl } (X2 es (t.put j).2 (IC knd AI,Cj x)):=⟨⟨Si.SI,by rw[E3,HM];exact Si.Mb,Si.Sy,Si.le⟩,by rw[<-Ir]at C;exact C,by rw[E3,HM];show es.size+1<=(t.put j).1.mask;lia⟩;rw[E3]at Ab |-;obtain⟨Cn,g1,g2,g3⟩:=i9 (es':=X2 es p (IC knd AI,Cj x)) (t':={ (t.put j).1 with plain:=pl }) ho hex hd;have nr:=Rm s.heap a (Obj.putSet (X2 es p (IC knd AI,Cj x)) { (t.put j).1 with plain:=pl });have done:∀(h':B8)(es':Array (Int×A6))(t':Ia)(o':Obj)(NF:Nat),LO a s.heap h'->h'.get? a=some o'->o'.ExactSet->o'.data=.set es' NF t'->K7 t' es'->es'.size=es.size+1->(∀e,e∈es'.toList↔e=(IC knd AI,Cj x)\/e∈es.toList)->((t'.mask=7/\es'.size<5)\/(t'.mask=31/\es'.size<19)\/(t'.mask=127/\es'.size<77))->Q true { s with heap:=h' }:=by
   intro h' es' t' o' NF FZ q1 q2 Ee MZ Sw Pk LA;have m:∀b o,ok b->s.heap.get? b=some o->h'.get? b=some o:=λb o z e=>(FZ.2 b (na b z)).trans e;refine h true h' FZ ⟨o',es',NF,t',q1,q2,Ee,MZ,λe he=>?_,by rw[Sw,AV];simp,LA⟩;rcases(Pk e).mp he with rfl|he
   .exact OI.to (S:=[AI]) ⟨AI,x,rfl,AK,eI _,Aw⟩ m (λk AO=>IY _ AO) λ_ z=>z
   .exact(X e he).to m (λk AO=>Iz _ AO) λ_ z=>z
  refine AU (wpAny_storeSet_of ho hd ?_ (by rw[HM,LP];lia));have ade:({ (t.put j).1 with plain:=pl }:Ia).tooFull=decide ((es.size+1)*5≥t.mask*3):=by unfold SetTable.tooFull SetTable.fill;rw[Ab.tab.Mb,Ab.tab.SI,HM];show decide ((es.size+1+0)*5≥(t.put j).1.mask*3)=_;rw[Ir]
  rw[ade];by_cases full:(es.size+1)*5≥t.mask*3
  .rw[if_pos (by simpa using full)];obtain⟨M,Bk,Co,FH,NA,Uy⟩:∃M,Hw M/\qh (SetTable.grown (es.size+1))=M+1/\M<=127/\es.size+1<=M/\((M=7/\es.size+1<5)\/(M=31/\es.size+1<19)\/(M=127/\es.size+1<77)):=by
    rcases B7 with⟨e,l⟩|⟨e,l⟩|⟨e,l⟩
    .rw[show es.size=4 by lia];exact⟨31,hB,by decide+kernel,by decide⟩
    .rw[show es.size=18 by lia];exact⟨127,hA,by decide+kernel,by decide⟩
    .lia
   refine AU (acY g1 g2 g3 Ab Bk (by rw[HM];exact NA) Co FH λes' t' o' h' FZ q1 q2 Ee MZ Sw Pk LA=>BP ?_);exact done h' es' t' o' _ (nr.trans FZ) q1 q2 Ee Sw (by rw[Pk,HM]) (λe=>by rw[LA e,kh]) (by rw[MZ,Pk,HM];exact Uy)
  .rw[if_neg (by simpa using full)];refine BP (done _ _ _ Cn _ nr g1 g2 g3 Ab HM (λe=>kh) ?_);rw[HM];show((t.put j).1.mask=7/\_)\/((t.put j).1.mask=31/\_)\/((t.put j).1.mask=127/\_);lia
 split
 .exact AU (t2 AK λb=>by cases b<;>exact fin _)
 .exact AU (BP (fin _))
end
end XI
namespace XI
open PySem PySem.Spec PyProof.Rows
section
variable{prog:C5}{w:Bo}{A:D4}{E:A6->AM->Prop}{s:AM}{K:Type}[DecidableEq K]{knd:er prog w K}
section
variable{R:Result->AM->Prop}{J:A4}{BG wr:List A4}{G:Array GenState->Array GenState->Prop}{n:Nat}{P:Nat->A6->Prop}{St:Nat->AM->Prop}
def Keyed(knd:er prog w K)(keys:List (List K))(P:Nat->A6->Prop)(no:List A4)(h:B8):Prop:=∀i v,P i v->∃AI,keys[i]?=some AI/\OI knd (· ∉no) h [AI] v
def OM.moved{ok:A4->Prop}{h h':B8}{S:A4}{L:List (List K)}(T:OM knd ok h S L)(aa6:∀o,h.get? S=some o->h'.get? S=some o)(m:∀b o,ok b->h.get? b=some o->h'.get? b=some o):OM knd ok h' S L:=
 let⟨o,es,An,t,ho,hex,hd,J,X,r⟩:=T
 ⟨o,es,An,t,aa6 o ho,hex,hd,J,λe he=>(X e he).to m (λ_ z=>z) λ_ z=>z,r⟩
def yT(W:WalksS prog w A.in1 J BG wr G n P St)(S:A4)(U_:S∉BG)(keys:List (List K))(AV:keys.length=n)(C1:keys.Nodup)(A2:n<77)(BI:A.in1.units<Dp) :
  ∀(k i:Nat)(s:AM),n-i=k->i<=n->St i s->Keyed knd keys P (S::wr) s.heap->OM knd (· ∉S::wr) s.heap S (keys.take i)->
   (∀s',Moved (S::wr) G s s'->OM knd (· ∉S::wr) s'.heap S keys->R (.ok (.ret .none)) s')->
   MF (Av prog w) A (.builtin "set.update.loop" ⟨[.ref S,.ref J],[]⟩) R s:=by
 have wL:S∉wr:=λh=>U_ (W.sub _ h);have Q3:∀b∈wr,b∈S::wr:=λb A2=>GF _ A2;have keep:∀{s s':AM}{L:List (List K)},Moved wr G s s'->OM knd (· ∉S::wr) s.heap S L->OM knd (· ∉S::wr) s'.heap S L:=λm T=>
  T.moved (λo e=>m.heap S o wL e) λb o nb e=>m.heap b o (λz=>nb (Q3 b z)) e
 intro k;induction k with
 |zero=>
  intro i s AO AB Fd Vk T SS;obtain rfl:i=n:=by lia
  refine Rr qS ?_;rw[Tn eJ _];refine AU (W.done s _ _ Fd λs' hm=>?_);rw[<-AV,List.take_length]at T;exact BP (SS s' (hm.mono Q3) (keep hm T))
 |succ k C9=>
  intro i s AO AB Fd Vk T SS;have DS:i<n:=by lia
  refine Rr qS ?_;rw[Tn eJ _];refine AU (W.item i s _ _ DS Fd λv s' Dl xK hm=>?_);have Si:=keep hm T;obtain⟨AI,DG,Nh,b,rfl,S4,w2,nb⟩:=Vk i v Dl;obtain rfl:=List.mem_singleton.mp w2;have S4:Nx knd s'.heap Nh b:=let⟨o,it,c,ho,r⟩:=S4;⟨o,it,c,hm.heap b o (λz=>nb (Q3 b z)) ho,r⟩
  show Ag _ A.in1 (J3 [Cj b] (setAdd S (.ref b))>>=_) _ _ s';refine AU (M9 ?_);unfold setAdd;refine M9 (AU (wpAny_pyHash_tuple BI S4 ?_));have A9:keys.take (i+1)=keys.take i++[Nh]:=by rw[List.take_add_one,DG];rfl
  have no:Nh∉keys.take i:=λz=>by have:=C1.sublist (List.take_sublist (i+1) keys);rw[A9,ed]at this;exact this.2.2 _ z _ (eI _) rfl
  refine sE (s:={ s' with toks:=s'.toks+(Nh.length+1) }) BI Si S4 nb (λb z e=>z (e▸Gq)) no (by rw[LR];lia) λc h' FZ ry=>?_;have UV:∀Hh o,Hh∉S::wr->s'.heap.get? Hh=some o->h'.get? Hh=some o:=λHh o z_ e=>by rw[FZ.2 Hh (λz=>z_ (by rw[z];exact Gq))];exact e
  refine BP ⟨X6 eJ _,C9 (i+1) _ (by lia) DS (W.frame _ s' _ _ xK (QG _ _) λHh aU o e=>?_) (λj v p=>?_) (by rw[A9];exact ry) λJr vU wJ=>?_⟩
  .rw[FZ.2 Hh (λh:Hh=S=>U_ (by rw[<-h];exact aU))];exact e
  .obtain⟨AI,e,x⟩:=Vk j v p;exact⟨AI,e,x.to (λb o nb e=>UV b o nb (hm.heap b o (λz=>nb (Q3 b z)) e)) (λ_ z=>z) λ_ z=>z⟩
  .exact SS Jr (Moved.trans W.gtrans ((hm.mono Q3).then_heap (QG _ _) UV) vU) wJ
end
def Ma(led:Bool):Obj:={ cls:=.type "set",dict:=none,data:=.set #[] 0 (.fresh 0 0 led) }
theorem acs(a:A6){Q₁:A6->AM->Prop}(h:Q₁ (.ref s.heap.objs.size) { s with heap:=s.heap.push (Ma (!w.params.followText "set-order")) }):MF (Av prog w) A (.call (.builtin "set.__new__") { pos:=[.type "set",a] }) (wants Q₁ E) s:=by
 have Q3:=sub_set_self;refine codeAny_of_tree ?_;refine AU (wpAny_of_eq (F.newCall_set_1 a) (BP ⟨X6 F.plain_set_new _,Rr F.entry_set_new ?_⟩));rw[Tn F.plain_set_new _];obtain⟨AT,g,d,CL,os⟩:=s;have nn:∀{A:D4}{Q:A6->AM->Prop}{E:A6->AM->Prop},Q (.ref AT.objs.size) ⟨AT.push (Ma (!w.params.followText "set-order")),g,d,CL,os⟩->Ag (Av prog w) A (newSet (.type "set")) Q E ⟨AT,g,d,CL,os⟩:=λ{A Q E} AX=>by unfold newSet setsByText;exact AU (AU (wpAny_askSetting (BP (LK AX))))
 unfold QZ.«set.__new__»;generalize hN:newSet=agr at nn |-
 wp_walk
 exact nn (BP h)
set_option maxHeartbeats 3200000 in
theorem tF{l:A4}{items:Array A6}{keys:List (List K)}{Q:A6->AM->Prop}(hh:A.handled=none)(BI:A.units+64<Dp)(AG:s.heap.IsList l items)(AO:keys.length=items.size)(C1:keys.Nodup)(A2:items.size<77)(AB:∀(i:Nat) v,items[i]?=some v->∃b AI,v=.ref b/\keys[i]?=some AI/\Nx knd s.heap AI b)(h:∀(h':B8)(CL:Nat),(∃o es An t,h'.get? s.heap.objs.size=some o/\o.ExactSet/\o.data=.set es An t/\t.fits es.size=true/\es.size=keys.length)->(∀b o,s.heap.get? b=some o->h'.get? b=some o)->Q (.ref s.heap.objs.size) { s with heap:=h',toks:=CL }) :
  Ag (Av prog w) A (call (.type "set") [.ref l]) Q E s:=by
 obtain⟨c,Im,ahB⟩:=F.called_set.mro;have ahA:=F.called_set.made;have Q3:=F.called_set.sub;refine wpAny_call (codeAny_of_tree ?_);show Ag _ _ (callAny (.type "set") _) _ _ _;refine BP ⟨Code.quiet_builtin _ (by decide+kernel),Rr F.entry_type_call ?_⟩;rw[Around.under_plain (weight_type_call_type "set" [.ref l] []) rfl];have h1:=F.called_set.notType;have h2:=F.called_set.canCreate;have ah5:=F.typeCall_set_1 (.ref l)
 repeat (any_goals (first|assumption|wp_step))
 refine QN (acs (.ref l) (E:=E) (Q₁:=λobj Cq=>∃led:Bool,obj=.ref s.heap.objs.size/\Cq={ s with heap:=s.heap.push (Ma led) }) ⟨_,rfl,rfl⟩) λr Cq B7=>?_;rcases r with e|Du
 .exact B7
 .cases Du with
  |ret obj=>
   obtain⟨led,rfl,rfl⟩:=B7;have Mo:(s.heap.push (Ma led)).get? s.heap.objs.size=some (Ma led):=F_ _ rfl;have ET:Shared.TypeIs { s with heap:=s.heap.push (Ma led) } (.ref s.heap.objs.size) "set":=⟨_,Mo,rfl⟩;have Z2:=F.called_set.init.lookup;have Yz:=F.called_set.init.bind (.ref s.heap.objs.size)
   repeat (any_goals (first|assumption|wp_step))
   refine QN (codeAny_call_builtin (R:=wants (λr JR=>r=.none/\Q (.ref s.heap.objs.size) JR) E) F.called_set.init.plain F.entry_set_init (check_set_init_1 ET ?_)) λacm JR cM=>?_
   .obtain⟨ol,SZ,Rf,nl,SV⟩:=AG;obtain⟨ahQ,zV,ahR,aae⟩:=ol;simp only at Rf SV;subst Rf;subst SV;have xA:(s.heap.push (Ma led)).get? l=some { cls:=.type "list",dict:=zV,data:=.seq items nl,slots:=aae }:=Cw _ SZ;have agf:=F.sub_list_set;have ahE:=F.sub_list_frozenset;have KH:(Nv "list"==Nv "dict")=false:=by decide
    have cC:(s.heap.push (Ma led)).IsList l items:=⟨_,xA,rfl,nl,rfl⟩;unfold QZ.«set.__init__» noKeywords Builtin.Frozenset.updateFrom;generalize wH:pyIter=Hg
    wp_walk
    subst wH;refine ee cC ?_;refine AU (wpAny_runValue ?_);have jQ:l<s.heap.objs.size:=DB SZ;have ao:(s.heap.push (Ma led)).objs.size=s.heap.objs.size+1:=Kc _ _;have i6:∀b o,s.heap.get? b=some o->((s.heap.push (Ma led)).push { cls:=.type "list_iterator",data:=.fields #[.ref l,.int 0 0] }).get? b=some o:=λb o e=>Cw _ (Cw _ e);have UV:∀b o,s.heap.get? b=some o->b∉s.heap.objs.size::[(s.heap.push (Ma led)).objs.size]:=λb o e=>by have:=DB e;rw[ao];simp only[HW,Ka,or_false,not_or];exact⟨Ei this,Ei (X0 this)⟩
    refine yT (knd:=knd) ((Walks.list (by simp[hh]) _ l (by rw[ao];exact Ei (X0 jQ)) items).toS) s.heap.objs.size (by
     rw[ao];simp only[HW,Ka,or_false,not_or];exact⟨Ei (QE _),N3 jQ⟩) keys AO C1 A2 (by simp only[Around.in1_units];lia) (items.size-0) 0 _ (by lia) (ID _)
     ⟨⟨_,F_ _ rfl,rfl,rfl⟩,(cC.push _)⟩ (λi v p=>?_) ⟨_,#[],0,_,Cw _ Mo,⟨rfl,rfl,rfl⟩,rfl,⟨⟨rfl,rfl,by simp[SetTable.fresh],by simp[SetTable.fresh]⟩,hC,ID _⟩,λe he=>(by simp at he),rfl,.inl ⟨rfl,by decide⟩⟩ λs' hm T=>?_
    .obtain⟨b,AI,rfl,q,o,it,c,ho,r⟩:=AB i v p;exact⟨AI,q,AI,b,rfl,⟨o,it,c,i6 b o ho,r⟩,eI _,UV b o ho⟩
    .obtain⟨h',g',d',adg,dR⟩:=s';obtain rfl:g'=s.gens:=hm.gens;obtain rfl:d'=s.drawn:=hm.drawn;obtain rfl:dR=s.os:=hm.os;obtain⟨o,es,An,t,q1,q2,Ee,MZ,Sw,Pk,LA⟩:=T;exact BP (BP ⟨rfl,h h' adg ⟨o,es,An,t,q1,q2,Ee,MZ.fits,Pk⟩ λb o e=>hm.heap b o (UV b o e) (i6 b o e)⟩)
   .rcases acm with e|uv
    .exact cM
    .cases uv with
     |ret r=>
      obtain⟨rfl,AX⟩:=cM
      repeat (any_goals (first|assumption|wp_step))
     |_=>cases cM
  |_=>cases B7
end
end XI
namespace LT
open PySem PyProof.Rows
def Kk(h:B8)(d:A4)(es:Array LW)(An:Nat):Prop:=∃o,h.get? d=some o/\o.ExactDict/\o.data=.dict es An
def Kk.at{h h':B8}{d:A4}{es:Array LW}{An:Nat}(x:Kk h d es An)(e:∀o,h.get? d=some o->h'.get? d=some o):Kk h' d es An:=let⟨o,ho,r⟩:=x;⟨o,e _ ho,r⟩
def Kk.typeIs{s:AM}{d:A4}{es:Array LW}{An:Nat}(x:Kk s.heap d es An):s.TypeIs (.ref d) "dict":=let⟨o,ho,c,_⟩:=x;⟨o,ho,c.1⟩
def Nl(a b:Int):Bool:=decide (a<=b)
def Jt(AI:List Int):List Int:=AI.mergeSort Nl
def yv(a b c:Int)(h1:Nl a b=true)(h2:Nl b c=true):Nl a c=true:=by unfold Nl at*;have h1:=of_decide_eq_true h1;have h2:=of_decide_eq_true h2;exact decide_eq_true (by lia)
def yu(a b:Int):(Nl a b||Nl b a)=true:=by
 unfold Nl;by_cases h:a<=b
 .simp[h]
 .have:b<=a:=by lia
  simp[this]
def ae7{AI l:List Int}(p:l.Perm AI)(h:l.Pairwise λa b=>Nl a b=true):l=Jt AI:=
 List.Perm.eq_of_pairwise (le:=λa b=>Nl a b=true) (λa b _ _ h1 h2=>by
  have h1:=of_decide_eq_true h1;have h2:=of_decide_eq_true h2
  lia) h (List.pairwise_mergeSort yv yu AI) (p.trans (Tq _ _).symm)
theorem bl:∀{vs:List A6}{ns:List Int},QY vs ns->vs.map numOf=ns/\∀v∈vs,∃k t,v=.int k t
 |_,_,.nil=>⟨rfl,λ_ h=>nomatch h⟩
 |_,_,.cons n t h=>⟨by rw[D3,(bl h).1];rfl,λv B_=>by
  rcases List.mem_cons.mp B_ with rfl|B_
  .exact⟨n,t,rfl⟩
  .exact(bl h).2 v B_⟩
def oL{us:List A6}{out:Array A6}{ns:List Int}(a:QY out.toList ns)(p:ns.Perm (us.map numOf))(h:ns.Pairwise (· <=·)):out.toList.length=us.length/\(∀v∈out.toList,∃k t,v=.int k t)/\out.toList.map numOf=Jt (us.map numOf):=by obtain⟨e,g⟩:=bl a;have CZ:=congrArg U5 e;have CN:=p.length_eq;rw[CS]at CZ CN;exact⟨CZ.trans CN,g,e.trans (ae7 p (h.imp decide_eq_true))⟩
section
variable{prog:C5}{w:Bo}{A:D4}{E:A6->AM->Prop}{s:AM}{es:Array LW}
theorem kv{d:A4}{An:Nat}{Q:A6->AM->Prop}(hd:(d==Jy)=false)(hm:Kk s.heap d es An)(Eh:Q (.ref s.heap.objs.size) { s with heap:=s.heap.push { cls:=.type "dict_keyiterator",data:=.fields #[.ref d,.int 0 0,.int es.size 0,.int An 0] } }) :
  Ag (Av prog w) A (pyIter (.ref d)) Q E s:=by
 have ET:s.TypeIs (.ref d) "dict":=hm.typeIs;obtain⟨o,ho,AH,iI⟩:=hm;refine wpAny_pyIter_slot ET F.slot_dict_iter (Nu F.slot_dict_iter ET F.entry_dict_iter ?_ (F.args_dict_iter_1 _));unfold QZ.«dict.__iter__»;refine AU ?_;unfold Builtin.Dict.dictSlotNone;refine AU (wpAny_notOrdered_dict ET ?_);show Ag _ _ (pure (Cj d)) _ _ s;refine BP ?_;show Ag _ _ (qo d>>=_) _ _ s;unfold qo;rw[if_neg (by rw[hd];exact Kb)];refine AU (BP ?_);refine AU (ef ho iI ?_);refine AU (f6 ho iI ?_);refine AU (LK (BP ⟨_,rfl,"dict_keyiterator",_,⟨_,F_ _ rfl,rfl⟩,F.slot_dict_keyiterator_next.lookup,?_⟩));simpa[MH]using Eh
def ku{it d:A4}{i An:Nat}{Q:Option A6->AM->Prop}(hit:s.heap.IsKeyIter it d i es.size An)(hm:Kk s.heap d es An)(w5:i<es.size)(Eh:∀h',h'.IsKeyIter it d (i+1) es.size An->LO it s.heap h'->Q (some es[i].key) { s with heap:=h' }) :
  Ag (Av prog w) A (MG (.ref it)) Q E s:=by
 obtain⟨o,ho,AH,hd⟩:=id hit;obtain⟨Dy,Ui,L0,Ug⟩:=id hm;unfold MG
 refine AU (X5 (QL (name:=QO "__next__") hit.typeIs Wb
  (Nu Wb hit.typeIs qA ?_ (qK _))))
 refine AU (BP ?_);refine AU ?_;refine AU ?_
 first|refine AU (Wa hit.typeIs (BP ?_))|refine AU (Wm hit.typeIs (BP ?_))
 refine AU (wpAny_fieldsOf ho hd ?_);have cK:qD "dict_keyiterator"=false:=by decide
 simp only[cK,M6,if_false];show Ag _ _ (if(Cj d==J1)=true then _ else _) _ _ s;rw[if_neg (show¬((Cj d==J1)=true)from Kb)];refine AU (BP ?_);refine AU (ef Ui Ug ?_);rw[if_neg (by simp)];refine AU (BP ?_);refine AU (f6 Ui Ug ?_);rw[if_neg (by simp)];refine BP ?_;simp only[show¬((i:Int)<0)from by lia,if_false,QK,LL w5];refine AU ?_
 first|refine AU (Wa hit.typeIs (BP ?_))|refine AU (Wm hit.typeIs (BP ?_))
 refine AU (wpAny_isOneOf_keyiter hit.typeIs ?_);show Ag _ _ (setField (.ref it) 1 (MH ((i:Int)+1))>>=_) _ _ s;refine AU (XB ho hd (by simp) ?_);have SX:(s.heap.update it (Obj.mapFields (·.setIfInBounds 1 (MH ((i:Int)+1))))).IsKeyIter it d (i+1) es.size An:=
  ⟨_,Rn _ ho (qO (Wy hd _)),(Obj.cls_mapFields ..).trans AH,by rw[Wy hd];simp[MH]⟩
 refine AU (M9 ?_);refine AU (wpAny_isOneOf_keyiter (s:={ s with heap:=s.heap.update it (Obj.mapFields (·.setIfInBounds 1 (MH ((i:Int)+1)))) }) SX.typeIs ?_);show Ag _ _ (pure es[i].key) _ _ _;exact BP (BP ⟨_,rfl,BP (Eh _ SX (Rm ..))⟩)
def ks{it d:A4}{An:Nat}{Q:Option A6->AM->Prop}(hh:A.handled=none)(hit:s.heap.IsKeyIter it d es.size es.size An)(hm:Kk s.heap d es An)(Eh:∀h',Heap.ExtBut it s.heap h'->Q none { s with heap:=h' }):Ag (Av prog w) A (MG (.ref it)) Q E s:=by
 obtain⟨o,ho,AH,hd⟩:=id hit;obtain⟨Dy,Ui,L0,Ug⟩:=id hm;unfold MG
 refine AU (X5 (QL (name:=QO "__next__") hit.typeIs Wb
  (Nu Wb hit.typeIs qA ?_ (qK _))))
 refine AU (BP ?_);refine AU ?_;refine AU ?_
 first|refine AU (Wa hit.typeIs (BP ?_))|refine AU (Wm hit.typeIs (BP ?_))
 refine AU (wpAny_fieldsOf ho hd ?_);have cK:qD "dict_keyiterator"=false:=by decide
 simp only[cK,M6,if_false];show Ag _ _ (if(Cj d==J1)=true then _ else _) _ _ s;rw[if_neg (show¬((Cj d==J1)=true)from Kb)];refine AU (BP ?_);refine AU (ef Ui Ug ?_);rw[if_neg (by simp)];refine AU (BP ?_);refine AU (f6 Ui Ug ?_);rw[if_neg (by simp)];refine BP ?_;simp only[show¬((es.size:Int)<0)from by lia,if_false,QK,Array.getElem?_eq_none (CB es.size)];refine AU ?_
 first|refine AU (Wa hit.typeIs (BP ?_))|refine AU (Wm hit.typeIs (BP ?_))
 show Ag _ _ (setField (.ref it) 0 .none>>=_) _ _ s;refine AU (XB ho hd (by simp) ?_);show Ag _ _ (newExc (.type "StopIteration") []>>=_) _ _ _;refine AU ?_;simp only[newExc,newTuple];refine AU (LK ?_ (by size_fits));refine AU (m:=XC _ _) (wpAny_of_eq (a:=J1) (by first|rfl|(simp only[XC];rfl)) ?_);refine LK ?_ (by size_fits);simp only[raiseNew];refine AU (wpAny_handled ?_);rw[show A.in1.handled=none from hh];refine AU (BP (wpAny_throw ?_));refine AU (eT (T:="StopIteration") (b:=true) ⟨_,F_ _ rfl,rfl⟩ isSubtype_stop ?_);exact BP (Eh _ (((Rm ..).extBut.push _).push _))
def adN(hh:A.handled=none)(J d:A4)(KH:d≠J)(es:Array LW)(An:Nat) :
  Walks prog w A J [J,d] [J] es.size (λi v=>es[i]?.map (·.key)=some v) (λi h=>h.IsKeyIter J d i es.size An/\Kk h d es An) where
 sub:=λb A2=>by simp at A2;simp[A2]
 frame:=λ_ _ _ st AO=>⟨st.1.at λo e=>AO J (by simp) o e,st.2.at λo e=>AO d (by simp) o e⟩
 item:=λi s Q E AB st Eh=>ku st.1 st.2 AB λh' SX L1=>
  Eh _ h' s.toks (by rw[LL AB];rfl) ⟨SX,st.2.at λo e=>L1.extBut d o KH e⟩ λb o A2 e=>L1.extBut b o (λh=>A2 (by simp[h])) e
 done:=λs Q E st Eh=>ks hh st.1 st.2 λh' vm=>Eh h' s.toks λb o A2 e=>vm b o (λh=>A2 (by simp[h])) e
 self:=λ_ _ _ _ st Eh=>wpAny_pyIter_keyiter st.1 Eh
def sO:typeLookup (.type "dict") "__len__"=pure (some (.builtin "dict.__len__")):=by rw[typeLookup_type,builtinLookup_eq_fast];kernel_rfl
def xu{acc:Array A6}{es:Array LW}(h:ItemsOf (λi v=>es[i]?.map (·.key)=some v) acc es.size):acc.toList=es.toList.map (·.key):=by
 apply eh;intro i;have A9:acc.toList[i]?=acc[i]?:=by simp
 rw[Ed,A9];cases e:acc[i]? with
 |none=>
  have:acc.size<=i:=by simpa using e
  rw[h.1]at this;have AF:es.toList[i]?=none:=JV (by simpa using this);rw[AF];rfl
 |some v=>have:=h.2 i v e;rw[<-this];simp
theorem sb{d:A4}{An:Nat}{Q:List A6->AM->Prop}(hh:A.handled=none)(hd:(d==Jy)=false)(hm:Kk s.heap d es An)(AV:es.size<=CG)(Eh:∀h' CL,(∀b o,s.heap.get? b=some o->h'.get? b=some o)->s.heap.objs.size<h'.objs.size->Q (es.toList.map (·.key)) { s with heap:=h',toks:=CL }):Ag (Av prog w) A (collect (.ref d)) Q E s:=by
 have DS:d<s.heap.objs.size:=by obtain⟨o,ho,_⟩:=hm;exact DB ho
 have hi:s.heap.objs.size≠d:=λe=>Iy _ (e▸DS);unfold collect;refine AU (wpAny_runValue (Rr F.entry_proto_collect ?_));rw[Tn F.plain_proto_collect _];show Ag _ A.in1 (newList []>>=λl=>again (.builtin "list.__iadd__" ⟨[l,.ref d],[]⟩)) _ _ s;refine AU (LK ?_);refine BP ⟨X6 F.plain_list_iadd _,Rr F.entry_list_iadd ?_⟩;rw[Tn F.plain_list_iadd _];have Z4:Kk (s.heap.push { cls:=.type "list",data:=.seq ([]:List A6).toArray }) d es An:=hm.at λo e=>Cw _ e;have iH:(s.heap.push { cls:=.type "list",data:=.seq ([]:List A6).toArray }).get? s.heap.objs.size=some { cls:=.type "list",data:=.seq ([]:List A6).toArray }:=F_ _ rfl;show Ag _ A.in1 (qF (.ref s.heap.objs.size) (.ref d) (.ref s.heap.objs.size)) _ _ { s with heap:=s.heap.push { cls:=.type "list",data:=.seq ([]:List A6).toArray } };generalize C8:s.heap.push { cls:=.type "list",data:=.seq ([]:List A6).toArray }=f1 at Z4 iH |-;unfold qF;refine AU (X3 (s:={ s with heap:=f1 }) (Z4.typeIs (s:={ s with heap:=f1 })) ?_);have h1:qb (.ref s.heap.objs.size) (.ref d)=false:=by simp[qb,hi]
 rw[if_neg (by rw[h1];decide)];refine AU (kv (s:={ s with heap:=f1 }) hd Z4 ?_);dsimp only;have Q0:(f1.push { cls:=.type "dict_keyiterator",data:=.fields #[.ref d,.int 0 0,.int es.size 0,.int An 0] }).IsKeyIter f1.objs.size d 0 es.size An:=⟨_,F_ _ rfl,rfl,rfl⟩;have Mr:Kk (f1.push { cls:=.type "dict_keyiterator",data:=.fields #[.ref d,.int 0 0,.int es.size 0,.int An 0] }) d es An:=Z4.at λo e=>Cw _ e;have aT:(f1.push { cls:=.type "dict_keyiterator",data:=.fields #[.ref d,.int 0 0,.int es.size 0,.int An 0] }).get? s.heap.objs.size=some { cls:=.type "list",data:=.seq ([]:List A6).toArray }:=Cw _ iH;have Om:∀b o,s.heap.get? b=some o->(f1.push { cls:=.type "dict_keyiterator",data:=.fields #[.ref d,.int 0 0,.int es.size 0,.int An 0] }).get? b=some o:=λb o e=>Cw _ (by rw[<-C8];exact Cw _ e);have hz:f1.objs.size=s.heap.objs.size+1:=by rw[<-C8];exact size_push' _ _
 generalize f1.push { cls:=.type "dict_keyiterator",data:=.fields #[.ref d,.int 0 0,.int es.size 0,.int An 0] }=f2 at Q0 Mr aT Om |-;have zZ:d≠f1.objs.size:=Ei (by rw[hz];exact X0 DS);have W:=(adN (prog:=prog) (w:=w) (A:=A.in1) hh f1.objs.size d zZ es An).toS;have U_:s.heap.objs.size∉[f1.objs.size,d]:=λh=>by
  rcases List.mem_cons.mp h with e|h
  .lia
  .exact hi (List.mem_singleton.mp h)
 refine AU (M9 ?_);unfold Builtin.List.listLengthHint;refine AU (eP (s:={ s with heap:=f2 }) (Mr.typeIs (s:={ s with heap:=f2 })) sO ?_)
 (generalize c9:("dict.__len__" :String)=ix;(fail_if_success (clear c9 ix));wp_delta;rw[show splitId ix=some ("dict","__len__")from by subst c9;decide+kernel];subst c9)
 refine AU (eT (b:=true) (Mr.typeIs (s:={ s with heap:=f2 })) (by rw[isSubtype_type];kernel_rfl) ?_);rw[if_neg (by simp)];dsimp only;rw[if_pos (by decide+kernel)];refine AU (X3 (Mr.typeIs (s:={ s with heap:=f2 })) ?_);refine BP ?_;rw[if_pos (by decide+kernel)];refine AU (wpAny_rule (AU ?_));show Ag _ A.in1 (updateSeq s.heap.objs.size (·.push .none)>>=λ_=>updateSeq s.heap.objs.size (·.pop)) _ _ { s with heap:=f2 };refine AU (wpAny_updateSeq (s:={ s with heap:=f2 }) aT rfl ?_);have hg:=Rn (Nw (·.push J1)) aT rfl;refine wpAny_updateSeq hg rfl ?_;have wK:=Rn (Nw (·.pop)) hg rfl
 have V7:∀b o,b≠s.heap.objs.size->f2.get? b=some o->
   ((f2.update s.heap.objs.size (Nw (·.push J1))).update s.heap.objs.size (Nw (·.pop))).get? b=some o:=
  λb o A2 e=>(Wp _ _ (LY A2)).trans ((Wp _ _ (LY A2)).trans e)
 refine BP ⟨X6 F.plain_extend_loop _,codeAny_extend_loopS W AV _ U_ _ es.size 0 _ _ _ (by lia) (ID _)
  (W.frame 0 ({ s with heap:=f2 }:AM) _ s.toks ⟨Q0,Mr⟩ (CB _) λb A2 o e=>V7 b o (λh=>U_ (h▸A2)) e) wK (ItemsOf.nil _) λs' YB G6 vW iG hn=>?_⟩
 show Ag _ A (load s.heap.objs.size>>=_) _ _ s';refine AU (wpAny_load iG ?_);refine BP ?_;show Q YB.toList s';rw[xu hn];obtain⟨GB,GC,kZ,k_,agn⟩:=vW;have GJ:=DB iG;obtain⟨a1,a2,GT,MK,Lb⟩:=s';dsimp only at GB GC kZ k_ GJ;subst GC kZ k_;refine Eh a1 MK (λb o e=>?_) GJ;have A2:=DB e;exact GB b o (λz=>by
  rcases List.mem_cons.mp z with e|z
  .rw[e]at A2;exact Iy _ A2
  .rw[List.mem_singleton.mp z,hz]at A2;exact absurd A2 (Nat.not_lt.mpr (PB _))) (V7 b o (λz=>by rw[z]at A2;exact Iy _ A2) (Om b o e))
def ae4{d:A4}{An:Nat}{us:List A6}{Q:A6->AM->Prop}(hh:A.handled=none)(hd:(d==Jy)=false)(hm:Kk s.heap d es An)(Fq:es.toList.map (·.key)=us)(AV:us.length<64)(AO:∀v∈us,∃k t,v=.int k t)(h:∀(vs:List A6)(l:A4)(h':B8) CL e,vs.length=us.length->(∀v∈vs,∃k t,v=.int k t)->vs.map numOf=Jt (us.map numOf)->s.heap.objs.size<=l->(∀b o,s.heap.get? b=some o->h'.get? b=some o)->h'.get? l=some (seqObj "list" vs.toArray e)->Q (.ref l) { s with heap:=h',toks:=CL }) :
  Ag (Av prog w) A (call (.builtin "sorted") [.ref d]) Q E s:=by
 have hz:es.size<=CG:=by have:=congrArg U5 Fq;rw[CS,QH]at this;rw[LP];lia
 refine Calls.call_function_entry kind_sorted plain_sorted entry_sorted (args_sorted1 _) ?_;unfold QZ.«sorted»;refine AU (m:=checkCount "sorted" 1 1 _) (BP (AU (sb (A:=A.in1) hh hd hm hz λf CL Bc hz=>?_)));rw[Fq];refine AU (wpAny_newList (hsz:=by rw[LP];lia) ?_);have g:(f.push (seqObj "list" us.toArray 0)).get? f.objs.size=some (seqObj "list" us.toArray 0):=F_ _ rfl;have hz:=QM hz;show Ag _ _ _ _ _ { s with heap:=f.push (seqObj "list" us.toArray 0),toks:=CL };refine AU (M9 (Nu slot_list_sort ⟨_,g,rfl⟩ entry_list_sort (list_sort_tree (s:={ s with heap:=f.push (seqObj "list" us.toArray 0),toks:=CL }) g (intsAre_map us AO) AV λout ns' a1 a2 GT=>⟨_,rfl,?_⟩) (args_list_sort _)));obtain⟨e,ge⟩:=sortedHeap_at (out:=out) g;obtain⟨Cn,Dm,YQ⟩:=oL (us:=us) a1 a2 GT;refine BP ⟨_,rfl,h out.toList _ _ CL e Cn Dm YQ hz (λb o q=>?_) ge⟩;have l5:=Cw (seqObj "list" us.toArray 0) (Bc b o q);exact(sortedHeap_old (λz:b=f.objs.size=>absurd (z▸DB q) (Nat.not_lt.mpr hz)) (DB l5)).trans l5
end
end LT
namespace C0
open PySem B6
inductive W where
 |non|AL (b:Bool)|int (i:Int)|str (x:Str)|tup (ws:List W)|I6 (ws:List W)|DV (ws:List W)|ref (n:Nat)|OA (c:Str)
inductive PS where
 |lst|Aj (AI:List Key)|Gm (AI:List Key)|Ds (AI:List El)|ins (c:Str) (ns:List Str)
 deriving DecidableEq
structure O where
 k:PS
 ws:List W
abbrev A5:=List O
def IF(K:Aq)(c:Str)(C:A4):Prop:=J2 K FG c=some (some (.ref C))
noncomputable def fQ(K:Aq)(H:AC)(a:A4)(xs:List V):Prop:=(∃o,H a=some (.DR o (.lst xs)))\/∃(o:Obj)(its:Array A6)(n:Nat),K.lookup a=some o/\o.cls=.type "list"/\o.dict=none/\o.data=.seq its n/\its.size<=CG/\Vals xs its.toList
def fQ.Dn{K:Aq}{H:AC}{a:A4}{xs:List V}(h:fQ K H a xs):E_ K H a xs:=h.elim (λ⟨o,e⟩=>.inl (.inr ⟨o,e⟩)) .inr
mutual
noncomputable def AW(K:Aq)(φ:List A4)(H:AC):W->V->Prop
 |.non,v=>v=.non
 |.AL b,v=>v=.AL b
 |.int i,v=>v=.int i
 |.str x,v=>v=.str x
 |.tup ws,v=>∃a xs,v=.ref a/\H a=some (.tup xs)/\Ai K φ H ws xs
 |.I6 ws,v=>∃a xs,v=.ref a/\Ea K H a xs/\Ai K φ H ws xs
 |.DV ws,v=>∃a xs,v=.ref a/\fQ K H a xs/\Ai K φ H ws xs
 |.ref n,v=>∃a,v=.ref a/\φ[n]?=some a
 |.OA c,v=>∃a C,v=.ref a/\IF K c C/\H a=some (tZ a (.ref C))
noncomputable def Ai(K:Aq)(φ:List A4)(H:AC):List W->List V->Prop
 |[],vs=>vs=[]
 |w::ws,vs=>∃v r,vs=v::r/\AW K φ H w v/\Ai K φ H ws r
end
def Still:Et->Prop
 |.tup _=>True
 |.DR _ _=>True
 |.ext _=>True
 |_=>False
structure Af(φ:List A4)(H:AC)(BE:List A4)(A7:AC):Prop where
 p:φ<+: BE
 t:∀b o,H b=some o->Still o->A7 b=some o
section
variable{K:Aq}{φ BE CF:List A4}{H A7 AS:AC}
def Af.refl(φ:List A4)(H:AC):Af φ H φ H:=⟨U0,λ_ _ e _=>e⟩
theorem Af.trans(a:Af φ H BE A7)(b:Af BE A7 CF AS):Af φ H CF AS:=⟨a.p.trans b.p,λc o e s=>b.t c o (a.t c o e s) s⟩
def FM{α:Type}{l Ni:List α}(p:l<+: Ni){n:Nat}{a:α}(e:l[n]?=some a):Ni[n]?=some a:=by obtain⟨r,rfl⟩:=p;rw[Gs (List.getElem?_eq_some_iff.mp e).1];exact e
def Ea.ex(x:Af φ H BE A7){a:A4}{xs:List V}(h:Ea K H a xs):Ea K A7 a xs:=by
 rcases h with(h|⟨o,h⟩)|h
 .exact .inl (.inl (x.t _ _ h trivial))
 .exact .inl (.inr ⟨o,x.t _ _ h trivial⟩)
 .exact .inr h
mutual
theorem AW.ex(x:Af φ H BE A7):∀{w:W}{v:V},AW K φ H w v->AW K BE A7 w v
 |.non,_,h|.AL _,_,h|.int _,_,h|.str _,_,h=>by simpa only[AW]using h
 |.tup _,_,h=>by simp only[AW]at h |-;obtain⟨a,xs,e,q,r⟩:=h;exact⟨a,xs,e,x.t _ _ q trivial,Ai.ex x r⟩
 |.I6 _,_,h=>by simp only[AW]at h |-;obtain⟨a,xs,e,q,r⟩:=h;exact⟨a,xs,e,Ea.ex x q,Ai.ex x r⟩
 |.DV _,_,h=>by simp only[AW]at h |-;obtain⟨a,xs,e,q,r⟩:=h;exact⟨a,xs,e,q.elim (λ⟨o,q⟩=>.inl ⟨o,x.t _ _ q trivial⟩) .inr,Ai.ex x r⟩
 |.ref _,_,h=>by simp only[AW]at h |-;obtain⟨a,e,q⟩:=h;exact⟨a,e,FM x.p q⟩
 |.OA _,_,h=>by simp only[AW]at h |-;obtain⟨a,C,e,c,q⟩:=h;exact⟨a,C,e,c,x.t _ _ q trivial⟩
theorem Ai.ex(x:Af φ H BE A7):∀{ws:List W}{vs:List V},Ai K φ H ws vs->Ai K BE A7 ws vs
 |[],_,h=>by simpa only[Ai]using h
 |_::_,_,h=>by simp only[Ai]at h |-;obtain⟨v,r,e,q,t⟩:=h;exact⟨v,r,e,AW.ex x q,Ai.ex x t⟩
end
def Ai.nil:Ai K φ H [] []:=by simp only[Ai]
def Ai.cons{w:W}{ws:List W}{v:V}{vs:List V}(a:AW K φ H w v)(b:Ai K φ H ws vs):Ai K φ H (w::ws) (v::vs):=by simp only[Ai];exact⟨v,vs,rfl,a,b⟩
theorem Ai.length:∀{ws:List W}{vs:List V},Ai K φ H ws vs->ws.length=vs.length
 |[],_,h=>by simp only[Ai]at h;subst h;rfl
 |_::_,_,h=>by simp only[Ai]at h;obtain⟨v,r,rfl,_,t⟩:=h;simp[Ai.length t]
theorem Ai.get:∀{ws:List W}{vs:List V}{i:Nat}{w:W},Ai K φ H ws vs->ws[i]?=some w->∃v,vs[i]?=some v/\AW K φ H w v
 |[],_,_,_,_,e=>by simp at e
 |_::_,_,0,_,h,e=>by simp only[Ai]at h;obtain⟨v,r,rfl,q,_⟩:=h;simp at e;subst e;exact⟨v,rfl,q⟩
 |_::_,_,i+1,w,h,e=>by simp only[Ai]at h;obtain⟨v,r,rfl,_,t⟩:=h;obtain⟨u,h1,h2⟩:=Ai.get (i:=i) (w:=w) t (by simpa using e);exact⟨u,by simpa using h1,h2⟩
theorem Ai.append:∀{ws us:List W}{vs ys:List V},Ai K φ H ws vs->Ai K φ H us ys->Ai K φ H (ws++us) (vs++ys)
 |[],_,_,_,h,t=>by simp only[Ai]at h;subst h;exact t
 |_::_,_,_,_,h,t=>by simp only[Ai]at h;obtain⟨v,r,rfl,q,s⟩:=h;exact .cons q (Ai.append s t)
theorem Ai.take:∀(n:Nat){ws:List W}{vs:List V},Ai K φ H ws vs->Ai K φ H (ws.take n) (vs.take n)
 |0,_,_,_=>by simpa using Ai.nil
 |_+1,[],_,h=>by simp only[Ai]at h;subst h;simpa using Ai.nil
 |n+1,_::_,_,h=>by simp only[Ai]at h;obtain⟨v,r,rfl,q,t⟩:=h;exact .cons q (Ai.take n t)
theorem Ai.drop:∀(n:Nat){ws:List W}{vs:List V},Ai K φ H ws vs->Ai K φ H (ws.drop n) (vs.drop n)
 |0,_,_,h=>h
 |_+1,[],_,h=>by simp only[Ai]at h;subst h;simpa using Ai.nil
 |n+1,_::_,_,h=>by simp only[Ai]at h;obtain⟨v,r,rfl,_,t⟩:=h;exact Ai.drop n t
theorem Ai.set{w:W}{v:V}(q:AW K φ H w v):∀(n:Nat){ws:List W}{vs:List V},Ai K φ H ws vs->Ai K φ H (ws.set n w) (vs.set n v)
 |_,[],_,h=>by simp only[Ai]at h;subst h;simpa using Ai.nil
 |0,_::_,_,h=>by simp only[Ai]at h;obtain⟨u,r,rfl,_,t⟩:=h;exact .cons q t
 |n+1,_::_,_,h=>by simp only[Ai]at h;obtain⟨u,r,rfl,p,t⟩:=h;exact .cons p (Ai.set q n t)
end
noncomputable def MI(K:Aq)(H:AC)(a:A4)(xs:List V):PS->Prop
 |.lst=>H a=some (.lst xs)
 |.Aj AI=>∃A8,H a=some (.Aj A8)/\A8.map (·.1)=AI/\A8.map (·.2)=xs
 |.Gm AI=>∃o A8,H a=some (.DR o (.Aj A8))/\A8.map (·.1)=AI/\A8.map (·.2)=xs
 |.Ds AI=>∃A8,H a=some (.Ds A8)/\A8.map (·.1)=AI/\A8.map (·.2)=xs
 |.ins c ns=>∃C Bl B1,IF K c C/\H a=some (.ins C Bl B1)/\B1.map (·.1)=ns/\B1.map (·.2)=xs
structure D1(K:Aq)(φ:List A4)(h:A5)(H:AC):Prop where
 C1:φ.Nodup
 len:φ.length=h.length
 BJ:∀(n:Nat) o a,h[n]?=some o->φ[n]?=some a->∃xs,MI K H a xs o.k/\Ai K φ H o.ws xs
abbrev B9:=List (Option W)
structure Cx where
 K:Aq
 D7:List A4
 Bu:AC
 MS:Str->AC->Prop
structure Rel(F:Cx)(φ:List A4)(h:A5)(H:AC)(σ :St)(ρ:B9):Prop where
 hd:D1 F.K φ h H
 x0:Af F.D7 F.Bu φ H
 len: σ.length=ρ.length
 Bn:∀(i:Nat) w,ρ[i]?=some (some w)->∃v,σ[i]?=some (some v)/\AW F.K φ H w v
inductive R(α:Type) where
 |ok (a:α)|exc (c:Str) (h:A5)|bad
def R.bind{α β:Type}:R α->(α->R β)->R β
 |.ok a,k=>k a
 |.exc c h,_=>.exc c h
 |.bad,_=>.bad
abbrev M(α:Type):=B9->A5->R (α×A5)
def bu(F:Cx)(φ:List A4)(H:AC)(c:Str)(h':A5):Prop:=∀BE A7,Af φ H BE A7->D1 F.K BE h' A7->F.MS c A7
noncomputable def Cv{α β:Type}(rel:Aq->List A4->AC->α->β->Prop)(F:Cx)(φ:List A4)(H:AC)(σ :St)(ρ:B9)(Q:β->AC->Prop):R (α×A5)->Prop
 |.ok (a,h')=>∀b BE A7,Rel F BE h' A7 σ ρ->Af φ H BE A7->rel F.K BE A7 a b->Q b A7
 |.exc c h'=>bu F φ H c h'
 |.bad=>False
def LI{α β:Type}(rel:Aq->List A4->AC->α->β->Prop)(F:Cx)(m:M α)(σ :St)(H:AC)(Q:β->AC->Prop):Prop:=∃φ ρ h,Rel F φ h H σ ρ/\Cv rel F φ H σ ρ Q (m ρ h)
def l8(_:Aq)(_:List A4)(_:AC)(a b:Bool):Prop:=b=a
abbrev B3:=M W
abbrev DF:=M Bool
abbrev EE:=M (List W)
abbrev C3(F:Cx)(m:B3):TE:=LI AW F m
abbrev HO(F:Cx)(m:DF):TT:=LI l8 F m
abbrev GP(F:Cx)(m:EE):FV:=LI Ai F m
def bd{α β:Type}(m:M α)(k:α->M β):M β:=λρ h=>(m ρ h).bind λp=>k p.1 ρ p.2
section
variable{F:Cx}{φ BE:List A4}{H A7:AC}{σ :St}{ρ:B9}{h:A5}{α β Oh de:Type}{rel:Aq->List A4->AC->α->β->Prop}{ZP:Aq->List A4->AC->Oh->de->Prop}
def Cv.ex{Q:β->AC->Prop}(x:Af φ H BE A7):∀{r:R (α×A5)},Cv rel F φ H σ ρ Q r->Cv rel F BE A7 σ ρ Q r
 |.ok (_,_),k=>λb CF AS r y z=>k b CF AS r (x.trans y) z
 |.exc _ _,k=>λCF AS y d=>k CF AS (x.trans y) d
 |.bad,k=>k
def Cv.imp{Q HT:β->AC->Prop}(f:∀b H,Q b H->HT b H):∀{r:R (α×A5)},Cv rel F φ H σ ρ Q r->Cv rel F φ H σ ρ HT r
 |.ok (_,_),k=>λb CF AS r y z=>f _ _ (k b CF AS r y z)
 |.exc _ _,k=>k
 |.bad,k=>k
theorem Cv.bd{m:M α}{k:α->M Oh}{Q:de->AC->Prop}{HT:β->AC->Prop}(q:Cv ZP F φ H σ ρ Q (bd m k ρ h))(f:∀a b Bt h1 H1,Rel F Bt h1 H1 σ ρ->Af φ H Bt H1->rel F.K Bt H1 a b->Cv ZP F Bt H1 σ ρ Q (k a ρ h1)->HT b H1):Cv rel F φ H σ ρ HT (m ρ h):=by
 unfold C0.bd at q;cases e:m ρ h with
 |ok p=>rw[e]at q;obtain⟨a,h1⟩:=p;exact λb Bt H1 r x z=>f a b Bt h1 H1 r x z (Cv.ex x q)
 |exc c h'=>rw[e]at q;exact q
 |bad=>rw[e]at q;cases q
theorem LI.bd{m:M α}{k:α->M Oh}{Q:de->AC->Prop}{HT:β->AC->Prop}(q:LI ZP F (bd m k) σ H Q)(f:∀a b Bt ρ h1 H1,Rel F Bt h1 H1 σ ρ->rel F.K Bt H1 a b->Cv ZP F Bt H1 σ ρ Q (k a ρ h1)->HT b H1):LI rel F m σ H HT:=by obtain⟨φ,ρ,h,r,q⟩:=q;exact⟨φ,ρ,h,r,q.bd λa b Bt h1 H1 r x z q=>f a b Bt ρ h1 H1 r z q⟩
end
section
variable{K:Aq}{φ:List A4}{h:A5}{H:AC}{F:Cx}{σ :St}{ρ:B9}
def MI.is{a:A4}{xs:List V}{k:PS}(q:MI K H a xs k):∃o,H a=some o:=by
 cases k with
 |lst=>exact⟨_,q⟩
 |Aj AI=>obtain⟨_,e,_⟩:=q;exact⟨_,e⟩
 |Gm AI=>obtain⟨_,_,e,_⟩:=q;exact⟨_,e⟩
 |Ds AI=>obtain⟨_,e,_⟩:=q;exact⟨_,e⟩
 |ins c ns=>obtain⟨C,Bl,B1,_,e,_⟩:=q;exact⟨_,e⟩
def MI.same{A7:AC}{a:A4}{xs:List V}{k:PS}(q:MI K H a xs k)(e:A7 a=H a):MI K A7 a xs k:=by cases k<;>simp only[MI]at q |-<;>rw[e]<;>exact q
def D1.has(d:D1 K φ h H){a:A4}(m:a∈φ):∃o,H a=some o:=by
 obtain⟨n,e⟩:=eG m;have AV:n<h.length:=by rw[<-d.len];exact(List.getElem?_eq_some_iff.mp e).1
 obtain⟨xs,q,_⟩:=d.BJ n _ a (Cc AV) e;exact q.is
def D1.out(d:D1 K φ h H){p:A4}(AT:H p=none):p∉φ:=λm=>by obtain⟨o,e⟩:=d.has m;rw[AT]at e;cases e
def Af.lay{p:A4}{o:Et}(AT:H p=none):Af φ H φ (upd H p o):=⟨U0,λb u e _=>by rw[D6 (L9 e AT)];exact e⟩
def Af.QB{p:A4}{o:Et}(AT:H p=none):Af φ H (φ++[p]) (upd H p o):=⟨G4 _ _,(Af.lay (φ:=φ) AT).t⟩
def Af.put{p:A4}{o u:Et}(e:H p=some u)(s:¬Still u):Af φ H φ (upd H p o):=⟨U0,λb v q z=>by
 rw[D6]
 .exact q
 .rintro rfl;rw[e]at q;cases q;exact s z⟩
def D1.over{A7:AC}(d:D1 K φ h H)(x:Af φ H φ A7)(k:∀a∈φ,A7 a=H a):D1 K φ h A7:=⟨d.C1,d.len,λn o a A9 AF=>by obtain⟨xs,q,r⟩:=d.BJ n o a A9 AF;exact⟨xs,q.same (k a (LM AF)),r.ex x⟩⟩
theorem D1.lay{p:A4}{o:Et}(d:D1 K φ h H)(AT:H p=none):D1 K φ h (upd H p o):=d.over (Af.lay AT) λa m=>D6 λz=>d.out AT (z▸m)
def D1.new{p:A4}{ho:Et}{k:PS}{ws:List W}{xs:List V}(d:D1 K φ h H)(AT:H p=none)(q:MI K (upd H p ho) p xs k)(r:Ai K φ H ws xs):D1 K (φ++[p]) (h++[⟨k,ws⟩]) (upd H p ho):=by
 have x:=Af.QB (φ:=φ) (o:=ho) AT;refine⟨?_,by simp[d.len],λn o a A9 AF=>?_⟩
 .rw[ed];exact⟨d.C1,by simp,λa AE b A2 z=>d.out AT (by rw[<-List.mem_singleton.mp A2,<-z];exact AE)⟩
 .by_cases AV:n<h.length
  .rw[Gs AV]at A9;rw[Gs (by rw[d.len];exact AV)]at AF;obtain⟨ys,CT,BW⟩:=d.BJ n o a A9 AF;exact⟨ys,CT.same (D6 λz=>d.out AT (z▸LM AF)),BW.ex x⟩
  .have cI:n=h.length:=by
     have:=(List.getElem?_eq_some_iff.mp A9).1;simp at this;lia
   subst cI;simp at A9;rw[<-d.len]at AF;simp at AF;subst A9 AF;exact⟨xs,q,r.ex x⟩
theorem D1.put{n:Nat}{a:A4}{o o':O}{u ho:Et}{xs:List V}(d:D1 K φ h H)(As:h[n]?=some o)(BY:φ[n]?=some a)(Fq:H a=some u)(st:¬Still u)(q:MI K (upd H a ho) a xs o'.k)(r:Ai K φ H o'.ws xs):D1 K φ (h.set n o') (upd H a ho):=by
 have x:Af φ H φ (upd H a ho):=Af.put Fq st;refine⟨d.C1,by simp[d.len],λm Dm b A9 AF=>?_⟩;by_cases hm:n=m
 .subst hm;rw[JU (List.getElem?_eq_some_iff.mp As).1]at A9;rw[BY]at AF;cases A9;cases AF;exact⟨xs,q,r.ex x⟩
 .rw[M7 hm]at A9;obtain⟨ys,CT,BW⟩:=d.BJ m Dm b A9 AF;refine⟨ys,CT.same (D6 λz=>?_),BW.ex x⟩;subst z;obtain⟨BB,Jk⟩:=List.getElem?_eq_some_iff.mp BY;obtain⟨Bm,KM⟩:=List.getElem?_eq_some_iff.mp AF;exact hm ((Wq d.C1).mp (Jk.trans KM.symm))
theorem D1.at(d:D1 K φ h H){n:Nat}{o:O}{v:V}(e:h[n]?=some o)(q:AW K φ H (.ref n) v):∃a xs,v=.ref a/\φ[n]?=some a/\MI K H a xs o.k/\Ai K φ H o.ws xs:=by simp only[AW]at q;obtain⟨a,rfl,BY⟩:=q;obtain⟨xs,q,r⟩:=d.BJ n o a e BY;exact⟨a,xs,rfl,BY,q,r⟩
def Rel.to{BE:List A4}{h':A5}{A7:AC}(r:Rel F φ h H σ ρ)(d:D1 F.K BE h' A7)(x:Af φ H BE A7):Rel F BE h' A7 σ ρ:=⟨d,r.x0.trans x,r.len,λi w e=>by obtain⟨v,A9,q⟩:=r.Bn i w e;exact⟨v,A9,q.ex x⟩⟩
theorem Rel.set{i:Nat}{w:W}{v:V}(r:Rel F φ h H σ ρ)(AB:i<ρ.length)(q:AW F.K φ H w v):Rel F φ h H (σ.set i (some v)) (ρ.set i (some w)):=⟨r.hd,r.x0,by simp[r.len],λj CR e=>by
 by_cases Ap:i=j
 .subst Ap;rw[JU AB]at e;cases e;exact⟨v,JU (by rw[r.len];exact AB),q⟩
 .rw[M7 Ap]at e |-;exact r.Bn j CR e⟩
def AW.GE{n:Nat}{a:A4}(e:φ[n]?=some a):AW K φ H (.ref n) (.ref a):=by simp only[AW];exact⟨a,rfl,e⟩
def Vn{p:A4}(d:D1 K φ h H):(φ++[p])[h.length]?=some p:=by rw[<-d.len];simp
end
section
variable{F:Cx}
abbrev FQ(t' t:TE):Prop:=∀ σ H Q,t' σ H Q->t σ H Q
abbrev Qd(t' t:TT):Prop:=∀ σ H Q,t' σ H Q->t σ H Q
abbrev fu(t' t:FV):Prop:=∀ σ H Q,t' σ H Q->t σ H Q
abbrev K2(t' t:Eu):Prop:=∀De σ H,t' De σ H->t De σ H
def pu{α:Type}(a:α):M α:=λ_ h=>.ok (a,h)
def I(i:Nat):B3:=λρ h=>match ρ[i]? with
 |some (some w)=>.ok (w,h)
 |_=>.bad
def y7(i:Nat):FQ (C3 F (I i)) (ph i):=by
 rintro σ H Q ⟨φ,ρ,h,r,q⟩;unfold I at q
 split at q
 .rename_i w e;obtain⟨v,A9,a⟩:=r.Bn i w e;exact⟨v,A9,q v φ H r (Af.refl _ _) a⟩
 .exact q.elim
def UG{w:W}{v:V}(a:∀φ H,AW F.K φ H w v):FQ (C3 F (pu w)) (Oa v):=by rintro σ H Q ⟨φ,ρ,h,r,q⟩;exact q v φ H r (Af.refl _ _) (a _ _)
def A0(f:W->W->A5->R (W×A5))(a b:B3):B3:=bd a λx=>bd b λy _ h=>f x y h
def Hz(F:Cx)(r:FA)(f:W->W->A5->R (W×A5)):Prop:=∀ σ ρ φ h H x y G2 Gb Q,Rel F φ h H σ ρ->AW F.K φ H G2 x->AW F.K φ H Gb y->Cv AW F φ H σ ρ Q (f G2 Gb h)->r x y H Q
def Fe{r:FA}{f:W->W->A5->R (W×A5)}{a b:B3}(ho:Hz F r f):FQ (C3 F (A0 f a b)) (T6 r (C3 F a) (C3 F b)):=λσ H Q q=>
 q.bd λx v φ ρ h H1 r EF q=>⟨φ,ρ,h,r,q.bd λy u CF h2 AS BD x2 GY q=>ho σ ρ CF h2 AS v u x y Q BD (EF.ex x2) GY q⟩
def BM(f:W->A5->R (W×A5))(a:B3):B3:=bd a λx _ h=>f x h
def s9(F:Cx)(r:V->AC->CK->Prop)(f:W->A5->R (W×A5)):Prop:=∀ σ ρ φ h H x w Q,Rel F φ h H σ ρ->AW F.K φ H w x->Cv AW F φ H σ ρ Q (f w h)->r x H Q
def y6{r:V->AC->CK->Prop}{f:W->A5->R (W×A5)}{a:B3}(ho:s9 F r f):FQ (C3 F (BM f a)) (pg r (C3 F a)):=λσ H Q q=>
 q.bd λx v φ ρ h H1 r EF q=>ho σ ρ φ h H1 v x Q r EF q
def A1:EE:=pu []
def Z(a:B3)(r:EE):EE:=bd a λx=>bd r λxs=>pu (x::xs)
def UI:fu (GP F A1) Zk:=by rintro σ H Q ⟨φ,ρ,h,r,q⟩;exact q [] φ H r (Af.refl _ _) .nil
def YV{a:B3}{m:EE}:fu (GP F (Z a m)) (Zg (C3 F a) (GP F m)):=λσ H Q q=>
 q.bd λx v φ ρ h H1 r EF q=>⟨φ,ρ,h,r,q.bd λxs vs CF h2 AS BD x2 as q=>q (v::vs) CF AS BD (Af.refl _ _) (.cons (EF.ex x2) as)⟩
def B0:Nat:=1000000
def BQ(m:EE):B3:=bd m λxs=>if xs.length<=B0 then pu (.tup xs)else λ_ _=>.bad
def y5{m:EE}:FQ (C3 F (BQ m)) (pf (GP F m)):=λσ H Q q=>
 q.bd λxs vs φ ρ h H1 r as q=>by
   by_cases AG:xs.length<=B0
   .rw[if_pos AG]at q;refine⟨by rw[<-as.length];exact I_ AG (by decide),λp AT=>?_⟩;refine q (.ref p) φ _ (r.to (r.hd.lay AT) (Af.lay AT)) (Af.lay AT) ?_;simp only[AW];exact⟨p,vs,rfl,E4,as.ex (Af.lay AT)⟩
   .rw[if_neg AG]at q;cases q
def nw(k:PS)(ws:List W)(h:A5):R (W×A5):=if ws.length<=B0 then .ok (.ref h.length,h++[⟨k,ws⟩])else .bad
def OS{φ:List A4}{h:A5}{H:AC}{σ :St}{ρ:B9}{Q:CK}{k:PS}{ws:List W}{xs:List V}{ho:Et}{p:A4}(r:Rel F φ h H σ ρ)(q:Cv AW F φ H σ ρ Q (nw k ws h))(AT:H p=none)(o:MI F.K (upd H p ho) p xs k)(as:Ai F.K φ H ws xs):Q (.ref p) (upd H p ho):=by
 unfold nw at q
 split at q
 .exact q (.ref p) (φ++[p]) _ (r.to (r.hd.new AT o as) (Af.QB AT)) (Af.QB AT) (.GE (Vn r.hd))
 .exact q.elim
def dN{φ:List A4}{h:A5}{H:AC}{σ :St}{ρ:B9}{Q:CK}{k:PS}{ws:List W}(q:Cv AW F φ H σ ρ Q (nw k ws h)):ws.length<=B0:=by
 unfold nw at q
 split at q
 .assumption
 .exact q.elim
def By(m:EE):B3:=bd m λxs _ h=>nw .lst xs h
def x7{m:EE}:FQ (C3 F (By m)) (oA (GP F m)):=λσ H Q q=>
 q.bd λxs vs φ ρ h H1 r as q=>⟨by rw[<-as.length];exact I_ (dN q) (by decide),λp AT=>OS r q AT E4 as⟩
def ML{α:Type}(k:Bool->M α):W->M α
 |.AL b=>k b
 |_=>λ_ _=>.bad
def AY(m:B3):DF:=bd m (ML pu)
def Ut{α β:Type}{rel:Aq->List A4->AC->α->β->Prop}{k:Bool->M α}{φ:List A4}{h:A5}{H:AC}{σ :St}{ρ:B9}{Q:β->AC->Prop}{w:W}{v:V}(a:AW F.K φ H w v)(q:Cv rel F φ H σ ρ Q (ML k w ρ h)):∃c,v=.AL c/\Cv rel F φ H σ ρ Q (k c ρ h):=by cases w<;>first|exact q.elim|(simp only[AW]at a;exact⟨_,a,q⟩)
def KI{m:B3}:Qd (HO F (AY m)) (dk (C3 F m)):=λσ H Q q=>
 q.bd λx v φ ρ h H1 r EF q=>let⟨c,e,q⟩:=Ut EF q;⟨c,e,q c φ H1 r (Af.refl _ _) rfl⟩
def Fl(a b:DF):DF:=bd a λc=>if c=true then b else pu false
def FL(a b:DF):DF:=bd a λc=>if c=true then pu true else b
def EG(a:DF):DF:=bd a λc=>pu (!c)
def wg{a b:DF}:Qd (HO F (Fl a b)) (oU (HO F a) (HO F b)):=λσ H Q q=>
 q.bd λx c φ ρ h H1 r e q=>by
   cases e;cases x with
   |true=>exact⟨φ,ρ,h,r,q⟩
   |false=>exact q false φ H1 r (Af.refl _ _) rfl
def wZ{a b:DF}:Qd (HO F (FL a b)) (pX (HO F a) (HO F b)):=λσ H Q q=>
 q.bd λx c φ ρ h H1 r e q=>by
   cases e;cases x with
   |false=>exact⟨φ,ρ,h,r,q⟩
   |true=>exact q true φ H1 r (Af.refl _ _) rfl
def wX{a:DF}:Qd (HO F (EG a)) (oE (HO F a)):=λσ H Q q=>
 q.bd λx c φ ρ h H1 r e q=>by cases e;exact q _ φ H1 r (Af.refl _ _) rfl
def Ln(a b:B3):B3:=bd a (ML λc=>if c=true then b else pu (.AL false))
def Vw(a b:B3):B3:=bd a (ML λc=>if c=true then pu (.AL true)else b)
def Vv(a:B3):B3:=bd a (ML λc=>pu (.AL (!c)))
def NT{K:Aq}{φ:List A4}{H:AC}(b:Bool):AW K φ H (.AL b) (.AL b):=by simp only[AW]
def wh{a b:B3}:FQ (C3 F (Ln a b)) (oV (C3 F a) (C3 F b)):=λσ H Q q=>
 q.bd λx v φ ρ h H1 r EF q=>by
   obtain⟨c,e,q⟩:=Ut EF q;refine⟨c,e,?_⟩;cases c with
   |true=>exact⟨φ,ρ,h,r,q⟩
   |false=>exact q _ φ H1 r (Af.refl _ _) (NT _)
def w_{a b:B3}:FQ (C3 F (Vw a b)) (pY (C3 F a) (C3 F b)):=λσ H Q q=>
 q.bd λx v φ ρ h H1 r EF q=>by
   obtain⟨c,e,q⟩:=Ut EF q;refine⟨c,e,?_⟩;cases c with
   |false=>exact⟨φ,ρ,h,r,q⟩
   |true=>exact q _ φ H1 r (Af.refl _ _) (NT _)
def wY{a:B3}:FQ (C3 F (Vv a)) (oc (C3 F a)):=λσ H Q q=>
 q.bd λx v φ ρ h H1 r EF q=>let⟨c,e,q⟩:=Ut EF q;⟨c,e,q _ φ H1 r (Af.refl _ _) (NT _)⟩
def Nn{α:Type}(c:DF)(a b:M α):M α:=bd c λk=>if k=true then a else b
def wy{c:DF}{a b:B3}:FQ (C3 F (Nn c a b)) (o8 (HO F c) (C3 F a) (C3 F b)):=λσ H Q q=>
 q.bd λx k φ ρ h H1 r e q=>by cases e;cases x<;>exact⟨φ,ρ,h,r,q⟩
inductive F9 where
 |AR (ρ:B9)|EA (w:W)|BU (ρ:B9)|DA (ρ:B9)
abbrev Am:=M F9
noncomputable def E2(F:Cx)(φ:List A4)(H:AC)(De:Ends):R (F9×A5)->Prop
 |.ok (.AR EH,h')=>∀ σ' BE A7,Rel F BE h' A7 σ' EH->Af φ H BE A7->De.AR σ' A7
 |.ok (.BU EH,h')=>∀ σ' BE A7,Rel F BE h' A7 σ' EH->Af φ H BE A7->De.BU σ' A7
 |.ok (.DA EH,h')=>∀ σ' BE A7,Rel F BE h' A7 σ' EH->Af φ H BE A7->De.DA σ' A7
 |.ok (.EA w,h')=>∀v BE A7,D1 F.K BE h' A7->Af φ H BE A7->AW F.K BE A7 w v->De.EA v A7
 |.exc c h'=>bu F φ H c h'
 |.bad=>False
def G0(F:Cx)(m:Am):Eu:=λDe σ H=>∃φ ρ h,Rel F φ h H σ ρ/\E2 F φ H De (m ρ h)
def E2.ex{φ BE:List A4}{H A7:AC}{De:Ends}(x:Af φ H BE A7):∀{r:R (F9×A5)},E2 F φ H De r->E2 F BE A7 De r
 |.ok (.AR _,_),k|.ok (.BU _,_),k|.ok (.DA _,_),k=>λσ' CF AS r y=>k σ' CF AS r (x.trans y)
 |.ok (.EA _,_),k=>λv CF AS d y a=>k v CF AS d (x.trans y) a
 |.exc _ _,k=>λCF AS y d=>k CF AS (x.trans y) d
 |.bad,k=>k
theorem E2.bd{α β:Type}{rel:Aq->List A4->AC->α->β->Prop}{m:M α}{k:α->Am}{φ:List A4}{h:A5}{H:AC}{σ :St}{ρ:B9}{De:Ends}{HT:β->AC->Prop}(q:E2 F φ H De (bd m k ρ h))(f:∀a b Bt h1 H1,Rel F Bt h1 H1 σ ρ->Af φ H Bt H1->rel F.K Bt H1 a b->E2 F Bt H1 De (k a ρ h1)->HT b H1):Cv rel F φ H σ ρ HT (m ρ h):=by
 unfold C0.bd at q;cases e:m ρ h with
 |ok p=>rw[e]at q;obtain⟨a,h1⟩:=p;exact λb Bt H1 r x z=>f a b Bt h1 H1 r x z (E2.ex x q)
 |exc c h'=>rw[e]at q;exact q
 |bad=>rw[e]at q;cases q
theorem G0.bd{α β:Type}{rel:Aq->List A4->AC->α->β->Prop}{m:M α}{k:α->Am}{H:AC}{σ :St}{De:Ends}{HT:β->AC->Prop}(q:G0 F (bd m k) De σ H)(f:∀a b Bt ρ h1 H1,Rel F Bt h1 H1 σ ρ->rel F.K Bt H1 a b->E2 F Bt H1 De (k a ρ h1)->HT b H1):LI rel F m σ H HT:=by obtain⟨φ,ρ,h,r,q⟩:=q;exact⟨φ,ρ,h,r,E2.bd q λa b Bt h1 H1 r x z q=>f a b Bt ρ h1 H1 r z q⟩
def Bd:Am:=λρ h=>.ok (.AR ρ,h)
def AQ(a b:Am):Am:=λρ h=>(a ρ h).bind λp=>match p with
 |(.AR EH,h')=>b EH h'
 |p=>.ok p
def bf:K2 (G0 F Bd) Zj:=by rintro De σ H ⟨φ,ρ,h,r,q⟩;exact q σ φ H r (Af.refl _ _)
def x8{a b:Am}:K2 (G0 F (AQ a b)) (pc (G0 F a) (G0 F b)):=by
 rintro De σ H ⟨φ,ρ,h,r,q⟩;refine⟨φ,ρ,h,r,?_⟩;unfold AQ at q;cases e:a ρ h with
 |ok p=>
  rw[e]at q;obtain⟨f,h1⟩:=p;cases f with
  |AR EH=>exact λσ' BE A7 BW x=>⟨BE,EH,h1,BW,E2.ex x q⟩
  |_=>exact q
 |exc c h'=>rw[e]at q;exact q
 |bad=>rw[e]at q;cases q
def HJ(a:B3):Am:=bd a λ_=>Bd
def wt{a:B3}:K2 (G0 F (HJ a)) (o6 (C3 F a)):=λDe σ H q=>
 q.bd λx v φ ρ h H1 r EF q=>q σ φ H1 r (Af.refl _ _)
def B2(a:B3):Am:=bd a λw _ h=>.ok (.EA w,h)
def wc{a:B3}:K2 (G0 F (B2 a)) (pa (C3 F a)):=λDe σ H q=>
 q.bd λx v φ ρ h H1 r EF q=>q v φ H1 r.hd (Af.refl _ _) EF
def wd:K2 (G0 F (B2 (pu .non))) pb:=by rintro De σ H ⟨φ,ρ,h,r,q⟩;exact q .non φ H r.hd (Af.refl _ _) (by simp only[AW])
def Bh(c:DF)(a b:Am):Am:=bd c λk=>if k=true then a else b
def wz{c:DF}{a b:Am}:K2 (G0 F (Bh c a b)) (o9 (HO F c) (G0 F a) (G0 F b)):=λDe σ H q=>
 q.bd λx k φ ρ h H1 r e q=>by cases e;cases x<;>exact⟨φ,ρ,h,r,q⟩
abbrev D9:=W->Am
def AD(i:Nat):D9:=λw ρ h=>if i<ρ.length then .ok (.AR (ρ.set i (some w)),h)else .bad
def Lx(F:Cx)(g:D9):Jf:=λv σ H Q=>∃φ ρ h w,Rel F φ h H σ ρ/\AW F.K φ H w v/\E2 F φ H ⟨Q,λ_ _=>False,λ_ _=>False,λ_ _=>False⟩ (g w ρ h)
abbrev XY(t' t:Jf):Prop:=∀v σ H Q,t' v σ H Q->t v σ H Q
def UH(i:Nat):XY (Lx F (AD i)) (Yu i):=by
 rintro v σ H Q ⟨φ,ρ,h,w,r,a,q⟩;unfold AD at q
 split at q
 .rename_i AB;exact q _ φ H (r.set AB a) (Af.refl _ _)
 .exact q.elim
def Ac(a:B3)(g:D9):Am:=bd a g
end
end C0
namespace C0
open PySem PySem.Spec B6
inductive DK where
 |non|AL (b:Bool)|int (i:Int)|str (x:Str)|Dn (t:Bool) (ds:List DK)
mutual
noncomputable def GV(K:Aq)(H:AC):DK->V->Prop
 |.non,v=>v=.non
 |.AL b,v=>v=.AL b
 |.int i,v=>v=.int i
 |.str x,v=>v=.str x
 |.Dn t ds,v=>∃a xs,v=.ref a/\(if t=true then Ea K H a xs else E_ K H a xs)/\Hv K H ds xs
noncomputable def Hv(K:Aq)(H:AC):List DK->List V->Prop
 |[],vs=>vs=[]
 |d::ds,vs=>∃v r,vs=v::r/\GV K H d v/\Hv K H ds r
end
mutual
noncomputable def eqT:DK->DK->Bool
 |.non,d=>match d with
  |.non=>true
  |_=>false
 |.AL a,d=>match d with
  |.AL b=>a==b
  |.int b=>(if a then 1 else 0)==b
  |_=>false
 |.int a,d=>match d with
  |.AL b=>a==(if b then 1 else 0)
  |.int b=>a==b
  |_=>false
 |.str a,d=>match d with
  |.str b=>a==b
  |_=>false
 |.Dn t xs,d=>match d with
  |.Dn u ys=>t==u&&G8 xs ys
  |_=>false
noncomputable def G8:List DK->List DK->Bool
 |[],ys=>ys.isEmpty
 |x::xs,ys=>match ys with
  |y::ys=>eqT x y&&G8 xs ys
  |[]=>false
end
def H6:Nat->DK->Bool
 |0,.Dn _ _=>false
 |n+1,.Dn _ ds=>ds.all (H6 n)
 |_,_=>true
def NI(K:Aq)(H:AC)(d:DK)(u:A6):Prop:=∃x,GV K H d x/\RelV x u
section
variable{X:Ao}{pins:List (A4×Obj)}{σ :St}{H:AC}{s:AM}{K:Aq}
theorem Hv.length:∀{ds:List DK}{vs:List V},Hv K H ds vs->ds.length=vs.length
 |[],_,h=>by simp only[Hv]at h;subst h;rfl
 |_::_,_,h=>by simp only[Hv]at h;obtain⟨v,r,rfl,_,t⟩:=h;simp[Hv.length t]
theorem Hv.get:∀{ds:List DK}{vs:List V}{i:Nat}{d:DK},Hv K H ds vs->ds[i]?=some d->∃v,vs[i]?=some v/\GV K H d v
 |[],_,_,_,_,e=>by simp at e
 |_::_,_,0,_,h,e=>by simp only[Hv]at h;obtain⟨v,r,rfl,q,_⟩:=h;simp at e;subst e;exact⟨v,rfl,q⟩
 |_::_,_,i+1,d,h,e=>by simp only[Hv]at h;obtain⟨v,r,rfl,_,t⟩:=h;obtain⟨u,h1,h2⟩:=Hv.get (i:=i) (d:=d) t (by simpa using e);exact⟨u,by simpa using h1,h2⟩
def j5{ds:List DK}{xs:List V}{its:List A6}(q:Hv K H ds xs)(r:Vals xs its):∀(i:Nat) d u,ds[i]?=some d->its[i]?=some u->NI K H d u:=λi d u A9 AF=>by obtain⟨v,Dh,a⟩:=q.get A9;obtain⟨JS,O8,C6⟩:=r.get Dh;rw[AF]at O8;cases O8;exact⟨v,a,C6⟩
inductive Qj(s:AM)(P:DK->A6->Prop):DK->A6->Prop where
 |non:Qj s P .non .none
 |AL (b:Bool):Qj s P (.AL b) (.bool b)
 |int (i:Int) (t:Tok):Qj s P (.int i) (.int i t)
 |str (x:Str) (t:Tok):Qj s P (.str x) (.str x t)
 |tup (a:A4) (ds:List DK) (its:List A6) (h:s.heap.IsTuple a its.toArray) (l:ds.length=its.length) (p:∀(i:Nat) d u,ds[i]?=some d->its[i]?=some u->P d u):Qj s P (.Dn true ds) (.ref a)
 |lst (a:A4) (ds:List DK) (its:List A6) (h:s.heap.IsList a its.toArray) (l:ds.length=its.length) (p:∀(i:Nat) d u,ds[i]?=some d->its[i]?=some u->P d u):Qj s P (.Dn false ds) (.ref a)
def ZV(J:Inv X pins σ H s){d:DK}{u:A6}(h:NI X.K H d u):Qj s (NI X.K H) d u:=by
 obtain⟨x,a,r⟩:=h;cases d with
 |non=>simp only[GV]at a;subst a;cases r;exact .non
 |AL b=>simp only[GV]at a;subst a;cases r;exact .AL b
 |int i=>simp only[GV]at a;subst a;obtain⟨t,rfl⟩:=r;exact .int i t
 |str i=>simp only[GV]at a;subst a;obtain⟨t,rfl⟩:=r;exact .str i t
 |Dn t ds=>
  simp only[GV]at a;obtain⟨p,xs,rfl,AX,al⟩:=a;cases r;cases t with
  |true=>obtain⟨its,C6,Bi,_⟩:=J.tuple AX;exact .tup p ds its Bi (al.length.trans C6.length) (j5 al C6)
  |false=>obtain⟨its,C6,Bi,_⟩:=J.list AX;exact .lst p ds its Bi.isList (al.length.trans C6.length) (j5 al C6)
theorem ak:∀{xs ys:List DK},xs.length≠ys.length->G8 xs ys=false
 |[],[],h=>absurd rfl h
 |[],_::_,_=>by simp only[G8];rfl
 |_::_,[],_=>by simp only[G8]
 |x::xs,y::ys,h=>by simp only[G8];rw[ak (λe=>h (by simp[e])),U2]
def Mv(xs ys:List DK)(j:Nat):Bool:=match xs[j]?,ys[j]? with
 |some x,some y=>eqT x y
 |_,_=>true
def rQ(f:Nat->Bool)(n:Nat):(CW (n+1)).all f=(f 0&&(CW n).all λj=>f (j+1)):=by rw[List.range_succ_eq_map,X7,Rx];rfl
theorem am:∀{xs ys:List DK},xs.length=ys.length->(CW xs.length).all (Mv xs ys)=G8 xs ys
 |[],[],_=>by simp[G8]
 |[],_::_,h=>by simp at h
 |_::_,[],h=>by simp at h
 |x::xs,y::ys,h=>by
  rw[Df,rQ];have e:(λj=>Mv (x::xs) (y::ys) (j+1))=Mv xs ys:=by funext j;simp[Mv]
  rw[e,am (by simpa using h)];simp only[G8];rfl
def YD{f:DK->Bool}{ds:List DK}(h:ds.all f=true){i:Nat}{d:DK}(e:ds[i]?=some d):f d=true:=List.all_eq_true.mp h d (LM e)
theorem iT:∀(n:Nat){d:DK},H6 n d=true->eqT d d=true
 |_,.non,_|_,.AL _,_|_,.int _,_|_,.str _,_=>by simp[eqT]
 |0,.Dn _ _,o=>by cases o
 |n+1,.Dn t ds,o=>by
  simp only[eqT,beq_self_eq_true,f3];have go:∀l:List DK,l.all (H6 n)=true->G8 l l=true:=λl=>by
   induction l with
   |nil=>intro _;simp[G8]
   |cons x l C9=>intro h;rw[X7,Hr]at h;simp only[G8];rw[iT n h.1,C9 h.2];rfl
  exact go ds o
def gE(J:Inv X pins σ H s):∀(n:Nat){d1 Ex:DK}{x:V},H6 n d1=true->H6 n Ex=true->GV X.K H d1 x->GV X.K H Ex x->d1=Ex:=by
 intro n;induction n with
 |zero=>
  intro d1 Ex x Cn Dm a1 a2
  cases d1<;>cases Ex<;>simp only[GV]at a1 a2<;>first
   |(cases Cn;done)
   |(cases Dm;done)
   |(subst a1;cases a2;done)
   |(subst a1;cases a2;rfl)
 |succ n C9=>
  intro d1 Ex x Cn Dm a1 a2
  cases d1<;>cases Ex<;>simp only[GV]at a1 a2<;>first
   |(subst a1;cases a2;done)
   |(subst a1;cases a2;rfl)
   |(obtain⟨_,_,e,_⟩:=a2;subst a1;cases e;done)
   |(obtain⟨_,_,e,_⟩:=a1;subst a2;cases e;done)
   |skip
  .rename_i t1 Fb Cb Fc;obtain⟨p,xs,rfl,h1,q1⟩:=a1;obtain⟨FF,ys,e,h2,q2⟩:=a2;cases e;have key:t1=Cb/\xs=ys:=by
    cases t1<;>cases Cb
    .exact⟨rfl,J.bW h1 h2⟩
    .obtain⟨_,_,CZ,_⟩:=J.list h1;obtain⟨_,_,CN,_⟩:=J.tuple h2;exact absurd rfl (qW CZ.isList CN)
    .obtain⟨_,_,CZ,_⟩:=J.tuple h1;obtain⟨_,_,CN,_⟩:=J.list h2;exact absurd rfl (qW CN.isList CZ)
    .exact⟨rfl,J.du h1 h2⟩
   obtain⟨rfl,rfl⟩:=key;have:Fb=Fc:=by
    have AG:=q1.length.trans q2.length.symm;apply eh;intro i;by_cases AB:i<Fb.length
    .have A9:=Cc AB;have AF:=Cc (l:=Fc) (i:=i) (by lia);obtain⟨v,ev,EL⟩:=q1.get A9;obtain⟨Ix,iY,bv⟩:=q2.get AF;rw[ev]at iY;cases iY;rw[A9,AF,C9 (YD Cn A9) (YD Dm AF) EL bv]
    .rw[JV (by lia),JV (by lia)]
   rw[this]
def iS(J:Inv X pins σ H s):∀(n:Nat){d1 Ex:DK}{u v:A6}{A:D4},H6 n d1=true->H6 n Ex=true->NI X.K H d1 u->NI X.K H Ex v->A.units+n<Dp->
  XG A s u v (eqT d1 Ex)/\U8 A s u v (eqT d1 Ex)/\SeqAt.RcNeAt A s u v (!eqT d1 Ex):=by
 intro n;induction n with
 |zero=>
  intro d1 Ex u v A Cn Dm a1 a2 BI;have h1:=ZV J a1;have h2:=ZV J a2
  cases h1<;>cases h2<;>first
   |(cases Cn;done)
   |(cases Dm;done)
   |(simp only[eqT,ez,Bool.not_false];refine⟨?_,?_,?_⟩<;>with_reducible first|exact .same _|exact .none_none|exact .none_bool _|exact .none_int _ _|exact .none_str _ _|exact .bool_none _|exact .bool_bool _ _|exact .bool_int _ _ _|exact .bool_str _ _ _|exact .int_none _ _|exact .int_bool _ _ _|exact .int_int _ _ _ _|exact .int_str _ _ _ _|exact .str_none _ _|exact .str_bool _ _ _|exact .str_int _ _ _ _|exact .str_str _ _ _ _)
 |succ n C9=>
  intro d1 Ex u v A Cn Dm a1 a2 BI;have G9:A.units<Dp:=by lia
  have h1:=ZV J a1;have h2:=ZV J a2
  have item:∀{Fb Fc:List DK}{KL Go:List A6},Fb.all (H6 n)=true->Fc.all (H6 n)=true->Fb.length=KL.length->Fc.length=Go.length->(∀(i:Nat) d u,Fb[i]?=some d->KL[i]?=some u->NI X.K H d u)->(∀(i:Nat) d u,Fc[i]?=some d->Go[i]?=some u->NI X.K H d u)->
    ∀j(h1:j<KL.toArray.size)(h2:j<Go.toArray.size),XG A.in1 s KL.toArray[j] Go.toArray[j] (Mv Fb Fc j):=λ{Fb Fc KL Go} k1 k2 JI Lm E3 Ct j h1 h2=>by
   have Jk:j<Fb.length:=by rw[JI];simpa using h1
   have KM:j<Fc.length:=by rw[Lm];simpa using h2
   have:=(C9 (A:=A.in1) (YD k1 (Cc Jk)) (YD k2 (Cc KM)) (E3 j _ KL.toArray[j] (Cc Jk) (by simp at h1;simp[h1])) (Ct j _ Go.toArray[j] (Cc KM) (by simp at h2;simp[h2])) (by show A.units+1+n<Dp;lia)).1;unfold Mv;rw[Cc Jk,Cc KM];exact this
  have same:∀{E3 Ct:A4},u=.ref E3->v=.ref Ct->U8 A s (.ref E3) (.ref Ct) (eqT d1 Ex)->XG A s (.ref E3) (.ref Ct) (eqT d1 Ex):=λ{E3 Ct} A9 AF w=>by
   by_cases AT:E3=Ct
   .subst AT A9 AF;obtain⟨x1,D_,Ar⟩:=id a1;obtain⟨x2,FX,BD⟩:=id a2;have:x1=x2:=RelV.inj Ar BD;subst this;rw[gE J (n+1) Cn Dm D_ FX,iT _ Dm];exact SeqAt.EqAt.same _
   .exact SeqAt.EqAt.of_refs AT w
  cases h1<;>cases h2<;>first
   |(simp only[eqT,ez,Bool.not_false];refine⟨?_,?_,?_⟩<;>with_reducible first|exact .same _|exact .none_none|exact .none_bool _|exact .none_int _ _|exact .none_str _ _|exact .bool_none _|exact .bool_bool _ _|exact .bool_int _ _ _|exact .bool_str _ _ _|exact .int_none _ _|exact .int_bool _ _ _|exact .int_int _ _ _ _|exact .int_str _ _ _ _|exact .str_none _ _|exact .str_bool _ _ _|exact .str_int _ _ _ _|exact .str_str _ _ _ _|exact .none_tuple ‹_› G9|exact .none_list ‹_› G9|exact .bool_tuple _ ‹_› G9|exact .bool_list _ ‹_› G9|exact .int_tuple _ _ ‹_› G9|exact .int_list _ _ ‹_› G9|exact .str_tuple _ _ ‹_› G9|exact .str_list _ _ ‹_› G9|exact .tuple_none ‹_› G9|exact .list_none ‹_› G9|exact .tuple_bool _ ‹_› G9|exact .list_bool _ ‹_› G9|exact .tuple_int _ _ ‹_› G9|exact .list_int _ _ ‹_› G9|exact .tuple_str _ _ ‹_› G9|exact .list_str _ _ ‹_› G9)
   |skip
  .rename_i E3 Fb KL t1 JI q1 Ct Fc Go Cb Lm q2;have Bk:=SeqAt.RcAt.tuples (e:=Mv Fb Fc) t1 Cb G9 (item Cn Dm JI Lm q1 q2);have Co:=SeqAt.RcNeAt.tuples (e:=Mv Fb Fc) t1 Cb G9 (item Cn Dm JI Lm q1 q2);have eq:((CW (min KL.toArray.size Go.toArray.size)).all (Mv Fb Fc)&&KL.toArray.size==Go.toArray.size)=eqT (.Dn true Fb) (.Dn true Fc):=by
    rw[DX,DX,<-JI,<-Lm];simp only[eqT,beq_self_eq_true,f3];by_cases AG:Fb.length=Fc.length
    .rw[<-AG,Nat.min_self,am AG,beq_self_eq_true,Bool.and_true]
    .rw[ak AG];have:(Fb.length==Fc.length)=false:=by simpa using AG
     rw[this,U2]
   rw[eq]at Bk Co;exact⟨same rfl rfl Bk,Bk,Co⟩
  .rename_i E3 Fb KL t1 JI q1 Ct Fc Go Cb Lm q2;have Bk:U8 A s (.ref E3) (.ref Ct) (eqT (.Dn true Fb) (.Dn false Fc)):=by simp only[eqT];exact SeqAt.RcAt.tuple_list t1 Cb G9
   exact⟨same rfl rfl Bk,Bk,by simp only[eqT];exact SeqAt.RcNeAt.tuple_list t1 Cb G9⟩
  .rename_i E3 Fb KL t1 JI q1 Ct Fc Go Cb Lm q2;have Bk:U8 A s (.ref E3) (.ref Ct) (eqT (.Dn false Fb) (.Dn true Fc)):=by simp only[eqT];exact SeqAt.RcAt.list_tuple t1 Cb G9
   exact⟨same rfl rfl Bk,Bk,by simp only[eqT];exact SeqAt.RcNeAt.list_tuple t1 Cb G9⟩
  .rename_i E3 Fb KL t1 JI q1 Ct Fc Go Cb Lm q2;have hsz:(KL.toArray.size=Go.toArray.size)=(Fb.length=Fc.length):=by rw[DX,DX,<-JI,<-Lm]
   by_cases AG:Fb.length=Fc.length
   .have Bk:=SeqAt.RcAt.lists (e:=Mv Fb Fc) t1 Cb (by rw[hsz];exact AG) G9 (item Cn Dm JI Lm q1 q2);have Co:=SeqAt.RcNeAt.lists (e:=Mv Fb Fc) t1 Cb (by rw[hsz];exact AG) G9 (item Cn Dm JI Lm q1 q2);rw[DX,<-JI,am AG]at Bk Co;have e:G8 Fb Fc=eqT (.Dn false Fb) (.Dn false Fc):=by simp[eqT]
    rw[e]at Bk Co;exact⟨same rfl rfl Bk,Bk,Co⟩
   .have hz:(KL.toArray.size !=Go.toArray.size)=true:=by
      rw[DX,DX,<-JI,<-Lm];simpa using AG
    have e:eqT (.Dn false Fb) (.Dn false Fc)=false:=by simp only[eqT];rw[ak AG,U2]
    have Bk:U8 A s (.ref E3) (.ref Ct) (eqT (.Dn false Fb) (.Dn false Fc)):=by rw[e];exact SeqAt.RcAt.lists_lengths t1 Cb hz G9
    exact⟨same rfl rfl Bk,Bk,by rw[e];exact SeqAt.RcNeAt.lists_lengths t1 Cb hz G9⟩
open Classical in
noncomputable def NM(K:Aq)(H:AC)(d:DK)(u:A6):Bool:=if h:∃d',H6 7 d'=true/\NI K H d' u then eqT (Classical.choose h) d else false
def rS(J:Inv X pins σ H s){d d1:DK}{u:A6}(o:H6 7 d=true)(h:NI X.K H d u):NM X.K H d1 u=eqT d d1:=by have AK:∃d',H6 7 d'=true/\NI X.K H d' u:=⟨d,o,h⟩;unfold NM;rw[dif_pos AK];obtain⟨o',Fh,GS,BW⟩:=Classical.choose_spec AK;obtain⟨x,a,r⟩:=h;have:Fh=x:=BW.inj r;subst this;rw[gE J 7 o' o GS a]
theorem fZ(J:Inv X pins σ H s){d1:DK}{x:V}{v:A6}{A:D4}(BI:A.units+8<Dp)(Cn:H6 7 d1=true)(a1:GV X.K H d1 x)(At:RelV x v):∀{ds:List DK}{xs:List V}{its:List A6},Hv X.K H ds xs->Vals xs its->ds.all (H6 7)=true->
  (∀u∈its,XG A s u v (NM X.K H d1 u))/\its.map (NM X.K H d1)=ds.map λy=>eqT y d1
 |[],_,_,q,r,_=>by simp only[Hv]at q;subst q;cases r;exact⟨(λu BI=>nomatch BI),rfl⟩
 |d::ds,_,_,q,r,o=>by
  simp only[Hv]at q;obtain⟨w,wr,rfl,EL,f_⟩:=q;cases r with
  |cons Ar BD=>
   rw[X7,Hr]at o;obtain⟨h1,h2⟩:=fZ J BI Cn a1 At f_ BD o.2;have e:=rS J (d1:=d1) o.1 ⟨w,EL,Ar⟩;refine⟨λJS hm=>?_,by rw[D3,D3,e,h2]⟩;rcases List.mem_cons.mp hm with z|hm
   .subst z;rw[e];exact(iS J 7 (A:=A) o.1 Cn ⟨w,EL,Ar⟩ ⟨x,a1,At⟩ (by lia)).1
   .exact h1 JS hm
theorem any_map{α:Type}(l:List α)(f:α->Bool):l.any f=(l.map f).any id:=by simp[List.any_map]
def a9(K:Aq)(b:Bool):FA:=λx y H Q=>∃d1 t ds,GV K H d1 x/\GV K H (.Dn t ds) y/\H6 7 d1=true/\ds.all (H6 7)=true/\Q (.AL (if b then ds.any (λy=>eqT y d1)else !ds.any λy=>eqT y d1)) H
def Zw(BI:X.A.units+64<Dp):Dg X (Ft .In) (a9 X.K true)/\Dg X (Ft .NotIn) (a9 X.K false):=by
 refine⟨?_,?_⟩<;>
 .intro pins s σ H x y v u Q J At Bf h;obtain⟨d1,t,ds,a1,a2,Cn,Dm,q⟩:=h;simp only[GV]at a2;obtain⟨p,xs,rfl,AX,al⟩:=a2;cases Bf;cases t with
  |true=>
   obtain⟨its,C6,Bi,_⟩:=J.tuple AX;obtain⟨h1,h2⟩:=fZ J (A:=X.A.in1) (d1:=d1) (by show X.A.units+1+8<Dp;lia) Cn a1 At al C6 Dm;have e:its.any (NM X.K H d1)=ds.any λy=>eqT y d1:=by rw[any_map,h2,<-any_map]
   simp only[if_true,M6,if_false]at q;rw[<-e]at q
   first
    |exact SeqAt.in_tupleAt (NM X.K H d1) Bi (λw hw=>h1 w (by simpa using hw)) ⟨.AL _,H,J,rfl,by simpa using q⟩
    |exact SeqAt.notIn_tupleAt (NM X.K H d1) Bi (λw hw=>h1 w (by simpa using hw)) ⟨.AL _,H,J,rfl,by simpa using q⟩
  |false=>
   obtain⟨its,C6,Bi,_⟩:=J.list AX;obtain⟨h1,h2⟩:=fZ J (A:=X.A.in1) (d1:=d1) (by show X.A.units+1+8<Dp;lia) Cn a1 At al C6 Dm;have e:its.any (NM X.K H d1)=ds.any λy=>eqT y d1:=by rw[any_map,h2,<-any_map]
   simp only[if_true,M6,if_false]at q;rw[<-e]at q
   first
    |exact SeqAt.in_listAt (NM X.K H d1) Bi.isList (λw hw=>h1 w (by simpa using hw)) ⟨.AL _,H,J,rfl,by simpa using q⟩
    |exact SeqAt.notIn_listAt (NM X.K H d1) Bi.isList (λw hw=>h1 w (by simpa using hw)) ⟨.AL _,H,J,rfl,by simpa using q⟩
def cv(K:Aq)(b:Bool):FA:=λx y H Q=>∃d1 Ex,GV K H d1 x/\GV K H Ex y/\H6 8 d1=true/\H6 8 Ex=true/\Q (.AL (if b then eqT d1 Ex else !eqT d1 Ex)) H
def Zv(BI:X.A.units+64<Dp):Dg X (Ft .Eq) (cv X.K true)/\Dg X (Ft .NotEq) (cv X.K false):=by
 refine⟨?_,?_⟩<;>
 .intro pins s σ H x y v u Q J At Bf h;obtain⟨d1,Ex,a1,a2,Cn,Dm,q⟩:=h;have z:=iS J 8 (A:=X.A) Cn Dm ⟨x,a1,At⟩ ⟨y,a2,Bf⟩ (by lia)
  first
   |exact z.2.1 X.prog X.w X.Cr _ ⟨.AL _,H,J,rfl,q⟩
   |exact z.2.2 X.prog X.w X.Cr _ ⟨.AL _,H,J,rfl,q⟩
end
def EC(h:A5):W->Option (Bool×List W)
 |.tup ws=>some (true,ws)
 |.I6 ws=>some (true,ws)
 |.DV ws=>some (false,ws)
 |.ref n=>match h[n]? with
  |some ⟨.lst,ws⟩=>some (false,ws)
  |_=>none
 |_=>none
section
variable{K:Aq}{φ:List A4}{h:A5}{H:AC}{F:Cx}{σ :St}{ρ:B9}{X:Ao}
def Ij(d:D1 K φ h H){w:W}{v:V}{t:Bool}{ws:List W}(a:AW K φ H w v)(e:EC h w=some (t,ws)):∃p xs,v=.ref p/\(if t=true then Ea K H p xs else E_ K H p xs)/\Ai K φ H ws xs:=by
 unfold EC at e
 split at e
 .cases e;simp only[AW]at a;obtain⟨p,xs,rfl,q,r⟩:=a;exact⟨p,xs,rfl,.inl (.inl q),r⟩
 .cases e;simp only[AW]at a;obtain⟨p,xs,rfl,q,r⟩:=a;exact⟨p,xs,rfl,q,r⟩
 .cases e;simp only[AW]at a;obtain⟨p,xs,rfl,q,r⟩:=a;exact⟨p,xs,rfl,q.Dn,r⟩
 .rename_i n
  split at e
  .rename_i As;cases e;obtain⟨p,xs,rfl,_,q,r⟩:=d.at As a;exact⟨p,xs,rfl,.inl (.inl q),r⟩
  .cases e
 .cases e
noncomputable def DD:Nat->A5->W->Option DK
 |_,_,.non=>some .non
 |_,_,.AL b=>some (.AL b)
 |_,_,.int i=>some (.int i)
 |_,_,.str x=>some (.str x)
 |0,_,_=>none
 |n+1,h,w=>match EC h w with
  |some (t,ws)=>(ws.mapM (DD n h)).map (.Dn t)
  |none=>none
theorem mT{n:Nat}(C9:∀{w:W}{v:V}{d:DK},DD n h w=some d->AW K φ H w v->GV K H d v/\H6 n d=true):∀{ws:List W}{xs:List V}{ds:List DK},ws.mapM (DD n h)=some ds->Ai K φ H ws xs->Hv K H ds xs/\ds.all (H6 n)=true
 |[],_,_,e,a=>by simp at e;subst e;simp only[Ai]at a;subst a;simp[Hv]
 |w::ws,_,_,e,a=>by
  simp only[Ai]at a;obtain⟨v,r,rfl,a1,a2⟩:=a;rw[XD]at e;cases A9:DD n h w with
  |none=>rw[A9]at e;cases e
  |some d=>
   rw[A9]at e;cases AF:ws.mapM (DD n h)with
   |none=>rw[AF]at e;cases e
   |some ds=>rw[AF]at e;cases e;obtain⟨D_,FX⟩:=C9 A9 a1;obtain⟨Bk,Co⟩:=mT C9 AF a2;exact⟨by simp only[Hv];exact⟨v,r,rfl,D_,Bk⟩,by rw[X7,FX,Co];rfl⟩
def aB(d:D1 K φ h H):∀(n:Nat){w:W}{v:V}{t:DK},DD n h w=some t->AW K φ H w v->GV K H t v/\H6 n t=true:=by
 intro n;induction n with
 |zero=>
  intro w v t e a
  cases w<;>simp only[DD]at e<;>first
   |(cases e;done)
   |(cases e;simp only[AW]at a;exact⟨by simp only[GV];exact a,rfl⟩)
 |succ m C9=>
  intro w v t e a;have Dn:∀w,(match EC h w with|some (t,ws)=>(ws.mapM (DD m h)).map (DK.Dn t)|none=>none)=some t->AW K φ H w v->GV K H t v/\H6 (m+1) t=true:=λw e a=>by
   split at e
   .rename_i t' ws es;obtain⟨p,xs,rfl,q,r⟩:=Ij d a es;cases AF:ws.mapM (DD m h)with
    |none=>rw[AF]at e;cases e
    |some ds=>rw[AF]at e;cases e;obtain⟨Bk,Co⟩:=mT (λe a=>C9 e a) AF r;exact⟨by simp only[GV];exact⟨p,xs,rfl,q,Bk⟩,Co⟩
   .cases e
  cases w<;>simp only[DD]at e<;>first
   |exact Dn _ e a
   |(cases e;simp only[AW]at a;exact⟨by simp only[GV];exact a,rfl⟩)
def Ai.one{w:W}{vs:List V}(a:Ai K φ H [w] vs):∃v,vs=[v]/\AW K φ H w v:=by simp only[Ai]at a;obtain⟨v,r,rfl,h,rfl⟩:=a;exact⟨v,rfl,h⟩
def Ai.two{w u:W}{vs:List V}(a:Ai K φ H [w,u] vs):∃v Ix,vs=[v,Ix]/\AW K φ H w v/\AW K φ H u Ix:=by simp only[Ai]at a;obtain⟨v,r,rfl,h,Ix,BW,rfl,h',rfl⟩:=a;exact⟨v,Ix,rfl,h,h'⟩
abbrev Io:=W->W->A5->R (W×A5)
def Au(b:Bool):Io:=λx y h=>match DD 8 h x,DD 8 h y with
 |some d,some e=>.ok (.AL (if b then eqT d e else !eqT d e),h)
 |_,_=>.bad
def Yq(AZ:F.K=X.K)(b:Bool):Hz F (cv X.K b) (Au b):=by
 intro σ ρ φ h H x y G2 Gb Q r a1 a2 q;unfold Au at q
 split at q
 .rename_i d e A9 AF;obtain⟨D_,Bk⟩:=aB r.hd 8 A9 a1;obtain⟨FX,Co⟩:=aB r.hd 8 AF a2;rw[AZ]at D_ FX;exact⟨d,e,D_,FX,Bk,Co,q _ φ H r (Af.refl _ _) (NT _)⟩
 .exact q.elim
def YX(b:Bool):Io:=λx y h=>match DD 7 h x,DD 8 h y with
 |some d,some (.Dn _ ds)=>.ok (.AL (if b then ds.any (λy=>eqT y d)else !ds.any λy=>eqT y d),h)
 |_,_=>.bad
def aay(AZ:F.K=X.K)(b:Bool):Hz F (a9 X.K b) (YX b):=by
 intro σ ρ φ h H x y G2 Gb Q r a1 a2 q;unfold YX at q
 split at q
 .rename_i d t ds A9 AF;obtain⟨D_,Bk⟩:=aB r.hd 7 A9 a1;obtain⟨FX,Co⟩:=aB r.hd 8 AF a2;rw[AZ]at D_ FX;exact⟨d,t,ds,D_,FX,Bk,Co,q _ φ H r (Af.refl _ _) (NT _)⟩
 .exact q.elim
def KJ(f:Int->Int->Option W):Io:=λx y h=>match x,y with
 |.int i,.int j=>match f i j with
  |some w=>.ok (w,h)
  |none=>.bad
 |_,_=>.bad
def Lq{g:Int->Int->V}{f:Int->Int->W}(e:∀i j K φ H,AW K φ H (f i j) (g i j)):Hz F (LF g) (KJ λi j=>some (f i j)):=by
 intro σ ρ φ h H x y G2 Gb Q r a1 a2 q;unfold KJ at q
 split at q
 .rename_i i j;simp only[AW]at a1 a2;exact⟨i,j,a1,a2,q _ φ H r (Af.refl _ _) (e _ _ _ _ _)⟩
 .exact q.elim
def Zq{C:Int->Int->Prop}[∀i j,Decidable (C i j)]{g:Int->Int->V}{f:Int->Int->W}(e:∀i j K φ H,AW K φ H (f i j) (g i j)):Hz F (IS C g) (KJ λi j=>if C i j then some (f i j)else none):=by
 intro σ ρ φ h H x y G2 Gb Q r a1 a2 q;unfold KJ at q
 split at q
 .rename_i i j;simp only[AW]at a1 a2;dsimp only at q
  split at q
  .rename_i w hw
   split at hw
   .rename_i AH;cases hw;exact⟨i,j,a1,a2,AH,q _ φ H r (Af.refl _ _) (e _ _ _ _ _)⟩
   .cases hw
  .exact q.elim
 .exact q.elim
instance(i j:Int):Decidable (Sc i j):=by unfold Sc;infer_instance
instance(i j:Int):Decidable (LC i j):=by unfold LC;infer_instance
instance(i j:Int):Decidable (OD i j):=by unfold OD;infer_instance
def NY:=KJ λi j=>some (.int (i-j))
def CY:=KJ λi j=>if Sc i j then some (.int (i/j))else none
def BV:=KJ λi j=>if 0<j then some (.int (i%j))else none
def OV:=KJ λi j=>if OD i j then some (.int (i^j.toNat))else none
def JJ:=KJ λi j=>some (.AL (decide (i<j)))
def Ll:=KJ λi j=>some (.AL (decide (i<=j)))
def KG:=KJ λi j=>some (.AL (decide (j<i)))
def aO:=KJ λi j=>some (.AL (decide (j<=i)))
def acO:=KJ λi j=>if 0<=j then some (.int (i/2^j.toNat))else none
def rR:=KJ λi j=>some (.int (Builtin.bitAnd i j))
def L5(h:A5):W->Option (Nat×List W)
 |.ref n=>match h[n]? with
  |some ⟨.lst,ws⟩=>some (n,ws)
  |_=>none
 |_=>none
def P_(d:D1 K φ h H){w:W}{v:V}{n:Nat}{ws:List W}(a:AW K φ H w v)(e:L5 h w=some (n,ws)):∃p xs,v=.ref p/\h[n]?=some ⟨.lst,ws⟩/\φ[n]?=some p/\H p=some (.lst xs)/\Ai K φ H ws xs:=by
 unfold L5 at e
 split at e
 .split at e
  .rename_i As;cases e;obtain⟨p,xs,rfl,BY,q,r⟩:=d.at As a;exact⟨p,xs,rfl,As,BY,q,r⟩
  .cases e
 .cases e
noncomputable def addW:Io:=λx y h=>match x,y with
 |.int i,.int j=>.ok (.int (i+j),h)
 |.str a,.str b=>if a.length+b.length<=B0 then .ok (.str (a++b),h)else .bad
 |.tup a,y=>match EC h y with
  |some (true,b)=>if a≠[]/\a.length+b.length<=B0 then .ok (.tup (a++b),h)else .bad
  |_=>.bad
 |x,y=>match L5 h x,L5 h y with
  |some (_,a),some (_,b)=>nw .lst (a++b) h
  |_,_=>.bad
def l6(K:Aq):FA:=λx y H Q=>LF (λi j=>.int (i+j)) x y H Q\/(∃i j,x=.str i/\y=.str j/\i.length+j.length<=CG/\Q (.str (i++j)) H)\/lA K x y H Q\/l9 x y H Q
def abF:Dg X (JZ .Add) (l6 X.K):=abE.or (abG.or (abJ.or abI))
def big{n:Nat}(h:n<=B0):n<=CG:=I_ h (by decide)
def zy(AZ:F.K=X.K):Hz F (l6 X.K) addW:=by
 intro σ ρ φ h H x y G2 Gb Q r a1 a2 q;unfold addW at q
 split at q
 .rename_i i j;simp only[AW]at a1 a2;exact .inl ⟨i,j,a1,a2,q _ φ H r (Af.refl _ _) (by simp only[AW])⟩
 .rename_i i j;simp only[AW]at a1 a2
  split at q
  .rename_i AG;exact .inr (.inl ⟨i,j,a1,a2,big AG,q _ φ H r (Af.refl _ _) (by simp only[AW])⟩)
  .exact q.elim
 .rename_i ws;simp only[AW]at a1;obtain⟨p,xs,rfl,AE,BR⟩:=a1
  split at q
  .rename_i b BF;obtain⟨Ct,ys,rfl,A2,rb⟩:=Ij r.hd a2 BF;rw[AZ]at A2
   split at q
   .rename_i AG;refine .inr (.inr (.inl ⟨p,Ct,xs,ys,rfl,rfl,.inl (.inl AE),A2,λz=>AG.1 ?_,by rw[<-BR.length,<-rb.length];exact big AG.2,λz=>?_,λ_ FF AT=>?_⟩))
    .have:=BR.length;rw[z]at this;exact qB this
    .subst z;have:=rb.length;have:b=[]:=qB this;subst this;exact q _ φ H r (Af.refl _ _) (by simp only[AW,LU];exact⟨p,xs,rfl,AE,BR⟩)
    .exact q _ φ _ (r.to (r.hd.lay AT) (Af.lay AT)) (Af.lay AT) (by simp only[AW];exact⟨FF,_,rfl,E4,(BR.append rb).ex (Af.lay AT)⟩)
   .exact q.elim
  .exact q.elim
 .split at q
  .rename_i na a nb b A9 AF;obtain⟨p,xs,rfl,_,_,AE,BR⟩:=P_ r.hd a1 A9;obtain⟨Ct,ys,rfl,_,_,A2,rb⟩:=P_ r.hd a2 AF;have Sx:=BR.append rb;refine .inr (.inr (.inr ⟨p,Ct,xs,ys,rfl,rfl,AE,A2,?_,λFF AT=>OS r q AT E4 Sx⟩));have:=dN q;rw[Sx.length,Ej]at this;exact big this
  .exact q.elim
noncomputable def HY:Io:=λx y h=>match x,y with
 |.int i,.int j=>if LC i j then .ok (.int (i*j),h)else .bad
 |x,.int k=>match L5 h x with
  |some (_,a)=>if-(2^63)<=k/\k<2^63 then nw .lst (Fu k.toNat a).flatten h else .bad
  |none=>.bad
 |_,_=>.bad
theorem Ai.rep{ws:List W}{xs:List V}(a:Ai K φ H ws xs):∀k:Nat,Ai K φ H (Fu k ws).flatten (Fu k xs).flatten
 |0=>by simpa using Ai.nil
 |k+1=>by rw[QI,QI,P7,P7];exact a.append (a.rep k)
def ab4:Hz F (λx y H Q=>IS LC (λi j=>.int (i*j)) x y H Q\/kl x y H Q) HY:=by
 intro σ ρ φ h H x y G2 Gb Q r a1 a2 q;unfold HY at q
 split at q
 .rename_i i j;simp only[AW]at a1 a2
  split at q
  .rename_i AH;exact .inl ⟨i,j,a1,a2,AH,q _ φ H r (Af.refl _ _) (by simp only[AW])⟩
  .exact q.elim
 .rename_i k _;simp only[AW]at a2
  split at q
  .rename_i a A9;obtain⟨p,xs,rfl,_,_,AE,BR⟩:=P_ r.hd a1 A9
   split at q
   .rename_i AO;have KU:=BR.rep k.toNat;refine .inr ⟨p,k,xs,rfl,a2,AE,AO.1,AO.2,?_,λFF AT=>OS r q AT E4 KU⟩;have:=dN q;rw[KU.length,len_rep]at this;rw[Nat.mul_comm];exact big this
   .exact q.elim
  .exact q.elim
 .exact q.elim
def Ng:W->Bool
 |.non=>true
 |_=>false
def EN(b:Bool):Io:=λx y h=>match y with
 |.non=>.ok (.AL (if b then Ng x else !Ng x),h)
 |_=>.bad
def yI{w:W}{x:V}(a:AW K φ H w x):Ng w=decide (x=.non):=by
 cases w<;>simp only[AW,Ng]at a |-<;>first
  |(subst a;rfl)
  |(subst a;simp;done)
  |(obtain⟨_,_,rfl,_⟩:=a;simp;done)
  |(obtain⟨_,rfl,_⟩:=a;simp;done)
def Zr(b:Bool):Hz F (λx y H Q=>y=.non/\Q (.AL (if b then decide (x=.non)else !decide (x=.non))) H) (EN b):=by
 intro σ ρ φ h H x y G2 Gb Q r a1 a2 q;unfold EN at q
 split at q
 .simp only[AW]at a2;rw[yI a1]at q;exact⟨a2,q _ φ H r (Af.refl _ _) (NT _)⟩
 .exact q.elim
noncomputable def Q9:Io:=λx y h=>match y with
 |.int i=>match x with
  |.str z=>if z.length<=B0 then match J8 z.cps.toList i with
      |some c=>.ok (.str ⟨#[c]⟩,h)
      |none=>.bad
   else .bad
  |x=>match EC h x with
   |some (_,ws)=>match J8 ws i with
    |some w=>.ok (w,h)
    |none=>.bad
   |none=>.bad
 |_=>.bad
def rU{ws:List W}{xs:List V}{i:Int}{w:W}(a:Ai K φ H ws xs)(e:J8 ws i=some w):∃v,J8 xs i=some v/\AW K φ H w v:=by
 unfold J8 at e |-;rw[<-a.length];cases Ap:Lk ws.length i with
 |none=>rw[Ap]at e;cases e
 |some j=>rw[Ap]at e;exact a.get e
def aaz(AZ:F.K=X.K):Hz F (cx X.K) Q9:=by
 intro σ ρ φ h H x y G2 Gb Q r a1 a2 q;unfold Q9 at q
 split at q
 .rename_i i;simp only[AW]at a2;subst a2
  split at q
  .rename_i z;simp only[AW]at a1
   split at q
   .rename_i AG
    split at q
    .rename_i c ec;exact .inr (.inr ⟨z,i,c,a1,rfl,big AG,ec,q _ φ H r (Af.refl _ _) (by simp only[AW])⟩)
    .exact q.elim
   .exact q.elim
  .split at q
   .rename_i t ws es;obtain⟨p,xs,rfl,AX,BR⟩:=Ij r.hd a1 es;rw[AZ]at AX
    split at q
    .rename_i w Cp;obtain⟨v,ev,EL⟩:=rU BR Cp;have q:=q v φ H r (Af.refl _ _) EL;cases t with
     |true=>exact .inr (.inl ⟨p,xs,i,v,rfl,rfl,AX,ev,q⟩)
     |false=>exact .inl ⟨p,xs,i,v,rfl,rfl,AX,ev,q⟩
    .exact q.elim
   .exact q.elim
 .exact q.elim
end
abbrev Kl:=List W->A5->R (W×A5)
def Az(f:Kl)(m:EE):B3:=bd m λws _ h=>f ws h
section
variable{K:Aq}{φ:List A4}{h:A5}{H:AC}{F:Cx}{σ :St}{ρ:B9}{X:Ao}{ma:EE}
def OE(F:Cx)(r:List V->AC->CK->Prop)(f:Kl):Prop:=∀ σ ρ φ h H xs ws Q,Rel F φ h H σ ρ->Ai F.K φ H ws xs->Cv AW F φ H σ ρ Q (f ws h)->r xs H Q
def Q7{r:List V->AC->CK->Prop}{f:Kl}(hf:OE F r f):FQ (C3 F (Az f ma)) (WR r (GP F ma)):=λσ H Q q=>
 q.bd λws xs φ ρ h H1 r as q=>hf σ ρ φ h H1 xs ws Q r as q
def BO:Kl:=λws h=>match ws with
 |[.str x]=>if x.length<=B0 then .ok (.int x.length,h)else .bad
 |[w]=>match EC h w with
  |some (_,us)=>.ok (.int us.length,h)
  |none=>.bad
 |_=>.bad
def ab1(AZ:F.K=X.K):OE F (λxs H Q=>∃x n,xs=[x]/\gO X.K x H n/\Q (.int n) H) BO:=by
 intro σ ρ φ h H xs ws Q r as q;unfold BO at q
 split at q
 .rename_i x;obtain⟨v,rfl,a⟩:=as.one;simp only[AW]at a;subst a
  split at q
  .rename_i AG;exact⟨_,x.length,rfl,⟨big AG,rfl⟩,q _ φ H r (Af.refl _ _) (by simp only[AW])⟩
  .exact q.elim
 .obtain⟨v,rfl,a⟩:=as.one
  split at q
  .rename_i t us es;obtain⟨p,xs,rfl,AX,BR⟩:=Ij r.hd a es;rw[AZ]at AX;rw[BR.length]at q;refine⟨_,xs.length,rfl,?_,q _ φ H r (Af.refl _ _) (by simp only[AW])⟩;cases t with
   |true=>exact .inr ⟨xs,AX,rfl⟩
   |false=>exact .inl ⟨xs,AX,rfl⟩
  .exact q.elim
 .exact q.elim
def Fk:Kl:=λws h=>match ws with
 |[w]=>match EC h w with
  |some (_,us)=>nw .lst us h
  |none=>.bad
 |_=>.bad
def ab2(AZ:F.K=X.K):OE F (λxs H Q=>∃p ys,xs=[.ref p]/\(E_ X.K H p ys\/Ea X.K H p ys)/\∀l,H l=none->Q (.ref l) (upd H l (.lst ys))) Fk:=by
 intro σ ρ φ h H xs ws Q r as q;unfold Fk at q
 split at q
 .obtain⟨v,rfl,a⟩:=as.one
  split at q
  .rename_i t us es;obtain⟨p,xs,rfl,AX,BR⟩:=Ij r.hd a es;rw[AZ]at AX;refine⟨p,xs,rfl,?_,λl AG=>OS r q AG E4 BR⟩;cases t with
   |true=>exact .inr AX
   |false=>exact .inl AX
  .exact q.elim
 .exact q.elim
def Oc:Kl:=λws h=>match ws with
 |[w]=>match EC h w with
  |some (false,us)=>.ok (.tup us,h)
  |some (true,_)=>.ok (w,h)
  |none=>.bad
 |_=>.bad
def ab9(AZ:F.K=X.K):OE F (λxs H Q=>∃p ys,xs=[.ref p]/\((E_ X.K H p ys/\∀l,H l=none->Q (.ref l) (upd H l (.tup ys)))\/(Ea X.K H p ys/\Q (.ref p) H))) Oc:=by
 intro σ ρ φ h H xs ws Q r as q;unfold Oc at q
 split at q
 .obtain⟨v,rfl,a⟩:=as.one
  split at q
  .rename_i us es;obtain⟨p,xs,rfl,AX,BR⟩:=Ij r.hd a es;rw[AZ]at AX;exact⟨p,xs,rfl,.inl ⟨AX,λl AG=>q _ φ _ (r.to (r.hd.lay AG) (Af.lay AG)) (Af.lay AG) (by simp only[AW];exact⟨l,_,rfl,E4,BR.ex (Af.lay AG)⟩)⟩⟩
  .rename_i us es;obtain⟨p,xs,rfl,AX,BR⟩:=Ij r.hd a es;rw[AZ]at AX;exact⟨p,xs,rfl,.inr ⟨AX,q _ φ H r (Af.refl _ _) a⟩⟩
  .exact q.elim
 .exact q.elim
def Pq:Kl:=λws h=>match ws with
 |[.int i]=>if i.natAbs.log2<1920 then .ok (.str (toString i),h)else .bad
 |_=>.bad
def ab7:OE F (λxs H Q=>∃i,xs=[.int i]/\i.natAbs.log2<1920/\Q (.str (toString i)) H) Pq:=by
 intro σ ρ φ h H xs ws Q r as q;unfold Pq at q
 split at q
 .rename_i i;obtain⟨v,rfl,a⟩:=as.one;simp only[AW]at a;subst a
  split at q
  .rename_i AG;exact⟨i,rfl,AG,q _ φ H r (Af.refl _ _) (by simp only[AW])⟩
  .exact q.elim
 .exact q.elim
def RI:Kl:=λws h=>match ws with
 |[.int i]=>.ok (.int i,h)
 |[.AL b]=>.ok (.int (if b then 1 else 0),h)
 |_=>.bad
def ab8:OE F (λxs H Q=>(∃i,xs=[.int i]/\Q (.int i) H)\/∃k,xs=[.AL k]/\Q (.int (if k then 1 else 0)) H) RI:=by
 intro σ ρ φ h H xs ws Q r as q;unfold RI at q
 split at q
 .rename_i i;obtain⟨v,rfl,a⟩:=as.one;simp only[AW]at a;subst a;exact .inl ⟨i,rfl,q _ φ H r (Af.refl _ _) (by simp only[AW])⟩
 .rename_i i;obtain⟨v,rfl,a⟩:=as.one;simp only[AW]at a;subst a;exact .inr ⟨i,rfl,q _ φ H r (Af.refl _ _) (by simp only[AW])⟩
 .exact q.elim
noncomputable def Mf(h:A5):W->Option String
 |.non=>some "NoneType"
 |.AL _=>some "bool"
 |.int _=>some "int"
 |.str _=>some "str"
 |.tup _=>some "tuple"
 |.I6 _=>some "tuple"
 |.ref n=>match h[n]? with
  |some ⟨.lst,_⟩=>some "list"
  |some ⟨.Aj _,_⟩=>some "dict"
  |some ⟨.Ds _,_⟩=>some "dict"
  |_=>none
 |_=>none
def dg(T U:String):Bool:=T==U||(T=="bool"&&U=="int")
def fT(K:Aq)(U:String):Prop:=∀T,T="NoneType"\/T="bool"\/T="int"\/T="str"\/T="list"\/T="tuple"\/T="dict"->XA K (.type T) (.type U)=some (dg T U)
def WW(K:Aq){U:String}(h:U="int"\/U="bool"\/U="str"\/U="list"\/U="tuple"\/U="dict"):fT K U:=λT t=>by rcases h with rfl|rfl|rfl|rfl|rfl|rfl<;>rcases t with rfl|rfl|rfl|rfl|rfl|rfl|rfl<;>kernel_rfl
def adw{w:W}{T:String}(e:Mf h w=some T):T="NoneType"\/T="bool"\/T="int"\/T="str"\/T="list"\/T="tuple"\/T="dict":=by
 unfold Mf at e
 split at e<;>first
  |(cases e;simp;done)
  |(split at e<;>first|(cases e;simp;done)|(cases e;done))
  |(cases e;done)
def yK{pins:List (A4×Obj)}{s:AM}{Q:A6->AM->Prop}{E:A6->AM->Prop}{w:W}{x:V}{u:A6}{T U:String}{k:Bool}(J:Inv X pins σ H s)(d:D1 X.K φ h H)(a:AW X.K φ H w x)(At:RelV x u)(e:Mf h w=some T)(tt:XA X.K (.type T) (.type U)=some k)(AX:∀CL,Q (.bool k) { s with toks:=CL }):Ag (Av X.prog X.w) X.A (call (.builtin "isinstance") [u,.type U]) Q E s:=by
 have Pt:∀{p:A4}{xs:List V},Ea X.K H p xs->XA X.K (.type "tuple") (.type U)=some k->Ag (Av X.prog X.w) X.A (call (.builtin "isinstance") [.ref p,.type U]) Q E s:=λAN tt=>by obtain⟨its,_,⟨o,A9,AF,_⟩,_⟩:=J.tuple AN;exact J0 qe J.F0 ⟨o,A9,AF⟩ tt (λz=>nomatch z) AX
 unfold Mf at e
 split at e
 .cases e;simp only[AW]at a;subst a;cases At;exact J0 qi J.F0 Ht tt (λz=>nomatch z) AX
 .cases e;simp only[AW]at a;subst a;cases At;exact J0 qj J.F0 Ht tt (λz=>nomatch z) AX
 .cases e;simp only[AW]at a;subst a;obtain⟨t,rfl⟩:=At;exact J0 PySem.W.kitx_int J.F0 Ht tt (λz=>nomatch z) AX
 .cases e;simp only[AW]at a;subst a;obtain⟨t,rfl⟩:=At;exact J0 PySem.W.kitx_str J.F0 Ht tt (λz=>nomatch z) AX
 .cases e;simp only[AW]at a;obtain⟨p,xs,rfl,AN,_⟩:=a;cases At;exact Pt (.inl (.inl AN)) tt
 .cases e;simp only[AW]at a;obtain⟨p,xs,rfl,AN,_⟩:=a;cases At;exact Pt AN tt
 .split at e
  .rename_i As;cases e;obtain⟨p,xs,rfl,_,AN,_⟩:=d.at As a;cases At;exact br (x:=.ref p) J rfl (.lst AN) tt AX
  .rename_i As;cases e;obtain⟨p,xs,rfl,_,⟨A8,AN,_⟩,_⟩:=d.at As a;cases At;exact br (x:=.ref p) J rfl (.Aj AN) tt AX
  .rename_i As;cases e;obtain⟨p,xs,rfl,_,⟨A8,AN,_⟩,_⟩:=d.at As a;cases At;exact br (x:=.ref p) J rfl (.Ds AN) tt AX
  .cases e
 .cases e
def lC(K:Aq)(U:String):List V->AC->CK->Prop:=λxs H Q=>∃φ h w x T,D1 K φ h H/\xs=[x,.ty U]/\AW K φ H w x/\Mf h w=some T/\Q (.AL (dg T U)) H
def tA{U:String}(tt:fT X.K U):J5 X (.builtin "isinstance") (lC X.K U):=by intro pins s σ H xs us Q J r h;obtain⟨φ,hh,w,x,T,d,rfl,a,e,q⟩:=h;obtain⟨u,CR,rfl,At,Fo⟩:=vals2 r;obtain rfl:CR=Nv U:=Fo;exact yK J d a At e (tt T (adw e)) λCL=>⟨.AL _,H,J.tok CL,rfl,q⟩
def Dv(U:String):W->A5->R (W×A5):=λw h=>match Mf h w with
 |some T=>.ok (.AL (dg T U),h)
 |none=>.bad
def x5{U:String}{m:B3}(AZ:F.K=X.K):FQ (C3 F (BM (Dv U) m)) (WR (lC X.K U) (Zg (C3 F m) (Zg (Oa (.ty U)) Zk))):=λσ H Q q=>
 q.bd λw v φ ρ h H1 r a q=>by
   unfold Dv at q
   split at q
   .rename_i T u6;have GS:=a;have d:=r.hd;rw[AZ]at GS d;exact⟨φ,h,w,v,T,d,rfl,GS,u6,q _ φ H1 r (Af.refl _ _) (NT _)⟩
   .exact q.elim
def bools:List W->Option (List Bool)
 |[]=>some []
 |.AL b::ws=>(bools ws).map (b::·)
 |_=>none
theorem gm:∀{ws:List W}{xs:List V}{bs:List Bool},bools ws=some bs->Ai K φ H ws xs->xs=bs.map V.AL
 |[],_,_,e,a=>by simp only[bools]at e;cases e;simp only[Ai]at a;exact a
 |w::ws,_,_,e,a=>by
  simp only[Ai]at a;obtain⟨v,r,rfl,a1,a2⟩:=a;cases w<;>simp only[bools]at e<;>try (cases e;done)
  rename_i b;cases AF:bools ws with
  |none=>rw[AF]at e;cases e
  |some bs=>rw[AF]at e;cases e;simp only[AW]at a1;rw[a1,gm AF a2];rfl
noncomputable def I9(all:Bool):Kl:=λws h=>match ws with
 |[w]=>match EC h w with
  |some (false,us)=>match bools us with
   |some bs=>.ok (.AL (if all then bs.all id else bs.any id),h)
   |none=>.bad
  |_=>.bad
 |_=>.bad
def ab5(AZ:F.K=X.K)(b:Bool):OE F (λxs H Q=>∃(p:A4)(bs:List Bool),xs=[.ref p]/\E_ X.K H p (bs.map V.AL)/\Q (.AL (if b then bs.all id else bs.any id)) H) (I9 b):=by
 intro σ ρ φ h H xs ws Q r as q;unfold I9 at q
 split at q
 .obtain⟨v,rfl,a⟩:=as.one
  split at q
  .rename_i us es;obtain⟨p,xs,rfl,AX,BR⟩:=Ij r.hd a es
   split at q
   .rename_i bs BF;have:=gm BF BR;subst this;rw[AZ]at AX;exact⟨p,bs,rfl,AX,q _ φ H r (Af.refl _ _) (NT _)⟩
   .exact q.elim
  .exact q.elim
 .exact q.elim
abbrev Qf:=M (Option Int)
def adG(_:Aq)(_:List A4)(_:AC)(a b:Option Int):Prop:=b=a
abbrev WU(F:Cx)(m:Qf):Bz:=LI adG F m
def CE(m:B3):Qf:=bd m λw=>match w with
 |.int i=>pu (some i)
 |_=>λ_ _=>.bad
def wW:∀ σ H Q,WU F (pu none) σ H Q->oD σ H Q:=λσ H Q q=>let⟨φ,ρ,h,r,q⟩:=q;q none φ H r (Af.refl _ _) rfl
def wa{m:B3}:∀ σ H Q,WU F (CE m) σ H Q->pZ (C3 F m) σ H Q:=λσ H Q q=>
 q.bd λw v φ ρ h H1 r a q=>by
   cases w with
   |int i=>simp only[AW]at a;exact⟨i,a,q _ φ H1 r (Af.refl _ _) rfl⟩
   |_=>cases q
def Gy(ws:List W)(lo AB:Option Int):List W:=(ws.drop (Dz.CV ws.length 0 lo)).take (Dz.CV ws.length ws.length AB-Dz.CV ws.length 0 lo)
def Ai.cut{ws:List W}{xs:List V}(a:Ai K φ H ws xs)(lo AB:Option Int):Ai K φ H (Gy ws lo AB) (PM xs lo AB):=by unfold Gy PM;rw[a.length];exact(a.drop _).take _
noncomputable def Lu(w:W)(lo AB:Option Int):M W:=λ_ h=>match EC h w with
 |some (false,ws)=>nw .lst (Gy ws lo AB) h
 |some (true,ws)=>if Dz.CV ws.length 0 lo=0/\Dz.CV ws.length ws.length AB=ws.length then .bad else .ok (.tup (Gy ws lo AB),h)
 |none=>.bad
def D5(m:B3)(lo AB:Qf):B3:=bd m λw=>bd lo λl=>bd AB λu=>Lu w l u
def y2(AZ:F.K=X.K){m:B3}{lo AB:Qf}:FQ (C3 F (D5 m lo AB)) (pd (λx lo AB H Q=>kn X.K x lo AB H Q\/ko X.K x lo AB H Q) (C3 F m) (WU F lo) (WU F AB)):=λσ H Q q=>
 q.bd λw v φ ρ h H1 r a q=>⟨φ,ρ,h,r,q.bd λl Ni CF h2 AS BD x2 e q=>by
   cases e;exact⟨CF,ρ,h2,BD,q.bd λu JS Jx BH Bx FY x3 e q=>by
    cases e;have a:=a.ex (x2.trans x3);unfold Lu at q
    split at q
    .rename_i ws es;obtain⟨p,xs,rfl,AX,BR⟩:=Ij FY.hd a es;rw[AZ]at AX;exact .inl ⟨p,xs,rfl,AX,λFF AT=>OS FY q AT E4 (BR.cut l u)⟩
    .rename_i ws es;obtain⟨p,xs,rfl,AX,BR⟩:=Ij FY.hd a es;rw[AZ]at AX
     split at q
     .exact q.elim
     .rename_i AV;rw[BR.length]at AV;exact .inr ⟨p,xs,rfl,AX,AV,λFF AT=>q _ Jx _ (FY.to (FY.hd.lay AT) (Af.lay AT)) (Af.lay AT) (by simp only[AW];exact⟨FF,_,rfl,E4,(BR.cut l u).ex (Af.lay AT)⟩)⟩
    .exact q.elim⟩⟩
end
section
variable{K:Aq}{φ:List A4}{h:A5}{H:AC}{F:Cx}{σ :St}{ρ:B9}{X:Ao}{ma:EE}{m:B3}
abbrev NJ:=List W->List W->Option (W×List W)
def Yf(f:NJ)(w:W)(us:List W):B3:=λ_ h=>match L5 h w with
 |some (n,ws)=>match f ws us with
  |some (r,ws')=>if ws'.length<=B0 then .ok (r,h.set n ⟨.lst,ws'⟩)else .bad
  |none=>.bad
 |none=>.bad
def Y_{α:Type}(w:W)(m:M α):M α:=λρ h=>match L5 h w with
 |some _=>m ρ h
 |none=>.bad
def EP(f:NJ)(o:B3)(ma:EE):B3:=bd o λw=>Y_ w (bd ma λus=>Yf f w us)
def Yg{n:Nat}{p:A4}{ws ws':List W}{xs TF:List V}{r:W}{v:V}{Q:CK}(KS:Rel F φ h H σ ρ)(As:h[n]?=some ⟨.lst,ws⟩)(An:φ[n]?=some p)(AT:H p=some (.lst xs))(BR:Ai F.K φ H ws' TF)(C6:AW F.K φ H r v)(q:Cv AW F φ H σ ρ Q (.ok (r,h.set n ⟨.lst,ws'⟩))):Q v (upd H p (.lst TF)):=by have x:Af φ H φ (upd H p (.lst TF)):=Af.put AT λz=>z;exact q v φ _ (KS.to (KS.hd.put As An AT (λz=>z) (o':=⟨.lst,ws'⟩) E4 BR) x) x (C6.ex x)
noncomputable def Un(F:Cx)(r:V->List V->AC->CK->Prop)(f:NJ):Prop:=∀ σ ρ φ h H n p ws us xs vs Q CR ws',Rel F φ h H σ ρ->h[n]?=some ⟨.lst,ws⟩->φ[n]?=some p->H p=some (.lst xs)->Ai F.K φ H ws xs->Ai F.K φ H us vs->f ws us=some (CR,ws')->ws'.length<=B0->Cv AW F φ H σ ρ Q (.ok (CR,h.set n ⟨.lst,ws'⟩))->r (.ref p) vs H Q
def bc(AZ:F.K=X.K){r:V->List V->AC->CK->Prop}{f:NJ}(hf:Un F r f):FQ (C3 F (EP f m ma)) (oW X.K "list" r (C3 F m) (GP F ma)):=λσ H Q q=>
 q.bd λw v φ ρ h H1 KS a q=>by
   unfold Y_ at q
   split at q
   .rename_i nw e;obtain⟨n,ws⟩:=nw;obtain⟨p,xs,rfl,As,An,AT,BR⟩:=P_ KS.hd a e;refine⟨.inl ⟨rfl,xs,.inl (.inl AT)⟩,φ,ρ,h,KS,q.bd λus vs CF h2 AS BD x2 as q=>?_⟩;unfold Yf at q
    split at q
    .rename_i Dx ws2 AF;obtain⟨Ct,afb,NF,uD,uI,UD,Sx⟩:=P_ BD.hd (a.ex x2) AF;cases NF
     split at q
     .rename_i CR ws' C8
      split at q
      .rename_i AG;exact hf σ ρ CF h2 AS Dx p ws2 us afb vs Q CR ws' BD uD uI UD Sx as C8 AG q
      .exact q.elim
     .exact q.elim
    .exact q.elim
   .exact q.elim
def jf(AZ:F.K=X.K){r:V->List V->AC->CK->Prop}{f:NJ}(hf:Un F r f):FQ (C3 F (EP f m A1)) (oX X.K "list" r (C3 F m)):=λσ H Q q=>by have z:=bc (X:=X) AZ hf (m:=m) (ma:=A1) σ H Q q;obtain⟨φ,ρ,h,r,z⟩:=z;refine⟨φ,ρ,h,r,z.imp λv H1⟨ty,φ,ρ,h,r,z⟩=>⟨ty,z [] φ H1 r (Af.refl _ _) .nil⟩⟩
def FS:NJ:=λws us=>match us with
 |[w]=>some (.non,ws++[w])
 |_=>none
def d2:AW K φ H .non .non:=by simp only[AW]
def aaw:Un F l7 FS:=by
 intro σ ρ φ h H n p ws us xs vs Q CR ws' KS As An AT BR as C8 AG q;unfold FS at C8
 split at C8
 .cases C8;obtain⟨v,rfl,EL⟩:=as.one;rw[Ej,BR.length]at AG;exact⟨p,xs,v,rfl,rfl,AT,G3 (Nat.lt_of_succ_le AG) (by decide),Yg KS As An AT (BR.append (.cons EL .nil)) d2 q⟩
 .cases C8
noncomputable def JM:NJ:=λws us=>match us with
 |[]=>(ws[ws.length-1]?).map λw=>(w,ws.dropLast)
 |[.int i]=>if-(2^63)<=i/\i<2^63 then match Ry i ws.length with
    |some k=>(ws[k]?).map λw=>(w,ws.eraseIdx k)
    |none=>none
  else none
 |_=>none
def Ai.erase{ws:List W}{xs:List V}(a:Ai K φ H ws xs)(k:Nat):Ai K φ H (ws.eraseIdx k) (xs.eraseIdx k):=by rw[qJ,qJ];exact(a.take k).append (a.drop (k+1))
theorem Ai.dropLast{ws:List W}{xs:List V}(a:Ai K φ H ws xs):Ai K φ H ws.dropLast xs.dropLast:=by rw[qp,qp,a.length];exact a.take _
def jg:Un F (λx vs H Q=>lI x vs H Q\/lJ x vs H Q) JM:=by
 intro σ ρ φ h H n p ws us xs vs Q CR ws' KS As An AT BR as C8 AG q;unfold JM at C8
 split at C8
 .simp only[Ai]at as;subst as;cases e:ws[ws.length-1]? with
  |none=>rw[e]at C8;cases C8
  |some w=>rw[e]at C8;cases C8;obtain⟨v,ev,EL⟩:=BR.get e;rw[BR.length]at ev;exact .inl ⟨p,xs,v,rfl,rfl,AT,ev,Yg KS As An AT BR.dropLast EL q⟩
 .rename_i i;obtain⟨v,rfl,EL⟩:=as.one;simp only[AW]at EL;subst EL
  split at C8
  .rename_i AB
   split at C8
   .rename_i k DG;cases e:ws[k]? with
    |none=>rw[e]at C8;cases C8
    |some w=>rw[e]at C8;cases C8;obtain⟨v,ev,EL⟩:=BR.get e;rw[BR.length]at DG;exact .inr ⟨p,xs,i,k,v,rfl,rfl,AT,AB.1,AB.2,DG,ev,Yg KS As An AT (BR.erase k) EL q⟩
   .cases C8
  .cases C8
 .cases C8
def bH:NJ:=λ_ us=>match us with
 |[]=>some (.non,[])
 |_=>none
def aax:Un F lB bH:=by
 intro σ ρ φ h H n p ws us xs vs Q CR ws' KS As An AT BR as C8 AG q;unfold bH at C8
 split at C8
 .cases C8;simp only[Ai]at as;subst as;exact⟨p,xs,rfl,rfl,AT,Yg KS As An AT .nil d2 q⟩
 .cases C8
def a6(o i v:W):Am:=λρ h=>match L5 h o,i with
 |some (n,ws),.int k=>match Lk ws.length k with
  |some j=>.ok (.AR ρ,h.set n ⟨.lst,ws.set j v⟩)
  |none=>.bad
 |_,_=>.bad
def SO(o i:B3):D9:=λv=>bd o λV8=>bd i λj6=>a6 V8 j6 v
def wb{o i:B3}:XY (Lx F (SO o i)) (i4 (C3 F o) (C3 F i) km):=by
 rintro v σ H Q ⟨φ,ρ,h,w,r,a,q⟩;refine⟨φ,ρ,h,r,E2.bd q λV8 x Bt h1 H1 Ar x1 EF q=>⟨Bt,ρ,h1,Ar,E2.bd q λj6 y CF h2 AS BD x2 GY q=>?_⟩⟩;unfold a6 at q
 split at q
 .rename_i n ws k e;obtain⟨p,xs,rfl,As,An,AT,BR⟩:=P_ BD.hd (EF.ex x2) e;simp only[AW]at GY
  split at q
  .rename_i j Hj;have AF:Af CF AS CF (upd AS p (.lst (xs.set j v))):=Af.put AT λz=>z;rw[BR.length]at Hj;exact⟨p,xs,k,j,rfl,GY,AT,Hj,q σ CF _ (BD.to (BD.hd.put As An AT (λz=>z) (o':=⟨.lst,ws.set j w⟩) E4 (BR.set (a.ex (x1.trans x2)) j)) AF) AF⟩
  .exact q.elim
 .exact q.elim
def keyOf:W->Option Key
 |.int i=>some (.inl i)
 |.str x=>some (.inr x)
 |_=>none
def NQ:W->Option El
 |.tup ws=>ws.mapM keyOf
 |_=>none
def Vh{w:W}{v:V}{k:Key}(e:keyOf w=some k)(a:AW K φ H w v):v=Cm k:=by cases w<;>simp only[keyOf]at e<;>first|(cases e;done)|(cases e;simp only[AW]at a;exact a)
theorem dC{α:Type}{f:W->Option α}{P:α->V->Prop}(hf:∀{w v k},f w=some k->AW K φ H w v->P k v):∀{ws:List W}{xs:List V}{AI:List α},ws.mapM f=some AI->Ai K φ H ws xs->Paired P AI xs
 |[],_,_,e,a=>by simp at e;subst e;simp only[Ai]at a;subst a;exact .nil
 |w::ws,_,_,e,a=>by
  simp only[Ai]at a;obtain⟨v,r,rfl,a1,a2⟩:=a;rw[XD]at e;cases A9:f w with
  |none=>rw[A9]at e;cases e
  |some k=>
   rw[A9]at e;cases AF:ws.mapM f with
   |none=>rw[AF]at e;cases e
   |some AI=>rw[AF]at e;cases e;exact .cons (hf A9 a1) (dC hf AF a2)
theorem lN:∀{AI:List Key}{xs:List V},Paired (λk v=>v=Cm k) AI xs->xs=AI.map Cm
 |_,_,.nil=>rfl
 |_,_,.cons e t=>by rw[e,lN t];rfl
def dK{w:W}{v:V}{k:El}(e:NQ w=some k)(a:AW K φ H w v):∃b,v=.ref b/\OO H k b:=by
 unfold NQ at e
 split at e
 .simp only[AW]at a;obtain⟨b,xs,rfl,A2,BR⟩:=a;exact⟨b,rfl,by rw[OO,A2,lN (dC Vh e BR)]⟩
 .cases e
section
variable{Bj:Type}[DecidableEq Bj]
def DW:List Bj->List W->Bj->Option W
 |k'::AI,w::ws,k=>if k'=k then some w else DW AI ws k
 |_,_,_=>none
def NU:List Bj->List W->Bj->W->List W
 |k'::AI,w::ws,k,u=>(if k'=k then u else w)::NU AI ws k u
 |_,_,_,_=>[]
def ND:List Bj->List W->Bj->List W
 |k'::AI,w::ws,k=>if k'=k then ND AI ws k else w::ND AI ws k
 |_,_,_=>[]
def Ur(K:Aq)(φ:List A4)(H:AC):Option W->Option V->Prop
 |some w,some v=>AW K φ H w v
 |none,none=>True
 |_,_=>False
theorem Rj(k:Bj):∀{A8:List (Bj×V)}{ws:List W},Ai K φ H ws (A8.map (·.2))->Ur K φ H (DW (A8.map (·.1)) ws k) (HQ A8 k)
 |[],ws,a=>by
  have:=a.length;cases ws with
  |nil=>simp[DW,adV,Ur]
  |cons _ _=>simp at this
 |(k',v)::A8,ws,a=>by
  cases ws with
  |nil=>have:=a.length;simp at this
  |cons w ws=>
   simp only[D3,Ai]at a;obtain⟨Ix,r,e,a1,a2⟩:=a;cases e;simp only[D3,DW];by_cases AO:k'=k
   .rw[if_pos AO,W0 AO];exact a1
   .rw[if_neg AO,Vz AO];exact Rj k a2
theorem m_{k:Bj}{u:W}{x:V}(b:AW K φ H u x):∀{A8:List (Bj×V)}{ws:List W},Ai K φ H ws (A8.map (·.2))->Ai K φ H (NU (A8.map (·.1)) ws k u) ((A8.map λBv=>if Bv.1=k then(Bv.1,x)else Bv).map (·.2))
 |[],ws,a=>by
  cases ws with
  |nil=>exact .nil
  |cons _ _=>have:=a.length;simp at this
 |(k',v)::A8,ws,a=>by
  cases ws with
  |nil=>have:=a.length;simp at this
  |cons w ws=>
   simp only[D3,Ai]at a;obtain⟨Ix,r,e,a1,a2⟩:=a;cases e;simp only[D3,NU];refine .cons ?_ (m_ b a2);by_cases AO:k'=k
   .rw[if_pos AO,if_pos AO];exact b
   .rw[if_neg AO,if_neg AO];exact a1
theorem gh{k:Bj}:∀{A8:List (Bj×V)}{ws:List W},Ai K φ H ws (A8.map (·.2))->Ai K φ H (ND (A8.map (·.1)) ws k) ((MR A8 k).map (·.2))
 |[],ws,a=>by
  cases ws with
  |nil=>exact .nil
  |cons _ _=>have:=a.length;simp at this
 |(k',v)::A8,ws,a=>by
  cases ws with
  |nil=>have:=a.length;simp at this
  |cons w ws=>
   simp only[D3,Ai]at a;obtain⟨Ix,r,e,a1,a2⟩:=a;cases e;have C9:=gh (k:=k) a2;unfold MR at C9 |-;simp only[D3,ND];by_cases AO:k'=k
   .rw[if_pos AO,List.filter_cons_of_neg (by simp[AO])];exact C9
   .rw[if_neg AO,List.filter_cons_of_pos (by simp[AO])];exact .cons a1 C9
def sR(A8:List (Bj×V))(k:Bj):(MR A8 k).map (·.1)=(A8.map (·.1)).filter λx=>decide (x≠k):=by unfold MR;rw[List.filter_map];rfl
def MY(AI:List Bj)(ws:List W)(k:Bj)(w:W):List Bj×List W:=if k∈AI then(AI,NU AI ws k w)else(AI++[k],ws++[w])
def rT(A8:List (Bj×V))(k:Bj):(A8.any λBv=>decide (Bv.1=k))=decide (k∈A8.map (·.1)):=by rw[Ww];simp only[List.any_eq_true,decide_eq_true_eq,Tw]
def l0{k:Bj}{u:W}{x:V}{A8:List (Bj×V)}{ws:List W}(b:AW K φ H u x)(a:Ai K φ H ws (A8.map (·.2))):(putK A8 k x).map (·.1)=(MY (A8.map (·.1)) ws k u).1/\Ai K φ H (MY (A8.map (·.1)) ws k u).2 ((putK A8 k x).map (·.2)):=by
 unfold putK MY;rw[rT];by_cases AO:k∈A8.map (·.1)
 .rw[if_pos (decide_eq_true AO),if_pos AO];refine⟨?_,m_ b a⟩;rw[List.map_map];apply Wd;intro Bv _;simp only[QQ]
  split<;>rfl
 .rw[if_neg (by simp only[decide_eq_true_eq];exact AO),if_neg AO];exact⟨by simp,by rw[IZ];exact a.append (.cons b .nil)⟩
end
noncomputable def Gz(h:A5)(d k:W):Option (Option W):=match d with
 |.ref n=>match h[n]? with
  |some ⟨.Aj AI,ws⟩=>(keyOf k).map (DW AI ws)
  |some ⟨.Gm AI,ws⟩=>(keyOf k).map (DW AI ws)
  |some ⟨.Ds AI,ws⟩=>(NQ k).map (DW AI ws)
  |_=>none
 |_=>none
def Y5(d:D1 K φ h H){JB kw:W}{x y:V}{o:Option W}(e:Gz h JB kw=some o)(EF:AW K φ H JB x)(GY:AW K φ H kw y):∃a CO,x=.ref a/\J6 H a y CO/\Ur K φ H o CO:=by
 unfold Gz at e
 split at e
 .split at e
  .rename_i AI ws As;obtain⟨a,xs,rfl,_,⟨A8,AE,rfl,rfl⟩,BR⟩:=d.at As EF;cases DG:keyOf kw with
   |none=>rw[DG]at e;cases e
   |some k=>rw[DG]at e;cases e;rw[Vh DG GY];exact⟨a,_,rfl,J6.k AE,Rj k BR⟩
  .rename_i AI ws As;obtain⟨a,xs,rfl,_,⟨o,A8,AE,rfl,rfl⟩,BR⟩:=d.at As EF;cases DG:keyOf kw with
   |none=>rw[DG]at e;cases e
   |some k=>rw[DG]at e;cases e;rw[Vh DG GY];exact⟨a,_,rfl,.inl ⟨A8,k,.inr ⟨o,AE⟩,rfl,rfl⟩,Rj k BR⟩
  .rename_i AI ws As;obtain⟨a,xs,rfl,_,⟨A8,AE,rfl,rfl⟩,BR⟩:=d.at As EF;cases DG:NQ kw with
   |none=>rw[DG]at e;cases e
   |some k=>rw[DG]at e;cases e;obtain⟨b,rfl,tb⟩:=dK DG GY;exact⟨a,_,rfl,J6.t AE tb,Rj k BR⟩
  .cases e
 .cases e
def aV:Io:=λd k h=>match Gz h d k with
 |some (some w)=>.ok (w,h)
 |_=>.bad
def wo{d k:B3}:FQ (C3 F (A0 aV d k)) (oZ (C3 F d) (C3 F k)):=λσ H Q q=>
 q.bd λJB x φ ρ h H1 r EF q=>⟨φ,ρ,h,r,q.bd λkw y CF h2 AS BD x2 GY q=>by
   unfold aV at q
   split at q
   .rename_i w e;obtain⟨a,CO,rfl,g,F3⟩:=Y5 BD.hd e (EF.ex x2) GY;cases CO with
    |none=>cases F3
    |some v=>exact⟨a,v,rfl,g,q v CF AS BD (Af.refl _ _) F3⟩
   .exact q.elim⟩
def agx(b:Bool):Io:=λk d h=>match Gz h d k with
 |some o=>.ok (.AL (if b then o.isSome else !o.isSome),h)
 |none=>.bad
def Ur.is{o:Option W}{CO:Option V}(r:Ur K φ H o CO):o.isSome=CO.isSome:=by cases o<;>cases CO<;>first|rfl|cases r
noncomputable def MQ(d k v:W):Am:=λρ h=>match d with
 |.ref n=>match h[n]? with
  |some ⟨.Aj AI,ws⟩=>match keyOf k with
   |some k=>if ws.length<B0 then .ok (.AR ρ,h.set n ⟨.Aj (MY AI ws k v).1,(MY AI ws k v).2⟩)else .bad
   |none=>.bad
  |some ⟨.Ds AI,ws⟩=>match NQ k with
   |some k=>if ws.length<B0 then .ok (.AR ρ,h.set n ⟨.Ds (MY AI ws k v).1,(MY AI ws k v).2⟩)else .bad
   |none=>.bad
  |_=>.bad
 |_=>.bad
def JK(d k v:B3):Am:=bd v λOe=>bd d λJB=>bd k λkw=>MQ JB kw Oe
def wq{d k v:B3}:K2 (G0 F (JK d k v)) (me (C3 F d) (C3 F k) (C3 F v)):=λDe σ H q=>
 q.bd λOe z φ ρ h H1 r NN q=>⟨φ,ρ,h,r,E2.bd q λJB x Bt h1 AS Ar x1 EF q=>⟨Bt,ρ,h1,Ar,E2.bd q λkw y CF h2 Bx BD x2 GY q=>by
   have NN:=NN.ex (x1.trans x2);have EF:=EF.ex x2;unfold MQ at q
   split at q
   .split at q
    .rename_i AI ws As;obtain⟨a,xs,rfl,BY,⟨A8,AE,rfl,rfl⟩,BR⟩:=BD.hd.at As EF
     split at q
     .rename_i k DG
      split at q
      .rename_i AG;rw[BR.length,CS]at AG;obtain⟨A9,AF⟩:=l0 (k:=k) NN BR;have x3:Af CF Bx CF (upd Bx a (.Aj (putK A8 k z))):=Af.put AE λz=>z;rw[Vh DG GY];exact⟨a,_,rfl,PR.k AE (G3 AG (by decide)),q σ CF _ (BD.to (BD.hd.put As BY AE (λz=>z) (o':=⟨.Aj _,_⟩) ⟨_,E4,A9,rfl⟩ AF) x3) x3⟩
      .exact q.elim
     .exact q.elim
    .rename_i AI ws As;obtain⟨a,xs,rfl,BY,⟨A8,AE,rfl,rfl⟩,BR⟩:=BD.hd.at As EF
     split at q
     .rename_i k DG
      split at q
      .rename_i AG;rw[BR.length,CS]at AG;obtain⟨A9,AF⟩:=l0 (k:=k) NN BR;have x3:Af CF Bx CF (upd Bx a (.Ds (putK A8 k z))):=Af.put AE λz=>z;obtain⟨b,rfl,tb⟩:=dK DG GY;exact⟨a,_,rfl,PR.t AE tb (G3 AG (by decide)),q σ CF _ (BD.to (BD.hd.put As BY AE (λz=>z) (o':=⟨.Ds _,_⟩) ⟨_,E4,A9,rfl⟩ AF) x3) x3⟩
      .exact q.elim
     .exact q.elim
    .exact q.elim
   .exact q.elim⟩⟩
def Oo(h:A5):W->Bool
 |.ref n=>match h[n]? with
  |some ⟨.Aj _,_⟩=>true
  |some ⟨.Ds _,_⟩=>true
  |_=>false
 |_=>false
def j1(d:D1 K φ h H){w:W}{x:V}(a:AW K φ H w x)(e:Oo h w=true):∃p,x=.ref p/\XZ H p:=by
 unfold Oo at e
 split at e
 .split at e
  .rename_i As;obtain⟨p,xs,rfl,_,⟨A8,AT,_⟩,_⟩:=d.at As a;exact⟨p,rfl,.inl ⟨A8,.inl AT⟩⟩
  .rename_i As;obtain⟨p,xs,rfl,_,⟨A8,AT,_⟩,_⟩:=d.at As a;exact⟨p,rfl,.inr ⟨A8,.inl AT⟩⟩
  .cases e
 .cases e
def Q8{α:Type}(w:W)(m:M α):M α:=λρ h=>if Oo h w=true then m ρ h else .bad
def Vt(d k:B3):B3:=bd d λJB=>Q8 JB (bd k λkw _ h=>match Gz h JB kw with
 |some o=>.ok (o.getD .non,h)
 |none=>.bad)
def wm{d k:B3}:FQ (C3 F (Vt d k)) (o_ (C3 F d) (C3 F k)):=λσ H Q q=>
 q.bd λJB x φ ρ h H1 r EF q=>by
   unfold Q8 at q
   split at q
   .rename_i e;obtain⟨p,rfl,AT⟩:=j1 r.hd EF e;refine⟨p,rfl,AT,φ,ρ,h,r,q.bd λkw y CF h2 AS BD x2 GY q=>?_⟩
    split at q
    .rename_i o GH;obtain⟨a,CO,BY,g,F3⟩:=Y5 BD.hd GH (EF.ex x2) GY;cases BY;refine⟨CO,g,q _ CF AS BD (Af.refl _ _) ?_⟩;cases o<;>cases CO<;>first|exact d2|exact F3|cases F3
    .exact q.elim
   .exact q.elim
noncomputable def UP(JB kw:W):B3:=λ_ h=>match JB with
 |.ref n=>match h[n]? with
  |some ⟨.Aj AI,ws⟩=>match keyOf kw with
   |some k=>match DW AI ws k with
    |some w=>.ok (w,h.set n ⟨.Aj (AI.filter λx=>decide (x≠k)),ND AI ws k⟩)
    |none=>.bad
   |none=>.bad
  |_=>.bad
 |_=>.bad
def R6(d k:B3):B3:=bd d λJB=>Q8 JB (bd k λkw=>UP JB kw)
def wp{d k:B3}:FQ (C3 F (R6 d k)) (ob (C3 F d) (C3 F k)):=λσ H Q q=>
 q.bd λJB x φ ρ h H1 r EF q=>by
   unfold Q8 at q
   split at q
   .rename_i e;obtain⟨p,rfl,AT⟩:=j1 r.hd EF e;refine⟨p,rfl,AT,φ,ρ,h,r,q.bd λkw y CF h2 AS BD x2 GY q=>?_⟩;unfold UP at q
    split at q
    .split at q
     .rename_i AI ws As;obtain⟨a,xs,BY,u7,⟨A8,AE,rfl,rfl⟩,BR⟩:=BD.hd.at As (EF.ex x2);cases BY
      split at q
      .rename_i k DG
       split at q
       .rename_i w Cp;have F3:=Rj k BR;rw[Cp]at F3;cases ev:HQ A8 k with
        |none=>rw[ev]at F3;cases F3
        |some v=>rw[ev]at F3;have x3:Af CF AS CF (upd AS p (.Aj (MR A8 k))):=Af.put AE λz=>z;exact⟨A8,k,v,AE,Vh DG GY,ev,q v CF _ (BD.to (BD.hd.put As u7 AE (λz=>z) (o':=⟨.Aj _,_⟩) ⟨_,E4,sR A8 k,rfl⟩ (gh BR)) x3) x3 (AW.ex x3 F3)⟩
       .exact q.elim
      .exact q.elim
     .exact q.elim
    .exact q.elim
   .exact q.elim
def KN(t:Bool):B3:=λ_ h=>nw (if t then .Ds []else .Aj []) [] h
def wk:FQ (C3 F (KN false)) dn:=λσ H Q⟨φ,ρ,h,r,q⟩ p AT=>OS r q AT ⟨[],E4,rfl,rfl⟩ .nil
def wl:FQ (C3 F (KN true)) oa:=λσ H Q⟨φ,ρ,h,r,q⟩ p AT=>OS r q AT ⟨[],E4,rfl,rfl⟩ .nil
end
abbrev Gk:=Nat->A5->Option (Option W)
noncomputable def IS(K:Aq)(D7:List A4)(Bu:AC)(it:Gk)(BK:It):Prop:=∀i φ h H,D1 K φ h H->Af D7 Bu φ H->(it i h=some none->BK.stop i H)/\∀w,it i h=some (some w)->BK.go i H/\∀x A7,BK.W8 i H x A7->D1 K φ h A7/\Af φ H φ A7/\AW K φ A7 w x
abbrev Fv:=M Gk
abbrev dp(F:Cx)(m:Fv):TI:=LI IS F m
noncomputable def Mm(it:Gk)(g:D9)(b:Am):Nat->Nat->Am
 |0,_=>λ_ _=>.bad
 |f+1,i=>λρ h=>match it i h with
  |some none=>.ok (.AR ρ,h)
  |some (some w)=>(g w ρ h).bind λp=>match p with
   |(.AR CI,h1)=>(b CI h1).bind λp=>match p with
    |(.AR Dd,h2)=>Mm it g b f (i+1) Dd h2
    |(.DA Dd,h2)=>Mm it g b f (i+1) Dd h2
    |(.BU Dd,h2)=>.ok (.AR Dd,h2)
    |(.EA w,h2)=>.ok (.EA w,h2)
   |_=>.bad
  |none=>.bad
def Km:Nat:=1000
def Pb(mi:Fv)(g:D9)(b:Am):Am:=bd mi λit=>Mm it g b Km 0
section
variable{F:Cx}{K:Aq}{φ:List A4}{h:A5}{H:AC}{σ :St}{ρ:B9}{X:Ao}
def for_in{it:Gk}{BK:It}{g:D9}{b:Am}{De:Ends}{Bt:List A4}{CI:B9}{h1:A5}{H1:AC}(Ar:Rel F Bt h1 H1 σ CI)(io:IS F.K Bt H1 it BK)(q:E2 F Bt H1 De (Mm it g b Km 0 CI h1)):Zh (λ_ H R=>R BK H) (Lx F g) (G0 F b) De σ H1:=by
 refine⟨λi m σ H=>∃φ ρ h,Rel F φ h H σ ρ/\Af Bt H1 φ H/\E2 F φ H De (Mm it g b m i ρ h),⟨Km,Bt,CI,h1,Ar,Af.refl _ _,q⟩,?_⟩;rintro i m σ H ⟨φ,ρ,h,r,x,q⟩;cases m with
 |zero=>cases q
 |succ m=>
  unfold Mm at q;obtain⟨BB,Bm⟩:=io i φ h H r.hd x
  split at q
  .rename_i e;exact .inl ⟨BB e,q σ φ H r (Af.refl _ _)⟩
  .rename_i w e;obtain⟨go,db⟩:=Bm w e;refine .inr ⟨go,λσ' A7=>∃φ ρ h,Rel F φ h A7 σ' ρ/\Af Bt H1 φ A7/\E2 F φ A7 De (Mm it g b m (i+1) ρ h),λσ' A7 n=>⟨m,QE _,n⟩,λy A7 AP=>?_⟩;obtain⟨d',Fh,fb⟩:=db y A7 AP;refine⟨φ,ρ,h,w,r.to d' Fh,fb,?_⟩;have q:=E2.ex Fh q;cases eg:g w ρ h with
   |bad=>rw[eg]at q;cases q
   |exc c h'=>rw[eg]at q;exact q
   |ok p=>
    rw[eg]at q;obtain⟨f,h2⟩:=p;cases f with
    |AR Dd=>
     intro σ2 CF AS BD x2;refine⟨CF,Dd,h2,BD,?_⟩;have q:=E2.ex x2 q;have Rk:=x.trans (Fh.trans x2);simp only[R.bind]at q;cases BF:b Dd h2 with
     |bad=>rw[BF]at q;cases q
     |exc c h'=>rw[BF]at q;exact q
     |ok p=>
      rw[BF]at q;obtain⟨f,BH⟩:=p;cases f with
      |AR Oi=>exact λσ3 Jx Bx FY x3=>⟨Jx,Oi,BH,FY,Rk.trans x3,E2.ex x3 q⟩
      |DA Oi=>exact λσ3 Jx Bx FY x3=>⟨Jx,Oi,BH,FY,Rk.trans x3,E2.ex x3 q⟩
      |BU Oi=>exact q
      |EA w=>exact q
    |_=>cases q
  .exact q.elim
def ww{mi:Fv}{g:D9}{b:Am}:K2 (G0 F (Pb mi g b)) (Zh (dp F mi) (Lx F g) (G0 F b)):=λDe σ H q=>
 q.bd λit BK Bt CI h1 H1 Ar io q=>for_in Ar io q
noncomputable def Pv(c:DF)(b:Am):Nat->Am
 |0=>λ_ _=>.bad
 |f+1=>bd c λk=>if k=true then λρ h=>(b ρ h).bind λp=>match p with
   |(.AR Dd,h2)=>Pv c b f Dd h2
   |(.DA Dd,h2)=>Pv c b f Dd h2
   |(.BU Dd,h2)=>.ok (.AR Dd,h2)
   |(.EA w,h2)=>.ok (.EA w,h2)
  else Bd
def S7(c:DF)(b:Am):Am:=Pv c b Km
def y8{c:DF}{b:Am}:K2 (G0 F (S7 c b)) (pi (HO F c) (G0 F b)):=by
 rintro De σ H ⟨φ,ρ,h,r,q⟩;refine⟨λm σ H=>∃φ ρ h,Rel F φ h H σ ρ/\E2 F φ H De (Pv c b m ρ h),⟨Km,φ,ρ,h,r,q⟩,?_⟩;rintro m σ H ⟨φ,ρ,h,r,q⟩;cases m with
 |zero=>cases q
 |succ m=>
  unfold Pv at q;refine⟨φ,ρ,h,r,E2.bd q λk k' Bt h1 H1 Ar x1 e q=>?_⟩;cases e;cases k with
  |false=>exact q σ Bt H1 Ar (Af.refl _ _)
  |true=>
   refine⟨λσ' A7=>∃φ ρ h,Rel F φ h A7 σ' ρ/\E2 F φ A7 De (Pv c b m ρ h),λσ' A7 n=>⟨m,QE _,n⟩,Bt,ρ,h1,Ar,?_⟩;rw[if_pos rfl]at q;cases BF:b ρ h1 with
   |bad=>rw[BF]at q;cases q
   |exc c h'=>rw[BF]at q;exact q
   |ok p=>
    rw[BF]at q;obtain⟨f,BH⟩:=p;cases f with
    |AR Oi=>exact λσ3 Jx Bx FY x3=>⟨Jx,Oi,BH,FY,E2.ex x3 q⟩
    |DA Oi=>exact λσ3 Jx Bx FY x3=>⟨Jx,Oi,BH,FY,E2.ex x3 q⟩
    |BU Oi=>exact q
    |EA w=>exact q
def T9:List D9->List W->Am
 |[],[]=>Bd
 |g::Ey,w::ws=>AQ (g w) (T9 Ey ws)
 |_,_=>λ_ _=>.bad
def Fs(Ey:List D9):D9:=λw ρ h=>match EC h w with
 |some (true,ws)=>if Ey.length=ws.length then T9 Ey ws ρ h else .bad
 |_=>.bad
def WT(F:Cx)(Ey:List D9):ON:=λvs σ H Q=>∃φ ρ h ws,Rel F φ h H σ ρ/\Ai F.K φ H ws vs/\E2 F φ H ⟨Q,λ_ _=>False,λ_ _=>False,λ_ _=>False⟩ (T9 Ey ws ρ h)
def jd:∀vs σ H Q,WT F [] vs σ H Q->i3 vs σ H Q:=by
 rintro vs σ H Q ⟨φ,ρ,h,ws,r,as,q⟩;cases ws with
 |nil=>simp only[Ai]at as;exact⟨as,q σ φ H r (Af.refl _ _)⟩
 |cons _ _=>cases q
def bb{g:D9}{Ey:List D9}:∀vs σ H Q,WT F (g::Ey) vs σ H Q->i2 (Lx F g) (WT F Ey) vs σ H Q:=by
 rintro vs σ H Q ⟨φ,ρ,h,ws,r,as,q⟩;cases ws with
 |nil=>cases q
 |cons w ws=>
  simp only[Ai]at as;obtain⟨v,pE,rfl,a1,a2⟩:=as;refine⟨v,pE,rfl,φ,ρ,h,w,r,a1,?_⟩;unfold T9 AQ at q;cases e:g w ρ h with
  |bad=>rw[e]at q;cases q
  |exc c h'=>rw[e]at q;exact q
  |ok p=>
   rw[e]at q;obtain⟨f,h1⟩:=p;cases f with
   |AR EH=>exact λσ' BE A7 BW x=>⟨BE,EH,h1,ws,BW,a2.ex x,E2.ex x q⟩
   |_=>exact q
def je(AZ:F.K=X.K){Ey:List D9}{n:Nat}(AV:Ey.length=n):XY (Lx F (Fs Ey)) (i5 X.K n (WT F Ey)):=by
 rintro v σ H Q ⟨φ,ρ,h,w,r,a,q⟩;unfold Fs at q
 split at q
 .rename_i ws e;obtain⟨p,xs,rfl,AN,BR⟩:=Ij r.hd a e;rw[AZ]at AN
  split at q
  .rename_i AG;exact⟨p,xs,rfl,AN,by rw[<-BR.length,<-AG];exact AV,φ,ρ,h,ws,r,BR,q⟩
  .exact q.elim
 .exact q.elim
def GA(w:W):Gk:=λi h=>match EC h w with
 |some (_,ws)=>some ws[i]?
 |none=>none
def zz(AZ:F.K=X.K){w:W}{v:V}{p:A4}(a:AW F.K φ H w v)(e:v=.ref p)(AN:∀CF h2 AS,D1 F.K CF h2 AS->Af φ H CF AS->∀t ws,EC h2 w=some (t,ws)->t=false):IS F.K φ H (GA w) (fx X.K p):=λi CF h2 AS d x=>by
 unfold GA;cases es:EC h2 w with
 |none=>exact⟨λz=>(nomatch z),λw z=>(nomatch z)⟩
 |some Od=>
  obtain⟨t,ws⟩:=Od;have Bi:=AN CF h2 AS d x t ws es;subst Bi;obtain⟨FF,xs,BX,AX,BR⟩:=Ij d (a.ex x) es;rw[e]at BX;cases BX;have AX:E_ F.K AS p xs:=AX;rw[AZ]at AX;refine⟨λz=>⟨xs,AX,?_⟩,λCR z=>?_⟩
  .have:ws[i]?=none:=GU z;rw[<-BR.length];exact List.getElem?_eq_none_iff.mp this
  .have:ws[i]?=some CR:=GU z;obtain⟨v,ev,EL⟩:=BR.get this;exact⟨⟨xs,v,AX,ev⟩,λy A7 AP=>by obtain⟨rfl,AP⟩:=AP;have:=AP xs AX;rw[ev]at this;cases this;exact⟨d,Af.refl _ _,EL⟩⟩
def dB(AZ:F.K=X.K){w:W}{v:V}{p:A4}(a:AW F.K φ H w v)(e:v=.ref p)(AN:∀h2 t ws,EC h2 w=some (t,ws)->t=true):IS F.K φ H (GA w) (fz X.K p):=λi CF h2 AS d x=>by
 unfold GA;cases es:EC h2 w with
 |none=>exact⟨λz=>(nomatch z),λw z=>(nomatch z)⟩
 |some Od=>
  obtain⟨t,ws⟩:=Od;have Bi:=AN h2 t ws es;subst Bi;obtain⟨FF,xs,BX,AX,BR⟩:=Ij d (a.ex x) es;rw[e]at BX;cases BX;have AX:Ea F.K AS p xs:=AX;rw[AZ]at AX;refine⟨λz=>⟨xs,AX,?_⟩,λCR z=>?_⟩
  .have:ws[i]?=none:=GU z;rw[<-BR.length];exact List.getElem?_eq_none_iff.mp this
  .have:ws[i]?=some CR:=GU z;obtain⟨v,ev,EL⟩:=BR.get this;exact⟨⟨xs,v,AX,ev⟩,λy A7 AP=>by obtain⟨rfl,AP⟩:=AP;have:=AP xs AX;rw[ev]at this;cases this;exact⟨d,Af.refl _ _,EL⟩⟩
def Vd:W->Bool
 |.ref _=>true
 |.DV _=>true
 |_=>false
def ZX{w:W}{t:Bool}{ws:List W}(e:EC h w=some (t,ws)):(t=false↔Vd w=true):=by
 unfold EC at e
 split at e
 .cases e;simp[Vd]
 .cases e;simp[Vd]
 .cases e;simp[Vd]
 .split at e<;>first|(cases e;simp[Vd];done)|(cases e;done)
 .cases e
def LH(lo:Int)(n:Nat):Gk:=λi _=>some (if i<n then some (.int (lo+i))else none)
def mX(lo:Int)(n:Nat):IS K φ H (LH lo n) (UC lo n):=λi CF h2 AS d x=>by
 unfold LH;by_cases AB:i<n
 .rw[if_pos AB];exact⟨λz=>(nomatch z),λw z=>by cases z;exact⟨AB,λy A7 AP=>by obtain⟨rfl,rfl⟩:=AP;exact⟨d,Af.refl _ _,by simp only[AW]⟩⟩⟩
 .rw[if_neg AB];exact⟨λ_=>(show n<=i by lia),λw z=>(nomatch z)⟩
def PJ(nl:Nat)(caps:List Nat)(ρ:B9):B9:=Fu nl none++caps.map λj=>ρ.getD j none
noncomputable def KA(it:Gk)(g:D9)(Gh:DF)(elt:B3)(n:Nat):Nat->Nat->B9->A5->R A5
 |0,_,_,_=>.bad
 |f+1,i,ρ,h=>match it i h with
  |some none=>.ok h
  |some (some w)=>(g w ρ h).bind λp=>match p with
   |(.AR CI,h1)=>(Gh CI h1).bind λp=>if p.1=true then(elt CI p.2).bind λp=>match p.2[n]? with
      |some ⟨.lst,ws⟩=>if ws.length<B0 then KA it g Gh elt n f (i+1) CI (p.2.set n ⟨.lst,ws++[p.1]⟩)else .bad
      |_=>.bad
    else KA it g Gh elt n f (i+1) CI p.2
   |_=>.bad
  |none=>.bad
def Dw(nl:Nat)(caps:List Nat)(mi:Fv)(g:D9)(Gh:DF)(elt:B3):B3:=bd mi λit ρ h=>match KA it g Gh elt h.length Km 0 (PJ nl caps ρ) (h++[⟨.lst,[]⟩])with
 |.ok h'=>.ok (.ref h.length,h')
 |_=>.bad
def IM(K:Aq)(φ:List A4)(H:AC):Cx:=⟨K,φ,H,λ_ _=>False⟩
abbrev Cx.AR(F:Cx):Cx:=IM F.K F.D7 F.Bu
theorem Rel.AR(r:Rel F φ h H σ ρ):Rel F.AR φ h H σ ρ:=⟨r.hd,r.x0,r.len,r.Bn⟩
def Rel.rF(r:Rel F φ h H σ ρ)(nl:Nat)(caps:List Nat):Rel F.AR φ h H (N9 nl caps σ) (PJ nl caps ρ):=by
 refine⟨r.hd,r.x0,by simp[N9,PJ],λi w e=>?_⟩;unfold PJ at e;unfold N9;by_cases AB:i<nl
 .rw[Gs (by simpa using AB),Wn,if_pos AB]at e;cases e
 .rw[N1 (by simpa using AB),Td,Ed]at e;rw[N1 (by simpa using AB),Td,Ed];cases Hj:caps[i-nl]? with
  |none=>rw[Hj]at e;cases e
  |some j=>
   rw[Hj]at e;have es:ρ.getD j none=some w:=GU e;rw[EW]at es;cases B5:ρ[j]? with
   |none=>rw[B5]at es;cases es
   |some t=>rw[B5]at es;have:t=some w:=es;subst this;obtain⟨v,A9,q⟩:=r.Bn j w B5;exact⟨v,by show some (σ.getD j none)=_;rw[EW,A9];rfl,q⟩
def h4{nl:Nat}{caps:List Nat}{it:Gk}{BK:It}{g:D9}{Gh:DF}{elt:B3}{Q:CK}{Bt:List A4}{CI:B9}{h1:A5}{H1:AC}(Ar:Rel F Bt h1 H1 σ CI)(io:IS F.K Bt H1 it BK)(q:Cv AW F Bt H1 σ CI Q (Dw nl caps (pu it) g Gh elt CI h1)):WS (λ_ H R=>R BK H) (λx σ H Q=>∃D7 Bu,Lx (IM F.K D7 Bu) g x σ H Q) (λσ H Q=>∃D7 Bu,HO (IM F.K D7 Bu) Gh σ H Q) (λσ H Q=>∃D7 Bu,C3 (IM F.K D7 Bu) elt σ H Q) nl caps σ H1 Q:=by
 intro acc AE;unfold Dw bd pu at q;simp only[R.bind]at q
 split at q
 .rename_i h' B5;have x0:Af Bt H1 (Bt++[acc]) (upd H1 acc (.lst [])):=Af.QB AE
  refine⟨λi m σ2 AS=>∃φ ρ h,Rel F.AR φ h AS σ2 ρ/\Af (Bt++[acc]) (upd H1 acc (.lst [])) φ AS/\KA it g Gh elt h1.length m i ρ h=.ok h',
   ⟨Km,Bt++[acc],_,_,(Ar.to (Ar.hd.new AE (ho:=.lst []) (k:=.lst) E4 .nil) x0).rF nl caps,Af.refl _ _,B5⟩,?_⟩
  rintro i m σ2 AS ⟨φ,ρ,h,r,x,B5⟩;have u8:φ[h1.length]?=some acc:=FM x.p (Vn Ar.hd);cases m with
  |zero=>cases B5
  |succ m=>
   unfold KA at B5;obtain⟨BB,Bm⟩:=io i φ h AS r.hd (x0.trans x)
   split at B5
   .rename_i e;cases B5;exact .inl ⟨BB e,q _ φ AS ⟨r.hd,Ar.x0.trans (x0.trans x),Ar.len,λj w e=>let⟨v,A9,a⟩:=Ar.Bn j w e;⟨v,A9,a.ex (x0.trans x)⟩⟩ (x0.trans x) (.GE u8)⟩
   .rename_i w e;obtain⟨go,db⟩:=Bm w e;refine .inr ⟨go,λy A7 AP=>?_⟩;obtain⟨d',Fh,fb⟩:=db y A7 AP;refine⟨F.D7,F.Bu,φ,ρ,h,w,r.to d' Fh,fb,?_⟩;cases eg:g w ρ h with
    |bad=>rw[eg]at B5;cases B5
    |exc c h'=>rw[eg]at B5;cases B5
    |ok p=>
     rw[eg]at B5;obtain⟨f,h2⟩:=p;cases f with
     |AR Dd=>
      intro σ3 Jx Bx FY x3;refine⟨F.D7,F.Bu,Jx,Dd,h2,FY,?_⟩;have pM:=x.trans (Fh.trans x3);have B5:((Gh Dd h2).bind λp=>if p.1=true then(elt Dd p.2).bind λp=>match p.2[h1.length]? with
        |some ⟨.lst,ws⟩=>if ws.length<B0 then KA it g Gh elt h1.length m (i+1) Dd (p.2.set h1.length ⟨.lst,ws++[p.1]⟩)else .bad
        |_=>.bad
       else KA it g Gh elt h1.length m (i+1) Dd p.2)=.ok h':=B5
      cases Ir:Gh Dd h2 with
      |bad=>rw[Ir]at B5;cases B5
      |exc c h'=>rw[Ir]at B5;cases B5
      |ok p=>
       rw[Ir]at B5;obtain⟨b,Cs⟩:=p;intro Hh aJ Cy NS x4 BF;cases BF;have B5:(if b=true then(elt Dd Cs).bind λp=>match p.2[h1.length]? with
         |some ⟨.lst,ws⟩=>if ws.length<B0 then KA it g Gh elt h1.length m (i+1) Dd (p.2.set h1.length ⟨.lst,ws++[p.1]⟩)else .bad
         |_=>.bad
        else KA it g Gh elt h1.length m (i+1) Dd Cs)=.ok h':=B5
       cases b with
       |false=>exact⟨m,QE _,aJ,Dd,Cs,NS,pM.trans x4,B5⟩
       |true=>
        rw[if_pos rfl]at B5;refine⟨F.D7,F.Bu,aJ,Dd,Cs,NS,?_⟩;cases MT:elt Dd Cs with
        |bad=>rw[MT]at B5;cases B5
        |exc c h'=>rw[MT]at B5;cases B5
        |ok p=>
         rw[MT]at B5;obtain⟨ZN,Ez⟩:=p;intro da aK Dq Qo af6 Lb;have B5:(match Ez[h1.length]? with
          |some ⟨.lst,ws⟩=>if ws.length<B0 then KA it g Gh elt h1.length m (i+1) Dd (Ez.set h1.length ⟨.lst,ws++[ZN]⟩)else .bad
          |_=>.bad)=.ok h':=B5
         split at B5
         .rename_i ws As
          split at B5
          .rename_i AG;have pN:=pM.trans (x4.trans af6);have O9:aK[h1.length]?=some acc:=FM pN.p (Vn Ar.hd);obtain⟨ys,AP,BR⟩:=Qo.hd.BJ _ _ _ As O9;have AP:Dq acc=some (.lst ys):=AP;have x6:Af aK Dq aK (upd Dq acc (.lst (ys++[da]))):=Af.put AP λz=>z;rw[BR.length]at AG;exact⟨ys,AP,G3 AG (by decide),m,QE _,aK,Dd,_,Qo.to (Qo.hd.put As O9 AP (λz=>z) (o':=⟨.lst,ws++[ZN]⟩) E4 (BR.append (.cons Lb .nil))) x6,pN.trans x6,B5⟩
          .cases B5
         .cases B5
     |_=>cases B5
   .cases B5
 .exact q.elim
def jc{nl:Nat}{caps:List Nat}{mi:Fv}{g:D9}{Gh:DF}{elt:B3}:FQ (C3 F (Dw nl caps mi g Gh elt)) (WS (dp F mi) (λx σ H Q=>∃D7 Bu,Lx (IM F.K D7 Bu) g x σ H Q) (λσ H Q=>∃D7 Bu,HO (IM F.K D7 Bu) Gh σ H Q) (λσ H Q=>∃D7 Bu,C3 (IM F.K D7 Bu) elt σ H Q) nl caps):=λσ H Q q=>
 q.bd λit BK Bt CI h1 H1 Ar io q=>h4 Ar io q
end
mutual
noncomputable def DL:W->Bool
 |.ref _=>false
 |.tup ws=>Fm ws
 |.I6 ws=>Fm ws
 |.DV ws=>Fm ws
 |_=>true
noncomputable def Fm:List W->Bool
 |[]=>true
 |w::ws=>DL w&&Fm ws
end
mutual
noncomputable def J9:W->W->Bool
 |.non,.non=>true
 |.AL a,.AL b=>a==b
 |.int a,.int b=>a==b
 |.str a,.str b=>a==b
 |.tup a,.tup b=>K8 a b
 |.I6 a,.I6 b=>K8 a b
 |.DV a,.DV b=>K8 a b
 |.ref a,.ref b=>a==b
 |.OA a,.OA b=>a==b
 |_,_=>false
noncomputable def K8:List W->List W->Bool
 |[],[]=>true
 |x::xs,y::ys=>J9 x y&&K8 xs ys
 |_,_=>false
end
mutual
theorem rh:∀{a b:W},J9 a b=true->a=b
 |.non,b,h=>by cases b<;>simp_all[J9]
 |.AL _,b,h=>by cases b<;>simp_all[J9]
 |.int _,b,h=>by cases b<;>simp_all[J9]
 |.str _,b,h=>by cases b<;>simp_all[J9]
 |.tup _,b,h=>by cases b<;>simp only[J9]at h<;>first|(cases h;done)|rw[Uw h]
 |.I6 _,b,h=>by cases b<;>simp only[J9]at h<;>first|(cases h;done)|rw[Uw h]
 |.DV _,b,h=>by cases b<;>simp only[J9]at h<;>first|(cases h;done)|rw[Uw h]
 |.ref _,b,h=>by cases b<;>simp_all[J9]
 |.OA _,b,h=>by cases b<;>simp_all[J9]
theorem Uw:∀{a b:List W},K8 a b=true->a=b
 |[],b,h=>by cases b<;>simp_all[K8]
 |x::xs,b,h=>by
  cases b with
  |nil=>simp[K8]at h
  |cons y ys=>simp only[K8,Hr]at h;rw[rh h.1,Uw h.2]
end
mutual
theorem ri:∀(a:W),J9 a a=true
 |.non|.AL _|.int _|.str _|.ref _|.OA _=>by simp[J9]
 |.tup a=>by simp only[J9];exact RP a
 |.I6 a=>by simp only[J9];exact RP a
 |.DV a=>by simp only[J9];exact RP a
theorem RP:∀(a:List W),K8 a a=true
 |[]=>by simp[K8]
 |x::xs=>by simp only[K8];rw[ri x,RP xs];rfl
end
def Fn:A5->A5->Bool
 |[],_=>true
 |o::h,o'::h'=>decide (o.k=o'.k)&&K8 o.ws o'.ws&&Fn h h'
 |_,_=>false
theorem cm:∀{h h':A5},Fn h h'=true->h<+: h'
 |[],_,_=>List.nil_prefix
 |o::h,[],e=>by simp[Fn]at e
 |⟨k,ws⟩::h,⟨k',ws'⟩::h',e=>by simp only[Fn,Hr,decide_eq_true_eq]at e;rw[e.1.1,Uw e.1.2];exact List.cons_prefix_cons.mpr ⟨rfl,cm e.2⟩
theorem WG:∀(h g:A5),Fn h (h++g)=true
 |[],_=>by simp[Fn]
 |o::h,g=>by simp only[HU,Fn];rw[RP,WG h g];simp
def abe(h:A5):Fn h h=true:=by simpa using WG h []
noncomputable def settle(h:A5)(w:W)(h1:A5):R (W×A5):=
 if Fn h h1=true then
  if DL w=true then .ok (w,h)else match w with
   |.ref n=>if h.length<=n then match h1[n]? with
       |some ⟨.lst,ws⟩=>if Fm ws=true then .ok (.ref h.length,h++[⟨.lst,ws⟩])else .ok (w,h1)
       |_=>.ok (w,h1)
    else .ok (w,h)
   |_=>.ok (w,h1)
 else .ok (w,h1)
section
variable{K:Aq}{φ Bt:List A4}{h h1:A5}{H H1:AC}
mutual
theorem AW.DL{BE:List A4}:∀{w:W}{v:V},C0.DL w=true->AW K φ H w v->AW K BE H w v
 |.non,_,_,a|.AL _,_,_,a|.int _,_,_,a|.str _,_,_,a|.OA _,_,_,a=>by simpa only[AW]using a
 |.tup _,_,n,a=>by simp only[AW,C0.DL]at a n |-;obtain⟨p,xs,e,q,r⟩:=a;exact⟨p,xs,e,q,Ai.DL n r⟩
 |.I6 _,_,n,a=>by simp only[AW,C0.DL]at a n |-;obtain⟨p,xs,e,q,r⟩:=a;exact⟨p,xs,e,q,Ai.DL n r⟩
 |.DV _,_,n,a=>by simp only[AW,C0.DL]at a n |-;obtain⟨p,xs,e,q,r⟩:=a;exact⟨p,xs,e,q,Ai.DL n r⟩
 |.ref _,_,n,_=>by simp[C0.DL]at n
theorem Ai.DL{BE:List A4}:∀{ws:List W}{vs:List V},Fm ws=true->Ai K φ H ws vs->Ai K BE H ws vs
 |[],_,_,a=>by simpa only[Ai]using a
 |_::_,_,n,a=>by simp only[Ai,Fm,Hr]at a n |-;obtain⟨v,r,e,q,t⟩:=a;exact⟨v,r,e,AW.DL n.1 q,Ai.DL n.2 t⟩
end
mutual
theorem AW.back(p:φ<+: Bt):∀{w:W}{v v0:V},AW K φ H w v0->AW K Bt H1 w v->AW K φ H1 w v
 |.non,_,_,_,a|.AL _,_,_,_,a|.int _,_,_,_,a|.str _,_,_,_,a|.OA _,_,_,_,a=>by simpa only[AW]using a
 |.tup _,_,_,b,a=>by simp only[AW]at a b |-;obtain⟨q,xs,e,t,r⟩:=a;obtain⟨CT,TF,BX,t',BW⟩:=b;exact⟨q,xs,e,t,Ai.back p BW r⟩
 |.I6 _,_,_,b,a=>by simp only[AW]at a b |-;obtain⟨q,xs,e,t,r⟩:=a;obtain⟨CT,TF,BX,t',BW⟩:=b;exact⟨q,xs,e,t,Ai.back p BW r⟩
 |.DV _,_,_,b,a=>by simp only[AW]at a b |-;obtain⟨q,xs,e,t,r⟩:=a;obtain⟨CT,TF,BX,t',BW⟩:=b;exact⟨q,xs,e,t,Ai.back p BW r⟩
 |.ref _,_,_,b,a=>by simp only[AW]at a b |-;obtain⟨q,e,t⟩:=a;obtain⟨CT,BX,t'⟩:=b;have:=FM p t';rw[t]at this;cases this;exact⟨q,e,t'⟩
theorem Ai.back(p:φ<+: Bt):∀{ws:List W}{vs v0:List V},Ai K φ H ws v0->Ai K Bt H1 ws vs->Ai K φ H1 ws vs
 |[],_,_,_,a=>by simpa only[Ai]using a
 |_::_,_,_,b,a=>by simp only[Ai]at a b |-;obtain⟨v,r,e,q,t⟩:=a;obtain⟨Ix,BW,BX,CT,t'⟩:=b;exact⟨v,r,e,AW.back p CT q,Ai.back p t' t⟩
end
def D1.cut(d:D1 K φ h H)(d1:D1 K Bt h1 H1)(p:φ<+: Bt)(ci:h<+: h1):D1 K φ h H1:=⟨d.C1,d.len,λn o a A9 AF=>by obtain⟨xs,q,r⟩:=d1.BJ n o a (FM ci A9) (FM p AF);obtain⟨ys,_,BW⟩:=d.BJ n o a A9 AF;exact⟨xs,q,Ai.back p BW r⟩⟩
def cX{w CR:W}{v:V}{h':A5}(d:D1 K φ h H)(x:Af φ H Bt H1)(d1:D1 K Bt h1 H1)(a:AW K Bt H1 w v)(e:settle h w h1=.ok (CR,h')):∃BE,Af φ H BE H1/\D1 K BE h' H1/\AW K BE H1 CR v:=by
 have same:(CR,h')=(w,h1)->∃BE,Af φ H BE H1/\D1 K BE h' H1/\AW K BE H1 CR v:=λz=>by cases z;exact⟨Bt,x,d1,a⟩
 have x0:Af φ H φ H1:=⟨U0,x.t⟩;unfold settle at e
 split at e
 .rename_i AT;have ci:=cm AT;have IL:=d.cut d1 x.p ci
  split at e
  .rename_i AV;cases e;exact⟨φ,x0,IL,AW.DL AV a⟩
  .split at e
   .rename_i n _
    split at e
    .rename_i AG
     split at e
     .rename_i ws As
      split at e
      .rename_i hw;cases e;obtain⟨b,xs,rfl,BF,q,r⟩:=d1.at As a;have nb:b∉φ:=λm=>by
        obtain⟨j,Hj⟩:=eG m;have A9:=FM x.p Hj;obtain⟨BB,Jk⟩:=List.getElem?_eq_some_iff.mp A9;obtain⟨Bm,KM⟩:=List.getElem?_eq_some_iff.mp BF;have:j=n:=(Wq d1.C1).mp (Jk.trans KM.symm);have:j<φ.length:=(List.getElem?_eq_some_iff.mp Hj).1;rw[d.len]at this;lia
       refine⟨φ++[b],⟨G4 _ _,x.t⟩,⟨?_,by simp[d.len],λm o c A9 AF=>?_⟩,.GE (by rw[<-d.len];simp)⟩
       .rw[ed];exact⟨d.C1,by simp,λc AH G6 Mp z=>nb (by rw[<-List.mem_singleton.mp Mp,<-z];exact AH)⟩
       .by_cases hm:m<h.length
        .rw[Gs hm]at A9;rw[Gs (by rw[d.len];exact hm)]at AF;obtain⟨ys,CT,BW⟩:=IL.BJ m o c A9 AF;exact⟨ys,CT,Ai.ex (⟨G4 _ _,λ_ _ e _=>e⟩:Af φ H1 (φ++[b]) H1) BW⟩
        .have cG:m=h.length:=by
           have:=(List.getElem?_eq_some_iff.mp A9).1;simp at this;lia
         subst cG;simp at A9;rw[<-d.len]at AF;simp at AF;subst A9 AF;exact⟨xs,q,Ai.DL hw r⟩
      .cases e;exact same rfl
     .cases e;exact same rfl
    .rename_i AG;cases e;have AV:n<φ.length:=by rw[d.len];lia
     simp only[AW]at a |-;obtain⟨b,rfl,BF⟩:=a;obtain⟨c,ec⟩:∃c,φ[n]?=some c:=⟨_,Cc AV⟩;have:=FM x.p ec;rw[BF]at this;cases this;exact⟨φ,x0,IL,b,rfl,ec⟩
   .cases e;exact same rfl
 .cases e;exact same rfl
end
section
variable{F:Cx}
def Bb(m:B3):B3:=λρ h=>(m ρ h).bind λp=>settle h p.1 p.2
def cW(h:A5)(w:W)(h1:A5):∃CR h',settle h w h1=.ok (CR,h'):=by
 unfold settle
 repeat' split
 all_goals exact⟨_,_,rfl⟩
def y3{m:B3}:FQ (C3 F (Bb m)) (C3 F m):=by
 rintro σ H Q ⟨φ,ρ,h,r,q⟩;refine⟨φ,ρ,h,r,?_⟩;unfold Bb at q;cases e:m ρ h with
 |bad=>rw[e]at q;cases q
 |exc c h'=>rw[e]at q;exact q
 |ok p=>rw[e]at q;obtain⟨w,h1⟩:=p;intro v Bt H1 Ar x a;obtain⟨CR,h',es⟩:=cW h w h1;have q:Cv AW F φ H σ ρ Q (settle h w h1):=q;rw[es]at q;obtain⟨BE,Fh,d',GS⟩:=cX r.hd x Ar.hd a es;exact q v BE H1 (r.to d' Fh) Fh GS
def Ho(m:DF):DF:=λρ h=>(m ρ h).bind λp=>.ok (p.1,if Fn h p.2=true then h else p.2)
def y4{m:DF}:Qd (HO F (Ho m)) (HO F m):=by
 rintro σ H Q ⟨φ,ρ,h,r,q⟩;refine⟨φ,ρ,h,r,?_⟩;unfold Ho at q;cases e:m ρ h with
 |bad=>rw[e]at q;cases q
 |exc c h'=>rw[e]at q;exact q
 |ok p=>
  rw[e]at q;obtain⟨b,h1⟩:=p;intro Hh Bt H1 Ar x a;cases a;have q:Cv l8 F φ H σ ρ Q (.ok (b,if Fn h h1=true then h else h1)):=q
  split at q
  .rename_i AT;have Fh:Af φ H φ H1:=⟨U0,x.t⟩;exact q b φ H1 (r.to (r.hd.cut Ar.hd x.p (cm AT)) Fh) Fh rfl
  .exact q b Bt H1 Ar x rfl
def Pw(K:Aq):En->Str->AC->Prop:=λE c H=>∃C,IF K c C/\∀a,H a=none->E (.ref C) (some a) H
def SN(K:Aq)(φ:List A4)(H:AC)(E:En):Cx:=⟨K,φ,H,Pw K E⟩
abbrev Bq:=List W->A5->R (W×A5)
noncomputable def Ib(K:Aq)(φ:List A4)(H:AC)(Q:CK)(MS:Str->AC->Prop):R (W×A5)->Prop
 |.ok (w,h')=>∀v BE A7,D1 K BE h' A7->Af φ H BE A7->AW K BE A7 w v->Q v A7
 |.exc c h'=>∀BE A7,Af φ H BE A7->D1 K BE h' A7->MS c A7
 |.bad=>False
def Lv(K:Aq)(n:Nat)(mf:Bq):Ck:=λvs H Q E=>∃φ h ws,D1 K φ h H/\Ai K φ H ws vs/\ws.length=n/\Ib K φ H Q (Pw K E) (mf ws h)
def ae5{K:Aq}{n:Nat}{mf:Bq}:∀vs H Q E,Lv K n mf vs H Q E->vs.length=n:=λvs H Q E q=>by obtain⟨φ,h,ws,_,a,l,_⟩:=q;rw[<-a.length];exact l
def Nf(N:Nat)(ws:List W):B9:=ws.map some++Fu (N-ws.length) none
def outF:F9×A5->R (W×A5)
 |(.AR _,h)=>.ok (.non,h)
 |(.EA w,h)=>.ok (w,h)
 |_=>.bad
def F1(N:Nat)(m:Am):Bq:=λws h=>(m (Nf N ws) h).bind outF
def DI(N:Nat)(m:Am):Bq:=λws h=>(F1 N m ws h).bind λp=>settle h p.1 p.2
def oH{K:Aq}{N n:Nat}{m:Am}:∀vs H Q E,Lv K n (DI N m) vs H Q E->Lv K n (F1 N m) vs H Q E:=λvs H Q E q=>by
 obtain⟨φ,h,ws,d,a,l,k⟩:=q;refine⟨φ,h,ws,d,a,l,?_⟩;unfold DI at k;cases e:F1 N m ws h with
 |bad=>rw[e]at k;cases k
 |exc c h'=>rw[e]at k;exact k
 |ok p=>rw[e]at k;obtain⟨w,h1⟩:=p;intro v Bt H1 d1 x a1;obtain⟨CR,h',es⟩:=cW h w h1;have k:Ib K φ H Q (Pw K E) (settle h w h1):=k;rw[es]at k;obtain⟨BE,Fh,d',GS⟩:=cX d x d1 a1 es;exact k v BE H1 d' Fh GS
def acX{K:Aq}{φ:List A4}{h:A5}{H:AC}{E:En}{N:List Str}{ws:List W}{vs:List V}(d:D1 K φ h H)(a:Ai K φ H ws vs):Rel (SN K φ H E) φ h H (B6.start N vs) (Nf N.length ws):=by
 have AG:=a.length;refine⟨d,Af.refl _ _,by simp[B6.start,Nf,AG],λi w e=>?_⟩;unfold Nf at e;unfold B6.start;by_cases AB:i<ws.length
 .rw[Gs (by simpa using AB),Ed]at e;cases Cp:ws[i]? with
  |none=>rw[Cp]at e;cases e
  |some CR=>
   rw[Cp]at e;have:CR=w:=by simpa using e
   subst this;obtain⟨v,ev,EL⟩:=a.get Cp;exact⟨v,by rw[Gs (by simp;lia),Ed,ev];rfl,EL⟩
 .rw[N1 (by simpa using AB),Wn]at e
  split at e<;>cases e
def rH{K:Aq}{n:Nat}{N:List Str}{m:Am}{vs:List V}{H:AC}{Q:CK}{E:En}(q:Lv K n (F1 N.length m) vs H Q E) :
  ∃φ,G0 (SN K φ H E) m { AR:=λ_ A7=>Q .non A7,EA:=Q } (B6.start N vs) H:=by
 obtain⟨φ,h,ws,d,a,l,k⟩:=q;refine⟨φ,φ,Nf N.length ws,h,acX d a,?_⟩;unfold F1 at k;cases e:m (Nf N.length ws) h with
 |bad=>rw[e]at k;cases k
 |exc c h'=>rw[e]at k;exact k
 |ok p=>
  rw[e]at k;obtain⟨f,h1⟩:=p;cases f with
  |AR ρ=>exact λσ' BE A7 r x=>k .non BE A7 r.hd x (by simp only[AW])
  |EA w=>exact λv BE A7 d' x GS=>k v BE A7 d' x GS
  |BU _=>cases k
  |DA _=>cases k
structure A_(X:Ao)(F:Cx)(e:Al)(m:B3):Prop where
 p:Ae X e (C3 F m)
structure Fa(X:Ao)(F:Cx)(e:Al)(m:DF):Prop where
 p:EJ X e (HO F m)
structure Gx(X:Ao)(F:Cx)(e:List Al)(m:EE):Prop where
 p:Gl X e (GP F m)
structure Fw(X:Ao)(F:Cx)(s:BC)(m:Am):Prop where
 p:DT X s (G0 F m)
structure Ks(X:Ao)(F:Cx)(s:List BC)(m:Am):Prop where
 p:Gw X s (G0 F m)
structure PI(X:Ao)(F:Cx)(C4 e:Al)(m:Fv):Prop where
 p:Hg X C4 e (dp F m)
structure RL(X:Ao)(F:Cx)(e:Al)(m:D9):Prop where
 p:Gv X e (Lx F m)
structure DE(K:Aq)(mg:Str->Option A6)(x:Str)(st:BC)(ps:List Str):Prop where
 ex:∃(f:A4)(fd:HX),OF K x x st f fd/\mg x=some (.ref f)/\Binds K fd ps []
structure DJ(P:C5)(w:Bo)(K:Aq)(mg:Str->Option A6)(base:B8)(x:Str)(n k:Nat)(mf:Bq):Prop where
 ex:∃(f:A4)(fd:HX)(ps:List Str),ps.length=n/\IH P w K mg base (IE P w) k f fd ps (Lv K n mf)/\mg x=some (.ref f)/\Jz K (.ref f)=true/\Binds K fd ps []
abbrev CD(P:C5)(w:Bo)(K:Aq)(mg:Str->Option A6)(base:B8)(x:Str)(st:BC)(N:List Str)(k:Nat)(m:Am):Prop:=∀(f:A4)(FJ:A6)(A:D4)(outer:List Env)(s:AM)(H:AC)(E:En),Cz k (A.deeper (PyProof.Rows.envOfC x (Bs st) s.heap.objs.size f FJ))->∀φ Bu,Ks (KB (IE P w) P w K mg base N x (Bs st) f FJ A outer s H E) (SN K φ Bu E) (KD st) m
def UX{P:C5}{w:Bo}{K:Aq}{mg:Str->Option A6}{base:B8}{x qual:Str}{st:BC}{N ps:List Str}{k:Nat}{m:Am}{f:A4}{fd:HX}(fn:OF K x qual st f fd)(S:C7 N ps (Bs st))(A2:CD P w K mg base qual st N k m) :
  IH P w K mg base (IE P w) (k+1) f fd ps (Lv K ps.length (F1 N.length m)):=by
 obtain⟨GD,Dy,Cm,doc,pm,an,FJ,DA,OU,rfl,lk,L0⟩:=fn.ex;refine hu lk L0 S ae5 λA outer s H vs Q E B7 AN=>?_;obtain⟨φ,Bi⟩:=rH AN;exact⟨_,(A2 f FJ A outer s H E B7 φ H).p,Bi⟩
def Mj{P:C5}{w:Bo}{K:Aq}{mg:Str->Option A6}{base:B8}{x:Str}{st:BC}{N ps:List Str}{k:Nat}{m:Am}(d:DE K mg x st ps)(S:C7 N ps (Bs st))(A2:CD P w K mg base x st N k m) :
  DJ P w K mg base x ps.length (k+1) (F1 N.length m):=by
 obtain⟨f,fd,fn,hm,Yz⟩:=d.ex;exact⟨f,fd,ps,rfl,UX fn S A2,hm,fn.Bc,Yz⟩
def Ef{P:C5}{w:Bo}{K:Aq}{mg:Str->Option A6}{base:B8}{x:Str}{st:BC}{N ps:List Str}{k:Nat}{m:Am}(d:DE K mg x st ps)(S:C7 N ps (Bs st))(A2:CD P w K mg base x st N k m) :
  DJ P w K mg base x ps.length (k+1) (DI N.length m):=by
 obtain⟨f,fd,fn,hm,Yz⟩:=d.ex;exact⟨f,fd,ps,rfl,(UX fn S A2).imp oH,hm,fn.Bc,Yz⟩
def Ah(n:Nat)(mf:Bq)(m:EE):B3:=bd m λws _ h=>if ws.length=n then mf ws h else .bad
structure Sf(X:Ao)(F:Cx):Prop where
 ex:∃E,Passes (IE X.prog X.w) X E/\∀c H,F.MS c H->Pw X.K E c H
def jB{φ:List A4}{h:A5}{H:AC}{σ :St}{ρ:B9}{Q:CK}{K:Aq}{MS:Str->AC->Prop}(AZ:F.K=K)(r:Rel F φ h H σ ρ)(he:∀c H,F.MS c H->MS c H):∀{rs:R (W×A5)},Cv AW F φ H σ ρ Q rs->Ib K φ H Q MS rs
 |.ok (w,h'),q=>λv BE A7 d x a=>by subst AZ;exact q v BE A7 (r.to d x) x a
 |.exc c h',q=>λBE A7 x d=>by subst AZ;exact he c A7 (q BE A7 x d)
 |.bad,q=>q
def wi{X:Ao}{n:Nat}{mf:Bq}{m:EE}{E:En}(AZ:F.K=X.K)(he:∀c H,F.MS c H->Pw X.K E c H):FQ (C3 F (Ah n mf m)) (oY (Lv X.K n mf) [] E (GP F m)):=λσ H Q q=>
 q.bd λws vs φ ρ h H1 r as q=>by
   split at q
   .rename_i AV;rw[LU];exact⟨φ,h,ws,AZ▸r.hd,AZ▸as,AV,jB AZ r he q⟩
   .exact q.elim
end
structure PQ(K:Aq)(c:Str)(B1:List Str):Prop where
 ex:∃C,IF K c C/\J_ K C/\∀f∈B1,Qg K C f
def IF.inj{K:Aq}{c:Str}{C M0:A4}(a:IF K c C)(b:IF K c M0):C=M0:=by unfold IF at a b;rw[a]at b;cases b;rfl
theorem d9(f:Str):∀B1:List (Str×V),B1.lookup f=HQ B1 f
 |[]=>rfl
 |(g,x)::r=>by
  by_cases h:g=f
  .subst h;rw[W0 rfl];simp[Ws]
  .rw[Vz h,<-d9 f r];have:(f==g)=false:=by simpa using λz:f=g=>h z.symm
   simp[Ws,this]
def Qw(h:A5)(c:Str):W->Option (Nat×List Str×List W)
 |.ref n=>match h[n]? with
  |some ⟨.ins G6 ns,ws⟩=>if G6=c then some (n,ns,ws)else none
  |_=>none
 |_=>none
def SK:List Str->Str->List Str
 |[],f=>[f]
 |g::r,f=>if g=f then g::r else g::SK r f
def R_:List Str->List W->Str->W->List W
 |g::r,w::ws,f,u=>if g=f then u::ws else w::R_ r ws f u
 |_,ws,_,u=>ws++[u]
section
variable{K:Aq}{φ:List A4}{h:A5}{H:AC}{F:Cx}{σ :St}{ρ:B9}{X:Ao}{m:B3}{ma:EE}
def bj(d:D1 K φ h H){w:W}{v:V}{c:Str}{n:Nat}{ns:List Str}{ws:List W}(a:AW K φ H w v)(e:Qw h c w=some (n,ns,ws)):∃p C Bl B1,v=.ref p/\h[n]?=some ⟨.ins c ns,ws⟩/\φ[n]?=some p/\IF K c C/\H p=some (.ins C Bl B1)/\B1.map (·.1)=ns/\Ai K φ H ws (B1.map (·.2)):=by
 unfold Qw at e
 split at e
 .split at e
  .rename_i As
   split at e
   .rename_i AH;cases e;subst AH;obtain⟨p,xs,rfl,An,⟨C,Bl,B1,AH,AT,A9,rfl⟩,BR⟩:=d.at As a;exact⟨p,C,Bl,B1,rfl,As,An,AH,AT,A9,BR⟩
   .cases e
  .cases e
 .cases e
def Ba(c f:Str):W->A5->R (W×A5):=λw h=>match Qw h c w with
 |some (_,ns,ws)=>match DW ns ws f with
  |some u=>.ok (u,h)
  |none=>.bad
 |none=>.bad
def wu{c f:Str}{B1:List Str}(AZ:F.K=X.K)(cl:PQ X.K c B1)(hf:f∈B1):FQ (C3 F (BM (Ba c f) m)) (o7 X.K (C3 F m) f):=λσ H Q q=>
 q.bd λw v φ ρ h H1 r a q=>by
   unfold Ba at q
   split at q
   .rename_i n ns ws e;obtain⟨p,C,Bl,NH,rfl,As,An,AH,AT,rfl,BR⟩:=bj r.hd a e;obtain⟨M0,Bk,Co,FH⟩:=cl.ex;rw[AZ]at AH;have:=AH.inj Bk;subst this
    split at q
    .rename_i u Fq;have F3:=Rj f BR;rw[Fq]at F3;cases ev:HQ NH f with
     |none=>rw[ev]at F3;cases F3
     |some x=>rw[ev]at F3;exact⟨p,C,Bl,NH,x,rfl,AT,Co,FH f hf,by rw[d9];exact ev,q x φ H1 r (Af.refl _ _) F3⟩
    .exact q.elim
   .exact q.elim
theorem hx{f:Str}{u:W}{x:V}(b:AW K φ H u x):∀{B1:List (Str×V)}{ws:List W},Ai K φ H ws (B1.map (·.2))->(HN f x B1).map (·.1)=SK (B1.map (·.1)) f/\Ai K φ H (R_ (B1.map (·.1)) ws f u) ((HN f x B1).map (·.2))
 |[],ws,a=>by
  cases ws with
  |nil=>exact⟨rfl,by simp only[Hq,R_,HN];exact .cons b .nil⟩
  |cons _ _=>have:=a.length;simp at this
 |(g,v)::B1,ws,a=>by
  cases ws with
  |nil=>have:=a.length;simp at this
  |cons w ws=>
   simp only[D3,Ai]at a;obtain⟨Ix,r,e,a1,a2⟩:=a;cases e;obtain⟨BB,Bm⟩:=hx b a2;simp only[D3,SK,R_,HN];by_cases Ak:g=f
   .rw[if_pos Ak,if_pos Ak,if_pos Ak];exact⟨rfl,.cons b a2⟩
   .rw[if_neg Ak,if_neg Ak,if_neg Ak];exact⟨by rw[D3,BB],.cons a1 Bm⟩
def UW(c f:Str)(o v:W):Am:=λρ h=>match Qw h c o with
 |some (n,ns,ws)=>if ns.length<1000 then .ok (.AR ρ,h.set n ⟨.ins c (SK ns f),R_ ns ws f v⟩)else .bad
 |none=>.bad
def Er(c f:Str)(o v:B3):Am:=bd v λOe=>bd o λV8=>UW c f V8 Oe
def wv{c f:Str}{B1:List Str}{o v:B3}(AZ:F.K=X.K)(cl:PQ X.K c B1)(hf:f∈B1):K2 (G0 F (Er c f o v)) (mh X.K (C3 F o) (C3 F v) f):=λDe σ H q=>
 q.bd λOe y φ ρ h H1 r GY q=>⟨φ,ρ,h,r,E2.bd q λV8 x Bt h1 AS Ar x1 EF q=>by
   unfold UW at q
   split at q
   .rename_i n ns ws e;obtain⟨p,C,Bl,NH,rfl,As,An,AH,AT,rfl,BR⟩:=bj Ar.hd EF e;obtain⟨M0,Bk,Co,FH⟩:=cl.ex;have Mp:=AH;rw[AZ]at AH;have:=AH.inj Bk;subst this
    split at q
    .rename_i AG;obtain⟨BB,Bm⟩:=hx (f:=f) (GY.ex x1) BR;have x2:Af Bt AS Bt (upd AS p (.ins C Bl (HN f y NH))):=Af.put AT λz=>z;refine⟨p,C,Bl,NH,rfl,AT,Co,FH f hf,by simpa using AG,q σ Bt _ (Ar.to (Ar.hd.put As An AT (λz=>z) (o':=⟨.ins c _,_⟩) ⟨C,Bl,_,Mp,E4,BB,rfl⟩ Bm) x2) x2⟩
    .exact q.elim
   .exact q.elim⟩
structure InK(K:Aq)(mg:Str->Option A6)(DO qual:Str)(st:BC)(ps:List Str):Prop where
 ex:∃(C f:A4)(fd:HX),IF K DO C/\XK K C f/\OF K "__init__" qual st f fd/\mg DO=some (.ref C)/\Binds K fd ps []
structure Ul(P:C5)(w:Bo)(K:Aq)(mg:Str->Option A6)(base:B8)(DO:Str)(n k:Nat)(mf:Bq):Prop where
 ex:∃(C f:A4)(fd:HX)(ps:List Str),ps.length=n+1/\IF K DO C/\XK K C f/\IH P w K mg base (IE P w) k f fd ps (Lv K (n+1) mf)/\mg DO=some (.ref C)/\Binds K fd ps []
def dZ{P:C5}{w:Bo}{K:Aq}{mg:Str->Option A6}{base:B8}{qual DO Jq:Str}{st:BC}{N ps:List Str}{k:Nat}{m:Am}(d:InK K mg DO qual st (Jq::ps))(S:C7 N (Jq::ps) (Bs st))(A2:CD P w K mg base qual st N k m) :
  Ul P w K mg base DO ps.length (k+1) (F1 N.length m):=by
 obtain⟨C,f,fd,h1,h2,BH,Cs,Ez⟩:=d.ex;exact⟨C,f,fd,Jq::ps,rfl,h1,h2,UX BH S A2,Cs,Ez⟩
def aaG(n:Nat):W×A5->R (W×A5)
 |(.non,h)=>.ok (.ref n,h)
 |_=>.bad
def Ic(c:Str)(n:Nat)(mf:Bq)(m:EE):B3:=bd m λws _ h=>if ws.length=n then(mf (.ref h.length::ws) (h++[⟨.ins c [],[]⟩])).bind (aaG h.length)else .bad
def wV{c:Str}{C:A4}{n:Nat}{mf:Bq}{E:En}(AZ:F.K=X.K)(AH:IF X.K c C)(he:∀c H,F.MS c H->Pw X.K E c H):FQ (C3 F (Ic c n mf ma)) (oB C (Lv X.K (n+1) mf) [] E (GP F ma)):=λσ H Q q=>
 q.bd λws vs φ ρ h H1 r as q x Bl AK hd KH=>by
   split at q
   .rename_i AV;have x1:Af φ H1 φ (upd H1 Bl (.own x)):=Af.lay hd;have d1:=r.hd.lay (o:=.own x) hd;have jV:upd H1 Bl (.own x) x=none:=by rw[D6 (LY KH)];exact AK
    have Ex:=d1.new (ho:=.ins C Bl []) (k:=.ins c []) jV ⟨C,Bl,[],AZ▸AH,E4,rfl,rfl⟩ .nil;have x2:Af φ (upd H1 Bl (.own x)) (φ++[x]) (upd (upd H1 Bl (.own x)) x (.ins C Bl [])):=Af.QB jV;have Rk:=x1.trans x2;have ex:(φ++[x])[h.length]?=some x:=Vn r.hd;rw[LU];refine⟨φ++[x],_,.ref h.length::ws,AZ▸Ex,.cons (.GE ex) (AZ▸as.ex Rk),by simp[AV],?_⟩;cases e:mf (.ref h.length::ws) (h++[⟨.ins c [],[]⟩])with
    |bad=>rw[e]at q;cases q
    |exc G6 h'=>rw[e]at q;exact λBE A7 Fh d'=>he G6 A7 (q BE A7 (Rk.trans Fh) (AZ▸d'))
    |ok p=>
     rw[e]at q;obtain⟨w,h'⟩:=p;cases w<;>try cases q
     intro v BE A7 d' Fh GS;simp only[AW]at GS;exact⟨GS,q _ BE A7 (r.to (AZ▸d') (Rk.trans Fh)) (Rk.trans Fh) (.GE (FM Fh.p ex))⟩
   .exact q.elim
structure Jb(K:Aq)(DO x qual:Str)(st:BC)(ps:List Str):Prop where
 ex:∃(C f:A4)(fd:HX),IF K DO C/\J_ K C/\Meth K C x f/\OF K x qual st f fd/\Binds K fd ps []
structure Hf(P:C5)(w:Bo)(K:Aq)(mg:Str->Option A6)(base:B8)(DO x:Str)(n k:Nat)(mf:Bq):Prop where
 ex:∃(C f:A4)(fd:HX)(ps:List Str),ps.length=n+1/\IF K DO C/\J_ K C/\Meth K C x f/\IH P w K mg base (IE P w) k f fd ps (Lv K (n+1) mf)/\Binds K fd ps []
def LJ{P:C5}{w:Bo}{K:Aq}{mg:Str->Option A6}{base:B8}{x qual DO Jq:Str}{st:BC}{N ps:List Str}{k:Nat}{m:Am}(d:Jb K DO x qual st (Jq::ps))(S:C7 N (Jq::ps) (Bs st))(A2:CD P w K mg base qual st N k m) :
  Hf P w K mg base DO x ps.length (k+1) (F1 N.length m):=by
 obtain⟨C,f,fd,h1,h2,BH,Cs,Ez⟩:=d.ex;exact⟨C,f,fd,Jq::ps,rfl,h1,h2,BH,UX Cs S A2,Ez⟩
def Hf.st{P:C5}{w:Bo}{K:Aq}{mg:Str->Option A6}{base:B8}{x DO:Str}{N n k:Nat}{m:Am}(d:Hf P w K mg base DO x n k (F1 N m)):Hf P w K mg base DO x n k (DI N m):=by obtain⟨C,f,fd,ps,h0,h1,h2,BH,Cs,Ez⟩:=d.ex;exact⟨C,f,fd,ps,h0,h1,h2,BH,Cs.imp oH,Ez⟩
def Vc{α:Type}(c x:Str)(w:W)(m:M α):M α:=λρ h=>match Qw h c w with
 |some (_,ns,ws)=>match DW ns ws x with
  |none=>m ρ h
  |some _=>.bad
 |none=>.bad
def C_(c x:Str)(n:Nat)(mf:Bq)(o:B3)(ma:EE):B3:=bd o λw=>Vc c x w (bd ma λws _ h=>if ws.length=n then mf (w::ws) h else .bad)
def be{c x:Str}{C:A4}{n:Nat}{mf:Bq}{E:En}{o:B3}(AZ:F.K=X.K)(AH:IF X.K c C)(he:∀c H,F.MS c H->Pw X.K E c H):FQ (C3 F (C_ c x n mf o ma)) (Zi C x (Lv X.K (n+1) mf) [] E (C3 F o) (GP F ma)):=λσ H Q q=>
 q.bd λw v φ ρ h H1 r a q=>by
   unfold Vc at q
   split at q
   .rename_i nn ns ws e;obtain⟨p,M0,Bl,NH,rfl,As,An,Mp,AT,rfl,BR⟩:=bj r.hd a e;rw[AZ]at Mp;have:=AH.inj Mp;subst this
    split at q
    .rename_i Fq;have F3:=Rj x BR;rw[Fq]at F3;cases ev:HQ NH x with
     |some _=>rw[ev]at F3;cases F3
     |none=>
      refine⟨p,Bl,NH,rfl,AT,by rw[d9];exact ev,φ,ρ,h,r,q.bd λus vs CF h2 AS BD x2 as q=>?_⟩
      split at q
      .rename_i AV;rw[LU];exact⟨CF,h2,w::us,AZ▸BD.hd,.cons (AZ▸a.ex x2) (AZ▸as),by simp[AV],jB AZ BD he q⟩
      .exact q.elim
    .exact q.elim
   .exact q.elim
structure Sd(K:Aq)(mg:Str->Option A6)(c:Str):Prop where
 ex:∃C,IF K c C/\mg c=some (.ref C)/\Tx K C [.type "ValueError",.type "Exception",.type "BaseException",.type "object"] "ValueError.__new__"=true
def No(c:Str):Am:=λ_ h=>.exc c h
end
section
variable{P:C5}{w:Bo}{K:Aq}{mg:Str->Option A6}{base:B8}{N:List Str}{qual:Str}{scope:F7}{f:A4}{cd:A6}{A:D4}{outer:List Env}{s0:AM}{OG:AC}{E:En}{φ:List A4}{Bu:AC}
def aC{x:Str}{np Da pos Y1:Pos}{m:Str}{j:Nat}(k:Sd K mg x)(Ak:EI (KB (IE P w) P w K mg base N qual scope f cd A outer s0 OG E) x:=by rfl)(hd:(x==("__debug__" :Str))=false:=by decide) :
  Fw (KB (IE P w) P w K mg base N qual scope f cd A outer s0 OG E) (SN K φ Bu E) (.Raise (some (.Call (.Name x np) [.Constant (.str m) j Y1] [] Da)) none pos) (No x):=by
 obtain⟨C,h1,h2,BH⟩:=k.ex;refine⟨λpins s σ H D J q=>abn (X:=KB (IE P w) P w K mg base N qual scope f cd A outer s0 OG E) PySem.F.excBase_ValueError BH h2 rfl Ak hd pins s σ H D J ?_⟩;obtain⟨BE,ρ,h,r,q⟩:=q;obtain⟨M0,Bk,Co⟩:=(show bu (SN K φ Bu E) BE H x h from q) BE H (Af.refl _ _) r.hd;have:=h1.inj Bk;subst this;exact aeT Co
def a8:Sf (KB (IE P w) P w K mg base N qual scope f cd A outer s0 OG E) (SN K φ Bu E):=⟨E,aai,λ_ _ q=>q⟩
end
def a7{X:Ao}{K:Aq}{φ:List A4}{H:AC}:Sf X (IM K φ H):=⟨λ_ _ _=>False,λ_ _ _ _ _ _ _ z=>by obtain⟨_,_,_,_,_,_,_,z⟩:=z;exact z.elim,λ_ _ q=>q.elim⟩
def notStar:Al->Bool
 |.Starred .. =>false
 |_=>true
def oO(e:Al)(es:List Al)(env:Env)(h:notStar e=true):CJ (e::es) env=(false,BZ e env)::CJ es env:=by cases e<;>first|rfl|(cases h)
def Ta:Al->Bool
 |.ListComp .. =>false
 |.SetComp .. =>false
 |.DictComp .. =>false
 |_=>true
def Za(e:Al)(t:Option Al)(l:Nat)(env:Env)(h:Ta e=true):Nz e t l env=pure false:=by cases e<;>first|rfl|(cases h)
def zt:Al->Bool
 |.Slice .. =>false
 |_=>true
def cr{b:Al}(h:zt b=true:=by rfl):fP b:=λo i=>by cases b<;>first|rfl|(cases h)
section
variable{X:Ao}{F:Cx}{e a b c o:Al}{es:List Al}{pos p Ct apos:Pos}{m n l:B3}{ma:EE}{st:BC}{Pr:List BC}{C4 iter:Al}{mg:D9}
def Ae.imp{t t':TE}(h:Ae X e t)(i:FQ t' t):Ae X e t':=λpins s σ H Q J hw=>h pins s σ H Q J (i σ H Q hw)
def EJ.imp{t t':TT}(h:EJ X e t)(i:Qd t' t):EJ X e t':=λpins s σ H Q J hw=>h pins s σ H Q J (i σ H Q hw)
def Jc.imp{t t':TT}(h:Jc X e t)(i:Qd t' t):Jc X e t':=λOf pins s σ H Q J hw=>h Of pins s σ H Q J (i σ H Q hw)
def Gl.imp{t t':FV}(h:Gl X es t)(i:fu t' t):Gl X es t':=λp pins s σ H Q J hw=>h p pins s σ H Q J (i σ H Q hw)
def DT.imp{t t':Eu}(h:DT X st t)(i:K2 t' t):DT X st t':=λpins s σ H De J hw=>h pins s σ H De J (i De σ H hw)
def Gw.imp{t t':Eu}(h:Gw X Pr t)(i:K2 t' t):Gw X Pr t':=λpins s σ H De J hw=>h pins s σ H De J (i De σ H hw)
def Hg.imp{t t':TI}(h:Hg X C4 e t)(i:∀ σ H R,t' σ H R->t σ H R):Hg X C4 e t':=λpins s σ H Q J hw=>h pins s σ H Q J (i σ H Q hw)
def Gv.imp{t t':Jf}(h:Gv X C4 t)(i:XY t' t):Gv X C4 t':=λpins s σ H v u Q J r hw=>h pins s σ H v u Q J r (i v σ H Q hw)
def Kq.imp{t t':ON}(h:Kq X es t)(i:∀vs σ H Q,t' vs σ H Q->t vs σ H Q):Kq X es t':=λpins s σ H v u Q J r hw=>h pins s σ H v u Q J r (i v σ H Q hw)
structure ru(X:Ao)(i:Nat)(x:Str):Prop where
 N:X.N[i]?=some x:=by rfl
 v:Y7 X.env.scope x:=by first|exact Or.inl rfl|exact Or.inr (Or.inl rfl)|exact Or.inr (Or.inr rfl)
 d:(x==("__debug__" :Str))=false:=by decide
 cd:(x==("__classdict__" :Str))=false:=by decide
structure Ns(X:Ao)(i:Nat)(x:Str):Prop where
 N:X.N[i]?=some x:=by rfl
 l:Loc X.env.scope x:=by first|exact Or.inl rfl|exact Or.inr rfl
 f:X.fn x=true\/X.env.scope.names.lookup x=some .local:=by first|exact .inl rfl|exact .inr rfl
def agC(i:Nat){x:Str}(k:ru X i x:=by exact{}):A_ X F (.Name x pos) (I i):=⟨Ae.imp (ac1 k.N k.v k.d k.cd) (y7 i)⟩
def aek{i:Int}{j}:A_ X F (.Constant (.int i) j pos) (pu (.int i)):=⟨Ae.imp aaQ (UG λ_ _=>by simp only[AW])⟩
def afK{i:Bool}{j}:A_ X F (.Constant (.bool i) j pos) (pu (.AL i)):=⟨Ae.imp aak (UG λ_ _=>by simp only[AW])⟩
def ag6{i:Str}{j}:A_ X F (.Constant (.str i) j pos) (pu (.str i)):=⟨Ae.imp cf (UG λ_ _=>by simp only[AW])⟩
def aeV{j}:A_ X F (.Constant .none j pos) (pu .non):=⟨Ae.imp aaX (UG λ_ _=>by simp only[AW])⟩
structure M2(K:Aq)(mg:Str->Option A6)(x:Str)(w:W):Prop where
 ex:∃(v:V)(u:A6),mg x=some u/\RelV v u/\∀φ H,AW K φ H w v
def Og{x:Str}{w:W}(k:M2 X.K X.mg x w)(AZ:F.K=X.K:=by rfl)(Ak:EI X x:=by rfl)(hd:(x==("__debug__" :Str))=false:=by decide):A_ X F (.Name x pos) (pu w):=by obtain⟨v,u,h1,h2,BH⟩:=k.ex;exact⟨Ae.imp (aau Ak h1 h2 hd) (UG (by rw[AZ];exact BH))⟩
def ag5(h:A_ X F e m):A_ X F e (Bb m):=⟨Ae.imp h.p y3⟩
def agO{k:DF}(h:Fa X F e k):Fa X F e (Ho k):=⟨EJ.imp h.p y4⟩
def afD:Gx X F [] A1:=⟨Gl.imp VB UI⟩
def afC(h:A_ X F e m)(t:Gx X F es ma)(AN:notStar e=true:=by rfl):Gx X F (e::es) (Z m ma):=⟨Gl.imp (Su h.p t.p (oO e es X.env AN)) YV⟩
def agA{k}(h:Gx X F es ma):A_ X F (.Tuple es k pos) (BQ ma):=⟨Ae.imp (abz h.p) y5⟩
def aes(h:Gx X F es ma):A_ X F (.List es pos) (By ma):=⟨Ae.imp (aaT h.p) x7⟩
structure RM(X:Ao)(F:Cx)(e:Al)(m:DF):Prop where
 p:Jc X e (HO F m)
def agP(h:A_ X F e m)(he:∀whole,isTrue e X.env whole=(do let v <-whole;ME e.pos;J3 [v] (truthy v)):=by intro _;rfl):Fa X F e (AY m):=⟨EJ.imp (abS h.p he) KI⟩
def agS{k:DF}(h:Fa X F a k):RM X F (.BoolOp .And [a] pos) k:=⟨ad0 h.p⟩
def agU{k:DF}(h:Fa X F a k):RM X F (.BoolOp .Or [a] pos) k:=⟨ad2 h.p⟩
def agR{k j:DF}(h:Fa X F a k)(t:RM X F (.BoolOp .And (b::es) pos) j):RM X F (.BoolOp .And (a::b::es) pos) (Fl k j):=⟨Jc.imp (acz h.p t.p) wg⟩
def agT{k j:DF}(h:Fa X F a k)(t:RM X F (.BoolOp .Or (b::es) pos) j):RM X F (.BoolOp .Or (a::b::es) pos) (FL k j):=⟨Jc.imp (ad1 h.p t.p) wZ⟩
def agQ{k:DF}(h:RM X F e k):Fa X F e k:=⟨Jc.pt h.p⟩
def afZ{k:DF}(h:Fa X F a k):Fa X F (.UnaryOp .Not a pos) (EG k):=⟨EJ.imp (abR h.p) wX⟩
def aeY{op}(h:A_ X F a m):A_ X F (.BoolOp op [a] pos) m:=⟨abv h.p⟩
def afH(h:A_ X F a m)(k:A_ X F (.BoolOp .And (b::es) pos) n):A_ X F (.BoolOp .And (a::b::es) pos) (Ln m n):=⟨Ae.imp (aaj h.p k.p) wh⟩
def aeZ(h:A_ X F a m)(k:A_ X F (.BoolOp .Or (b::es) pos) n):A_ X F (.BoolOp .Or (a::b::es) pos) (Vw m n):=⟨Ae.imp (abw h.p k.p) w_⟩
def aeW(h:A_ X F a m):A_ X F (.UnaryOp .Not a pos) (Vv m):=⟨Ae.imp (aav h.p) wY⟩
def aei{k:DF}(h:Fa X F c k)(AE:A_ X F a m)(A2:A_ X F b n):A_ X F (.IfExp c a b pos) (Nn k m n):=⟨Ae.imp (aaP h.p AE.p A2.p) wy⟩
def afm:Ks X F [] Bd:=⟨Gw.imp abO bf⟩
def aff{u v:Am}(h:Fw X F st u)(k:Ks X F Pr v):Ks X F (st::Pr) (AQ u v):=⟨Gw.imp (abM h.p k.p) x8⟩
def afn{u:Am}(h:Fw X F st u):Ks X F [st] u:=⟨abP h.p⟩
def afo:Fw X F (.Pass pos) Bd:=⟨DT.imp abm bf⟩
def afg{x j Ct}:Fw X F (.Expr (.Constant (.str x) j pos) Ct) Bd:=⟨DT.imp abg bf⟩
def afi(h:A_ X F e m)(AN:Ta e=true:=by rfl):Fw X F (.Expr e pos) (HJ m):=⟨DT.imp (abi h.p (Za _ _ _ _ AN)) wt⟩
def afq(h:A_ X F e m):Fw X F (.Return (some e) pos) (B2 m):=⟨DT.imp (abo h.p) wc⟩
def afr:Fw X F (.Return none pos) (B2 (pu .non)):=⟨DT.imp abp wd⟩
def afl{k:DF}{u v:Am}{xs ys:List BC}(h:Fa X F c k)(AE:Ks X F xs u)(A2:Ks X F ys v):Fw X F (.If c xs ys pos) (Bh k u v):=⟨DT.imp (abk h.p AE.p A2.p) wz⟩
def afs(i:Nat){x:Str}(hN:X.N.Nodup)(he:A_ X F e m)(k:Ns X i x:=by exact{})(AN:Ta e=true:=by rfl):Fw X F (.Assign [.Name x p] e pos) (Ac m (AD i)):=⟨DT.imp (abq hN k.N k.l he.p (Za _ _ _ _ AN) k.f) λDe σ H q=>
 q.bd λw v φ ρ h H1 r a q=>by
   unfold AD at q
   split at q
   .rename_i AB;exact q _ φ H1 (r.set AB a) (Af.refl _ _)
   .exact q.elim⟩
def agE(i:Nat){x:Str}(hN:X.N.Nodup)(k:Ns X i x:=by exact{}):RL X F (.Name x pos) (AD i):=⟨Gv.imp (WE hN k.N k.l k.f) (UH i)⟩
structure Y9(X:Ao)(F:Cx)(es:List Al)(Ey:List D9):Prop where
 p:Kq X es (WT F Ey)
def agF:Y9 X F [] []:=⟨Kq.imp lV jd⟩
def agD{g:D9}{Ey:List D9}(h:RL X F e g)(t:Y9 X F es Ey)(AN:(LX (e::es) X.env).map (·.2)=Ke e X.env::(LX es X.env).map (·.2):=by rfl):Y9 X F (e::es) (g::Ey):=⟨Kq.imp (cg h.p t.p AN) bb⟩
def agG{k:Nat}{Ey:List D9}(h:Y9 X F es Ey)(AH:X.calm=true:=by rfl)(AZ:F.K=X.K:=by rfl)(AV:(LX es X.env).length=Ey.length:=by rfl)(Fd:(LX es X.env).findIdx? (·.1)=none:=by rfl):RL X F (.Tuple es k pos) (Fs Ey):=⟨Gv.imp (lU AH h.p AV Fd) (je AZ rfl)⟩
def afF(AE:A_ X F a m)(A2:A_ X F b n)(AZ:F.K=X.K:=by rfl):A_ X F (.BinOp a .Add b pos) (A0 addW m n):=⟨Ae.imp (Pj abF AE.p A2.p) (Fe (zy AZ))⟩
def ag8(AE:A_ X F a m)(A2:A_ X F b n)(AZ:F.K=X.K:=by rfl):A_ X F (.BinOp a .Sub b pos) (A0 NY m n):=⟨Ae.imp (Pj aac AE.p A2.p) (Fe (Lq λ_ _ _ _ _=>by simp only[AW]))⟩
def aey(AE:A_ X F a m)(A2:A_ X F b n)(AZ:F.K=X.K:=by rfl):A_ X F (.BinOp a .Mult b pos) (A0 HY m n):=⟨Ae.imp (Pj (aaZ.or aaa) AE.p A2.p) (Fe ab4)⟩
def aef(AE:A_ X F a m)(A2:A_ X F b n)(AZ:F.K=X.K:=by rfl):A_ X F (.BinOp a .FloorDiv b pos) (A0 CY m n):=⟨Ae.imp (Pj abK AE.p A2.p) (Fe (Zq λ_ _ _ _ _=>by simp only[AW]))⟩
def aex(AE:A_ X F a m)(A2:A_ X F b n)(AZ:F.K=X.K:=by rfl):A_ X F (.BinOp a .Mod b pos) (A0 BV m n):=⟨Ae.imp (Pj aaY AE.p A2.p) (Fe (Zq λ_ _ _ _ _=>by simp only[AW]))⟩
def ag1(AE:A_ X F a m)(A2:A_ X F b n)(AZ:F.K=X.K:=by rfl):A_ X F (.BinOp a .Pow b pos) (A0 OV m n):=⟨Ae.imp (Pj aa_ AE.p A2.p) (Fe (Zq λ_ _ _ _ _=>by simp only[AW]))⟩
def ag2(AE:A_ X F a m)(A2:A_ X F b n)(AZ:F.K=X.K:=by rfl):A_ X F (.BinOp a .RShift b pos) (A0 acO m n):=⟨Ae.imp (Pj aab AE.p A2.p) (Fe (Zq λ_ _ _ _ _=>by simp only[AW]))⟩
def afI(AE:A_ X F a m)(A2:A_ X F b n)(AZ:F.K=X.K:=by rfl):A_ X F (.BinOp a .BitAnd b pos) (A0 rR m n):=⟨Ae.imp (Pj abH AE.p A2.p) (Fe (Lq λ_ _ _ _ _=>by simp only[AW]))⟩
def aet(AE:A_ X F a m)(A2:A_ X F b n)(AZ:F.K=X.K:=by rfl):A_ X F (.Compare a [.Lt] [b] pos) (A0 JJ m n):=⟨Ae.imp (Lr Zx AE.p A2.p (HZ _)) (Fe (Lq λ_ _ _ _ _=>by simp only[AW]))⟩
def afV(AE:A_ X F a m)(A2:A_ X F b n)(AZ:F.K=X.K:=by rfl):Fa X F (.Compare a [.Lt] [b] pos) (AY (A0 JJ m n)):=⟨EJ.imp (Ls Zx AE.p A2.p (HZ _)) λσ H Q q=>let⟨φ,ρ,h,r,z⟩:=KI σ H Q q;Fe (Lq λ_ _ _ _ _=>by simp only[AW]) σ H _ ⟨φ,ρ,h,r,z⟩⟩
def aen(AE:A_ X F a m)(A2:A_ X F b n)(AZ:F.K=X.K:=by rfl):A_ X F (.Compare a [.LtE] [b] pos) (A0 Ll m n):=⟨Ae.imp (Lr Pi AE.p A2.p (HZ _)) (Fe (Lq λ_ _ _ _ _=>by simp only[AW]))⟩
def afU(AE:A_ X F a m)(A2:A_ X F b n)(AZ:F.K=X.K:=by rfl):Fa X F (.Compare a [.LtE] [b] pos) (AY (A0 Ll m n)):=⟨EJ.imp (Ls Pi AE.p A2.p (HZ _)) λσ H Q q=>let⟨φ,ρ,h,r,z⟩:=KI σ H Q q;Fe (Lq λ_ _ _ _ _=>by simp only[AW]) σ H _ ⟨φ,ρ,h,r,z⟩⟩
def aeh(AE:A_ X F a m)(A2:A_ X F b n)(AZ:F.K=X.K:=by rfl):A_ X F (.Compare a [.Gt] [b] pos) (A0 KG m n):=⟨Ae.imp (Lr jk AE.p A2.p (HZ _)) (Fe (Lq λ_ _ _ _ _=>by simp only[AW]))⟩
def afR(AE:A_ X F a m)(A2:A_ X F b n)(AZ:F.K=X.K:=by rfl):Fa X F (.Compare a [.Gt] [b] pos) (AY (A0 KG m n)):=⟨EJ.imp (Ls jk AE.p A2.p (HZ _)) λσ H Q q=>let⟨φ,ρ,h,r,z⟩:=KI σ H Q q;Fe (Lq λ_ _ _ _ _=>by simp only[AW]) σ H _ ⟨φ,ρ,h,r,z⟩⟩
def aeg(AE:A_ X F a m)(A2:A_ X F b n)(AZ:F.K=X.K:=by rfl):A_ X F (.Compare a [.GtE] [b] pos) (A0 aO m n):=⟨Ae.imp (Lr jj AE.p A2.p (HZ _)) (Fe (Lq λ_ _ _ _ _=>by simp only[AW]))⟩
def afQ(AE:A_ X F a m)(A2:A_ X F b n)(AZ:F.K=X.K:=by rfl):Fa X F (.Compare a [.GtE] [b] pos) (AY (A0 aO m n)):=⟨EJ.imp (Ls jj AE.p A2.p (HZ _)) λσ H Q q=>let⟨φ,ρ,h,r,z⟩:=KI σ H Q q;Fe (Lq λ_ _ _ _ _=>by simp only[AW]) σ H _ ⟨φ,ρ,h,r,z⟩⟩
def aed(BI:X.A.units+64<Dp)(AE:A_ X F a m)(A2:A_ X F b n)(AZ:F.K=X.K:=by rfl):A_ X F (.Compare a [.Eq] [b] pos) (A0 (Au true) m n):=⟨Ae.imp (Lr (Zv BI).1 AE.p A2.p (HZ _)) (Fe (Yq AZ true))⟩
def afx(BI:X.A.units+64<Dp)(AE:A_ X F a m)(A2:A_ X F b n)(AZ:F.K=X.K:=by rfl):Fa X F (.Compare a [.Eq] [b] pos) (AY (A0 (Au true) m n)):=⟨EJ.imp (Ls (Zv BI).1 AE.p A2.p (HZ _)) λσ H Q q=>let⟨φ,ρ,h,r,z⟩:=KI σ H Q q;Fe (Yq AZ true) σ H _ ⟨φ,ρ,h,r,z⟩⟩
def aeQ(BI:X.A.units+64<Dp)(AE:A_ X F a m)(A2:A_ X F b n)(AZ:F.K=X.K:=by rfl):A_ X F (.Compare a [.NotEq] [b] pos) (A0 (Au false) m n):=⟨Ae.imp (Lr (Zv BI).2 AE.p A2.p (HZ _)) (Fe (Yq AZ false))⟩
def afW(BI:X.A.units+64<Dp)(AE:A_ X F a m)(A2:A_ X F b n)(AZ:F.K=X.K:=by rfl):Fa X F (.Compare a [.NotEq] [b] pos) (AY (A0 (Au false) m n)):=⟨EJ.imp (Ls (Zv BI).2 AE.p A2.p (HZ _)) λσ H Q q=>let⟨φ,ρ,h,r,z⟩:=KI σ H Q q;Fe (Yq AZ false) σ H _ ⟨φ,ρ,h,r,z⟩⟩
def ael(AE:A_ X F a m)(A2:A_ X F b n)(AZ:F.K=X.K:=by rfl):A_ X F (.Compare a [.Is] [b] pos) (A0 (EN true) m n):=⟨Ae.imp (Lr jl AE.p A2.p (HZ _)) (Fe (Zr true))⟩
def afT(AE:A_ X F a m)(A2:A_ X F b n)(AZ:F.K=X.K:=by rfl):Fa X F (.Compare a [.Is] [b] pos) (AY (A0 (EN true) m n)):=⟨EJ.imp (Ls jl AE.p A2.p (HZ _)) λσ H Q q=>let⟨φ,ρ,h,r,z⟩:=KI σ H Q q;Fe (Zr true) σ H _ ⟨φ,ρ,h,r,z⟩⟩
def aeX(AE:A_ X F a m)(A2:A_ X F b n)(AZ:F.K=X.K:=by rfl):A_ X F (.Compare a [.IsNot] [b] pos) (A0 (EN false) m n):=⟨Ae.imp (Lr jn AE.p A2.p (HZ _)) (Fe (Zr false))⟩
def afz(AE:A_ X F a m)(A2:A_ X F b n)(AZ:F.K=X.K:=by rfl):Fa X F (.Compare a [.IsNot] [b] pos) (AY (A0 (EN false) m n)):=⟨EJ.imp (Ls jn AE.p A2.p (HZ _)) λσ H Q q=>let⟨φ,ρ,h,r,z⟩:=KI σ H Q q;Fe (Zr false) σ H _ ⟨φ,ρ,h,r,z⟩⟩
def H4:W->A5->R (W×A5):=λw h=>match w with
 |.int i=>.ok (.int (-i),h)
 |_=>.bad
def aeS(AE:A_ X F a m):A_ X F (.UnaryOp .USub a pos) (BM H4 m):=⟨Ae.imp (ac0 ady AE.p) (y6 λσ ρ φ h H x w Q r a q=>by
 cases w with
 |int i=>simp only[AW]at a;exact⟨i,a,q _ φ H r (Af.refl _ _) (by simp only[AW])⟩
 |_=>cases q)⟩
def P0(f g:Io)(a b c:B3):B3:=bd a λx=>bd b λy=>bd (λ_ h=>f x y h) (ML λk=>if k=true then bd c λz _ h=>g y z h else pu (.AL false))
def jb{r BW:FA}{f g:Io}(hf:Hz F r f)(Ak:Hz F BW g):FQ (C3 F (P0 f g m n l)) (dm r BW (C3 F m) (C3 F n) (C3 F l)):=λσ H Q q=>
 q.bd λx v φ ρ h H1 Ar EF q=>⟨φ,ρ,h,Ar,q.bd λy u CF h2 AS BD x2 GY q=>hf σ ρ CF h2 AS v u x y _ BD (EF.ex x2) GY (q.bd λk Bv Jx BH Bx FY x3 rM q=>by
   obtain⟨c,e,q⟩:=Ut rM q;refine⟨c,e,?_⟩;cases c with
   |false=>exact q _ Jx Bx FY (Af.refl _ _) (NT _)
   |true=>have q:Cv AW F Jx Bx σ ρ Q (bd l (λz _ h=>g y z h) ρ BH):=q;exact⟨Jx,ρ,BH,FY,q.bd λz age aJ Cs Cy NS x4 NN q=>Ak σ ρ aJ Cs Cy u age y z Q NS (GY.ex (x3.trans x4)) NN q⟩)⟩
def pO{op Jp:CmpOp}{r BW:FA}{f g:Io}(ho:Dg X (Ft op) r)(I5:Dg X (Ft Jp) BW)(hf:Hz F r f)(Ak:Hz F BW g)(AE:A_ X F a m)(A2:A_ X F b n)(AH:A_ X F c l)(hm:lastMarks [op,Jp] [b,c]=false:=by with_unfolding_all rfl):A_ X F (.Compare a [op,Jp] [b,c] pos) (P0 f g m n l):=⟨Ae.imp (aan ho I5 AE.p A2.p AH.p hm) (jb hf Ak)⟩
def Ss:Hz F (LF λi j=>.AL (decide (i<=j))) Ll:=Lq λ_ _ _ _ _=>by simp only[AW]
def kJ:Hz F (LF λi j=>.AL (decide (i<j))) JJ:=Lq λ_ _ _ _ _=>by simp only[AW]
def pP{op Jp:CmpOp}{r BW:FA}{f g:Io}(ho:Dg X (Ft op) r)(I5:Dg X (Ft Jp) BW)(hf:Hz F r f)(Ak:Hz F BW g)(AE:A_ X F a m)(A2:A_ X F b n)(AH:A_ X F c l)(hm:lastMarks [op,Jp] [b,c]=false:=by with_unfolding_all rfl):Fa X F (.Compare a [op,Jp] [b,c] pos) (AY (P0 f g m n l)):=⟨EJ.imp (abQ ho I5 AE.p A2.p AH.p hm) λσ H Q q=>jb hf Ak σ H _ (KI σ H Q q)⟩
structure Kt(X:Ao)(F:Cx)(e:Option Al)(k:Qf):Prop where
 p:Up X e (WU F k)
def agM:Kt X F none (pu none):=⟨λpins s σ H Q J q=>abY pins s σ H Q J (wW σ H Q q)⟩
def agN(h:A_ X F e m):Kt X F (some e) (CE m):=⟨λpins s σ H Q J q=>abZ h.p pins s σ H Q J (wa σ H Q q)⟩
def ag3{lo AB:Option Al}{k j:Qf}(AE:A_ X F a m)(AG:Kt X F lo k)(hh:Kt X F AB j)(AZ:F.K=X.K:=by rfl):A_ X F (.Subscript a (.Slice lo AB none Ct) pos) (D5 m k j):=⟨Ae.imp (abx (acR.or acS) AE.p AG.p hh.p) (y2 AZ)⟩
structure L_(X:Ao)(e:Al)(es:List Al)(pos:Pos):Prop where
 he:CJ (e::es) X.env=(false,BZ e X.env)::CJ es X.env:=by rfl
 Fy:(Fj pos (CJ es X.env)).any (·.1)=false:=by rfl
def aeo(hm:X.mg "len"=none)(AE:Gx X F [e] ma)(AZ:F.K=X.K:=by rfl)(Ak:EI X "len":=by rfl)(s:L_ X e [] pos:=by exact{}):A_ X F (.Call (.Name "len" p) [e] [] pos) (Az BO ma):=⟨Ae.imp (Vb tB Ak hm PySem.boot_len AE.p (by decide) (by decide) s.he s.Fy) (Q7 (ab1 AZ))⟩
def aeq(hm:X.mg "list"=none)(AE:Gx X F [e] ma)(AZ:F.K=X.K:=by rfl)(Ak:EI X "list":=by rfl)(s:L_ X e [] pos:=by exact{}):A_ X F (.Call (.Name "list" p) [e] [] pos) (Az Fk ma):=⟨Ae.imp (WC tD Ak hm (by kernel_rfl) AE.p (by decide) (by decide) s.he s.Fy) (Q7 (ab2 AZ))⟩
def agB(hm:X.mg "tuple"=none)(AE:Gx X F [e] ma)(AZ:F.K=X.K:=by rfl)(Ak:EI X "tuple":=by rfl)(s:L_ X e [] pos:=by exact{}):A_ X F (.Call (.Name "tuple" p) [e] [] pos) (Az Oc ma):=⟨Ae.imp (WC tI Ak hm (by kernel_rfl) AE.p (by decide) (by decide) s.he s.Fy) (Q7 (ab9 AZ))⟩
def ag7(hm:X.mg "str"=none)(AE:Gx X F [e] ma)(Ak:EI X "str":=by rfl)(s:L_ X e [] pos:=by exact{}):A_ X F (.Call (.Name "str" p) [e] [] pos) (Az Pq ma):=⟨Ae.imp (WC tH Ak hm (by kernel_rfl) AE.p (by decide) (by decide) s.he s.Fy) (Q7 ab7)⟩
def ag9(hm:X.mg "int"=none)(AE:Gx X F [e] ma)(Ak:EI X "int":=by rfl)(s:L_ X e [] pos:=by exact{}):A_ X F (.Call (.Name "int" p) [e] [] pos) (Az RI ma):=⟨Ae.imp (WC t9 Ak hm (by kernel_rfl) AE.p (by decide) (by decide) s.he s.Fy) (Q7 ab8)⟩
def W6{U:Str}{T:String}(tt:fT X.K T)(hm:X.mg "isinstance"=none)(vV:X.mg U=none)(wO:Ny U=some (.type T))(AE:A_ X F a m)(AZ:F.K=X.K:=by rfl)(Ak:EI X "isinstance":=by rfl)(vt:EI X U:=by rfl)(vX:U≠"__name__":=by decide)(vl:(U==("__debug__" :Str))=false:=by decide)(AN:notStar a=true:=by rfl)(s:L_ X a [.Name U Ct] pos:=by exact{}):A_ X F (.Call (.Name "isinstance" p) [a,.Name U Ct] [] pos) (BM (Dv T) m):=
 ⟨Ae.imp (Vb (tA tt) Ak hm (by kernel_rfl) (Su AE.p (Su (aal (v:=.ty T) vt vV wO rfl vX vl) VB) (oO _ _ _ AN)) (by decide) (by decide) s.he s.Fy) (x5 AZ)⟩
structure Qe(X:Ao)(o:Al)(x:Str)(apos Da:Pos)(e:Al):Prop where
 b:MA o x X.env (BZ o X.env)=BZ o X.env:=by rfl
 l:(apos.endLine==Da.line)=true:=by rfl
 f:((Fj Da (CJ [e] X.env)).all (λx=>!x.1)&&(LV Da (LQ [] X.env)).all (λx=>x.1.isSome)&&decide (([e]:List Al).length+([]:List O1).length+(if([]:List O1).isEmpty then 0 else 1)<30))=true:=by rfl
 s:CJ [e] X.env=(false,BZ e X.env)::CJ [] X.env:=by rfl
 h:(Fj Da (CJ [] X.env)).any (·.1)=false:=by rfl
def afJ(ho:A_ X F o m)(AE:A_ X F e n)(AZ:F.K=X.K:=by rfl)(k:Qe X o "append" apos pos e:=by exact{}):A_ X F (.Call (.Attribute o "append" apos) [e] [] pos) (EP FS m (Z n A1)):=⟨Ae.imp (lR Wo PySem.F.slot_list_append PySem.F.type_list_append jq ho.p (Su AE.p VB k.s) k.b k.f k.l k.s k.h) λσ H Q q=>bc AZ aaw σ H Q q|>λ⟨φ,ρ,h,r,z⟩=>⟨φ,ρ,h,r,z.imp λv H1⟨ty,t⟩=>⟨ty,YV σ H1 _ t|>λ⟨φ,ρ,h,r,z⟩=>⟨φ,ρ,h,r,z.imp λv AS t=>UI σ AS _ t⟩⟩⟩⟩
def ag0(ho:A_ X F o m)(AE:A_ X F e n)(AZ:F.K=X.K:=by rfl)(k:Qe X o "pop" apos pos e:=by exact{}):A_ X F (.Call (.Attribute o "pop" apos) [e] [] pos) (EP JM m (Z n A1)):=⟨Ae.imp (lR Wo qq qr (PU.or jr js) ho.p (Su AE.p VB k.s) k.b k.f k.l k.s k.h) λσ H Q q=>bc AZ jg σ H Q q|>λ⟨φ,ρ,h,r,z⟩=>⟨φ,ρ,h,r,z.imp λv H1⟨ty,t⟩=>⟨ty,YV σ H1 _ t|>λ⟨φ,ρ,h,r,z⟩=>⟨φ,ρ,h,r,z.imp λv AS t=>UI σ AS _ t⟩⟩⟩⟩
def aez(ho:A_ X F o m)(AZ:F.K=X.K:=by rfl)(A2:MA o "pop" X.env (BZ o X.env)=BZ o X.env:=by rfl)(AG:(apos.endLine==pos.line)=true:=by rfl):A_ X F (.Call (.Attribute o "pop" apos) [] [] pos) (EP JM m A1):=⟨Ae.imp (lS Wo qq qr (PU.or jr js) ho.p A2 AG) (jf AZ jg)⟩
def afM(ho:A_ X F o m)(AZ:F.K=X.K:=by rfl)(A2:MA o "clear" X.env (BZ o X.env)=BZ o X.env:=by rfl)(AG:(apos.endLine==pos.line)=true:=by rfl):A_ X F (.Call (.Attribute o "clear" apos) [] [] pos) (EP bH m A1):=⟨Ae.imp (lS Wo PySem.F.slot_list_clear PySem.F.type_list_clear aaL ho.p A2 AG) (jf AZ aax)⟩
def afp {i v:Al} {Ca:B3} (B_:A_ X F v Ca) (ho:A_ X F o m) (AB:A_ X F i n) (AN:Ta v=true:=by rfl) (h1:swapsWithSole [.Subscript o i p] v pos.line X.env=pure false:=by rfl) (h2:swappedStores [.Subscript o i p] v X.env=pure none:=by rfl) (BH:(LX [.Subscript o i p] X.env).map (·.2)=[Ke (.Subscript o i p) X.env]:=by rfl)(AE:∀v,Ke (.Subscript o i p) X.env v=(do
    let CO <-J3 [v] (BZ o X.env)
    let Gc <-J3 [v,CO] (BZ i X.env)
    ME p
    J3 [v,CO,Gc] (setItem CO Gc v)
    release [v,CO,Gc] []):=by intro _;rfl):Fw X F (.Assign [.Subscript o i p] v pos) (Ac Ca (SO m n)):=⟨DT.imp (lh B_.p (ac4 ho.p AB.p set_list AE) h1 h2 BH) λDe σ H q=>
 q.bd λw x φ ρ h H1 r a q=>by
   refine wb x σ H1 De.AR ⟨φ,ρ,h,w,r,a,?_⟩;have AR:∀r:R (F9×A5),(∀f h',r=.ok (f,h')->∃EH,f=.AR EH)->E2 F φ H1 De r->E2 F φ H1 ⟨De.AR,λ_ _=>False,λ_ _=>False,λ_ _=>False⟩ r:=λr g k=>by
    cases r with
    |ok p=>obtain⟨f,h'⟩:=p;obtain⟨EH,rfl⟩:=g f h' rfl;exact k
    |exc c h'=>exact k
    |bad=>exact k
   refine AR _ (λf h' e=>?_) q;unfold SO bd at e;cases A9:m ρ h with
   |ok p=>
    rw[A9]at e;cases AF:n ρ p.2 with
    |ok Ct=>
     simp only[R.bind,AF]at e;unfold a6 at e
     split at e
     .split at e
      .cases e;exact⟨_,rfl⟩
      .cases e
     .cases e
    |exc c h2=>simp only[R.bind,AF]at e;cases e
    |bad=>simp only[R.bind,AF]at e;cases e
   |exc c h2=>rw[A9]at e;cases e
   |bad=>rw[A9]at e;cases e⟩
def ae_:A_ X F (.Dict [] [] pos) (KN false):=⟨Ae.imp WD wk⟩
def aea:A_ X F (.Dict [] [] pos) (KN true):=⟨Ae.imp aar wl⟩
def ahN(BI:X.A.units+64<Dp)(ho:A_ X F o m)(he:A_ X F e n)(AN:fL e):A_ X F (.Subscript o e pos) (A0 aV m n):=⟨Ae.imp (aao (by lia) ho.p he.p AN) wo⟩
def afh{v:Al}{Ca:B3}(BI:X.A.units+64<Dp)(ho:A_ X F o m)(AB:A_ X F e n)(B_:A_ X F v Ca)(AN:Ta v=true:=by rfl):Fw X F (.Assign [.Subscript o e p] v pos) (JK m n Ca):=⟨DT.imp (abh (by lia) ho.p AB.p B_.p (Za _ _ _ _ AN)) wq⟩
def dY{DO f:Str}{B1:List Str}(cl:PQ X.K DO B1)(AE:A_ X F a m)(hf:f∈B1:=by decide)(AZ:F.K=X.K:=by rfl)(A2:MA a f X.env (BZ a X.env)=BZ a X.env:=by rfl):A_ X F (.Attribute a f pos) (BM (Ba DO f) m):=⟨Ae.imp (aat AE.p A2) (wu AZ cl hf)⟩
def d_{DO f:Str}{B1:List Str}{v:Al}{Ca:B3}(cl:PQ X.K DO B1)(ho:A_ X F o m)(B_:A_ X F v Ca)(hf:f∈B1:=by decide)(AZ:F.K=X.K:=by rfl)(AN:Ta v=true:=by rfl):Fw X F (.Assign [.Attribute o f p] v pos) (Er DO f m Ca):=⟨DT.imp (abj ho.p B_.p (Za _ _ _ _ AN)) (wv AZ cl hf)⟩
def afL{x:Str}{k j:Nat}{mf:Bq}(c:DJ X.prog X.w X.K X.mg X.base x k j mf)(B7:Cz j X.A)(AE:Gx X F (e::es) ma)(P:Sf X F:=by first|exact a8|exact a7)(AZ:F.K=X.K:=by rfl)(Ak:EI X x:=by rfl)(Mq:(x==("__debug__" :Str))=false:=by decide)(s:L_ X e es pos:=by exact{}):A_ X F (.Call (.Name x p) (e::es) [] pos) (Ah k mf ma):=by obtain⟨f,fd,ps,AV,OB,hm,AO,A2⟩:=c.ex;obtain⟨E,h1,h2⟩:=P.ex;exact⟨Ae.imp (aam OB B7 Ak hm AO A2 .nil h1 AE.p Mq s.he s.Fy) (wi AZ h2)⟩
def aeu{DO:Str}{k j:Nat}{mf:Bq}(c:Ul X.prog X.w X.K X.mg X.base DO k j mf)(B7:Cz (j+1) X.A)(AE:Gx X F (e::es) ma)(P:Sf X F:=by first|exact a8|exact a7)(AZ:F.K=X.K:=by rfl)(Ak:EI X DO:=by rfl)(Mq:(DO==("__debug__" :Str))=false:=by decide)(s:L_ X e es pos:=by exact{}):A_ X F (.Call (.Name DO p) (e::es) [] pos) (Ic DO k mf ma):=by obtain⟨C,f,fd,ps,AV,AH,mk,OB,hm,A2⟩:=c.ex;obtain⟨E,h1,h2⟩:=P.ex;exact⟨Ae.imp (aaU mk OB B7 Ak hm A2 .nil h1 AE.p Mq s.he s.Fy) (wV AZ AH h2)⟩
end
section
variable{X:Ao}{F:Cx}{e a b c o elt:Al}{es ifs:List Al}{pos p Ct apos Da:Pos}{m n l:B3}{ma:EE}{C4 iter:Al}{g:D9}{scope:F7}{mi:Fv}{mt:DF}
def IJ(sc:F7)(NL:List Str)(nl:Nat)(caps:List Nat):List Str:=((sc.names.drop 1).take nl).map (·.1)++caps.map λj=>NL.getD j ""
def Q_(X:Ao)(scope:F7)(N:List Str)(C4:Al)(g:D9):Prop:=∀cl C s H BG D7 Bu,RL (GG X scope N cl C s H BG) (IM X.K D7 Bu) C4 g
def XP(X:Ao)(scope:F7)(N:List Str)(e:Al)(m:B3):Prop:=∀cl C s H BG D7 Bu,A_ (GG X scope N cl C s H BG) (IM X.K D7 Bu) e m
def BT(X:Ao)(scope:F7)(N:List Str)(ifs:List Al)(k:DF):Prop:=∀cl C s H BG D7 Bu,PV (GG X scope N cl C s H BG) ifs (HO (IM X.K D7 Bu) k)
def sz{N:List Str}:BT X scope N [] (pu true):=λcl C s H BG D7 Bu pins s' σ A7 Q J q=>by obtain⟨φ,ρ,h,r,k⟩:=q;exact abU pins s' σ A7 Q J (k true φ A7 r (Af.refl _ _) rfl)
def sy{N:List Str}(h:∀cl C s H BG D7 Bu,Fa (GG X scope N cl C s H BG) (IM X.K D7 Bu) c mt):BT X scope N [c] mt:=λcl C s H BG D7 Bu=>abu (h cl C s H BG D7 Bu).p
def rC(i:Nat){N:List Str}{x:Str}(hN:N.Nodup:=by decide+kernel)(AB:N[i]?=some x:=by rfl)(AG:(LZ scope X.env).names.lookup x=some .local:=by rfl):Q_ X scope N (.Name x pos) (AD i):=λcl C s H BG D7 Bu=>
 ⟨Gv.imp (WE (X:=GG X scope N cl C s H BG) hN AB (.inl AG) (.inr AG)) (UH i)⟩
def rk(i:Nat){N:List Str}{x:Str}(hN:N.Nodup:=by decide+kernel)(AB:N[i]?=some x:=by rfl)(AG:(LZ scope X.env).names.lookup x=some .cell:=by rfl)(AN:(scope.names.lookup x==some .cell)=true:=by rfl):Q_ X scope N (.Name x pos) (AD i):=λcl C s H BG D7 Bu=>
 ⟨Gv.imp (WE (X:=GG X scope N cl C s H BG) hN AB (.inr AG) (.inl AN)) (UH i)⟩
def rD(i j:Nat){N:List Str}{x y:Str}{cr py:Pos}{k:Nat}(AH:X.calm=true:=by rfl)(hN:N.Nodup:=by decide+kernel)(AB:N[i]?=some x:=by rfl)(Ap:N[j]?=some y:=by rfl)(AG:(LZ scope X.env).names.lookup x=some .local:=by rfl)(hm:(LZ scope X.env).names.lookup y=some .local:=by rfl) :
  Q_ X scope N (.Tuple [.Name x cr,.Name y py] k pos) (Fs [AD i,AD j]):=λcl C s H BG D7 Bu=>
 ⟨Gv.imp (lU (X:=GG X scope N cl C s H BG) AH (Kq.imp (cg (Gv.imp (WE (X:=GG X scope N cl C s H BG) hN AB (.inl AG) (.inr AG)) (UH i)) (Kq.imp (cg (Gv.imp (WE (X:=GG X scope N cl C s H BG) hN Ap (.inl hm) (.inr hm)) (UH j)) (Kq.imp lV jd) rfl) bb) rfl) bb) rfl rfl) (je rfl rfl)⟩
def bK(nl:Nat)(caps:List Nat)(AZ:F.K=X.K)(Ak:Q_ X scope (IJ scope X.N nl caps) C4 g)(Bi:BT X scope (IJ scope X.N nl caps) ifs mt)(he:XP X scope (IJ scope X.N nl caps) elt m) :
  (∀cl C s H BG,Gv (GG X scope (IJ scope X.N nl caps) cl C s H BG) C4 (λx σ H Q=>∃D7 Bu,Lx (IM F.K D7 Bu) g x σ H Q))/\(∀cl C s H BG,PV (GG X scope (IJ scope X.N nl caps) cl C s H BG) ifs (λσ H Q=>∃D7 Bu,HO (IM F.K D7 Bu) mt σ H Q))/\(∀cl C s H BG,Ae (GG X scope (IJ scope X.N nl caps) cl C s H BG) elt (λσ H Q=>∃D7 Bu,C3 (IM F.K D7 Bu) m σ H Q)):=by
 rw[AZ];exact⟨λcl C s H BG pins s' σ A7 v u Q J r⟨D7,Bu,q⟩=>(Ak cl C s H BG D7 Bu).p pins s' σ A7 v u Q J r q,λcl C s H BG pins s' σ A7 Q J⟨D7,Bu,q⟩=>Bi cl C s H BG D7 Bu pins s' σ A7 Q J q,λcl C s H BG pins s' σ A7 Q J⟨D7,Bu,q⟩=>(he cl C s H BG D7 Bu).p pins s' σ A7 Q J q⟩
def afN(nl:Nat)(caps:List Nat)(S:UK X.env.scope X.N scope (IJ scope X.N nl caps) nl caps=true)(AB:PI X F C4 iter mi)(Ak:Q_ X scope (IJ scope X.N nl caps) C4 g)(Bi:BT X scope (IJ scope X.N nl caps) ifs mt)(he:XP X scope (IJ scope X.N nl caps) elt m)(AH:X.calm=true:=by rfl)(AZ:F.K=X.K:=by rfl)(AN:∀x,P6 iter X.env x=pure x:=by intro _;rfl) :
  A_ X F (.ListComp elt [⟨C4,iter,ifs,0⟩] scope pos) (Dw nl caps mi g mt m):=by
 obtain⟨h1,h2,BH⟩:=bK nl caps AZ Ak Bi he;exact⟨Ae.imp (lT (M1.of S) AH AB.p h1 h2 BH AN) jc⟩
def afe(i:Nat)(nl:Nat)(caps:List Nat){y:Str}{py:Pos}(hN:X.N.Nodup)(S:UK X.env.scope X.N scope (IJ scope X.N nl caps) nl caps=true)(AB:PI X F C4 iter mi)(Ak:Q_ X scope (IJ scope X.N nl caps) C4 g)(Bi:BT X scope (IJ scope X.N nl caps) ifs mt)(he:XP X scope (IJ scope X.N nl caps) elt m)(AP:X.N[i]?=some y:=by rfl)(AG:X.env.kindOf y=some .local:=by rfl)(Qv:Nz (.ListComp elt [⟨C4,iter,ifs,0⟩] scope Da) (some (.Name y py)) pos.line X.env=pure true:=by rfl)(AH:X.calm=true:=by rfl)(AZ:F.K=X.K:=by rfl)(AN:∀x,P6 iter X.env x=pure x:=by intro _;rfl) :
  Fw X F (.Assign [.Name y py] (.ListComp elt [⟨C4,iter,ifs,0⟩] scope Da) pos) (Ac (Dw nl caps mi g mt m) (AD i)):=by
 obtain⟨h1,h2,BH⟩:=bK nl caps AZ Ak Bi he;refine⟨DT.imp (abf (M1.of S) AH hN AP AG AB.p h1 h2 BH Qv AN) λDe σ H q=>?_⟩;obtain⟨φ,ρ,h,r,q⟩:=q;refine jc σ H _ ⟨φ,ρ,h,r,E2.bd q λw v Bt h1 H1 Ar x1 a q=>?_⟩;unfold AD at q
 split at q
 .rename_i AB;exact q _ Bt H1 (Ar.set AB a) (Af.refl _ _)
 .exact q.elim
def aft{st:BC}{i:Nat}(h:Fw X F st (Ac m (AD i))):Fw X F st (Ac (Bb m) (AD i)):=⟨DT.imp h.p λDe σ H q=>by
 obtain⟨φ,ρ,h,r,q⟩:=q;refine⟨φ,ρ,h,r,?_⟩;unfold Ac bd Bb at*;cases e:m ρ h with
 |bad=>rw[e]at q;cases q
 |exc c h'=>rw[e]at q;exact q
 |ok p=>
  rw[e]at q;obtain⟨w,h1⟩:=p;obtain⟨CR,h',es⟩:=cW h w h1;simp only[R.bind]at q |-;rw[es]at q;unfold AD at q |-;dsimp only at q |-
  split at q
  .rename_i AB;rw[if_pos AB];intro σ' Bt H1 Ar x1;obtain⟨v,ev,EL⟩:=Ar.Bn i w (JU AB);obtain⟨BE,Fh,d',GS⟩:=cX r.hd x1 Ar.hd EL es;refine q σ' BE H1 ⟨d',r.x0.trans Fh,by simpa using Ar.len,λj u Hj=>?_⟩ Fh;by_cases Ap:i=j
   .subst Ap;rw[JU AB]at Hj;cases Hj;exact⟨v,ev,GS⟩
   .rw[M7 Ap]at Hj;obtain⟨v0,_,HD⟩:=r.Bn j u Hj;obtain⟨v1,A9,a1⟩:=Ar.Bn j u (by rw[M7 Ap];exact Hj);exact⟨v1,A9,AW.ex (⟨Fh.p,λ_ _ e _=>e⟩:Af φ H1 BE H1) (AW.back x1.p HD a1)⟩
  .exact q.elim⟩
def aev {DO x:Str} {k j:Nat} {mf:Bq} {pl:Sem Bool} (c:Hf X.prog X.w X.K X.mg X.base DO x k j mf) (B7:Cz j X.A) (ho:A_ X F o m) (AE:Gx X F (e::es) ma) (P:Sf X F:=by first|exact a8|exact a7) (AZ:F.K=X.K:=by rfl) (s:L_ X e es pos:=by exact{}) (Bi:BZ (.Call (.Attribute o x apos) (e::es) [] pos) X.env=(do
   let CO <-BZ o X.env
   ME apos.atName
   let(f,first) <-J3 [CO] (O0 CO x pl)
   PC pos f first (Fj pos (CJ (e::es) X.env)) (LV pos (LQ [] X.env))):=by rfl):A_ X F (.Call (.Attribute o x apos) (e::es) [] pos) (C_ DO x k mf m ma):=by
 obtain⟨C,f,fd,ps,AV,AH,Co,FH,OB,A2⟩:=c.ex;obtain⟨E,h1,h2⟩:=P.ex;exact⟨Ae.imp (aaV (pl:=pl) ho.p Co FH OB B7 A2 .nil h1 AE.p s.he s.Fy Bi) (be AZ AH h2)⟩
def aew {DO x:Str} {j:Nat} {mf:Bq} {pl:Sem Bool} (c:Hf X.prog X.w X.K X.mg X.base DO x 0 j mf) (B7:Cz j X.A) (ho:A_ X F o m) (P:Sf X F:=by first|exact a8|exact a7) (AZ:F.K=X.K:=by rfl) (Bi:BZ (.Call (.Attribute o x apos) [] [] pos) X.env=(do
   let CO <-BZ o X.env
   ME apos.atName
   let(f,first) <-J3 [CO] (O0 CO x pl)
   PC pos f first (Fj pos (CJ [] X.env)) (LV pos (LQ [] X.env))):=by rfl):A_ X F (.Call (.Attribute o x apos) [] [] pos) (C_ DO x 0 mf m A1):=by
 obtain⟨C,f,fd,ps,AV,AH,Co,FH,OB,A2⟩:=c.ex;obtain⟨E,h1,h2⟩:=P.ex;refine⟨Ae.imp (aaW (pl:=pl) ho.p Co FH OB B7 A2 .nil h1 Bi) λσ H Q q=>?_⟩;obtain⟨φ,ρ,h,r,z⟩:=be (X:=X) AZ AH h2 σ H Q q;exact⟨φ,ρ,h,r,z.imp λv H1⟨a,Bl,B1,A9,AF,Dh,t⟩=>⟨a,Bl,B1,A9,AF,Dh,UI σ H1 _ t⟩⟩
def afP(BI:X.A.units+64<Dp)(ho:A_ X F o m)(he:A_ X F e n)(k:B6.Qe X o "get" apos e Da:=by exact⟨rfl,rfl,rfl,rfl⟩):A_ X F (.Call (.Attribute o "get" apos) [e] [] Da) (Vt m n):=⟨Ae.imp (aap (by lia) ho.p he.p k) wm⟩
def aec(ho:A_ X F o m)(he:A_ X F e n)(k:B6.Qe X o "pop" apos e Da:=by exact⟨rfl,rfl,rfl,rfl⟩):A_ X F (.Call (.Attribute o "pop" apos) [e] [] Da) (R6 m n):=⟨Ae.imp (aas ho.p he.p k) wp⟩
def Dc(ma:EE):Fv:=bd ma λws=>match ws with
 |[.int j]=>if-(2^62)<=j/\j<2^62 then pu (LH 0 j.toNat)else λ_ _=>.bad
 |_=>λ_ _=>.bad
def agJ(hm:X.mg "range"=none)(AE:Gx X F [a] ma)(Ak:EI X "range":=by rfl)(AN:CJ [a] X.env=[(false,BZ a X.env)]:=by rfl):PI X F C4 (.Call (.Name "range" p) [a] [] pos) (Dc ma):=⟨Hg.imp (ac8 Ak hm AE.p AN) λσ H R q=>
 q.bd λws vs φ ρ h H1 r as q=>by
   split at q
   .rename_i j;obtain⟨v,rfl,a⟩:=as.one;simp only[AW]at a;subst a
    split at q
    .rename_i Ap;exact⟨j,rfl,Ap.1,Ap.2,q _ φ H1 r (Af.refl _ _) (mX _ _)⟩
    .exact q.elim
   .exact q.elim⟩
def aa5(ma:EE):Fv:=bd ma λws=>match ws with
 |[.int i,.int j]=>if-(2^62)<=i/\i<2^62/\-(2^62)<=j/\j<2^62 then pu (LH i (j-i).toNat)else λ_ _=>.bad
 |_=>λ_ _=>.bad
def agK(hm:X.mg "range"=none)(AE:Gx X F [a,b] ma)(Ak:EI X "range":=by rfl)(AN:CJ [a,b] X.env=[(false,BZ a X.env),(false,BZ b X.env)]:=by rfl)(H2:CJ [b] X.env=[(false,BZ b X.env)]:=by rfl):PI X F C4 (.Call (.Name "range" p) [a,b] [] pos) (aa5 ma):=⟨Hg.imp (ac9 Ak hm AE.p AN H2) λσ H R q=>
 q.bd λws vs φ ρ h H1 r as q=>by
   split at q
   .rename_i i j;obtain⟨v,Ix,rfl,a,b⟩:=as.two;simp only[AW]at a b;subst a b
    split at q
    .rename_i Ap;exact⟨i,j,rfl,Ap,q _ φ H1 r (Af.refl _ _) (mX _ _)⟩
    .exact q.elim
   .exact q.elim⟩
def Qr(x:Str):Gk:=λi _=>if i=x.cps.size then some none else(x.cps[i]?).map λc=>some (.str ⟨#[c]⟩)
def ago(m:B3):Fv:=bd m λw=>match w with
 |.str x=>pu (Qr x)
 |_=>λ_ _=>.bad
def aeK{K:Aq}{φ:List A4}{H:AC}(x:Str):IS K φ H (Qr x) (fy x):=λi CF h2 AS d _=>by
 unfold Qr;by_cases AB:i=x.cps.size
 .rw[if_pos AB];exact⟨λ_=>AB,λw z=>by cases z⟩
 .rw[if_neg AB];cases e:x.cps[i]? with
  |none=>exact⟨(λz=>by cases z),λw z=>by cases z⟩
  |some c=>exact⟨(λz=>by cases z),λw z=>by
     cases z;exact⟨(Array.getElem?_eq_some_iff.mp e).1,λy A7 AP=>by obtain⟨rfl,G6,BX,rfl⟩:=AP;rw[e]at BX;cases BX;exact⟨d,Af.refl _ _,by simp only[AW]⟩⟩⟩
def PY(w:W):Gk:=λi h=>match L5 h w with
 |some (_,ws)=>if i=ws.length then some none else(ws[i]?).map λx=>some (.tup [.int i,x])
 |none=>none
def Pa(ma:EE):Fv:=bd ma λws ρ h=>match ws with
 |[w]=>match L5 h w with
  |some _=>.ok (PY w,h)
  |none=>.bad
 |_=>.bad
def pR{K:Aq}{φ:List A4}{h:A5}{H:AC}{q:A4}{ws:List W}{xs:List V}(d:D1 K φ h H)(AT:H q=none)(a:Ai K φ H ws xs):D1 K φ h (upd H q (.tup xs))/\Af φ H φ (upd H q (.tup xs))/\AW K φ (upd H q (.tup xs)) (.tup ws) (.ref q):=
 ⟨d.lay AT,Af.lay AT,by simp only[AW];exact⟨q,xs,rfl,E4,a.ex (Af.lay AT)⟩⟩
def uH{φ:List A4}{H:AC}{w:W}{q:A4}(AZ:F.K=X.K)(a:AW F.K φ H w (.ref q)):IS F.K φ H (PY w) (fv X.K q):=λi CF h2 AS d x=>by
 unfold PY;cases es:L5 h2 w with
 |none=>exact⟨(λz=>by cases z),λw z=>by cases z⟩
 |some Od=>
  obtain⟨n,ws⟩:=Od;obtain⟨FF,xs,BX,_,_,AX,BR⟩:=P_ d (a.ex x) es;cases BX;have AX:E_ X.K AS q xs:=.inl (.inl AX);dsimp only;by_cases AB:i=ws.length
  .rw[if_pos AB];exact⟨λ_=>⟨xs,AX,by rw[<-BR.length,AB]⟩,λw z=>by cases z⟩
  .rw[if_neg AB];cases Cp:ws[i]? with
   |none=>exact⟨(λz=>by cases z),λw z=>by cases z⟩
   |some u=>
    obtain⟨v,ev,EL⟩:=BR.get Cp;exact⟨(λz=>by cases z),λCR z=>by
     cases z;exact⟨⟨xs,v,AX,ev⟩,λy A7 AP=>by obtain⟨b,Fh,A2,rfl,rfl,g⟩:=AP;have:=g xs AX;rw[ev]at this;cases this;exact pR d A2 (.cons (by simp only[AW]) (.cons EL .nil))⟩⟩
def agI{elts:List Al}{k:Nat}{Pt:Pos}(hm:X.mg "enumerate"=none)(AE:Gx X F [a] ma)(AZ:F.K=X.K:=by rfl)(Ak:EI X "enumerate":=by rfl)(AN:CJ [a] X.env=[(false,BZ a X.env)]:=by rfl):PI X F (.Tuple elts k Pt) (.Call (.Name "enumerate" p) [a] [] pos) (Pa ma):=⟨Hg.imp (ac6 Ak hm AE.p AN) λσ H R q=>
 q.bd λws vs φ ρ h H1 r as q=>by
   split at q
   .obtain⟨v,rfl,a⟩:=as.one
    split at q
    .rename_i nw es;obtain⟨n,us⟩:=nw;obtain⟨CT,xs,rfl,_,_,AX,BR⟩:=P_ r.hd a es;exact⟨CT,rfl,⟨xs,.inl (.inl AX)⟩,q _ φ H1 r (Af.refl _ _) (uH AZ a)⟩
    .exact q.elim
   .exact q.elim⟩
def aE(x:Str)(us:List W):Gk:=λi _=>if i=min x.cps.size us.length then some none else match x.cps[i]?,us[i]? with
 |some c,some u=>some (some (.tup [.str ⟨#[c]⟩,u]))
 |_,_=>none
def VC(ma:EE):Fv:=bd ma λws ρ h=>match ws with
 |[.str x,w]=>match EC h w with
  |some (true,us)=>.ok (aE x us,h)
  |_=>.bad
 |_=>.bad
def agL{elts:List Al}{k:Nat}{Pt:Pos}(hm:X.mg "zip"=none)(AE:Gx X F [a,b] ma)(AZ:F.K=X.K:=by rfl)(Ak:EI X "zip":=by rfl)(AN:CJ [a,b] X.env=[(false,BZ a X.env),(false,BZ b X.env)]:=by rfl)(H2:CJ [b] X.env=[(false,BZ b X.env)]:=by rfl):PI X F (.Tuple elts k Pt) (.Call (.Name "zip" p) [a,b] [] pos) (VC ma):=⟨Hg.imp (acB Ak hm AE.p AN H2) λσ H R q=>
 q.bd λws vs φ ρ h H1 r as q=>by
   split at q
   .rename_i x w;obtain⟨v,Ix,rfl,a,b⟩:=as.two;simp only[AW]at a;subst a
    split at q
    .rename_i us es;obtain⟨CT,ys,rfl,AX,BR⟩:=Ij r.hd b es;have AX:Ea F.K H1 CT ys:=AX;refine⟨x,CT,rfl,⟨ys,AZ▸AX⟩,q _ φ H1 r (Af.refl _ _) λi CF h2 AS d x2=>?_⟩;have cL:Ea X.K AS CT ys:=AZ▸Ea.ex x2 AX;have Sx:=BR.ex x2;unfold aE;by_cases AB:i=min x.cps.size us.length
     .rw[if_pos AB];exact⟨λ_=>⟨ys,cL,by rw[<-BR.length];exact AB⟩,λw z=>by cases z⟩
     .rw[if_neg AB];cases A9:x.cps[i]? with
      |none=>exact⟨(λz=>by cases z),λw z=>by cases z⟩
      |some c=>
       cases AF:us[i]? with
       |none=>exact⟨(λz=>by cases z),λw z=>by cases z⟩
       |some u=>
        obtain⟨y,DP,GY⟩:=Sx.get AF;exact⟨(λz=>by cases z),λCR z=>by
         cases z;exact⟨⟨(Array.getElem?_eq_some_iff.mp A9).1,ys,y,cL,DP⟩,λv A7 AP=>by obtain⟨Hh,G6,TG,f1,f2,rfl,rfl,Fx⟩:=AP;rw[A9]at f1;cases f1;have:=Fx ys cL;rw[DP]at this;cases this;exact pR d f2 (.cons (by simp only[AW]) (.cons GY .nil))⟩⟩
    .exact q.elim
   .exact q.elim⟩
end
end C0
namespace C0
open PySem PySem.Spec B6 PyProof.Rows
section
variable{X:Ao}{F:Cx}{e a b c o:Al}{es:List Al}{pos p Ct apos Da:Pos}{m n l:B3}{ma:EE}{C4 iter:Al}{st:BC}
def afd:Fw X F st (λ_ _=>.bad):=⟨DT.imp abl λDe σ H⟨_,_,_,_,q⟩=>q⟩
def afE{Pr:List BC}:Ks X F Pr (λ_ _=>.bad):=⟨Gw.imp abN λDe σ H⟨_,_,_,_,q⟩=>q⟩
def lD:FA:=λx y H Q=>∃q v,x=.ref q/\J6 H q y (some v)/\Q v H
def xf(BI:X.A.units+64<Dp):NK X lD:=by intro value slice pins s σ H x y v u Q J At Bf h AN;obtain⟨q,z,rfl,g,h⟩:=h;obtain rfl:v=Cj q:=At;exact tail_any (gZ J g) PySem.F.slot_dict_getitem.lookup (hD (by lia) J g Bf λCR s3 D8 IA=>⟨z,H,D8,IA,h⟩) AN
def AA:Io:=λx y h=>match Gz h x y with
 |some (some w)=>.ok (w,h)
 |some none=>.bad
 |none=>Q9 x y h
def ab0(AZ:F.K=X.K):Hz F (λx y H Q=>lD x y H Q\/cx X.K x y H Q) AA:=by
 intro σ ρ φ h H x y G2 Gb Q r a1 a2 q;unfold AA at q
 split at q
 .rename_i w e;obtain⟨k,CO,rfl,g,F3⟩:=Y5 r.hd e a1 a2;cases CO with
  |none=>cases F3
  |some v=>exact .inl ⟨k,v,rfl,g,q v φ H r (Af.refl _ _) F3⟩
 .exact q.elim
 .exact .inr (aaz AZ σ ρ φ h H x y G2 Gb Q r a1 a2 q)
def aem(BI:X.A.units+64<Dp)(AE:A_ X F a m)(A2:A_ X F b n)(AN:fP b)(AZ:F.K=X.K:=by rfl):A_ X F (.Subscript a b pos) (A0 AA m n):=⟨Ae.imp (aaR ((xf BI).or xh) AE.p A2.p AN) (Fe (ab0 AZ))⟩
def cu(k:Bool):FA:=λx y H Q=>∃q CO,y=.ref q/\J6 H q x CO/\Q (.AL (if k then CO.isSome else !CO.isSome)) H
def Zu(BI:X.A.units+64<Dp):Dg X (Ft .In) (cu true)/\Dg X (Ft .NotIn) (cu false):=by
 refine⟨?_,?_⟩<;>
 .intro pins s σ H x y v u Q J At Bf h;obtain⟨q,CO,rfl,g,h⟩:=h;obtain rfl:u=Cj q:=Bf
  first
   |exact ss (by lia) J g At λs3 D8=>⟨.AL CO.isSome,H,D8,rfl,h⟩
   |exact su (by lia) J g At λs3 D8=>⟨.AL (!CO.isSome),H,D8,rfl,h⟩
def DH(k:Bool):Io:=λx y h=>match Gz h y x with
 |some o=>.ok (.AL (if k then o.isSome else !o.isSome),h)
 |none=>YX k x y h
def Zp(AZ:F.K=X.K)(k:Bool):Hz F (λx y H Q=>cu k x y H Q\/a9 X.K k x y H Q) (DH k):=by
 intro σ ρ φ h H x y G2 Gb Q r a1 a2 q;unfold DH at q
 split at q
 .rename_i o e;obtain⟨d,CO,rfl,g,F3⟩:=Y5 r.hd e a2 a1;rw[F3.is]at q;exact .inl ⟨d,CO,rfl,g,q _ φ H r (Af.refl _ _) (NT _)⟩
 .exact .inr (aay AZ k σ ρ φ h H x y G2 Gb Q r a1 a2 q)
def aej(BI:X.A.units+64<Dp)(AE:A_ X F a m)(A2:A_ X F b n)(AZ:F.K=X.K:=by rfl)(hm:M8 .In b=false:=by with_unfolding_all rfl):A_ X F (.Compare a [.In] [b] pos) (A0 (DH true) m n):=⟨Ae.imp (Lr ((Zu BI).1.or (Zw BI).1) AE.p A2.p hm) (Fe (Zp AZ true))⟩
def afS(BI:X.A.units+64<Dp)(AE:A_ X F a m)(A2:A_ X F b n)(AZ:F.K=X.K:=by rfl)(hm:M8 .In b=false:=by with_unfolding_all rfl):Fa X F (.Compare a [.In] [b] pos) (AY (A0 (DH true) m n)):=⟨EJ.imp (Ls ((Zu BI).1.or (Zw BI).1) AE.p A2.p hm) λσ H Q q=>Fe (Zp AZ true) σ H _ (KI σ H Q q)⟩
def aeU(BI:X.A.units+64<Dp)(AE:A_ X F a m)(A2:A_ X F b n)(AZ:F.K=X.K:=by rfl)(hm:M8 .NotIn b=false:=by with_unfolding_all rfl):A_ X F (.Compare a [.NotIn] [b] pos) (A0 (DH false) m n):=⟨Ae.imp (Lr ((Zu BI).2.or (Zw BI).2) AE.p A2.p hm) (Fe (Zp AZ false))⟩
def afY(BI:X.A.units+64<Dp)(AE:A_ X F a m)(A2:A_ X F b n)(AZ:F.K=X.K:=by rfl)(hm:M8 .NotIn b=false:=by with_unfolding_all rfl):Fa X F (.Compare a [.NotIn] [b] pos) (AY (A0 (DH false) m n)):=⟨EJ.imp (Ls ((Zu BI).2.or (Zw BI).2) AE.p A2.p hm) λσ H Q q=>Fe (Zp AZ false) σ H _ (KI σ H Q q)⟩
def xT(K:Aq)(Im:TE):TI:=λσ H R=>Im σ H λx H1=>(∃q,x=.ref q/\(∃xs,E_ K H1 q xs)/\R (fx K q) H1)\/(∃q,x=.ref q/\(∃xs,Ea K H1 q xs)/\R (fz K q) H1)\/∃z,x=.str z/\R (fy z) H1
def ac5{e:Al}{Im:TE}(AG:Ae X e Im):Hg X C4 e (xT X.K Im):=by
 intro pins s σ H R J h;refine BN (AG pins s σ H _ J h) λv s1⟨x,H1,Ab,Ar,q1⟩=>?_;rcases q1 with⟨q,rfl,⟨xs,AX⟩,k⟩|⟨q,rfl,⟨xs,AX⟩,k⟩|⟨z,rfl,k⟩
 .cases Ar;obtain⟨its,C6,pl,hz⟩:=Ab.list AX;refine ee pl.isList ?_;refine⟨s1.heap.objs.size,[s1.heap.objs.size],_,_,H1,rfl,Ab.kept (t':=s1.toks) λb o e=>Cw _ e,adn q _,⟨_,F_ _ rfl,rfl,rfl⟩,λb A2=>?_,k⟩;have e:b=s1.heap.objs.size:=by simpa using A2
  subst e;exact Ab.NG (CB _) (Ab.Aw.fresh (CB _))
 .cases Ar;obtain⟨its,C6,pl,hz⟩:=Ab.tuple AX;refine wpAny_pyIter_tuple (show s1.heap.IsTuple q its.toArray from pl) ?_;refine⟨s1.heap.objs.size,[s1.heap.objs.size],_,_,H1,rfl,Ab.kept (t':=s1.toks) λb o e=>Cw _ e,adq q _,⟨_,F_ _ rfl,rfl,rfl⟩,λb A2=>?_,k⟩;have e:b=s1.heap.objs.size:=by simpa using A2
  subst e;exact Ab.NG (CB _) (Ab.Aw.fresh (CB _))
 .obtain⟨t,rfl⟩:=Ar;refine wpAny_pyIter_strU ?_;refine⟨s1.heap.objs.size,[s1.heap.objs.size],_,_,H1,rfl,Ab.kept (t':=s1.toks) λb o e=>Cw _ e,adp _ z t,⟨_,F_ _ rfl,rfl,rfl⟩,λb A2=>?_,k⟩;have e:b=s1.heap.objs.size:=by simpa using A2
  subst e;exact Ab.NG (CB _) (Ab.Aw.fresh (CB _))
def E8(m:B3):Fv:=bd m λw ρ h=>match w with
 |.str x=>.ok (Qr x,h)
 |w=>match EC h w with
  |some _=>.ok (GA w,h)
  |none=>.bad
def agH(h:A_ X F e m)(AZ:F.K=X.K:=by rfl):PI X F C4 e (E8 m):=⟨Hg.imp (ac5 h.p) λσ H R q=>
 q.bd λw v φ ρ h H1 r a q=>by
   split at q
   .rename_i x;simp only[AW]at a;exact .inr (.inr ⟨x,a,q _ φ H1 r (Af.refl _ _) (aeK x)⟩)
   .split at q
    .rename_i Od es;obtain⟨t,ws⟩:=Od;obtain⟨CT,xs,rfl,AX,BR⟩:=Ij r.hd a es;cases t with
     |false=>have hw:=(ZX es).mp rfl;exact .inl ⟨CT,rfl,⟨xs,AZ▸AX⟩,q _ φ H1 r (Af.refl _ _) (zz AZ a rfl λCF h2 AS _ _ t ws e=>(ZX e).mpr hw)⟩
     |true=>
      refine .inr (.inl ⟨CT,rfl,⟨xs,AZ▸AX⟩,q _ φ H1 r (Af.refl _ _) (dB AZ a rfl λh2 t ws' AF=>?_)⟩);cases t with
      |true=>rfl
      |false=>have hw:=(ZX AF).mp rfl;exact(ZX es).mpr hw|>.symm
    .exact q.elim⟩
theorem p9:∀{bs:List Bool}{us:List A6},Vals (bs.map V.AL) us->us=bs.map QU
 |[],_,r=>by cases r;rfl
 |b::bs,_,r=>by
  cases r with
  |cons Ar BD=>cases Ar;rw[p9 BD];rfl
def t8(AH:X.calm=true)(Rf:X.A.handled=none):J5 X (.builtin "all") (λxs H Q=>∃(p:A4)(bs:List Bool),xs=[.ref p]/\E_ X.K H p (bs.map V.AL)/\Q (.AL (bs.all id)) H):=by
 intro pins s σ H xs us Q J r h;obtain⟨p,bs,rfl,AX,q⟩:=h;obtain⟨u,rfl,Fo⟩:=vals1 r;cases Fo;obtain⟨its,C6,pl,hz⟩:=J.list AX;have G7:=p9 C6;refine call_all_walk (ee pl.isList ?_);have KH:p≠s.heap.objs.size:=by obtain⟨o,ho,_⟩:=pl.isList;exact Ei (DB ho)
 refine⟨s.heap.objs.size,_,_,_,_,_,λi=>(bs[i]?).getD true,rfl,Walks.list (prog:=X.prog) (w:=X.w) (A:=X.A.in1) Rf s.heap.objs.size p KH its.toArray,⟨⟨_,F_ _ rfl,rfl,rfl⟩,pl.isList.push _⟩,?_,λh' CL G_=>?_⟩
 .intro i v s' HT ahJ Dl aS;rw[G7]at Dl;have Dl:(bs.map QU)[i]?=some v:=by simpa using Dl
  rw[Ed]at Dl;cases BF:bs[i]? with
  |none=>rw[BF]at Dl;cases Dl
  |some b=>rw[BF]at Dl;have ev:QU b=v:=GU Dl;subst ev;dsimp only at aS;rw[BF]at aS;exact MB aS
 .have Ud:(CW its.toArray.size).all (λi=>(bs[i]?).getD true)=bs.all id:=by
    have AG:its.toArray.size=bs.length:=by rw[G7];simp
    rw[AG,Ww,Tk,Tk];constructor
    .intro hh x AK;obtain⟨i,AB,rfl⟩:=List.mem_iff_getElem.mp AK;have:=hh i (List.mem_range.mpr AB);rw[Cc AB]at this;exact this
    .intro hh i AB;have AB:=List.mem_range.mp AB;rw[Cc AB];exact hh _ (LS AB)
  rw[Ud];exact⟨.AL _,H,J.kept (t':=CL) λb o AF=>G_ b o (by
   intro z;have z:b=s.heap.objs.size:=by simpa using z
   exact absurd (DB AF) (by rw[z];exact Iy _)) (Cw _ AF),rfl,q⟩
def afG{k:Nat}(B7:Cz k X.A)(hm:X.mg "all"=none)(AE:Gx X F [e] ma)(AH:X.calm=true:=by rfl)(AZ:F.K=X.K:=by rfl)(Ak:EI X "all":=by rfl)(s:L_ X e [] pos:=by exact{}):A_ X F (.Call (.Name "all" p) [e] [] pos) (Az (I9 true) ma):=⟨Ae.imp (Vb (t8 AH B7.hd) Ak hm (by kernel_rfl) AE.p (by decide) (by decide) s.he s.Fy) (Q7 (ab5 AZ true))⟩
end
end C0
namespace B6
open PySem PySem.Spec PyProof.Rows
section
variable{X:Ao}{a e:Al}{Bp:FV}{pos p pos' FF:Pos}
theorem pB:∀{xs:List V}{us:List A6},xs.length=us.length->(∀(i:Nat) x y,xs[i]?=some x->us[i]?=some y->RelV x y)->Vals xs us
 |[],[],_,_=>.nil
 |[],_::_,h,_=>by simp at h
 |_::_,[],h,_=>by simp at h
 |x::xs,u::us,h,f=>.cons (f 0 x u (by simp) (by simp)) (pB (by simpa using h) λi a b A9 AF=>f (i+1) a b (by simpa using A9) (by simpa using AF))
def yQ{pins:List (A4×Obj)}{σ :St}{H1:AC}{s2:AM}{Q:CK}{r:A4}{j:Int}{t u v:Tok}(BS:Inv X pins σ H1 s2)(AH:X.calm=true)(B7:IsRange s2.heap r 0 j 1 t u v)(q1: -(2^62)<=j)(q2:j<=1000000)(q:∀l,H1 l=none->Q (.ref l) (upd H1 l (.lst ((CW j.toNat).map λi=>.int (i:Nat))))):Ag (Av X.prog X.w) X.A (call (.type "list") [.ref r]) (Gj X pins σ Q) X.Cr s2:=by
 have AV:qc 0 j 1=(j.toNat:Nat):=by rw[rangeSize_one];split<;>lia
 refine call_list_range (BS.ok.hd AH) B7 (small_one (by lia) (by lia) (by lia) (by lia)) AV (by lia) λh' CL YB G6 Bc e it=>?_;obtain⟨acc,rfl⟩:∃l:List A6,YB=l.toArray:=⟨YB.toList,by simp⟩;have B_:Vals ((CW j.toNat).map λi=>V.int ((i:Nat):Int)) acc:=by
  have AG:acc.length=j.toNat:=by simpa using it.1
  refine pB ?_ ?_
  .simp[AG]
  .intro i x y A9 AF;rw[Ed]at A9;have AB:i<j.toNat:=by rw[<-AG];exact(List.getElem?_eq_some_iff.mp AF).1
   rw[Tr AB]at A9;cases A9;obtain⟨tt,rfl⟩:=it.2 i y (by simpa using AF);exact⟨tt,by simp⟩
 exact⟨.ref _,_,BS.laid (t':=CL) Bc (CB _) (show Dr X.prog X.w _ h' _ (.lst _)from⟨I_ (m:=1000000) (by simp;lia) (by decide),acc,G6,B_,e⟩),rfl,q _ (BS.Aw.fresh (CB _))⟩
def lH:List V->AC->CK->Prop:=λvs H1 Q=>∃j:Int,vs=[.int j]/\-(2^62)<=j/\j<=1000000/\∀l,H1 l=none->Q (.ref l) (upd H1 l (.lst ((CW j.toNat).map λi=>.int (i:Nat))))
def aaS(Ak:EI X "list")(hm:X.mg "list"=none)(Uh:EI X "range")(Mr:X.mg "range"=none)(AH:X.calm=true)(AE:Gl X [a] Bp)(AN:CJ [a] X.env=[(false,BZ a X.env)]:=by rfl)(H2:CJ [.Call (.Name "range" FF) [a] [] pos'] X.env=[(false,BZ (.Call (.Name "range" FF) [a] [] pos') X.env)]:=by rfl) :
  Ae X (.Call (.Name "list" p) [.Call (.Name "range" FF) [a] [] pos'] [] pos) (WR lH Bp):=by
 intro pins s σ H Q J h;refine Tt (Ot (u:=.type "list") J Ak hm (by kernel_rfl) ?_);refine QD ?_ H2 rfl;rw[H2];refine Ts ?_;refine Call_ (Ot J Uh Mr boot_range (QD (BN (AE pos' pins s σ H _ J h) λus s1⟨vs,H1,Ab,Ar,q1⟩=>?_) AN rfl));obtain⟨j,e,q1,q2,q⟩:=q1;subst e;cases Ar with
 |cons r KU=>cases KU;obtain⟨t,rfl⟩:=r;refine call_range_1 (Tg ?_);exact yQ (Ab.kept λb o e=>Cw _ e) AH (IsRange.new ..) q1 q2 q
theorem kE:∀{AI:List Int}{us:List A6},Vals (AI.map V.int) us->us.map numOf=AI/\∀v∈us,∃k t,v=.int k t
 |[],us,r=>by cases r;exact⟨rfl,λv B_=>by simp at B_⟩
 |k::AI,us,r=>by
  rw[D3]at r;cases r with
  |cons a b=>
   obtain⟨t,rfl⟩:=a;obtain⟨e,g⟩:=kE b;refine⟨by rw[D3,e];rfl,λv B_=>?_⟩;rcases List.mem_cons.mp B_ with rfl|B_
   .exact⟨k,t,rfl⟩
   .exact g v B_
theorem bo:∀{vs:List A6},(∀v∈vs,∃k t,v=.int k t)->Vals ((vs.map numOf).map V.int) vs
 |[],_=>.nil
 |v::vs,h=>by obtain⟨k,t,rfl⟩:=h v (by simp);exact .cons ⟨t,rfl⟩ (bo λu BI=>h u (by simp[BI]))
theorem lO{P:C5}{w:Bo}:∀{es:List LW}{vs:List (Key×A6)}{A8:List (Key×V)}{AI:List Int},Pairs (GM P w) es vs->ES A8 vs->A8.map (·.1)=AI.map MC->(es.map (·.key)).map numOf=AI/\∀v∈es.map (·.key),∃k t,v=.int k t
 |_,_,_,AI,.nil,.nil,e=>by
  cases AI with
  |nil=>exact⟨rfl,λ_ h=>nomatch h⟩
  |cons _ _=>cases e
 |_,_,_,AI,.cons a _ p,.cons b r,e=>by
  cases AI with
  |nil=>cases e
  |cons k AI=>
   simp only[D3,f7]at e;obtain⟨A9,AF⟩:=e;obtain⟨BB,Bm⟩:=lO p r AF;rw[kk,<-b.1,A9]at a;rcases Mx a with⟨i,t,z,Hk⟩|⟨x,t,z,Hk⟩
   .cases z;refine⟨by rw[D3,D3,BB,Hk];rfl,λv B_=>?_⟩;rcases List.mem_cons.mp B_ with rfl|B_
    .exact⟨k,t,Hk⟩
    .exact Bm v B_
   .cases z
noncomputable def kp(K:Aq):List V->AC->CK->Prop:=λxs H Q=>∃p AI,xs=[.ref p]/\(E_ K H p (AI.map V.int)\/∃A8,K6 H p (.Aj A8)/\A8.map (·.1)=AI.map MC)/\AI.length<64/\
 ∀l,H l=none->Q (.ref l) (upd H l (.lst ((LT.Jt AI).map V.int)))
def tG(AH:X.calm=true):J5 X (.builtin "sorted") (kp X.K):=by
 intro pins s σ H xs us Q J r h;obtain⟨p,AI,rfl,AX,AV,q⟩:=h;obtain⟨u,rfl,At⟩:=vals1 r;cases At;have kY:(LT.Jt AI).length=AI.length:=(Tq _ _).length_eq;rcases AX with AX|⟨A8,AX,DG⟩
 .obtain⟨its,BW,pl,hz⟩:=J.list AX;have hlen:=BW.length;rw[CS]at hlen;obtain⟨As,aQ⟩:=kE BW;refine sorted_ints pl.isList (intsAre_map its aQ) (by lia) λout ns' a1 a2 GT=>?_;obtain⟨Cn,Dm,YQ⟩:=LT.oL a1 a2 GT;rw[As]at YQ;have W2:=bo Dm;rw[YQ]at W2;obtain⟨An,he⟩:=sortedAll_at s.heap its out;exact⟨.ref (s.heap.objs.size+1),_,J.laid (a:=s.heap.objs.size+1) (t':=s.toks) (λb o e=>sortedAll_old e) (PB _) (show Dr X.prog X.w _ _ _ (.lst ((LT.Jt AI).map V.int))from⟨by rw[CS,LP];lia,out.toList,An,W2,by simpa using he⟩),rfl,q _ (J.Aw.fresh (PB _))⟩
 .obtain⟨z,hd,vs,rel,o,es,An,g1,g2,g3,g4,Ky,Ys⟩:=NC J.Aw AX;obtain⟨As,aQ⟩:=lO Ky rel DG;have AG:=congrArg U5 As;rw[CS]at AG;refine LT.ae4 (J.ok.hd AH) hd ⟨o,g1,g2,g3⟩ rfl (by lia) aQ λvs l h' CL e lv Gc ev AT Bc gl=>?_;rw[As]at ev;have W2:=bo Gc;rw[ev]at W2;exact⟨.ref l,_,J.laid (a:=l) (t':=CL) Bc AT (show Dr X.prog X.w _ _ _ (.lst ((LT.Jt AI).map V.int))from⟨by rw[CS,LP];lia,vs,e,W2,gl⟩),rfl,q l (J.Aw.fresh AT)⟩
end
end B6
namespace C0
open PySem PySem.Spec B6
def CU{N P:List Str}{sc:F7}(a:sc.kind=.function:=by rfl)(b:sc.isCoroutine=false:=by rfl)(c:sc.isGenerator=false:=by rfl)(d:N.Nodup:=by decide+kernel)(e:N.take P.length=P:=by rfl)(f:∀x∈P,sc.names.lookup x=some .local\/sc.names.lookup x=some .cell:=by decide+kernel)(g:∀y∈sc.names,y.2≠.free:=by decide+kernel):C7 N P sc:=⟨a,b,c,d,e,f,g⟩
section
variable{X:Ao}{F:Cx}{e a b o:Al}{es:List Al}{pos p Ct:Pos}{m n:B3}{ma:EE}{C4:Al}{g:D9}
def YP:R (F9×A5)->R (F9×A5)
 |.ok (.AR ρ,h)=>.ok (.AR ρ,h)
 |.ok _=>.bad
 |.exc c h=>.exc c h
 |.bad=>.bad
def zx{φ:List A4}{H:AC}{De:Ends}:∀{r:R (F9×A5)},E2 F φ H De (YP r)->E2 F φ H ⟨De.AR,λ_ _=>False,λ_ _=>False,λ_ _=>False⟩ r
 |.ok (.AR _,_),k=>k
 |.ok (.EA _,_),k|.ok (.BU _,_),k|.ok (.DA _,_),k=>k.elim
 |.exc _ _,k=>k
 |.bad,k=>k
def Oz(m:B3)(g:D9):Am:=bd m λw ρ h=>YP (g w ρ h)
def afc(B_:A_ X F e m)(Ak:RL X F C4 g)(h1:swapsWithSole [C4] e pos.line X.env=pure false:=by rfl)(h2:swappedStores [C4] e X.env=pure none:=by rfl)(BH:(LX [C4] X.env).map (·.2)=[Ke C4 X.env]:=by rfl):Fw X F (.Assign [C4] e pos) (Oz m g):=⟨DT.imp (lh B_.p Ak.p h1 h2 BH) λDe σ H q=>
 q.bd λw x φ ρ h H1 r a q=>⟨φ,ρ,h,w,r,a,zx q⟩⟩
def IR(AI:List Int):List W:=AI.map W.int
theorem bn{K:Aq}{φ:List A4}{H:AC}:∀AI:List Int,Ai K φ H (IR AI) (AI.map V.int)
 |[]=>.nil
 |_::AI=>.cons (by simp only[AW]) (bn AI)
def Ow:Kl:=λws h=>match ws with
 |[.int j]=>if-(2^62)<=j/\j<=1000000 then nw .lst (IR ((CW j.toNat).map λi:Nat=>(i:Int))) h else .bad
 |_=>.bad
def ab3:OE F lH Ow:=by
 intro σ ρ φ h H xs ws Q r as q;unfold Ow at q
 split at q
 .rename_i j;obtain⟨v,rfl,a⟩:=as.one;simp only[AW]at a;subst a
  split at q
  .rename_i Ap;refine⟨j,rfl,Ap.1,Ap.2,λl AG=>OS r q AG E4 ?_⟩;have:=bn (K:=F.K) (φ:=φ) (H:=H) ((CW j.toNat).map λi:Nat=>(i:Int));rw[List.map_map]at this;exact this
  .exact q.elim
 .exact q.elim
def aer(hm:X.mg "list"=none)(Mr:X.mg "range"=none)(AE:Gx X F [a] ma)(AH:X.calm=true:=by rfl)(Ak:EI X "list":=by rfl)(Uh:EI X "range":=by rfl){FF pos':Pos}(AN:CJ [a] X.env=[(false,BZ a X.env)]:=by rfl)(H2:CJ [.Call (.Name "range" FF) [a] [] pos'] X.env=[(false,BZ (.Call (.Name "range" FF) [a] [] pos') X.env)]:=by rfl) :
  A_ X F (.Call (.Name "list" p) [.Call (.Name "range" FF) [a] [] pos'] [] pos) (Az Ow ma):=⟨Ae.imp (aaS Ak hm Uh Mr AH AE.p AN H2) (Q7 ab3)⟩
def intsOf:List W->Option (List Int)
 |[]=>some []
 |.int i::ws=>(intsOf ws).map (i::·)
 |_=>none
theorem j0{K:Aq}{φ:List A4}{H:AC}:∀{ws:List W}{AI:List Int}{xs:List V},intsOf ws=some AI->Ai K φ H ws xs->xs=AI.map V.int
 |[],AI,xs,e,a=>by simp only[intsOf]at e;cases e;simp only[Ai]at a;exact a
 |w::ws,AI,xs,e,a=>by
  cases w<;>simp only[intsOf]at e<;>first|(cases e;done)|skip
  simp only[Ai,AW]at a;obtain⟨v,r,rfl,rfl,t⟩:=a;cases BX:intsOf ws with
  |none=>rw[BX]at e;cases e
  |some Qy=>rw[BX]at e;cases e;rw[j0 BX t];rfl
def QA:List Key->Option (List Int)
 |[]=>some []
 |.inl i::AI=>(QA AI).map (i::·)
 |_=>none
theorem jF:∀{AI:List Key}{Qy:List Int},QA AI=some Qy->AI=Qy.map MC
 |[],Qy,e=>by simp only[QA]at e;cases e;rfl
 |k::AI,Qy,e=>by
  cases k<;>simp only[QA]at e<;>first|(cases e;done)|skip
  cases BX:QA AI with
  |none=>rw[BX]at e;cases e
  |some Qy=>rw[BX]at e;cases e;rw[jF BX];rfl
def YO(h:A5)(w:W):Option (List Int):=match w with
 |.ref n=>match h[n]? with
  |some ⟨.Aj AI,_⟩=>QA AI
  |_=>(EC h w).bind λp=>if p.1=false then intsOf p.2 else none
 |_=>none
def Mc:Kl:=λws h=>match ws with
 |[w]=>match YO h w with
  |some AI=>if AI.length<64 then nw .lst (IR (LT.Jt AI)) h else .bad
  |none=>.bad
 |_=>.bad
def zv{K:Aq}{φ:List A4}{h:A5}{H:AC}{w:W}{v:V}{AI:List Int}(d:D1 K φ h H)(a:AW K φ H w v)(e:YO h w=some AI):∃p,v=.ref p/\(E_ K H p (AI.map V.int)\/∃A8,K6 H p (.Aj A8)/\A8.map (·.1)=AI.map MC):=by
 unfold YO at e
 split at e
 .split at e
  .rename_i Qy ws As;obtain⟨q,xs,rfl,_,⟨A8,AE,A9,AF⟩,BR⟩:=d.at As a;exact⟨q,rfl,.inr ⟨A8,.inl AE,A9.trans (jF e)⟩⟩
  .cases es:EC h (.ref _)with
   |none=>rw[es]at e;cases e
   |some p=>
    obtain⟨t,us⟩:=p;rw[es]at e;obtain⟨q,xs,rfl,AX,BR⟩:=Ij d a es;cases t with
    |true=>cases e
    |false=>have e:intsOf us=some AI:=e;rw[j0 e BR]at AX;exact⟨q,rfl,.inl AX⟩
 .cases e
def ab6(AZ:F.K=X.K):OE F (kp X.K) Mc:=by
 intro σ ρ φ h H xs ws Q r as q;unfold Mc at q
 split at q
 .obtain⟨v,rfl,a⟩:=as.one
  split at q
  .rename_i AI e;obtain⟨p,rfl,AT⟩:=zv r.hd a e;rw[AZ]at AT
   split at q
   .rename_i AG;exact⟨p,AI,rfl,AT,AG,λl AG=>OS r q AG E4 (bn _)⟩
   .exact q.elim
  .exact q.elim
 .exact q.elim
def ag4(hm:X.mg "sorted"=none)(AE:Gx X F [e] ma)(AH:X.calm=true:=by rfl)(AZ:F.K=X.K:=by rfl)(Ak:EI X "sorted":=by rfl)(s:L_ X e [] pos:=by exact{}):A_ X F (.Call (.Name "sorted" p) [e] [] pos) (Az Mc ma):=⟨Ae.imp (Vb (tG AH) Ak hm (by kernel_rfl) AE.p (by decide) (by decide) s.he s.Fy) (Q7 (ab6 AZ))⟩
end
end C0
namespace B6
open PySem PySem.Spec PyProof.Rows
section
variable{X:Ao}{st:BC}{t:Eu}
theorem DT.GN(h:DT X.GN st t):DT X st t:=λpins s σ H D J hw=>
 HB (h pins s σ H D (J.K_ _) hw) (λ_ _ q=>q.KZ) λ_ _ z=>HC z
end
section
variable{X:Ao}{pins:List (A4×Obj)}{σ :St}{H:AC}{s:AM}{r:A4}
def Inv.swap(J:Inv X pins σ H s){o o':Et}(e:H r=some o)(ok:Dr X.prog X.w (upd H r o') s.heap r o')(DC:∀xs,o≠.tup xs)(Dx:∀x,o≠.own x)(Ql:∀ps,o≠.Ob ps)(KP:∀BJ u,X.M3 r≠some (.DR BJ u)):Inv X pins σ (upd H r o') s:=by
 have ne:∀{b:A4},H b=none->b≠r:=λz q=>by subst q;rw[e]at z;cases z
 have Bc:∀{b:A4}{u:Et},H b=some u->u≠o->upd H r o' b=some u:=λ{b u} z q=>by
  by_cases A2:b=r
  .subst A2;rw[e]at z;cases z;exact absurd rfl q
  .rw[D6 A2];exact z
 refine⟨J.ok,J.os,J.bare,⟨J.base.keep,J.base.slot,λb BJ h1 h2 BH=>?_,J.base.there,λb xs q=>Bc (J.base.Iw b xs q) λz=>DC xs z.symm,λb BJ u q=>?_,λb ps q=>?_⟩,J.loc,J.cell,?_,λx c q=>?_,λp AT=>?_,λa u q=>?_,J.len⟩
 .have:=J.base.free b BJ h1 h2 BH;rw[D6 (ne this)];exact this
 .by_cases A2:b=r
  .subst A2;exact absurd q (KP BJ u)
  .rw[D6 A2];exact J.base.Hl b BJ u q
 .obtain⟨more,q⟩:=J.base.Il b ps q;exact⟨more,Bc q λz=>Ql _ z.symm⟩
 .rw[D6 (ne J.free)];exact J.free
 .rw[D6 (ne (J.KF x c q))];exact J.KF x c q
 .obtain⟨h1,h2,BH⟩:=J.pin p AT;exact⟨h1,by rw[D6 (ne h2)];exact h2,BH⟩
 .by_cases AE:a=r
  .subst AE;rw[E4]at q;cases q;exact ok
  .rw[D6 AE]at q;exact(J.Aw a u q).NX (λ_ _ _ z=>z) (λb z=>Bc z λy=>Dx _ y.symm) λb xs z=>Bc z λy=>DC _ y.symm
end
def fw(a:A4)(o:Obj)(A8:List (Key×V)):It:=
 ⟨λi H=>H a=some (.DR o (.Aj A8))/\i<A8.length,λi H x A7=>A7=H/\∃Bv,A8[i]?=some Bv/\x=Cm Bv.1,λi H=>H a=some (.DR o (.Aj A8))/\i=A8.length⟩
theorem lP{P:C5}{w:Bo}:∀{es:List LW}{vs:List (Key×A6)}{A8:List (Key×V)},Pairs (GM P w) es vs->ES A8 vs->es.length=A8.length/\∀(i:Nat) e,es[i]?=some e->∃Bv,A8[i]?=some Bv/\RelV (Cm Bv.1) e.key
 |_,_,_,.nil,.nil=>⟨rfl,λi e h=>by simp at h⟩
 |_,_,Bv::_,.cons a _ p,.cons b r=>by
  obtain⟨l,g⟩:=lP p r;refine⟨by simp[l],λi e h=>?_⟩;cases i with
  |zero=>
   simp at h;subst h;refine⟨Bv,rfl,?_⟩;rw[kk,<-b.1]at a;rcases Mx a with⟨j,t,A9,AF⟩|⟨x,t,A9,AF⟩
   .rw[A9,AF];exact⟨t,rfl⟩
   .rw[A9,AF];exact⟨t,rfl⟩
  |succ i=>obtain⟨bQ,h1,h2⟩:=g i e (by simpa using h);exact⟨bQ,by simpa using h1,h2⟩
def adm{P:C5}{w:Bo}{K:Aq}{C4:Al}{a it:A4}{o:Obj}{A8:List (Key×V)}{es:Array LW}{An:Nat}(KH:a≠it)(AK:o.ExactDict)(hd:o.data=.dict es An)(AG:es.size=A8.length)(AO:∀(i:Nat) e,es.toList[i]?=some e->∃Bv,A8[i]?=some Bv/\RelV (Cm Bv.1) e.key) :
  Turn P w K C4 (fw a o A8) [it] it (λi h=>h.IsKeyIter it a i es.size An) where
 mem:=by simp
 obj:=λi h st b A2=>by
  have e:b=it:=by simpa using A2
  subst e;obtain⟨o,e,c,d⟩:=st;exact⟨o,e,λv z=>by rw[d]at z;cases z⟩
 keep:=λi h h' st k=>st.at λo e=>k it (by simp) o e
 item:=by
  intro X Dl hw AZ AH i pins s σ H E J hf st Ak;subst Dl hw AZ;obtain⟨AX,AB⟩:=Ak;have ho:s.heap.get? a=some o:=(show Dr X.prog X.w H s.heap a (.DR o (.Aj A8))from J.Aw a _ AX).1;obtain⟨f0,f1,f2,Eo,f4,Fx⟩:=hf it (by simp);have jO:i<es.size:=by lia
  refine LT.ku st ⟨o,ho,AK,hd⟩ jO λh' H9 FZ=>?_;have Ab:Inv X pins σ H { s with heap:=h' }:=J.turned (t':=s.toks) (λb o A2 e=>(FZ.2 b A2).trans e) f0 f1 Eo f4 Fx;obtain⟨Bv,A9,AF⟩:=AO i es[i] (by simp[jO]);obtain⟨o',e,c,d⟩:=id H9;exact⟨_,rfl,SQ (s:={ s with heap:=h' }) e c d (by decide) ⟨Cm Bv.1,H,Ab,AF,⟨rfl,Bv,A9,rfl⟩,H9,λb A2=>(hf b A2).1⟩⟩
 done:=by intro X Dl hw AZ AH i pins s σ H E J hf st Ak;subst Dl hw AZ;obtain⟨AX,AB⟩:=Ak;have ho:s.heap.get? a=some o:=(show Dr X.prog X.w H s.heap a (.DR o (.Aj A8))from J.Aw a _ AX).1;obtain⟨f0,f1,f2,Eo,f4,Fx⟩:=hf it (by simp);rw[AB,<-AG]at st;exact LT.ks (J.ok.hd AH) st ⟨o,ho,AK,hd⟩ λh' BF=>⟨rfl,J.turned (t':=s.toks) (λb o A2 e=>BF b o A2 e) f0 f1 Eo f4 Fx⟩
 self:=λ_ _ _ _ _ st h=>wpAny_pyIter_keyiter st h
section
variable{X:Ao}{C4:Al}
def YU(X:Ao)(mk:A4->Obj->List (Key×V)->It)(Im:TE):TI:=λσ H R=>Im σ H λx H1=>∃a A8,x=.ref a/\H1 a=some (.Aj A8)/\∀o,(∀BJ u,X.M3 a≠some (.DR BJ u))->R (mk a o A8) (upd H1 a (.DR o (.Aj A8)))
def ac7{e:Al}{Im:TE}(AG:Ae X e Im):Hg X C4 e (YU X fw Im):=by
 intro pins s σ H R J h;refine BN (AG pins s σ H _ J h) λv s1⟨x,H1,Ab,Ar,q1⟩=>?_;obtain⟨a,A8,rfl,AE,k⟩:=q1;cases Ar;obtain⟨z,hd,vs,rel,dd⟩:=PN Ab.Aw AE;obtain⟨o,es,An,g1,g2,g3,g4,Ky,Ys⟩:=id dd;obtain⟨l,g⟩:=lP Ky rel;have hz:es.size=A8.length:=by rw[<-l];simp
 have KP:∀BJ u,X.M3 a≠some (.DR BJ u):=λBJ u q=>by have:=Ab.base.Hl a BJ u q;rw[AE]at this;cases this
 refine LT.kv hd ⟨o,g1,g2,g3⟩ ?_;have KH:a≠s1.heap.objs.size:=Ei (DB g1);have BS:=Ab.swap (o':=.DR o (.Aj A8)) AE ⟨g1,z,hd,vs,rel,dd⟩ (λ_ q=>nomatch q) (λ_ q=>nomatch q) (λ_ q=>nomatch q) KP;refine⟨s1.heap.objs.size,[s1.heap.objs.size],_,_,_,rfl,BS.kept (t':=s1.toks) λb o e=>Cw _ e,adm KH g2 g3 hz g,⟨_,F_ _ rfl,rfl,rfl⟩,λb A2=>?_,k o KP⟩;have e:b=s1.heap.objs.size:=by simpa using A2
 subst e;exact BS.NG (CB _) (BS.Aw.fresh (CB _))
def Sj(X:Ao)(Q:AC->Prop)(H:AC):Prop:=∃r o A8,(∀BJ u,X.M3 r≠some (.DR BJ u))/\H r=some (.DR o (.Aj A8))/\Q (upd H r (.Aj A8))
def Ends.Hd(X:Ao)(D:Ends):Ends:=⟨λσ =>Sj X (D.AR σ),λv=>Sj X (D.EA v),λ_ _=>False,λ_ _=>False⟩
def dq{pins:List (A4×Obj)}{σ :St}{H:AC}{s:AM}{Q:AC->Prop}(J:Inv X pins σ H s)(q:Sj X Q H):∃A7,Inv X pins σ A7 s/\Q A7:=by obtain⟨r,o,A8,KP,e,q⟩:=q;exact⟨_,J.swap (o':=.Aj A8) e (show Dr X.prog X.w (upd H r (.Aj A8)) s.heap r (.Aj A8)from(show Dr X.prog X.w H s.heap r (.DR o (.Aj A8))from J.Aw r _ e).2) (λ_ q=>nomatch q) (λ_ q=>nomatch q) (λ_ q=>nomatch q) KP,q⟩
def abr{st:BC}{t:Eu}(h:DT X st t):DT X st (λD σ H=>t (D.Hd X) σ H):=λpins s σ H D J hw=>
 BN (h pins s σ H _ J hw) λf s' q=>by
  cases f with
  |next=>obtain⟨σ',A7,GR,q⟩:=q;obtain⟨AS,BS,q2⟩:=dq GR q;exact⟨σ',AS,BS,q2⟩
  |brk=>obtain⟨σ',A7,GR,q⟩:=q;cases q
  |cont=>obtain⟨σ',A7,GR,q⟩:=q;cases q
  |ret u=>obtain⟨v,σ',A7,GR,r,q⟩:=q;obtain⟨AS,BS,q2⟩:=dq GR q;exact⟨v,σ',AS,BS,r,q2⟩
end
end B6
namespace C0
open PySem PySem.Spec B6
section
variable{X:Ao}{F:Cx}{e a b o:Al}{es:List Al}{pos p Ct:Pos}{m n:B3}{ma:EE}{C4 iter c:Al}{g:D9}{body:List BC}{mi:Fv}{Gd:Am}{VT:DF}
def H5:R (F9×A5)->R (F9×A5)
 |.exc _ _=>.bad
 |r=>r
def Vu(m:Am):Am:=λρ h=>H5 (m ρ h)
def Rel.dz{φ:List A4}{h:A5}{H:AC}{σ :St}{ρ:B9}(r:Rel F.AR φ h H σ ρ):Rel F φ h H σ ρ:=⟨r.hd,r.x0,r.len,r.Bn⟩
def bg{m:Am}:K2 (G0 F (Vu m)) (G0 F.AR m):=λDe σ H⟨φ,ρ,h,r,q⟩=>by
 refine⟨φ,ρ,h,r.AR,?_⟩;unfold Vu at q;cases e:m ρ h with
 |bad=>rw[e]at q;exact q
 |exc c h'=>rw[e]at q;cases q
 |ok p=>
  rw[e]at q;obtain⟨f,h1⟩:=p;cases f with
  |AR EH=>exact λσ' BE A7 r x=>q σ' BE A7 r.dz x
  |BU EH=>exact λσ' BE A7 r x=>q σ' BE A7 r.dz x
  |DA EH=>exact λσ' BE A7 r x=>q σ' BE A7 r.dz x
  |EA w=>exact q
def F2(mi:Fv)(g:D9)(b:Am):Am:=Vu (Pb mi g b)
def Yi(c:DF)(b:Am):Am:=Vu (S7 c b)
def afk(AB:PI X.GN F.AR C4 iter mi)(Ak:RL X.GN F.AR C4 g)(A2:Ks X.GN F.AR body Gd)(AH:X.calm=true:=by rfl)(AN:∀x,P6 iter X.env x=pure x:=by intro _;rfl):Fw X F (.For C4 iter body [] pos) (F2 mi g Gd):=
 ⟨DT.imp (DT.GN (kx f8 AH AB.p Ak.p A2.p AN)) λDe σ H q=>ww De σ H (bg De σ H q)⟩
def afv(AH:Fa X.GN F.AR c VT)(A2:Ks X.GN F.AR body Gd):Fw X F (.While c body [] pos) (Yi VT Gd):=
 ⟨DT.imp (DT.GN (abL f8 AH.p A2.p)) λDe σ H q=>y8 De σ H (bg De σ H q)⟩
def bx:Key->W
 |.inl i=>.int i
 |.inr x=>.str x
def bw(AI:List Key):Gk:=λi _=>if i=AI.length then some none else(AI[i]?).map λk=>some (bx k)
noncomputable def adf(n:Nat):R (F9×A5)->R (F9×A5)
 |.ok (.AR ρ,h)=>match h[n]? with
  |some ⟨.Gm AI,ws⟩=>.ok (.AR ρ,h.set n ⟨.Aj AI,ws⟩)
  |_=>.bad
 |.ok (.EA w,h)=>match h[n]? with
  |some ⟨.Gm AI,ws⟩=>.ok (.EA w,h.set n ⟨.Aj AI,ws⟩)
  |_=>.bad
 |_=>.bad
abbrev RK:=List Key->List W->Gk
def ka(it:RK)(m:B3)(g:D9)(b:Am):Am:=bd m λw ρ h=>match w with
 |.ref n=>match h[n]? with
  |some ⟨.Aj AI,ws⟩=>adf n (Mm (it AI ws) g b Km 0 ρ (h.set n ⟨.Gm AI,ws⟩))
  |_=>.bad
 |_=>.bad
noncomputable def Y8(it:RK)(mk:A4->Obj->List (Key×V)->It):Prop:=∀(K:Aq)(φ:List A4)(H:AC)(a:A4)(o:Obj)(A8:List (Key×V))(ws:List W),H a=some (.DR o (.Aj A8))->Ai K φ H ws (A8.map (·.2))->IS K φ H (it (A8.map (·.1)) ws) (mk a o A8)
section
variable{K:Aq}{φ:List A4}{H:AC}{d:A4}{BJ:Obj}{A8:List (Key×V)}{u:Et}
mutual
theorem AW.Hd(e:H d=some (.DR BJ (.Aj A8))):∀{w:W}{v:V},AW K φ H w v->AW K φ (upd H d u) w v
 |.non,_,h|.AL _,_,h|.int _,_,h|.str _,_,h|.ref _,_,h=>by simpa only[AW]using h
 |.tup _,_,h=>by simp only[AW]at h |-;obtain⟨a,xs,A9,q,r⟩:=h;exact⟨a,xs,A9,by rw[D6 λz=>by subst z;rw[e]at q;cases q];exact q,Ai.Hd e r⟩
 |.I6 _,_,h=>by
  simp only[AW]at h |-;obtain⟨a,xs,A9,q,r⟩:=h;refine⟨a,xs,A9,?_,Ai.Hd e r⟩;rcases q with(q|⟨o,q⟩)|q
  .exact .inl (.inl (by rw[D6 λz=>by subst z;rw[e]at q;cases q];exact q))
  .exact .inl (.inr ⟨o,by rw[D6 λz=>by subst z;rw[e]at q;cases q];exact q⟩)
  .exact .inr q
 |.DV _,_,h=>by
  simp only[AW]at h |-;obtain⟨a,xs,A9,q,r⟩:=h;refine⟨a,xs,A9,?_,Ai.Hd e r⟩;rcases q with⟨o,q⟩|q
  .exact .inl ⟨o,by rw[D6 λz=>by subst z;rw[e]at q;cases q];exact q⟩
  .exact .inr q
 |.OA _,_,h=>by simp only[AW]at h |-;obtain⟨a,C,A9,c,q⟩:=h;exact⟨a,C,A9,c,by rw[D6 λz=>by subst z;rw[e]at q;cases q];exact q⟩
theorem Ai.Hd(e:H d=some (.DR BJ (.Aj A8))):∀{ws:List W}{vs:List V},Ai K φ H ws vs->Ai K φ (upd H d u) ws vs
 |[],_,h=>by simpa only[Ai]using h
 |_::_,_,h=>by simp only[Ai]at h |-;obtain⟨v,r,A9,q,t⟩:=h;exact⟨v,r,A9,AW.Hd e q,Ai.Hd e t⟩
end
theorem D1.Hd{h:A5}{n:Nat}{AI:List Key}{ws:List W}(x:D1 K φ h H)(As:h[n]?=some ⟨.Gm AI,ws⟩)(BY:φ[n]?=some d)(e:H d=some (.DR BJ (.Aj A8))):D1 K φ (h.set n ⟨.Aj AI,ws⟩) (upd H d (.Aj A8)):=by
 refine⟨x.C1,by simp[x.len],λm Dm b A9 AF=>?_⟩;by_cases hm:n=m
 .subst hm;rw[JU (List.getElem?_eq_some_iff.mp As).1]at A9;rw[BY]at AF;cases A9;cases AF;obtain⟨xs,⟨o,agi,q,q1,q2⟩,r⟩:=x.BJ n _ d As BY;rw[e]at q;cases q;exact⟨xs,⟨A8,E4,q1,q2⟩,Ai.Hd e r⟩
 .rw[M7 hm]at A9;obtain⟨ys,CT,BW⟩:=x.BJ m Dm b A9 AF;refine⟨ys,CT.same (D6 λz=>?_),Ai.Hd e BW⟩;subst z;obtain⟨BB,Jk⟩:=List.getElem?_eq_some_iff.mp BY;obtain⟨Bm,KM⟩:=List.getElem?_eq_some_iff.mp AF;exact hm ((Wq x.C1).mp (Jk.trans KM.symm))
end
def xv:Y8 (λAI _=>bw AI) fw:=λK φ H a o A8 ws e _ i CF h2 AS d x=>by
 have AF:=x.t a _ e trivial;unfold bw;dsimp only;by_cases AB:i=A8.length
 .rw[if_pos (by simpa using AB)];exact⟨λ_=>⟨AF,AB⟩,λw z=>by cases z⟩
 .rw[if_neg (by simpa using AB)];cases DG:A8[i]? with
  |none=>simp[DG]
  |some Bv=>refine⟨(λz=>by simp[DG]at z),λw z=>?_⟩;simp[DG]at z;subst z;refine⟨⟨AF,(List.getElem?_eq_some_iff.mp DG).1⟩,λy A7 AP=>?_⟩;obtain⟨rfl,bQ,BX,rfl⟩:=AP;rw[DG]at BX;cases BX;refine⟨d,Af.refl _ _,?_⟩;cases Bv.1<;>simp only[bx,AW,Cm]
def wx{it:RK}{mk:A4->Obj->List (Key×V)->It}(ok:Y8 it mk):K2 (G0 F (ka it m g Gd)) (λDe σ H=>Zh (YU X mk (C3 F m)) (Lx F g) (G0 F Gd) (De.Hd X) σ H):=λDe σ H q=>by
 obtain⟨φ,ρ,h,r,q⟩:=q;refine⟨φ,ρ,h,r,E2.bd q λw v Bt h1 H1 Ar x1 EL q=>?_⟩
 split at q
 .rename_i n
  split at q
  .rename_i AI ws As;obtain⟨a,xs,rfl,BY,⟨A8,AE,rfl,rfl⟩,BR⟩:=Ar.hd.at As EL;refine⟨a,A8,rfl,AE,λo KP=>?_⟩;have ns:¬Still (.Aj A8):=λz=>z;have W7:Af Bt H1 Bt (upd H1 a (.DR o (.Aj A8))):=Af.put AE ns;have GE:=Ar.to (Ar.hd.put (o':=⟨.Gm _,ws⟩) As BY AE ns ⟨o,A8,E4,rfl,rfl⟩ BR) W7;have BU:∀BE A7,Af Bt (upd H1 a (.DR o (.Aj A8))) BE A7->A7 a=some (.DR o (.Aj A8))/\BE[n]?=some a/\Af Bt H1 BE (upd A7 a (.Aj A8)):=λBE A7 x=>⟨x.t a _ E4 trivial,FM x.p BY,x.p,λb u e s=>by
    have nb:b≠a:=λz=>by subst z;rw[AE]at e;cases e;exact s
    rw[D6 nb];exact x.t b u (by rw[D6 nb];exact e) s⟩
   refine for_in (De:=De.Hd X) GE (ok F.K Bt _ a o A8 ws E4 (BR.ex W7)) ?_;cases e:Mm (it (A8.map (·.1)) ws) g Gd Km 0 ρ (h1.set n ⟨.Gm (A8.map (·.1)),ws⟩)with
   |bad=>rw[e]at q;cases q
   |exc c h'=>rw[e]at q;cases q
   |ok p=>
    rw[e]at q;obtain⟨f,h2⟩:=p;cases f with
    |AR Dd=>
     intro σ2 CF AS BD x2;obtain⟨D_,FX,O3⟩:=BU CF AS x2;have q:E2 F Bt H1 De (match h2[n]? with
      |some ⟨.Gm AI,ws⟩=>.ok (.AR Dd,h2.set n ⟨.Aj AI,ws⟩)
      |_=>.bad):=q
     split at q
     .rename_i Nh ws' UR;refine⟨a,o,A8,KP,D_,q σ2 CF _ ⟨BD.hd.Hd UR FX D_,Ar.x0.trans O3,BD.len,λi w e=>?_⟩ O3⟩;obtain⟨v,A9,q1⟩:=BD.Bn i w e;exact⟨v,A9,AW.Hd D_ q1⟩
     .exact q.elim
    |EA w=>
     intro v CF AS Ex x2 a2;obtain⟨D_,FX,O3⟩:=BU CF AS x2;have q:E2 F Bt H1 De (match h2[n]? with
      |some ⟨.Gm AI,ws⟩=>.ok (.EA w,h2.set n ⟨.Aj AI,ws⟩)
      |_=>.bad):=q
     split at q
     .rename_i Nh ws' UR;exact⟨a,o,A8,KP,D_,q v CF _ (Ex.Hd UR FX D_) O3 (AW.Hd D_ a2)⟩
     .exact q.elim
    |BU _=>cases q
    |DA _=>cases q
  .exact q.elim
 .exact q.elim
def aa4(m:B3)(g:D9)(b:Am):Am:=Vu (ka (λAI _=>bw AI) m g b)
def afj(AB:A_ X.GN F.AR iter m)(Ak:RL X.GN F.AR C4 g)(A2:Ks X.GN F.AR body Gd)(AH:X.calm=true:=by rfl)(AN:∀x,P6 iter X.env x=pure x:=by intro _;rfl):Fw X F (.For C4 iter body [] pos) (aa4 m g Gd):=
 ⟨DT.imp (DT.GN (abr (kx f8 AH (ac7 AB.p) Ak.p A2.p AN))) λDe σ H q=>wx xv De σ H (bg De σ H q)⟩
end
end C0
namespace B6
open PySem PySem.Spec PyProof.Rows
section
variable{X:Ao}
def gV(a:A4)(n:Nat)(h:B8):Prop:=∃o es An t,h.get? a=some o/\o.ExactSet/\o.data=.set es An t/\t.fits es.size=true/\es.size=n
def Zc(a:A4)(n:Nat):Et:=.ext (gV a n)
def aeO{P:C5}{w:Bo}{H:AC}{h:B8}{a:A4}{n:Nat}(x:gV a n h):Dr P w H h a (Zc a n):=
 ⟨x,by obtain⟨o,_,_,_,e,_⟩:=x;exact⟨o,e⟩,λh1 h2 y k=>by obtain⟨o,es,An,t,e,r⟩:=y;exact⟨o,es,An,t,k o e,r⟩⟩
def gN(H:AC)(ys:List V)(keys:List (List Key)):Prop:=keys.length=ys.length/\∀(i:Nat) y k,ys[i]?=some y->keys[i]?=some k->∃b,y=.ref b/\H b=some (.tup (k.map Cm))
def adH(K:Aq):List V->AC->CK->Prop:=λxs H Q=>∃p ys keys,xs=[.ref p]/\E_ K H p ys/\ys.length<77/\gN H ys keys/\keys.Nodup/\∀l,H l=none->Q (.ref l) (upd H l (Zc l keys.length))
def tE(hh:X.A.handled=none)(BI:X.A.units+64<Dp):J5 X (.type "set") (adH X.K):=by
 intro pins s σ H xs us Q J r h;obtain⟨p,ys,keys,rfl,AX,AV,⟨AG,AO⟩,C1,q⟩:=h;obtain⟨u,rfl,At⟩:=vals1 r;cases At;obtain⟨its,BW,pl,hz⟩:=J.list AX;have hlen:=BW.length;refine XI.tF (knd:=GM X.prog X.w) (items:=its.toArray) (keys:=keys) hh BI pl.isList (by rw[DX];lia) C1 (by rw[DX];lia) (λi v B_=>?_) λh' CL T Bc=>?_
 .have B_:its[i]?=some v:=by simpa using B_
  have AB:=(List.getElem?_eq_some_iff.mp B_).1;have DP:ys[i]?=some ys[i]:=Cc (by lia);have DG:keys[i]?=some keys[i]:=Cc (by lia);obtain⟨b,A9,AF⟩:=AO i _ _ DP DG;obtain⟨Ix,YS,C6⟩:=BW.get DP;rw[B_]at YS;cases YS;rw[A9]at C6;cases C6;exact⟨b,_,rfl,DG,R0 J.Aw AF⟩
 .exact⟨.ref s.heap.objs.size,_,J.laid (t':=CL) Bc (CB _) (aeO T),rfl,q _ (J.Aw.fresh (CB _))⟩
def adF:List V->AC->CK->Prop:=λxs H Q=>∃a n,xs=[.ref a]/\H a=some (Zc a n)/\n<1000/\Q (.int n) H
def tC:J5 X (.builtin "len") adF:=by intro pins s σ H xs us Q J r h;obtain⟨a,n,rfl,AE,AV,q⟩:=h;obtain⟨u,rfl,At⟩:=vals1 r;cases At;obtain⟨⟨o,es,An,t,g1,g2,g3,g4,Ky⟩,_⟩:=(show Dr X.prog X.w H s.heap a (Zc a n)from J.Aw a _ AE);subst Ky;exact call_len_set g1 g2 g3 g4 (by lia) ⟨.int es.size,H,J.tok _,⟨_,rfl⟩,q⟩
def cw(b:Bool):FA:=λx y H Q=>∃p q A8,x=.ref p/\y=.ref q/\K6 H p (.Aj A8)/\H q=some (.Aj [])/\Q (.AL (A8.isEmpty==b)) H
def ji(BI:X.A.units+64<Dp):Dg X (Ft .Eq) (cw true):=by
 intro pins s σ H x y v u Q J At Bf h;obtain⟨p,q,A8,rfl,rfl,AT,AX,h⟩:=h;obtain rfl:v=Cj p:=At;obtain rfl:u=Cj q:=Bf;obtain⟨FP,d1,vs,Ar,GB⟩:=NC J.Aw AT;obtain⟨Eg,Ex,us,BD,GC⟩:=PN J.Aw AX;have Fq:us=[]:=by cases BD;rfl
 subst Fq;have AO:(vs.length==([]:List (Key×A6)).length&&true)=A8.isEmpty:=by cases Ar<;>rfl
 refine PySem.W.keq_eq (r:=true) d1 Ex GB GC (by lia) (λe=>?_) ?_
 .cases vs with
  |nil=>exact .nil
  |cons _ _=>simp at e
 .rw[AO];exact⟨.AL _,H,J,rfl,by simpa using h⟩
def jm(BI:X.A.units+64<Dp):Dg X (Ft .NotEq) (cw false):=by
 intro pins s σ H x y v u Q J At Bf h;obtain⟨p,q,A8,rfl,rfl,AT,AX,h⟩:=h;obtain rfl:v=Cj p:=At;obtain rfl:u=Cj q:=Bf;obtain⟨FP,d1,vs,Ar,GB⟩:=NC J.Aw AT;obtain⟨Eg,Ex,us,BD,GC⟩:=PN J.Aw AX;have Fq:us=[]:=by cases BD;rfl
 subst Fq;have AO:(vs.length==([]:List (Key×A6)).length&&true)=A8.isEmpty:=by cases Ar<;>rfl
 refine PySem.W.keq_ne (r:=true) d1 Ex GB GC (by lia) (λe=>?_) ?_
 .cases vs with
  |nil=>exact .nil
  |cons _ _=>simp at e
 .rw[AO];exact⟨.AL _,H,J,rfl,by simpa using h⟩
end
end B6
namespace C0
open PySem PySem.Spec B6
section
variable{X:Ao}{F:Cx}{e a b o:Al}{es:List Al}{pos p Ct FF pos':Pos}{m n:B3}{ma:EE}
def SJ(b:Bool):W->A5->R (W×A5):=λw h=>match w with
 |.ref n=>match h[n]? with
  |some ⟨.Aj AI,_⟩=>.ok (.AL (AI.isEmpty==b),h)
  |some ⟨.Gm AI,_⟩=>.ok (.AL (AI.isEmpty==b),h)
  |_=>.bad
 |_=>.bad
def YW(b:Bool):FQ (C3 F (BM (SJ b) m)) (T6 (cw b) (C3 F m) dn):=λσ H Q q=>
 q.bd λw v φ ρ h H1 r EL q p AT=>by
   have BD:=r.to (r.hd.lay (o:=.Aj []) AT) (Af.lay AT);unfold SJ at q
   split at q
   .split at q
    .rename_i AI ws As;obtain⟨d,xs,rfl,CC,⟨A8,AE,rfl,rfl⟩,BR⟩:=r.hd.at As EL;refine⟨d,p,A8,rfl,rfl,.inl (by rw[D6 (L9 AE AT)];exact AE),E4,q _ φ _ BD (Af.lay AT) ?_⟩;simp only[AW];cases A8<;>rfl
    .rename_i AI ws As;obtain⟨d,xs,rfl,CC,⟨o,A8,AE,rfl,rfl⟩,BR⟩:=r.hd.at As EL;refine⟨d,p,A8,rfl,rfl,.inr ⟨o,by rw[D6 (L9 AE AT)];exact AE⟩,E4,q _ φ _ BD (Af.lay AT) ?_⟩;simp only[AW];cases A8<;>rfl
    .exact q.elim
   .exact q.elim
def aee(BI:X.A.units+64<Dp)(AE:A_ X F a m):A_ X F (.Compare a [.Eq] [.Dict [] [] Ct] pos) (BM (SJ true) m):=⟨Ae.imp (Lr (ji BI) AE.p WD (HZ _)) (YW true)⟩
def afy(BI:X.A.units+64<Dp)(AE:A_ X F a m):Fa X F (.Compare a [.Eq] [.Dict [] [] Ct] pos) (AY (BM (SJ true) m)):=⟨EJ.imp (Ls (ji BI) AE.p WD (HZ _)) λσ H Q q=>YW true σ H _ (KI σ H Q q)⟩
def aeR(BI:X.A.units+64<Dp)(AE:A_ X F a m):A_ X F (.Compare a [.NotEq] [.Dict [] [] Ct] pos) (BM (SJ false) m):=⟨Ae.imp (Lr (jm BI) AE.p WD (HZ _)) (YW false)⟩
def afX(BI:X.A.units+64<Dp)(AE:A_ X F a m):Fa X F (.Compare a [.NotEq] [.Dict [] [] Ct] pos) (AY (BM (SJ false) m)):=⟨EJ.imp (Ls (jm BI) AE.p WD (HZ _)) λσ H Q q=>YW false σ H _ (KI σ H Q q)⟩
def adk{K:Aq}{φ:List A4}{H:AC}{ws:List W}{AI:List El}{xs:List V}(e:ws.mapM NQ=some AI)(a:Ai K φ H ws xs):gN H xs AI:=by
 have p:=dC (P:=λk v=>∃b,v=.ref b/\H b=some (.tup (k.map Cm))) dK e a;exact⟨p.length,λi y k A9 AF=>by
  clear e a;induction p generalizing i with
  |nil=>cases A9
  |cons r _ C9=>
   cases i with
   |zero=>cases A9;cases AF;exact r
   |succ i=>exact C9 i A9 AF⟩
noncomputable def Vr:Kl:=λws h=>match ws with
 |[w]=>match EC h w with
  |some (false,us)=>if us.length<77 then match us.mapM NQ with
   |some AI=>if AI.Nodup then .ok (.int AI.length,h)else .bad
   |none=>.bad
   else .bad
  |_=>.bad
 |_=>.bad
def aep{k:Nat}(B7:Cz k X.A)(hm:X.mg "len"=none)(Mr:X.mg "set"=none)(AE:Gx X F [e] ma)(AZ:F.K=X.K:=by rfl)(Ak:EI X "len":=by rfl)(Uh:EI X "set":=by rfl)(AN:CJ [.Call (.Name "set" FF) [e] [] pos'] X.env=(false,BZ (.Call (.Name "set" FF) [e] [] pos') X.env)::CJ [] X.env:=by rfl)(he:CJ [e] X.env=(false,BZ e X.env)::CJ [] X.env:=by rfl)(Fy:(Fj pos (CJ [] X.env)).any (·.1)=false:=by rfl)(xD:(Fj pos' (CJ [] X.env)).any (·.1)=false:=by rfl) :
  A_ X F (.Call (.Name "len" p) [.Call (.Name "set" FF) [e] [] pos'] [] pos) (Az Vr ma):=
 ⟨Ae.imp (Vb tC Ak hm PySem.boot_len (Su (WC (tE B7.hd B7.units) Uh Mr (by kernel_rfl) AE.p (by decide) (by decide) he xD) VB AN) (by decide) (by decide) AN Fy) λσ H Q q=>
   q.bd λws vs φ ρ h H1 r as q=>by
     unfold Vr at q
     split at q
     .obtain⟨v,rfl,EL⟩:=as.one
      split at q
      .rename_i us es;obtain⟨d,xs,rfl,AX,BR⟩:=Ij r.hd EL es
       split at q
       .rename_i AG
        split at q
        .rename_i AI DG
         split at q
         .rename_i C1;have kt:=adk DG BR;have Ec:=BR.length;have AX:E_ F.K H1 d xs:=AX;refine⟨d,xs,AI,rfl,AZ▸AX,by lia,kt,C1,λl Hn=>?_⟩;have:=kt.1;exact⟨l,_,rfl,E4,by lia,q _ φ _ (r.to (r.hd.lay Hn) (Af.lay Hn)) (Af.lay Hn) (by simp only[AW])⟩
         .exact q.elim
        .exact q.elim
       .exact q.elim
      .exact q.elim
     .exact q.elim⟩
end
end C0
namespace B6
open PySem PySem.Spec PyProof.Rows
theorem iv:∀{A8:List (Key×V)}{vs:List (Key×A6)},ES A8 vs->∀(i:Nat) Bv,A8[i]?=some Bv->∃v,vs[i]?=some (Bv.1,v)/\RelV Bv.2 v
 |_,_,.nil,i,Bv,e=>by simp at e
 |_,_,.cons h t,0,Bv,e=>by simp at e;subst e;rename_i p q _ _;exact⟨q.2,by rw[h.1];rfl,h.2⟩
 |_,_,.cons h t,i+1,Bv,e=>by obtain⟨v,A9,AF⟩:=iv t i Bv (by simpa using e);exact⟨v,by simpa using A9,AF⟩
theorem Vj:∀{A8:List (Key×V)}{vs:List (Key×A6)},ES A8 vs->A8.length=vs.length
 |_,_,.nil=>rfl
 |_,_,.cons _ t=>by simp[Vj t]
def aN{P:C5}{w:Bo}{H:AC}{h:B8}{a:A4}{o:Obj}{A8:List (Key×V)}{es:Array LW}{An:Nat}(hd:o.data=.dict es An)(x:Dr P w H h a (.DR o (.Aj A8))):∃vs,ES A8 vs/\h.DictAt (GM P w) a vs An:=by obtain⟨ho,z,AP,vs,rel,o',es',NF,g1,g2,g3,g4,Ky,Ys⟩:=x;rw[ho]at g1;cases g1;rw[hd]at g3;cases g3;exact⟨vs,rel,_,_,ho,g2,hd,g4,Ky,Ys⟩
def g0(a:A4)(o:Obj)(A8:List (Key×V)):It:=
 ⟨λi H=>H a=some (.DR o (.Aj A8))/\i<A8.length,λi H x A7=>A7=H/\∃Bv,A8[i]?=some Bv/\x=Bv.2,λi H=>H a=some (.DR o (.Aj A8))/\i=A8.length⟩
def ads{P:C5}{w:Bo}{K:Aq}{C4:Al}{a it:A4}{o:Obj}{A8:List (Key×V)}{es:Array LW}{An:Nat}(KH:a≠it)(hd:o.data=.dict es An) :
  Turn P w K C4 (g0 a o A8) [it] it (λi h=>h.IsValIter it a i A8.length An) where
 mem:=by simp
 obj:=λi h st b A2=>by
  have e:b=it:=by simpa using A2
  subst e;obtain⟨o,e,c,d⟩:=st;exact⟨o,e,λv z=>by rw[d]at z;cases z⟩
 keep:=λi h h' st k=>by obtain⟨o,e,c,d⟩:=st;exact⟨o,k it (by simp) o e,c,d⟩
 item:=by intro X Dl hw AZ AH i pins s σ H E J hf st Ak;subst Dl hw AZ;obtain⟨AX,AB⟩:=Ak;obtain⟨vs,rel,dd⟩:=aN hd (show Dr X.prog X.w H s.heap a (.DR o (.Aj A8))from J.Aw a _ AX);obtain⟨f0,f1,f2,Eo,f4,Fx⟩:=hf it (by simp);obtain⟨v,ev,C6⟩:=iv rel i A8[i] (Cc AB);rw[Vj rel]at st;refine wpAny_pyNext_values_item st dd ev λh' H9 FZ=>?_;have Ab:Inv X pins σ H { s with heap:=h' }:=J.turned (t':=s.toks) (λb o A2 e=>(FZ.2 b A2).trans e) f0 f1 Eo f4 Fx;obtain⟨o',e,c,d⟩:=id H9;rw[<-Vj rel]at H9;exact⟨_,rfl,SQ (s:={ s with heap:=h' }) e c d (by decide) ⟨A8[i].2,H,Ab,C6,⟨rfl,_,Cc AB,rfl⟩,H9,λb A2=>(hf b A2).1⟩⟩
 done:=by intro X Dl hw AZ AH i pins s σ H E J hf st Ak;subst Dl hw AZ;obtain⟨AX,AB⟩:=Ak;obtain⟨vs,rel,dd⟩:=aN hd (show Dr X.prog X.w H s.heap a (.DR o (.Aj A8))from J.Aw a _ AX);obtain⟨f0,f1,f2,Eo,f4,Fx⟩:=hf it (by simp);rw[Vj rel]at st AB;exact wpAny_pyNext_values_end (J.ok.hd AH) st dd (by rw[AB];simp) λh' BF=>⟨rfl,J.turned (t':=s.toks) (λb o A2 e=>BF b o A2 e) f0 f1 Eo f4 Fx⟩
 self:=λ_ _ _ _ _ st h=>wpAny_pyIter_valiter st h
section
variable{X:Ao}
theorem acA{C4 o:Al}{Hc:TE}{apos Da:Pos}(ho:Ae X o Hc)(A2:MA o "values" X.env (BZ o X.env)=BZ o X.env:=by rfl)(AG:(apos.endLine==Da.line)=true:=by rfl)(hf:((Fj Da (CJ [] X.env)).all (λx=>!x.1)&&(LV Da (LQ [] X.env)).all (λx=>x.1.isSome)&&decide (([]:List Al).length+([]:List O1).length+(if([]:List O1).isEmpty then 0 else 1)<30))=true:=by rfl)(Bi:Fj Da (CJ [] X.env)=[]:=by rfl) :
  Hg X C4 (.Call (.Attribute o "values" apos) [] [] Da) (YU X g0 Hc):=by
 intro pins s σ H R J h;refine ea A2 hf AG e7 PySem.F.slot_dict_values PySem.F.type_dict_values (BN (ho pins s σ H _ J h) λu s1⟨x,H1,Ab,At,d,A8,ex,hd,q⟩=>?_);subst ex;obtain rfl:u=Cj d:=At;obtain⟨t1,Cb,_⟩:=bp Ab (.inl ⟨A8,.inl hd⟩);refine⟨t1,Cb,?_⟩;rw[Bi];refine Tb rfl (r0 ?_);obtain⟨z,AP,vs,rel,dd⟩:=PN Ab.Aw hd;obtain⟨BJ,es,An,g1,g2,g3,g4,Ky,Ys⟩:=id dd;have KP:∀BJ u,X.M3 d≠some (.DR BJ u):=λBJ u q=>by have:=Ab.base.Hl d BJ u q;rw[hd]at this;cases this
 refine Tv F.slot_dict_values t1 F.entry_dict_values (F.args_dict_values_1 _) (meets_dict_values (GM X.prog X.w) d AP) ⟨⟨vs,dd⟩,?_⟩;have BS:=Ab.swap (o':=.DR BJ (.Aj A8)) hd ⟨g1,z,AP,vs,rel,dd⟩ (λ_ q=>nomatch q) (λ_ q=>nomatch q) (λ_ q=>nomatch q) KP;have D8:Inv X pins σ _ { s1 with heap:=s1.heap.push { cls:=.type "dict_values",data:=.fields #[.ref d] } }:=BS.kept (t':=s1.toks) λb o e=>Cw _ e;obtain⟨ahM,acW,Y3⟩:=aN g3 (show Dr X.prog X.w _ _ d (.DR BJ (.Aj A8))from D8.Aw d _ E4);refine wpAny_pyIter_values ⟨_,F_ _ rfl,rfl,rfl⟩ Y3 ?_;have KH:d≠(s1.heap.push { cls:=.type "dict_values",data:=.fields #[.ref d] }).objs.size:=Ei (DB (Cw _ g1));refine⟨_,[_],_,_,_,rfl,D8.kept (t':=s1.toks) λb o e=>Cw _ e,ads KH g3,⟨_,F_ _ rfl,rfl,by rw[Vj acW];rfl⟩,λb A2=>?_,q BJ KP⟩;obtain rfl:=List.mem_singleton.mp A2;exact D8.NG (CB _) (D8.Aw.fresh (CB _))
end
def aby{X:Ao}{e:Al}{t:TE}(h:Ae X e t):Ae X e (λσ H Q=>t σ H λv=>Sj X (Q v)):=λpins s σ H Q J hw=>
 BN (h pins s σ H _ J hw) λv s'⟨x,A7,GR,r,q⟩=>by obtain⟨AS,BS,q2⟩:=dq GR q;exact⟨x,AS,BS,r,q2⟩
section
variable{X:Ao}{k:Nat}{f C:A4}{fd:HX}{ps:List Str}{sp:Ck}{E:En}{m:Str}{pos apos:Pos}{o e:Al}{es:List Al}{Bp:TE}{t:FV}
def ac2 {pl:Sem Bool} (he:Ae X.GN o Bp) (c:J_ X.K C) (hm:Meth X.K C m f) (F:IH X.prog X.w X.K X.mg X.base (IE X.prog X.w) k f fd ps sp) (B7:Cz k X.A) (A2:Binds X.K fd ps []) (AE:Gl X.GN (e::es) t)(Fd:CJ (e::es) X.env=(false,BZ e X.env)::CJ es X.env:=by rfl) (Fy:(Fj pos (CJ es X.env)).any (·.1)=false:=by rfl)(Bi:BZ (.Call (.Attribute o m apos) (e::es) [] pos) X.env=(do
    let CO <-BZ o X.env
    ME apos.atName
    let(f,first) <-J3 [CO] (O0 CO m pl)
    PC pos f first (Fj pos (CJ (e::es) X.env)) (LV pos (LQ [] X.env))):=by rfl) :
  fO X (.Call (.Attribute o m apos) (e::es) [] pos) (Zi C m sp [] E Bp t) E:=by
 intro pins s σ H Q J h;refine Wf (pl:=pl) (HB (he pins s σ H _ (J.K_ _) h) (λu s1⟨x,H1,Ab,At,a,Bl,B1,ex,BY,l,q⟩=>?_) λ_ _ z=>z.elim) Bi;subst ex;obtain rfl:u=Cj a:=At;refine Yw Ab.KZ BY c hm l ?_;refine We (first:=[.ref a]) (h₀:=X.base) J.ok.mod.Oq hm.Bc (HB (AE pos pins s1 σ H1 _ Ab q) (λus s2⟨vs,AS,BS,r,q2⟩=>⟨BS.KZ.F0,?_⟩) λ_ _ z=>z.elim) Fd Fy;have BK:=BS.KZ;replace q2:sp (.ref a::vs++[]) AS Q E:=q2;rw[LU]at q2;have BD:Vals (V.ref a::vs) (Cj a::us):=.cons rfl r;have AG:(Cj a::us).length=ps.length:=by rw[<-BD.length];exact F.len _ _ _ _ q2
 refine wpAny_call (QN (F.run X.A X.stack s2 AS ⟨Cj a::us,[]⟩ (Cj a::us) (V.ref a::vs) Q E B7 BK.ah (by have:=A2 s2 (Cj a::us) BK.F0 (by rw[LU];exact AG);rw[LU]at this;exact this) BD q2) λr s' AX=>?_);cases r with
 |error e=>exact⟨AS,s2,BK,AX⟩
 |ok Du=>
  cases Du with
  |ret u=>exact BK.after AX
  |next=>exact HC AX
  |brk=>exact HC AX
  |cont=>exact HC AX
end
def adY(j:Nat)(te:TE)(E:En)(ts:Eu):Eu:=λD σ H=>te σ H (λv H1=>D.AR (σ.set j (some v)) H1)/\∀(C:A6)(a:A4)(A7:AC),E C (some a) A7->A7 a=none->ts D σ A7
section
variable{X:Ao}{j:Nat}{x y:Str}{W:A4}{e:Al}{te:TE}{E:En}{Sr:BC}{T4:List BC}{ts:Eu}{Sv np AT pos py:Pos}
def abt(hN:X.N.Nodup)(he:fO X e te E)(hm:X.mg x=some (.ref W))(Z5:∀C a H,E C a H->U4 X.K C (.ref W)=some true)(AN:∀a,Gw (X.marked a) (Sr::T4) ts)(Ap:X.N[j]?=some y:=by rfl)(Z3:X.env.scope.names.lookup y=some .local:=by rfl)(Fd:X.stack=X.env::X.outer:=by rfl)(Nc:X.env.frame=some X.env.locals:=by rfl)(Ak:EI X x:=by rfl)(hd:(x==("__debug__" :Str))=false:=by decide)(Qv:Nz e (some (.Name y py)) Sv.line X.env=pure false:=by rfl) :
  DT X (.Try [.Assign [.Name y py] e Sv] [.ExceptHandler (some (.Name x np)) none (Sr::T4) AT] [] [] pos) (adY j te E ts):=by
 intro pins s σ H D J h;obtain⟨h1,h2⟩:=h;refine wpAny_Try_except (eS (wpAny_Assign_Name (HB (he pins s σ H _ J h1) (λv s1 B_=>?_) (λy s' AP=>?_)) Qv))
 .obtain⟨y,H1,Ab,Ar,q1⟩:=B_;exact df (X:=X) Ab hN Ap (.inl Z3) Ar (λs2 BS=>Rq (Rq ⟨_,H1,BS,q1⟩)) (.inr Z3)
 .obtain⟨H1,s1,Ab,a,C,HD,B,A7,rfl,Du,Mn⟩:=AP;have RZ:=Du.RZ;rw[Fd]at RZ;have Hm:X.A.frames=some (X.env::X.outer):=by rw[<-Fd];exact Ab.ok.frames
  refine wpAny_looks_onW Hm Nc RZ λS1 vo px=>?_;refine wpAny_landsW vo λH3 Xj pz=>?_;have OH:Inv X pins σ A7 { s' with heap:=H3 }:=Du.inv Ab Xj.1 (by rw[Fd];exact Xj.2.2.1) (px.trans pz);refine wpAny_handleBy_cons (codeAny_handlers_test (Vo (X:=X.marked a) (OH.marked a) Ak hm ?_ hd)) (by intro q;cases q);obtain⟨BJ,vd,ve⟩:=Xj.there;have LT:PySem.W.Looks (Av X.prog X.w) H3 (typeOf (.ref a)) C:=by rw[<-ve];exact(PySem.W.Looks.ld vd).andThen .now
  refine(PySem.W.exm_one (K:=X.K) OH.F0 LT (Z5 C _ A7 Mn)).here ?_;refine codeAny_handlers_suite ?_;refine lands_againW Xj λxR ht adO=>?_;have Qc:Inv X pins σ A7 { s' with heap:=xR }:=Du.inv Ab ht.1 (by rw[Fd];exact ht.2.2.1) ((px.trans pz).trans adO);refine HB (AN a pins _ σ A7 _ (Qc.marked a) (h2 C a A7 Mn Du.AE)) (λut GO Pl=>?_) λ_ _ z=>z.elim;cases ut with
  |next=>obtain⟨σ',fs,BK,q⟩:=Pl;exact⟨_,_,BK.unmarked J.ok,q⟩
  |brk=>obtain⟨σ',fs,BK,q⟩:=Pl;exact⟨_,_,BK.unmarked J.ok,q⟩
  |cont=>obtain⟨σ',fs,BK,q⟩:=Pl;exact⟨_,_,BK.unmarked J.ok,q⟩
  |ret u=>obtain⟨v,σ',fs,BK,r,q⟩:=Pl;exact⟨v,_,_,BK.unmarked J.ok,r,q⟩
end
end B6
namespace C0
open PySem PySem.Spec B6
def NZ:RK:=λ_ ws i _=>if i=ws.length then some none else(ws[i]?).map some
def agg:RK:=λAI ws i _=>if i=ws.length then some none else match AI[i]?,ws[i]? with
 |some k,some w=>some (some (.tup [bx k,w]))
 |_,_=>none
def adW:Y8 NZ g0:=λK φ H a o A8 ws e C6 i CF h2 AS d x=>by
 have AF:=x.t a _ e trivial;have Ec:ws.length=A8.length:=by rw[C6.length,CS]
 unfold NZ;by_cases AB:i=A8.length
 .rw[if_pos (by lia)];exact⟨λ_=>⟨AF,AB⟩,λw z=>by cases z⟩
 .rw[if_neg (by lia)];cases DG:ws[i]? with
  |none=>simp
  |some u=>
   refine⟨(λz=>by simp at z),λw z=>?_⟩;simp at z;subst z;obtain⟨v,ev,EL⟩:=C6.get DG;rw[Ed]at ev;cases Xe:A8[i]? with
   |none=>rw[Xe]at ev;cases ev
   |some Bv=>rw[Xe]at ev;cases ev;refine⟨⟨AF,(List.getElem?_eq_some_iff.mp Xe).1⟩,λy A7 AP=>?_⟩;obtain⟨rfl,bQ,BX,rfl⟩:=AP;rw[Xe]at BX;cases BX;exact⟨d,Af.refl _ _,EL.ex x⟩
section
variable{X:Ao}{F:Cx}{e a b o:Al}{es:List Al}{pos p Ct apos Da:Pos}{m n:B3}{ma:EE}{C4 iter c:Al}{g:D9}{body:List BC}{mi:Fv}{Gd:Am}{VT:DF}{elt:Al}{ifs:List Al}{scope:F7}{mt:DF}{VU:B3}
def pj(n:Nat):R (W×A5)->R (W×A5)
 |.ok (w,h)=>match h[n]? with
  |some ⟨.Gm AI,ws⟩=>.ok (w,h.set n ⟨.Aj AI,ws⟩)
  |_=>.bad
 |_=>.bad
noncomputable def R5(it:RK)(nl:Nat)(caps:List Nat)(m:B3)(g:D9)(Gh:DF)(elt:B3):B3:=bd m λw ρ h=>match w with
 |.ref n=>match h[n]? with
  |some ⟨.Aj AI,ws⟩=>pj n (Dw nl caps (pu (it AI ws)) g Gh elt ρ (h.set n ⟨.Gm AI,ws⟩))
  |_=>.bad
 |_=>.bad
def wj{it:RK}{mk:A4->Obj->List (Key×V)->It}(ok:Y8 it mk){nl:Nat}{caps:List Nat}:FQ (C3 F (R5 it nl caps m g mt VU)) (λσ H Q=>WS (YU X mk (C3 F m)) (λx σ H Q=>∃D7 Bu,Lx (IM F.K D7 Bu) g x σ H Q) (λσ H Q=>∃D7 Bu,HO (IM F.K D7 Bu) mt σ H Q) (λσ H Q=>∃D7 Bu,C3 (IM F.K D7 Bu) VU σ H Q) nl caps σ H λv=>Sj X (Q v)):=λσ H Q q=>
 q.bd λw v Bt ρ h1 H1 Ar EL q=>by
   split at q
   .rename_i n
    split at q
    .rename_i AI ws As;obtain⟨a,xs,rfl,BY,⟨A8,AE,rfl,rfl⟩,BR⟩:=Ar.hd.at As EL;refine⟨a,A8,rfl,AE,λo KP=>?_⟩;have ns:¬Still (.Aj A8):=λz=>z;have W7:Af Bt H1 Bt (upd H1 a (.DR o (.Aj A8))):=Af.put AE ns;have GE:=Ar.to (Ar.hd.put (o':=⟨.Gm _,ws⟩) As BY AE ns ⟨o,A8,E4,rfl,rfl⟩ BR) W7;have BU:∀BE A7,Af Bt (upd H1 a (.DR o (.Aj A8))) BE A7->A7 a=some (.DR o (.Aj A8))/\BE[n]?=some a/\Af Bt H1 BE (upd A7 a (.Aj A8)):=λBE A7 x=>⟨x.t a _ E4 trivial,FM x.p BY,x.p,λb u e s=>by
      have nb:b≠a:=λz=>by subst z;rw[AE]at e;cases e;exact s
      rw[D6 nb];exact x.t b u (by rw[D6 nb];exact e) s⟩
     refine h4 (Q:=λv=>Sj X (Q v)) GE (ok F.K Bt _ a o A8 ws E4 (BR.ex W7)) ?_;cases e:Dw nl caps (pu (it (A8.map (·.1)) ws)) g mt VU ρ (h1.set n ⟨.Gm (A8.map (·.1)),ws⟩)with
     |bad=>rw[e]at q;cases q
     |exc c h'=>rw[e]at q;cases q
     |ok p=>
      rw[e]at q;obtain⟨w,h2⟩:=p;intro v CF AS BD x2 a2;obtain⟨D_,FX,O3⟩:=BU CF AS x2;have q:Cv AW F Bt H1 σ ρ Q (match h2[n]? with
       |some ⟨.Gm AI,ws⟩=>.ok (w,h2.set n ⟨.Aj AI,ws⟩)
       |_=>.bad):=q
      split at q
      .rename_i Nh ws' UR;refine⟨a,o,A8,KP,D_,q v CF _ ⟨BD.hd.Hd UR FX D_,Ar.x0.trans O3,BD.len,λi w e=>?_⟩ O3 (AW.Hd D_ a2)⟩;obtain⟨v,A9,q1⟩:=BD.Bn i w e;exact⟨v,A9,AW.Hd D_ q1⟩
      .exact q.elim
    .exact q.elim
   .exact q.elim
def afO(nl:Nat)(caps:List Nat)(S:UK X.env.scope X.N scope (IJ scope X.N nl caps) nl caps=true)(AB:A_ X F o m)(Ak:Q_ X scope (IJ scope X.N nl caps) C4 g)(Bi:BT X scope (IJ scope X.N nl caps) ifs mt)(he:XP X scope (IJ scope X.N nl caps) elt VU)(AH:X.calm=true:=by rfl)(AZ:F.K=X.K:=by rfl)(AN:∀x,P6 (.Call (.Attribute o "values" apos) [] [] Da) X.env x=pure x:=by intro _;rfl)(h1:MA o "values" X.env (BZ o X.env)=BZ o X.env:=by rfl)(h2:(apos.endLine==Da.line)=true:=by rfl) :
  A_ X F (.ListComp elt [⟨C4,.Call (.Attribute o "values" apos) [] [] Da,ifs,0⟩] scope pos) (R5 NZ nl caps m g mt VU):=by
 obtain⟨Bk,Co,FH⟩:=bK nl caps AZ Ak Bi he;exact⟨Ae.imp (aby (lT (M1.of S) AH (acA AB.p h1 h2) Bk Co FH AN)) (wj adW)⟩
def Oy:List B3->EE
 |[]=>A1
 |m::r=>Z m (Oy r)
def KX(F:Cx):List Str->List B3->List (TE×TE)
 |k::AI,m::ms=>(Oa (.str k),C3 F m)::KX F AI ms
 |_,_=>[]
theorem LI.imp{α β:Type}{rel:Aq->List A4->AC->α->β->Prop}{m:M α}{σ :St}{H:AC}{Q HT:β->AC->Prop}(h:LI rel F m σ H Q)(f:∀b H,Q b H->HT b H):LI rel F m σ H HT:=by obtain⟨φ,ρ,h,r,q⟩:=h;exact⟨φ,ρ,h,r,q.imp f⟩
theorem iw:∀(AI:List Str)(ms:List B3),AI.length=ms.length->∀(σ :St)(H:AC)(Q:List (V×V)->AC->Prop),GP F (Oy ms) σ H (λvs A7=>Q ((AI.map V.str).zip vs) A7)->Zl (KX F AI ms) σ H Q
 |[],[],_,σ,H,Q,h=>UI σ H _ h
 |k::AI,m::ms,l,σ,H,Q,h=>by have h:=YV σ H _ h;show C3 F m σ H _;exact LI.imp h λv H1 q=>iw AI ms (by simpa using l) σ H1 _ q
structure YA(X:Ao)(F:Cx)(pos:Pos)(keys:List (Option Al))(values:List Al)(AI:List Str)(ms:List B3):Prop where
 p:Uq X pos keys values (KX F AI ms)
 l:AI.length=ms.length/\keys.length=AI.length
def afa:YA X F pos [] [] [] []:=⟨abd,rfl,rfl⟩
def af_{k:Str}{j:Nat}{q:Pos}{AI:List Str}{ms:List B3}{keys:List (Option Al)}{values:List Al}(B_:A_ X F e m)(B7:YA X F pos keys values AI ms):YA X F pos (some (.Constant (.str k) j q)::keys) (e::values) (k::AI) (m::ms):=
 ⟨abb cf B_.p B7.p,by simp[B7.l.1],by simp[B7.l.2]⟩
noncomputable def S6(AI:List Str)(ms:List B3):B3:=λρ h=>(Oy ms ρ (h++[⟨.Aj [],[]⟩])).bind λp=>match p.2[h.length]? with
 |some ⟨.Aj [],[]⟩=>if AI.Nodup/\AI.length<=15 then .ok (.ref h.length,p.2.set h.length ⟨.Aj (AI.map .inr),p.1⟩)else .bad
 |_=>.bad
theorem kj:∀(more acc:List (Key×V)),((acc++more).map (·.1)).Nodup->Pf acc more=acc++more
 |[],acc,_=>by simp[Pf]
 |Bv::more,acc,C1=>by
  have Qm:Bv.1∉acc.map (·.1):=λz=>by rw[IZ,D3]at C1;exact(List.nodup_append.mp C1).2.2 _ z _ (Gq ..) rfl
  have e:putK acc Bv.1 Bv.2=acc++[Bv]:=by unfold putK;rw[if_neg];intro z;obtain⟨x,AK,q⟩:=List.any_eq_true.mp z;exact Qm (List.mem_map.mpr ⟨x,AK,of_decide_eq_true q⟩)
  show Pf (putK acc Bv.1 Bv.2) more=_;rw[e,kj more (acc++[Bv]) (by simpa using C1)];simp
def wn{AI:List Str}{ms:List B3}(l:AI.length=ms.length):FQ (C3 F (S6 AI ms)) (o5 (KX F AI ms)):=λσ H Q⟨φ,ρ,h,r,q⟩ p AT=>by
 refine iw AI ms l σ _ _ ⟨φ++[p],ρ,h++[⟨.Aj [],[]⟩],r.to (r.hd.new AT (ho:=.Aj []) (k:=.Aj []) ⟨[],E4,rfl,rfl⟩ .nil) (Af.QB AT),?_⟩;unfold S6 at q;cases e:Oy ms ρ (h++[⟨.Aj [],[]⟩])with
 |bad=>rw[e]at q;cases q
 |exc c h'=>rw[e]at q;exact λBE A7 x d=>q BE A7 ((Af.QB AT).trans x) d
 |ok pp=>
  rw[e]at q;obtain⟨ws,h2⟩:=pp;intro vs CF AS BD x2 as;simp only[R.bind]at q
  split at q
  .rename_i As
   split at q
   .rename_i AV;have An:CF[h.length]?=some p:=FM x2.p (Vn r.hd);obtain⟨xs,⟨A8,AX,k1,k2⟩,_⟩:=BD.hd.BJ _ _ p As An;have:A8=[]:=by simpa using k1
    subst this;have lv:vs.length=AI.length:=by
     rw[<-as.length,l];have:∀(ms:List B3)(ρ:B9)(h h2:A5)(ws:List W),Oy ms ρ h=.ok (ws,h2)->ws.length=ms.length:=by
      intro ms;induction ms with
      |nil=>intro ρ h h2 ws z;cases z;rfl
      |cons m ms C9=>
       intro ρ h h2 ws z;simp only[Oy,Z,bd]at z;cases FP:m ρ h with
       |bad=>rw[FP]at z;cases z
       |exc _ _=>rw[FP]at z;cases z
       |ok E3=>
        rw[FP]at z;simp only[R.bind]at z;cases Eg:Oy ms ρ E3.2 with
        |bad=>rw[Eg]at z;cases z
        |exc _ _=>rw[Eg]at z;cases z
        |ok Ct=>rw[Eg]at z;cases z;have:=C9 ρ E3.2 Ct.2 Ct.1 Eg;simp[this]
     exact this ms ρ _ _ _ e
    refine⟨AX,(AI.map MD).zip vs,?_,by simp[lv,AV.2],?_⟩
    .rw[List.map_zip_eq_zipWith,List.zip,qs,qs];rfl
    .have FP:((AI.map MD).zip vs:List (Key×V)).map (·.1)=AI.map MD:=by
       rw[List.map_fst_zip];simp[lv]
     have Eg:((AI.map MD).zip vs:List (Key×V)).map (·.2)=vs:=by rw[List.map_snd_zip];simp[lv]
     rw[kj _ [] (by rw[N7,FP,W_,Th];exact(List.nodup_iff_pairwise_ne.mp AV.1).imp λz y=>z (Sum.inr.inj y)),N7];have ns:¬Still (.Aj []):=λz=>z;refine q (.ref p) CF _ (BD.to (BD.hd.put (o':=⟨.Aj (AI.map .inr),ws⟩) As An AX ns ⟨_,E4,FP,Eg⟩ as) (Af.put AX ns)) (((Af.QB AT).trans x2).trans (Af.put AX ns)) (.GE An)
   .exact q.elim
  .exact q.elim
def aeb{keys:List (Option Al)}{values:List Al}{AI:List Str}{ms:List B3}(h:YA X F pos keys values AI ms)(h1:keys.all (·.isSome)=true:=by rfl)(h2:keys.length=values.length:=by rfl)(BH:keys≠[]:=by intro z;cases z)(Cs:keys.length<=15:=by decide):A_ X F (.Dict keys values pos) (S6 AI ms):=⟨Ae.imp (aaq h.p h1 h2 BH Cs) (wn h.l.1)⟩
def UY(F:Cx)(E:En):Cx:=⟨F.K,F.D7,F.Bu,Pw F.K E⟩
structure g7(X:Ao)(F:Cx)(e:Al)(m:B3):Prop where
 p:∀E,fO X e (C3 (UY F E) m) E
def agV {DO x:Str} {k j:Nat} {mf:Bq} {pl:Sem Bool} (c:Hf X.prog X.w X.K X.mg X.base DO x k j mf) (B7:Cz j X.A) (ho:∀E,A_ X.GN (UY F E) o m) (AE:∀E,Gx X.GN (UY F E) (e::es) ma) (AZ:F.K=X.K:=by rfl) (s:L_ X e es pos:=by exact{}) (Bi:BZ (.Call (.Attribute o x apos) (e::es) [] pos) X.env=(do
   let CO <-BZ o X.env
   ME apos.atName
   let(f,first) <-J3 [CO] (O0 CO x pl)
   PC pos f first (Fj pos (CJ (e::es) X.env)) (LV pos (LQ [] X.env))):=by rfl):g7 X F (.Call (.Attribute o x apos) (e::es) [] pos) (C_ DO x k mf m ma):=by
 obtain⟨C,f,fd,ps,AV,AH,Co,FH,OB,A2⟩:=c.ex;refine⟨λE pins s0 σ H Q J h=>ac2 (pl:=pl) (ho E).p Co FH OB B7 A2 (AE E).p s.he s.Fy Bi pins s0 σ H Q J ?_⟩;exact be (F:=UY F E) (X:=X) AZ AH (λc H z=>AZ▸z) σ H Q h
structure fS(K:Aq)(mg:Str->Option A6)(x:Str)(cs:List Str):Prop where
 ex:∃W,mg x=some (.ref W)/\∀c∈cs,∃C,IF K c C/\U4 K (.ref C) (.ref W)=some true
def P1(m:B3)(j:Nat)(cs:List Str)(ms:Am):Am:=λρ h=>match m ρ h with
 |.ok (w,h')=>AD j w ρ h'
 |.exc c h'=>if cs.contains c=true then ms ρ h' else .bad
 |.bad=>.bad
def afu(j:Nat){x y:Str}{cs:List Str}{Sr:BC}{T4:List BC}{ms:Am}{Sv np AT py:Pos}(hN:X.N.Nodup)(t:fS X.K X.mg x cs)(he:g7 X F e m)(AN:∀a,Ks (X.marked a) F (Sr::T4) ms)(AZ:F.K=X.K:=by rfl)(Ap:X.N[j]?=some y:=by rfl)(Z3:X.env.scope.names.lookup y=some .local:=by rfl)(Fd:X.stack=X.env::X.outer:=by rfl)(Nc:X.env.frame=some X.env.locals:=by rfl)(Ak:EI X x:=by rfl)(hd:(x==("__debug__" :Str))=false:=by decide)(Qv:Nz e (some (.Name y py)) Sv.line X.env=pure false:=by rfl) :
  Fw X F (.Try [.Assign [.Name y py] e Sv] [.ExceptHandler (some (.Name x np)) none (Sr::T4) AT] [] [] pos) (P1 m j cs ms):=by
 refine⟨λpins s σ H De J⟨φ,ρ,h,r,q⟩=>?_⟩;obtain⟨W,wP,Z5⟩:=t.ex
 let E:En:=λC _ A7=>∃(c:Str)(M0:A4)(BE:List A4)(h':A5),C=.ref M0/\IF X.K c M0/\m ρ h=.exc c h'/\Af φ H BE A7/\D1 X.K BE h' A7
 have FI:∀{c:Str}{h':A5},m ρ h=.exc c h'->cs.contains c=true/\E2 F φ H De (ms ρ h'):=λ{c h'} z=>by
  unfold P1 at q;rw[z]at q;dsimp only at q
  split at q
  .rename_i AH;exact⟨AH,q⟩
  .exact q.elim
 refine abt (E:=E) (te:=C3 (UY F E) m) (ts:=G0 F ms) hN (he.p E) wP (λC a A7⟨c,M0,BE,h',A9,AF,Dh,_⟩=>?_) (λa=>(AN a).p) Ap Z3 Fd Nc Ak hd Qv pins s σ H De J ⟨⟨φ,ρ,h,⟨r.hd,r.x0,r.len,r.Bn⟩,?_⟩,?_⟩
 .subst A9;obtain⟨fm,k1,k2⟩:=Z5 c (by simpa using(FI Dh).1);rw[AF.inj k1];exact k2
 .cases z:m ρ h with
  |bad=>unfold P1 at q;rw[z]at q;exact q
  |exc c h'=>intro BE A7 x d;obtain⟨fm,k1,k2⟩:=Z5 c (by simpa using(FI z).1);exact⟨fm,AZ▸k1,λa _=>⟨c,fm,BE,h',rfl,k1,z,x,AZ▸d⟩⟩
  |ok p=>
   obtain⟨w,h'⟩:=p;intro v BE A7 BW Fh GS;unfold P1 at q;rw[z]at q;dsimp only[AD]at q
   split at q
   .rename_i AB;have KU:Rel F BE h' A7 σ ρ:=⟨BW.hd,BW.x0,BW.len,BW.Bn⟩;exact q _ BE A7 (KU.set AB GS) Fh
   .exact q.elim
 .rintro C a A7 ⟨c,M0,BE,h',A9,AF,Dh,x,d⟩ _;have k:=(FI Dh).2;exact⟨BE,ρ,h',r.to (AZ▸d) x,E2.ex x k⟩
end
section
variable{α β:Type}
def Ends{α:Type}(r:R (α×A5))(T:α->A5->Prop):Prop:=∃a h,r=.ok (a,h)/\T a h
@[simp] theorem A3(a:α)(k:α->R β):(R.ok a).bind k=k a:=rfl
@[simp] theorem ahn(k:α->R β):(R.bad:R α).bind k=.bad:=rfl
@[simp] theorem aho(c:Str)(h:A5)(k:α->R β):(R.exc c h:R α).bind k=.exc c h:=rfl
@[simp] theorem UT(a:α)(h:A5)(T:α->A5->Prop):Ends (.ok (a,h)) T↔T a h:=⟨λ⟨b,g,e,t⟩=>by cases e;exact t,λt=>⟨a,h,rfl,t⟩⟩
@[simp] theorem agy(T:α->A5->Prop):Ends (.bad:R (α×A5)) T↔False:=⟨λ⟨b,g,e,t⟩=>(nomatch e),HC⟩
@[simp] theorem agz(c:Str)(h:A5)(T:α->A5->Prop):Ends (.exc c h:R (α×A5)) T↔False:=⟨λ⟨b,g,e,t⟩=>(nomatch e),HC⟩
theorem Ends.bind{r:R (α×A5)}{k:α×A5->R (β×A5)}{S:α->A5->Prop}{T:β->A5->Prop}(h:Ends r S)(g:∀a h,S a h->Ends (k (a,h)) T):Ends (r.bind k) T:=by obtain⟨a,h',e,s⟩:=h;rw[e];exact g a h' s
def Ends.mono{r:R (α×A5)}{S T:α->A5->Prop}(h:Ends r S)(g:∀a h,S a h->T a h):Ends r T:=by obtain⟨a,h',e,s⟩:=h;exact⟨a,h',e,g a h' s⟩
def Ends.done{r:R (α×A5)}{a:α}{h:A5}(e:Ends r λb g=>b=a/\g=h):r=.ok (a,h):=by obtain⟨b,g,e,rfl,rfl⟩:=e;exact e
@[simp] theorem IV(m:M α)(k:α->M β)(ρ:B9)(h:A5):bd m k ρ h=(m ρ h).bind λp=>k p.1 ρ p.2:=rfl
@[simp] theorem Bw(a:α)(ρ:B9)(h:A5):pu a ρ h=.ok (a,h):=rfl
end
section
variable(ρ:B9)(h g:A5)(m n:B3)(a:EE)(s t:Am)(c d:DF)
def Oe:Option (Option W)->A5->R (W×A5)
 |some (some w),h=>.ok (w,h)
 |_,_=>.bad
@[simp] theorem Ci(w:W):Oe (some (some w)) h=.ok (w,h):=rfl
@[simp] theorem v_var(i:Nat):I i ρ h=Oe ρ[i]? h:=by
  unfold I Oe;cases ρ[i]? with
  |none=>rfl
  |some o=>cases o<;>rfl
@[simp] theorem Bg(f:Io):A0 f m n ρ h=(m ρ h).bind λp=>(n ρ p.2).bind λq=>f p.1 q.1 q.2:=rfl
@[simp] theorem Jv(f:W->A5->R (W×A5)):BM f m ρ h=(m ρ h).bind λp=>f p.1 p.2:=rfl
@[simp] theorem Ce:A1 ρ h=.ok ([],h):=rfl
@[simp] theorem CM:Z m a ρ h=(m ρ h).bind λp=>(a ρ p.2).bind λq=>.ok (p.1::q.1,q.2):=rfl
@[simp] theorem Pu:BQ a ρ h=(a ρ h).bind λp=>if p.1.length<=B0 then .ok (.tup p.1,p.2)else .bad:=by unfold BQ bd;congr;funext p;dsimp only;split<;>rfl
@[simp] theorem Mh:By a ρ h=(a ρ h).bind λp=>nw .lst p.1 p.2:=rfl
@[simp] theorem G1(f:Kl):Az f a ρ h=(a ρ h).bind λp=>f p.1 p.2:=rfl
@[simp] theorem IW(k:Nat)(f:Bq):Ah k f a ρ h=(a ρ h).bind λp=>if p.1.length=k then f p.1 p.2 else .bad:=by unfold Ah bd;congr
def Uu:W->A5->R (Bool×A5)
 |.AL b,h=>.ok (b,h)
 |_,_=>.bad
@[simp] theorem HE(b:Bool):Uu (.AL b) h=.ok (b,h):=rfl
@[simp] theorem HA:AY m ρ h=(m ρ h).bind λp=>Uu p.1 p.2:=by unfold AY bd;congr;funext p;cases p.1<;>rfl
@[simp] theorem v_and:Fl c d ρ h=(c ρ h).bind λp=>if p.1=true then d ρ p.2 else .ok (false,p.2):=by unfold Fl bd;congr;funext p;dsimp only;split<;>rfl
@[simp] theorem v_or:FL c d ρ h=(c ρ h).bind λp=>if p.1=true then .ok (true,p.2)else d ρ p.2:=by unfold FL bd;congr;funext p;dsimp only;split<;>rfl
@[simp] theorem v_not:EG c ρ h=(c ρ h).bind λp=>.ok (!p.1,p.2):=rfl
@[simp] theorem ahh:Ln m n ρ h=(m ρ h).bind λp=>(Uu p.1 p.2).bind λq=>if q.1=true then n ρ q.2 else .ok (.AL false,q.2):=by unfold Ln bd;congr;funext p;cases p.1<;>first|rfl|(rename_i b;cases b<;>rfl)
@[simp] theorem ahk:Vw m n ρ h=(m ρ h).bind λp=>(Uu p.1 p.2).bind λq=>if q.1=true then .ok (.AL true,q.2)else n ρ q.2:=by unfold Vw bd;congr;funext p;cases p.1<;>first|rfl|(rename_i b;cases b<;>rfl)
@[simp] theorem ahj:Vv m ρ h=(m ρ h).bind λp=>(Uu p.1 p.2).bind λq=>.ok (.AL (!q.1),q.2):=by unfold Vv bd;congr;funext p;cases p.1<;>rfl
@[simp] theorem adQ:Nn c m n ρ h=(c ρ h).bind λp=>if p.1=true then m ρ p.2 else n ρ p.2:=by unfold Nn bd;congr;funext p;dsimp only;split<;>rfl
def OZ(t:Am):F9×A5->R (F9×A5)
 |(.AR ρ,h)=>t ρ h
 |p=>.ok p
@[simp] theorem BA:OZ t (.AR ρ,h)=t ρ h:=rfl
@[simp] theorem T0(w:W):OZ t (.EA w,h)=.ok (.EA w,h):=rfl
@[simp] theorem B4:AQ s t ρ h=(s ρ h).bind (OZ t):=by unfold AQ;congr
@[simp] theorem Fg:Bd ρ h=.ok (.AR ρ,h):=rfl
@[simp] theorem Mg:HJ m ρ h=(m ρ h).bind λp=>.ok (.AR ρ,p.2):=rfl
@[simp] theorem Ga:B2 m ρ h=(m ρ h).bind λp=>.ok (.EA p.1,p.2):=rfl
@[simp] theorem Dj:Bh c s t ρ h=(c ρ h).bind λp=>if p.1=true then s ρ p.2 else t ρ p.2:=by unfold Bh bd;congr;funext p;dsimp only;split<;>rfl
@[simp] theorem Ri(i:Nat)(w:W):AD i w ρ h=if i<ρ.length then .ok (.AR (ρ.set i (some w)),h)else .bad:=rfl
@[simp] theorem Do(f:D9):Ac m f ρ h=(m ρ h).bind λp=>f p.1 ρ p.2:=rfl
@[simp] theorem q4(f:D9):Oz m f ρ h=(m ρ h).bind λp=>YP (f p.1 ρ p.2):=rfl
@[simp] theorem ai6:YP (.ok (.AR ρ,h))=.ok (.AR ρ,h):=rfl
@[simp] theorem ahi(N:Nat)(ws:List W):F1 N s ws h=(s (Nf N ws) h).bind outF:=rfl
@[simp] theorem Vx(N:Nat)(ws:List W):DI N s ws h=(s (Nf N ws) h).bind λp=>(outF p).bind λq=>settle h q.1 q.2:=by unfold DI F1;cases s (Nf N ws) h<;>rfl
@[simp] theorem jo:outF (.AR ρ,h)=.ok (.non,h):=rfl
@[simp] theorem Ig(w:W):outF (.EA w,h)=.ok (w,h):=rfl
@[simp] theorem FO:Bb m ρ h=(m ρ h).bind λp=>settle h p.1 p.2:=rfl
@[simp] theorem adU:Ho c ρ h=(c ρ h).bind λp=>.ok (p.1,if Fn h p.2=true then h else p.2):=rfl
@[simp] theorem adR(f:NJ):EP f m a ρ h=(m ρ h).bind λp=>Y_ p.1 (bd a λus=>Yf f p.1 us) ρ p.2:=rfl
@[simp] theorem ahl(x:Str):No x ρ h=.exc x h:=rfl
@[simp] theorem ai5(p:F9×A5):H5 (.ok p)=.ok p:=rfl
@[simp] theorem Ly(mi:Fv)(f:D9):F2 mi f s ρ h=H5 (Pb mi f s ρ h):=rfl
@[simp] theorem ahm:Yi c s ρ h=H5 (S7 c s ρ h):=rfl
@[simp] theorem Uj(N:Nat)(ws:List W):Nf N ws=ws.map some++Fu (N-ws.length) none:=rfl
end
section
variable(h g:A5)
@[simp] theorem Q1(k:Nat):(h++g)[h.length+k]?=g[k]?:=by rw[N1 (by lia)];congr 1;lia
@[simp] theorem HH:(h++g)[h.length]?=g[0]?:=Q1 h g 0
@[simp] theorem wQ(k:Nat)(o:O):(h++g).set (h.length+k) o=h++g.set k o:=by rw[qt _ _ (by lia)];congr 2;lia
@[simp] theorem SU(o:O):(h++g).set h.length o=h++g.set 0 o:=wQ h g 0 o
def Ch{n:Nat}{o:O}(e:h[n]?=some o)(g:A5):(h++g)[n]?=some o:=by rw[Gs (List.getElem?_eq_some_iff.mp e).1];exact e
@[simp] theorem ahS(h g:A5):Fn h (h++g)=true:=WG h g
@[simp] theorem ahW(h:A5):Fn h h=true:=abe h
@[simp] theorem Pp(w:W)(e:DL w=true):settle h w h=.ok (w,h):=by unfold settle;simp[e]
@[simp] theorem WP(w:W)(e:DL w=true):settle h w (h++g)=.ok (w,h):=by unfold settle;simp[e]
theorem lb:∀(h a b:A5),Fn (h++a) (h++b)=Fn a b
 |[],_,_=>rfl
 |o::h,a,b=>by simp only[HU,Fn,RP,lb h a b];simp
@[simp] theorem ahT(h a b:A5):Fn (h++a) (h++b)=Fn a b:=lb h a b
@[simp] theorem ags(a:List W):K8 a a=true:=RP a
@[simp] theorem ahV(h:A5):Fn [] h=true:=by simp[Fn]
@[simp] theorem ahU(o o':O)(h g:A5):Fn (o::h) (o'::g)=(decide (o.k=o'.k)&&K8 o.ws o'.ws&&Fn h g):=by simp[Fn]
@[simp] theorem aha(w:W)(e:DL w=true)(p:Fn h g=true):settle h w g=.ok (w,h):=by unfold settle;simp[e,p]
def JQ{n:Nat}{ws:List W}(p:Fn h g=true)(l:h.length<=n)(e:g[n]?=some ⟨.lst,ws⟩)(Kf:Fm ws=true):settle h (.ref n) g=.ok (.ref h.length,h++[⟨.lst,ws⟩]):=by unfold settle;simp[p,l,e,Kf,DL]
def aeC(k:Nat){ws:List W}(e:g[k]?=some ⟨.lst,ws⟩)(n:Fm ws=true):settle h (.ref (h.length+k)) (h++g)=.ok (.ref h.length,h++[⟨.lst,ws⟩]):=by unfold settle;simp[e,n,DL]
def Po{ws:List W}(e:g[0]?=some ⟨.lst,ws⟩)(n:Fm ws=true):settle h (.ref h.length) (h++g)=.ok (.ref h.length,h++[⟨.lst,ws⟩]):=aeC h g 0 e n
@[simp] theorem T1(ws:List W):EC h (.tup ws)=some (true,ws):=by simp[EC]
@[simp] theorem ah_(ws:List W):EC h (.I6 ws)=some (true,ws):=by simp[EC]
def IB{n:Nat}{ws:List W}(e:h[n]?=some ⟨.lst,ws⟩):EC h (.ref n)=some (false,ws):=by simp[EC,e]
@[simp] theorem ZY(ws:List W):EC h (.DV ws)=some (false,ws):=by simp[EC]
def Nm{n:Nat}{ws:List W}(e:h[n]?=some ⟨.lst,ws⟩):L5 h (.ref n)=some (n,ws):=by simp[L5,e]
@[simp] theorem ahs(i:Int):DL (.int i)=true:=by simp[DL]
@[simp] theorem ahy(i:Str):DL (.str i)=true:=by simp[DL]
@[simp] theorem ahr(i:Bool):DL (.AL i)=true:=by simp[DL]
@[simp] theorem ahv:DL .non=true:=by simp[DL]
@[simp] theorem ai0(ws:List W):DL (.tup ws)=Fm ws:=by simp[DL]
@[simp] theorem ahu(ws:List W):DL (.I6 ws)=Fm ws:=by simp[DL]
@[simp] theorem aht(ws:List W):DL (.DV ws)=Fm ws:=by simp[DL]
@[simp] theorem ai3:Fm []=true:=by simp[Fm]
@[simp] theorem ai1(w:W)(ws:List W):Fm (w::ws)=(DL w&&Fm ws):=by simp[Fm]
theorem Jn:∀{ws:List W},Fm ws=true↔∀w∈ws,DL w=true
 |[]=>by simp
 |w::ws=>by simp[Jn (ws:=ws)]
def H_{ws:List W}(e:ws.length<=B0):nw .lst ws h=.ok (.ref h.length,h++[⟨.lst,ws⟩]):=if_pos e
end
section
variable(i j:Int)(h:A5)
@[simp] theorem MW:addW (.int i) (.int j) h=.ok (.int (i+j),h):=rfl
@[simp] theorem aiB:NY (.int i) (.int j) h=.ok (.int (i-j),h):=rfl
@[simp] theorem zT:HY (.int i) (.int j) h=if LC i j then .ok (.int (i*j),h)else .bad:=rfl
@[simp] theorem Kh:BV (.int i) (.int j) h=if 0<j then .ok (.int (i%j),h)else .bad:=by show(match(if 0<j then some (W.int (i%j))else none)with|some w=>R.ok (w,h)|none=>R.bad)=_;by_cases AH:0<j<;>simp[AH]
@[simp] theorem MX:CY (.int i) (.int j) h=if 0<j/\j<1073741824 then .ok (.int (i/j),h)else .bad:=by show(match(if Sc i j then some (W.int (i/j))else none)with|some w=>R.ok (w,h)|none=>R.bad)=_;unfold Sc;by_cases AH:0<j/\j<1073741824<;>simp[AH]
@[simp] theorem aiA:OV (.int i) (.int j) h=if OD i j then .ok (.int (i^j.toNat),h)else .bad:=by show(match(if OD i j then some (W.int (i^j.toNat))else none)with|some w=>R.ok (w,h)|none=>R.bad)=_;by_cases AH:OD i j<;>simp[AH]
@[simp] theorem zS:JJ (.int i) (.int j) h=.ok (.AL (decide (i<j)),h):=rfl
@[simp] theorem kH:Ll (.int i) (.int j) h=.ok (.AL (decide (i<=j)),h):=rfl
@[simp] theorem zR:KG (.int i) (.int j) h=.ok (.AL (decide (j<i)),h):=rfl
@[simp] theorem ai8:aO (.int i) (.int j) h=.ok (.AL (decide (j<=i)),h):=rfl
@[simp] theorem V4:Au true (.int i) (.int j) h=.ok (.AL (decide (i=j)),h):=by simp only[Au,DD,eqT];by_cases e:i=j<;>simp[e]
@[simp] theorem ai9:Au false (.int i) (.int j) h=.ok (.AL (!decide (i=j)),h):=by simp only[Au,DD,eqT];by_cases e:i=j<;>simp[e]
def Vf{t:Bool}{x:W}{ws:List W}{k:Nat}{w:W}(e:EC h x=some (t,ws))(AK:ws[k]?=some w):AA x (.int (k:Int)) h=.ok (w,h):=by
 have AO:k<ws.length:=(List.getElem?_eq_some_iff.mp AK).1;have ex:Q9 x (.int (k:Int)) h=.ok (w,h):=by
  have:J8 ws (k:Int)=some w:=by unfold J8 Lk;rw[if_pos (by lia),if_pos (by lia)];simpa using AK
  unfold Q9;cases x<;>first|(simp[e,this];done)|(simp[EC]at e)
 unfold AA;have hd:Gz h x (.int (k:Int))=none:=by
  unfold Gz;cases x<;>first|rfl|skip
  rename_i n;unfold EC at e;dsimp only at e |-
  split at e<;>rename_i As<;>first|(rw[As];done)|(cases e;done)
 rw[hd];exact ex
end
def Lz(J:B9->A5->Prop)(T:F9->A5->Prop):F9->A5->Prop
 |.AR ρ,h=>J ρ h
 |.DA ρ,h=>J ρ h
 |.BU ρ,h=>T (.AR ρ) h
 |.EA w,h=>T (.EA w) h
@[simp] theorem XR(J:B9->A5->Prop)(T:F9->A5->Prop)(ρ:B9)(h:A5):Lz J T (.AR ρ) h↔J ρ h:=Iff.rfl
@[simp] theorem ahH(J:B9->A5->Prop)(T:F9->A5->Prop)(ρ:B9)(h:A5):Lz J T (.DA ρ) h↔J ρ h:=Iff.rfl
@[simp] theorem ahG(J:B9->A5->Prop)(T:F9->A5->Prop)(ρ:B9)(h:A5):Lz J T (.BU ρ) h↔T (.AR ρ) h:=Iff.rfl
@[simp] theorem r2(J:B9->A5->Prop)(T:F9->A5->Prop)(w:W)(h:A5):Lz J T (.EA w) h↔T (.EA w) h:=Iff.rfl
theorem Ends.H5{r:R (F9×A5)}{T:F9->A5->Prop}(h:Ends r T):Ends (C0.H5 r) T:=by obtain⟨a,g,e,t⟩:=h;rw[e];exact⟨a,g,rfl,t⟩
theorem aM{it:Gk}{g:D9}{b:Am}(n:Nat)(J:Nat->B9->A5->Prop)(T:F9->A5->Prop)(DY:∀j ρ h,J j ρ h->(it j h=some none/\T (.AR ρ) h)\/(∃w,it j h=some (some w)/\j<n/\∃CI h1,g w ρ h=.ok (.AR CI,h1)/\Ends (b CI h1) (Lz (J (j+1)) T))) :
  ∀f j ρ h,J j ρ h->n-j<f->Ends (Mm it g b f j ρ h) T
 |0,j,ρ,h,i,l=>by lia
 |f+1,j,ρ,h,i,l=>by
  unfold Mm;rcases DY j ρ h i with⟨e,t⟩|⟨w,e,Ap,CI,h1,eg,Du,h2,BF,t⟩
  .rw[e];exact⟨_,_,rfl,t⟩
  .rw[e];simp only[eg,A3,BF];cases Du with
   |AR Dd=>exact aM n J T DY f (j+1) Dd h2 t (by lia)
   |DA Dd=>exact aM n J T DY f (j+1) Dd h2 t (by lia)
   |BU Dd=>exact⟨_,_,rfl,t⟩
   |EA w=>exact⟨_,_,rfl,t⟩
def ae{mi:Fv}{it:Gk}{g:D9}{b:Am}{ρ:B9}{h h0:A5}(n:Nat)(AV:n<1000)(J:Nat->B9->A5->Prop){T:F9->A5->Prop}(AB:mi ρ h=.ok (it,h0))(GK:J 0 ρ h0)(DY:∀j ρ h,J j ρ h->(it j h=some none/\T (.AR ρ) h)\/(∃w,it j h=some (some w)/\j<n/\∃CI h1,g w ρ h=.ok (.AR CI,h1)/\Ends (b CI h1) (Lz (J (j+1)) T))):Ends (Pb mi g b ρ h) T:=by unfold Pb;simp only[IV,AB,A3];exact aM n J T DY 1000 0 ρ h0 GK (by lia)
def RV{mi:Fv}{g:D9}{b:Am}{ρ:B9}{h h0:A5}(lo:Int)(n:Nat)(AV:n<1000)(J:Nat->B9->A5->Prop){T:F9->A5->Prop}(AB:mi ρ h=.ok (LH lo n,h0))(GK:J 0 ρ h0)(DY:∀j ρ h,j<n->J j ρ h->∃CI h1,g (.int (lo+j)) ρ h=.ok (.AR CI,h1)/\Ends (b CI h1) (Lz (J (j+1)) T))(fin:∀ρ h,J n ρ h->T (.AR ρ) h):Ends (Pb mi g b ρ h) T:=by
 refine ae n AV (λj ρ h=>j<=n/\J j ρ h) AB ⟨ID _,GK⟩ λj ρ h⟨l,i⟩=>?_;by_cases Ap:j<n
 .obtain⟨CI,h1,e,t⟩:=DY j ρ h Ap i;exact .inr ⟨_,by simp[LH,Ap],Ap,CI,h1,e,t.mono λf h' q=>by cases f<;>first|exact⟨Ap,q⟩|exact q⟩
 .have:j=n:=by lia
  subst this;exact .inl ⟨by simp[LH],fin ρ h i⟩
def US{mi:Fv}{it:Gk}{g:D9}{b:Am}{ρ:B9}{h h0:A5}(ws:List W)(AV:ws.length<1000)(J:Nat->B9->A5->Prop){T:F9->A5->Prop}(AB:mi ρ h=.ok (it,h0))(hit:∀j ρ h,j<=ws.length->J j ρ h->it j h=some ws[j]?)(GK:J 0 ρ h0)(DY:∀j w ρ h,ws[j]?=some w->J j ρ h->∃CI h1,g w ρ h=.ok (.AR CI,h1)/\Ends (b CI h1) (Lz (J (j+1)) T))(fin:∀ρ h,J ws.length ρ h->T (.AR ρ) h):Ends (Pb mi g b ρ h) T:=by
 refine ae ws.length AV (λj ρ h=>j<=ws.length/\J j ρ h) AB ⟨ID _,GK⟩ λj ρ h⟨l,i⟩=>?_;have FC:=hit j ρ h l i;by_cases Ap:j<ws.length
 .obtain⟨CI,h1,e,t⟩:=DY j ws[j] ρ h (Cc Ap) i;exact .inr ⟨_,by rw[FC,Cc Ap],Ap,CI,h1,e,t.mono λf h' q=>by cases f<;>first|exact⟨Ap,q⟩|exact q⟩
 .have:j=ws.length:=by lia
  subst this;exact .inl ⟨by rw[FC];simp,fin ρ h i⟩
theorem dX{c:DF}{b:Am}(J:Nat->B9->A5->Prop)(T:F9->A5->Prop)(DY:∀n ρ h,J n ρ h->∃k h1,c ρ h=.ok (k,h1)/\(k=false->T (.AR ρ) h1)/\(k=true->Ends (b ρ h1) (Lz (λEH h'=>∃m,m<n/\J m EH h') T))):∀f n ρ h,J n ρ h->n<f->Ends (Pv c b f ρ h) T
 |0,n,ρ,h,i,l=>by lia
 |f+1,n,ρ,h,i,l=>by
  unfold Pv;obtain⟨k,h1,e,t1,Cb⟩:=DY n ρ h i;simp only[IV,e,A3];cases k with
  |false=>simpa using t1 rfl
  |true=>
   obtain⟨Du,h2,BF,t⟩:=Cb rfl;simp only[if_true,BF,A3];cases Du with
   |AR Dd=>obtain⟨m,hm,t⟩:=t;exact dX J T DY f m Dd h2 t (by lia)
   |DA Dd=>obtain⟨m,hm,t⟩:=t;exact dX J T DY f m Dd h2 t (by lia)
   |BU Dd=>exact⟨_,_,rfl,t⟩
   |EA w=>exact⟨_,_,rfl,t⟩
def uF{c:DF}{b:Am}{ρ:B9}{h:A5}(J:Nat->B9->A5->Prop){T:F9->A5->Prop}{n:Nat}(AV:n<1000)(GK:J n ρ h)(DY:∀n ρ h,J n ρ h->∃k h1,c ρ h=.ok (k,h1)/\(k=false->T (.AR ρ) h1)/\(k=true->Ends (b ρ h1) (Lz (λEH h'=>∃m,m<n/\J m EH h') T))):Ends (S7 c b ρ h) T:=
 dX J T DY 1000 n ρ h GK AV
theorem bJ{it:Gk}{g:D9}{t:DF}{e:B3}{h:A5}(ws:List W)(p:W->Bool)(f:W->W)(BK:B9->Prop)(AG:ws.length<1000)(hit:∀j acc,j<=ws.length->it j (h++[⟨.lst,acc⟩])=some ws[j]?)(DY:∀w∈ws,∀ρ acc,BK ρ->∃CI,g w ρ (h++[⟨.lst,acc⟩])=.ok (.AR CI,h++[⟨.lst,acc⟩])/\BK CI/\t CI (h++[⟨.lst,acc⟩])=.ok (p w,h++[⟨.lst,acc⟩])/\(p w=true->e CI (h++[⟨.lst,acc⟩])=.ok (f w,h++[⟨.lst,acc⟩]))) :
  ∀k j ρ acc,j<=ws.length->ws.length-j<k->acc.length<=j->BK ρ->KA it g t e h.length k j ρ (h++[⟨.lst,acc⟩])=.ok (h++[⟨.lst,acc++((ws.drop j).filter p).map f⟩])
 |0,j,ρ,acc,Ap,l,HI,i=>by lia
 |k+1,j,ρ,acc,Ap,l,HI,i=>by
  unfold KA;rw[hit _ _ Ap];by_cases DS:j<ws.length
  .have CC:=e6 DS;rw[Cc DS];obtain⟨CI,A9,BB,AF,Dh⟩:=DY ws[j] (LS DS) ρ acc i;simp only[A9,A3,AF];cases AT:p ws[j]with
   |false=>rw[if_neg (by simp),bJ ws p f BK AG hit DY k (j+1) CI acc DS (by lia) (by lia) BB,CC];simp only[QF,AT,M6,if_false]
   |true=>rw[if_pos rfl,Dh AT];simp only[A3,HH,DM,SU,N6];rw[if_pos (show acc.length<B0 by unfold B0;lia),bJ ws p f BK AG hit DY k (j+1) CI (acc++[f ws[j]]) DS (by lia) (by simp;lia) BB,CC];simp only[QF,AT,if_true,D3,F6,HU,N7]
  .have:j=ws.length:=by lia
   subst this;simp
def UL{mi:Fv}{it:Gk}{g:D9}{t:DF}{e:B3}{ρ:B9}{h h0:A5}{nl:Nat}{caps:List Nat}(ws:List W)(p:W->Bool)(f:W->W)(BK:B9->Prop)(AG:ws.length<1000)(AB:mi ρ h0=.ok (it,h))(GK:BK (PJ nl caps ρ))(hit:∀j acc,j<=ws.length->it j (h++[⟨.lst,acc⟩])=some ws[j]?)(DY:∀w∈ws,∀ρ acc,BK ρ->∃CI,g w ρ (h++[⟨.lst,acc⟩])=.ok (.AR CI,h++[⟨.lst,acc⟩])/\BK CI/\t CI (h++[⟨.lst,acc⟩])=.ok (p w,h++[⟨.lst,acc⟩])/\(p w=true->e CI (h++[⟨.lst,acc⟩])=.ok (f w,h++[⟨.lst,acc⟩]))) :
  Dw nl caps mi g t e ρ h0=.ok (.ref h.length,h++[⟨.lst,(ws.filter p).map f⟩]):=by
 unfold Dw;simp only[IV,AB,A3];rw[bJ ws p f BK AG hit DY Km 0 _ [] (ID _) (by unfold Km;lia) (CB _) GK];simp
def UM{mi:Fv}{e:B3}{ρ:B9}{h h0:A5}{caps:List Nat}(lo:Int)(n:Nat)(f:Nat->W)(AG:n<1000)(AB:mi ρ h0=.ok (LH lo n,h))(DY:∀j,j<n->∀acc,e (some (.int (lo+j))::caps.map λj=>ρ.getD j none) (h++[⟨.lst,acc⟩])=.ok (f j,h++[⟨.lst,acc⟩])) :
  Dw 1 caps mi (AD 0) (pu true) e ρ h0=.ok (.ref h.length,h++[⟨.lst,(CW n).map f⟩]):=by
 let EO:W->Nat:=λw=>match w with
  |.int i=>(i-lo).toNat
  |_=>0
 have AK:∀j:Nat,(lo+(j:Int)-lo).toNat=j:=λj=>by lia
 have:=UL (mi:=mi) (g:=AD 0) (t:=pu true) (e:=e) (ρ:=ρ) (nl:=1) (caps:=caps) ((CW n).map λj:Nat=>W.int (lo+(j:Int))) (λ_=>true) (λw=>f (EO w)) (λEH=>∃x,EH=x::caps.map λj=>ρ.getD j none) (by simpa using AG) AB ⟨none,rfl⟩ (λj acc _=>by
  simp only[LH,Ed,Tr];by_cases Ap:j<n
  .simp[Ap]
  .simp[Ap]) λw hw EH acc⟨x,AK⟩=>by obtain⟨j,Ap,rfl⟩:=List.mem_map.mp hw;subst AK;refine⟨some (.int (lo+j))::caps.map λj=>ρ.getD j none,by simp,⟨_,rfl⟩,rfl,λ_=>?_⟩;rw[DY j (List.mem_range.mp Ap) acc];simp[EO,AK]
 rw[this];simp[EO,AK,List.filter_eq_self.mpr,P8]
@[simp] theorem adT(ma:EE)(ρ:B9)(h:A5):Dc ma ρ h=(ma ρ h).bind λp=>match p.1 with
  |[.int j]=>if-(2^62)<=j/\j<2^62 then .ok (LH 0 j.toNat,p.2)else .bad
  |_=>.bad:=by
  unfold Dc bd;congr;funext p;obtain⟨ws,g⟩:=p;rcases ws with _|⟨w,_|⟨u,r⟩⟩
  .rfl
  .cases w<;>first|rfl|(dsimp only;split<;>rfl)
  .cases w<;>rfl
def mW{n:Nat}(AV:n<1000): -(2^62)<=(n:Int)/\(n:Int)<2^62:=by
 have:(2:Int)^62=4611686018427387904:=by decide
 rw[this];lia
def LG{ma:EE}{ρ:B9}{h h0:A5}{n:Nat}(e:ma ρ h0=.ok ([.int (n:Int)],h))(AV:n<1000):Dc ma ρ h0=.ok (LH 0 n,h):=by rw[adT,e,A3];exact if_pos (mW AV)
def ZK{P:List A6->Prop}(h:P []):∀us:List A6,us.length=0->P us
 |[],_=>h
def ZL{P:List A6->Prop}{n:Nat}(h:∀a us,us.length=n->P (a::us)):∀us:List A6,us.length=n+1->P us
 |a::us,e=>h a us (Nat.succ.inj e)
def WY:A6->Option W
 |.int i _=>some (.int i)
 |.str x _=>some (.str x)
 |_=>none
theorem q3{K:Aq}:∀{us:List A6}{ws:List W},us.mapM WY=some ws->∃xs,Vals xs us/\∀φ H,Ai K φ H ws xs
 |[],ws,e=>by simp at e;subst e;exact⟨[],.nil,λ_ _=>.nil⟩
 |u::us,ws,e=>by
  rw[XD]at e;cases Fq:WY u with
  |none=>rw[Fq]at e;cases e
  |some w=>
   cases B5:us.mapM WY with
   |none=>rw[Fq,B5]at e;cases e
   |some r=>
    rw[Fq,B5]at e;cases e;obtain⟨xs,v,a⟩:=q3 (K:=K) B5;cases u<;>simp only[WY]at Fq<;>first|(cases Fq;done)|skip
    .cases Fq;exact⟨.int _::xs,.cons ⟨_,rfl⟩ v,λφ H=>.cons (by simp only[AW]) (a φ H)⟩
    .cases Fq;exact⟨.str _::xs,.cons ⟨_,rfl⟩ v,λφ H=>.cons (by simp only[AW]) (a φ H)⟩
section
variable{K:Aq}{h:B8}{mg:Str->Option A6}{x qual DO:Str}{C f:A4}{st:BC}{ps B1:List Str}{Dy an:Option A4}{Bn:Array (Option A6)}{GD Cm IL pm cd DA:A6}
abbrev XQ(x qual:Str)(st:BC)(ps:List Str):Prop:=∀(Cm doc pm:A6)(an:Option A4)(FJ DA:A6)(us:List A6),us.length=ps.length->bindArgs (K0 x qual (Ld st) (KD st) (Bs st) .none Cm doc pm an FJ DA) ⟨us,[]⟩=pure (ps.zip us)
def uk(X:K.In h)(G:h.Ns FG mg)(a:J2 K FG x=some (some (.ref f)))(l:K.lookup f=some ⟨GD,Dy,.func (K0 x x (Ld st) (KD st) (Bs st) .none Cm IL pm an cd DA),Bn⟩)(c:N4 K cd x=true)(k:Jz K (.ref f)=true)(b:XQ x x st ps:=by intro _ _ _ _ _ _;(repeat refine ZL λ_=>?_);exact ZK rfl):DE K mg x st ps:=⟨⟨f,_,Ra (st:=st) l c k,QR X G a,(Ra (st:=st) l c k).binds b⟩⟩
def aaH(n:J2 K FG DO=some (some (.ref C)))(g1:Rv K C Str.empty=true)(g2:Tf K C=true)(g3:Wz K C=true)(g4:JT K (.ref C) "__setattr__"=some (some (.builtin "object.__setattr__")))(a:JT K (.ref C) x=some (some (.ref f)))(l:K.lookup f=some ⟨GD,Dy,.func (K0 x qual (Ld st) (KD st) (Bs st) .none Cm IL pm an cd DA),Bn⟩)(c:N4 K cd qual=true)(k:Jz K (.ref f)=true)(i:Tu K (.ref f)=true)(b:XQ x qual st ps:=by intro _ _ _ _ _ _;(repeat refine ZL λ_=>?_);exact ZK rfl):Jb K DO x qual st ps:=⟨⟨C,f,_,n,⟨g1,g2,g3,g4⟩,⟨a,i,k⟩,Ra (st:=st) l c k,(Ra (st:=st) l c k).binds b⟩⟩
def aaD(X:K.In h)(G:h.Ns FG mg)(n:J2 K FG DO=some (some (.ref C)))(mk:eX K C=true)(kc:Jz K (.ref C)=true)(a:JT K (.ref C) "__init__"=some (some (.ref f)))(l:K.lookup f=some ⟨GD,Dy,.func (K0 "__init__" qual (Ld st) (KD st) (Bs st) .none Cm IL pm an cd DA),Bn⟩)(c:N4 K cd qual=true)(k:Jz K (.ref f)=true)(i:Tu K (.ref f)=true)(b:XQ "__init__" qual st ps:=by intro _ _ _ _ _ _;(repeat refine ZL λ_=>?_);exact ZK rfl):InK K mg DO qual st ps:=⟨⟨C,f,_,n,⟨mk,a,i,kc⟩,Ra (st:=st) l c k,QR X G n,(Ra (st:=st) l c k).binds b⟩⟩
def sX(n:J2 K FG DO=some (some (.ref C)))(g1:Rv K C Str.empty=true)(g2:Tf K C=true)(g3:Wz K C=true)(g4:JT K (.ref C) "__setattr__"=some (some (.builtin "object.__setattr__")))(u:∀f∈B1,JT K (.ref C) f=some none):PQ K DO B1:=⟨⟨C,n,⟨g1,g2,g3,g4⟩,u⟩⟩
def tY(X:K.In h)(G:h.Ns FG mg)(n:J2 K FG DO=some (some (.ref C)))(e:Tx K C [.type "ValueError",.type "Exception",.type "BaseException",.type "object"] "ValueError.__new__"=true):Sd K mg DO:=⟨⟨C,n,QR X G n,e⟩⟩
def adi{c:Str}{C D:A4}(a:J2 K FG c=some (some (.ref D)))(e:U4 K (.ref D) (.ref C)=some true):∃D,J2 K FG c=some (some (.ref D))/\U4 K (.ref D) (.ref C)=some true:=⟨D,a,e⟩
def adj{cs:List Str}(X:K.In h)(G:h.Ns FG mg)(n:J2 K FG x=some (some (.ref C)))(u:∀c∈cs,∃D,J2 K FG c=some (some (.ref D))/\U4 K (.ref D) (.ref C)=some true):fS K mg x cs:=⟨⟨C,QR X G n,u⟩⟩
def sZ{i:Int}{t:Tok}(X:K.In h)(G:h.Ns FG mg)(z:J2 K FG x=some (some (.int i t))):M2 K mg x (.int i):=⟨⟨.int i,_,QR X G z,⟨t,rfl⟩,λ_ _=>by simp only[AW]⟩⟩
def sj{its:Array A6}{m:Nat}{ws:List W}(X:K.In h)(G:h.Ns FG mg)(z:J2 K FG x=some (some (.ref C)))(y:K.lookup C=some ⟨.type "tuple",Dy,.seq its m,Bn⟩)(hz:its.size<=CG)(e:its.toList.mapM WY=some ws):M2 K mg x (.I6 ws):=by obtain⟨xs,v,a⟩:=q3 (K:=K) e;refine⟨⟨.ref C,_,QR X G z,rfl,λφ H=>?_⟩⟩;simp only[AW];exact⟨C,xs,rfl,.inr ⟨_,its,m,y,rfl,rfl,hz,v⟩,a φ H⟩
end
def cV(ns:List Int):W:=.DV (ns.map W.int)
theorem p4{K:Aq}{φ:List A4}{H:AC}:∀ns:List Int,Ai K φ H (ns.map W.int) (ns.map V.int)
 |[]=>.nil
 |_::ns=>.cons (by simp only[AW]) (p4 ns)
def sm{P:C5}{w:Bo}{H:AC}{s:AM}{e:A6}{s':AM}(h:IE P w [] H s (λ_ _ _=>False) e s'):False:=by obtain⟨a,C,HD,B,A7,_,_,z⟩:=h;exact z
def af0{l:eQ}{q:C5}{loose:List Str}{Kt:(Str->Option A6)->B8->Prop}{MJ:Bo->B8->Prop}{d:DefRec}{K:Params->Aq}{st:BC}{x p:Str}{N:List Str}{k:Nat}{m:Am}(AV:l.most=some 63)(Rg:d.params.defaults=[])(B7:Cz (k+1) PG)(S:C7 N [p] (Bs st))(hd:d.name=x)(Ub:∀(w:Bo)(h:B8),MJ w h->(K w.params).In h)(T:∀(w:Bo)(mg:Str->Option A6)(h:B8),(K w.params).In h->h.Ns FG mg->(∃(f:A4)(GD:A6)(Dy an:Option A4)(Cm IL pm cd DA:A6)(Bn:Array (Option A6)),J2 (K w.params) FG x=some (some (.ref f))/\(K w.params).lookup f=some ⟨GD,Dy,.func (K0 x x (Ld st) (KD st) (Bs st) .none Cm IL pm an cd DA),Bn⟩/\N4 (K w.params) cd x=true/\Jz (K w.params) (.ref f)=true)/\∀base:B8,CD l.prog w (K w.params) mg base x st N k m)(Bi:∀ns:List Int,ns.length<=63->Ends (F1 N.length m [cV ns] []) λw _=>w=.AL true)(b:XQ x x st [p]:=by intro _ _ _ _ _ _;(repeat refine ZL λ_=>?_);exact ZK rfl) :
  ew q loose Kt MJ l.row.toRowW d [] (λf vs=>XF f vs):=by
 refine B6.af2 (n:=63) (k:=k+1) (x:=p) (CX:=λw=>IE l.prog w) (sp:=λw=>Lv (K w.params) 1 (F1 N.length m)) AV (by decide) Rg B7 Ub (λw mg Jh h Hy G jM=>?_) (λw H a ns AG SR Mo=>?_) λw H s e s' z=>sm z
 .obtain⟨⟨f,GD,Dy,an,Cm,IL,pm,cd,DA,Bn,BY,lk,c,Bc⟩,A2⟩:=T w mg h Hy G;rw[hd]at jM;have e:=jM.symm.trans (QR Hy G BY);cases e;exact⟨_,λs v=>.of_eq (b Cm IL pm an cd DA [v] rfl),λbase _ _=>UX (Ra (st:=st) lk c Bc) S (A2 base)⟩
 .obtain⟨v,h',e,rfl⟩:=Bi ns AG;refine⟨[],[],[cV ns],⟨Rs,rfl,(λn o a e=>by cases e)⟩,.cons ?_ .nil,rfl,?_⟩
  .unfold cV;simp only[AW];refine⟨a,ns.map V.int,rfl,?_,p4 ns⟩;rcases Mo with(z|z)|z
   .rcases SR a with y|⟨o,xs,y⟩
    .rw[z]at y;cases y
    .rw[z]at y;cases y
   .exact .inl z
   .exact .inr z
  .rw[e];intro v BE A7 _ _ EL;simpa only[AW]using EL
end C0
namespace FU
open PySem PySem.Spec B6 C0
def top(i:Nat):BC:=PySem.Challenge.pw_nohalfway_k32_steps_and_waits.main.body.getD i (.Pass ⟨0,0,0,0⟩)
abbrev ll:BC:=top 49
abbrev nX:BC:=top 50
abbrev lr:BC:=top 51
abbrev lu:BC:=top 52
abbrev nh:BC:=top 53
abbrev ly:BC:=top 57
abbrev nf:BC:=top 56
abbrev li:BC:=top 58
abbrev lj:BC:=top 59
abbrev mO:BC:=top 72
abbrev mQ:BC:=top 54
abbrev n_:BC:=top 55
abbrev nc:BC:=top 62
abbrev nd:BC:=top 63
abbrev mG:BC:=top 25
abbrev mK:BC:=top 8
abbrev mL:BC:=top 9
abbrev mE:BC:=top 29
abbrev mI:BC:=top 30
abbrev mB:BC:=top 31
abbrev mm:BC:=inClass (top 18) 1
abbrev mC:BC:=top 32
abbrev nj:BC:=top 33
abbrev mJ:BC:=top 40
abbrev mH:BC:=top 41
abbrev nk:BC:=top 42
abbrev m5:BC:=top 13
abbrev mF:BC:=top 14
abbrev mD:BC:=top 15
abbrev mM:BC:=top 16
abbrev m8:BC:=top 17
abbrev mn:BC:=inClass (top 18) 0
abbrev mu:BC:=inClass (top 18) 2
abbrev m7:BC:=top 19
abbrev m6:BC:=top 45
abbrev my:BC:=inClass (top 47) 0
abbrev mP:BC:=top 64
abbrev lp:BC:=top 69
abbrev m3:BC:=inClass (top 47) 8
abbrev mA:BC:=top 24
abbrev mq:BC:=inClass (top 18) 5
abbrev mr:BC:=inClass (top 18) 6
abbrev mj:BC:=inClass (top 46) 0
abbrev mv:BC:=inClass (top 47) 2
abbrev mz:BC:=inClass (top 47) 5
abbrev m9:BC:=top 26
abbrev nq:BC:=top 34
abbrev ml:BC:=inClass (top 18) 3
abbrev ni:BC:=top 36
abbrev m2:BC:=inClass (top 47) 4
abbrev mx:BC:=inClass (top 47) 3
abbrev n0:BC:=inClass (top 47) 7
abbrev m4:BC:=inClass (top 47) 6
abbrev m1:BC:=inClass (top 47) 1
abbrev ng:BC:=top 71
abbrev lq:BC:=top 66
abbrev mR:BC:=top 65
abbrev lx:BC:=top 60
abbrev nZ:BC:=top 61
abbrev lz:BC:=top 67
abbrev nW:BC:=top 68
abbrev nY:BC:=top 70
abbrev Js:BC:=top 73
def V0:W:=.int 15
def SB:W:=.int 4
def SC:W:=.int 6
def V1:W:=.int 12
def SD:W:=.int 40
def RQ:W:=.I6 [.str (AJ "0"),.str (AJ "1"),.str (AJ "x")]
def SE:W:=.I6 [.str (AJ "step")]
def MO:W:=.I6 [.str (AJ "wait")]
def O6:W:=.I6 [.int 8,.int 4,.int 2,.int 1]
structure DU(K:Aq)(mg:Str->Option A6):Prop where
 vJ:DE K mg "_law_cell_at" ll ["_law_script","_law_k"]
 vT:DE K mg "_law_mixed" nX ["_law_cell","_law_k"]
 vM:DE K mg "_law_counts" lr ["_law_cell"]
 vN:DE K mg "_law_doors" lu ["_law_counts_here"]
 uc:DE K mg "_law_wires" nh ["_law_cell","_law_counts_here"]
 vP:DE K mg "_law_free_book" ly ["_law_number","_law_count"]
 ua:DE K mg "_law_row" nf ["_law_cell","_law_k","_law_count"]
 vH:DE K mg "_law_books" li ["_law_cells","_law_counts_here","_law_shift"]
 vI:DE K mg "_law_both" lj ["_law_script","_law_counts_here"]
 vE:DE K mg "_law_all" mO ["_law_script"]
 vG:DE K mg "_law_beyond" mQ ["_law_wires_here","_law_door"]
 uY:DE K mg "_law_outer" n_ ["_law_counts_here","_law_wires_here"]
 uZ:DE K mg "_law_plain" nc ["_law_many"]
 u_:DE K mg "_law_plan" nd ["_law_cells","_law_many"]
 v7:DE K mg "is_pattern" mG ["thing"]
 vB:DE K mg "is_whole" mK ["thing"]
 vC:DE K mg "is_whole_within" mL ["thing","least","greatest"]
 v3:DE K mg "is_number_or_none" mE ["thing","doors"]
 v9:DE K mg "is_row" mI ["thing","doors"]
 tT:DE K mg "is_book" mB ["thing","doors"]
 ti:Jb K "Net" "count" "Net.count" mm ["self","house"]
 tx:DE K mg "is_books" mC ["thing","net"]
 ue:DE K mg "refuse_unless_books" nj ["thing","net"]
 vA:DE K mg "is_step" mJ ["thing","net"]
 v8:DE K mg "is_plan" mH ["thing","net"]
 uf:DE K mg "refuse_unless_plan" nk ["net","old","new","plan"]
 tN:DE K mg "are_counts" m5 ["thing"]
 v5:DE K mg "is_pair" mF ["thing"]
 uz:DE K mg "is_door_among" mD ["counts","thing"]
 vD:DE K mg "is_wire_among" mM ["counts","thing"]
 tQ:DE K mg "far_doors" m8 ["counts","wires"]
 tj:InK K mg "Net" "Net.__init__" mn ["self","counts","wires"]
 tm:Jb K "Net" "wires" "Net.wires" mu ["self"]
 tP:DE K mg "copied_net" m7 ["net"]
 tO:DE K mg "copied_books" m6 ["books"]
 tq:InK K mg "Run" "Run.__init__" my ["self","net","old","new","plan"]
 vF:DE K mg "_law_begun" mP ["_law_wires_here","_law_old","_law_new","_law_plan_here"]
 vK:DE K mg "_law_chosen" lp ["_law_state","_law_cell","_law_outer_here"]
 tL:Jb K "Run" "place" "Run.place" m3 ["self"]
 tS:DE K mg "is_address" mA ["thing"]
 tk:Jb K "Net" "is_door" "Net.is_door" mq ["self","thing"]
 tl:Jb K "Net" "is_outer" "Net.is_outer" mr ["self","thing"]
 tg:InK K mg "Letter" "Letter.__init__" mj ["self","mark","door","address"]
 tn:Jb K "Run" "come" "Run.come" mv ["self","door","address"]
 tr:Jb K "Run" "knows" "Run.knows" mz ["self","house","mark"]
 tR:DE K mg "fits" m9 ["pattern","address"]
 ug:DE K mg "taken" nq ["book","door","address"]
 th:Jb K "Net" "beyond" "Net.beyond" ml ["self","door"]
 ud:DE K mg "onward" ni ["net","book","door","address"]
 tw:Jb K "Run" "next_of" "Run.next_of" m2 ["self","letter"]
 tp:Jb K "Run" "go" "Run.go" mx ["self","number"]
 tu:Jb K "Run" "may_step" "Run.may_step" n0 ["self"]
 tM:Jb K "Run" "step" "Run.step" m4 ["self"]
 tv:Jb K "Run" "move" "Run.move" m1 ["self","move"]
 ub:DE K mg "_law_said" ng ["_law_run","_law_deed"]
 vL:DE K mg "_law_come" lq ["_law_state","_law_door","_law_address"]
 vR:DE K mg "_law_knows" mR ["_law_state","_law_house","_law_mark"]
 vO:DE K mg "_law_fits" lx ["_law_pattern","_law_address"]
 uX:DE K mg "_law_next" nZ ["_law_wires_here","_law_book","_law_door","_law_address"]
 vQ:DE K mg "_law_go" lz ["_law_state","_law_number"]
 vS:DE K mg "_law_may_step" nW ["_law_state"]
 uW:DE K mg "_law_model" nY ["_law_state","_law_deed"]
 ah3:DE K mg "law" Js ["_law_script"]
 jC:PQ K "Letter" ["address","doors","mark"]
 jD:PQ K "Net" ["counts","far","joined","many"]
 jE:PQ K "Run" ["books","came","done","ended","letters","net","plan"]
 rZ:mg "all"=none
 r_:mg "bool"=none
 ra:mg "enumerate"=none
 hF:mg "int"=none
 Uv:mg "isinstance"=none
 hM:mg "len"=none
 b6:mg "list"=none
 b7:mg "range"=none
 rc:mg "set"=none
 rd:mg "sorted"=none
 hO:mg "str"=none
 hQ:mg "tuple"=none
 re:mg "zip"=none
 V0:M2 K mg "GREATEST_ADDRESS" V0
 SB:M2 K mg "MOST_DOORS" SB
 SC:M2 K mg "MOST_HOUSES" SC
 V1:M2 K mg "MOST_ROWS" V1
 SD:M2 K mg "MOST_STEPS" SD
 RQ:M2 K mg "SIGNS" RQ
 SE:M2 K mg "STEP" SE
 MO:M2 K mg "WAIT" MO
 O6:M2 K mg "WORTHS" O6
 af8:Sd K mg "NoBooks"
 af9:Sd K mg "NoMove"
 afA:Sd K mg "NoNet"
 afB:Sd K mg "NoPlan"
 ad_:fS K mg "NoMove" ["NoMove"]
def nA:C7 ["_law_script","_law_k"] ["_law_script","_law_k"] (Bs ll):=CU
def Xq:Am:=
    (AQ (Bh (AY (A0 JJ (I 1) (Az BO (Z (I 0) A1)))) (B2 (A0 AA (I 0) (I 1))) Bd)
    (B2 (pu (.int 0))))
def Lo:Bq:=DI 2 Xq
def oq:C7 ["_law_cell","_law_k","_law_factor","_law_prime"] ["_law_cell","_law_k"] (Bs nX):=CU
noncomputable def b2:Am:=
    (AQ (Ac (Bb (A0 AA (By (Z (pu (.int 48271)) (Z (pu (.int 69621)) (Z (pu (.int 16807)) (Z (pu (.int 39373)) (Z (pu (.int 40692)) (Z (pu (.int 742938285)) (Z (pu (.int 950706376)) (Z (pu (.int 1343714438)) A1))))))))) (A0 BV (I 1) (pu (.int 8))))) (AD 2))
    (AQ (Ac (Bb (A0 AA (By (Z (pu (.int 2147483647)) (Z (pu (.int 2147483629)) (Z (pu (.int 2147483587)) (Z (pu (.int 2147483579)) (Z (pu (.int 2147483563)) A1)))))) (A0 BV (I 1) (pu (.int 5))))) (AD 3))
    (B2 (A0 CY (A0 BV (A0 HY (A0 addW (A0 addW (A0 BV (I 0) (A0 OV (pu (.int 10)) (pu (.int 30)))) (A0 HY (pu (.int 31)) (I 1))) (pu (.int 7))) (I 2)) (I 3)) (pu (.int 7))))))
def EQ:Bq:=DI 4 b2
def oe:C7 ["_law_cell","_law_number"] ["_law_cell"] (Bs lr):=CU
noncomputable def Xt:Am:=
    (AQ (Bh (AY (A0 (Au true) (A0 BV (I 0) (pu (.int 2))) (pu (.int 1)))) (AQ (Ac (A0 BV (A0 CY (I 0) (pu (.int 2))) (A0 OV (pu (.int 10)) (pu (.int 60)))) (AD 1))
    (B2 (Dw 1 [1] (Dc (Z (A0 addW (pu (.int 1)) (A0 BV (I 1) (pu (.int 6)))) A1)) (AD 0) (pu true) (Bb (A0 addW (pu (.int 1)) (A0 BV (A0 CY (A0 CY (I 1) (pu (.int 6))) (A0 AA (By (Z (pu (.int 1)) (Z (pu (.int 4)) (Z (pu (.int 16)) (Z (pu (.int 64)) (Z (pu (.int 256)) (Z (pu (.int 1024)) A1))))))) (I 0))) (pu (.int 4)))))))) Bd)
    (B2 (Dw 1 [0] (Dc (Z (A0 addW (pu (.int 1)) (A0 BV (Ah 2 EQ (Z (I 0) (Z (pu (.int 0)) A1))) (pu (.int 6)))) A1)) (AD 0) (pu true) (A0 addW (pu (.int 1)) (A0 BV (Ah 2 EQ (Z (I 1) (Z (A0 addW (pu (.int 1)) (I 0)) A1))) (pu (.int 4)))))))
def TQ:Bq:=DI 2 Xt
def og:C7 ["_law_counts_here","_law_doors_here","_law_house"] ["_law_counts_here"] (Bs lu):=CU
noncomputable def b1:Am:=
    (AQ (Ac (By A1) (AD 1))
    (AQ (F2 (Dc (Z (Az BO (Z (I 0) A1)) A1)) (AD 2) (Ac (Bb (A0 addW (I 1) (Dw 1 [2] (Dc (Z (A0 AA (I 0) (I 2)) A1)) (AD 0) (pu true) (BQ (Z (I 1) (Z (I 0) A1)))))) (AD 1)))
    (B2 (I 1))))
def RF:Bq:=DI 3 b1
def p0:C7 ["_law_cell","_law_counts_here","_law_doors_here","_law_wires_here","_law_number","_law_keep","_law_k","_law_picks","_law_one","_law_other"] ["_law_cell","_law_counts_here"] (Bs nh):=CU
noncomputable def b5:Am:=
    (AQ (Ac (Ah 1 RF (Z (I 1) A1)) (AD 2))
    (AQ (Ac (By A1) (AD 3))
    (AQ (Ac (A0 CY (A0 BV (A0 CY (I 0) (pu (.int 2))) (A0 OV (pu (.int 10)) (pu (.int 60)))) (pu (.int 24576))) (AD 4))
    (AQ (Ac (A0 addW (pu (.int 1)) (A0 BV (Ah 2 EQ (Z (I 0) (Z (pu (.int 8)) A1))) (pu (.int 3)))) (AD 5))
    (AQ (Bh (AY (A0 (Au true) (A0 BV (I 0) (pu (.int 2))) (pu (.int 1)))) (AQ (Ac (A0 addW (pu (.int 1)) (A0 BV (I 4) (pu (.int 24)))) (AD 5))
    (Ac (A0 CY (I 4) (pu (.int 24))) (AD 4))) Bd)
    (AQ (Ac (pu (.int 9)) (AD 6))
    (AQ (Yi (AY (A0 KG (Az BO (Z (I 2) A1)) (A0 addW (I 5) (pu (.int 1))))) (AQ (Ac (By (Z (Ah 2 EQ (Z (I 0) (Z (I 6) A1))) (Z (Ah 2 EQ (Z (I 0) (Z (A0 addW (I 6) (pu (.int 1))) A1))) A1))) (AD 7))
    (AQ (Bh (AY (A0 (Au true) (A0 BV (I 0) (pu (.int 2))) (pu (.int 1)))) (AQ (Ac (By (Z (I 4) (Z (A0 CY (I 4) (Az BO (Z (I 2) A1))) A1))) (AD 7))
    (Ac (A0 CY (A0 CY (I 4) (Az BO (Z (I 2) A1))) (A0 NY (Az BO (Z (I 2) A1)) (pu (.int 1)))) (AD 4))) Bd)
    (AQ (Ac (EP JM (I 2) (Z (A0 BV (A0 AA (I 7) (pu (.int 0))) (Az BO (Z (I 2) A1))) A1)) (AD 8))
    (AQ (Ac (EP JM (I 2) (Z (A0 BV (A0 AA (I 7) (pu (.int 1))) (Az BO (Z (I 2) A1))) A1)) (AD 9))
    (AQ (HJ (EP FS (I 3) (Z (BQ (Z (I 8) (Z (I 9) A1))) A1)))
    (Ac (A0 addW (I 6) (pu (.int 2))) (AD 6))))))))
    (B2 (I 3)))))))))
def P3:Bq:=DI 10 b5
def oi:C7 ["_law_number","_law_count","_law_book","_law_many","_law_choices","_law_k","_law_pattern","_law_j"] ["_law_number","_law_count"] (Bs ly):=CU
noncomputable def hJ:Am:=
    (AQ (Ac (By A1) (AD 2))
    (AQ (Ac (A0 BV (I 0) (pu (.int 13))) (AD 3))
    (AQ (Ac (A0 CY (I 0) (pu (.int 13))) (AD 0))
    (AQ (Ac (Bb (A0 addW (By (Z (pu (.non)) A1)) (Az Ow (Z (I 1) A1)))) (AD 4))
    (AQ (F2 (Dc (Z (I 3) A1)) (AD 5) (AQ (Ac (pu (.str (AJ ""))) (AD 6))
    (AQ (F2 (Dc (Z (pu (.int 4)) A1)) (AD 7) (AQ (Ac (A0 addW (I 6) (A0 AA (pu (.str (AJ "01x"))) (A0 BV (I 0) (pu (.int 3))))) (AD 6))
    (Ac (A0 CY (I 0) (pu (.int 3))) (AD 0))))
    (AQ (HJ (EP FS (I 2) (Z (BQ (Z (I 6) (Z (A0 AA (I 4) (A0 BV (I 0) (A0 addW (I 1) (pu (.int 1))))) (Z (A0 AA (I 4) (A0 BV (A0 CY (I 0) (A0 addW (I 1) (pu (.int 1)))) (A0 addW (I 1) (pu (.int 1))))) A1)))) A1)))
    (Ac (A0 CY (A0 CY (I 0) (A0 addW (I 1) (pu (.int 1)))) (A0 addW (I 1) (pu (.int 1)))) (AD 0))))))
    (B2 (I 2)))))))
def TS:Bq:=DI 8 hJ
def oy:C7 ["_law_cell","_law_k","_law_count","_law_number","_law_pattern","_law_j","_law_door","_law_out"] ["_law_cell","_law_k","_law_count"] (Bs nf):=CU
noncomputable def b4:Am:=
    (AQ (Ac (Ah 2 EQ (Z (I 0) (Z (I 1) A1))) (AD 3))
    (AQ (Ac (pu (.str (AJ ""))) (AD 4))
    (AQ (F2 (Dc (Z (pu (.int 4)) A1)) (AD 5) (AQ (Ac (Bb (A0 addW (I 4) (A0 AA (By (Z (pu (.str (AJ "x"))) (Z (pu (.str (AJ "x"))) (Z (pu (.str (AJ "0"))) (Z (pu (.str (AJ "1"))) (Z (pu (.str (AJ "x"))) A1)))))) (A0 BV (I 3) (pu (.int 5)))))) (AD 4))
    (Ac (A0 CY (I 3) (pu (.int 5))) (AD 3))))
    (AQ (Ac (pu (.non)) (AD 6))
    (AQ (Bh (AY (A0 (Au true) (A0 BV (I 3) (pu (.int 3))) (pu (.int 0)))) (Ac (A0 BV (A0 CY (I 3) (pu (.int 3))) (I 2)) (AD 6)) Bd)
    (AQ (Ac (A0 BV (A0 CY (I 3) (pu (.int 20))) (I 2)) (AD 7))
    (AQ (Bh (AY (A0 (Au true) (A0 BV (A0 CY (I 3) (pu (.int 100))) (pu (.int 9))) (pu (.int 0)))) (Ac (pu (.non)) (AD 7)) Bd)
    (B2 (BQ (Z (I 4) (Z (I 6) (Z (I 7) A1))))))))))))
def VO:Bq:=DI 8 b4
def n8:C7 ["_law_cells","_law_counts_here","_law_shift","_law_books_here","_law_house","_law_cell","_law_many"] ["_law_cells","_law_counts_here","_law_shift"] (Bs li):=CU
noncomputable def hG:Am:=
    (AQ (Ac (By A1) (AD 3))
    (AQ (F2 (Dc (Z (Az BO (Z (I 1) A1)) A1)) (AD 4) (AQ (Ac (A0 addW (A0 addW (pu (.int 17)) (A0 HY (pu (.int 5)) (I 4))) (I 2)) (AD 5))
    (AQ (Bh (Ho (AY (A0 (Au false) (I 0) (By A1)))) (Ac (A0 AA (I 0) (A0 BV (A0 addW (I 4) (I 2)) (Az BO (Z (I 0) A1)))) (AD 5)) Bd)
    (Bh (Ho (Fl (AY (A0 (Au false) (I 0) (By A1))) (AY (A0 (Au true) (A0 BV (I 5) (pu (.int 2))) (pu (.int 1)))))) (HJ (EP FS (I 3) (Z (Ah 2 TS (Z (A0 BV (A0 CY (I 5) (pu (.int 2))) (A0 OV (pu (.int 10)) (pu (.int 60)))) (Z (A0 AA (I 1) (I 4)) A1))) A1))) (AQ (Ac (A0 addW (I 5) (A0 HY (pu (.int 3)) (I 4))) (AD 5))
    (AQ (Ac (Bb (A0 AA (By (Z (pu (.int 1)) (Z (pu (.int 2)) (Z (pu (.int 3)) (Z (pu (.int 0)) (Z (pu (.int 2)) (Z (pu (.int 4)) (Z (pu (.int 12)) A1)))))))) (A0 BV (Ah 2 EQ (Z (I 5) (Z (pu (.int 3)) A1))) (pu (.int 7))))) (AD 6))
    (HJ (EP FS (I 3) (Z (Dw 1 [5,1,4,2] (Dc (Z (I 6) A1)) (AD 0) (pu true) (Ah 3 VO (Z (I 1) (Z (A0 addW (A0 addW (pu (.int 4)) (I 4)) (A0 HY (pu (.int 3)) (I 0))) (Z (A0 AA (I 2) (I 3)) A1))))) A1)))))))))
    (B2 (I 3))))
def MU:Bq:=F1 7 hG
def n9:C7 ["_law_script","_law_counts_here","_law_old","_law_new","_law_house"] ["_law_script","_law_counts_here"] (Bs lj):=CU
noncomputable def hH:Am:=
    (AQ (Ac (Ah 3 MU (Z (Bb (D5 (I 0) (CE (pu (.int 2))) (CE (pu (.int 9))))) (Z (I 1) (Z (pu (.int 0)) A1)))) (AD 2))
    (AQ (Ac (Ah 3 MU (Z (Bb (D5 (I 0) (CE (pu (.int 9))) (CE (pu (.int 16))))) (Z (I 1) (Z (pu (.int 1)) A1)))) (AD 3))
    (AQ (F2 (Dc (Z (Az BO (Z (I 1) A1)) A1)) (AD 4) (Bh (AY (A0 (Au true) (A0 BV (Ah 2 EQ (Z (Ah 2 Lo (Z (I 0) (Z (pu (.int 1)) A1))) (Z (I 4) A1))) (pu (.int 4))) (pu (.int 0)))) (Ac (Az Fk (Z (A0 AA (I 2) (I 4)) A1)) (SO (I 3) (I 4))) Bd))
    (B2 (BQ (Z (I 2) (Z (I 3) A1)))))))
def VM:Bq:=F1 5 hH
def n5:C7 ["_law_script","_law_cell","_law_counts_here","_law_wires_here","_law_old","_law_new"] ["_law_script"] (Bs mO):=CU
noncomputable def Xo:Am:=
    (AQ (Ac (Ah 2 Lo (Z (I 0) (Z (pu (.int 0)) A1))) (AD 1))
    (AQ (Ac (Ah 1 TQ (Z (I 1) A1)) (AD 2))
    (AQ (Ac (Ah 2 P3 (Z (I 1) (Z (I 2) A1))) (AD 3))
    (AQ (Oz (Ah 2 VM (Z (I 0) (Z (I 2) A1))) (Fs [(AD 4),(AD 5)]))
    (B2 (BQ (Z (I 2) (Z (I 3) (Z (I 4) (Z (I 5) A1))))))))))
def RC:Bq:=F1 6 Xo
def n7:C7 ["_law_wires_here","_law_door","_law_one","_law_other"] ["_law_wires_here","_law_door"] (Bs mQ):=CU
def b0:Am:=
    (AQ (F2 (E8 (I 0)) (Fs [(AD 2),(AD 3)]) (AQ (Bh (AY (A0 (Au true) (I 2) (I 1))) (B2 (I 3)) Bd)
    (Bh (AY (A0 (Au true) (I 3) (I 1))) (B2 (I 2)) Bd)))
    (B2 (pu (.non))))
def Pe:Bq:=DI 4 b0
def ov:C7 ["_law_counts_here","_law_wires_here"] ["_law_counts_here","_law_wires_here"] (Bs n_):=CU
def b3:Am:=
    (B2 (Dw 1 [1] (E8 (Ah 1 RF (Z (I 0) A1))) (AD 0) (AY (A0 (EN true) (Ah 2 Pe (Z (I 1) (Z (I 0) A1))) (pu (.non)))) (I 0)))
def TX:Bq:=DI 2 b3
def ow:C7 ["_law_many","_law_plan_here"] ["_law_many"] (Bs nc):=CU
noncomputable def Xx:Am:=
    (AQ (Ac (Bb (A0 addW (Dw 1 [] (Dc (Z (I 0) A1)) (AD 0) (pu true) (BQ (Z (pu (.str (AJ "teach"))) (Z (I 0) A1)))) (Dw 1 [] (Dc (Z (I 0) A1)) (AD 0) (pu true) (BQ (Z (pu (.str (AJ "turn"))) (Z (I 0) A1)))))) (AD 1))
    (B2 (Bb (A0 addW (A0 addW (I 1) (By (Z (BQ (Z (pu (.str (AJ "wait"))) A1)) A1))) (Dw 1 [] (Dc (Z (I 0) A1)) (AD 0) (pu true) (BQ (Z (pu (.str (AJ "forget"))) (Z (I 0) A1))))))))
def RG:Bq:=DI 2 Xx
def ox:C7 ["_law_cells","_law_many","_law_plan_here","_law_cell","_law_number","_law_at","_law_step","_law_other"] ["_law_cells","_law_many"] (Bs nd):=CU
noncomputable def hL:Am:=
    (AQ (Ac (Ah 1 RG (Z (I 1) A1)) (AD 2))
    (AQ (F2 (E8 (I 0)) (AD 3) (AQ (Ac (Ah 2 EQ (Z (I 3) (Z (pu (.int 5)) A1))) (AD 4))
    (AQ (Ac (A0 BV (A0 CY (I 4) (pu (.int 5))) (A0 addW (Az BO (Z (I 2) A1)) (pu (.int 1)))) (AD 5))
    (AQ (Bh (Fl (AY (A0 (Au true) (A0 BV (I 4) (pu (.int 5))) (pu (.int 0)))) (AY (A0 JJ (Az BO (Z (I 2) A1)) (pu (.int 30))))) (Ac (Bb (A0 addW (A0 addW (D5 (I 2) (pu none) (CE (I 5))) (By (Z (BQ (Z (pu (.str (AJ "wait"))) A1)) A1))) (D5 (I 2) (CE (I 5)) (pu none)))) (AD 2)) Bd)
    (AQ (Bh (AY (A0 (Au true) (A0 BV (I 4) (pu (.int 5))) (pu (.int 1)))) (Ac (Bb (A0 addW (D5 (I 2) (pu none) (CE (I 5))) (D5 (I 2) (CE (A0 addW (I 5) (pu (.int 1)))) (pu none)))) (AD 2)) Bd)
    (Bh (Ho (Fl (AY (A0 KG (A0 BV (I 4) (pu (.int 5))) (pu (.int 2)))) (AY (A0 (Au false) (I 2) (By A1))))) (AQ (Ac (EP JM (I 2) (Z (A0 BV (I 5) (Az BO (Z (I 2) A1))) A1)) (AD 6))
    (AQ (Ac (A0 BV (A0 CY (I 4) (pu (.int 200))) (A0 addW (Az BO (Z (I 2) A1)) (pu (.int 1)))) (AD 7))
    (Ac (Bb (A0 addW (A0 addW (D5 (I 2) (pu none) (CE (I 7))) (By (Z (I 6) A1))) (D5 (I 2) (CE (I 7)) (pu none)))) (AD 2)))) Bd))))))
    (B2 (I 2))))
def RH:Bq:=DI 8 hL
def nR:C7 ["thing"] ["thing"] (Bs mG):=CU
noncomputable def fI:Am:=
    (AQ (Bh (FL (EG (AY (BM (Dv "str") (I 0)))) (AY (A0 (Au false) (Az BO (Z (I 0) A1)) (Az BO (Z (pu O6) A1))))) (B2 (pu (.AL false))) Bd)
    (B2 (Bb (Az (I9 true) (Z (Dw 1 [] (E8 (I 0)) (AD 0) (pu true) (A0 (DH true) (I 0) (pu RQ))) A1)))))
def VK:Bq:=DI 1 fI
def n1:C7 ["thing"] ["thing"] (Bs mK):=CU
def fK:Am:=
    (B2 (Ln (BM (Dv "int") (I 0)) (Vv (BM (Dv "bool") (I 0)))))
def TO:Bq:=DI 1 fK
def n2:C7 ["thing","least","greatest"] ["thing","least","greatest"] (Bs mL):=CU
def Xn:Am:=
    (B2 (Ln (Ah 1 TO (Z (I 0) A1)) (P0 Ll Ll (I 1) (I 0) (I 2))))
def N0:Bq:=DI 3 Xn
def nP:C7 ["thing","doors"] ["thing","doors"] (Bs mE):=CU
def Xk:Am:=
    (B2 (Vw (A0 (EN true) (I 0) (pu (.non))) (Ah 3 N0 (Z (I 0) (Z (pu (.int 0)) (Z (A0 NY (I 1) (pu (.int 1))) A1))))))
def TN:Bq:=DI 2 Xk
def nT:C7 ["thing","doors"] ["thing","doors"] (Bs mI):=CU
noncomputable def fJ:Am:=
    (AQ (Bh (FL (EG (AY (BM (Dv "tuple") (I 0)))) (AY (A0 (Au false) (Az BO (Z (I 0) A1)) (pu (.int 3))))) (B2 (pu (.AL false))) Bd)
    (AQ (Bh (EG (AY (Ah 1 VK (Z (A0 AA (I 0) (pu (.int 0))) A1)))) (B2 (pu (.AL false))) Bd)
    (B2 (Ln (Ah 2 TN (Z (A0 AA (I 0) (pu (.int 1))) (Z (I 1) A1))) (Ah 2 TN (Z (A0 AA (I 0) (pu (.int 2))) (Z (I 1) A1)))))))
def VL:Bq:=DI 2 fJ
def nM:C7 ["thing","doors"] ["thing","doors"] (Bs mB):=CU
noncomputable def fE:Am:=
    (AQ (Bh (FL (EG (AY (BM (Dv "list") (I 0)))) (AY (A0 KG (Az BO (Z (I 0) A1)) (pu V1)))) (B2 (pu (.AL false))) Bd)
    (B2 (Bb (Az (I9 true) (Z (Dw 1 [1] (E8 (I 0)) (AD 0) (pu true) (Ah 2 VL (Z (I 0) (Z (I 1) A1)))) A1)))))
def VJ:Bq:=DI 2 fE
def nv:C7 ["self","house"] ["self","house"] (Bs mm):=CU
def fg:Am:=
    (B2 (Nn (AY (P0 Ll JJ (pu (.int 0)) (I 1) (BM (Ba "Net" "many") (I 0)))) (A0 AA (BM (Ba "Net" "counts") (I 0)) (I 1)) (pu (.int 0))))
def S8:Bq:=DI 2 fg
def nN:C7 ["thing","net"] ["thing","net"] (Bs mC):=CU
noncomputable def fF:Am:=
    (AQ (Bh (FL (EG (AY (BM (Dv "list") (I 0)))) (AY (A0 (Au false) (Az BO (Z (I 0) A1)) (BM (Ba "Net" "many") (I 1))))) (B2 (pu (.AL false))) Bd)
    (B2 (Bb (Az (I9 true) (Z (Dw 2 [1] (Pa (Z (I 0) A1)) (Fs [(AD 0),(AD 1)]) (pu true) (Ah 2 VJ (Z (I 1) (Z (C_ "Net" "count" 1 S8 (I 2) (Z (I 0) A1)) A1)))) A1)))))
def Yj:Bq:=DI 2 fF
def p2:C7 ["thing","net"] ["thing","net"] (Bs nj):=CU
def b8:Am:=
    (Bh (EG (AY (Ah 2 Yj (Z (I 0) (Z (I 1) A1))))) (No "NoBooks") Bd)
def VQ:Bq:=DI 2 b8
def nU:C7 ["thing","net"] ["thing","net"] (Bs mJ):=CU
noncomputable def Xm:Am:=
    (AQ (Bh (FL (EG (AY (BM (Dv "tuple") (I 0)))) (FL (AY (A0 (DH false) (Az BO (Z (I 0) A1)) (BQ (Z (pu (.int 1)) (Z (pu (.int 2)) A1))))) (EG (AY (BM (Dv "str") (A0 AA (I 0) (pu (.int 0)))))))) (B2 (pu (.AL false))) Bd)
    (AQ (Bh (AY (A0 (Au true) (Az BO (Z (I 0) A1)) (pu (.int 1)))) (B2 (A0 (Au true) (A0 AA (I 0) (pu (.int 0))) (pu (.str (AJ "wait"))))) Bd)
    (B2 (Ln (A0 (DH true) (A0 AA (I 0) (pu (.int 0))) (BQ (Z (pu (.str (AJ "teach"))) (Z (pu (.str (AJ "turn"))) (Z (pu (.str (AJ "forget"))) A1))))) (Ah 3 N0 (Z (A0 AA (I 0) (pu (.int 1))) (Z (pu (.int 0)) (Z (A0 NY (BM (Ba "Net" "many") (I 1)) (pu (.int 1))) A1))))))))
def RB:Bq:=DI 2 Xm
def nS:C7 ["thing","net","once"] ["thing","net"] (Bs mH):=CU
noncomputable def Xl:Am:=
    (AQ (Bh (FL (EG (AY (BM (Dv "list") (I 0)))) (AY (A0 KG (Az BO (Z (I 0) A1)) (pu SD)))) (B2 (pu (.AL false))) Bd)
    (AQ (Bh (Ho (EG (AY (Az (I9 true) (Z (Dw 1 [1] (E8 (I 0)) (AD 0) (pu true) (Ah 2 RB (Z (I 0) (Z (I 1) A1)))) A1))))) (B2 (pu (.AL false))) Bd)
    (AQ (Ac (Dw 1 [] (E8 (I 0)) (AD 0) (AY (A0 (Au false) (I 0) (pu MO))) (I 0)) (AD 2))
    (B2 (A0 (Au true) (Az Vr (Z (I 2) A1)) (Az BO (Z (I 2) A1)))))))
def Yk:Bq:=DI 3 Xl
def p3:C7 ["net","old","new","plan"] ["net","old","new","plan"] (Bs nk):=CU
def b9:Am:=
    (AQ (HJ (Ah 2 VQ (Z (I 1) (Z (I 0) A1))))
    (AQ (HJ (Ah 2 VQ (Z (I 2) (Z (I 0) A1))))
    (Bh (EG (AY (Ah 2 Yk (Z (I 3) (Z (I 0) A1))))) (No "NoPlan") Bd)))
def VR:Bq:=DI 4 b9
def nG:C7 ["thing"] ["thing"] (Bs m5):=CU
noncomputable def fB:Am:=
    (AQ (Bh (FL (EG (AY (BM (Dv "list") (I 0)))) (EG (AY (P0 Ll Ll (pu (.int 1)) (Az BO (Z (I 0) A1)) (pu SC))))) (B2 (pu (.AL false))) Bd)
    (B2 (Bb (Az (I9 true) (Z (Dw 1 [] (E8 (I 0)) (AD 0) (pu true) (Ah 3 N0 (Z (I 0) (Z (pu (.int 1)) (Z (pu SB) A1))))) A1)))))
def VF:Bq:=DI 1 fB
def nQ:C7 ["thing"] ["thing"] (Bs mF):=CU
def fH:Am:=
    (B2 (Ln (BM (Dv "tuple") (I 0)) (A0 (Au true) (Az BO (Z (I 0) A1)) (pu (.int 2)))))
def RA:Bq:=DI 1 fH
def nO:C7 ["counts","thing"] ["counts","thing"] (Bs mD):=CU
noncomputable def fG:Am:=
    (AQ (Bh (FL (EG (AY (Ah 1 RA (Z (I 1) A1)))) (EG (AY (Ah 3 N0 (Z (A0 AA (I 1) (pu (.int 0))) (Z (pu (.int 0)) (Z (A0 NY (Az BO (Z (I 0) A1)) (pu (.int 1))) A1))))))) (B2 (pu (.AL false))) Bd)
    (B2 (Ah 3 N0 (Z (A0 AA (I 1) (pu (.int 1))) (Z (pu (.int 0)) (Z (A0 NY (A0 AA (I 0) (A0 AA (I 1) (pu (.int 0)))) (pu (.int 1))) A1))))))
def TM:Bq:=DI 2 fG
def n3:C7 ["counts","thing","both"] ["counts","thing"] (Bs mM):=CU
noncomputable def fl:Am:=
    (AQ (Bh (EG (AY (Ah 1 RA (Z (I 1) A1)))) (B2 (pu (.AL false))) Bd)
    (AQ (Ac (Ln (Ah 2 TM (Z (I 0) (Z (A0 AA (I 1) (pu (.int 0))) A1))) (Ah 2 TM (Z (I 0) (Z (A0 AA (I 1) (pu (.int 1))) A1)))) (AD 2))
    (B2 (Ln (I 2) (A0 (Au false) (A0 AA (I 1) (pu (.int 0))) (A0 AA (I 1) (pu (.int 1))))))))
def TP:Bq:=DI 3 fl
def nJ:C7 ["counts","wires","far","wire"] ["counts","wires"] (Bs m8):=CU
noncomputable def gY:Am:=
    (AQ (Ac (KN true) (AD 2))
    (AQ (F2 (E8 (I 1)) (AD 3) (AQ (Bh (EG (AY (Ah 2 TP (Z (I 0) (Z (I 3) A1))))) (λ_ _=>.bad) Bd)
    (AQ (Bh (FL (AY (A0 (DH true) (A0 AA (I 3) (pu (.int 0))) (I 2))) (AY (A0 (DH true) (A0 AA (I 3) (pu (.int 1))) (I 2)))) (λ_ _=>.bad) Bd)
    (AQ (JK (I 2) (A0 AA (I 3) (pu (.int 0))) (A0 AA (I 3) (pu (.int 1))))
    (JK (I 2) (A0 AA (I 3) (pu (.int 1))) (A0 AA (I 3) (pu (.int 0))))))))
    (B2 (I 2))))
def VH:Bq:=F1 4 gY
def nx:C7 ["self","counts","wires"] ["self","counts","wires"] (Bs mn):=CU
noncomputable def YH:Am:=
    (AQ (Bh (EG (AY (Ah 1 VF (Z (I 1) A1)))) (No "NoNet") Bd)
    (AQ (Bh (EG (AY (BM (Dv "list") (I 2)))) (No "NoNet") Bd)
    (AQ (Er "Net" "many" (I 0) (Az BO (Z (I 1) A1)))
    (AQ (Er "Net" "counts" (I 0) (Az Oc (Z (I 1) A1)))
    (AQ (Er "Net" "joined" (I 0) (Az Oc (Z (I 2) A1)))
    (Er "Net" "far" (I 0) (Ah 2 VH (Z (BM (Ba "Net" "counts") (I 0)) (Z (BM (Ba "Net" "joined") (I 0)) A1)))))))))
def Np:Bq:=F1 3 YH
def o0:C7 ["self"] ["self"] (Bs mu):=CU
def fj:Am:=
    (B2 (Az Fk (Z (BM (Ba "Net" "joined") (I 0)) A1)))
def Pc:Bq:=DI 1 fj
def nI:C7 ["net"] ["net"] (Bs m7):=CU
def gG:Am:=
    (B2 (Ic "Net" 2 Np (Z (Az Fk (Z (BM (Ba "Net" "counts") (I 0)) A1)) (Z (C_ "Net" "wires" 0 Pc (I 0) A1) A1))))
def VG:Bq:=F1 1 gG
def nH:C7 ["books"] ["books"] (Bs m6):=CU
def gF:Am:=
    (B2 (Dw 1 [] (E8 (I 0)) (AD 0) (pu true) (Bb (Az Fk (Z (I 0) A1)))))
def R9:Bq:=F1 1 gF
def o3:C7 ["self","net","old","new","plan"] ["self","net","old","new","plan"] (Bs my):=CU
noncomputable def YK:Am:=
    (AQ (HJ (Ah 4 VR (Z (I 1) (Z (I 2) (Z (I 3) (Z (I 4) A1))))))
    (AQ (Er "Run" "net" (I 0) (Ah 1 VG (Z (I 1) A1)))
    (AQ (Er "Run" "books" (I 0) (BQ (Z (Ah 1 R9 (Z (I 2) A1)) (Z (Ah 1 R9 (Z (I 3) A1)) A1))))
    (AQ (Er "Run" "plan" (I 0) (Az Fk (Z (I 4) A1)))
    (AQ (Er "Run" "done" (I 0) (By A1))
    (AQ (Er "Run" "came" (I 0) (pu (.int 0)))
    (AQ (Er "Run" "letters" (I 0) (KN false))
    (Er "Run" "ended" (I 0) (By A1)))))))))
def R8:Bq:=F1 5 YK
def n6:C7 ["_law_wires_here","_law_old","_law_new","_law_plan_here"] ["_law_wires_here","_law_old","_law_new","_law_plan_here"] (Bs mP):=CU
noncomputable def Xp:Am:=
    (B2 (Bb (S6 [(AJ "wires"),(AJ "books"),(AJ "plan"),(AJ "done"),(AJ "letters"),(AJ "came"),(AJ "ended")] [(I 0),(By (Z (I 1) (Z (I 2) A1))),(I 3),(pu (.int 0)),(KN false),(pu (.int 0)),(By A1)])))
def RD:Bq:=F1 4 Xp
def nV:C7 ["_law_state","_law_cell","_law_outer_here","_law_number","_law_going","_law_kind"] ["_law_state","_law_cell","_law_outer_here"] (Bs lp):=CU
noncomputable def Xr:Am:=
    (AQ (Ac (Ah 2 EQ (Z (I 1) (Z (pu (.int 1)) A1))) (AD 3))
    (AQ (Ac (Az Mc (Z (A0 AA (I 0) (pu (.str (AJ "letters")))) A1)) (AD 4))
    (AQ (Ac (A0 BV (I 3) (pu (.int 8))) (AD 5))
    (AQ (Bh (Ho (FL (AY (A0 JJ (I 5) (pu (.int 2)))) (Fl (AY (A0 JJ (I 5) (pu (.int 6)))) (AY (A0 (Au true) (I 4) (By A1)))))) (B2 (BQ (Z (pu (.str (AJ "come"))) (Z (A0 AA (I 2) (A0 BV (A0 CY (I 3) (pu (.int 8))) (Az BO (Z (I 2) A1)))) (Z (A0 BV (A0 CY (I 3) (pu (.int 64))) (pu (.int 16))) A1))))) Bd)
    (AQ (Bh (AY (A0 JJ (I 5) (pu (.int 6)))) (B2 (BQ (Z (pu (.str (AJ "go"))) (Z (A0 AA (I 4) (A0 BV (A0 CY (I 3) (pu (.int 8))) (Az BO (Z (I 4) A1)))) A1)))) Bd)
    (B2 (BQ (Z (pu (.str (AJ "step"))) A1))))))))
def RE:Bq:=DI 6 Xr
def nE:C7 ["self"] ["self"] (Bs m3):=CU
def fk:Am:=
    (B2 (Az BO (Z (BM (Ba "Run" "done") (I 0)) A1)))
def IP:Bq:=DI 1 fk
def nL:C7 ["thing"] ["thing"] (Bs mA):=CU
def fD:Am:=
    (B2 (Ah 3 N0 (Z (I 0) (Z (pu (.int 0)) (Z (pu V0) A1)))))
def TL:Bq:=DI 1 fD
def ny:C7 ["self","thing"] ["self","thing"] (Bs mq):=CU
def fh:Am:=
    (B2 (Ah 2 TM (Z (BM (Ba "Net" "counts") (I 0)) (Z (I 1) A1))))
def VE:Bq:=DI 2 fh
def nz:C7 ["self","thing"] ["self","thing"] (Bs mr):=CU
def fi:Am:=
    (B2 (Ln (C_ "Net" "is_door" 1 VE (I 0) (Z (I 1) A1)) (A0 (DH false) (I 1) (BM (Ba "Net" "far") (I 0)))))
def S9:Bq:=DI 2 fi
def nt:C7 ["self","mark","door","address"] ["self","mark","door","address"] (Bs mj):=CU
def YG:Am:=
    (AQ (Er "Letter" "mark" (I 0) (I 1))
    (AQ (Er "Letter" "address" (I 0) (I 3))
    (Er "Letter" "doors" (I 0) (By (Z (I 2) A1)))))
def VD:Bq:=F1 4 YG
def o1:C7 ["self","door","address","number","mark"] ["self","door","address"] (Bs mv):=CU
noncomputable def YI:Am:=
    (AQ (Bh (FL (EG (AY (C_ "Net" "is_outer" 1 S9 (BM (Ba "Run" "net") (I 0)) (Z (I 1) A1)))) (EG (AY (Ah 1 TL (Z (I 2) A1))))) (No "NoMove") Bd)
    (AQ (Ac (BM (Ba "Run" "came") (I 0)) (AD 3))
    (AQ (Ac (Nn (AY (A0 (DH true) (BQ (Z (pu (.str (AJ "turn"))) (Z (A0 AA (I 1) (pu (.int 0))) A1))) (BM (Ba "Run" "done") (I 0)))) (pu (.int 1)) (pu (.int 0))) (AD 4))
    (AQ (JK (BM (Ba "Run" "letters") (I 0)) (I 3) (Ic "Letter" 3 VD (Z (I 4) (Z (I 1) (Z (I 2) A1)))))
    (AQ (Er "Run" "came" (I 0) (A0 addW (I 3) (pu (.int 1))))
    (B2 (I 3)))))))
def SA:Bq:=F1 5 YI
def o4:C7 ["self","house","mark"] ["self","house","mark"] (Bs mz):=CU
noncomputable def YL:Am:=
    (AQ (Bh (AY (A0 (Au true) (I 2) (pu (.int 1)))) (B2 (A0 (DH true) (BQ (Z (pu (.str (AJ "teach"))) (Z (I 1) A1))) (BM (Ba "Run" "done") (I 0)))) Bd)
    (B2 (A0 (DH false) (BQ (Z (pu (.str (AJ "forget"))) (Z (I 1) A1))) (BM (Ba "Run" "done") (I 0)))))
def TH:Bq:=DI 3 YL
def nK:C7 ["pattern","address"] ["pattern","address"] (Bs m9):=CU
noncomputable def fC:Am:=
    (AQ (Bh (FL (EG (AY (Ah 1 VK (Z (I 0) A1)))) (EG (AY (Ah 1 TL (Z (I 1) A1))))) (B2 (pu (.AL false))) Bd)
    (B2 (Bb (Az (I9 true) (Z (Dw 2 [1] (VC (Z (I 0) (Z (pu O6) A1))) (Fs [(AD 0),(AD 1)]) (pu true) (A0 (DH true) (I 0) (BQ (Z (pu (.str (AJ "x"))) (Z (Az Pq (Z (A0 BV (A0 CY (I 2) (I 1)) (pu (.int 2))) A1)) A1))))) A1)))))
def VI:Bq:=DI 2 fC
def p5:C7 ["book","door","address","number","row"] ["book","door","address"] (Bs nq):=CU
noncomputable def hP:Am:=
    (AQ (F2 (Pa (Z (I 0) A1)) (Fs [(AD 3),(AD 4)]) (Bh (Fl (FL (AY (A0 (EN true) (A0 AA (I 4) (pu (.int 1))) (pu (.non)))) (AY (A0 (Au true) (A0 AA (I 4) (pu (.int 1))) (I 1)))) (AY (Ah 2 VI (Z (A0 AA (I 4) (pu (.int 0))) (Z (I 2) A1))))) (B2 (I 3)) Bd))
    (B2 (pu (.non))))
def VS:Bq:=DI 5 hP
def nu:C7 ["self","door"] ["self","door"] (Bs ml):=CU
def ff:Am:=
    (B2 (Vt (BM (Ba "Net" "far") (I 0)) (I 1)))
def R7:Bq:=DI 2 ff
def p1:C7 ["net","book","door","address","number","out","far"] ["net","book","door","address"] (Bs ni):=CU
noncomputable def Xy:Am:=
    (AQ (Ac (Ah 3 VS (Z (I 1) (Z (A0 AA (I 2) (pu (.int 1))) (Z (I 3) A1)))) (AD 4))
    (AQ (Ac (Nn (AY (A0 (EN true) (I 4) (pu (.non)))) (pu (.non)) (A0 AA (A0 AA (I 1) (I 4)) (pu (.int 2)))) (AD 5))
    (AQ (Bh (AY (A0 (EN true) (I 5) (pu (.non)))) (B2 (BQ (Z (pu (.str (AJ "drop"))) (Z (A0 AA (I 2) (pu (.int 0))) A1)))) Bd)
    (AQ (Ac (C_ "Net" "beyond" 1 R7 (I 0) (Z (BQ (Z (A0 AA (I 2) (pu (.int 0))) (Z (I 5) A1))) A1)) (AD 6))
    (AQ (Bh (AY (A0 (EN true) (I 6) (pu (.non)))) (B2 (BQ (Z (pu (.str (AJ "out"))) (Z (A0 AA (I 2) (pu (.int 0))) (Z (I 5) A1))))) Bd)
    (B2 (BQ (Z (pu (.str (AJ "at"))) (Z (A0 AA (I 6) (pu (.int 0))) (Z (A0 AA (I 6) (pu (.int 1))) A1))))))))))
def VP:Bq:=DI 7 Xy
def nD:C7 ["self","letter","door"] ["self","letter"] (Bs m2):=CU
noncomputable def YN:Am:=
    (AQ (Ac (A0 AA (BM (Ba "Letter" "doors") (I 1)) (BM H4 (pu (.int 1)))) (AD 2))
    (AQ (Bh (EG (AY (C_ "Run" "knows" 2 TH (I 0) (Z (A0 AA (I 2) (pu (.int 0))) (Z (BM (Ba "Letter" "mark") (I 1)) A1))))) (B2 (BQ (Z (pu (.str (AJ "lost"))) (Z (A0 AA (I 2) (pu (.int 0))) A1)))) Bd)
    (B2 (Ah 4 VP (Z (BM (Ba "Run" "net") (I 0)) (Z (A0 AA (A0 AA (BM (Ba "Run" "books") (I 0)) (BM (Ba "Letter" "mark") (I 1))) (A0 AA (I 2) (pu (.int 0)))) (Z (I 2) (Z (BM (Ba "Letter" "address") (I 1)) A1))))))))
def TK:Bq:=DI 3 YN
def o2:C7 ["self","number","letter","told"] ["self","number"] (Bs mx):=CU
noncomputable def YJ:Am:=
    (AQ (Bh (FL (EG (AY (Ah 1 TO (Z (I 1) A1)))) (AY (A0 (DH false) (I 1) (BM (Ba "Run" "letters") (I 0))))) (No "NoMove") Bd)
    (AQ (Ac (A0 AA (BM (Ba "Run" "letters") (I 0)) (I 1)) (AD 2))
    (AQ (Ac (C_ "Run" "next_of" 1 TK (I 0) (Z (I 2) A1)) (AD 3))
    (AQ (Bh (AY (A0 (Au true) (A0 AA (I 3) (pu (.int 0))) (pu (.str (AJ "at"))))) (HJ (EP FS (BM (Ba "Letter" "doors") (I 2)) (Z (BQ (Z (A0 AA (I 3) (pu (.int 1))) (Z (A0 AA (I 3) (pu (.int 2))) A1))) A1))) (AQ (HJ (R6 (BM (Ba "Run" "letters") (I 0)) (I 1)))
    (HJ (EP FS (BM (Ba "Run" "ended") (I 0)) (Z (BQ (Z (I 1) (Z (I 2) (Z (I 3) A1)))) A1)))))
    (B2 (I 3))))))
def Sb:Bq:=F1 4 YJ
def nB:C7 ["self"] ["self"] (Bs n0):=CU
noncomputable def YM:Am:=
    (AQ (Bh (AY (A0 (Au true) (C_ "Run" "place" 0 IP (I 0) A1) (Az BO (Z (BM (Ba "Run" "plan") (I 0)) A1)))) (B2 (pu (.AL false))) Bd)
    (AQ (Bh (AY (A0 (Au false) (A0 AA (BM (Ba "Run" "plan") (I 0)) (C_ "Run" "place" 0 IP (I 0) A1)) (pu MO))) (B2 (pu (.AL true))) Bd)
    (B2 (Bb (Az (I9 true) (Z (R5 NZ 1 [] (BM (Ba "Run" "letters") (I 0)) (AD 0) (pu true) (A0 (Au true) (BM (Ba "Letter" "mark") (I 0)) (pu (.int 1)))) A1))))))
def TJ:Bq:=DI 1 YM
def nF:C7 ["self"] ["self"] (Bs m4):=CU
noncomputable def So:Am:=
    (AQ (Bh (EG (AY (C_ "Run" "may_step" 0 TJ (I 0) A1))) (No "NoMove") Bd)
    (AQ (HJ (EP FS (BM (Ba "Run" "done") (I 0)) (Z (A0 AA (BM (Ba "Run" "plan") (I 0)) (C_ "Run" "place" 0 IP (I 0) A1)) A1)))
    (B2 (A0 AA (BM (Ba "Run" "done") (I 0)) (BM H4 (pu (.int 1)))))))
def Pd:Bq:=F1 1 So
def nC:C7 ["self","move"] ["self","move"] (Bs m1):=CU
noncomputable def Sn:Am:=
    (AQ (Bh (Fl (AY (BM (Dv "tuple") (I 1))) (Fl (AY (A0 KG (Az BO (Z (I 1) A1)) (pu (.int 0)))) (AY (BM (Dv "str") (A0 AA (I 1) (pu (.int 0))))))) (AQ (Bh (Fl (AY (A0 (Au true) (A0 AA (I 1) (pu (.int 0))) (pu (.str (AJ "come"))))) (AY (A0 (Au true) (Az BO (Z (I 1) A1)) (pu (.int 3))))) (B2 (C_ "Run" "come" 2 SA (I 0) (Z (A0 AA (I 1) (pu (.int 1))) (Z (A0 AA (I 1) (pu (.int 2))) A1)))) Bd)
    (AQ (Bh (Fl (AY (A0 (Au true) (A0 AA (I 1) (pu (.int 0))) (pu (.str (AJ "go"))))) (AY (A0 (Au true) (Az BO (Z (I 1) A1)) (pu (.int 2))))) (B2 (C_ "Run" "go" 1 Sb (I 0) (Z (A0 AA (I 1) (pu (.int 1))) A1))) Bd)
    (Bh (AY (A0 (Au true) (I 1) (pu SE))) (B2 (C_ "Run" "step" 0 Pd (I 0) A1)) Bd))) Bd)
    (No "NoMove"))
def I7:Bq:=F1 2 Sn
def oz:C7 ["_law_run","_law_deed","_law_found"] ["_law_run","_law_deed"] (Bs ng):=CU
def Sp:Am:=
    (AQ (Ac (pu (.non)) (AD 2))
    (AQ (P1 (C_ "Run" "move" 1 I7 (I 0) (Z (I 1) A1)) 2 ["NoMove"] (Ac (pu (.non)) (AD 2)))
    (B2 (I 2))))
def Jm:Bq:=F1 3 Sp
def od:C7 ["_law_state","_law_door","_law_address","_law_mark","_law_number"] ["_law_state","_law_door","_law_address"] (Bs lq):=CU
noncomputable def Xs:Am:=
    (AQ (Ac (Bb (Az RI (Z (Bb (A0 (DH true) (BQ (Z (pu (.str (AJ "turn"))) (Z (A0 AA (I 1) (pu (.int 0))) A1))) (D5 (A0 AA (I 0) (pu (.str (AJ "plan")))) (pu none) (CE (A0 AA (I 0) (pu (.str (AJ "done")))))))) A1))) (AD 3))
    (AQ (Ac (A0 AA (I 0) (pu (.str (AJ "came")))) (AD 4))
    (AQ (JK (A0 AA (I 0) (pu (.str (AJ "letters")))) (I 4) (Bb (BQ (Z (I 3) (Z (I 2) (Z (By (Z (I 1) A1)) A1))))))
    (AQ (JK (I 0) (pu (.str (AJ "came"))) (A0 addW (I 4) (pu (.int 1))))
    (B2 (I 4))))))
def VN:Bq:=F1 5 Xs
def om:C7 ["_law_state","_law_house","_law_mark","_law_steps"] ["_law_state","_law_house","_law_mark"] (Bs mR):=CU
noncomputable def Xv:Am:=
    (AQ (Ac (Bb (D5 (A0 AA (I 0) (pu (.str (AJ "plan")))) (pu none) (CE (A0 AA (I 0) (pu (.str (AJ "done"))))))) (AD 3))
    (AQ (Bh (AY (A0 (Au true) (I 2) (pu (.int 1)))) (B2 (A0 (DH true) (BQ (Z (pu (.str (AJ "teach"))) (Z (I 1) A1))) (I 3))) Bd)
    (B2 (A0 (DH false) (BQ (Z (pu (.str (AJ "forget"))) (Z (I 1) A1))) (I 3)))))
def TU:Bq:=DI 4 Xv
def oh:C7 ["_law_pattern","_law_address","_law_k","_law_figure"] ["_law_pattern","_law_address"] (Bs lx):=CU
noncomputable def hI:Am:=
    (AQ (F2 (Dc (Z (pu (.int 4)) A1)) (AD 2) (AQ (Ac (Bb (A0 BV (A0 CY (I 1) (A0 AA (By (Z (pu (.int 8)) (Z (pu (.int 4)) (Z (pu (.int 2)) (Z (pu (.int 1)) A1))))) (I 2))) (pu (.int 2)))) (AD 3))
    (Bh (Fl (AY (A0 (Au false) (A0 AA (I 0) (I 2)) (pu (.str (AJ "x"))))) (AY (A0 (Au false) (A0 AA (I 0) (I 2)) (A0 AA (pu (.str (AJ "01"))) (I 3))))) (B2 (pu (.AL false))) Bd)))
    (B2 (pu (.AL true))))
def TR:Bq:=DI 4 hI
def ou:C7 ["_law_wires_here","_law_book","_law_door","_law_address","_law_pattern","_law_inward","_law_out","_law_behind"] ["_law_wires_here","_law_book","_law_door","_law_address"] (Bs nZ):=CU
noncomputable def hK:Am:=
    (AQ (F2 (E8 (I 1)) (Fs [(AD 4),(AD 5),(AD 6)]) (Bh (Fl (AY (Ah 2 TR (Z (I 4) (Z (I 3) A1)))) (FL (AY (A0 (EN true) (I 5) (pu (.non)))) (AY (A0 (Au true) (I 5) (A0 AA (I 2) (pu (.int 1))))))) (AQ (Bh (AY (A0 (EN true) (I 6) (pu (.non)))) (B2 (BQ (Z (pu (.str (AJ "drop"))) (Z (A0 AA (I 2) (pu (.int 0))) A1)))) Bd)
    (AQ (Ac (Ah 2 Pe (Z (I 0) (Z (BQ (Z (A0 AA (I 2) (pu (.int 0))) (Z (I 6) A1))) A1))) (AD 7))
    (AQ (Bh (AY (A0 (EN true) (I 7) (pu (.non)))) (B2 (BQ (Z (pu (.str (AJ "out"))) (Z (A0 AA (I 2) (pu (.int 0))) (Z (I 6) A1))))) Bd)
    (B2 (A0 addW (BQ (Z (pu (.str (AJ "at"))) A1)) (I 7)))))) Bd))
    (B2 (BQ (Z (pu (.str (AJ "drop"))) (Z (A0 AA (I 2) (pu (.int 0))) A1)))))
def TW:Bq:=DI 8 hK
def oj:C7 ["_law_state","_law_number","_law_mark","_law_address","_law_road","_law_told"] ["_law_state","_law_number"] (Bs lz):=CU
noncomputable def Xu:Am:=
    (AQ (Oz (A0 AA (A0 AA (I 0) (pu (.str (AJ "letters")))) (I 1)) (Fs [(AD 2),(AD 3),(AD 4)]))
    (AQ (Ac (BQ (Z (pu (.str (AJ "lost"))) (Z (A0 AA (A0 AA (I 4) (BM H4 (pu (.int 1)))) (pu (.int 0))) A1))) (AD 5))
    (AQ (Bh (AY (Ah 3 TU (Z (I 0) (Z (A0 AA (A0 AA (I 4) (BM H4 (pu (.int 1)))) (pu (.int 0))) (Z (I 2) A1))))) (Ac (Ah 4 TW (Z (A0 AA (I 0) (pu (.str (AJ "wires")))) (Z (A0 AA (A0 AA (A0 AA (I 0) (pu (.str (AJ "books")))) (I 2)) (A0 AA (A0 AA (I 4) (BM H4 (pu (.int 1)))) (pu (.int 0)))) (Z (A0 AA (I 4) (BM H4 (pu (.int 1)))) (Z (I 3) A1))))) (AD 5)) Bd)
    (AQ (Bh (AY (A0 (Au true) (A0 AA (I 5) (pu (.int 0))) (pu (.str (AJ "at"))))) (JK (A0 AA (I 0) (pu (.str (AJ "letters")))) (I 1) (Bb (BQ (Z (I 2) (Z (I 3) (Z (Bb (A0 addW (I 4) (By (Z (Bb (D5 (I 5) (CE (pu (.int 1))) (pu none))) A1)))) A1)))))) (AQ (HJ (R6 (A0 AA (I 0) (pu (.str (AJ "letters")))) (I 1)))
    (HJ (EP FS (A0 AA (I 0) (pu (.str (AJ "ended")))) (Z (BQ (Z (I 1) (Z (I 2) (Z (A0 AA (I 4) (pu (.int 0))) (Z (I 3) (Z (I 4) (Z (I 5) A1))))))) A1)))))
    (B2 (I 5))))))
def P2:Bq:=F1 6 Xu
def oo:C7 ["_law_state"] ["_law_state"] (Bs nW):=CU
noncomputable def Xw:Am:=
    (AQ (Bh (AY (A0 (Au true) (A0 AA (I 0) (pu (.str (AJ "done")))) (Az BO (Z (A0 AA (I 0) (pu (.str (AJ "plan")))) A1)))) (B2 (pu (.AL false))) Bd)
    (AQ (Bh (AY (A0 (Au false) (A0 AA (A0 AA (I 0) (pu (.str (AJ "plan")))) (A0 AA (I 0) (pu (.str (AJ "done"))))) (BQ (Z (pu (.str (AJ "wait"))) A1)))) (B2 (pu (.AL true))) Bd)
    (B2 (Bb (Az (I9 true) (Z (R5 NZ 1 [] (A0 AA (I 0) (pu (.str (AJ "letters")))) (AD 0) (pu true) (A0 (Au true) (A0 AA (I 0) (pu (.int 0))) (pu (.int 1)))) A1))))))
def TV:Bq:=DI 1 Xw
def ot:C7 ["_law_state","_law_deed"] ["_law_state","_law_deed"] (Bs nY):=CU
noncomputable def RO:Am:=
    (AQ (Bh (AY (A0 (Au true) (A0 AA (I 1) (pu (.int 0))) (pu (.str (AJ "come"))))) (B2 (Ah 3 VN (Z (I 0) (Z (A0 AA (I 1) (pu (.int 1))) (Z (A0 AA (I 1) (pu (.int 2))) A1))))) Bd)
    (AQ (Bh (AY (A0 (Au true) (A0 AA (I 1) (pu (.int 0))) (pu (.str (AJ "go"))))) (B2 (Ah 2 P2 (Z (I 0) (Z (A0 AA (I 1) (pu (.int 1))) A1)))) Bd)
    (AQ (Bh (EG (AY (Ah 1 TV (Z (I 0) A1)))) (B2 (pu (.non))) Bd)
    (AQ (JK (I 0) (pu (.str (AJ "done"))) (A0 addW (A0 AA (I 0) (pu (.str (AJ "done")))) (pu (.int 1))))
    (B2 (A0 AA (A0 AA (I 0) (pu (.str (AJ "plan")))) (A0 NY (A0 AA (I 0) (pu (.str (AJ "done")))) (pu (.int 1)))))))))
def IQ:Bq:=F1 2 RO
def n4:C7 ["_law_script","_law_counts_here","_law_wires_here","_law_old","_law_new","_law_outer_here","_law_plan_here","_law_run","_law_state","_law_cell","_law_deed","_law_k","_law_number"] ["_law_script"] (Bs Js):=CU
noncomputable def RN:Am:=
    (AQ (Oz (Ah 1 RC (Z (I 0) A1)) (Fs [(AD 1),(AD 2),(AD 3),(AD 4)]))
    (AQ (Ac (Ah 2 TX (Z (I 1) (Z (I 2) A1))) (AD 5))
    (AQ (Ac (Bb (Ah 2 RH (Z (Bb (D5 (I 0) (CE (pu (.int 10))) (CE (pu (.int 18))))) (Z (Az BO (Z (I 1) A1)) A1)))) (AD 6))
    (AQ (Ac (Ic "Run" 4 R8 (Z (Ic "Net" 2 Np (Z (I 1) (Z (I 2) A1))) (Z (I 3) (Z (I 4) (Z (Az Fk (Z (I 6) A1)) A1))))) (AD 7))
    (AQ (Ac (Ah 4 RD (Z (I 2) (Z (I 3) (Z (I 4) (Z (I 6) A1))))) (AD 8))
    (AQ (F2 (E8 (Bb (A0 addW (By (Z (pu (.int 3)) (Z (pu (.int 4)) A1))) (D5 (I 0) (CE (pu (.int 16))) (pu none))))) (AD 9) (AQ (Ac (Ah 3 RE (Z (I 8) (Z (I 9) (Z (I 5) A1)))) (AD 10))
    (Bh (FL (AY (A0 (Au false) (Ah 2 Jm (Z (I 7) (Z (I 10) A1))) (Ah 2 IQ (Z (I 8) (Z (I 10) A1))))) (AY (A0 (Au false) (C_ "Run" "place" 0 IP (I 7) A1) (A0 AA (I 8) (pu (.str (AJ "done"))))))) (B2 (pu (.AL false))) Bd)))
    (AQ (F2 (Dc (Z (Az BO (Z (I 6) A1)) A1)) (AD 11) (AQ (F2 (E8 (Bb (A0 HY (Az Mc (Z (A0 AA (I 8) (pu (.str (AJ "letters")))) A1)) (pu (.int 2))))) (AD 12) (Bh (AY (A0 (DH true) (I 12) (A0 AA (I 8) (pu (.str (AJ "letters")))))) (Bh (AY (A0 (Au false) (C_ "Run" "move" 1 I7 (I 7) (Z (BQ (Z (pu (.str (AJ "go"))) (Z (I 12) A1))) A1)) (Ah 2 P2 (Z (I 8) (Z (I 12) A1))))) (B2 (pu (.AL false))) Bd) Bd))
    (Bh (AY (A0 (Au false) (Ah 2 Jm (Z (I 7) (Z (BQ (Z (pu (.str (AJ "step"))) A1)) A1))) (Ah 2 IQ (Z (I 8) (Z (BQ (Z (pu (.str (AJ "step"))) A1)) A1))))) (B2 (pu (.AL false))) Bd)))
    (B2 (A0 (Au true) (C_ "Run" "place" 0 IP (I 7) A1) (A0 AA (I 8) (pu (.str (AJ "done")))))))))))))
def kb:Bq:=F1 13 RN
section
variable(P:C5)(w:Bo){K:Aq}{mg:Str->Option A6}(base:B8)(T:DU K mg)
include T
set_option maxHeartbeats 4000000
def iq:DJ P w K mg base "_law_cell_at" 2 1 Lo:=by have h:=Ef (P:=P) (w:=w) (base:=base) (k:=0) (m:=Xq) T.vJ nA;exact h (by have:=nA;unfold CD;intros;ac_rfl)
def R1:DJ P w K mg base "_law_mixed" 2 1 EQ:=by have h:=Ef (P:=P) (w:=w) (base:=base) (k:=0) (m:=b2) T.vT oq;exact h (by have:=oq;unfold CD;intros;ac_rfl)
def zG:DJ P w K mg base "_law_counts" 1 2 TQ:=by have h:=Ef (P:=P) (w:=w) (base:=base) (k:=1) (m:=Xt) T.vM oe;exact h (by have:=oe;have:=R1 P w base T;unfold CD;intros;ac_rfl)
def ir:DJ P w K mg base "_law_doors" 1 1 RF:=by have h:=Ef (P:=P) (w:=w) (base:=base) (k:=0) (m:=b1) T.vN og;exact h (by have:=og;unfold CD;intros;ac_rfl)
def y_:DJ P w K mg base "_law_wires" 2 2 P3:=by have h:=Ef (P:=P) (w:=w) (base:=base) (k:=1) (m:=b5) T.uc p0;exact h (by have:=p0;have:=ir P w base T;have:=R1 P w base T;unfold CD;intros;ac_rfl)
def zI:DJ P w K mg base "_law_free_book" 2 1 TS:=by have h:=Ef (P:=P) (w:=w) (base:=base) (k:=0) (m:=hJ) T.vP oi;exact h (by have:=oi;unfold CD;intros;ac_rfl)
def yY:DJ P w K mg base "_law_row" 3 2 VO:=by have h:=Ef (P:=P) (w:=w) (base:=base) (k:=1) (m:=b4) T.ua oy;exact h (by have:=oy;have:=R1 P w base T;unfold CD;intros;ac_rfl)
def zC:DJ P w K mg base "_law_books" 3 3 MU:=by have h:=Mj (P:=P) (w:=w) (base:=base) (k:=2) (m:=hG) T.vH n8;exact h (by have:=n8;have:=zI P w base T;have:=R1 P w base T;have:=yY P w base T;unfold CD;intros;ac_rfl)
def zD:DJ P w K mg base "_law_both" 2 4 VM:=by have h:=Mj (P:=P) (w:=w) (base:=base) (k:=3) (m:=hH) T.vI n9;exact h (by have:=n9;have:=zC P w base T;have:=iq P w base T;have:=R1 P w base T;unfold CD;intros;ac_rfl)
def zA:DJ P w K mg base "_law_all" 1 5 RC:=by have h:=Mj (P:=P) (w:=w) (base:=base) (k:=4) (m:=Xo) T.vE n5;exact h (by have:=n5;have:=zD P w base T;have:=iq P w base T;have:=zG P w base T;have:=y_ P w base T;unfold CD;intros;ac_rfl)
def ip:DJ P w K mg base "_law_beyond" 2 1 Pe:=by have h:=Ef (P:=P) (w:=w) (base:=base) (k:=0) (m:=b0) T.vG n7;exact h (by have:=n7;unfold CD;intros;ac_rfl)
def zN:DJ P w K mg base "_law_outer" 2 2 TX:=by have h:=Ef (P:=P) (w:=w) (base:=base) (k:=1) (m:=b3) T.uY ov;exact h (by have:=ov;have:=ip P w base T;have:=ir P w base T;unfold CD;intros;ac_rfl)
def zO:DJ P w K mg base "_law_plain" 1 1 RG:=by have h:=Ef (P:=P) (w:=w) (base:=base) (k:=0) (m:=Xx) T.uZ ow;exact h (by have:=ow;unfold CD;intros;ac_rfl)
def yX:DJ P w K mg base "_law_plan" 2 2 RH:=by have h:=Ef (P:=P) (w:=w) (base:=base) (k:=1) (m:=hL) T.u_ ox;exact h (by have:=ox;have:=R1 P w base T;have:=zO P w base T;unfold CD;intros;ac_rfl)
def ik:DJ P w K mg base "is_pattern" 1 1 VK:=by have h:=Ef (P:=P) (w:=w) (base:=base) (k:=0) (m:=fI) T.v7 nR;exact h (by have:=nR;unfold CD;intros;ac_rfl)
def il:DJ P w K mg base "is_whole" 1 1 TO:=by have h:=Ef (P:=P) (w:=w) (base:=base) (k:=0) (m:=fK) T.vB n1;exact h (by have:=n1;unfold CD;intros;ac_rfl)
def Vi:DJ P w K mg base "is_whole_within" 3 2 N0:=by have h:=Ef (P:=P) (w:=w) (base:=base) (k:=1) (m:=Xn) T.vC n2;exact h (by have:=n2;have:=il P w base T;unfold CD;intros;ac_rfl)
def z5:DJ P w K mg base "is_number_or_none" 2 3 TN:=by have h:=Ef (P:=P) (w:=w) (base:=base) (k:=2) (m:=Xk) T.v3 nP;exact h (by have:=nP;have:=Vi P w base T;unfold CD;intros;ac_rfl)
def z7:DJ P w K mg base "is_row" 2 4 VL:=by have h:=Ef (P:=P) (w:=w) (base:=base) (k:=3) (m:=fJ) T.v9 nT;exact h (by have:=nT;have:=z5 P w base T;have:=ik P w base T;unfold CD;intros;ac_rfl)
def z3:DJ P w K mg base "is_book" 2 5 VJ:=by have h:=Ef (P:=P) (w:=w) (base:=base) (k:=4) (m:=fE) T.tT nM;exact h (by have:=nM;have:=z7 P w base T;unfold CD;intros;ac_rfl)
def xy:Hf P w K mg base "Net" "count" 1 1 S8:=by have h:=LJ (P:=P) (w:=w) (mg:=mg) (base:=base) (k:=0) (m:=fg) T.ti nv;exact(h (by have:=nv;unfold CD;intros;ac_rfl)).st
def z4:DJ P w K mg base "is_books" 2 6 Yj:=by have h:=Ef (P:=P) (w:=w) (base:=base) (k:=5) (m:=fF) T.tx nN;exact h (by have:=nN;have:=xy P w base T;have:=z3 P w base T;unfold CD;intros;ac_rfl)
def yd:DJ P w K mg base "refuse_unless_books" 2 7 VQ:=by have h:=Ef (P:=P) (w:=w) (base:=base) (k:=6) (m:=b8) T.ue p2;exact h (by have:=p2;have:=z4 P w base T;unfold CD;intros;ac_rfl)
def z8:DJ P w K mg base "is_step" 2 3 RB:=by have h:=Ef (P:=P) (w:=w) (base:=base) (k:=2) (m:=Xm) T.vA nU;exact h (by have:=nU;have:=Vi P w base T;unfold CD;intros;ac_rfl)
def z6:DJ P w K mg base "is_plan" 2 4 Yk:=by have h:=Ef (P:=P) (w:=w) (base:=base) (k:=3) (m:=Xl) T.v8 nS;exact h (by have:=nS;have:=z8 P w base T;unfold CD;intros;ac_rfl)
def ye:DJ P w K mg base "refuse_unless_plan" 4 8 VR:=by have h:=Ef (P:=P) (w:=w) (base:=base) (k:=7) (m:=b9) T.uf p3;exact h (by have:=p3;have:=z6 P w base T;have:=yd P w base T;unfold CD;intros;ac_rfl)
def xe:DJ P w K mg base "are_counts" 1 3 VF:=by have h:=Ef (P:=P) (w:=w) (base:=base) (k:=2) (m:=fB) T.tN nG;exact h (by have:=nG;have:=Vi P w base T;unfold CD;intros;ac_rfl)
def ij:DJ P w K mg base "is_pair" 1 1 RA:=by have h:=Ef (P:=P) (w:=w) (base:=base) (k:=0) (m:=fH) T.v5 nQ;exact h (by have:=nQ;unfold CD;intros;ac_rfl)
def ii:DJ P w K mg base "is_door_among" 2 3 TM:=by have h:=Ef (P:=P) (w:=w) (base:=base) (k:=2) (m:=fG) T.uz nO;exact h (by have:=nO;have:=ij P w base T;have:=Vi P w base T;unfold CD;intros;ac_rfl)
def z9:DJ P w K mg base "is_wire_among" 2 4 TP:=by have h:=Ef (P:=P) (w:=w) (base:=base) (k:=3) (m:=fl) T.vD n3;exact h (by have:=n3;have:=ii P w base T;have:=ij P w base T;unfold CD;intros;ac_rfl)
def z1:DJ P w K mg base "far_doors" 2 5 VH:=by have h:=Mj (P:=P) (w:=w) (base:=base) (k:=4) (m:=gY) T.tQ nJ;exact h (by have:=nJ;have:=z9 P w base T;unfold CD;intros;ac_rfl)
def jH:Ul P w K mg base "Net" 2 6 Np:=by have h:=dZ (P:=P) (w:=w) (base:=base) (k:=5) (m:=YH) T.tj nx;exact h (by have:=nx;have:=xe P w base T;have:=z1 P w base T;unfold CD;intros;ac_rfl)
def xX:Hf P w K mg base "Net" "wires" 0 1 Pc:=by have h:=LJ (P:=P) (w:=w) (mg:=mg) (base:=base) (k:=0) (m:=fj) T.tm o0;exact(h (by have:=o0;unfold CD;intros;ac_rfl)).st
def z0:DJ P w K mg base "copied_net" 1 8 VG:=by have h:=Mj (P:=P) (w:=w) (base:=base) (k:=7) (m:=gG) T.tP nI;exact h (by have:=nI;have:=jH P w base T;have:=xX P w base T;unfold CD;intros;ac_rfl)
def y1:DJ P w K mg base "copied_books" 1 1 R9:=by have h:=Mj (P:=P) (w:=w) (base:=base) (k:=0) (m:=gF) T.tO nH;exact h (by have:=nH;unfold CD;intros;ac_rfl)
def x_:Ul P w K mg base "Run" 4 9 R8:=by have h:=dZ (P:=P) (w:=w) (base:=base) (k:=8) (m:=YK) T.tq o3;exact h (by have:=o3;have:=y1 P w base T;have:=z0 P w base T;have:=ye P w base T;unfold CD;intros;ac_rfl)
def zB:DJ P w K mg base "_law_begun" 4 1 RD:=by have h:=Mj (P:=P) (w:=w) (base:=base) (k:=0) (m:=Xp) T.vF n6;exact h (by have:=n6;unfold CD;intros;ac_rfl)
def zE:DJ P w K mg base "_law_chosen" 3 2 RE:=by have h:=Ef (P:=P) (w:=w) (base:=base) (k:=1) (m:=Xr) T.vK nV;exact h (by have:=nV;have:=R1 P w base T;unfold CD;intros;ac_rfl)
def c1:Hf P w K mg base "Run" "place" 0 1 IP:=by have h:=LJ (P:=P) (w:=w) (mg:=mg) (base:=base) (k:=0) (m:=fk) T.tL nE;exact(h (by have:=nE;unfold CD;intros;ac_rfl)).st
def ih:DJ P w K mg base "is_address" 1 3 TL:=by have h:=Ef (P:=P) (w:=w) (base:=base) (k:=2) (m:=fD) T.tS nL;exact h (by have:=nL;have:=Vi P w base T;unfold CD;intros;ac_rfl)
def xz:Hf P w K mg base "Net" "is_door" 1 4 VE:=by have h:=LJ (P:=P) (w:=w) (mg:=mg) (base:=base) (k:=3) (m:=fh) T.tk ny;exact(h (by have:=ny;have:=ii P w base T;unfold CD;intros;ac_rfl)).st
def y0:Hf P w K mg base "Net" "is_outer" 1 5 S9:=by have h:=LJ (P:=P) (w:=w) (mg:=mg) (base:=base) (k:=4) (m:=fi) T.tl nz;exact(h (by have:=nz;have:=xz P w base T;unfold CD;intros;ac_rfl)).st
def xw:Ul P w K mg base "Letter" 3 1 VD:=by have h:=dZ (P:=P) (w:=w) (base:=base) (k:=0) (m:=YG) T.tg nt;exact h (by have:=nt;unfold CD;intros;ac_rfl)
def xY:Hf P w K mg base "Run" "come" 2 6 SA:=by have h:=LJ (P:=P) (w:=w) (mg:=mg) (base:=base) (k:=5) (m:=YI) T.tn o1;exact(h (by have:=o1;have:=xw P w base T;have:=y0 P w base T;have:=ih P w base T;unfold CD;intros;ac_rfl))
def xa:Hf P w K mg base "Run" "knows" 2 1 TH:=by have h:=LJ (P:=P) (w:=w) (mg:=mg) (base:=base) (k:=0) (m:=YL) T.tr o4;exact(h (by have:=o4;unfold CD;intros;ac_rfl)).st
def z2:DJ P w K mg base "fits" 2 4 VI:=by have h:=Ef (P:=P) (w:=w) (base:=base) (k:=3) (m:=fC) T.tR nK;exact h (by have:=nK;have:=ih P w base T;have:=ik P w base T;unfold CD;intros;ac_rfl)
def yf:DJ P w K mg base "taken" 3 5 VS:=by have h:=Ef (P:=P) (w:=w) (base:=base) (k:=4) (m:=hP) T.ug p5;exact h (by have:=p5;have:=z2 P w base T;unfold CD;intros;ac_rfl)
def xx:Hf P w K mg base "Net" "beyond" 1 1 R7:=by have h:=LJ (P:=P) (w:=w) (mg:=mg) (base:=base) (k:=0) (m:=ff) T.th nu;exact(h (by have:=nu;unfold CD;intros;ac_rfl)).st
def yb:DJ P w K mg base "onward" 4 6 VP:=by have h:=Ef (P:=P) (w:=w) (base:=base) (k:=5) (m:=Xy) T.ud p1;exact h (by have:=p1;have:=xx P w base T;have:=yf P w base T;unfold CD;intros;ac_rfl)
def xc:Hf P w K mg base "Run" "next_of" 1 7 TK:=by have h:=LJ (P:=P) (w:=w) (mg:=mg) (base:=base) (k:=6) (m:=YN) T.tw nD;exact(h (by have:=nD;have:=xa P w base T;have:=yb P w base T;unfold CD;intros;ac_rfl)).st
def xZ:Hf P w K mg base "Run" "go" 1 8 Sb:=by have h:=LJ (P:=P) (w:=w) (mg:=mg) (base:=base) (k:=7) (m:=YJ) T.tp o2;exact(h (by have:=o2;have:=xc P w base T;have:=il P w base T;unfold CD;intros;ac_rfl))
def xb:Hf P w K mg base "Run" "may_step" 0 2 TJ:=by have h:=LJ (P:=P) (w:=w) (mg:=mg) (base:=base) (k:=1) (m:=YM) T.tu nB;exact(h (by have:=nB;have:=c1 P w base T;unfold CD;intros;ac_rfl)).st
def xd:Hf P w K mg base "Run" "step" 0 3 Pd:=by have h:=LJ (P:=P) (w:=w) (mg:=mg) (base:=base) (k:=2) (m:=So) T.tM nF;exact(h (by have:=nF;have:=xb P w base T;have:=c1 P w base T;unfold CD;intros;ac_rfl))
def jI:Hf P w K mg base "Run" "move" 1 9 I7:=by have h:=LJ (P:=P) (w:=w) (mg:=mg) (base:=base) (k:=8) (m:=Sn) T.tv nC;exact(h (by have:=nC;have:=xY P w base T;have:=xZ P w base T;have:=xd P w base T;unfold CD;intros;ac_rfl))
def yZ:DJ P w K mg base "_law_said" 2 10 Jm:=by have h:=Mj (P:=P) (w:=w) (base:=base) (k:=9) (m:=Sp) T.ub oz;exact h (by have:=oz;have:=jI P w base T;unfold CD;intros;ac_rfl)
def zF:DJ P w K mg base "_law_come" 3 1 VN:=by have h:=Mj (P:=P) (w:=w) (base:=base) (k:=0) (m:=Xs) T.vL od;exact h (by have:=od;unfold CD;intros;ac_rfl)
def zJ:DJ P w K mg base "_law_knows" 3 1 TU:=by have h:=Ef (P:=P) (w:=w) (base:=base) (k:=0) (m:=Xv) T.vR om;exact h (by have:=om;unfold CD;intros;ac_rfl)
def zH:DJ P w K mg base "_law_fits" 2 1 TR:=by have h:=Ef (P:=P) (w:=w) (base:=base) (k:=0) (m:=hI) T.vO oh;exact h (by have:=oh;unfold CD;intros;ac_rfl)
def zM:DJ P w K mg base "_law_next" 4 2 TW:=by have h:=Ef (P:=P) (w:=w) (base:=base) (k:=1) (m:=hK) T.uX ou;exact h (by have:=ou;have:=ip P w base T;have:=zH P w base T;unfold CD;intros;ac_rfl)
def iu:DJ P w K mg base "_law_go" 2 3 P2:=by have h:=Mj (P:=P) (w:=w) (base:=base) (k:=2) (m:=Xu) T.vQ oj;exact h (by have:=oj;have:=zJ P w base T;have:=zM P w base T;unfold CD;intros;ac_rfl)
def zK:DJ P w K mg base "_law_may_step" 1 1 TV:=by have h:=Ef (P:=P) (w:=w) (base:=base) (k:=0) (m:=Xw) T.vS oo;exact h (by have:=oo;unfold CD;intros;ac_rfl)
def zL:DJ P w K mg base "_law_model" 2 4 IQ:=by have h:=Mj (P:=P) (w:=w) (base:=base) (k:=3) (m:=RO) T.uW ot;exact h (by have:=ot;have:=zF P w base T;have:=iu P w base T;have:=zK P w base T;unfold CD;intros;ac_rfl)
def rG:CD P w K mg base "law" Js ["_law_script","_law_counts_here","_law_wires_here","_law_old","_law_new","_law_outer_here","_law_plan_here","_law_run","_law_state","_law_cell","_law_deed","_law_k","_law_number"] 10 RN:=by have:=n4;have:=jH P w base T;have:=x_ P w base T;have:=jI P w base T;have:=c1 P w base T;have:=zA P w base T;have:=zB P w base T;have:=zE P w base T;have:=iu P w base T;have:=zL P w base T;have:=zN P w base T;have:=yX P w base T;have:=yZ P w base T;unfold CD;intros;ac_rfl
end
end FU
namespace FU
open PySem PySem.Spec B6 C0
def Jo(x:Int){n:Nat}(h:0<n):∃j:Nat,j<n/\x%(n:Int)=(j:Int):=by have h1:=Int.emod_nonneg x (show(n:Int)≠0 by lia);have h2:=Int.emod_lt_of_pos x (show(0:Int)<n by lia);exact⟨(x%(n:Int)).toNat,by lia,by lia⟩
def Ay(AI:List Int):List W:=AI.map W.int
def gs(h:A5)(ns:List Int)(k:Nat):∃c:Int,Lo [.DV (Ay ns),.int k] h=.ok (.int c,h):=by
 have es:=ZY h (Ay ns);by_cases AO:k<ns.length
 .refine⟨ns[k],?_⟩;have ex:AA (.DV (Ay ns)) (.int (k:Int)) h=.ok (.int ns[k],h):=Vf h es (by simp[Ay,AO]);have Ec:(Ay ns).length=ns.length:=by simp[Ay]
  simp[Lo,Xq,BO,es,Ec,AO,ex]
 .have Ec:(Ay ns).length=ns.length:=by simp[Ay]
  exact⟨0,by simp[Lo,Xq,BO,es,Ec,AO]⟩
def lW(l:List Int)(x:Int){n:Nat}(AV:l.length=n)(h0:0<n):∃f∈l,∀h g:A5,g[0]?=some ⟨.lst,Ay l⟩->AA (.ref h.length) (.int (x%(n:Int))) (h++g)=.ok (.int f,h++g):=by obtain⟨j,Ap,e⟩:=Jo x h0;rw[e];exact⟨l[j],LS _,λh g eg=>Vf _ (IB _ (by rw[HH];exact eg)) (by simp[Ay,AV,Ap])⟩
def Nq(c:Int)(k:Nat)(AO:k<1000):∃y:Int,∀h,EQ [.int c,.int k] h=.ok (.int y,h):=by
 obtain⟨f,hf,C8⟩:=lW [48271,69621,16807,39373,40692,742938285,950706376,1343714438] k (n:=8) rfl (by decide);obtain⟨p,AT,An⟩:=lW [2147483647,2147483629,2147483587,2147483579,2147483563] k (n:=5) rfl (by decide);have f0:0<f/\f<18446744073709551616:=(by decide:∀f∈([48271,69621,16807,39373,40692,742938285,950706376,1343714438]:List Int),0<f/\f<18446744073709551616) f hf;have Jq:0<p:=(by decide:∀p∈([2147483647,2147483629,2147483587,2147483579,2147483563]:List Int),0<p) p AT;refine⟨((c%10^30+31*k+7)*f%p)/7,λh=>?_⟩;have C8:=C8 h [⟨.lst,Ay [48271,69621,16807,39373,40692,742938285,950706376,1343714438]⟩] rfl;have An:=An h [⟨.lst,Ay [2147483647,2147483629,2147483587,2147483579,2147483563]⟩] rfl;simp only[Ay,D3,Hq,Int.cast_ofNat_Int]at C8 An;have Bk:∀x:Int,LC x f:=λx=>.inr (by constructor<;>lia);have Co:LC 31 (k:Int):=.inl (by decide);have FH:OD 10 30:=by decide
 simp[EQ,b2,nw,B0,C8,An,Bk,Co,FH,Jq]
def Br(cs:List Nat):List W:=cs.map λ(c:Nat)=>W.int (c:Int)
abbrev Ad:=Nat×Nat
def Aa(d:Ad):W:=.tup [.int (d.1:Nat),.int (d.2:Nat)]
def CA(w:Ad×Ad):W:=.tup [Aa w.1,Aa w.2]
def ends(ws:List (Ad×Ad)):List Ad:=(ws.map λw=>[w.1,w.2]).flatten
theorem Xh{α:Type}:∀(l:List α)(i:Nat)(h:i<l.length),List.Perm (l[i]::l.eraseIdx i) l
 |x::l,0,_=>List.Perm.refl _
 |x::l,i+1,h=>by have C9:=Xh l i (by simpa using h);simp only[List.getElem_cons_succ,qQ];exact(List.Perm.swap x _ _).trans (C9.cons x)
def O7(cs:List Nat)(h:Nat):List Ad:=(CW (cs.getD h 0)).map λk=>(h,k)
def D2(cs:List Nat)(n:Nat):List Ad:=(CW n).flatMap (O7 cs)
def fX(cs:List Nat)(n:Nat):D2 cs (n+1)=D2 cs n++O7 cs n:=by unfold D2;rw[Wx,List.flatMap_append];simp
def dE{cs:List Nat}{h:Nat}{d:Ad}:d∈O7 cs h↔d.1=h/\d.2<cs.getD h 0:=by
 unfold O7;rw[Tw];constructor
 .rintro⟨k,AO,rfl⟩;exact⟨rfl,List.mem_range.mp AO⟩
 .rintro⟨rfl,h2⟩;exact⟨d.2,List.mem_range.mpr h2,rfl⟩
def VV{cs:List Nat}{n:Nat}{d:Ad}:d∈D2 cs n↔d.1<n/\d.2<cs.getD d.1 0:=by
 unfold D2;rw[List.mem_flatMap];constructor
 .rintro⟨h,hh,hd⟩;obtain⟨rfl,h2⟩:=dE.mp hd;exact⟨List.mem_range.mp hh,h2⟩
 .rintro⟨h1,h2⟩;exact⟨d.1,List.mem_range.mpr h1,dE.mpr ⟨rfl,h2⟩⟩
def sw(cs:List Nat)(h:Nat):(O7 cs h).Nodup:=by unfold O7;rw[W_,Th];exact List.nodup_range.imp λUc z=>Uc (Prod.mk.inj z).2
theorem gC(cs:List Nat):∀n,(D2 cs n).Nodup
 |0=>Rs
 |n+1=>by rw[fX];refine List.nodup_append.mpr ⟨gC cs n,sw cs n,λa AE b A2 z=>?_⟩;subst z;have h1:=(VV.mp AE).1;have h2:=(dE.mp A2).1;lia
def i7{cs:List Nat}(h:∀c∈cs,c<=4)(k:Nat):cs.getD k 0<=4:=by
 rw[EW];cases e:cs[k]? with
 |none=>simp
 |some c=>simpa using h c (LM e)
def sS{cs:List Nat}(h:∀c∈cs,1<=c/\c<=4)(k:Nat):(O7 cs k).length<=4:=by unfold O7;rw[CS,ei];exact i7 (λc AH=>(h c AH).2) k
theorem YC{cs:List Nat}(h:∀c∈cs,1<=c/\c<=4):∀n,(D2 cs n).length<=4*n
 |0=>by simp[D2]
 |n+1=>by rw[fX,Ej];have:=YC h n;have:=sS h n;lia
def UN{cs:List Nat}{h:Nat}(hh:h<cs.length):(Br cs)[h]?=some (.int (cs.getD h 0:Nat)):=by simp[Br,Cc hh,EW]
structure K3(cs:List Nat)(ws:List (Ad×Ad)):Prop where
 h1:1<=cs.length
 FD:cs.length<=6
 c:∀c∈cs,1<=c/\c<=4
 C1:(ends ws).Nodup
 sub:∀d∈ends ws,d∈D2 cs cs.length
 few:ws.length<100
def head_mem{cs:List Nat}(h1:1<=cs.length)(c:∀c∈cs,1<=c/\c<=4):((0,0):Ad)∈D2 cs cs.length:=by
 refine VV.mpr ⟨h1,?_⟩;cases cs with
 |nil=>simp at h1
 |cons x r=>exact(c x (Gq ..)).1
@[simp] theorem ai2(cs:List Nat):Fm (Br cs)=true:=Jn.mpr λw hw=>by obtain⟨c,_,rfl⟩:=List.mem_map.mp hw;simp
@[simp] theorem dG(d:Ad):DL (Aa d)=true:=by simp[Aa]
@[simp] theorem jy(w:Ad×Ad):DL (CA w)=true:=by simp[CA]
def HK{α:Type}(f:α->W)(l:List α)(e:∀a,DL (f a)=true):Fm (l.map f)=true:=Jn.mpr λw hw=>by obtain⟨c,_,rfl⟩:=List.mem_map.mp hw;exact e c
def a5:OD 10 60:=by decide
def sh(cell:Int):∃cs:List Nat,(1<=cs.length/\cs.length<=6)/\(∀c∈cs,1<=c/\c<=4)/\∀h,TQ [.int cell] h=.ok (.ref h.length,h++[⟨.lst,Br cs⟩]):=by
 by_cases ho:cell%2=1
 .obtain⟨N,hN⟩:∃N:Int,cell/2%1000000000000000000000000000000000000000000000000000000000000=N:=⟨_,rfl⟩;obtain⟨m,hm,em⟩:=Jo (N) (n:=6) (by decide);have aa:(1:Int)+N%6=(m:Int)+1:=by have:N%6=(m:Int):=em;lia
  let G:Nat->Int:=λk=>([1,4,16,64,256,1024]:List Int).getD k 1
  have Ak:∀k,0<G k/\G k<1073741824:=λk=>by
   by_cases AO:k<6
   .rcases(by lia:k=0\/k=1\/k=2\/k=3\/k=4\/k=5)with rfl|rfl|rfl|rfl|rfl|rfl<;>exact⟨by decide,by decide⟩
   .have:G k=1:=by simp only[G];rw[EW,JV (by simp;lia)];rfl
    rw[this];decide
  let K9:Nat->Nat:=λk=>(1+N/6/G k%4).toNat
  have V2:∀k,1<=K9 k/\K9 k<=4/\1+N/6/G k%4=(K9 k:Int):=λk=>by simp only[K9];lia
  refine⟨(CW (m+1)).map K9,⟨by simp,by simp;lia⟩,λc AH=>?_,λh=>?_⟩
  .obtain⟨k,_,rfl⟩:=List.mem_map.mp AH;exact⟨(V2 k).1,(V2 k).2.1⟩
  .have c:=UM (mi:=Dc (Z (A0 addW (pu (.int 1)) (A0 BV (I 1) (pu (.int 6)))) A1)) (e:=Bb (A0 addW (pu (.int 1)) (A0 BV (A0 CY (A0 CY (I 1) (pu (.int 6))) (A0 AA (By (Z (pu (.int 1)) (Z (pu (.int 4)) (Z (pu (.int 16)) (Z (pu (.int 64)) (Z (pu (.int 256)) (Z (pu (.int 1024)) A1))))))) (I 0))) (pu (.int 4)))))
     (ρ:=[some (.int cell),some (.int (N))]) (h:=h) (h0:=h) (caps:=[1]) 0 (m+1) (λk=>.int (K9 k:Nat)) (by lia) (LG (n:=m+1) (by
       simp[aa]) (by lia)) (λk AO acc=>by
       have ex:AA (.ref (h.length+1)) (.int (k:Int)) (h++[⟨.lst,acc⟩,⟨.lst,Ay [1,4,16,64,256,1024]⟩])=.ok (.int (G k),h++[⟨.lst,acc⟩,⟨.lst,Ay [1,4,16,64,256,1024]⟩]):=Vf (ws:=Ay [1,4,16,64,256,1024]) _ (IB _ (by simp)) (by rcases(by lia:k=0\/k=1\/k=2\/k=3\/k=4\/k=5)with rfl|rfl|rfl|rfl|rfl|rfl<;>rfl)
       simp only[Ay,D3,Hq]at ex;have:=(V2 k).2.2;simp[nw,B0,ex,Ak k,this])
   simp[TQ,Xt,ho,a5,hN];rw[c];simp;rw[Po h _ rfl (by exact HK _ _ λa=>by simp)];simp[Br,P8]
 .obtain⟨y,DP⟩:=Nq cell 0 (by decide);obtain⟨m,hm,em⟩:=Jo y (n:=6) (by decide);have aa:(1:Int)+y%6=(m:Int)+1:=by have:y%6=(m:Int):=em;lia
  have ex:∀k:Nat,∃c:Nat,(1<=c/\c<=4)/\(k<10->∃z:Int,(∀h,EQ [.int cell,.int (1+(k:Int))] h=.ok (.int z,h))/\1+z%4=(c:Int)):=λk=>by
   by_cases AO:k<10
   .obtain⟨z,Hk⟩:=Nq cell (1+k) (by lia);exact⟨(1+z%4).toNat,by lia,λ_=>⟨z,λh=>by rw[<-Hk h];simp,by lia⟩⟩
   .exact⟨1,by lia,λh=>absurd h AO⟩
  let K9:Nat->Nat:=λk=>(ex k).choose
  have V2:∀k,1<=K9 k/\K9 k<=4:=λk=>(ex k).choose_spec.1;have sW:∀k:Nat,k<10->∃z:Int,(∀h,EQ [.int cell,.int (1+(k:Int))] h=.ok (.int z,h))/\1+z%4=(K9 k:Int):=λk=>(ex k).choose_spec.2;refine⟨(CW (m+1)).map K9,⟨by simp,by simp;lia⟩,λc AH=>?_,λh=>?_⟩
  .obtain⟨k,_,rfl⟩:=List.mem_map.mp AH;exact V2 k
  .have tc:EQ [.int cell,.int 0] h=.ok (.int y,h):=DP h
   have c:=UM (mi:=Dc (Z (A0 addW (pu (.int 1)) (A0 BV (Ah 2 EQ (Z (I 0) (Z (pu (.int 0)) A1))) (pu (.int 6)))) A1)) (e:=A0 addW (pu (.int 1)) (A0 BV (Ah 2 EQ (Z (I 1) (Z (A0 addW (pu (.int 1)) (I 0)) A1))) (pu (.int 4))))
    (ρ:=[some (.int cell),none]) (h:=h) (h0:=h) (caps:=[0]) 0 (m+1) (λk=>.int (K9 k:Nat)) (by lia) (LG (n:=m+1) (by
      simp[tc,aa]) (by lia)) (λk AO acc=>by
      obtain⟨z,A9,AF⟩:=sW k (by lia);simp[A9,AF])
   simp[TQ,Xt,ho];rw[c];simp;rw[Po h _ rfl (by exact HK _ _ λa=>by simp)];simp[Br,P8]
end FU
namespace C0
open PySem PySem.Spec B6
def Kj{h g:A5}(p:h<+: g):Fn h g=true:=by obtain⟨r,rfl⟩:=p;simp
def Ha{h g:A5}(p:h<+: g)(r:A5):h<+: g++r:=p.trans (G4 _ _)
def NR{h:A5}{i j:Nat}{a b:List W}(A9:h[i]?=some ⟨.lst,a⟩)(AF:h[j]?=some ⟨.lst,b⟩)(l:a.length+b.length<=B0):addW (.ref i) (.ref j) h=.ok (.ref h.length,h++[⟨.lst,a++b⟩]):=by have f1:=Nm h A9;have f2:=Nm h AF;unfold addW;simp only[f1,f2];exact H_ h (by simpa using l)
def GL{h:A5}{n:Nat}{ws:List W}(e:h[n]?=some ⟨.lst,ws⟩):BO [.ref n] h=.ok (.int ws.length,h):=by simp[BO,IB h e]
def GZ{h:A5}{n k:Nat}{ws:List W}{w:W}(e:h[n]?=some ⟨.lst,ws⟩)(x:ws[k]?=some w):AA (.ref n) (.int (k:Int)) h=.ok (w,h):=Vf h (IB h e) x
end C0
namespace FU
open PySem PySem.Spec B6 C0
def gb{cs:List Nat}(FD:cs.length<=6)(FI:∀c∈cs,1<=c/\c<=4){h:A5}{n:Nat}(As:h[n]?=some ⟨.lst,Br cs⟩):RF [.ref n] h=.ok (.ref h.length,h++[⟨.lst,(D2 cs cs.length).map Aa⟩]):=by
 apply Ends.done;have lcs:(Br cs).length=cs.length:=by simp[Br]
 simp only[RF,Vx,b1,B4,Do,Mh,Ce,A3,H_ h (show([]:List W).length<=B0 by simp),Ri,Ly];simp only[Uj,D3,Hq,Df,Es,HU,N7,Gr,Tz,Fu,QJ,N6,QP,if_true,A3,BA,B4,Ly]
 have BL:=RV (mi:=Dc (Z (Az BO (Z (I 0) A1)) A1)) (g:=AD 2) (b:=Ac (Bb (A0 addW (I 1) (Dw 1 [2] (Dc (Z (A0 AA (I 0) (I 2)) A1)) (AD 0) (pu true) (BQ (Z (I 1) (Z (I 0) A1)))))) (AD 1))
  (ρ:=[some (.ref n),some (.ref h.length),none]) (h:=h++[⟨.lst,[]⟩]) (h0:=h++[⟨.lst,[]⟩]) 0 cs.length (by lia)
  (λj ρ h'=>∃a s2,ρ=[some (.ref n),some (.ref a),s2]/\h'[n]?=some ⟨.lst,Br cs⟩/\h'[a]?=some ⟨.lst,(D2 cs j).map Aa⟩/\h.length<=a/\h<+: h')
  (T:=λf h'=>∃a s2,f=.AR [some (.ref n),some (.ref a),s2]/\h'[a]?=some ⟨.lst,(D2 cs cs.length).map Aa⟩/\h.length<=a/\h<+: h')
  (LG (n:=cs.length) (by simp[GL (Ch h As _),lcs]) (by lia)) ⟨h.length,none,rfl,Ch h As _,by simp[D2],CB _,G4 _ _⟩ ?_ ?_
 .obtain⟨f,h',C8,a,s2,rfl,BY,HI,pr⟩:=BL.H5;rw[C8];simp[JQ h h' (Kj pr) HI BY (HK _ _ dG)]
 .rintro j _ H1 Ap ⟨a,s2,rfl,A9,AF,HI,pr⟩;refine⟨[some (.ref n),some (.ref a),some (.int (j:Int))],H1,by simp,?_⟩;have agk:=i7 (λc AH=>(FI c AH).2) j;have Ec:=YC FI j
  have c:=UM (mi:=Dc (Z (A0 AA (I 0) (I 2)) A1)) (e:=BQ (Z (I 1) (Z (I 0) A1))) (ρ:=[some (.ref n),some (.ref a),some (.int (j:Int))]) (h:=H1) (h0:=H1) (caps:=[2]) 0 (cs.getD j 0) (λk=>Aa (j,k)) (by lia)
   (LG (by simp only[CM,Bg,v_var,DM,ED,Ci,A3,GZ A9 (UN Ap),Ce]) (by lia)) (λk AO acc=>by simp[B0,Aa])
  simp only[Do,FO,Bg,v_var,ED,DM,Ci,A3,c];rw[NR (b:=(CW (cs.getD j 0)).map λk=>Aa (j,k)) (Ch H1 AF _) (by simp) (by simp only[CS,ei,B0];lia)];have es:=JQ H1 (H1++[⟨.lst,(CW (cs.getD j 0)).map λk=>Aa (j,k)⟩]++[⟨.lst,(D2 cs j).map Aa++(CW (cs.getD j 0)).map λk=>Aa (j,k)⟩]) (n:=H1.length+1) (ws:=(D2 cs j).map Aa++(CW (cs.getD j 0)).map λk=>Aa (j,k)) (by simp) (by lia) (by simp) (Jn.mpr λw hw=>by
   rcases List.mem_append.mp hw with hw|hw
   .obtain⟨d,_,rfl⟩:=List.mem_map.mp hw;simp
   .obtain⟨d,_,rfl⟩:=List.mem_map.mp hw;simp)
  simp only[A3,Ej,Df,Es,Nat.zero_add,es];simp only[Ri,Df,Es,Gr,QP,if_true,UT,XR,QJ,N6];refine⟨H1.length,some (.int (j:Int)),rfl,Ch H1 A9 _,?_,List.IsPrefix.length_le pr,Ha pr _⟩;rw[fX];simp[O7]
 .rintro _ h' ⟨a,s2,rfl,A9,AF,HI,pr⟩;exact⟨a,s2,rfl,AF,HI,pr⟩
end FU
namespace C0
open PySem PySem.Spec B6
def Mu{h:A5}{n:Nat}{ws:List W}{m:B3}{ρ:B9}{h0:A5}(e:h[n]?=some ⟨.lst,ws⟩)(em:m ρ h0=.ok (.ref n,h)):E8 m ρ h0=.ok (GA (.ref n),h):=by unfold E8;simp only[IV,em,A3,IB h e]
def PZ{h:A5}{n:Nat}{ws:List W}(e:h[n]?=some ⟨.lst,ws⟩)(j:Nat):GA (.ref n) j h=some ws[j]?:=by simp only[GA,IB h e]
@[simp] theorem ahf(f g:D9)(x y:W)(ρ:B9)(h:A5):Fs [f,g] (.tup [x,y]) ρ h=(f x ρ h).bind (OZ λρ h=>(g y ρ h).bind (OZ Bd)):=by
  simp only[Fs,T1,Df,Es,T9,B4];rw[if_pos trivial]
  congr
end C0
namespace FU
open PySem PySem.Spec B6 C0
def aA(h:A5)(d:Ad):DD 8 h (Aa d)=some (.Dn true [.int (d.1:Nat),.int (d.2:Nat)]):=by simp[Aa,DD]
def Xf(h:A5)(a b:Ad):Au true (Aa a) (Aa b) h=.ok (.AL (decide (a=b)),h):=by
 unfold Au;rw[aA,aA];simp only[eqT,G8]
 congr 3
 obtain⟨a1,a2⟩:=a;obtain⟨D_,FX⟩:=b;by_cases h1:a1=D_<;>by_cases h2:a2=FX<;>simp[h1,h2]
 all_goals lia
def EM:List (Ad×Ad)->Ad->Option Ad
 |[],_=>none
 |w::ws,d=>if w.1=d then some w.2 else if w.2=d then some w.1 else EM ws d
def I8:Option Ad->W
 |none=>.non
 |some d=>Aa d
@[simp] theorem ahw(o:Option Ad):DL (I8 o)=true:=by cases o<;>simp[I8]
def hT{ws:List (Ad×Ad)}(AG:ws.length<100){h:A5}{n:Nat}(As:h[n]?=some ⟨.lst,ws.map CA⟩)(d:Ad):Pe [.ref n,Aa d] h=.ok (I8 (EM ws d),h):=by
 apply Ends.done
 have BL:=US (mi:=E8 (I 0)) (it:=GA (.ref n)) (g:=Fs [(AD 2),(AD 3)]) (b:=AQ (Bh (AY (A0 (Au true) (I 2) (I 1))) (B2 (I 3)) Bd) (Bh (AY (A0 (Au true) (I 3) (I 1))) (B2 (I 2)) Bd))
  (ρ:=[some (.ref n),some (Aa d),none,none]) (h:=h) (h0:=h) (ws.map CA) (by simp;lia)
  (λj ρ h'=>∃s2 s3,ρ=[some (.ref n),some (Aa d),s2,s3]/\h'=h/\EM (ws.drop j) d=EM ws d)
  (T:=λf h'=>h'=h/\((∃ρ,f=.AR ρ/\EM ws d=none)\/f=.EA (I8 (EM ws d))))
  (Mu As (by simp)) (λj ρ h' _⟨_,_,_,e,_⟩=>by rw[e];exact PZ As j) ⟨none,none,rfl,rfl,rfl⟩ ?_ ?_
 .obtain⟨f,h',C8,rfl,q⟩:=BL.H5;simp only[Pe,Vx,b0,B4,Ly,Uj,D3,Hq,Df,Es,HU,N7,Gr,Tz,Fu,C8,A3];rcases q with⟨ρ,rfl,e⟩|rfl
  .simp[e,I8]
  .simp
 .rintro j w _ H1 Cp ⟨s2,s3,rfl,Dt,e⟩;subst Dt;rw[Ed]at Cp;cases CC:ws[j]? with
  |none=>rw[CC]at Cp;cases Cp
  |some p=>
   rw[CC]at Cp;cases Cp;have Ap:j<ws.length:=(List.getElem?_eq_some_iff.mp CC).1;have hd:ws.drop j=p::ws.drop (j+1):=by rw[e6 Ap];have:=(List.getElem?_eq_some_iff.mp CC).2;rw[this]
   rw[hd]at e;refine⟨[some (.ref n),some (Aa d),some (Aa p.1),some (Aa p.2)],H1,by simp[CA],?_⟩;simp only[EM]at e;by_cases h1:p.1=d
   .rw[if_pos h1]at e;simp[Xf,h1,<-e,I8]
   .rw[if_neg h1]at e;by_cases h2:p.2=d
    .rw[if_pos h2]at e;simp[Xf,h1,h2,<-e,I8]
    .rw[if_neg h2]at e;simp[Xf,h1,h2,e]
 .rintro _ _ ⟨s2,s3,rfl,rfl,e⟩;refine⟨rfl,.inl ⟨_,rfl,?_⟩⟩;rw[<-e];simp[EM]
def yJ(h:A5)(o:Option Ad):EN true (I8 o) .non h=.ok (.AL o.isNone,h):=by cases o<;>rfl
def aaf{cs:List Nat}{ws:List (Ad×Ad)}(N:K3 cs ws){h:A5}{n k:Nat}(As:h[n]?=some ⟨.lst,Br cs⟩)(DG:h[k]?=some ⟨.lst,ws.map CA⟩) :
  TX [.ref n,.ref k] h=.ok (.ref h.length,h++[⟨.lst,((D2 cs cs.length).filter λd=>(EM ws d).isNone).map Aa⟩]):=by
 have Iq:=gb N.FD N.c As;have Ec:=YC N.c cs.length;have yj:=N.FD
 have c:=UL (mi:=E8 (Ah 1 RF (Z (I 0) A1))) (it:=GA (.ref h.length)) (g:=AD 0) (t:=AY (A0 (EN true) (Ah 2 Pe (Z (I 1) (Z (I 0) A1))) (pu (.non)))) (e:=I 0) (ρ:=[some (.ref n),some (.ref k)]) (h:=h++[⟨.lst,(D2 cs cs.length).map Aa⟩]) (h0:=h) (nl:=1) (caps:=[1])
  ((D2 cs cs.length).map Aa) (λw=>match w with
    |.tup [.int a,.int b]=>(EM ws (a.toNat,b.toNat)).isNone
    |_=>false) id (λρ=>∃x,ρ=[x,some (.ref k)]) (by simp;lia) (Mu (ws:=(D2 cs cs.length).map Aa) (by simp) (by simp[Iq])) ⟨none,rfl⟩ (λj acc _=>PZ (by rw[F6];simp) j) (by
    rintro w hw ρ acc ⟨x,rfl⟩;obtain⟨d,hd,rfl⟩:=List.mem_map.mp hw;refine⟨[some (Aa d),some (.ref k)],by simp,⟨_,rfl⟩,?_,λ_=>by simp⟩;have b:=hT N.few (Ch _ (Ch h DG [⟨.lst,(D2 cs cs.length).map Aa⟩]) [⟨.lst,acc⟩]) d;simp only[HA,Bg,IW,CM,v_var,DM,ED,Ci,A3,Ce,Df,Es,Gr,if_true,b,Bw,yJ,HE];simp[Aa])
 simp only[TX,Vx,b3,Ga,Uj,D3,Hq,Df,Es,HU,N7,Gr,Tz,Fu,LU,c,A3,Ig];have C8:(((D2 cs cs.length).map Aa).filter λw=>match w with
   |.tup [.int a,.int b]=>(EM ws (a.toNat,b.toNat)).isNone
   |_=>false)=((D2 cs cs.length).filter λd=>(EM ws d).isNone).map Aa:=by
  rw[List.filter_map]
  congr 1
 rw[C8,List.map_id];exact JQ h _ (Kj (Ha (G4 _ _) _)) (by simp) (by simp) (HK _ _ dG)
end FU
namespace C0
open PySem PySem.Spec B6
theorem Xg{α β:Type}(f:α->β):∀(l:List α)(k:Nat),(l.map f).eraseIdx k=(l.eraseIdx k).map f
 |[],_=>by simp
 |x::l,0=>by simp
 |x::l,k+1=>by simp[Xg f l k]
def aba:(2:Int)^63=9223372036854775808:=by decide
def ck{ws:List W}{k:Nat}(AO:k<ws.length)(AG:ws.length<1000):JM ws [.int (k:Int)]=some (ws[k],ws.eraseIdx k):=by
 have c: -(2^63)<=(k:Int)/\(k:Int)<2^63:=by rw[aba];lia
 have e:Ry (k:Int) ws.length=some k:=by unfold Ry;simp[show¬(k:Int)<0 by lia,AO]
 simp only[JM,if_pos c,e,Cc AO,U1]
def Mz{f:NJ}{m:B3}{a:EE}{ρ:B9}{h h1 h2:A5}{n:Nat}{ws ws2 ws' us:List W}{r:W}(em:m ρ h=.ok (.ref n,h1))(A9:h1[n]?=some ⟨.lst,ws⟩)(BY:a ρ h1=.ok (us,h2))(AF:h2[n]?=some ⟨.lst,ws2⟩)(C8:f ws2 us=some (r,ws'))(AG:ws'.length<=B0) :
  EP f m a ρ h=.ok (r,h2.set n ⟨.lst,ws'⟩):=by
 rw[adR,em];simp only[A3,Y_,Nm h1 A9,IV,BY,Yf,Nm h2 AF,C8];exact if_pos AG
def WH{h g:A5}(p:h<+: g){n:Nat}(l:h.length<=n)(o:O):h<+: g.set n o:=by obtain⟨r,rfl⟩:=p;rw[qt _ _ l];exact G4 _ _
def F5{h:A5}{i j:Nat}(ne:i≠j)(o:O):(h.set i o)[j]?=h[j]?:=M7 ne
def IU{h:A5}{i:Nat}{o o':O}(e:h[i]?=some o'):(h.set i o)[i]?=some o:=JU (List.getElem?_eq_some_iff.mp e).1
def FW{h:A5}{i:Nat}{o:O}(e:h[i]?=some o):i<h.length:=(List.getElem?_eq_some_iff.mp e).1
end C0
namespace FU
open PySem PySem.Spec B6 C0
def uE(ws:List (Ad×Ad))(w:Ad×Ad):ends (ws++[w])=ends ws++[w.1,w.2]:=by simp[ends]
def af(ws:List (Ad×Ad)):(ends ws).length=2*ws.length:=by
 induction ws with
 |nil=>rfl
 |cons w ws C9=>simp[ends]at C9 |-;lia
noncomputable def e3:Am:=AQ (Ac (EP JM (I 2) (Z (A0 BV (A0 AA (I 7) (pu (.int 0))) (Az BO (Z (I 2) A1))) A1)) (AD 8))
    (AQ (Ac (EP JM (I 2) (Z (A0 BV (A0 AA (I 7) (pu (.int 1))) (Az BO (Z (I 2) A1))) A1)) (AD 9))
    (AQ (HJ (EP FS (I 3) (Z (BQ (Z (I 8) (Z (I 9) A1))) A1)))
    (Ac (A0 addW (I 6) (pu (.int 2))) (AD 6))))
def Ev(cell:Int)(n a b:Nat)(nm Bc:Int)(k:Nat)(s7 GO CP:Option W):B9:=[some (.int cell),some (.ref n),some (.ref a),some (.ref b),some (.int nm),some (.int Bc),some (.int (k:Int)),s7,GO,CP]
structure OP(h:A5)(a b:Nat)(R:List Ad)(ws:List (Ad×Ad))(h':A5):Prop where
 BY:h'[a]?=some ⟨.lst,R.map Aa⟩
 BF:h'[b]?=some ⟨.lst,ws.map CA⟩
 ne:a≠b
 HI:h.length<=a
 JH:h.length<=b
 pr:h<+: h'
def OP.more{h:A5}{a b:Nat}{R:List Ad}{ws:List (Ad×Ad)}{h':A5}(w:OP h a b R ws h')(g:A5):OP h a b R ws (h'++g):=⟨Ch _ w.BY g,Ch _ w.BF g,w.ne,w.HI,w.JH,Ha w.pr g⟩
noncomputable def fV(cell:Int)(n:Nat)(h:A5)(al:List Ad)(Bc:Int)(m:Nat)(ρ:B9)(h':A5):Prop:=∃(a b:Nat)(ws:List (Ad×Ad))(R:List Ad)(nm:Int)(s7 GO CP:Option W),(ends ws++R).Perm al/\1<=R.length/\m=R.length/\OP h a b R ws h'/\ρ=Ev cell n a b nm Bc (9+2*ws.length) s7 GO CP
def pL{cell:Int}{n a b p:Nat}{h AS:A5}{al R:List Ad}{ws:List (Ad×Ad)}{nm Bc:Int}{GO CP:Option W}{q1 q2:Int}(T:F9->A5->Prop)(pm:(ends ws++R).Perm al)(Os:3<=R.length)(bR:al.length<=100)(w:OP h a b R ws AS)(An:AS[p]?=some ⟨.lst,[.int q1,.int q2]⟩)(VA:p≠a) :
  Ends (e3 (Ev cell n a b nm Bc (9+2*ws.length) (some (.ref p)) GO CP) AS) (Lz (λEH h'=>∃m,m<R.length/\fV cell n h al Bc m EH h') T):=by
 have Ec:(ends ws).length+R.length=al.length:=by have:=pm.length_eq;simpa using this
 rw[af]at Ec;obtain⟨k1,cB,uB⟩:=Jo q1 (n:=R.length) (by lia);have QC:(R.eraseIdx k1).length=R.length-1:=e4 cB;obtain⟨k2,Om,uC⟩:=Jo q2 (n:=(R.eraseIdx k1).length) (by lia);have yV:((R.eraseIdx k1).eraseIdx k2).length=R.length-2:=by rw[e4 Om];lia
 obtain⟨Bx,Dh⟩:∃Bx,Bx=AS.set a ⟨.lst,(R.eraseIdx k1).map Aa⟩:=⟨_,rfl⟩;have f1:Bx[a]?=some ⟨.lst,(R.eraseIdx k1).map Aa⟩:=by rw[Dh];exact IU w.BY
 have f2:Bx[p]?=some ⟨.lst,[.int q1,.int q2]⟩:=by rw[Dh,F5 VA.symm];exact An
 have Eo:Bx[b]?=some ⟨.lst,ws.map CA⟩:=by rw[Dh,F5 w.ne];exact w.BF
 have t1:EP JM (I 2) (Z (A0 BV (A0 AA (I 7) (pu (.int 0))) (Az BO (Z (I 2) A1))) A1) (Ev cell n a b nm Bc (9+2*ws.length) (some (.ref p)) GO CP) AS=.ok (Aa R[k1],Bx):=by
  rw[Dh];have GK:AA (.ref p) (.int 0) AS=.ok (.int q1,AS):=GZ (k:=0) An rfl;refine Mz (ws:=R.map Aa) (ws2:=R.map Aa) (us:=[.int (k1:Int)]) (h1:=AS) (h2:=AS) (by simp[Ev]) w.BY ?_ w.BY ?_ (by simp[B0];lia)
  .simp[Ev,GK,GL w.BY,show 0<R.length by lia];exact uB
  .rw[ck (by simpa using cB) (by simp;lia)];simp[Xg]
 obtain⟨Cy,O8⟩:∃Cy,Cy=Bx.set a ⟨.lst,((R.eraseIdx k1).eraseIdx k2).map Aa⟩:=⟨_,rfl⟩;have g1:Cy[a]?=some ⟨.lst,((R.eraseIdx k1).eraseIdx k2).map Aa⟩:=by rw[O8];exact IU f1
 have g3:Cy[b]?=some ⟨.lst,ws.map CA⟩:=by rw[O8,F5 w.ne];exact Eo
 have Cb:∀md,EP JM (I 2) (Z (A0 BV (A0 AA (I 7) (pu (.int 1))) (Az BO (Z (I 2) A1))) A1) (Ev cell n a b nm Bc (9+2*ws.length) (some (.ref p)) md CP) Bx=.ok (Aa (R.eraseIdx k1)[k2],Cy):=λmd=>by
  rw[O8];have BB:AA (.ref p) (.int 1) Bx=.ok (.int q2,Bx):=GZ (k:=1) f2 rfl;refine Mz (ws:=(R.eraseIdx k1).map Aa) (ws2:=(R.eraseIdx k1).map Aa) (us:=[.int (k2:Int)]) (h1:=Bx) (h2:=Bx) (by simp[Ev]) f1 ?_ f1 ?_ (by simp[B0];lia)
  .have:0<(R.eraseIdx k1).length:=by lia
   simp only[Ev,CM,Bg,G1,v_var,Bw,Ce,ED,DM,Ci,A3,BB,GL f1,Kh,CS];rw[if_pos (by lia)];simp only[A3,uC]
  .rw[ck (by simpa using Om) (by simp;lia)];simp[Xg]
 have t3:EP FS (I 3) (Z (BQ (Z (I 8) (Z (I 9) A1))) A1) (Ev cell n a b nm Bc (9+2*ws.length) (some (.ref p)) (some (Aa R[k1])) (some (Aa (R.eraseIdx k1)[k2]))) Cy=.ok (.non,Cy.set b ⟨.lst,(ws++[(R[k1],(R.eraseIdx k1)[k2])]).map CA⟩):=
  Mz (ws:=ws.map CA) (ws2:=ws.map CA) (us:=[CA (R[k1],(R.eraseIdx k1)[k2])]) (h1:=Cy) (h2:=Cy) (by simp[Ev]) g3 (by simp[Ev,B0,CA]) g3 (by simp[FS]) (by simp[B0];lia)
 have CR:OP h a b ((R.eraseIdx k1).eraseIdx k2) (ws++[(R[k1],(R.eraseIdx k1)[k2])]) (Cy.set b ⟨.lst,(ws++[(R[k1],(R.eraseIdx k1)[k2])]).map CA⟩):=⟨by rw[F5 w.ne.symm];exact g1,IU g3,w.ne,w.HI,w.JH,WH (by rw[O8];exact WH (by rw[Dh];exact WH w.pr w.HI _) w.HI _) w.JH _⟩;unfold e3;simp only[B4,Do,t1,A3];have FP:AD 8 (Aa R[k1]) (Ev cell n a b nm Bc (9+2*ws.length) (some (.ref p)) GO CP) Bx=.ok (.AR (Ev cell n a b nm Bc (9+2*ws.length) (some (.ref p)) (some (Aa R[k1])) CP),Bx):=rfl;have Eg:AD 9 (Aa (R.eraseIdx k1)[k2]) (Ev cell n a b nm Bc (9+2*ws.length) (some (.ref p)) (some (Aa R[k1])) CP) Cy=.ok (.AR (Ev cell n a b nm Bc (9+2*ws.length) (some (.ref p)) (some (Aa R[k1])) (some (Aa (R.eraseIdx k1)[k2]))),Cy):=rfl;rw[FP];simp only[A3,BA,B4,Do,Cb];rw[Eg];simp only[A3,BA,B4,Mg,t3,Do];refine⟨.AR (Ev cell n a b nm Bc (9+2*ws.length+2) (some (.ref p)) (some (Aa R[k1])) (some (Aa (R.eraseIdx k1)[k2]))),Cy.set b ⟨.lst,(ws++[(R[k1],(R.eraseIdx k1)[k2])]).map CA⟩,by simp[Ev],?_⟩;refine⟨R.length-2,by lia,a,b,ws++[(R[k1],(R.eraseIdx k1)[k2])],(R.eraseIdx k1).eraseIdx k2,nm,_,_,_,?_,by lia,yV.symm,CR,by rw[Ej];rfl⟩;rw[uE,F6];refine List.Perm.trans (qu _ ?_) pm;exact((Xh (R.eraseIdx k1) k2 Om).cons _).trans (Xh R k1 cB)
def hZ{α β Oh:Type}(r:C0.R α)(f:α->C0.R β)(g:β->C0.R Oh):(r.bind f).bind g=r.bind λa=>(f a).bind g:=by cases r<;>rfl
def e2:Am:=AQ (Ac (By (Z (I 4) (Z (A0 CY (I 4) (Az BO (Z (I 2) A1))) A1))) (AD 7))
    (Ac (A0 CY (A0 CY (I 4) (Az BO (Z (I 2) A1))) (A0 NY (Az BO (Z (I 2) A1)) (pu (.int 1)))) (AD 4))
noncomputable def W5:Am:=AQ (Ac (By (Z (Ah 2 EQ (Z (I 0) (Z (I 6) A1))) (Z (Ah 2 EQ (Z (I 0) (Z (A0 addW (I 6) (pu (.int 1))) A1))) A1))) (AD 7))
    (AQ (Bh (AY (A0 (Au true) (A0 BV (I 0) (pu (.int 2))) (pu (.int 1)))) e2 Bd) e3)
def ZO:DF:=AY (A0 KG (Az BO (Z (I 2) A1)) (A0 addW (I 5) (pu (.int 1))))
def af3{cell:Int}{n a b:Nat}{h H1:A5}{al R:List Ad}{ws:List (Ad×Ad)}{nm Bc:Int}{s7 GO CP:Option W}(T:F9->A5->Prop)(pm:(ends ws++R).Perm al)(Os:3<=R.length)(bR:al.length<=100)(w:OP h a b R ws H1) :
  Ends (W5 (Ev cell n a b nm Bc (9+2*ws.length) s7 GO CP) H1) (Lz (λEH h'=>∃m,m<R.length/\fV cell n h al Bc m EH h') T):=by
 have Ec:(ends ws).length+R.length=al.length:=by have:=pm.length_eq;simpa using this
 rw[af]at Ec;obtain⟨Mk,f1⟩:=Nq cell (9+2*ws.length) (by lia);obtain⟨N_,f2⟩:=Nq cell (9+2*ws.length+1) (by lia);have tf:∀h,EQ [.int cell,.int (((9+2*ws.length:Nat):Int)+1)] h=.ok (.int N_,h):=f2;have HI:=FW w.BY;have s1:Ac (By (Z (Ah 2 EQ (Z (I 0) (Z (I 6) A1))) (Z (Ah 2 EQ (Z (I 0) (Z (A0 addW (I 6) (pu (.int 1))) A1))) A1))) (AD 7) (Ev cell n a b nm Bc (9+2*ws.length) s7 GO CP) H1=.ok (.AR (Ev cell n a b nm Bc (9+2*ws.length) (some (.ref H1.length)) GO CP),H1++[⟨.lst,[.int Mk,.int N_]⟩]):=by simp only[Ev,Do,Mh,CM,IW,Bg,v_var,Bw,Ce,ED,DM,Ci,A3,Df,Es,Gr,if_true,MW,f1,tf,H_ H1 (show([.int Mk,.int N_]:List W).length<=B0 by simp[B0]),Ri,QP,QJ,N6]
 unfold W5;simp only[B4,s1,A3,BA];by_cases ho:cell%2=1
 .have jJ:(0:Int)<(R.length:Int)/\(R.length:Int)<1073741824:=by lia
  have CZ:(0:Int)<(R.length:Int)-1/\(R.length:Int)-1<1073741824:=by lia
  have A9:∀g,(H1++g)[a]?=some ⟨.lst,R.map Aa⟩:=λg=>Ch H1 w.BY g;have c:AY (A0 (Au true) (A0 BV (I 0) (pu (.int 2))) (pu (.int 1))) (Ev cell n a b nm Bc (9+2*ws.length) (some (.ref H1.length)) GO CP) (H1++[⟨.lst,[.int Mk,.int N_]⟩])=.ok (true,H1++[⟨.lst,[.int Mk,.int N_]⟩]):=by simp[Ev,ho]
  have s2:e2 (Ev cell n a b nm Bc (9+2*ws.length) (some (.ref H1.length)) GO CP) (H1++[⟨.lst,[.int Mk,.int N_]⟩])=.ok (.AR (Ev cell n a b (nm/R.length/((R.length:Int)-1)) Bc (9+2*ws.length) (some (.ref (H1.length+1))) GO CP),H1++[⟨.lst,[.int Mk,.int N_]⟩,⟨.lst,[.int nm,.int (nm/R.length)]⟩]):=by simp[e2,Ev,GL (A9 _),jJ,CZ,show 0<R.length by lia,show 1<R.length by lia,show(1:Int)<(R.length:Int)by lia,nw,B0]
  simp only[Dj,c,A3,if_true,s2,BA];exact pL (q1:=nm) (q2:=nm/R.length) T pm Os bR (w.more _) (by simp) (by lia)
 .have c:AY (A0 (Au true) (A0 BV (I 0) (pu (.int 2))) (pu (.int 1))) (Ev cell n a b nm Bc (9+2*ws.length) (some (.ref H1.length)) GO CP) (H1++[⟨.lst,[.int Mk,.int N_]⟩])=.ok (false,H1++[⟨.lst,[.int Mk,.int N_]⟩]):=by simp[Ev,ho]
  simp only[Dj,c,A3,M6,if_false,Fg,BA];exact pL (q1:=Mk) (q2:=N_) T pm Os bR (w.more _) (by simp) (by lia)
def af5(cell:Int)(cs:List Nat)(h1:1<=cs.length)(FD:cs.length<=6)(FI:∀c∈cs,1<=c/\c<=4){h:A5}{n:Nat}(As:h[n]?=some ⟨.lst,Br cs⟩) :
  ∃ws,K3 cs ws/\(∃d∈D2 cs cs.length,d∉ends ws)/\P3 [.int cell,.ref n] h=.ok (.ref h.length,h++[⟨.lst,ws.map CA⟩]):=by
 have CH:1<=(D2 cs cs.length).length:=eL (head_mem h1 FI);have ahK:=YC FI cs.length;have zd:=gC cs cs.length;have Iq:=gb FD FI As;obtain⟨pQ,u3⟩:=Nq cell 8 (by decide);have iM:∀h,EQ [.int cell,.int 8] h=.ok (.int pQ,h):=u3;obtain⟨N,hN⟩:∃N:Int,cell/2%1000000000000000000000000000000000000000000000000000000000000/24576=N:=⟨_,rfl⟩;suffices AN:∃ws,K3 cs ws/\(∃d∈D2 cs cs.length,d∉ends ws)/\Ends (P3 [.int cell,.ref n] h) (λw h'=>w=.ref h.length/\h'=h++[⟨.lst,ws.map CA⟩])by
  obtain⟨ws,a,b,c⟩:=AN;exact⟨ws,a,b,c.done⟩
 obtain⟨Bu,Cg⟩:∃Bu,Bu=h++[⟨.lst,(D2 cs cs.length).map Aa⟩,⟨.lst,[]⟩]:=⟨_,rfl⟩;have Of:OP h h.length (h.length+1) (D2 cs cs.length) [] Bu:=⟨by rw[Cg];simp,by rw[Cg];simp,by lia,CB _,by lia,by rw[Cg];exact G4 _ _⟩;have BL:∀(nm Bc:Int),1<=Bc->Ends (S7 ZO W5 (Ev cell n h.length (h.length+1) nm Bc 9 none none none) Bu) (λf h'=>∃a b ws R nm s7 GO CP,f=.AR (Ev cell n a b nm Bc (9+2*ws.length) s7 GO CP)/\(ends ws++R).Perm (D2 cs cs.length)/\1<=R.length/\OP h a b R ws h'):=λnm Bc jP=>by refine uF (fV cell n h (D2 cs cs.length) Bc) (n:=(D2 cs cs.length).length) (by lia) ⟨h.length,h.length+1,[],D2 cs cs.length,nm,none,none,none,.refl _,CH,rfl,Of,rfl⟩ ?_;rintro m _ H1 ⟨a,b,ws,R,nm,s7,GO,CP,pm,CZ,rfl,w,rfl⟩;refine⟨decide (Bc+1<(R.length:Int)),H1,by simp[ZO,Ev,GL w.BY],λ_=>⟨a,b,ws,R,nm,s7,GO,CP,rfl,pm,CZ,w⟩,λBi=>af3 _ pm (by have:=of_decide_eq_true Bi;lia) (by lia) w⟩
 have fin:∀(nm Bc:Int),1<=Bc->(P3 [.int cell,.ref n] h=(H5 (S7 ZO W5 (Ev cell n h.length (h.length+1) nm Bc 9 none none none) Bu)).bind λp=>(OZ (B2 (I 3)) p).bind λp=>(outF p).bind λq=>settle h q.1 q.2)->∃ws,K3 cs ws/\(∃d∈D2 cs cs.length,d∉ends ws)/\Ends (P3 [.int cell,.ref n] h) (λw h'=>w=.ref h.length/\h'=h++[⟨.lst,ws.map CA⟩]):=λnm Bc jP e=>by
  obtain⟨f,h',C8,a,b,ws,R,ai4,s7,GO,CP,rfl,pm,CZ,w⟩:=(BL nm Bc jP).H5;have Ec:(ends ws).length+R.length=(D2 cs cs.length).length:=by have:=pm.length_eq;simpa using this
  rw[af]at Ec;have C1:(ends ws++R).Nodup:=pm.nodup_iff.mpr zd;have SS:R[0]∈R:=LS _;refine⟨ws,⟨h1,FD,FI,(List.nodup_append.mp C1).1,λd hd=>pm.mem_iff.mp (Iz _ hd),by lia⟩,⟨R[0],pm.mem_iff.mp (IY _ SS),λz=>(List.nodup_append.mp C1).2.2 _ z _ SS rfl⟩,?_⟩;rw[e,C8];simp[Ev,JQ h h' (Kj w.pr) w.JH w.BF (HK _ _ jy)]
 have BF:b5=AQ (Ac (Ah 1 RF (Z (I 1) A1)) (AD 2))
  (AQ (Ac (By A1) (AD 3))
  (AQ (Ac (A0 CY (A0 BV (A0 CY (I 0) (pu (.int 2))) (A0 OV (pu (.int 10)) (pu (.int 60)))) (pu (.int 24576))) (AD 4))
  (AQ (Ac (A0 addW (pu (.int 1)) (A0 BV (Ah 2 EQ (Z (I 0) (Z (pu (.int 8)) A1))) (pu (.int 3)))) (AD 5))
  (AQ (Bh (AY (A0 (Au true) (A0 BV (I 0) (pu (.int 2))) (pu (.int 1)))) (AQ (Ac (A0 addW (pu (.int 1)) (A0 BV (I 4) (pu (.int 24)))) (AD 5)) (Ac (A0 CY (I 4) (pu (.int 24))) (AD 4))) Bd)
  (AQ (Ac (pu (.int 9)) (AD 6))
  (AQ (Yi ZO W5) (B2 (I 3)))))))):=rfl
 by_cases ho:cell%2=1
 .refine fin (N/24) (1+N%24) (by lia) ?_;simp[P3,BF,Iq,nw,B0,a5,hN,iM,ho];rw[Cg];exact hZ _ _ _
 .refine fin N (1+pQ%3) (by lia) ?_;simp[P3,BF,Iq,nw,B0,a5,hN,iM,ho];rw[Cg];exact hZ _ _ _
def Kr(c:Nat):Prop:=c=48\/c=49\/c=120
structure Qi(x:Str):Prop where
 l:x.cps.toList.length=4
 s:∀c∈x.cps.toList,Kr c
def sF{x y:Str}(h:A5)(l:x.length+y.length<=B0):addW (.str x) (.str y) h=.ok (.str (x++y),h):=if_pos l
def h5(x:Str)(c:Nat):(x++(⟨#[c]⟩:Str)).cps.toList=x.cps.toList++[c]:=by show(x.cps++ #[c]).toList=_;simp
structure Cu where
 p:Str
 a:Option Nat
 b:Option Nat
def D0:Option Nat->W
 |none=>.non
 |some k=>.int (k:Int)
def ER(r:Cu):W:=.tup [.str r.p,D0 r.a,D0 r.b]
@[simp] theorem ahx(o:Option Nat):DL (D0 o)=true:=by cases o<;>simp[D0]
@[simp] theorem jx(r:Cu):DL (ER r)=true:=by simp[ER]
structure Sh(c:Nat)(r:Cu):Prop where
 p:Qi r.p
 a:∀k,r.a=some k->k<c
 b:∀k,r.b=some k->k<c
def LB(c:Nat)(b:List Cu):Prop:=b.length<=12/\∀r∈b,Sh c r
def i8{cs:List Nat}(h:∀c∈cs,1<=c/\c<=4){k:Nat}(AO:k<cs.length):1<=cs.getD k 0/\cs.getD k 0<=4:=by have:=h (cs[k]) (LS _);simpa[AO]using this
def Hb(z:Int):Nat:=if z%5=2 then 48 else if z%5=3 then 49 else 120
def acL(z:Int):Kr (Hb z):=by
 unfold Hb Kr
 split
 .exact .inl rfl
 .split
  .exact .inr (.inl rfl)
  .exact .inr (.inr rfl)
def pt(q:Int)(FN:Int->Nat):Nat->Int->Str×Int
 |0,y=>(AJ "",y)
 |j+1,y=>((pt q FN j y).1++(⟨#[FN (pt q FN j y).2]⟩:Str),(pt q FN j y).2/q)
theorem cp(q:Int)(FN:Int->Nat):∀j y,(pt q FN j y).1.cps.toList.length=j
 |0,y=>by simp only[pt];decide
 |j+1,y=>by simp only[pt];rw[h5,Ej,cp q FN j y];rfl
theorem l2{q:Int}{FN:Int->Nat}(ok:∀z,Kr (FN z)):∀j y,∀c∈(pt q FN j y).1.cps.toList,Kr c
 |0,y,c,h=>nomatch (show c∈([]:List Nat)from h)
 |j+1,y,c,h=>by
  simp only[pt]at h;rw[h5]at h;rcases List.mem_append.mp h with h|h
  .exact l2 ok j y c h
  .rw[List.mem_singleton.mp h];exact ok _
def l1{q:Int}{FN:Int->Nat}(ok:∀z,Kr (FN z))(y:Int):Qi (pt q FN 4 y).1:=⟨cp q FN 4 y,l2 ok 4 y⟩
def kz(h:A5)(q:Int)(FN:Int->Nat)(j:Nat)(Ap:j<1000)(y:Int):addW (.str (pt q FN j y).1) (.str ⟨#[FN (pt q FN j y).2]⟩) h=.ok (.str (pt q FN (j+1) y).1,h):=by refine sF h ?_;have A9:(pt q FN j y).1.length=j:=cp q FN j y;have AF:(⟨#[FN (pt q FN j y).2]⟩:Str).length=1:=rfl;rw[A9,AF];unfold B0;lia
abbrev five:List W:=[.str (AJ "x"),.str (AJ "x"),.str (AJ "0"),.str (AJ "1"),.str (AJ "x")]
def acE(z:Int):∃k:Nat,z%5=(k:Int)/\five[k]?=some (.str ⟨#[Hb z]⟩):=by
 have h:z%5=0\/z%5=1\/z%5=2\/z%5=3\/z%5=4:=by lia
 unfold Hb;rcases h with h|h|h|h|h<;>rw[h]
 .exact⟨0,rfl,rfl⟩
 .exact⟨1,rfl,rfl⟩
 .exact⟨2,rfl,rfl⟩
 .exact⟨3,rfl,rfl⟩
 .exact⟨4,rfl,rfl⟩
noncomputable def rowOf(y:Int)(c:Nat):Cu:=⟨(pt 5 Hb 4 y).1,if(pt 5 Hb 4 y).2%3=0 then some ((pt 5 Hb 4 y).2/3%(c:Int)).toNat else none,if(pt 5 Hb 4 y).2/100%9=0 then none else some ((pt 5 Hb 4 y).2/20%(c:Int)).toNat⟩
def Yn(x:Int){c:Nat}(AH:1<=c):(x%(c:Int)).toNat<c/\(((x%(c:Int)).toNat:Nat):Int)=x%(c:Int):=by obtain⟨k,AO,e⟩:=Jo x (n:=c) (by lia);rw[e];simp[AO]
def ace(y:Int){c:Nat}(AH:1<=c):Sh c (rowOf y c):=by
 refine⟨l1 acL y,λk e=>?_,λk e=>?_⟩
 .simp only[rowOf]at e
  split at e
  .cases e;exact(Yn _ AH).1
  .cases e
 .simp only[rowOf]at e
  split at e
  .cases e
  .cases e;exact(Yn _ AH).1
def acf{cell y:Int}{k c:Nat}(DP:∀h,EQ [.int cell,.int k] h=.ok (.int y,h))(AH:1<=c)(Ue:c<=4)(h:A5):VO [.int cell,.int k,.int (c:Int)] h=.ok (ER (rowOf y c),h):=by
 apply Ends.done;obtain⟨z,Hk⟩:∃z,z=(pt 5 Hb 4 y).2:=⟨_,rfl⟩
 have BL:=RV (mi:=Dc (Z (pu (.int 4)) A1)) (g:=AD 5) (b:=AQ (Ac (Bb (A0 addW (I 4) (A0 AA (By (Z (pu (.str (AJ "x"))) (Z (pu (.str (AJ "x"))) (Z (pu (.str (AJ "0"))) (Z (pu (.str (AJ "1"))) (Z (pu (.str (AJ "x"))) A1)))))) (A0 BV (I 3) (pu (.int 5)))))) (AD 4)) (Ac (A0 CY (I 3) (pu (.int 5))) (AD 3)))
  (ρ:=[some (.int cell),some (.int k),some (.int c),some (.int y),some (.str (AJ "")),none,none,none]) (h:=h) (h0:=h) 0 4 (by lia)
  (λj ρ h'=>h'=h/\∃s5,ρ=[some (.int cell),some (.int k),some (.int c),some (.int (pt 5 Hb j y).2),some (.str (pt 5 Hb j y).1),s5,none,none])
  (T:=λf h'=>h'=h/\∃s5,f=.AR [some (.int cell),some (.int k),some (.int c),some (.int z),some (.str (pt 5 Hb 4 y).1),s5,none,none])
  (LG (n:=4) (by simp) (by lia)) ⟨rfl,none,rfl⟩ ?_ ?_
 .obtain⟨f,h',C8,rfl,s5,rfl⟩:=BL.H5;simp only[VO,Vx,b4,B4,Do,IW,CM,Ce,v_var,Bw,Uj,D3,Hq,Df,Es,HU,N7,Gr,Tz,Fu,DM,ED,Ci,A3,if_true,DP,Ri,QP,QJ,N6,BA,Ly,C8];have GB:=Yn (z/3) AH;have GC:=Yn (z/20) AH;have PL:(0:Int)<(c:Int):=by lia
  by_cases BH:z%3=0<;>by_cases wF:z/100%9=0<;>simp[BH,wF,PL,show 0<c by lia,B0,ER,rowOf,<-Hk,D0,GB.2,GC.2]
 .rintro j _ _ Ap ⟨rfl,s5,rfl⟩;rename_i H1;refine⟨[some (.int cell),some (.int k),some (.int c),some (.int (pt 5 Hb j y).2),some (.str (pt 5 Hb j y).1),some (.int (j:Int)),none,none],H1,by simp,?_⟩;obtain⟨p,An,ex⟩:=acE (pt 5 Hb j y).2;have EO:AA (.ref H1.length) (.int (p:Int)) (H1++[⟨.lst,five⟩])=.ok (.str ⟨#[Hb (pt 5 Hb j y).2]⟩,H1++[⟨.lst,five⟩]):=GZ (by simp) ex;simp only[B4,Do,FO,Bg,Mh,CM,Ce,v_var,Bw,DM,ED,Ci,A3,H_ H1 (show five.length<=B0 by simp[B0]),Kh,show(0:Int)<5 by decide,if_true,An,EO,kz _ 5 Hb j (by lia) y,WP H1 [⟨.lst,five⟩] (.str (pt 5 Hb (j+1) y).1) (by simp),Ri,Df,Es,Gr,QP,QJ,N6,BA,MX];simp[pt]
 .rintro _ _ ⟨rfl,s5,rfl⟩;exact⟨rfl,s5,by rw[Hk]⟩
def H7(z:Int):Nat:=if z%3=0 then 48 else if z%3=1 then 49 else 120
def acw(z:Int):Kr (H7 z):=by
 unfold H7 Kr
 split
 .exact .inl rfl
 .split
  .exact .inr (.inl rfl)
  .exact .inr (.inr rfl)
def acD(h:A5)(z:Int):AA (.str (AJ "01x")) (.int (z%3)) h=.ok (.str ⟨#[H7 z]⟩,h):=by
 have e:z%3=0\/z%3=1\/z%3=2:=by lia
 unfold H7;rcases e with e|e|e<;>rw[e]<;>rfl
def Jg(c:Nat):List W:=.non::(CW c).map λi:Nat=>W.int (i:Int)
def choice{c:Nat}{h:A5}{n:Nat}(As:h[n]?=some ⟨.lst,Jg c⟩)(y:Int):∃o:Option Nat,(∀k,o=some k->k<c)/\AA (.ref n) (.int (y%((c:Int)+1))) h=.ok (D0 o,h):=by
 obtain⟨k,AO,e⟩:=Jo y (n:=c+1) (by lia);have e:y%((c:Int)+1)=(k:Int):=by rw[<-e];simp
 rw[e];cases k with
 |zero=>exact⟨none,(λ_ h=>nomatch h),GZ (k:=0) As rfl⟩
 |succ k=>exact⟨some k,(λj h=>by cases h;lia),GZ (k:=k+1) As (by simp[Jg,D0,show k<c by lia])⟩
def ib:Am:=F2 (Dc (Z (pu (.int 4)) A1)) (AD 7) (AQ (Ac (A0 addW (I 6) (A0 AA (pu (.str (AJ "01x"))) (A0 BV (I 0) (pu (.int 3))))) (AD 6)) (Ac (A0 CY (I 0) (pu (.int 3))) (AD 0)))
noncomputable def fBody:Am:=AQ (Ac (pu (.str (AJ ""))) (AD 6)) (AQ ib
    (AQ (HJ (EP FS (I 2) (Z (BQ (Z (I 6) (Z (A0 AA (I 4) (A0 BV (I 0) (A0 addW (I 1) (pu (.int 1))))) (Z (A0 AA (I 4) (A0 BV (A0 CY (I 0) (A0 addW (I 1) (pu (.int 1)))) (A0 addW (I 1) (pu (.int 1))))) A1)))) A1)))
    (Ac (A0 CY (A0 CY (I 0) (A0 addW (I 1) (pu (.int 1)))) (A0 addW (I 1) (pu (.int 1)))) (AD 0))))
def G5(z:Int)(c b m ch:Nat)(s5 s6 s7:Option W):B9:=[some (.int z),some (.int c),some (.ref b),some (.int m),some (.ref ch),s5,s6,s7]
def ul(y:Int)(c b m ch:Nat)(s5 s7:Option W)(h:A5):∃WM,ib (G5 y c b m ch s5 (some (.str (AJ ""))) s7) h=.ok (.AR (G5 (pt 3 H7 4 y).2 c b m ch s5 (some (.str (pt 3 H7 4 y).1)) WM),h):=by
 have BL:=RV (mi:=Dc (Z (pu (.int 4)) A1)) (g:=AD 7) (b:=AQ (Ac (A0 addW (I 6) (A0 AA (pu (.str (AJ "01x"))) (A0 BV (I 0) (pu (.int 3))))) (AD 6)) (Ac (A0 CY (I 0) (pu (.int 3))) (AD 0)))
  (ρ:=G5 y c b m ch s5 (some (.str (AJ ""))) s7) (h:=h) (h0:=h) 0 4 (by lia)
  (λj ρ h'=>h'=h/\∃s7,ρ=G5 (pt 3 H7 j y).2 c b m ch s5 (some (.str (pt 3 H7 j y).1)) s7)
  (T:=λf h'=>h'=h/\∃s7,f=.AR (G5 (pt 3 H7 4 y).2 c b m ch s5 (some (.str (pt 3 H7 4 y).1)) s7))
  (LG (n:=4) (by simp) (by lia)) ⟨rfl,s7,rfl⟩ ?_ ?_
 .obtain⟨f,h',C8,rfl,s,rfl⟩:=BL.H5;exact⟨s,C8⟩
 .rintro j _ H1 Ap ⟨Dt,s,rfl⟩;subst Dt;refine⟨G5 (pt 3 H7 j y).2 c b m ch s5 (some (.str (pt 3 H7 j y).1)) (some (.int (j:Int))),H1,by simp[G5],?_⟩;simp only[G5,B4,Do,Bg,v_var,Bw,DM,ED,Ci,A3,Kh,show(0:Int)<3 by decide,if_true,acD,kz _ 3 H7 j (by lia) y,Ri,Df,Es,Gr,QP,QJ,N6,BA,MX];simp[pt]
 .rintro _ H1 ⟨Dt,s,rfl⟩;exact⟨Dt,s,rfl⟩
def ux(y:Int){c:Nat}(AH:1<=c)(Ue:c<=4)(h:A5){m:Nat}(hm:m<13):∃(b:List Cu)(ρ:B9),b.length=m/\(∀r∈b,Sh c r)/\ρ[2]?=some (some (.ref h.length))/\H5 (Pb (Dc (Z (I 3) A1)) (AD 5) fBody (G5 (y/13) c h.length m (h.length+1) none none none) (h++[⟨.lst,[]⟩,⟨.lst,Jg c⟩]))=.ok (.AR ρ,h++[⟨.lst,b.map ER⟩,⟨.lst,Jg c⟩]):=by
 have BL:=RV (mi:=Dc (Z (I 3) A1)) (g:=AD 5) (b:=fBody) (ρ:=G5 (y/13) c h.length m (h.length+1) none none none) (h:=h++[⟨.lst,[]⟩,⟨.lst,Jg c⟩]) (h0:=h++[⟨.lst,[]⟩,⟨.lst,Jg c⟩]) 0 m (by lia)
  (λj ρ h'=>∃(z:Int)(b:List Cu)(s5 s6 s7:Option W),b.length=j/\(∀r∈b,Sh c r)/\ρ=G5 z c h.length m (h.length+1) s5 s6 s7/\h'=h++[⟨.lst,b.map ER⟩,⟨.lst,Jg c⟩])
  (T:=λf h'=>∃(b:List Cu)(ρ:B9),b.length=m/\(∀r∈b,Sh c r)/\f=.AR ρ/\ρ[2]?=some (some (.ref h.length))/\h'=h++[⟨.lst,b.map ER⟩,⟨.lst,Jg c⟩])
  (LG (n:=m) (by simp[G5]) (by lia)) ⟨_,[],_,_,_,rfl,(λ_ h=>nomatch h),rfl,rfl⟩ ?_ ?_
 .obtain⟨f,h',C8,b,ρ,AG,A2,rfl,AF,rfl⟩:=BL.H5;exact⟨b,ρ,AG,A2,AF,C8⟩
 .rintro j _ _ Ap ⟨z,b,s5,s6,s7,AG,A2,rfl,rfl⟩;obtain⟨H,Cg⟩:∃H,H=h++[⟨.lst,b.map ER⟩,⟨.lst,Jg c⟩]:=⟨_,rfl⟩;refine⟨G5 z c h.length m (h.length+1) (some (.int (j:Int))) s6 s7,H,by rw[Cg];simp[G5],?_⟩;have BF:H[h.length]?=some ⟨.lst,b.map ER⟩:=by rw[Cg];simp
  have ec:H[h.length+1]?=some ⟨.lst,Jg c⟩:=by rw[Cg];simp
  obtain⟨WM,G7⟩:=ul z c h.length m (h.length+1) (some (.int (j:Int))) s7 H;obtain⟨Fi,Hk⟩:∃Fi,Fi=(pt 3 H7 4 z).2:=⟨_,rfl⟩;rw[<-Hk]at G7;obtain⟨Cn,h1,A9⟩:=choice ec Fi;obtain⟨Dm,h2,AF⟩:=choice ec (Fi/((c:Int)+1));have Bk:(0:Int)<(c:Int)+1:=by lia
  have Co:(0:Int)<(c:Int)+1/\(c:Int)+1<1073741824:=by lia
  have s1:Ac (pu (.str (AJ ""))) (AD 6) (G5 z c h.length m (h.length+1) (some (.int (j:Int))) s6 s7) H=.ok (.AR (G5 z c h.length m (h.length+1) (some (.int (j:Int))) (some (.str (AJ ""))) s7),H):=rfl;have s3:EP FS (I 2) (Z (BQ (Z (I 6) (Z (A0 AA (I 4) (A0 BV (I 0) (A0 addW (I 1) (pu (.int 1))))) (Z (A0 AA (I 4) (A0 BV (A0 CY (I 0) (A0 addW (I 1) (pu (.int 1)))) (A0 addW (I 1) (pu (.int 1))))) A1)))) A1) (G5 Fi c h.length m (h.length+1) (some (.int (j:Int))) (some (.str (pt 3 H7 4 z).1)) WM) H=.ok (.non,H.set h.length ⟨.lst,(b++[(⟨(pt 3 H7 4 z).1,Cn,Dm⟩:Cu)]).map ER⟩):=
   Mz (ws:=b.map ER) (ws2:=b.map ER) (us:=[ER (⟨(pt 3 H7 4 z).1,Cn,Dm⟩:Cu)]) (h1:=H) (h2:=H) (by simp[G5]) BF (by simp only[G5,CM,Pu,Bg,v_var,Bw,Ce,DM,ED,Ci,A3,MW,Kh,MX,if_pos Bk,if_pos Co,A9,AF];simp[B0,ER]) BF (by simp[FS]) (by simp[B0];lia)
  have s5:Ac (A0 CY (A0 CY (I 0) (A0 addW (I 1) (pu (.int 1)))) (A0 addW (I 1) (pu (.int 1)))) (AD 0) (G5 Fi c h.length m (h.length+1) (some (.int (j:Int))) (some (.str (pt 3 H7 4 z).1)) WM) (H.set h.length ⟨.lst,(b++[(⟨(pt 3 H7 4 z).1,Cn,Dm⟩:Cu)]).map ER⟩)=.ok (.AR (G5 (Fi/((c:Int)+1)/((c:Int)+1)) c h.length m (h.length+1) (some (.int (j:Int))) (some (.str (pt 3 H7 4 z).1)) WM),H.set h.length ⟨.lst,(b++[(⟨(pt 3 H7 4 z).1,Cn,Dm⟩:Cu)]).map ER⟩):=by simp only[G5,Do,Bg,v_var,Bw,DM,ED,Ci,A3,MW,MX,if_pos Co,Ri,Df,Es,Gr,QP,if_true,N6]
  unfold fBody;simp only[B4,s1,A3,BA,G7,Mg,s3,s5,UT,XR];refine⟨_,b++[(⟨(pt 3 H7 4 z).1,Cn,Dm⟩:Cu)],_,_,_,by simp[AG],λr B7=>?_,rfl,by rw[Cg];simp⟩;rcases List.mem_append.mp B7 with B7|B7
  .exact A2 r B7
  .rw[List.mem_singleton.mp B7];exact⟨l1 acw z,h1,h2⟩
 .rintro ρ h' ⟨z,b,s5,s6,s7,AG,A2,rfl,rfl⟩;exact⟨b,_,AG,A2,rfl,rfl,rfl⟩
def yW{c:Nat}(AH:c<1000)(h:A5):Ow [.int (c:Int)] h=.ok (.ref h.length,h++[⟨.lst,(CW c).map λi:Nat=>W.int (i:Int)⟩]):=by
 have l:(IR ((CW c).map λi:Nat=>(i:Int))).length<=B0:=by simp[IR,B0];lia
 have Co:(c:Int)<=1000000:=by lia
 have Bk: -(2^62)<=(c:Int)/\(c:Int)<=1000000:=⟨(mW AH).1,Co⟩;simp only[Ow,if_pos Bk,QK];rw[H_ h l];simp[IR,P8]
def uN(z:Int){c:Nat}(Ue:c<=4)(m:Nat)(h:A5):Bb (A0 addW (By (Z (pu (.non)) A1)) (Az Ow (Z (I 1) A1))) (G5 z c h.length m 0 none none none|>.set 4 none) (h++[⟨.lst,[]⟩])=.ok (.ref (h.length+1),h++[⟨.lst,[]⟩,⟨.lst,Jg c⟩]):=by simp only[G5,QJ,N6,FO,Bg,Mh,CM,Ce,Bw,A3,H_ (h++[⟨.lst,[]⟩]) (show([.non]:List W).length<=B0 by simp[B0]),G1,v_var,ED,DM,Ci,yW (show c<1000 by lia)];rw[NR (a:=[.non]) (b:=(CW c).map λi:Nat=>W.int (i:Int)) (by simp) (by simp) (by simp[B0];lia)];simp only[A3];rw[JQ (ws:=Jg c) _ _ (by simp) (by simp) (by simp[Jg]) (by simp[Jg];exact HK _ _ λa=>by simp)];simp
def uM(y:Int){c:Nat}(AH:1<=c)(Ue:c<=4)(h:A5):∃b,LB c b/\TS [.int y,.int (c:Int)] h=.ok (.ref h.length,h++[⟨.lst,b.map ER⟩]):=by
 obtain⟨m,hm,em⟩:=Jo y (n:=13) (by decide);have em:y%13=(m:Int):=em;obtain⟨b,ρ,AG,A2,AF,C8⟩:=ux y AH Ue h hm;refine⟨b,⟨by lia,A2⟩,?_⟩;have PL:(0:Int)<13:=by lia
 have t4:(0:Int)<13/\(13:Int)<1073741824:=by lia
 have s1:Ac (By A1) (AD 2) [some (.int y),some (.int (c:Int)),none,none,none,none,none,none] h=.ok (.AR [some (.int y),some (.int (c:Int)),some (.ref h.length),none,none,none,none,none],h++[⟨.lst,[]⟩]):=by simp only[Do,Mh,Ce,A3,H_ h (show([]:List W).length<=B0 by simp)];rfl
 have s2:Ac (A0 BV (I 0) (pu (.int 13))) (AD 3) [some (.int y),some (.int (c:Int)),some (.ref h.length),none,none,none,none,none] (h++[⟨.lst,[]⟩])=.ok (.AR [some (.int y),some (.int (c:Int)),some (.ref h.length),some (.int (m:Int)),none,none,none,none],h++[⟨.lst,[]⟩]):=by simp only[Do,Bg,v_var,Bw,DM,Ci,A3,Kh,if_pos PL,em];rfl
 have s3:Ac (A0 CY (I 0) (pu (.int 13))) (AD 0) [some (.int y),some (.int (c:Int)),some (.ref h.length),some (.int (m:Int)),none,none,none,none] (h++[⟨.lst,[]⟩])=.ok (.AR [some (.int (y/13)),some (.int (c:Int)),some (.ref h.length),some (.int (m:Int)),none,none,none,none],h++[⟨.lst,[]⟩]):=by simp only[Do,Bg,v_var,Bw,DM,Ci,A3,MX,if_pos t4];rfl
 have s4:Ac (Bb (A0 addW (By (Z (pu (.non)) A1)) (Az Ow (Z (I 1) A1)))) (AD 4) [some (.int (y/13)),some (.int (c:Int)),some (.ref h.length),some (.int (m:Int)),none,none,none,none] (h++[⟨.lst,[]⟩])=.ok (.AR (G5 (y/13) c h.length m (h.length+1) none none none),h++[⟨.lst,[]⟩,⟨.lst,Jg c⟩]):=by have:=uN (y/13) Ue m h;rw[Do,show([some (.int (y/13)),some (.int (c:Int)),some (.ref h.length),some (.int (m:Int)),none,none,none,none]:B9)=(G5 (y/13) c h.length m 0 none none none).set 4 none from rfl,this];rfl
 have e:TS [.int y,.int (c:Int)] h=((((AQ (Ac (By A1) (AD 2))
   (AQ (Ac (A0 BV (I 0) (pu (.int 13))) (AD 3))
   (AQ (Ac (A0 CY (I 0) (pu (.int 13))) (AD 0))
   (AQ (Ac (Bb (A0 addW (By (Z (pu (.non)) A1)) (Az Ow (Z (I 1) A1)))) (AD 4))
   (AQ (F2 (Dc (Z (I 3) A1)) (AD 5) fBody) (B2 (I 2))))))) [some (.int y),some (.int (c:Int)),none,none,none,none,none,none] h).bind outF).bind λq=>settle h q.1 q.2):=rfl
 rw[e,B4,s1,A3,BA,B4,s2,A3,BA,B4,s3,A3,BA,B4,s4,A3,BA,B4,Ly,C8,A3,BA,Ga,v_var,AF,Ci,A3,A3,Ig,A3];exact Po h _ rfl (HK _ _ jx)
def pI(i:Int)(h:A5):TO [.int i] h=.ok (.AL true,h):=by have A9:Dv "int" (.int i) h=.ok (.AL true,h):=rfl;have AF:Dv "bool" (.int i) h=.ok (.AL false,h):=rfl;simp[TO,fK,A9,AF]
def ZM(f g:Io)(a b c:B3)(ρ:B9)(h:A5):P0 f g a b c ρ h=(a ρ h).bind λp=>(b ρ p.2).bind λq=>(f p.1 q.1 q.2).bind λr=>ML (λk=>if k=true then bd c λz _ h=>g q.1 z h else pu (.AL false)) r.1 ρ r.2:=rfl
def TD(i a b:Int)(h:A5):N0 [.int i,.int a,.int b] h=.ok (.AL (decide (a<=i)&&decide (i<=b)),h):=by
 have e:=pI i h;by_cases AE:a<=i
 .simp[N0,Xn,e,ZM,ML,AE]
 .simp[N0,Xn,e,ZM,ML,AE]
end FU
namespace C0
open PySem PySem.Spec B6
theorem mapM_some{α β Oh:Type}(f:α->Option β)(g:Oh->α)(k:Oh->β)(e:∀c,f (g c)=some (k c)):∀l:List Oh,(l.map g).mapM f=some (l.map k)
 |[]=>rfl
 |c::l=>by simp[e,mapM_some f g k e l]
def WK{h:A5}{n:Nat}{l:List Int}(k:Nat)(e:h[n]?=some ⟨.lst,l.map W.int⟩):DD (k+1) h (.ref n)=some (.Dn false (l.map DK.int)):=by have es:=IB h e;simp only[DD,es];rw[mapM_some (DD k h) W.int DK.int (λc=>by cases k<;>rfl) l];rfl
def eq_nil{h:A5}{n m:Nat}{l:List Int}(b:Bool)(e:h[n]?=some ⟨.lst,l.map W.int⟩)(BX:h[m]?=some ⟨.lst,[]⟩):Au b (.ref n) (.ref m) h=.ok (.AL (if b then l.isEmpty else !l.isEmpty),h):=by unfold Au;rw[WK 7 e,WK (l:=[]) 7 BX];cases l<;>simp[eqT,G8]
end C0
namespace FU
open PySem PySem.Spec B6 C0
def FT(b:List Cu):O:=⟨.lst,b.map ER⟩
def IT(a n:Nat):List W:=(CW n).map λi=>.ref (a+i)
def mV(a n:Nat):IT a (n+1)=IT a n++[.ref (a+n)]:=by simp[IT,Wx]
def mU(a n:Nat):(IT a n).length=n:=by simp[IT]
def ZU:List W:=[.int 1,.int 2,.int 3,.int 0,.int 2,.int 4,.int 12]
def acF(z:Int):∃k m:Nat,z%7=(k:Int)/\ZU[k]?=some (.int (m:Int))/\m<=12:=by
 have h:z%7=0\/z%7=1\/z%7=2\/z%7=3\/z%7=4\/z%7=5\/z%7=6:=by lia
 rcases h with h|h|h|h|h|h|h<;>rw[h]
 .exact⟨0,1,rfl,rfl,by lia⟩
 .exact⟨1,2,rfl,rfl,by lia⟩
 .exact⟨2,3,rfl,rfl,by lia⟩
 .exact⟨3,0,rfl,rfl,by lia⟩
 .exact⟨4,2,rfl,rfl,by lia⟩
 .exact⟨5,4,rfl,rfl,by lia⟩
 .exact⟨6,12,rfl,rfl,by lia⟩
def Dk(a n:Nat)(s:Int)(b:Nat)(s4 s5 s6:Option W):B9:=[some (.ref a),some (.ref n),some (.int s),some (.ref b),s4,s5,s6]
def YF:B3:=Dw 1 [5,1,4,2] (Dc (Z (I 6) A1)) (AD 0) (pu true) (Ah 3 VO (Z (I 1) (Z (A0 addW (A0 addW (pu (.int 4)) (I 4)) (A0 HY (pu (.int 3)) (I 0))) (Z (A0 AA (I 2) (I 3)) A1))))
def ach{cs:List Nat}(FI:∀c∈cs,1<=c/\c<=4){H:A5}{a n b j s m:Nat}{z:Int}(As:H[n]?=some ⟨.lst,Br cs⟩)(Ap:j<cs.length)(AN:s<=1)(hm:m<=12) :
  ∃BU,LB (cs.getD j 0) BU/\YF (Dk a n s b (some (.int (j:Int))) (some (.int z)) (some (.int (m:Int)))) H=.ok (.ref H.length,H++[FT BU]):=by
 have c:=i8 FI Ap;have ex:∀k:Nat,∃y:Int,k<=12->∀h,EQ [.int z,.int ((4+s+3*k:Nat):Int)] h=.ok (.int y,h):=λk=>by
  by_cases AO:k<=12
  .obtain⟨y,e⟩:=Nq z (4+s+3*k) (by lia);exact⟨y,λ_=>e⟩
  .exact⟨0,λh=>absurd h AO⟩
 refine⟨(CW m).map λk=>rowOf (ex k).choose (cs.getD j 0),⟨by simpa using hm,λr B7=>?_⟩,?_⟩
 .obtain⟨k,_,rfl⟩:=List.mem_map.mp B7;exact ace _ c.1
 .unfold YF;rw[UM (ρ:=Dk a n s b (some (.int (j:Int))) (some (.int z)) (some (.int (m:Int)))) (h:=H) (h0:=H) 0 m (λk=>ER (rowOf (ex k).choose (cs.getD j 0))) (by lia) (LG (n:=m) (by simp[Dk]) (by lia)) (λk AO acc=>by
   have EO:AA (.ref n) (.int (j:Int)) (H++[⟨.lst,acc⟩])=.ok (.int (cs.getD j 0:Nat),H++[⟨.lst,acc⟩]):=GZ (Ch H As _) (UN Ap);have e:=acf (ex k|>.choose_spec (by lia)) c.1 c.2 (H++[⟨.lst,acc⟩]);have FH:LC 3 (k:Int):=.inl (by decide);have DG:(4:Int)+(s:Int)+3*(0+(k:Int))=((4+s+3*k:Nat):Int):=by lia
   simp only[Dk,D3,Hq,List.getD_cons_succ,List.getD_cons_zero,IW,CM,Bg,v_var,Bw,Ce,DM,ED,Ci,A3,MW,zT,Int.zero_add,if_pos FH,EO];rw[show(4:Int)+(s:Int)+3*(k:Int)=((4+s+3*k:Nat):Int)by lia];simp only[Df,Es,Gr,if_true,e])]
  simp[FT,P8]
noncomputable def fc:Am:=AQ (Ac (A0 addW (I 5) (A0 HY (pu (.int 3)) (I 4))) (AD 5))
    (AQ (Ac (Bb (A0 AA (By (Z (pu (.int 1)) (Z (pu (.int 2)) (Z (pu (.int 3)) (Z (pu (.int 0)) (Z (pu (.int 2)) (Z (pu (.int 4)) (Z (pu (.int 12)) A1)))))))) (A0 BV (Ah 2 EQ (Z (I 5) (Z (pu (.int 3)) A1))) (pu (.int 7))))) (AD 6))
    (HJ (EP FS (I 3) (Z YF A1))))
def fe:Am:=HJ (EP FS (I 3) (Z (Ah 2 TS (Z (A0 BV (A0 CY (I 5) (pu (.int 2))) (A0 OV (pu (.int 10)) (pu (.int 60)))) (Z (A0 AA (I 1) (I 4)) A1))) A1))
noncomputable def YE:Am:=AQ (Ac (A0 addW (A0 addW (pu (.int 17)) (A0 HY (pu (.int 5)) (I 4))) (I 2)) (AD 5))
    (AQ (Bh (Ho (AY (A0 (Au false) (I 0) (By A1)))) (Ac (A0 AA (I 0) (A0 BV (A0 addW (I 4) (I 2)) (Az BO (Z (I 0) A1)))) (AD 5)) Bd)
    (Bh (Ho (Fl (AY (A0 (Au false) (I 0) (By A1))) (AY (A0 (Au true) (A0 BV (I 5) (pu (.int 2))) (pu (.int 1)))))) fe fc))
def iZ{cs:List Nat}(FI:∀c∈cs,1<=c/\c<=4){H:A5}{a n b j s:Nat}{z:Int}(As:H[n]?=some ⟨.lst,Br cs⟩)(Ap:j<cs.length)(AN:s<=1){ws:List W}(BF:H[b]?=some ⟨.lst,ws⟩)(lw:ws.length<100)(s6:Option W):∃BU d7 cT,LB (cs.getD j 0) BU/\fc (Dk a n s b (some (.int (j:Int))) (some (.int z)) s6) H=.ok (.AR (Dk a n s b (some (.int (j:Int))) d7 cT),(H++[FT BU]).set b ⟨.lst,ws++[.ref H.length]⟩):=by
 obtain⟨y,DP⟩:=Nq (z+3*(j:Int)) 3 (by lia);have DP:∀h,EQ [.int (z+3*(j:Int)),.int 3] h=.ok (.int y,h):=DP;obtain⟨k,m,DG,u2,hm⟩:=acF y;obtain⟨BU,A2,B5⟩:=ach (a:=a) (b:=b) (z:=z+3*(j:Int)) FI As Ap AN hm;refine⟨BU,some (.int (z+3*(j:Int))),some (.int (m:Int)),A2,?_⟩;have FH:LC 3 (j:Int):=.inl (by decide);have EO:AA (.ref H.length) (.int (k:Int)) (H++[⟨.lst,ZU⟩])=.ok (.int (m:Int),H++[⟨.lst,ZU⟩]):=GZ (by simp) u2;have s1:Ac (A0 addW (I 5) (A0 HY (pu (.int 3)) (I 4))) (AD 5) (Dk a n s b (some (.int (j:Int))) (some (.int z)) s6) H=.ok (.AR (Dk a n s b (some (.int (j:Int))) (some (.int (z+3*(j:Int)))) s6),H):=by simp[Dk,FH]
 have s2:Ac (Bb (A0 AA (By (Z (pu (.int 1)) (Z (pu (.int 2)) (Z (pu (.int 3)) (Z (pu (.int 0)) (Z (pu (.int 2)) (Z (pu (.int 4)) (Z (pu (.int 12)) A1)))))))) (A0 BV (Ah 2 EQ (Z (I 5) (Z (pu (.int 3)) A1))) (pu (.int 7))))) (AD 6) (Dk a n s b (some (.int (j:Int))) (some (.int (z+3*(j:Int)))) s6) H=.ok (.AR (Dk a n s b (some (.int (j:Int))) (some (.int (z+3*(j:Int)))) (some (.int (m:Int)))),H):=by simp only[ZU]at EO;simp[Dk,nw,B0,DP,DG,EO]
 have s3:EP FS (I 3) (Z YF A1) (Dk a n s b (some (.int (j:Int))) (some (.int (z+3*(j:Int)))) (some (.int (m:Int)))) H=.ok (.non,(H++[FT BU]).set b ⟨.lst,ws++[.ref H.length]⟩):=
  Mz (ws:=ws) (ws2:=ws) (us:=[.ref H.length]) (h1:=H) (h2:=H++[FT BU]) (by simp[Dk]) BF (by rw[CM,B5];rfl) (Ch H BF _) (by simp[FS]) (by simp[B0];lia)
 unfold fc;rw[B4,s1,A3,BA,B4,s2,A3,BA,Mg,s3,A3]
def zU{cs:List Nat}(FI:∀c∈cs,1<=c/\c<=4){H:A5}{a n b j s:Nat}{z:Int}(As:H[n]?=some ⟨.lst,Br cs⟩)(Ap:j<cs.length)(AN:s<=1){ws:List W}(BF:H[b]?=some ⟨.lst,ws⟩)(lw:ws.length<100)(s6:Option W):∃BU,LB (cs.getD j 0) BU/\fe (Dk a n s b (some (.int (j:Int))) (some (.int z)) s6) H=.ok (.AR (Dk a n s b (some (.int (j:Int))) (some (.int z)) s6),(H++[FT BU]).set b ⟨.lst,ws++[.ref H.length]⟩):=by
 have c:=i8 FI Ap;obtain⟨N,hN⟩:∃N:Int,z/2%1000000000000000000000000000000000000000000000000000000000000=N:=⟨_,rfl⟩;obtain⟨BU,A2,C8⟩:=uM N c.1 c.2 H;have EO:AA (.ref n) (.int (j:Int)) H=.ok (.int (cs.getD j 0:Nat),H):=GZ As (UN Ap);refine⟨BU,A2,?_⟩;have s3:EP FS (I 3) (Z (Ah 2 TS (Z (A0 BV (A0 CY (I 5) (pu (.int 2))) (A0 OV (pu (.int 10)) (pu (.int 60)))) (Z (A0 AA (I 1) (I 4)) A1))) A1) (Dk a n s b (some (.int (j:Int))) (some (.int z)) s6) H=.ok (.non,(H++[FT BU]).set b ⟨.lst,ws++[.ref H.length]⟩):=
  Mz (ws:=ws) (ws2:=ws) (us:=[.ref H.length]) (h1:=H) (h2:=H++[FT BU]) (by simp[Dk]) BF (by simp[Dk,a5,hN,EO,C8,FT,-EW]) (Ch H BF _) (by simp[FS]) (by simp[B0];lia)
 unfold fe;rw[Mg,s3,A3]
def rf{cs:List Nat}(FI:∀c∈cs,1<=c/\c<=4){H:A5}{a n b j s:Nat}(As:H[n]?=some ⟨.lst,Br cs⟩)(Ap:j<cs.length)(AN:s<=1){ws:List W}(BF:H[b]?=some ⟨.lst,ws⟩)(lw:ws.length<100){l:List Int}(BY:H[a]?=some ⟨.lst,Ay l⟩)(s5 s6:Option W):∃BU d7 cT,LB (cs.getD j 0) BU/\YE (Dk a n s b (some (.int (j:Int))) s5 s6) H=.ok (.AR (Dk a n s b (some (.int (j:Int))) d7 cT),(H++[FT BU]).set b ⟨.lst,ws++[.ref H.length]⟩):=by
 have Uy:LC 5 (j:Int):=.inl (by decide);have s1:Ac (A0 addW (A0 addW (pu (.int 17)) (A0 HY (pu (.int 5)) (I 4))) (I 2)) (AD 5) (Dk a n s b (some (.int (j:Int))) s5 s6) H=.ok (.AR (Dk a n s b (some (.int (j:Int))) (some (.int (17+5*(j:Int)+s))) s6),H):=by simp[Dk,Uy]
 have q:Au false (.ref a) (.ref H.length) (H++[⟨.lst,[]⟩])=.ok (.AL (!l.isEmpty),H++[⟨.lst,[]⟩]):=eq_nil false (Ch H BY _) (by simp);unfold YE;rw[B4,s1,A3,BA];cases l with
 |nil=>
  obtain⟨BU,Me,Lw,A2,e⟩:=iZ (a:=a) (z:=17+5*(j:Int)+s) FI As Ap AN BF lw s6;refine⟨BU,Me,Lw,A2,?_⟩;have t1:Ho (AY (A0 (Au false) (I 0) (By A1))) (Dk a n s b (some (.int (j:Int))) (some (.int (17+5*(j:Int)+s))) s6) H=.ok (false,H):=by simp[Dk,nw,q]
  have Cb:Ho (Fl (AY (A0 (Au false) (I 0) (By A1))) (AY (A0 (Au true) (A0 BV (I 5) (pu (.int 2))) (pu (.int 1))))) (Dk a n s b (some (.int (j:Int))) (some (.int (17+5*(j:Int)+s))) s6) H=.ok (false,H):=by simp[Dk,nw,q]
  rw[B4,Dj,t1,A3,if_neg (by simp),Fg,A3,BA,Dj,Cb,A3,if_neg (by simp),e]
 |cons x l=>
  obtain⟨k,AO,DG⟩:=Jo ((j:Int)+s) (n:=(x::l).length) (by simp);have EO:AA (.ref a) (.int (k:Int)) H=.ok (.int (x::l)[k],H):=GZ BY (by simp only[Ay];rw[Ed,Cc AO];rfl);obtain⟨v,ev⟩:∃v,v=(x::l)[k]:=⟨_,rfl⟩;rw[<-ev]at EO;have t1:Ho (AY (A0 (Au false) (I 0) (By A1))) (Dk a n s b (some (.int (j:Int))) (some (.int (17+5*(j:Int)+s))) s6) H=.ok (true,H):=by simp[Dk,nw,q]
  have uA:((j:Int)+s)%((Ay (x::l)).length:Int)=(k:Int):=by rw[<-DG];simp[Ay]
  have BL:(0:Int)<((Ay (x::l)).length:Int):=by simp only[Ay,CS,Df];lia
  have s2:Ac (A0 AA (I 0) (A0 BV (A0 addW (I 4) (I 2)) (Az BO (Z (I 0) A1)))) (AD 5) (Dk a n s b (some (.int (j:Int))) (some (.int (17+5*(j:Int)+s))) s6) H=.ok (.AR (Dk a n s b (some (.int (j:Int))) (some (.int v)) s6),H):=by simp only[Dk,Do,Bg,G1,CM,Ce,v_var,DM,ED,Ci,A3,MW,GL BY,Kh,if_pos BL,uA,EO];rfl
  rw[B4,Dj,t1,A3,if_pos rfl,s2,A3,BA,Dj];by_cases ho:v%2=1
  .obtain⟨BU,A2,e⟩:=zU (a:=a) (z:=v) FI As Ap AN BF lw s6;refine⟨BU,some (.int v),s6,A2,?_⟩;have Cb:Ho (Fl (AY (A0 (Au false) (I 0) (By A1))) (AY (A0 (Au true) (A0 BV (I 5) (pu (.int 2))) (pu (.int 1))))) (Dk a n s b (some (.int (j:Int))) (some (.int v)) s6) H=.ok (true,H):=by
    simp[Dk,nw,q,ho]
   rw[Cb,A3,if_pos rfl,e]
  .obtain⟨BU,Me,Lw,A2,e⟩:=iZ (a:=a) (z:=v) FI As Ap AN BF lw s6;refine⟨BU,Me,Lw,A2,?_⟩;have Cb:Ho (Fl (AY (A0 (Au false) (I 0) (By A1))) (AY (A0 (Au true) (A0 BV (I 5) (pu (.int 2))) (pu (.int 1))))) (Dk a n s b (some (.int (j:Int))) (some (.int v)) s6) H=.ok (false,H):=by
    simp[Dk,nw,q,ho]
   rw[Cb,A3,if_neg (by simp),e]
def uy{α:Type}{l r:List α}{d:α}{i:Nat}(h:i<l.length):(l++r).getD i d=l.getD i d:=by rw[EW,Gs h,<-EW]
def w7{α:Type}{l:List α}{x d:α}:(l++[x]).getD l.length d=x:=by rw[EW];simp
structure EX(h:A5)(n:Nat)(B:List (List Cu)):Prop where
 ex:∃rs:List Nat,h[n]?=some ⟨.lst,rs.map W.ref⟩/\rs.length=B.length/\∀(i r:Nat),rs[i]?=some r->h[r]?=some (FT (B.getD i []))
def HR(cs:List Nat)(B:List (List Cu)):Prop:=B.length=cs.length/\∀i,i<cs.length->LB (cs.getD i 0) (B.getD i [])
def hc{cs:List Nat}(h1:1<=cs.length)(FD:cs.length<=6)(FI:∀c∈cs,1<=c/\c<=4){h:A5}{a n s:Nat}{l:List Int}(AN:s<=1)(As:h[n]?=some ⟨.lst,Br cs⟩)(BY:h[a]?=some ⟨.lst,Ay l⟩) :
  ∃B,HR cs B/\MU [.ref a,.ref n,.int s] h=.ok (.ref h.length,h++(⟨.lst,IT (h.length+1) cs.length⟩::B.map FT)):=by
 have lcs:(Br cs).length=cs.length:=by simp[Br]
 have BL:=RV (mi:=Dc (Z (Az BO (Z (I 1) A1)) A1)) (g:=AD 4) (b:=YE) (ρ:=Dk a n s h.length none none none) (h:=h++[⟨.lst,[]⟩]) (h0:=h++[⟨.lst,[]⟩]) 0 cs.length (by lia)
  (λj ρ h'=>∃B s4 s5 s6,B.length=j/\(∀i,i<j->LB (cs.getD i 0) (B.getD i []))/\ρ=Dk a n s h.length s4 s5 s6/\h'=h++(⟨.lst,IT (h.length+1) j⟩::B.map FT))
  (T:=λf h'=>∃B s4 s5 s6,HR cs B/\f=.AR (Dk a n s h.length s4 s5 s6)/\h'=h++(⟨.lst,IT (h.length+1) cs.length⟩::B.map FT))
  (LG (n:=cs.length) (by simp[Dk,GL (Ch h As _),lcs]) (by lia)) ⟨[],none,none,none,rfl,λi AB=>by lia,rfl,by simp[IT]⟩ ?_ ?_
 .obtain⟨f,h',C8,B,s4,s5,s6,Gn,rfl,rfl⟩:=BL.H5;refine⟨B,Gn,?_⟩;have e:MU [.ref a,.ref n,.int s] h=(AQ (Ac (By A1) (AD 3)) (AQ (F2 (Dc (Z (Az BO (Z (I 1) A1)) A1)) (AD 4) YE) (B2 (I 3))) [some (.ref a),some (.ref n),some (.int s),none,none,none,none] h).bind outF:=rfl;have s1:Ac (By A1) (AD 3) [some (.ref a),some (.ref n),some (.int s),none,none,none,none] h=.ok (.AR (Dk a n s h.length none none none),h++[⟨.lst,[]⟩]):=by
   simp only[Do,Mh,Ce,A3,H_ h (show([]:List W).length<=B0 by simp)];rfl
  rw[e,B4,s1,A3,BA,B4,Ly,C8,A3,BA];rfl
 .rintro j _ _ Ap ⟨B,s4,s5,s6,AG,Gn,rfl,rfl⟩;obtain⟨H,Cg⟩:∃H,H=h++(⟨.lst,IT (h.length+1) j⟩::B.map FT):=⟨_,rfl⟩;have Nk:H.length=h.length+1+j:=by rw[Cg];simp[AG];lia
  refine⟨Dk a n s h.length (some (.int (j:Int))) s5 s6,H,by rw[Cg];simp[Dk],?_⟩;obtain⟨BU,Me,Lw,A2,e⟩:=rf (H:=H) (a:=a) (n:=n) (l:=l) (b:=h.length) FI (by rw[Cg];exact Ch h As _) Ap AN (ws:=IT (h.length+1) j) (by rw[Cg];simp) (by rw[mU];lia) (by rw[Cg];exact Ch h BY _) s5 s6;refine⟨_,_,e,B++[BU],_,Me,Lw,by simp[AG],λi AB=>?_,rfl,?_⟩
  .by_cases Q2:i<j
   .rw[uy (by lia)];exact Gn i Q2
   .have:i=j:=by lia
    subst this;rw[<-AG,w7];rw[AG];exact A2
  .rw[Nk,Cg,F6,SU];simp[mV]
 .rintro _ _ ⟨B,s4,s5,s6,AG,Gn,rfl,rfl⟩;exact⟨B,s4,s5,s6,⟨AG,Gn⟩,rfl,rfl⟩
def EX.more{h:A5}{n:Nat}{B:List (List Cu)}(b:EX h n B)(g:A5):EX (h++g) n B:=by obtain⟨rs,e,l,r⟩:=b.ex;exact⟨rs,Ch h e g,l,λi q AX=>Ch h (r i q AX) g⟩
def h_{B:List (List Cu)}{m:Nat}(AG:B.length=m)(h:A5):EX (h++(⟨.lst,IT (h.length+1) m⟩::B.map FT)) h.length B:=by
 refine⟨(CW m).map λi=>h.length+1+i,by simp[IT,P8],by simp[AG],λi r e=>?_⟩;rw[Ed]at e;by_cases AB:i<m
 .rw[Tr AB]at e;cases e;show(h++_)[h.length+1+i]?=_;rw[show h.length+1+i=h.length+(i+1)by lia,Q1];simp[EW,show i<B.length by lia]
 .rw[JV (by simpa using AB)]at e;cases e
def bL(ns:List Int)(lo AB:Option Int):∃l,Gy (Ay ns) lo AB=Ay l:=by unfold Gy Ay;exact⟨_,by rw[<-f5,<-X8]⟩
def h8(ws:List W)(lo AB:Option Int):(Gy ws lo AB).length<=ws.length:=by unfold Gy;simp;lia
@[simp] theorem VY(ns:List Int):Fm (Ay ns)=true:=HK _ _ λa=>by simp
def Mi(m:B3)(lo AB:Qf)(ρ:B9)(h:A5):D5 m lo AB ρ h=(m ρ h).bind λp=>(lo ρ p.2).bind λl=>(AB ρ l.2).bind λu=>Lu p.1 l.1 u.1 ρ u.2:=rfl
def Vy(i:Int)(ρ:B9)(h:A5):CE (pu (.int i)) ρ h=.ok (some i,h):=rfl
def h9{ns:List Int}(AG:ns.length<=63)(h:A5)(lo:Option Int)(AB:Option Int)(ρ:B9):∃l:List Int,l.length<=63/\Lu (.DV (Ay ns)) lo AB ρ h=.ok (.ref h.length,h++[⟨.lst,Ay l⟩]):=by
 obtain⟨l,e⟩:=bL ns lo AB;have:=h8 (Ay ns) lo AB;rw[e]at this;have Hn:l.length<=63:=by simp[Ay]at this;lia
 refine⟨l,Hn,?_⟩;unfold Lu;rw[ZY];dsimp only;rw[e,H_ h (by simp[Ay,B0];lia)]
noncomputable def YR:Am:=Bh (AY (A0 (Au true) (A0 BV (Ah 2 EQ (Z (Ah 2 Lo (Z (I 0) (Z (pu (.int 1)) A1))) (Z (I 4) A1))) (pu (.int 4))) (pu (.int 0)))) (Ac (Az Fk (Z (A0 AA (I 2) (I 4)) A1)) (SO (I 3) (I 4))) Bd
def K4(ns:List Int)(n a b:Nat)(s4:Option W):B9:=[some (.DV (Ay ns)),some (.ref n),some (.ref a),some (.ref b),s4]
def yM{m k:Nat}(h:k<m):Lk m (k:Int)=some k:=by unfold Lk;simp[h]
def rl{ns:List Int}(AG:ns.length<=63){cs:List Nat}(h1:1<=cs.length)(FD:cs.length<=6)(FI:∀c∈cs,1<=c/\c<=4){h:A5}{n:Nat}(As:h[n]?=some ⟨.lst,Br cs⟩) :
  ∃a b g A B,HR cs A/\HR cs B/\EX (h++g) a A/\EX (h++g) b B/\VM [.DV (Ay ns),.ref n] h=.ok (.tup [.ref a,.ref b],h++g):=by
 have lcs:(Br cs).length=cs.length:=by simp[Br]
 obtain⟨CZ,cC,Bk⟩:=h9 AG h (some 2) (some 9) [some (.DV (Ay ns)),some (.ref n),none,none,none];obtain⟨A,Hm,NE⟩:=hc h1 FD FI (s:=0) (by lia) (Ch h As ([⟨.lst,Ay CZ⟩]:A5)) (a:=h.length) (l:=CZ) (by simp);obtain⟨H1,q1⟩:∃H1,H1=(h++([⟨.lst,Ay CZ⟩]:A5))++(⟨.lst,IT ((h++([⟨.lst,Ay CZ⟩]:A5)).length+1) cs.length⟩::A.map FT):=⟨_,rfl⟩;have E3:h<+: H1:=by rw[q1,F6];exact G4 _ _
 have MN:EX H1 (h++([⟨.lst,Ay CZ⟩]:A5)).length A:=by rw[q1];exact h_ Hm.1 _
 rw[<-q1]at NE;obtain⟨CN,SY,Co⟩:=h9 AG H1 (some 9) (some 16) [some (.DV (Ay ns)),some (.ref n),some (.ref (h++([⟨.lst,Ay CZ⟩]:A5)).length),none,none];obtain⟨B,Gn,PP⟩:=hc h1 FD FI (s:=1) (by lia) (Ch H1 (FM E3 As) [⟨.lst,Ay CN⟩]) (a:=H1.length) (l:=CN) (by simp);obtain⟨AS,q2⟩:∃AS,AS=(H1++([⟨.lst,Ay CN⟩]:A5))++(⟨.lst,IT ((H1++([⟨.lst,Ay CN⟩]:A5)).length+1) cs.length⟩::B.map FT):=⟨_,rfl⟩;have Ct:H1<+: AS:=by rw[q2,F6];exact G4 _ _
 have rY:EX AS (h++([⟨.lst,Ay CZ⟩]:A5)).length A:=by rw[q2,F6];exact MN.more _
 have O4:EX AS (H1++([⟨.lst,Ay CN⟩]:A5)).length B:=by rw[q2];exact h_ Gn.1 _
 rw[<-q2]at PP;obtain⟨a,BY⟩:∃a,a=(h++([⟨.lst,Ay CZ⟩]:A5)).length:=⟨_,rfl⟩;obtain⟨b,BF⟩:∃b,b=(H1++([⟨.lst,Ay CN⟩]:A5)).length:=⟨_,rfl⟩;rw[<-BY]at NE MN rY Co;rw[<-BF]at PP O4;have JH:H1.length<=b:=by rw[BF];simp
 have BL:=RV (mi:=Dc (Z (Az BO (Z (I 1) A1)) A1)) (g:=AD 4) (b:=YR) (ρ:=K4 ns n a b none) (h:=AS) (h0:=AS) 0 cs.length (by lia)
  (λj ρ h'=>∃C s4,HR cs C/\ρ=K4 ns n a b s4/\H1<+: h'/\EX h' b C)
  (T:=λf h'=>∃C s4,HR cs C/\f=.AR (K4 ns n a b s4)/\H1<+: h'/\EX h' b C)
  (LG (n:=cs.length) (by simp[K4,GL (FM Ct (FM E3 As)),lcs]) (by lia)) ⟨B,none,Gn,rfl,Ct,O4⟩ ?_ ?_
 .obtain⟨f,h',C8,C,s4,JE,rfl,HM,Sm⟩:=BL.H5;obtain⟨g,rfl⟩:=E3.trans HM;obtain⟨g3,Dh⟩:=HM;refine⟨a,b,g,A,C,Hm,JE,by rw[<-Dh];exact MN.more _,Sm,?_⟩
  have e:VM [.DV (Ay ns),.ref n] h=(AQ (Ac (Ah 3 MU (Z (Bb (D5 (I 0) (CE (pu (.int 2))) (CE (pu (.int 9))))) (Z (I 1) (Z (pu (.int 0)) A1)))) (AD 2))
   (AQ (Ac (Ah 3 MU (Z (Bb (D5 (I 0) (CE (pu (.int 9))) (CE (pu (.int 16))))) (Z (I 1) (Z (pu (.int 1)) A1)))) (AD 3))
   (AQ (F2 (Dc (Z (Az BO (Z (I 1) A1)) A1)) (AD 4) YR) (B2 (BQ (Z (I 2) (Z (I 3) A1)))))) [some (.DV (Ay ns)),some (.ref n),none,none,none] h).bind outF:=rfl
  have u4:MU [.ref h.length,.ref n,.int 0] (h++([⟨.lst,Ay CZ⟩]:A5))=.ok (.ref a,H1):=NE;have u5:MU [.ref H1.length,.ref n,.int 1] (H1++([⟨.lst,Ay CN⟩]:A5))=.ok (.ref b,AS):=PP;have s1:Ac (Ah 3 MU (Z (Bb (D5 (I 0) (CE (pu (.int 2))) (CE (pu (.int 9))))) (Z (I 1) (Z (pu (.int 0)) A1)))) (AD 2) [some (.DV (Ay ns)),some (.ref n),none,none,none] h=.ok (.AR [some (.DV (Ay ns)),some (.ref n),some (.ref a),none,none],H1):=by simp only[Do,IW,CM,FO,Mi,Vy,v_var,Bw,Ce,DM,ED,Ci,A3,Bk,Po h [⟨.lst,Ay CZ⟩] rfl (VY CZ),Df,Es,Gr,if_true,u4];rfl
  have s2:Ac (Ah 3 MU (Z (Bb (D5 (I 0) (CE (pu (.int 9))) (CE (pu (.int 16))))) (Z (I 1) (Z (pu (.int 1)) A1)))) (AD 3) [some (.DV (Ay ns)),some (.ref n),some (.ref a),none,none] H1=.ok (.AR (K4 ns n a b none),AS):=by simp only[Do,IW,CM,FO,Mi,Vy,v_var,Bw,Ce,DM,ED,Ci,A3,Co,Po H1 [⟨.lst,Ay CN⟩] rfl (VY CN),Df,Es,Gr,if_true,u5];rfl
  rw[e,B4,s1,A3,BA,B4,s2,A3,BA,B4,Ly,C8,A3,BA];rfl
 .rintro j _ H Ap ⟨C,s4,JE,rfl,HM,Sm⟩;refine⟨K4 ns n a b (some (.int (j:Int))),H,by simp[K4],?_⟩;obtain⟨c,ec⟩:=gs H ns 1;have ec:Lo [.DV (Ay ns),.int 1] H=.ok (.int c,H):=ec;obtain⟨y,DP⟩:=Nq c j (by lia);by_cases Cs:y%4=0
  .obtain⟨BR,A9,HI,ga⟩:=MN.ex;obtain⟨rb,AF,kN,uV⟩:=Sm.ex;have j8:j<BR.length:=by rw[HI,Hm.1];exact Ap
   have j9:j<rb.length:=by rw[kN,JE.1];exact Ap
   have f1:=FM HM A9;have f2:=FM HM (ga j BR[j] (Cc j8));have EO:AA (.ref a) (.int (j:Int)) H=.ok (.ref BR[j],H):=GZ f1 (by rw[Ed,Cc j8];rfl);have AL:((A.getD j []).map ER).length<=B0:=by have:=(Hm.2 j Ap).1;rw[CS];unfold B0;lia
   have ls:Fk [.ref BR[j]] H=.ok (.ref H.length,H++[FT (A.getD j [])]):=by unfold Fk;simp only[IB H f2];exact H_ H AL
   have Nk:b<H.length:=FW AF;refine⟨.AR (K4 ns n a b (some (.int (j:Int)))),(H++[FT (A.getD j [])]).set b ⟨.lst,(rb.set j H.length).map W.ref⟩,?_,C.set j (A.getD j []),_,⟨by simp[JE.1],λi AB=>?_⟩,rfl,WH (Ha HM _) JH _,⟨rb.set j H.length,IU (Ch H AF _),by simp[kN],λi r B5=>?_⟩⟩
   .unfold YR;have aX:=Ch H AF [FT (A.getD j [])];have t:AY (A0 (Au true) (A0 BV (Ah 2 EQ (Z (Ah 2 Lo (Z (I 0) (Z (pu (.int 1)) A1))) (Z (I 4) A1))) (pu (.int 4))) (pu (.int 0))) (K4 ns n a b (some (.int (j:Int)))) H=.ok (true,H):=by
     simp[K4,ec,DP,Cs]
    rw[Dj,t,A3,if_pos rfl];simp only[K4,Do,G1,CM,Bg,v_var,Ce,DM,ED,Ci,A3,EO,ls,SO,IV,a6,Nm _ aX,CS,yM j9,List.map_set]
   .by_cases Q2:j=i
    .subst Q2;have:(C.set j (A.getD j [])).getD j []=A.getD j []:=by
      rw[EW,JU (by rw[JE.1];exact Ap)];rfl
     rw[this];exact Hm.2 j Ap
    .have:(C.set j (A.getD j [])).getD i []=C.getD i []:=by
       rw[EW,M7 Q2,<-EW]
     rw[this];exact JE.2 i AB
   .by_cases Q2:j=i
    .subst Q2;rw[JU j9]at B5;cases B5;have:(C.set j (A.getD j [])).getD j []=A.getD j []:=by
      rw[EW,JU (by rw[JE.1];exact Ap)];rfl
     rw[this,F5 (by lia)];simp
    .rw[M7 Q2]at B5;have:(C.set j (A.getD j [])).getD i []=C.getD i []:=by
      rw[EW,M7 Q2,<-EW]
     have g:=uV i r B5;have nb:b≠r:=by
      intro z;subst z;rw[AF]at g;have g1:rb.map W.ref=(C.getD i []).map ER:=congrArg O.ws (GU g);obtain⟨x,r,ex⟩:=List.exists_cons_of_length_pos (show 0<rb.length by lia);rw[ex]at g1;cases eq:C.getD i []with
      |nil=>rw[eq]at g1;cases g1
      |cons y s=>rw[eq]at g1;cases(List.cons.inj g1).1
     rw[this,F5 nb];exact Ch H g _
  .refine⟨.AR (K4 ns n a b (some (.int (j:Int)))),H,?_,C,_,JE,rfl,HM,Sm⟩;unfold YR;have t:AY (A0 (Au true) (A0 BV (Ah 2 EQ (Z (Ah 2 Lo (Z (I 0) (Z (pu (.int 1)) A1))) (Z (I 4) A1))) (pu (.int 4))) (pu (.int 0))) (K4 ns n a b (some (.int (j:Int)))) H=.ok (false,H):=by
    simp[K4,ec,DP,Cs]
   rw[Dj,t,A3,if_neg (by simp)];rfl
 .rintro _ h' ⟨C,s4,JE,rfl,HM,Sm⟩;exact⟨C,s4,JE,rfl,HM,Sm⟩
end FU
namespace C0
open PySem PySem.Spec B6
theorem bD{α:Type}(p:α->Bool):∀l:List α,bools (l.map λa=>W.AL (p a))=some (l.map p)
 |[]=>rfl
 |a::l=>by simp[bools,bD p l]
def fY{mi:Fv}{it:Gk}{g:D9}{e:B3}{ρ:B9}{h:A5}{nl:Nat}{caps:List Nat}(ws:List W)(p:W->Bool)(BK:B9->Prop)(AG:ws.length<1000)(AB:mi ρ h=.ok (it,h))(GK:BK (PJ nl caps ρ))(hit:∀j acc,j<=ws.length->it j (h++[⟨.lst,acc⟩])=some ws[j]?)(DY:∀w∈ws,∀ρ acc,BK ρ->∃CI,g w ρ (h++[⟨.lst,acc⟩])=.ok (.AR CI,h++[⟨.lst,acc⟩])/\BK CI/\e CI (h++[⟨.lst,acc⟩])=.ok (.AL (p w),h++[⟨.lst,acc⟩])) :
  Az (I9 true) (Z (Dw nl caps mi g (pu true) e) A1) ρ h=.ok (.AL (ws.all p),h++[⟨.lst,ws.map λw=>.AL (p w)⟩]):=by
 have c:=UL (mi:=mi) (it:=it) (g:=g) (t:=pu true) (e:=e) (ρ:=ρ) (h:=h) (h0:=h) (nl:=nl) (caps:=caps) ws (λ_=>true) (λw=>.AL (p w)) BK AG AB GK hit λw hw ρ acc j=>by obtain⟨CI,A9,Jk,AF⟩:=DY w hw ρ acc j;exact⟨CI,A9,Jk,rfl,λ_=>AF⟩
 rw[List.filter_eq_self.mpr (λ_ _=>rfl)]at c;have q:EC (h++[⟨.lst,ws.map λw=>W.AL (p w)⟩]) (.ref h.length)=some (false,ws.map λw=>W.AL (p w)):=IB _ (by simp);simp only[G1,CM,Ce,c,A3,I9,q,bD p ws,if_true];rw[Rx];rfl
def aD{mi:Fv}{it:Gk}{g:D9}{e:B3}{ρ:B9}{h:A5}{nl:Nat}{caps:List Nat}(ws:List W)(BK:B9->Prop)(AG:ws.length<1000)(AB:mi ρ h=.ok (it,h))(GK:BK (PJ nl caps ρ))(hit:∀j acc,j<=ws.length->it j (h++[⟨.lst,acc⟩])=some ws[j]?)(DY:∀w∈ws,∀ρ acc,BK ρ->∃CI,g w ρ (h++[⟨.lst,acc⟩])=.ok (.AR CI,h++[⟨.lst,acc⟩])/\BK CI/\e CI (h++[⟨.lst,acc⟩])=.ok (.AL true,h++[⟨.lst,acc⟩])) :
  Bb (Az (I9 true) (Z (Dw nl caps mi g (pu true) e) A1)) ρ h=.ok (.AL true,h):=by
 rw[FO,fY ws (λ_=>true) BK AG AB GK hit DY,List.all_eq_true.mpr (λ_ _=>rfl)];simp
def aeI{x:Str}{j:Nat}(h:A5)(Ap:j<=x.cps.toList.length):Qr x j h=some (x.cps.toList.map λc=>W.str ⟨#[c]⟩)[j]?:=by
 unfold Qr;rw[QH]at Ap;by_cases e:j=x.cps.size
 .rw[if_pos e,Ed,JV (by simp;lia)];rfl
 .rw[if_neg e,Ed,Wg];have:j<x.cps.size:=by lia
  rw[LL this];rfl
def UJ{h:A5}{x y:W}{d:DK}{t:Bool}{ds:List DK}(AP:Gz h y x=none)(A9:DD 7 h x=some d)(AF:DD 8 h y=some (.Dn t ds))(b:Bool):DH b x y h=.ok (.AL (if b then ds.any (λy=>eqT y d)else !ds.any λy=>eqT y d),h):=by unfold DH;rw[AP];unfold YX;rw[A9,AF]
end C0
namespace FU
open PySem PySem.Spec B6 C0
def acP{c:Nat}(s:Kr c)(h:A5):DH true (.str ⟨#[c]⟩) RQ h=.ok (.AL true,h):=by rw[UJ (d:=.str ⟨#[c]⟩) (t:=true) (ds:=[.str (AJ "0"),.str (AJ "1"),.str (AJ "x")]) rfl (by simp[DD]) (by simp[RQ,DD,EC])];rcases s with rfl|rfl|rfl<;>rfl
def str_len(x:Str):x.length=x.cps.toList.length:=rfl
def lQ{x:Str}(p:Qi x)(h:A5):VK [.str x] h=.ok (.AL true,h):=by
 have a:=aD (mi:=E8 (I 0)) (it:=Qr x) (g:=AD 0) (e:=A0 (DH true) (I 0) (pu RQ)) (ρ:=[some (.str x)]) (h:=h) (nl:=1) (caps:=[]) (x.cps.toList.map λc=>W.str ⟨#[c]⟩) (λρ=>∃s,ρ=[s]) (by rw[CS,p.l];lia) (by simp[E8]) ⟨none,rfl⟩ (λj acc Ap=>aeI _ (by simpa using Ap)) (by rintro w hw ρ acc ⟨s,rfl⟩;obtain⟨c,AH,rfl⟩:=List.mem_map.mp hw;exact⟨[some (.str ⟨#[c]⟩)],by simp,⟨_,rfl⟩,by simp[acP (p.s c AH)]⟩)
 have CZ:BO [.str x] h=.ok (.int 4,h):=by unfold BO;dsimp only;rw[str_len,p.l];rfl
 have CN:BO [O6] h=.ok (.int 4,h):=rfl;have BB:Dv "str" (.str x) h=.ok (.AL true,h):=rfl;simp[-FO,VK,fI,BB,CZ,CN,a]
def kD{o:Option Nat}{c:Nat}(AH:∀k,o=some k->k<c)(h:A5):TN [D0 o,.int (c:Int)] h=.ok (.AL true,h):=by
 cases o with
 |none=>simp[TN,Xk,D0,EN,Ng]
 |some k=>have:=AH k rfl;have w:=TD (k:Int) 0 ((c:Int)-1) h;rw[decide_eq_true (show(0:Int)<=(k:Int)by lia),decide_eq_true (show(k:Int)<=(c:Int)-1 by lia)]at w;simp[TN,Xk,D0,EN,Ng,w]
def Qx{ws:List W}{k:Nat}{w:W}(h:A5)(e:ws[k]?=some w):AA (.tup ws) (.int (k:Int)) h=.ok (w,h):=Vf h (T1 h ws) e
def Ff(h:A5)(x:W)(ws:List W):AA (.tup (x::ws)) (.int 0) h=.ok (x,h):=Qx (k:=0) h rfl
def JG(h:A5)(x y:W)(ws:List W):AA (.tup (x::y::ws)) (.int 1) h=.ok (y,h):=Qx (k:=1) h rfl
def Ve(h:A5)(x y z:W)(ws:List W):AA (.tup (x::y::z::ws)) (.int 2) h=.ok (z,h):=Qx (k:=2) h rfl
def Ou(h:A5)(ws:List W):BO [.tup ws] h=.ok (.int ws.length,h):=by simp[BO]
def acg{r:Cu}{c:Nat}(ok:Sh c r)(h:A5):VL [ER r,.int (c:Int)] h=.ok (.AL true,h):=by have BB:Dv "tuple" (ER r) h=.ok (.AL true,h):=rfl;have CZ:BO [ER r] h=.ok (.int 3,h):=Ou h _;have FC:AA (ER r) (.int 0) h=.ok (.str r.p,h):=Ff h _ _;have A9:AA (ER r) (.int 1) h=.ok (D0 r.a,h):=JG h _ _ _;have AF:AA (ER r) (.int 2) h=.ok (D0 r.b,h):=Ve h _ _ _ _;simp[VL,fJ,BB,CZ,FC,A9,AF,lQ ok.p,kD ok.a,kD ok.b]
def Yh{h:A5}{n:Nat}{ws:List W}(e:h[n]?=some ⟨.lst,ws⟩)(g:A5)(j:Nat):GA (.ref n) j (h++g)=some ws[j]?:=PZ (Ch h e g) j
def rJ{b:List Cu}{c:Nat}(ok:LB c b){h:A5}{n:Nat}(As:h[n]?=some (FT b)):VJ [.ref n,.int (c:Int)] h=.ok (.AL true,h):=by
 have a:=aD (mi:=E8 (I 0)) (it:=GA (.ref n)) (g:=AD 0) (e:=Ah 2 VL (Z (I 0) (Z (I 1) A1))) (ρ:=[some (.ref n),some (.int (c:Int))]) (h:=h) (nl:=1) (caps:=[1]) (b.map ER) (λρ=>∃s,ρ=[s,some (.int (c:Int))]) (by rw[CS];have:=ok.1;lia) (Mu As (by simp)) ⟨none,rfl⟩ (λj acc _=>Yh As _ j) (by rintro w hw ρ acc ⟨s,rfl⟩;obtain⟨r,B7,rfl⟩:=List.mem_map.mp hw;exact⟨[some (ER r),some (.int (c:Int))],by simp,⟨_,rfl⟩,by simp[acg (ok.2 r B7)]⟩)
 have BB:Dv "list" (.ref n) h=.ok (.AL true,h):=by simp only[Dv,Mf,As,FT];rfl
 have CZ:BO [.ref n] h=.ok (.int b.length,h):=by rw[GL As];simp
 have:=ok.1;have g1:KG (.int (b.length:Int)) V1 h=.ok (.AL false,h):=by show KG (.int (b.length:Int)) (.int 12) h=_;rw[zR,decide_eq_false (by lia)]
 simp[-FO,VJ,fE,BB,CZ,g1,a]
end FU
namespace C0
open PySem PySem.Spec B6
def bi{h:A5}{n:Nat}{c:Str}{ns:List Str}{ws:List W}(e:h[n]?=some ⟨.ins c ns,ws⟩):Qw h c (.ref n)=some (n,ns,ws):=by simp only[Qw,e,if_true]
def FK{h:A5}{n:Nat}{c f:Str}{ns:List Str}{ws:List W}{u:W}(e:h[n]?=some ⟨.ins c ns,ws⟩)(v:DW ns ws f=some u):Ba c f (.ref n) h=.ok (u,h):=by unfold Ba;rw[bi e];dsimp only;rw[v]
def SL{h:A5}{n:Nat}{c f:Str}{ns ns':List Str}{ws ws':List W}{v:W}{ρ:B9}(e:h[n]?=some ⟨.ins c ns,ws⟩)(l:ns.length<1000)(A9:SK ns f=ns')(AF:R_ ns ws f v=ws'):UW c f (.ref n) v ρ h=.ok (.AR ρ,h.set n ⟨.ins c ns',ws'⟩):=by unfold UW;rw[bi e];dsimp only;rw[if_pos l,A9,AF]
def TC(c f:Str)(o v:B3)(ρ:B9)(h:A5):Er c f o v ρ h=(v ρ h).bind λp=>(o ρ p.2).bind λq=>UW c f q.1 p.1 ρ q.2:=rfl
def adS(c x:Str)(n:Nat)(mf:Bq)(o:B3)(ma:EE)(ρ:B9)(h:A5):C_ c x n mf o ma ρ h=(o ρ h).bind λp=>Vc c x p.1 (bd ma λws _ h=>if ws.length=n then mf (p.1::ws) h else .bad) ρ p.2:=rfl
def yH{α:Type}{h:A5}{n:Nat}{c x:Str}{ns:List Str}{ws:List W}{m:M α}{ρ:B9}(e:h[n]?=some ⟨.ins c ns,ws⟩)(v:DW ns ws x=none):Vc c x (.ref n) m ρ h=m ρ h:=by unfold Vc;rw[bi e];dsimp only;rw[v]
def L6{h h1:A5}{n k:Nat}{c x:Str}{ns:List Str}{ws us:List W}{mf:Bq}{o:B3}{ma:EE}{ρ:B9}{r:R (W×A5)}(GH:o ρ h=.ok (.ref n,h))(e:h[n]?=some ⟨.ins c ns,ws⟩)(v:DW ns ws x=none)(BY:ma ρ h=.ok (us,h1))(l:us.length=k)(B5:mf (.ref n::us) h1=r):C_ c x k mf o ma ρ h=r:=by rw[adS,GH,A3,yH e v,IV,BY,A3,if_pos l,B5]
def Yl{h h1 h2:A5}{c:Str}{k:Nat}{mf:Bq}{ma:EE}{ρ:B9}{us:List W}(BY:ma ρ h=.ok (us,h1))(l:us.length=k)(B5:mf (.ref h1.length::us) (h1++[⟨.ins c [],[]⟩])=.ok (.non,h2)):Ic c k mf ma ρ h=.ok (.ref h1.length,h2):=by unfold Ic;rw[IV,BY,A3];dsimp only;rw[if_pos l,B5];rfl
def gg{h:A5}{n:Nat}{AI:List El}{vs:List W}{k v:W}{G_:El}{ρ:B9}(e:h[n]?=some ⟨.Ds AI,vs⟩)(DG:NQ k=some G_)(Qm:G_∉AI)(l:vs.length<B0):MQ (.ref n) k v ρ h=.ok (.AR ρ,h.set n ⟨.Ds (AI++[G_]),vs++[v]⟩):=by unfold MQ;simp only[e,DG,if_pos l,MY,if_neg Qm]
def TB(d k v:B3)(ρ:B9)(h:A5):JK d k v ρ h=(v ρ h).bind λp=>(d ρ p.2).bind λq=>(k ρ q.2).bind λr=>MQ q.1 r.1 p.1 ρ r.2:=rfl
end C0
namespace FU
open PySem PySem.Spec B6 C0
def ze(h:A5)(a b:Ad):Au false (Aa a) (Aa b) h=.ok (.AL (!decide (a=b)),h):=by
 have:=Xf h a b;unfold Au at this |-;rw[aA,aA]at this |-;simp only[if_true,M6,if_false]at this |-;have:eqT (DK.Dn true [DK.int (a.1:Int),DK.int (a.2:Int)]) (DK.Dn true [DK.int (b.1:Int),DK.int (b.2:Int)])=decide (a=b):=by injection this with this;injection this with this _;injection this
 rw[this]
def lM(h:A5)(x y:W):RA [.tup [x,y]] h=.ok (.AL true,h):=by have BB:Dv "tuple" (.tup [x,y]) h=.ok (.AL true,h):=rfl;simp[RA,fH,BB,Ou]
def yN(h:A5)(cs:List Nat):BO [.tup (Br cs)] h=.ok (.int cs.length,h):=by rw[Ou];simp[Br]
def aW{cs:List Nat}{d:Ad}(hd:d∈D2 cs cs.length)(h:A5):TM [.tup (Br cs),Aa d] h=.ok (.AL true,h):=by obtain⟨h1,h2⟩:=VV.mp hd;have p:RA [Aa d] h=.ok (.AL true,h):=lM h _ _;have FC:AA (Aa d) (.int 0) h=.ok (.int (d.1:Int),h):=Ff h _ _;have A9:AA (Aa d) (.int 1) h=.ok (.int (d.2:Int),h):=JG h _ _ _;have AF:AA (.tup (Br cs)) (.int (d.1:Int)) h=.ok (.int (cs.getD d.1 0:Nat),h):=Qx h (UN h1);have G2:=TD (d.1:Int) 0 ((cs.length:Int)-1) h;have Gb:=TD (d.2:Int) 0 ((cs.getD d.1 0:Nat)-1:Int) h;rw[decide_eq_true (show(0:Int)<=(d.1:Int)by lia),decide_eq_true (show(d.1:Int)<=(cs.length:Int)-1 by lia)]at G2;rw[decide_eq_true (show(0:Int)<=(d.2:Int)by lia),decide_eq_true (show(d.2:Int)<=((cs.getD d.1 0:Nat):Int)-1 by lia)]at Gb;simp[TM,fG,p,FC,A9,AF,yN,G2,Gb,-EW]
def af4{cs:List Nat}{w:Ad×Ad}(h1:w.1∈D2 cs cs.length)(h2:w.2∈D2 cs cs.length)(ne:w.1≠w.2)(h:A5):TP [.tup (Br cs),CA w] h=.ok (.AL true,h):=by have p:RA [CA w] h=.ok (.AL true,h):=lM h _ _;have FC:AA (CA w) (.int 0) h=.ok (Aa w.1,h):=Ff h _ _;have A9:AA (CA w) (.int 1) h=.ok (Aa w.2,h):=JG h _ _ _;simp[TP,fl,p,FC,A9,aW h1,aW h2,ze,ne]
def Ib(d:Ad):El:=[.inl (d.1:Int),.inl (d.2:Int)]
def dL(d:Ad):NQ (Aa d)=some (Ib d):=rfl
def Yc{a b:Ad}(h:Ib a=Ib b):a=b:=by obtain⟨a1,a2⟩:=a;obtain⟨D_,FX⟩:=b;simp only[Ib,f7,Rw,and_true]at h;obtain⟨h1,h2⟩:=h;rw[Prod.mk.injEq];lia
def Kw(ws:List (Ad×Ad)):List El:=(ends ws).map Ib
def Kx(ws:List (Ad×Ad)):List W:=(ws.map λw=>[Aa w.2,Aa w.1]).flatten
def HG(ws:List (Ad×Ad)):O:=⟨.Ds (Kw ws),Kx ws⟩
def uq(ws:List (Ad×Ad))(w:Ad×Ad):Kw (ws++[w])=Kw ws++[Ib w.1]++[Ib w.2]:=by simp[Kw,ends]
def uR(ws:List (Ad×Ad))(w:Ad×Ad):Kx (ws++[w])=Kx ws++[Aa w.2]++[Aa w.1]:=by simp[Kx]
def uQ(ws:List (Ad×Ad)):(Kx ws).length=2*ws.length:=by
 induction ws with
 |nil=>rfl
 |cons w ws C9=>simp[Kx]at C9 |-;lia
def kg{ws:List (Ad×Ad)}{d:Ad}:Ib d∈Kw ws↔d∈ends ws:=by unfold Kw;rw[Tw];exact⟨λ⟨a,h,e⟩=>Yc e▸h,λh=>⟨d,h,rfl⟩⟩
theorem pC(d:Ad):∀ws:List (Ad×Ad),DW (Kw ws) (Kx ws) (Ib d)=(EM ws d).map Aa
 |[]=>rfl
 |w::ws=>by
  have A9:Kw (w::ws)=Ib w.1::Ib w.2::Kw ws:=by simp[Kw,ends]
  have AF:Kx (w::ws)=Aa w.2::Aa w.1::Kx ws:=by simp[Kx]
  rw[A9,AF];simp only[DW,EM];by_cases h1:w.1=d
  .rw[if_pos (by rw[h1]),if_pos h1];rfl
  .rw[if_neg (λz=>h1 (Yc z)),if_neg h1];by_cases h2:w.2=d
   .rw[if_pos (by rw[h2]),if_pos h2];rfl
   .rw[if_neg (λz=>h2 (Yc z)),if_neg h2];exact pC d ws
def bO{h:A5}{f:Nat}{ws:List (Ad×Ad)}(e:h[f]?=some (HG ws))(d:Ad):Gz h (.ref f) (Aa d)=some ((EM ws d).map Aa):=by unfold Gz;simp only[e,HG,dL,U1,pC]
def agt{ws:List (Ad×Ad)}{d:Ad}(h:EM ws d=none):d∉ends ws:=by
 induction ws with
 |nil=>simp[ends]
 |cons w ws C9=>
  simp only[EM]at h
  split at h
  .cases h
  .split at h
   .cases h
   .rename_i h1 h2;have:=C9 h;simp only[ends,D3,P7,HV,HW,Ka,or_false]at this |-;rintro((rfl|rfl)|z)
    .exact h1 rfl
    .exact h2 rfl
    .exact this z
def bB{ws:List (Ad×Ad)}{d e:Ad}(h:EM ws d=some e):d∈ends ws/\e∈ends ws:=by
 induction ws with
 |nil=>simp[EM]at h
 |cons w ws C9=>
  simp only[EM]at h;simp only[ends,D3,P7,HV,HW,Ka,or_false]
  split at h
  .rename_i h1;cases h;exact⟨.inl (.inl h1.symm),.inl (.inr rfl)⟩
  .split at h
   .rename_i h1 h2;cases h;exact⟨.inl (.inr h2.symm),.inl (.inl rfl)⟩
   .have:=C9 h;exact⟨.inr this.1,.inr this.2⟩
noncomputable def aw:Am:=AQ (Bh (EG (AY (Ah 2 TP (Z (I 0) (Z (I 3) A1))))) (λ_ _=>.bad) Bd)
    (AQ (Bh (FL (AY (A0 (DH true) (A0 AA (I 3) (pu (.int 0))) (I 2))) (AY (A0 (DH true) (A0 AA (I 3) (pu (.int 1))) (I 2)))) (λ_ _=>.bad) Bd)
    (AQ (JK (I 2) (A0 AA (I 3) (pu (.int 0))) (A0 AA (I 3) (pu (.int 1))))
    (JK (I 2) (A0 AA (I 3) (pu (.int 1))) (A0 AA (I 3) (pu (.int 0))))))
def dB(ws:List W)(j:Nat)(h:A5):GA (.tup ws) j h=some ws[j]?:=by simp[GA]
def uh{cs:List Nat}{ws:List (Ad×Ad)}(N:K3 cs ws)(h:A5):VH [.tup (Br cs),.tup (ws.map CA)] h=.ok (.ref h.length,h++[HG ws]):=by
 have few:=N.few
 have BL:=US (mi:=E8 (I 1)) (it:=GA (.tup (ws.map CA))) (g:=AD 3) (b:=aw) (ρ:=[some (.tup (Br cs)),some (.tup (ws.map CA)),some (.ref h.length),none]) (h:=h++[⟨.Ds [],[]⟩]) (h0:=h++[⟨.Ds [],[]⟩]) (ws.map CA) (by simp;lia)
  (λj ρ h'=>(∃s3,ρ=[some (.tup (Br cs)),some (.tup (ws.map CA)),some (.ref h.length),s3])/\h'=h++[HG (ws.take j)])
  (T:=λf h'=>(∃s3,f=.AR [some (.tup (Br cs)),some (.tup (ws.map CA)),some (.ref h.length),s3])/\h'=h++[HG ws])
  (by simp[E8]) (λj ρ h' _ _=>dB _ j h') ⟨⟨none,rfl⟩,by simp[HG,Kw,Kx,ends]⟩ ?_ ?_
 .obtain⟨f,h',C8,⟨s3,rfl⟩,rfl⟩:=BL.H5;have e:VH [.tup (Br cs),.tup (ws.map CA)] h=(AQ (Ac (KN true) (AD 2)) (AQ (F2 (E8 (I 1)) (AD 3) aw) (B2 (I 2))) [some (.tup (Br cs)),some (.tup (ws.map CA)),none,none] h).bind outF:=rfl;have s1:Ac (KN true) (AD 2) [some (.tup (Br cs)),some (.tup (ws.map CA)),none,none] h=.ok (.AR [some (.tup (Br cs)),some (.tup (ws.map CA)),some (.ref h.length),none],h++[⟨.Ds [],[]⟩]):=rfl;rw[e,B4,s1,A3,BA,B4,Ly,C8,A3,BA];rfl
 .rintro j w _ _ Cp ⟨⟨s3,rfl⟩,rfl⟩;rw[Ed]at Cp;cases CC:ws[j]? with
  |none=>rw[CC]at Cp;cases Cp
  |some p=>
   rw[CC]at Cp;cases Cp;have Ap:j<ws.length:=(List.getElem?_eq_some_iff.mp CC).1;have lZ:ws[j]=p:=(List.getElem?_eq_some_iff.mp CC).2;have ZE:ws.take (j+1)=ws.take j++[p]:=by rw[e8 Ap,lZ]
   have Lh:ends ws=ends (ws.take j)++([p.1,p.2]++ends (ws.drop (j+1))):=by
    have:ws=ws.take j++p::ws.drop (j+1):=by rw[<-lZ,<-e6 Ap,PA]
    conv=>lhs;rw[this]
    simp[ends]
   have C1:=N.C1;rw[Lh]at C1;have dH:=List.nodup_append.mp C1;have zb:=List.nodup_append.mp dH.2.1;have ju:p.1≠p.2:=λz=>by have:=zb.1;rw[z]at this;simp at this
   have Cn:p.1∉ends (ws.take j):=λz=>dH.2.2 _ z _ (by simp) rfl;have Dm:p.2∉ends (ws.take j):=λz=>dH.2.2 _ z _ (by simp) rfl;have GB:p.1∈D2 cs cs.length:=N.sub _ (by rw[Lh];simp);have GC:p.2∈D2 cs cs.length:=N.sub _ (by rw[Lh];simp);obtain⟨H,Cg⟩:∃H,H=h++[HG (ws.take j)]:=⟨_,rfl⟩;have C8:H[h.length]?=some (HG (ws.take j)):=by rw[Cg];simp
   refine⟨[some (.tup (Br cs)),some (.tup (ws.map CA)),some (.ref h.length),some (CA p)],H,by rw[Cg];simp,?_⟩;have FC:∀h,AA (CA p) (.int 0) h=.ok (Aa p.1,h):=λh=>Ff h _ _;have A9:∀h,AA (CA p) (.int 1) h=.ok (Aa p.2,h):=λh=>JG h _ _ _;have D_:∀d,d∉ends (ws.take j)->DH true (Aa d) (.ref h.length) H=.ok (.AL false,H):=λd hd=>by
    unfold DH;rw[bO C8];cases q:EM (ws.take j) d with
    |none=>rfl
    |some x=>exact absurd (bB q).1 hd
   have Ec:=uQ (ws.take j);rw[LR]at Ec;have E3:=gg (v:=Aa p.2) (ρ:=[some (.tup (Br cs)),some (.tup (ws.map CA)),some (.ref h.length),some (CA p)]) C8 (dL p.1) (λz=>Cn (kg.mp z)) (by unfold B0;lia);have u9:(H.set h.length ⟨.Ds (Kw (ws.take j)++[Ib p.1]),Kx (ws.take j)++[Aa p.2]⟩)[h.length]?=some ⟨.Ds (Kw (ws.take j)++[Ib p.1]),Kx (ws.take j)++[Aa p.2]⟩:=IU C8;have Ct:=gg (v:=Aa p.1) (ρ:=[some (.tup (Br cs)),some (.tup (ws.map CA)),some (.ref h.length),some (CA p)]) u9 (dL p.2) (λz=>by
    rcases List.mem_append.mp z with z|z
    .exact Dm (kg.mp z)
    .exact ju (Yc (List.mem_singleton.mp z)).symm) (by rw[Ej];unfold B0;simp;lia)
   have t1:EG (AY (Ah 2 TP (Z (I 0) (Z (I 3) A1)))) [some (.tup (Br cs)),some (.tup (ws.map CA)),some (.ref h.length),some (CA p)] H=.ok (false,H):=by simp[af4 GB GC ju]
   have Cb:FL (AY (A0 (DH true) (A0 AA (I 3) (pu (.int 0))) (I 2))) (AY (A0 (DH true) (A0 AA (I 3) (pu (.int 1))) (I 2))) [some (.tup (Br cs)),some (.tup (ws.map CA)),some (.ref h.length),some (CA p)] H=.ok (false,H):=by simp[FC,A9,D_ _ Cn,D_ _ Dm]
   unfold aw;rw[B4,Dj,t1,A3,if_neg (by simp),Fg,A3,BA,B4,Dj,Cb,A3,if_neg (by simp),Fg,A3,BA,B4];simp only[TB,Bg,v_var,Bw,DM,ED,Ci,A3,FC,A9,E3,BA,Ct,UT,XR];refine⟨⟨_,rfl⟩,?_⟩;rw[ZE,Cg];simp[HG,uq,uR]
 .rintro _ _ ⟨⟨s3,rfl⟩,rfl⟩;refine⟨⟨_,rfl⟩,?_⟩;rw[CS,List.take_length]
def si{cs:List Nat}(h1:1<=cs.length)(FD:cs.length<=6)(FI:∀c∈cs,1<=c/\c<=4){h:A5}{n:Nat}(As:h[n]?=some ⟨.lst,Br cs⟩):VF [.ref n] h=.ok (.AL true,h):=by
 have lcs:(Br cs).length=cs.length:=by simp[Br]
 have a:=aD (mi:=E8 (I 0)) (it:=GA (.ref n)) (g:=AD 0) (e:=Ah 3 N0 (Z (I 0) (Z (pu (.int 1)) (Z (pu SB) A1)))) (ρ:=[some (.ref n)]) (h:=h) (nl:=1) (caps:=[]) (Br cs) (λρ=>∃s,ρ=[s]) (by lia) (Mu As (by simp)) ⟨none,rfl⟩ (λj acc _=>Yh As _ j) (by rintro w hw ρ acc ⟨s,rfl⟩;obtain⟨c,AH,rfl⟩:=List.mem_map.mp hw;have AH:=FI c AH;have w:=TD (c:Int) 1 4 (h++[⟨.lst,acc⟩]);rw[decide_eq_true (show(1:Int)<=(c:Int)by lia),decide_eq_true (show(c:Int)<=4 by lia)]at w;exact⟨[some (.int (c:Int))],by simp,⟨_,rfl⟩,by simp[SB,w]⟩)
 have BB:Dv "list" (.ref n) h=.ok (.AL true,h):=by simp only[Dv,Mf,As];rfl
 have CZ:BO [.ref n] h=.ok (.int cs.length,h):=by rw[GL As,lcs]
 have Bk:P0 Ll Ll (pu (.int 1)) (Az BO (Z (I 0) A1)) (pu SC) [some (.ref n)] h=.ok (.AL true,h):=by simp only[ZM,Bw,G1,CM,Ce,v_var,DM,Ci,A3,CZ,kH,decide_eq_true (show(1:Int)<=(cs.length:Int)by lia),ML,if_true,IV,SC,decide_eq_true (show(cs.length:Int)<=6 by lia)]
 simp[-FO,VF,fB,BB,Bk,a]
def MV(cs:List Nat)(ws:List (Ad×Ad))(f:Nat):O:=⟨.ins "Net" ["many","counts","joined","far"],[.int cs.length,.tup (Br cs),.tup (ws.map CA),.ref f]⟩
def k8{cs:List Nat}{ws:List (Ad×Ad)}(N:K3 cs ws){h:A5}{a b:Nat}(BY:h[a]?=some ⟨.lst,Br cs⟩)(BF:h[b]?=some ⟨.lst,ws.map CA⟩) :
  Np [.ref h.length,.ref a,.ref b] (h++[⟨.ins "Net" [],[]⟩])=.ok (.non,h++[MV cs ws (h.length+1),HG ws]):=by
 have lcs:(Br cs).length=cs.length:=by simp[Br]
 have e:Np [.ref h.length,.ref a,.ref b] (h++[⟨.ins "Net" [],[]⟩])=(YH [some (.ref h.length),some (.ref a),some (.ref b)] (h++[⟨.ins "Net" [],[]⟩])).bind outF:=rfl;rw[e];obtain⟨ρ,DQ⟩:∃ρ:B9,ρ=[some (.ref h.length),some (.ref a),some (.ref b)]:=⟨_,rfl⟩;rw[<-DQ];have v0:I 0 ρ=λh'=>.ok (.ref h.length,h'):=by rw[DQ];rfl
 have v1:I 1 ρ=λh'=>.ok (.ref a,h'):=by rw[DQ];rfl
 have v2:I 2 ρ=λh'=>.ok (.ref b,h'):=by rw[DQ];rfl
 have A:∀o:O,(h++[o])[a]?=some ⟨.lst,Br cs⟩:=λo=>Ch h BY _;have B:∀o:O,(h++[o])[b]?=some ⟨.lst,ws.map CA⟩:=λo=>Ch h BF _;have t1:EG (AY (Ah 1 VF (Z (I 1) A1))) ρ (h++[⟨.ins "Net" [],[]⟩])=.ok (false,h++[⟨.ins "Net" [],[]⟩]):=by simp[-v_var,v1,si N.h1 N.FD N.c (A _)]
 have BB:Dv "list" (.ref b) (h++[⟨.ins "Net" [],[]⟩])=.ok (.AL true,h++[⟨.ins "Net" [],[]⟩]):=by simp only[Dv,Mf,B];rfl
 have Cb:EG (AY (BM (Dv "list") (I 2))) ρ (h++[⟨.ins "Net" [],[]⟩])=.ok (false,h++[⟨.ins "Net" [],[]⟩]):=by simp[-v_var,v2,BB]
 have s3:Er "Net" "many" (I 0) (Az BO (Z (I 1) A1)) ρ (h++[⟨.ins "Net" [],[]⟩])=.ok (.AR ρ,h++[⟨.ins "Net" ["many"],[.int cs.length]⟩]):=by rw[TC];simp only[G1,CM,Ce,v1,v0,A3,GL (A _),lcs];rw[SL (ns':=["many"]) (ws':=[.int cs.length]) (HH h _) (by decide) rfl rfl];simp
 have pk:∀(h':A5)(n:Nat)(us:List W),h'[n]?=some ⟨.lst,us⟩->Oc [.ref n] h'=.ok (.tup us,h'):=λh' n us q=>by simp only[Oc,IB h' q]
 have s4:Er "Net" "counts" (I 0) (Az Oc (Z (I 1) A1)) ρ (h++[⟨.ins "Net" ["many"],[.int cs.length]⟩])=.ok (.AR ρ,h++[⟨.ins "Net" ["many","counts"],[.int cs.length,.tup (Br cs)]⟩]):=by rw[TC];simp only[G1,CM,Ce,v1,v0,A3,pk _ _ _ (A _)];rw[SL (ns':=["many","counts"]) (ws':=[.int cs.length,.tup (Br cs)]) (HH h _) (by decide) rfl rfl];simp
 have s5:Er "Net" "joined" (I 0) (Az Oc (Z (I 2) A1)) ρ (h++[⟨.ins "Net" ["many","counts"],[.int cs.length,.tup (Br cs)]⟩])=.ok (.AR ρ,h++[⟨.ins "Net" ["many","counts","joined"],[.int cs.length,.tup (Br cs),.tup (ws.map CA)]⟩]):=by rw[TC];simp only[G1,CM,Ce,v2,v0,A3,pk _ _ _ (B _)];rw[SL (ns':=["many","counts","joined"]) (ws':=[.int cs.length,.tup (Br cs),.tup (ws.map CA)]) (HH h _) (by decide) rfl rfl];simp
 have s6:Er "Net" "far" (I 0) (Ah 2 VH (Z (BM (Ba "Net" "counts") (I 0)) (Z (BM (Ba "Net" "joined") (I 0)) A1))) ρ (h++[⟨.ins "Net" ["many","counts","joined"],[.int cs.length,.tup (Br cs),.tup (ws.map CA)]⟩])=.ok (.AR ρ,h++[MV cs ws (h.length+1),HG ws]):=by rw[TC];have f1:Ba "Net" "counts" (.ref h.length) (h++[⟨.ins "Net" ["many","counts","joined"],[.int cs.length,.tup (Br cs),.tup (ws.map CA)]⟩])=.ok (.tup (Br cs),_):=FK (HH h _) rfl;have f2:Ba "Net" "joined" (.ref h.length) (h++[⟨.ins "Net" ["many","counts","joined"],[.int cs.length,.tup (Br cs),.tup (ws.map CA)]⟩])=.ok (.tup (ws.map CA),_):=FK (HH h _) rfl;simp only[IW,CM,Ce,Jv,v0,A3,f1,f2,Df,Es,Gr,if_true,uh N];rw[SL (ns':=["many","counts","joined","far"]) (ws':=[.int cs.length,.tup (Br cs),.tup (ws.map CA),.ref (h.length+1)]) (Ch _ (HH h _) _) (by decide) rfl (by simp[Ej];rfl)];rw[F6,SU];rfl
 unfold YH;rw[B4,Dj,t1,A3,if_neg (by simp),Fg,A3,BA,B4,Dj,Cb,A3,if_neg (by simp),Fg,A3,BA,B4,s3,A3,BA,B4,s4,A3,BA,B4,s5,A3,BA,s6];rfl
structure J7(h:A5)(n:Nat)(cs:List Nat)(ws:List (Ad×Ad)):Prop where
 ex:∃f,h[n]?=some (MV cs ws f)/\h[f]?=some (HG ws)
def J7.more{h:A5}{n:Nat}{cs:List Nat}{ws:List (Ad×Ad)}(b:J7 h n cs ws)(g:A5):J7 (h++g) n cs ws:=by obtain⟨f,e,r⟩:=b.ex;exact⟨f,Ch h e g,Ch h r g⟩
def Vp{h:A5}{w:W}{t:Bool}{us:List W}(e:EC h w=some (t,us))(l:us.length<=B0):Fk [w] h=.ok (.ref h.length,h++[⟨.lst,us⟩]):=by simp only[Fk,e];exact H_ h l
def zh{cs:List Nat}{ws:List (Ad×Ad)}(N:K3 cs ws){h:A5}{n:Nat}(A:J7 h n cs ws):VG [.ref n] h=.ok (.ref (h.length+2),h++[⟨.lst,Br cs⟩,⟨.lst,ws.map CA⟩,MV cs ws (h.length+3),HG ws]):=by
 obtain⟨f,A9,AF⟩:=A.ex;have few:=N.few;have yj:=N.FD;have f1:Ba "Net" "counts" (.ref n) h=.ok (.tup (Br cs),h):=FK A9 rfl;have f2:Ba "Net" "joined" (.ref n) (h++[⟨.lst,Br cs⟩])=.ok (.tup (ws.map CA),_):=FK (Ch h A9 _) rfl;have CZ:Fk [.tup (Br cs)] h=.ok (.ref h.length,h++[⟨.lst,Br cs⟩]):=Vp (T1 _ _) (by simp[Br,B0];lia);have CN:Fk [.tup (ws.map CA)] (h++[⟨.lst,Br cs⟩])=.ok (.ref (h.length+1),h++[⟨.lst,Br cs⟩,⟨.lst,ws.map CA⟩]):=by rw[Vp (T1 _ _) (by simp[B0];lia)];simp
 have G2:Pc [.ref n] (h++[⟨.lst,Br cs⟩])=.ok (.ref (h.length+1),h++[⟨.lst,Br cs⟩,⟨.lst,ws.map CA⟩]):=by simp only[Pc,Vx,fj,Ga,G1,CM,Ce,Jv,v_var,Uj,D3,Hq,Df,Es,HU,N7,Gr,Tz,Fu,LU,DM,Ci,A3,f2,CN,Ig];have:=Po (h++[⟨.lst,Br cs⟩]) [⟨.lst,ws.map CA⟩] rfl (HK _ _ jy);rw[F6]at this;simpa using this
 have ma:Z (Az Fk (Z (BM (Ba "Net" "counts") (I 0)) A1)) (Z (C_ "Net" "wires" 0 Pc (I 0) A1) A1) [some (.ref n)] h=.ok ([.ref h.length,.ref (h.length+1)],h++[⟨.lst,Br cs⟩,⟨.lst,ws.map CA⟩]):=by have FE:C_ "Net" "wires" 0 Pc (I 0) A1 [some (.ref n)] (h++[⟨.lst,Br cs⟩])=.ok (.ref (h.length+1),h++[⟨.lst,Br cs⟩,⟨.lst,ws.map CA⟩]):=L6 (us:=[]) rfl (Ch h A9 _) rfl rfl rfl G2;simp only[CM,G1,Jv,Ce,v_var,DM,Ci,A3,f1,CZ,FE]
 obtain⟨H,Cg⟩:∃H:A5,H=h++[⟨.lst,Br cs⟩,⟨.lst,ws.map CA⟩]:=⟨_,rfl⟩;have nm:=k8 N (h:=H) (a:=h.length) (b:=h.length+1) (by rw[Cg];simp) (by rw[Cg];simp);rw[<-Cg]at ma;have mk:Ic "Net" 2 Np (Z (Az Fk (Z (BM (Ba "Net" "counts") (I 0)) A1)) (Z (C_ "Net" "wires" 0 Pc (I 0) A1) A1)) [some (.ref n)] h=.ok (.ref H.length,H++[MV cs ws (H.length+1),HG ws]):=Yl ma rfl nm;have e:VG [.ref n] h=((B2 (Ic "Net" 2 Np (Z (Az Fk (Z (BM (Ba "Net" "counts") (I 0)) A1)) (Z (C_ "Net" "wires" 0 Pc (I 0) A1) A1)))) [some (.ref n)] h).bind outF:=rfl;rw[e,Ga,mk,A3,A3,Ig,Cg,F6,Ej];rfl
def sg{cs:List Nat}{ws:List (Ad×Ad)}{h:A5}{n:Nat}(A:J7 h n cs ws){k:Nat}(AO:k<cs.length):S8 [.ref n,.int (k:Int)] h=.ok (.int (cs.getD k 0:Nat),h):=by
 obtain⟨f,A9,AF⟩:=A.ex;have f1:Ba "Net" "counts" (.ref n) h=.ok (.tup (Br cs),h):=FK A9 rfl;have f2:Ba "Net" "many" (.ref n) h=.ok (.int cs.length,h):=FK A9 rfl;have EO:AA (.tup (Br cs)) (.int (k:Int)) h=.ok (.int (cs.getD k 0:Nat),h):=Qx h (UN AO);have Bk:P0 Ll JJ (pu (.int 0)) (I 1) (BM (Ba "Net" "many") (I 0)) [some (.ref n),some (.int (k:Int))] h=.ok (.AL true,h):=by simp only[ZM,Bw,Jv,v_var,DM,ED,Ci,A3,kH,decide_eq_true (show(0:Int)<=(k:Int)by lia),ML,if_true,IV,f2,zS,decide_eq_true (show(k:Int)<(cs.length:Int)by lia)]
 simp[S8,fg,Bk,f1,EO,-EW]
def gk{cs:List Nat}{ws:List (Ad×Ad)}(FD:cs.length<=6){B:List (List Cu)}(ok:HR cs B){h:A5}{n b:Nat}(A:J7 h n cs ws)(UB:EX h b B):VQ [.ref b,.ref n] h=.ok (.non,h):=by
 obtain⟨f,A9,AF⟩:=A.ex;obtain⟨rs,BF,QC,B5⟩:=UB.ex;have Vm:=ok.1
 have a:=aD (mi:=Pa (Z (I 0) A1)) (it:=PY (.ref b)) (g:=Fs [(AD 0),(AD 1)]) (e:=Ah 2 VJ (Z (I 1) (Z (C_ "Net" "count" 1 S8 (I 2) (Z (I 0) A1)) A1))) (ρ:=[some (.ref b),some (.ref n)]) (h:=h) (nl:=2) (caps:=[1])
  (rs.mapIdx λi r=>.tup [.int (i:Int),.ref r]) (λρ=>∃s t,ρ=[s,t,some (.ref n)]) (by rw[eC];lia) (by simp[Pa,Nm h BF]) ⟨none,none,rfl⟩ (λj acc Ap=>by
    rw[eC]at Ap;simp only[PY,Nm _ (Ch h BF _),CS];by_cases q:j=rs.length
    .rw[if_pos q,JV (by rw[eC];lia)]
    .have:j<rs.length:=by lia
     rw[if_neg q,Ed,List.getElem?_mapIdx,Cc this];rfl) (by
  rintro w hw ρ acc ⟨s,t,rfl⟩;obtain⟨i,AB,rfl⟩:=List.mem_mapIdx.mp hw;refine⟨[some (.int (i:Int)),some (.ref rs[i]),some (.ref n)],by simp,⟨_,_,rfl⟩,?_⟩;have c:=sg (A.more [⟨.lst,acc⟩]) (k:=i) (by lia);have y:=rJ (ok.2 i (by lia)) (Ch h (B5 i rs[i] (Cc AB)) [⟨.lst,acc⟩]);have FE:C_ "Net" "count" 1 S8 (I 2) (Z (I 0) A1) [some (.int (i:Int)),some (.ref rs[i]),some (.ref n)] (h++[⟨.lst,acc⟩])=.ok (.int (cs.getD i 0:Nat),h++[⟨.lst,acc⟩]):=L6 (us:=[.int (i:Int)]) rfl (Ch h A9 _) rfl rfl rfl c;simp only[IW,CM,Ce,v_var,DM,ED,Ci,A3,FE,Df,Es,Gr,if_true,y])
 have BB:Dv "list" (.ref b) h=.ok (.AL true,h):=by simp only[Dv,Mf,BF];rfl
 have CZ:BO [.ref b] h=.ok (.int cs.length,h):=by rw[GL BF,CS,QC,Vm]
 have f2:Ba "Net" "many" (.ref n) h=.ok (.int cs.length,h):=FK A9 rfl;have q:Yj [.ref b,.ref n] h=.ok (.AL true,h):=by simp[-FO,Yj,fF,BB,CZ,f2,a]
 simp[VQ,b8,q]
end FU
namespace C0
open PySem PySem.Spec B6
@[simp] theorem kG(b:Bool)(x y:Str)(h:A5):Au b (.str x) (.str y) h=.ok (.AL (if b then x==y else !(x==y)),h):=by simp[Au,DD,eqT]
theorem gz{it:Gk}{g:D9}{e:B3}{h:A5}(GE:Nat->Nat->List W)(ZA:∀a n,GE a (n+1)=GE a n++[.ref (a+n)])(ZB:∀a n,(GE a n).length=n)(ws:List W)(f:W->O)(BK:B9->Prop)(AG:ws.length<1000)(hit:∀j H,h<+: H->j<=ws.length->it j H=some ws[j]?)(DY:∀w∈ws,∀ρ H,BK ρ->h<+: H->∃CI,g w ρ H=.ok (.AR CI,H)/\BK CI/\e CI H=.ok (.ref H.length,H++[f w])) :
  ∀k j ρ,j<=ws.length->ws.length-j<k->BK ρ->KA it g (pu true) e h.length k j ρ (h++(⟨.lst,GE (h.length+1) j⟩::(ws.take j).map f))=.ok (h++(⟨.lst,GE (h.length+1) ws.length⟩::ws.map f))
 |0,j,ρ,Ap,l,i=>by lia
 |k+1,j,ρ,Ap,l,i=>by
  unfold KA;rw[hit _ _ (G4 _ _) Ap];by_cases DS:j<ws.length
  .rw[Cc DS];obtain⟨CI,A9,BB,AF⟩:=DY ws[j] (LS DS) ρ _ i (G4 h (⟨.lst,GE (h.length+1) j⟩::(ws.take j).map f));simp only[A9,A3,Bw,if_true,AF];rw[F6,HH,HU,DM];have B7:=ZB (h.length+1) j;simp only[B7,if_pos (show j<B0 by unfold B0;lia),SU,N6];have:=gz GE ZA ZB ws f BK AG hit DY k (j+1) CI DS (by lia) BB;rw[ZA,e8 DS,IZ]at this;have GJ:(h++(⟨.lst,GE (h.length+1) j⟩::(ws.take j).map f)).length=h.length+1+j:=by simp;lia
   rw[GJ];exact this
  .have:j=ws.length:=by lia
   subst this;simp
def se{mi:Fv}{it:Gk}{g:D9}{e:B3}{ρ:B9}{h h0:A5}{nl:Nat}{caps:List Nat}(GE:Nat->Nat->List W)(xF:∀a,GE a 0=[])(ZA:∀a n,GE a (n+1)=GE a n++[.ref (a+n)])(ZB:∀a n,(GE a n).length=n)(ws:List W)(f:W->O)(BK:B9->Prop)(AG:ws.length<1000)(AB:mi ρ h0=.ok (it,h))(GK:BK (PJ nl caps ρ))(hit:∀j H,h<+: H->j<=ws.length->it j H=some ws[j]?)(DY:∀w∈ws,∀ρ H,BK ρ->h<+: H->∃CI,g w ρ H=.ok (.AR CI,H)/\BK CI/\e CI H=.ok (.ref H.length,H++[f w])) :
  Dw nl caps mi g (pu true) e ρ h0=.ok (.ref h.length,h++(⟨.lst,GE (h.length+1) ws.length⟩::ws.map f)):=by
 unfold Dw;simp only[IV,AB,A3];have:=gz GE ZA ZB ws f BK AG hit DY Km 0 _ (ID _) (by unfold Km;lia) GK;rw[xF]at this;simp only[List.take_zero,Hq]at this;rw[this]
end C0
namespace FU
open PySem PySem.Spec B6 C0
def I1(a:Nat)(B:List (List Cu)):A5:=⟨.lst,IT (a+1) B.length⟩::B.map FT
def NO(a:Nat)(B:List (List Cu)):(I1 a B).length=B.length+1:=by simp[I1]
def sf{cs:List Nat}{B:List (List Cu)}(FD:cs.length<=6)(ok:HR cs B){h:A5}{b i:Nat}(UB:EX h b B){ρ:B9}(AB:ρ[i]?=some (some (.ref b))):Dw 1 [] (E8 (I i)) (AD 0) (pu true) (Bb (Az Fk (Z (I 0) A1))) ρ h=.ok (.ref h.length,h++I1 h.length B):=by
 obtain⟨rs,BF,QC,B5⟩:=UB.ex;have Vm:=ok.1;have c:=se (mi:=E8 (I i)) (it:=GA (.ref b)) (g:=AD 0) (e:=Bb (Az Fk (Z (I 0) A1))) (ρ:=ρ) (h:=h) (h0:=h) (nl:=1) (caps:=[]) IT (λa=>rfl) mV mU (rs.map W.ref) (λw=>match w with
  |.ref r=>(h[r]?).getD ⟨.lst,[]⟩
  |_=>⟨.lst,[]⟩) (λρ=>∃s,ρ=[s]) (by rw[CS];lia) (Mu BF (by rw[v_var,AB];rfl)) ⟨none,rfl⟩ (λj H p _=>PZ (FM p BF) j) (by
   rintro w hw ρ H ⟨s,rfl⟩ p;obtain⟨r,B7,rfl⟩:=List.mem_map.mp hw;obtain⟨k,AO⟩:=eG B7;have q:=B5 k r AO;have Qs:k<cs.length:=by have:=(List.getElem?_eq_some_iff.mp AO).1;lia
   have Ec:=(ok.2 k Qs).1;refine⟨[some (.ref r)],by simp,⟨_,rfl⟩,?_⟩;have lw:Fk [.ref r] H=.ok (.ref H.length,H++[FT (B.getD k [])]):=Vp (IB _ (FM p q)) (by rw[CS];unfold B0;lia);simp only[FO,G1,CM,Ce,v_var,DM,Ci,A3,lw,q,Tj];exact Po H _ rfl (HK _ _ jx))
 rw[c];have:(rs.map W.ref).map (λw=>match w with
  |.ref r=>(h[r]?).getD ⟨.lst,[]⟩
  |_=>⟨.lst,[]⟩)=B.map FT:=by
  apply eh;intro k;simp only[Ed];by_cases AO:k<rs.length
  .rw[Cc AO,Cc (by lia)];have q:=B5 k rs[k] (Cc AO);simp only[U1,q,Tj];rw[EW,Cc (by lia)];rfl
  .rw[JV (by lia),JV (by lia)];rfl
 rw[this,CS,QC];rfl
def hb{cs:List Nat}{B:List (List Cu)}(FD:cs.length<=6)(ok:HR cs B){h:A5}{b:Nat}(UB:EX h b B):R9 [.ref b] h=.ok (.ref h.length,h++I1 h.length B):=by have c:=sf (i:=0) FD ok UB (ρ:=[some (.ref b)]) rfl;have e:R9 [.ref b] h=(B2 (Dw 1 [] (E8 (I 0)) (AD 0) (pu true) (Bb (Az Fk (Z (I 0) A1)))) [some (.ref b)] h).bind outF:=rfl;rw[e,Ga,c];rfl
abbrev Ck:=Option (Nat×Nat)
def Gp(k:Nat):Str:=if k=0 then AJ "teach" else if k=1 then AJ "turn" else AJ "forget"
def Ax:Ck->W
 |none=>.tup [.str (AJ "wait")]
 |some p=>.tup [.str (Gp p.1),.int (p.2:Int)]
@[simp] theorem L8(s:Ck):DL (Ax s)=true:=by cases s<;>simp[Ax]
structure Sg(n:Nat)(ps:List Ck):Prop where
 l:ps.length<=40
 k:∀p,some p∈ps->p.1<3/\p.2<n
 C1:(ps.filterMap id).Nodup
def iy(h:A5)(k:Int)(AO:k=1\/k=2):DH false (.int k) (.tup [.int 1,.int 2]) h=.ok (.AL false,h):=by rw[UJ (d:=.int k) (t:=true) (ds:=[.int 1,.int 2]) rfl (by simp[DD]) (by simp[DD])];rcases AO with rfl|rfl<;>rfl
def aeG{n:Nat}{cs:List Nat}{ws:List (Ad×Ad)}{h:A5}{m:Nat}(A:J7 h m cs ws){s:Ck}(AN:∀p,s=some p->p.1<3/\p.2<cs.length):RB [Ax s,.ref m] h=.ok (.AL true,h):=by
 obtain⟨f,A9,AF⟩:=A.ex;have f2:Ba "Net" "many" (.ref m) h=.ok (.int cs.length,h):=FK A9 rfl;have is:∀x,Dv "str" (.str x) h=.ok (.AL true,h):=λx=>rfl;cases s with
 |none=>have BB:Dv "tuple" (Ax none) h=.ok (.AL true,h):=rfl;have CZ:BO [Ax none] h=.ok (.int 1,h):=Ou h _;have x0:AA (Ax none) (.int 0) h=.ok (.str (AJ "wait"),h):=Ff h _ _;simp[RB,Xm,BB,CZ,x0,iy,is,B0]
 |some p=>
  have AT:=AN p rfl;have BB:Dv "tuple" (Ax (some p)) h=.ok (.AL true,h):=rfl;have CZ:BO [Ax (some p)] h=.ok (.int 2,h):=Ou h _;have x0:AA (Ax (some p)) (.int 0) h=.ok (.str (Gp p.1),h):=Ff h _ _;have x1:AA (Ax (some p)) (.int 1) h=.ok (.int (p.2:Int),h):=JG h _ _ _;have w:=TD (p.2:Int) 0 ((cs.length:Int)-1) h;rw[decide_eq_true (show(0:Int)<=(p.2:Int)by lia),decide_eq_true (show(p.2:Int)<=(cs.length:Int)-1 by lia)]at w;have IX:DH true (.str (Gp p.1)) (.tup [.str (AJ "teach"),.str (AJ "turn"),.str (AJ "forget")]) h=.ok (.AL true,h):=by
   rw[UJ (d:=.str (Gp p.1)) (t:=true) (ds:=[.str (AJ "teach"),.str (AJ "turn"),.str (AJ "forget")]) rfl (by simp[DD]) (by simp[DD])];have:p.1=0\/p.1=1\/p.1=2:=by lia
   rcases this with e|e|e<;>rw[e]<;>rfl
  simp[RB,Xm,BB,CZ,x0,x1,iy,is,B0,f2,w,IX]
def IN:W->Bool
 |.tup [_,_]=>true
 |_=>false
def k7(h:A5)(s:Ck):Au false (Ax s) MO h=.ok (.AL (IN (Ax s)),h):=by
 cases s with
 |none=>simp[Au,Ax,MO,DD,eqT,G8,IN]
 |some p=>simp[Au,Ax,MO,DD,eqT,G8,IN]
def pH{a b:Nat}(AE:a<3)(A2:b<3)(h:Gp a=Gp b):a=b:=by
 have a1:a=0\/a=1\/a=2:=by lia
 have D_:b=0\/b=1\/b=2:=by lia
 rcases a1 with rfl|rfl|rfl<;>rcases D_ with rfl|rfl|rfl<;>first|rfl|exact absurd h (by decide)
def stK(p:Nat×Nat):List Key:=[.inr (Gp p.1),.inl (p.2:Int)]
theorem pn:∀l:List (Nat×Nat),(l.map λp=>Ax (some p)).mapM NQ=some (l.map stK)
 |[]=>rfl
 |p::l=>by rw[D3,XD,pn l];rfl
theorem cb:∀ps:List Ck,(ps.map Ax).filter IN=(ps.filterMap id).map λp=>Ax (some p)
 |[]=>rfl
 |none::ps=>by rw[D3,QF,if_neg (by simp[Ax,IN]),cb ps];rfl
 |some p::ps=>by rw[D3,QF,if_pos (by simp[Ax,IN]),cb ps];rfl
def abX{cs:List Nat}{ws:List (Ad×Ad)}{h:A5}{m q:Nat}(A:J7 h m cs ws){ps:List Ck}(P:Sg cs.length ps)(eq:h[q]?=some ⟨.lst,ps.map Ax⟩):Yk [.ref q,.ref m] h=.ok (.AL true,h):=by
 have Vl:=P.l;have BB:Dv "list" (.ref q) h=.ok (.AL true,h):=by simp only[Dv,Mf,eq];rfl
 have CZ:BO [.ref q] h=.ok (.int ps.length,h):=by rw[GL eq,CS]
 have a:=fY (mi:=E8 (I 0)) (it:=GA (.ref q)) (g:=AD 0) (e:=Ah 2 RB (Z (I 0) (Z (I 1) A1))) (ρ:=[some (.ref q),some (.ref m),none]) (h:=h) (nl:=1) (caps:=[1]) (ps.map Ax) (λ_=>true) (λρ=>∃s,ρ=[s,some (.ref m)]) (by rw[CS];lia) (Mu eq (by simp)) ⟨none,rfl⟩ (λj acc _=>Yh eq _ j) (by rintro w hw ρ acc ⟨s,rfl⟩;obtain⟨c,AH,rfl⟩:=List.mem_map.mp hw;exact⟨[some (Ax c),some (.ref m)],by simp,⟨_,rfl⟩,by simp[aeG (n:=0) (A.more [⟨.lst,acc⟩]) (λp e=>P.k p (e▸AH))]⟩)
 rw[List.all_eq_true.mpr (λ_ _=>rfl)]at a;have c:=UL (mi:=E8 (I 0)) (it:=GA (.ref q)) (g:=AD 0) (t:=AY (A0 (Au false) (I 0) (pu MO))) (e:=I 0) (ρ:=[some (.ref q),some (.ref m),none]) (h:=h) (h0:=h) (nl:=1) (caps:=[]) (ps.map Ax) IN id (λρ=>∃s,ρ=[s]) (by rw[CS];lia) (Mu eq (by simp)) ⟨none,rfl⟩ (λj acc _=>Yh eq _ j) (by rintro w hw ρ acc ⟨s,rfl⟩;obtain⟨c,AH,rfl⟩:=List.mem_map.mp hw;exact⟨[some (Ax c)],by simp,⟨_,rfl⟩,by simp[k7],λ_=>by simp⟩)
 rw[List.map_id,cb]at c;have C1:((ps.filterMap id).map stK).Nodup:=by rw[W_,Th];refine List.Pairwise.imp_of_mem ?_ P.C1;intro x y AK AP ne z;obtain⟨u,BI,Fq⟩:=List.mem_filterMap.mp AK;obtain⟨v,B_,ev⟩:=List.mem_filterMap.mp AP;simp only[id]at Fq ev;subst Fq ev;have yh:=P.k _ BI;have Vk:=P.k _ B_;simp only[stK,f7,Sum.inr.injEq,Rw,and_true]at z;exact ne (Prod.ext (pH yh.1 Vk.1 z.1) (by lia))
 have lf:(ps.filterMap id).length<=ps.length:=List.length_filterMap_le ..;have Dn:EC (h++[⟨.lst,(ps.filterMap id).map λp=>Ax (some p)⟩]) (.ref h.length)=some (false,(ps.filterMap id).map λp=>Ax (some p)):=IB _ (by simp);have ls:Vr [.ref h.length] (h++[⟨.lst,(ps.filterMap id).map λp=>Ax (some p)⟩])=.ok (.int (ps.filterMap id).length,h++[⟨.lst,(ps.filterMap id).map λp=>Ax (some p)⟩]):=by unfold Vr;simp only[Dn,CS];rw[if_pos (by lia)];simp only[pn,if_pos C1,CS]
 have Ec:BO [.ref h.length] (h++[⟨.lst,(ps.filterMap id).map λp=>Ax (some p)⟩])=.ok (.int (ps.filterMap id).length,h++[⟨.lst,(ps.filterMap id).map λp=>Ax (some p)⟩]):=by rw[GL (HH h _)];simp
 have t1:FL (EG (AY (BM (Dv "list") (I 0)))) (AY (A0 KG (Az BO (Z (I 0) A1)) (pu SD))) [some (.ref q),some (.ref m),none] h=.ok (false,h):=by simp[BB,CZ,SD];lia
 have Cb:Ho (EG (AY (Az (I9 true) (Z (Dw 1 [1] (E8 (I 0)) (AD 0) (pu true) (Ah 2 RB (Z (I 0) (Z (I 1) A1)))) A1)))) [some (.ref q),some (.ref m),none] h=.ok (false,h):=by rw[adU,v_not,HA,a];simp
 have s3:Ac (Dw 1 [] (E8 (I 0)) (AD 0) (AY (A0 (Au false) (I 0) (pu MO))) (I 0)) (AD 2) [some (.ref q),some (.ref m),none] h=.ok (.AR [some (.ref q),some (.ref m),some (.ref h.length)],h++[⟨.lst,(ps.filterMap id).map λp=>Ax (some p)⟩]):=by rw[Do,c];rfl
 have e:Yk [.ref q,.ref m] h=((Xl [some (.ref q),some (.ref m),none] h).bind outF).bind λp=>settle h p.1 p.2:=rfl;rw[e];unfold Xl;rw[B4,Dj,t1,A3,if_neg (by simp),Fg,A3,BA,B4,Dj,Cb,A3,if_neg (by simp),Fg,A3,BA,B4,s3,A3,BA];simp only[Ga,Bg,G1,CM,Ce,v_var,DM,ED,Ci,A3,ls,Ec,V4,Ig];simp
def abW{cs:List Nat}{ws:List (Ad×Ad)}(FD:cs.length<=6){B C:List (List Cu)}(JL:HR cs B)(zY:HR cs C){h:A5}{m q b c:Nat}(A:J7 h m cs ws)(Gn:EX h b B)(JE:EX h c C){ps:List Ck}(P:Sg cs.length ps)(eq:h[q]?=some ⟨.lst,ps.map Ax⟩):VR [.ref m,.ref b,.ref c,.ref q] h=.ok (.non,h):=by simp[VR,b9,gk FD JL A Gn,gk FD zY A JE,abX A P eq]
def mY:List Str:=["net","books","plan","done","came","letters","ended"]
def OW(Kg MM D_ pl M Be:Nat):O:=⟨.ins "Run" mY,[.ref Kg,.tup [.ref MM,.ref D_],.ref pl,.ref M,.int (Be:Int),.ref (M+1),.ref (M+2)]⟩
def NP{c f:Str}{ns ns':List Str}{us q0:List W}{v:B3}{ρ:B9}{h X Y:A5}{w:W}(h0:ρ[0]?=some (some (.ref h.length)))(ev:v ρ (h++(⟨.ins c ns,us⟩::X))=.ok (w,h++(⟨.ins c ns,us⟩::(X++Y))))(l:ns.length<1000)(A9:SK ns f=ns')(AF:R_ ns us f w=q0):Er c f (I 0) v ρ (h++(⟨.ins c ns,us⟩::X))=.ok (.AR ρ,h++(⟨.ins c ns',q0⟩::(X++Y))):=by rw[TC,ev,A3,v_var,h0,Ci,A3];rw[SL (HH h _) l A9 AF,SU];rfl
def Ii(L:Nat)(cs:List Nat)(ws:List (Ad×Ad))(A B:List (List Cu))(ps:List Ck):A5:=[⟨.lst,Br cs⟩,⟨.lst,ws.map CA⟩,MV cs ws (L+4),HG ws]++I1 (L+5) A++I1 (L+6+A.length) B++[⟨.lst,ps.map Ax⟩]
def ZR(L:Nat)(cs:List Nat)(ws:List (Ad×Ad))(A B:List (List Cu))(ps:List Ck):(Ii L cs ws A B ps).length=A.length+B.length+7:=by simp[Ii,NO];lia
def acj{cs:List Nat}{ws:List (Ad×Ad)}(N:K3 cs ws){A B:List (List Cu)}(KQ:HR cs A)(JL:HR cs B){ps:List Ck}(P:Sg cs.length ps){h:A5}{m a b q:Nat}(XO:J7 h m cs ws)(Hm:EX h a A)(Gn:EX h b B)(AX:h[q]?=some ⟨.lst,ps.map Ax⟩) :
  R8 [.ref h.length,.ref m,.ref a,.ref b,.ref q] (h++[⟨.ins "Run" [],[]⟩])=.ok (.non,h++(OW (h.length+3) (h.length+5) (h.length+6+A.length) (h.length+7+A.length+B.length) (h.length+8+A.length+B.length) 0::(Ii h.length cs ws A B ps++[⟨.lst,[]⟩,⟨.Aj [],[]⟩,⟨.lst,[]⟩]))):=by
 have e:R8 [.ref h.length,.ref m,.ref a,.ref b,.ref q] (h++[⟨.ins "Run" [],[]⟩])=(YK [some (.ref h.length),some (.ref m),some (.ref a),some (.ref b),some (.ref q)] (h++[⟨.ins "Run" [],[]⟩])).bind outF:=rfl;rw[e];obtain⟨ρ,DQ⟩:∃ρ:B9,ρ=[some (.ref h.length),some (.ref m),some (.ref a),some (.ref b),some (.ref q)]:=⟨_,rfl⟩;rw[<-DQ];have Rb:ρ[0]?=some (some (.ref h.length)):=by rw[DQ];rfl
 have v1:∀h',I 1 ρ h'=.ok (.ref m,h'):=by rw[DQ];exact λ_=>rfl
 have v2:∀h',I 2 ρ h'=.ok (.ref a,h'):=by rw[DQ];exact λ_=>rfl
 have WX:∀h',I 3 ρ h'=.ok (.ref b,h'):=by rw[DQ];exact λ_=>rfl
 have v4:∀h',I 4 ρ h'=.ok (.ref q,h'):=by rw[DQ];exact λ_=>rfl
 have Vl:=P.l;have kL:=KQ.1;have Vm:=JL.1;have s0:HJ (Ah 4 VR (Z (I 1) (Z (I 2) (Z (I 3) (Z (I 4) A1))))) ρ (h++[⟨.ins "Run" [],[]⟩])=.ok (.AR ρ,h++[⟨.ins "Run" [],[]⟩]):=by simp only[Mg,IW,CM,Ce,v1,v2,WX,v4,A3,Df,Es,Gr,if_true,abW N.FD KQ JL (XO.more _) (Hm.more _) (Gn.more _) P (Ch h AX _)]
 have s1:Er "Run" "net" (I 0) (Ah 1 VG (Z (I 1) A1)) ρ (h++[⟨.ins "Run" [],[]⟩])=.ok (.AR ρ,h++(⟨.ins "Run" ["net"],[.ref (h.length+3)]⟩::([]++[⟨.lst,Br cs⟩,⟨.lst,ws.map CA⟩,MV cs ws (h.length+4),HG ws]))):=by refine NP Rb ?_ (by decide) rfl rfl;simp only[IW,CM,Ce,v1,A3,Df,Es,Gr,if_true,zh N (XO.more _)];rw[F6,Ej];rfl
 obtain⟨PH,x1⟩:∃X:A5,X=[]++[⟨.lst,Br cs⟩,⟨.lst,ws.map CA⟩,MV cs ws (h.length+4),HG ws]:=⟨_,rfl⟩;have CZ:PH.length=4:=by rw[x1];rfl
 rw[<-x1]at s1;have s2:Er "Run" "books" (I 0) (BQ (Z (Ah 1 R9 (Z (I 2) A1)) (Z (Ah 1 R9 (Z (I 3) A1)) A1))) ρ (h++(⟨.ins "Run" ["net"],[.ref (h.length+3)]⟩::PH))=.ok (.AR ρ,h++(⟨.ins "Run" ["net","books"],[.ref (h.length+3),.tup [.ref (h.length+5),.ref (h.length+6+A.length)]]⟩::(PH++(I1 (h.length+5) A++I1 (h.length+6+A.length) B)))):=by
  refine NP Rb ?_ (by decide) rfl rfl;have Bk:=hb N.FD KQ (Hm.more (⟨.ins "Run" ["net"],[.ref (h.length+3)]⟩::PH));have CH:(h++(⟨.ins "Run" ["net"],[.ref (h.length+3)]⟩::PH)).length=h.length+5:=by simp[CZ]
  rw[CH,F6]at Bk;have Co:=hb N.FD JL (Gn.more ((⟨.ins "Run" ["net"],[.ref (h.length+3)]⟩::PH)++I1 (h.length+5) A));have B6:(h++((⟨.ins "Run" ["net"],[.ref (h.length+3)]⟩::PH)++I1 (h.length+5) A)).length=h.length+6+A.length:=by simp[CZ,NO];lia
  rw[B6]at Co;simp only[Pu,IW,CM,Ce,v2,WX,A3,Df,Es,Gr,if_true,Bk,Co];rw[if_pos (by decide)];simp
 obtain⟨Sk,x2⟩:∃X:A5,X=PH++(I1 (h.length+5) A++I1 (h.length+6+A.length) B):=⟨_,rfl⟩;have CN:Sk.length=6+A.length+B.length:=by rw[x2];simp[CZ,NO];lia
 rw[<-x2]at s2;have s3:Er "Run" "plan" (I 0) (Az Fk (Z (I 4) A1)) ρ (h++(⟨.ins "Run" ["net","books"],[.ref (h.length+3),.tup [.ref (h.length+5),.ref (h.length+6+A.length)]]⟩::Sk))=.ok (.AR ρ,h++(⟨.ins "Run" ["net","books","plan"],[.ref (h.length+3),.tup [.ref (h.length+5),.ref (h.length+6+A.length)],.ref (h.length+7+A.length+B.length)]⟩::(Sk++[⟨.lst,ps.map Ax⟩]))):=by
  refine NP Rb ?_ (by decide) rfl rfl;have Bk:Fk [.ref q] (h++(⟨.ins "Run" ["net","books"],[.ref (h.length+3),.tup [.ref (h.length+5),.ref (h.length+6+A.length)]]⟩::Sk))=_:=Vp (IB _ (Ch h AX _)) (by rw[CS];unfold B0;lia);simp only[G1,CM,Ce,v4,A3,Bk];have:(h++(⟨.ins "Run" ["net","books"],[.ref (h.length+3),.tup [.ref (h.length+5),.ref (h.length+6+A.length)]]⟩::Sk)).length=h.length+7+A.length+B.length:=by simp[CN];lia
  rw[this,F6];rfl
 obtain⟨OQ,x3⟩:∃X:A5,X=Sk++[⟨.lst,ps.map Ax⟩]:=⟨_,rfl⟩;have Os:OQ.length=7+A.length+B.length:=by rw[x3];simp[CN];lia
 rw[<-x3]at s3;obtain⟨us,Fq⟩:∃us:List W,us=[.ref (h.length+3),.tup [.ref (h.length+5),.ref (h.length+6+A.length)],.ref (h.length+7+A.length+B.length)]:=⟨_,rfl⟩;have s4:Er "Run" "done" (I 0) (By A1) ρ (h++(⟨.ins "Run" ["net","books","plan"],[.ref (h.length+3),.tup [.ref (h.length+5),.ref (h.length+6+A.length)],.ref (h.length+7+A.length+B.length)]⟩::OQ))=.ok (.AR ρ,h++(⟨.ins "Run" ["net","books","plan","done"],[.ref (h.length+3),.tup [.ref (h.length+5),.ref (h.length+6+A.length)],.ref (h.length+7+A.length+B.length),.ref (h.length+8+A.length+B.length)]⟩::(OQ++[⟨.lst,[]⟩]))):=by refine NP Rb ?_ (by decide) rfl rfl;rw[Mh,Ce,A3,H_ _ (by simp)];simp[Os];lia
 have s5:Er "Run" "came" (I 0) (pu (.int 0)) ρ (h++(⟨.ins "Run" ["net","books","plan","done"],[.ref (h.length+3),.tup [.ref (h.length+5),.ref (h.length+6+A.length)],.ref (h.length+7+A.length+B.length),.ref (h.length+8+A.length+B.length)]⟩::(OQ++[⟨.lst,[]⟩])))=.ok (.AR ρ,h++(⟨.ins "Run" ["net","books","plan","done","came"],[.ref (h.length+3),.tup [.ref (h.length+5),.ref (h.length+6+A.length)],.ref (h.length+7+A.length+B.length),.ref (h.length+8+A.length+B.length),.int 0]⟩::(OQ++[⟨.lst,[]⟩]++[]))):=by refine NP Rb ?_ (by decide) rfl rfl;rw[LU];rfl
 rw[LU]at s5;have s6:Er "Run" "letters" (I 0) (KN false) ρ (h++(⟨.ins "Run" ["net","books","plan","done","came"],[.ref (h.length+3),.tup [.ref (h.length+5),.ref (h.length+6+A.length)],.ref (h.length+7+A.length+B.length),.ref (h.length+8+A.length+B.length),.int 0]⟩::(OQ++[⟨.lst,[]⟩])))=.ok (.AR ρ,h++(⟨.ins "Run" ["net","books","plan","done","came","letters"],[.ref (h.length+3),.tup [.ref (h.length+5),.ref (h.length+6+A.length)],.ref (h.length+7+A.length+B.length),.ref (h.length+8+A.length+B.length),.int 0,.ref (h.length+8+A.length+B.length+1)]⟩::(OQ++[⟨.lst,[]⟩]++[⟨.Aj [],[]⟩]))):=by refine NP Rb ?_ (by decide) rfl rfl;have:∀h':A5,KN false ρ h'=.ok (.ref h'.length,h'++[⟨.Aj [],[]⟩]):=λh'=>rfl;rw[this];simp[Os];lia
 have s7:Er "Run" "ended" (I 0) (By A1) ρ (h++(⟨.ins "Run" ["net","books","plan","done","came","letters"],[.ref (h.length+3),.tup [.ref (h.length+5),.ref (h.length+6+A.length)],.ref (h.length+7+A.length+B.length),.ref (h.length+8+A.length+B.length),.int 0,.ref (h.length+8+A.length+B.length+1)]⟩::(OQ++[⟨.lst,[]⟩]++[⟨.Aj [],[]⟩])))=.ok (.AR ρ,h++(OW (h.length+3) (h.length+5) (h.length+6+A.length) (h.length+7+A.length+B.length) (h.length+8+A.length+B.length) 0::(OQ++[⟨.lst,[]⟩]++[⟨.Aj [],[]⟩]++[⟨.lst,[]⟩]))):=by refine NP Rb ?_ (by decide) rfl rfl (w:=.ref (h.length+8+A.length+B.length+2));rw[Mh,Ce,A3,H_ _ (by simp)];simp[Os];lia
 unfold YK;rw[B4,s0,A3,BA,B4,s1,A3,BA,B4,s2,A3,BA,B4,s3,A3,BA,B4,s4,A3,BA,B4,s5,A3,BA,B4,s6,A3,BA,s7,A3,jo];rw[x3,x2,x1,Ii];simp
end FU
namespace C0
open PySem PySem.Spec B6
def JC(o:Option W)(ρ:B9):F9:=match o with
 |some v=>.EA v
 |none=>.AR ρ
theorem ay{α β:Type}(p:α->Bool)(f:α->β):∀l:List α,l.findSome? (λa=>if p a=true then some (f a)else none)=(l.find? p).map f
 |[]=>rfl
 |a::l=>by
  rw[List.findSome?_cons,QT];cases h:p a
  .simpa using ay p f l
  .rfl
def ag{mi:Fv}{it:Gk}{g:D9}{b:Am}{ρ:B9}{h h0:A5}(n:Nat)(AV:n<1000)(wf:Nat->W)(BK:B9->Prop)(q:Nat->Option W)(AB:mi ρ h0=.ok (it,h))(hit:∀j,j<=n->it j h=some (if j<n then some (wf j)else none))(xk:BK ρ)(DY:∀j,j<n->∀ρ,BK ρ->∃CI Dd,g (wf j) ρ h=.ok (.AR CI,h)/\BK Dd/\b CI h=.ok (JC (q j) Dd,h)) :
  ∃EH,BK EH/\F2 mi g b ρ h0=.ok (JC ((CW n).findSome? q) EH,h):=by
 have:=ae (mi:=mi) (it:=it) (g:=g) (b:=b) (ρ:=ρ) (h:=h0) (h0:=h) n AV (λj ρ h'=>j<=n/\BK ρ/\h'=h/\(CW j).findSome? q=none)
  (T:=λf h'=>h'=h/\∃EH,BK EH/\f=JC ((CW n).findSome? q) EH) AB ⟨ID _,xk,rfl,rfl⟩ (by
  rintro j ρ _ ⟨Ap,i,rfl,e⟩;rw[hit j Ap];by_cases DS:j<n
  .obtain⟨CI,Dd,A9,Bm,AF⟩:=DY j DS ρ i;refine .inr ⟨wf j,by rw[if_pos DS],DS,CI,_,A9,?_⟩;rw[AF];cases eq:q j with
   |none=>simp only[JC,UT,XR];refine⟨DS,Bm,trivial,?_⟩;rw[Wx,eN,e];simp[eq]
   |some v=>
    simp only[JC,UT,r2];refine⟨trivial,Dd,Bm,?_⟩;have:(CW n).findSome? q=some v:=by
     have h2:CW n=CW j++(j::(List.range' (j+1) (n-(j+1)))):=by have:=List.range'_append_1 (s:=0) (m:=j) (n:=n-j);rw[Nat.zero_add,<-qx,show j+(n-j)=n by lia,<-qx]at this;rw[<-this,show n-j=(n-(j+1))+1 by lia,List.range'_succ]
     rw[h2,eN,e];simp[eq]
    rw[this]
  .have:j=n:=by lia
   subst this;refine .inl ⟨by rw[if_neg DS],rfl,ρ,i,?_⟩;rw[e];rfl)
 obtain⟨f,h',C8,rfl,EH,xj,rfl⟩:=this.H5;exact⟨EH,xj,C8⟩
def acd(n j:Nat)(h:A5):LH 0 n j h=some (if j<n then some (.int (j:Int))else none):=by simp[LH]
def yz{h:A5}{n:Nat}{α:Type}{f:α->W}{l:List α}{d:α}(e:h[n]?=some ⟨.lst,l.map f⟩)(j:Nat):GA (.ref n) j h=some (if j<l.length then some (f (l.getD j d))else none):=by
 rw[PZ e,Ed];by_cases Ap:j<l.length
 .rw[if_pos Ap,Cc Ap,EW,Cc Ap];rfl
 .rw[if_neg Ap,JV (by lia)];rfl
def uG{h:A5}{n:Nat}{α:Type}{f:α->W}{l:List α}{d:α}(e:h[n]?=some ⟨.lst,l.map f⟩)(j:Nat)(Ap:j<=l.length):PY (.ref n) j h=some (if j<l.length then some (.tup [.int (j:Int),f (l.getD j d)])else none):=by
 simp only[PY,Nm h e,CS];by_cases DS:j<l.length
 .rw[if_neg (by lia),if_pos DS,Ed,Cc DS,EW,Cc DS];rfl
 .rw[if_pos (by lia),if_neg DS]
@[simp] theorem ahg(f g k:D9)(x y z:W)(ρ:B9)(h:A5):Fs [f,g,k] (.tup [x,y,z]) ρ h=(f x ρ h).bind (OZ λρ h=>(g y ρ h).bind (OZ λρ h=>(k z ρ h).bind (OZ Bd))):=by
  simp only[Fs,T1,Df,Es,T9,B4];rw[if_pos trivial]
  congr
end C0
namespace FU
open PySem PySem.Spec B6 C0
def GQ(k:Nat):Nat:=[8,4,2,1].getD k 1
def Xi(x:Str)(a k:Nat):Bool:=x.cps.toList.getD k 0==120||x.cps.toList.getD k 0==48+a/GQ k%2
def Ml(x:Str)(a:Nat):Bool:=(CW 4).all (Xi x a)
def pK(k:Nat):0<GQ k:=by
 unfold GQ;by_cases h:k<4
 .rcases(by lia:k=0\/k=1\/k=2\/k=3)with rfl|rfl|rfl|rfl<;>decide
 .rw[EW,JV (by simp;lia)];decide
def acN{c:Nat}(s:Kr c)(b:Nat)(A2:b<2)(h:A5):DH true (.str ⟨#[c]⟩) (.tup [.str (AJ "x"),.str (toString ((b:Nat):Int))]) h=.ok (.AL (c==120||c==48+b),h):=by
 rw[UJ (d:=.str ⟨#[c]⟩) (t:=true) (ds:=[.str (AJ "x"),.str (toString ((b:Nat):Int))]) rfl (by simp[DD]) (by simp[DD])];have:b=0\/b=1:=by lia
 rcases this with rfl|rfl<;>rcases s with rfl|rfl|rfl<;>rfl
def acG(h:A5){k:Nat}(AO:k<4):AA (.ref h.length) (.int (k:Int)) (h++[⟨.lst,[.int 8,.int 4,.int 2,.int 1]⟩])=.ok (.int (GQ k:Nat),h++[⟨.lst,[.int 8,.int 4,.int 2,.int 1]⟩]):=by refine GZ (HH h _) ?_;rcases(by lia:k=0\/k=1\/k=2\/k=3)with rfl|rfl|rfl|rfl<;>rfl
def cc{x:Str}(p:Qi x){k:Nat}(AO:k<4):Kr (x.cps.toList.getD k 0):=by have Cs:=p.l;rw[EW,Cc (by lia)];exact p.s _ (LS _)
def acM{x:Str}(p:Qi x){k:Nat}(AO:k<4)(h:A5):AA (.str x) (.int (k:Int)) h=.ok (.str ⟨#[x.cps.toList.getD k 0]⟩,h):=by
 have Cs:=p.l;have e:J8 x.cps.toList (k:Int)=some (x.cps.toList.getD k 0):=by unfold J8 Lk;rw[if_pos (by lia),if_pos (by lia)];simp only[QK,eU,EW];rw[Cc (by lia)];rfl
 have BF:x.length<=B0:=by rw[str_len,Cs];decide
 show Q9 (.str x) (.int (k:Int)) h=_;unfold Q9;simp only[if_pos BF,e]
def tU(c:Nat)(s:Kr c)(h:A5):Au false (.str ⟨#[c]⟩) (.str (AJ "x")) h=.ok (.AL (!(c==120)),h):=by rw[kG];rcases s with rfl|rfl|rfl<;>rfl
def acC(h:A5){b:Nat}(A2:b<2):AA (.str (AJ "01")) (.int (b:Int)) h=.ok (.str ⟨#[48+b]⟩,h):=by
 have:b=0\/b=1:=by lia
 rcases this with rfl|rfl<;>rfl
def uL(c:Nat)(s:Kr c){b:Nat}(A2:b<2)(h:A5):Au false (.str ⟨#[c]⟩) (.str ⟨#[48+b]⟩) h=.ok (.AL (!(c==48+b)),h):=by
 rw[kG];have:b=0\/b=1:=by lia
 rcases this with rfl|rfl<;>rcases s with rfl|rfl|rfl<;>rfl
noncomputable def bV:Am:=AQ (Ac (Bb (A0 BV (A0 CY (I 1) (A0 AA (By (Z (pu (.int 8)) (Z (pu (.int 4)) (Z (pu (.int 2)) (Z (pu (.int 1)) A1))))) (I 2))) (pu (.int 2)))) (AD 3))
    (Bh (Fl (AY (A0 (Au false) (A0 AA (I 0) (I 2)) (pu (.str (AJ "x"))))) (AY (A0 (Au false) (A0 AA (I 0) (I 2)) (A0 AA (pu (.str (AJ "01"))) (I 3))))) (B2 (pu (.AL false))) Bd)
def pJ(k:Nat):GQ k<=8:=by
 unfold GQ;by_cases h:k<4
 .rcases(by lia:k=0\/k=1\/k=2\/k=3)with rfl|rfl|rfl|rfl<;>decide
 .rw[EW,JV (by simp;lia)];decide
def range_all{n:Nat}{p:Nat->Bool}{v:W}:(CW n).findSome? (λj=>if p j=true then none else some v)=if(CW n).all p=true then none else some v:=by
 induction n with
 |zero=>rfl
 |succ n C9=>rw[Wx,eN,C9,List.all_append];cases(CW n).all p<;>cases h:p n<;>simp[h]
def yO{x:Str}(p:Qi x)(a:Nat)(h:A5):TR [.str x,.int (a:Int)] h=.ok (.AL (Ml x a),h):=by
 obtain⟨EH,_,e⟩:=ag (mi:=Dc (Z (pu (.int 4)) A1)) (g:=AD 2) (b:=bV) (ρ:=[some (.str x),some (.int (a:Int)),none,none]) (h:=h) (h0:=h) 4 (by lia) (λj=>.int (j:Int)) (λρ=>∃s t,ρ=[some (.str x),some (.int (a:Int)),s,t]) (λj=>if Xi x a j=true then none else some (.AL false)) (LG (n:=4) (by simp) (by lia)) (λj _=>acd 4 j h) ⟨none,none,rfl⟩ (by
  rintro j Ap _ ⟨s,t,rfl⟩;have FX:a/GQ j%2<2:=U7 _ (by lia);have q:=pK j;have Pl:=pJ j;refine⟨[some (.str x),some (.int (a:Int)),some (.int (j:Int)),t],[some (.str x),some (.int (a:Int)),some (.int (j:Int)),some (.int ((a/GQ j%2:Nat):Int))],by simp,⟨_,_,rfl⟩,?_⟩;have Bk:(0:Int)<(GQ j:Int)/\(GQ j:Int)<1073741824:=by lia
  have s1:Ac (Bb (A0 BV (A0 CY (I 1) (A0 AA (By (Z (pu (.int 8)) (Z (pu (.int 4)) (Z (pu (.int 2)) (Z (pu (.int 1)) A1))))) (I 2))) (pu (.int 2)))) (AD 3) [some (.str x),some (.int (a:Int)),some (.int (j:Int)),t] h=.ok (.AR [some (.str x),some (.int (a:Int)),some (.int (j:Int)),some (.int ((a/GQ j%2:Nat):Int))],h):=by have EO:=acG h Ap;simp only[Do,FO,Bg,Mh,CM,Ce,v_var,Bw,DM,ED,Ci,A3,H_ h (show([.int 8,.int 4,.int 2,.int 1]:List W).length<=B0 by decide),EO,MX,if_pos Bk,Kh,if_pos (show(0:Int)<2 by decide)];rw[WP _ _ _ (by simp)];simp
  have x1:=acM p Ap h;unfold bV;rw[B4,s1,A3,BA,Dj];simp only[v_and,HA,Bg,v_var,Bw,DM,ED,Ci,A3,x1,tU _ (cc p Ap),HE,acC h FX,uL _ (cc p Ap) FX];have C8:Xi x a j=(x.cps.toList.getD j 0==120||x.cps.toList.getD j 0==48+a/GQ j%2):=rfl;rw[C8];cases h1:x.cps.toList.getD j 0==120<;>cases h2:x.cps.toList.getD j 0==48+a/GQ j%2<;>simp[JC])
 have CC:TR [.str x,.int (a:Int)] h=((AQ (F2 (Dc (Z (pu (.int 4)) A1)) (AD 2) bV) (B2 (pu (.AL true))) [some (.str x),some (.int (a:Int)),none,none] h).bind outF).bind λp=>settle h p.1 p.2:=rfl;rw[CC,B4,e,range_all];unfold Ml;cases(CW 4).all (Xi x a)<;>simp[JC]
def WB(x:Str)(k:Nat):W:=.tup [.str ⟨#[x.cps.toList.getD k 0]⟩,.int (GQ k:Nat)]
def aL(a:Nat):W->Bool
 |.tup [.str s,.int v]=>s.cps.toList.getD 0 0==120||s.cps.toList.getD 0 0==48+a/v.toNat%2
 |_=>false
def g9{a:Nat}(AE:a<16)(h:A5):TL [.int (a:Int)] h=.ok (.AL true,h):=by have w:=TD (a:Int) 0 15 h;rw[decide_eq_true (show(0:Int)<=(a:Int)by lia),decide_eq_true (show(a:Int)<=15 by lia)]at w;simp[TL,fD,V0,w]
def uo{x:Str}(p:Qi x){a:Nat}(AE:a<16)(h:A5):VI [.str x,.int (a:Int)] h=.ok (.AL (Ml x a),h):=by
 have Cs:=p.l;have al:=fY (mi:=VC (Z (I 0) (Z (pu O6) A1))) (it:=aE x [.int 8,.int 4,.int 2,.int 1]) (g:=Fs [(AD 0),(AD 1)]) (e:=A0 (DH true) (I 0) (BQ (Z (pu (.str (AJ "x"))) (Z (Az Pq (Z (A0 BV (A0 CY (I 2) (I 1)) (pu (.int 2))) A1)) A1)))) (ρ:=[some (.str x),some (.int (a:Int))]) (h:=h) (nl:=2) (caps:=[1]) ((CW 4).map (WB x)) (aL a) (λρ=>∃s t,ρ=[s,t,some (.int (a:Int))]) (by simp) (by simp[VC,O6]) ⟨none,none,rfl⟩ (λj acc Ap=>by
   simp only[CS,ei]at Ap;have AN:x.cps.size=4:=Cs;unfold aE;simp only[AN,Df,Es];by_cases DS:j<4
   .rw[if_neg (by lia)];rw[Ed,Tr DS,LL (by lia)];rcases(by lia:j=0\/j=1\/j=2\/j=3)with rfl|rfl|rfl|rfl<;>simp[WB,GQ,AN]
   .have:j=4:=by lia
    subst this;rfl) (by
  rintro w hw ρ acc ⟨s,t,rfl⟩;obtain⟨k,AO,rfl⟩:=List.mem_map.mp hw;have AO:=List.mem_range.mp AO;have q:=pK k;have Pl:=pJ k;have FX:a/GQ k%2<2:=U7 _ (by lia);refine⟨[some (.str ⟨#[x.cps.toList.getD k 0]⟩),some (.int (GQ k:Nat)),some (.int (a:Int))],by simp[WB],⟨_,_,rfl⟩,?_⟩;have Bk:(0:Int)<(GQ k:Int)/\(GQ k:Int)<1073741824:=by lia
  have AF:(a:Int)/(GQ k:Int)%2=((a/GQ k%2:Nat):Int):=by simp
  have st:∀g:A5,Pq [.int ((a/GQ k%2:Nat):Int)] g=.ok (.str (toString ((a/GQ k%2:Nat):Int)),g):=λg=>by unfold Pq;dsimp only;rw[if_pos];rcases(by lia:a/GQ k%2=0\/a/GQ k%2=1)with e|e<;>rw[e]<;>decide
  simp only[Bg,Pu,CM,Ce,G1,v_var,Bw,DM,ED,Ci,A3,MX,if_pos Bk,Kh,if_pos (show(0:Int)<2 by decide),AF,st];rw[if_pos (by simp[B0]),A3,acN (cc p AO) _ FX];simp[aL,WB])
 have BY:((CW 4).map (WB x)).all (aL a)=Ml x a:=by
  unfold Ml;rw[Rx]
  congr 1
 rw[BY]at al;have rN:Bb (Az (I9 true) (Z (Dw 2 [1] (VC (Z (I 0) (Z (pu O6) A1))) (Fs [(AD 0),(AD 1)]) (pu true) (A0 (DH true) (I 0) (BQ (Z (pu (.str (AJ "x"))) (Z (Az Pq (Z (A0 BV (A0 CY (I 2) (I 1)) (pu (.int 2))) A1)) A1))))) A1)) [some (.str x),some (.int (a:Int))] h=.ok (.AL (Ml x a),h):=by rw[FO,al];simp
 simp[-FO,VI,fC,lQ p,g9 AE,rN]
end FU
namespace C0
open PySem PySem.Spec B6
def um{n:Nat}{p:Nat->Bool}{k:Nat}(h:(CW n).find? p=some k):k<n/\p k=true:=⟨List.mem_range.mp (qZ h),List.find?_some h⟩
end C0
namespace FU
open PySem PySem.Spec B6 C0
def IK:Cu:=⟨AJ "",none,none⟩
def M_(i a:Nat)(r:Cu):Bool:=(r.a.isNone||r.a==some i)&&Ml r.p a
def SM(BU:List Cu)(i a:Nat):Option Nat:=(CW BU.length).find? λj=>M_ i a (BU.getD j IK)
inductive Tl where
 |at (d:Ad)|drop (h:Nat)|out (d:Ad)|Ov (h:Nat)
noncomputable def CQ:Tl->W
 |.at d=>.tup [.str (AJ "at"),.int (d.1:Int),.int (d.2:Int)]
 |.drop h=>.tup [.str (AJ "drop"),.int (h:Int)]
 |.out d=>.tup [.str (AJ "out"),.int (d.1:Int),.int (d.2:Int)]
 |.Ov h=>.tup [.str (AJ "lost"),.int (h:Int)]
@[simp] theorem ahz(t:Tl):DL (CQ t)=true:=by cases t<;>simp[CQ]
def Ki(ws:List (Ad×Ad))(h:Nat):Option Nat->Tl
 |none=>.drop h
 |some o=>match EM ws (h,o)with
  |none=>.out (h,o)
  |some e=>.at e
def OT(ws:List (Ad×Ad))(BU:List Cu)(d:Ad)(a:Nat):Tl:=match SM BU d.2 a with
 |none=>.drop d.1
 |some k=>Ki ws d.1 (BU.getD k IK).b
def j3(h:A5)(o:Option Nat):EN true (D0 o) .non h=.ok (.AL o.isNone,h):=by cases o<;>rfl
def iU(h:A5)(o:Option Nat)(i:Nat)(ho:o.isNone=false):Au true (D0 o) (.int (i:Int)) h=.ok (.AL (o==some i),h):=by
 cases o with
 |none=>cases ho
 |some k=>
  rw[D0,V4]
  congr 3
  by_cases e:k=i
  .subst e;simp
  .have:¬(k:Int)=(i:Int):=by lia
   simp[e,this]
def getD_mem{α:Type}{l:List α}{k:Nat}{d:α}(h:k<l.length):l.getD k d∈l:=by rw[EW,Cc h];exact LS _
noncomputable def dr:Am:=Bh (Fl (FL (AY (A0 (EN true) (A0 AA (I 4) (pu (.int 1))) (pu (.non)))) (AY (A0 (Au true) (A0 AA (I 4) (pu (.int 1))) (I 1)))) (AY (Ah 2 VI (Z (A0 AA (I 4) (pu (.int 0))) (Z (I 2) A1))))) (B2 (I 3)) Bd
def ada{c:Nat}{BU:List Cu}(ok:LB c BU){h:A5}{b i a:Nat}(AE:a<16)(BF:h[b]?=some (FT BU)):VS [.ref b,.int (i:Int),.int (a:Int)] h=.ok (D0 (SM BU i a),h):=by
 have yi:=ok.1;obtain⟨EH,_,e⟩:=ag (mi:=Pa (Z (I 0) A1)) (it:=PY (.ref b)) (g:=Fs [(AD 3),(AD 4)]) (b:=dr) (ρ:=[some (.ref b),some (.int (i:Int)),some (.int (a:Int)),none,none]) (h:=h) (h0:=h) BU.length (by lia) (λj=>.tup [.int (j:Int),ER (BU.getD j IK)]) (λρ=>∃s t,ρ=[some (.ref b),some (.int (i:Int)),some (.int (a:Int)),s,t]) (λj=>if M_ i a (BU.getD j IK)=true then some (.int (j:Int))else none) (by simp[Pa,Nm h BF]) (λj Ap=>uG BF j Ap) ⟨none,none,rfl⟩ (by
  rintro j Ap _ ⟨s,t,rfl⟩;obtain⟨r,B5⟩:∃r,r=BU.getD j IK:=⟨_,rfl⟩;have d3:=ok.2 r (B5▸getD_mem Ap);rw[<-B5];refine⟨[some (.ref b),some (.int (i:Int)),some (.int (a:Int)),some (.int (j:Int)),some (ER r)],[some (.ref b),some (.int (i:Int)),some (.int (a:Int)),some (.int (j:Int)),some (ER r)],by simp,⟨_,_,rfl⟩,?_⟩;have x0:AA (ER r) (.int 0) h=.ok (.str r.p,h):=Ff h _ _;have x1:AA (ER r) (.int 1) h=.ok (D0 r.a,h):=JG h _ _ _;have RX:=uo d3.p AE h;unfold dr;rw[Dj];simp only[v_and,v_or,HA,Bg,IW,CM,Ce,v_var,Bw,DM,ED,Ci,A3,x0,x1,j3,HE,RX,Df,Es,Gr,if_true];unfold M_;cases h1:r.a.isNone
  .simp only[M6,if_false,iU h _ i h1,A3,HE,eu];cases h2:r.a==some i<;>cases BH:Ml r.p a<;>simp[JC,x0,RX,BH]
  .cases BH:Ml r.p a<;>simp[JC,x0,RX,BH])
 rw[ay (λj=>M_ i a (BU.getD j IK)) (λj:Nat=>W.int (j:Int))]at e;have CC:VS [.ref b,.int (i:Int),.int (a:Int)] h=((AQ (F2 (Pa (Z (I 0) A1)) (Fs [(AD 3),(AD 4)]) dr) (B2 (pu (.non))) [some (.ref b),some (.int (i:Int)),some (.int (a:Int)),none,none] h).bind outF).bind λp=>settle h p.1 p.2:=rfl;rw[CC,B4,e];unfold SM;cases(CW BU.length).find? λj=>M_ i a (BU.getD j IK)<;>simp[JC,D0]
def za{cs:List Nat}{ws:List (Ad×Ad)}{h:A5}{n:Nat}(A:J7 h n cs ws)(d:Ad):R7 [.ref n,Aa d] h=.ok (I8 (EM ws d),h):=by
 obtain⟨f,A9,AF⟩:=A.ex;have f1:Ba "Net" "far" (.ref n) h=.ok (.ref f,h):=FK A9 rfl;have sN:Oo h (.ref f)=true:=by unfold Oo;simp only[AF,HG]
 have q:Vt (BM (Ba "Net" "far") (I 0)) (I 1) [some (.ref n),some (Aa d)] h=.ok (I8 (EM ws d),h):=by unfold Vt;simp only[IV,Jv,v_var,DM,Ci,A3,f1,Q8,sN,if_true,ED,bO AF];cases EM ws d<;>rfl
 simp[R7,ff,q]
def abD{cs:List Nat}{ws:List (Ad×Ad)}{h:A5}{n b a c:Nat}{BU:List Cu}(A:J7 h n cs ws)(ok:LB c BU)(BF:h[b]?=some (FT BU))(AE:a<16)(d:Ad):VP [.ref n,.ref b,Aa d,.int (a:Int)] h=.ok (CQ (OT ws BU d a),h):=by
 obtain⟨f,A9,AF⟩:=A.ex;have x0:AA (Aa d) (.int 0) h=.ok (.int (d.1:Int),h):=Ff h _ _;have x1:AA (Aa d) (.int 1) h=.ok (.int (d.2:Int),h):=JG h _ _ _;have CL:=ada ok (i:=d.2) AE BF;have s1:Ac (Ah 3 VS (Z (I 1) (Z (A0 AA (I 2) (pu (.int 1))) (Z (I 3) A1)))) (AD 4) [some (.ref n),some (.ref b),some (Aa d),some (.int (a:Int)),none,none,none] h=.ok (.AR [some (.ref n),some (.ref b),some (Aa d),some (.int (a:Int)),some (D0 (SM BU d.2 a)),none,none],h):=by simp only[Do,IW,CM,Ce,Bg,v_var,Bw,DM,ED,Ci,A3,x1,Df,Es,Gr,if_true,CL];rfl
 have CC:VP [.ref n,.ref b,Aa d,.int (a:Int)] h=((Xy [some (.ref n),some (.ref b),some (Aa d),some (.int (a:Int)),none,none,none] h).bind outF).bind λp=>settle h p.1 p.2:=rfl;rw[CC];unfold Xy;rw[B4,s1,A3,BA]
 have tail:∀(t:Option Nat)(s4:Option W),((AQ (Bh (AY (A0 (EN true) (I 5) (pu (.non)))) (B2 (BQ (Z (pu (.str (AJ "drop"))) (Z (A0 AA (I 2) (pu (.int 0))) A1)))) Bd)
  (AQ (Ac (C_ "Net" "beyond" 1 R7 (I 0) (Z (BQ (Z (A0 AA (I 2) (pu (.int 0))) (Z (I 5) A1))) A1)) (AD 6))
  (AQ (Bh (AY (A0 (EN true) (I 6) (pu (.non)))) (B2 (BQ (Z (pu (.str (AJ "out"))) (Z (A0 AA (I 2) (pu (.int 0))) (Z (I 5) A1))))) Bd)
  (B2 (BQ (Z (pu (.str (AJ "at"))) (Z (A0 AA (I 6) (pu (.int 0))) (Z (A0 AA (I 6) (pu (.int 1))) A1)))))))) [some (.ref n),some (.ref b),some (Aa d),some (.int (a:Int)),s4,some (D0 t),none] h)=.ok (.EA (CQ (Ki ws d.1 t)),h):=by
  intro t s4;cases t with
  |none=>simp[D0,EN,Ng,x0,B0,Ki,CQ]
  |some o=>
   have nb:=za A (d.1,o);have FE:C_ "Net" "beyond" 1 R7 (I 0) (Z (BQ (Z (A0 AA (I 2) (pu (.int 0))) (Z (I 5) A1))) A1) [some (.ref n),some (.ref b),some (Aa d),some (.int (a:Int)),s4,some (D0 (some o)),none] h=.ok (I8 (EM ws (d.1,o)),h):=L6 (us:=[Aa (d.1,o)]) rfl A9 rfl (by rw[show Aa (d.1,o)=.tup [.int (d.1:Int),.int (o:Int)]from rfl];simp[x0,B0,D0]) rfl nb;have s6:Ac (C_ "Net" "beyond" 1 R7 (I 0) (Z (BQ (Z (A0 AA (I 2) (pu (.int 0))) (Z (I 5) A1))) A1)) (AD 6) [some (.ref n),some (.ref b),some (Aa d),some (.int (a:Int)),s4,some (D0 (some o)),none] h=.ok (.AR [some (.ref n),some (.ref b),some (Aa d),some (.int (a:Int)),s4,some (D0 (some o)),some (I8 (EM ws (d.1,o)))],h):=by rw[Do,FE];rfl
   have Me:AY (A0 (EN true) (I 5) (pu (.non))) [some (.ref n),some (.ref b),some (Aa d),some (.int (a:Int)),s4,some (D0 (some o)),none] h=.ok (false,h):=rfl;rw[B4,Dj,Me,A3,if_neg (by simp),Fg,A3,BA,B4,s6,A3,BA];cases BF:EM ws (d.1,o)with
   |none=>simp[I8,EN,Ng,x0,B0,Ki,BF,CQ,D0]
   |some e=>have agW:AA (Aa e) (.int 0) h=.ok (.int (e.1:Int),h):=Ff h _ _;have Mk:AA (Aa e) (.int 1) h=.ok (.int (e.2:Int),h):=JG h _ _ _;have Lw:AY (A0 (EN true) (I 6) (pu (.non))) [some (.ref n),some (.ref b),some (Aa d),some (.int (a:Int)),s4,some (D0 (some o)),some (I8 (some e))] h=.ok (false,h):=rfl;rw[B4,Dj,Lw,A3,if_neg (by simp),Fg,A3,BA];simp[I8,agW,Mk,B0,Ki,BF,CQ]
 unfold OT;cases C8:SM BU d.2 a with
 |none=>have s2:Ac (Nn (AY (A0 (EN true) (I 4) (pu (.non)))) (pu (.non)) (A0 AA (A0 AA (I 1) (I 4)) (pu (.int 2)))) (AD 5) [some (.ref n),some (.ref b),some (Aa d),some (.int (a:Int)),some (D0 none),none,none] h=.ok (.AR [some (.ref n),some (.ref b),some (Aa d),some (.int (a:Int)),some (D0 none),some (D0 none),none],h):=rfl;rw[B4,s2,A3,BA,tail none];simp[Ki]
 |some k=>
  have AO:=(um C8).1;have FP:AA (.ref b) (.int (k:Int)) h=.ok (ER (BU.getD k IK),h):=GZ BF (by rw[Ed,Cc AO,EW,Cc AO];rfl);have Eg:AA (ER (BU.getD k IK)) (.int 2) h=.ok (D0 (BU.getD k IK).b,h):=Ve h _ _ _ _;have di:AY (A0 (EN true) (I 4) (pu (.non))) [some (.ref n),some (.ref b),some (Aa d),some (.int (a:Int)),some (D0 (some k)),none,none] h=.ok (false,h):=rfl;have s2:Ac (Nn (AY (A0 (EN true) (I 4) (pu (.non)))) (pu (.non)) (A0 AA (A0 AA (I 1) (I 4)) (pu (.int 2)))) (AD 5) [some (.ref n),some (.ref b),some (Aa d),some (.int (a:Int)),some (D0 (some k)),none,none] h=.ok (.AR [some (.ref n),some (.ref b),some (Aa d),some (.int (a:Int)),some (D0 (some k)),some (D0 (BU.getD k IK).b),none],h):=by rw[Do,adQ,di,A3,if_neg (by simp)];simp only[Bg,v_var,Bw,DM,ED,Ci,A3,D0,FP,Eg];rfl
  rw[B4,s2,A3,BA,tail];simp
noncomputable def bY:Am:=Bh (Fl (AY (Ah 2 TR (Z (I 4) (Z (I 3) A1)))) (FL (AY (A0 (EN true) (I 5) (pu (.non)))) (AY (A0 (Au true) (I 5) (A0 AA (I 2) (pu (.int 1))))))) (AQ (Bh (AY (A0 (EN true) (I 6) (pu (.non)))) (B2 (BQ (Z (pu (.str (AJ "drop"))) (Z (A0 AA (I 2) (pu (.int 0))) A1)))) Bd)
    (AQ (Ac (Ah 2 Pe (Z (I 0) (Z (BQ (Z (A0 AA (I 2) (pu (.int 0))) (Z (I 6) A1))) A1))) (AD 7))
    (AQ (Bh (AY (A0 (EN true) (I 7) (pu (.non)))) (B2 (BQ (Z (pu (.str (AJ "out"))) (Z (A0 AA (I 2) (pu (.int 0))) (Z (I 6) A1))))) Bd)
    (B2 (A0 addW (BQ (Z (pu (.str (AJ "at"))) A1)) (I 7)))))) Bd
def zm{ws:List (Ad×Ad)}(few:ws.length<100){h:A5}{n b a c:Nat}{BU:List Cu}(As:h[n]?=some ⟨.lst,ws.map CA⟩)(ok:LB c BU)(BF:h[b]?=some (FT BU))(d:Ad):TW [.ref n,.ref b,Aa d,.int (a:Int)] h=.ok (CQ (OT ws BU d a),h):=by
 have yi:=ok.1;have x0:AA (Aa d) (.int 0) h=.ok (.int (d.1:Int),h):=Ff h _ _;have x1:AA (Aa d) (.int 1) h=.ok (.int (d.2:Int),h):=JG h _ _ _;obtain⟨EH,⟨s,t,u,v,rfl⟩,e⟩:=ag (mi:=E8 (I 1)) (it:=GA (.ref b)) (g:=Fs [(AD 4),(AD 5),(AD 6)]) (b:=bY) (ρ:=[some (.ref n),some (.ref b),some (Aa d),some (.int (a:Int)),none,none,none,none]) (h:=h) (h0:=h) BU.length (by lia) (λj=>ER (BU.getD j IK)) (λρ=>∃s t u v,ρ=[some (.ref n),some (.ref b),some (Aa d),some (.int (a:Int)),s,t,u,v]) (λj=>if M_ d.2 a (BU.getD j IK)=true then some (CQ (Ki ws d.1 (BU.getD j IK).b))else none) (Mu BF (by simp)) (λj Ap=>yz BF j) ⟨none,none,none,none,rfl⟩ (by
  rintro j Ap _ ⟨s,t,u,v,rfl⟩;obtain⟨r,B5⟩:∃r,r=BU.getD j IK:=⟨_,rfl⟩;have d3:=ok.2 r (B5▸getD_mem Ap);rw[<-B5];refine⟨[some (.ref n),some (.ref b),some (Aa d),some (.int (a:Int)),some (.str r.p),some (D0 r.a),some (D0 r.b),v],[some (.ref n),some (.ref b),some (Aa d),some (.int (a:Int)),some (.str r.p),some (D0 r.a),some (D0 r.b),v],by simp[ER],⟨_,_,_,_,rfl⟩,?_⟩;have RX:=yO d3.p a h;have Gh:Fl (AY (Ah 2 TR (Z (I 4) (Z (I 3) A1)))) (FL (AY (A0 (EN true) (I 5) (pu (.non)))) (AY (A0 (Au true) (I 5) (A0 AA (I 2) (pu (.int 1)))))) [some (.ref n),some (.ref b),some (Aa d),some (.int (a:Int)),some (.str r.p),some (D0 r.a),some (D0 r.b),v] h=.ok (M_ d.2 a r,h):=by
   simp only[v_and,v_or,HA,Bg,IW,CM,Ce,v_var,Bw,DM,ED,Ci,A3,x1,j3,HE,RX,Df,Es,Gr,if_true];unfold M_;cases h1:r.a.isNone
   .simp only[M6,if_false,iU h _ d.2 h1,A3,HE,eu];cases h2:r.a==some d.2<;>cases BH:Ml r.p a<;>simp
   .cases BH:Ml r.p a<;>simp
  unfold bY;rw[Dj,Gh,A3];cases B7:M_ d.2 a r
  .simp[JC]
  .rw[if_pos rfl,if_pos rfl];cases F3:r.b with
   |none=>simp[D0,EN,Ng,x0,B0,Ki,CQ,JC]
   |some o=>
    have nb:=hT few As (d.1,o);have s7:Ac (Ah 2 Pe (Z (I 0) (Z (BQ (Z (A0 AA (I 2) (pu (.int 0))) (Z (I 6) A1))) A1))) (AD 7) [some (.ref n),some (.ref b),some (Aa d),some (.int (a:Int)),some (.str r.p),some (D0 r.a),some (D0 (some o)),v] h=.ok (.AR [some (.ref n),some (.ref b),some (Aa d),some (.int (a:Int)),some (.str r.p),some (D0 r.a),some (D0 (some o)),some (I8 (EM ws (d.1,o)))],h):=by simp only[Aa]at nb;simp[x0,B0,D0,nb]
    have Lw:AY (A0 (EN true) (I 6) (pu (.non))) [some (.ref n),some (.ref b),some (Aa d),some (.int (a:Int)),some (.str r.p),some (D0 r.a),some (D0 (some o)),v] h=.ok (false,h):=rfl;rw[B4,Dj,Lw,A3,if_neg (by simp),Fg,A3,BA,B4,s7,A3,BA];cases BF:EM ws (d.1,o)with
    |none=>simp[I8,EN,Ng,x0,B0,Ki,BF,CQ,D0,JC]
    |some e=>have Ze:AY (A0 (EN true) (I 7) (pu (.non))) [some (.ref n),some (.ref b),some (Aa d),some (.int (a:Int)),some (.str r.p),some (D0 r.a),some (D0 (some o)),some (I8 (some e))] h=.ok (false,h):=rfl;rw[B4,Dj,Ze,A3,if_neg (by simp),Fg,A3,BA];have ad:addW (.tup [.str (AJ "at")]) (Aa e) h=.ok (CQ (.at e),h):=rfl;simp[I8,B0,Ki,BF,JC,ad])
 rw[ay (λj=>M_ d.2 a (BU.getD j IK)) (λj:Nat=>CQ (Ki ws d.1 (BU.getD j IK).b))]at e;have CC:TW [.ref n,.ref b,Aa d,.int (a:Int)] h=((AQ (F2 (E8 (I 1)) (Fs [(AD 4),(AD 5),(AD 6)]) bY) (B2 (BQ (Z (pu (.str (AJ "drop"))) (Z (A0 AA (I 2) (pu (.int 0))) A1)))) [some (.ref n),some (.ref b),some (Aa d),some (.int (a:Int)),none,none,none,none] h).bind outF).bind λp=>settle h p.1 p.2:=rfl;rw[CC,B4,e];unfold OT SM;cases(CW BU.length).find? λj=>M_ d.2 a (BU.getD j IK)with
 |none=>simp[JC,x0,B0,CQ]
 |some k=>simp[JC]
end FU
namespace C0
open PySem PySem.Spec B6
section
variable{Bj:Type}[DecidableEq Bj]
theorem W1{k:Bj}{bs:List Bj}{w:W}{vs:List W}:∀{as:List Bj}{us:List W},k∉as->as.length=us.length->DW (as++k::bs) (us++w::vs) k=some w
 |[],[],_,_=>by simp[DW]
 |a::as,u::us,n,l=>by have DC:a≠k:=λz=>n (z▸Gq ..);simp only[HU,DW,if_neg DC];exact W1 (λz=>n (GF _ z)) (by simpa using l)
theorem pD{k:Bj}:∀{as:List Bj}{us:List W},k∉as->DW as us k=none
 |[],us,_=>by cases us<;>rfl
 |a::as,[],_=>rfl
 |a::as,u::us,n=>by have DC:a≠k:=λz=>n (z▸Gq ..);simp only[DW,if_neg DC];exact pD (λz=>n (GF _ z))
theorem mc{k:Bj}{x:W}:∀{as:List Bj}{us:List W},k∉as->as.length=us.length->NU as us k x=us
 |[],[],_,_=>rfl
 |a::as,u::us,n,l=>by have DC:a≠k:=λz=>n (z▸Gq ..);simp only[NU,if_neg DC];rw[mc (λz=>n (GF _ z)) (by simpa using l)]
theorem mb{k:Bj}{bs:List Bj}{w x:W}{vs:List W}(nb:k∉bs)(JH:bs.length=vs.length):∀{as:List Bj}{us:List W},k∉as->as.length=us.length->NU (as++k::bs) (us++w::vs) k x=us++x::vs
 |[],[],_,_=>by simp[NU,mc nb JH]
 |a::as,u::us,n,l=>by have DC:a≠k:=λz=>n (z▸Gq ..);simp only[HU,NU,if_neg DC];rw[mb nb JH (λz=>n (GF _ z)) (by simpa using l)]
theorem gj{k:Bj}:∀{as:List Bj}{us:List W},k∉as->as.length=us.length->ND as us k=us
 |[],[],_,_=>rfl
 |a::as,u::us,n,l=>by have DC:a≠k:=λz=>n (z▸Gq ..);simp only[ND,if_neg DC];rw[gj (λz=>n (GF _ z)) (by simpa using l)]
theorem gi{k:Bj}{bs:List Bj}{w:W}{vs:List W}(nb:k∉bs)(JH:bs.length=vs.length):∀{as:List Bj}{us:List W},k∉as->as.length=us.length->ND (as++k::bs) (us++w::vs) k=us++vs
 |[],[],_,_=>by simp[ND,gj nb JH]
 |a::as,u::us,n,l=>by have DC:a≠k:=λz=>n (z▸Gq ..);simp only[HU,ND,if_neg DC];rw[gi nb JH (λz=>n (GF _ z)) (by simpa using l)]
def uu{k:Bj}{as bs:List Bj}(na:k∉as)(nb:k∉bs):(as++k::bs).filter (λx=>decide (x≠k))=as++bs:=by
 rw[List.filter_append,QF,if_neg (by simp),List.filter_eq_self.mpr,List.filter_eq_self.mpr]
 .exact λa h=>by simpa using λz:a=k=>nb (z▸h)
 .exact λa h=>by simpa using λz:a=k=>na (z▸h)
end
def bt{h:A5}{n:Nat}{us:List W}{w:W}(e:h[n]?=some ⟨.lst,us++[w]⟩):AA (.ref n) (.int (-1)) h=.ok (w,h):=by
 have FC:Gz h (.ref n) (.int (-1))=none:=by simp only[Gz,e]
 have A9:J8 (us++[w]) (-1)=some w:=by
  unfold J8 Lk;rw[if_neg (by lia),if_pos (by simp;lia)];have:(-1+((us++[w]).length:Int)).toNat=us.length:=by simp;lia
  simp only[eU,this];simp
 unfold AA;rw[FC];unfold Q9;simp only[IB h e,A9]
def Y4{h:A5}{n:Nat}{AI:List Key}{vs:List W}(e:h[n]?=some ⟨.Aj AI,vs⟩)(i:Int):Gz h (.ref n) (.int i)=some (DW AI vs (.inl i)):=by simp only[Gz,e,keyOf,U1]
def gd{h:A5}{n:Nat}{AI:List Key}{vs:List W}{i:Int}{v:W}{ρ:B9}(e:h[n]?=some ⟨.Aj AI,vs⟩)(Qm: .inl i∉AI)(l:vs.length<B0):MQ (.ref n) (.int i) v ρ h=.ok (.AR ρ,h.set n ⟨.Aj (AI++[.inl i]),vs++[v]⟩):=by unfold MQ;simp only[e,keyOf,if_pos l,MY,if_neg Qm]
def sQ{h:A5}{n:Nat}{as bs:List Key}{us vs:List W}{i:Int}{w v:W}{ρ:B9}(e:h[n]?=some ⟨.Aj (as++.inl i::bs),us++w::vs⟩)(na: .inl i∉as)(nb: .inl i∉bs)(HI:as.length=us.length)(JH:bs.length=vs.length)(l:(us++w::vs).length<B0):MQ (.ref n) (.int i) v ρ h=.ok (.AR ρ,h.set n ⟨.Aj (as++.inl i::bs),us++v::vs⟩):=by unfold MQ;simp only[e,keyOf,if_pos l,MY];rw[if_pos (by simp),mb nb JH na HI]
def gc{h:A5}{n:Nat}{as bs:List Key}{us vs:List W}{i:Int}{w:W}{ρ:B9}(e:h[n]?=some ⟨.Aj (as++.inl i::bs),us++w::vs⟩)(na: .inl i∉as)(nb: .inl i∉bs)(HI:as.length=us.length)(JH:bs.length=vs.length):UP (.ref n) (.int i) ρ h=.ok (w,h.set n ⟨.Aj (as++bs),us++vs⟩):=by unfold UP;simp only[e,keyOf];rw[W1 na HI,uu na nb,gi nb JH na HI]
def q5(d k:B3)(ρ:B9)(h:A5):R6 d k ρ h=(d ρ h).bind λp=>Q8 p.1 (bd k λkw=>UP p.1 kw) ρ p.2:=rfl
end C0
namespace FU
open PySem PySem.Spec B6 C0
def NW:Ck->DK
 |none=>.Dn true [.str (AJ "wait")]
 |some p=>.Dn true [.str (Gp p.1),.int (p.2:Int)]
def mS(k:Nat)(h:A5)(s:Ck):DD (k+2) h (Ax s)=some (NW s):=by cases s<;>simp[Ax,DD,NW]
def iV{s:Ck}{k hh:Nat}(AO:k<3)(AN:∀p,s=some p->p.1<3):eqT (NW s) (.Dn true [.str (Gp k),.int (hh:Int)])=decide (s=some (k,hh)):=by
 cases s with
 |none=>simp[NW,eqT,G8]
 |some p=>
  have BH:=AN p rfl;simp only[NW,eqT,G8,List.isEmpty_nil,Bool.and_true,beq_self_eq_true,f3];by_cases e:p=(k,hh)
  .subst e;simp
  .rw[decide_eq_false (by simpa using e)];by_cases A9:p.1=k
   .have AF:p.2≠hh:=λz=>e (Prod.ext A9 z);have:((p.2:Int)==(hh:Int))=false:=by simp;lia
    rw[this,U2]
   .have:(Gp p.1==Gp k)=false:=by
      rw[beq_eq_false_iff_ne];exact λz=>A9 (pH BH AO z)
    rw[this,Bool.false_and]
def S2{h:A5}{n k hh:Nat}{I3:List Ck}(b:Bool)(e:h[n]?=some ⟨.lst,I3.map Ax⟩)(AO:k<3)(hd:∀p,some p∈I3->p.1<3):DH b (.tup [.str (Gp k),.int (hh:Int)]) (.ref n) h=.ok (.AL (if b then decide (some (k,hh)∈I3)else !decide (some (k,hh)∈I3)),h):=by
 have NB:Gz h (.ref n) (.tup [.str (Gp k),.int (hh:Int)])=none:=by simp only[Gz,e]
 have r:DD 8 h (.ref n)=some (.Dn false (I3.map NW)):=by simp only[DD,IB h e];rw[mapM_some (DD 7 h) Ax NW (λs=>mS 5 h s) I3];rfl
 rw[UJ (d:=.Dn true [.str (Gp k),.int (hh:Int)]) NB (by simp[DD]) r];have:(I3.map NW).any (λy=>eqT y (.Dn true [.str (Gp k),.int (hh:Int)]))=decide (some (k,hh)∈I3):=by
  rw[List.any_map];rw[Ww,List.any_eq_true,decide_eq_true_eq];constructor
  .rintro⟨s,AN,q⟩;simp only[QQ]at q;rw[iV AO (λp e=>hd p (e▸AN)),decide_eq_true_eq]at q;exact q▸AN
  .intro AN;refine⟨_,AN,?_⟩;simp only[QQ];rw[iV AO (λp e=>hd p (e▸AN))];simp
 rw[this]
structure Lt where
 n:Nat
 m:Nat
 a:Nat
 pre:List Ad
 d:Ad
 BL:Nat
 Eb:Nat
def R4(l:Lt):O:=⟨.ins "Letter" ["mark","address","doors"],[.int (l.m:Int),.int (l.a:Int),.ref l.Eb]⟩
def Le(l:Lt):O:=⟨.lst,(l.pre++[l.d]).map Aa⟩
structure F8 where
 cs:List Nat
 ws:List (Ad×Ad)
 A:List (List Cu)
 B:List (List Cu)
 ps:List Ck
 r:Nat
 M:Nat
 T:Nat
 Kg:Nat
 MM:Nat
 D_:Nat
 pl:Nat
 K:A5
def Iq:O:=⟨.Gm [],[]⟩
structure EY(C:F8):Prop where
 N:K3 C.cs C.ws
 KQ:HR C.cs C.A
 JL:HR C.cs C.B
 P:Sg C.cs.length C.ps
 V_:J7 C.K C.Kg C.cs C.ws
 MN:EX C.K C.MM C.A
 O4:EX C.K C.D_ C.B
 pp:C.K[C.pl]?=some ⟨.lst,C.ps.map Ax⟩
 bP:C.K[C.r]?=some Iq
 Cv:C.K.length<=C.M
 ET:C.M+3<=C.T
structure OJ(C:F8)(h:A5)(l:Lt):Prop where
 GH:h[l.BL]?=some (R4 l)
 CC:h[l.Eb]?=some (Le l)
 m:l.m<2
 a:l.a<16
 d:l.d∈D2 C.cs C.cs.length
 t1:C.T<=l.BL
 Cb:C.T<=l.Eb
structure Em where
 done:List Ck
 Be:Nat
 lets:List Lt
 ended:List (Lt×Tl)
 Ca:Nat
def Ew(S:Em):List Lt:=S.lets++S.ended.map (·.1)
def RU(e:Lt×Tl):W:=.tup [.int (e.1.n:Int),.ref e.1.BL,CQ e.2]
def E5(l:Lt):Key:=.inl (l.n:Int)
structure EK(C:F8)(h:A5)(S:Em):Prop where
 Bc:∀(n:Nat) o,C.K[n]?=some o->o≠Iq->h[n]?=some o
 B5:h[C.r]?=some (OW C.Kg C.MM C.D_ C.pl C.M S.Be)
 CC:h[C.M]?=some ⟨.lst,S.done.map Ax⟩
 el:h[C.M+1]?=some ⟨.Aj (S.lets.map E5),S.lets.map λl=>.ref l.BL⟩
 MT:h[C.M+2]?=some ⟨.lst,S.ended.map RU⟩
 lt:∀l∈Ew S,OJ C h l
 C1:((Ew S).map (·.Eb)).Nodup
 nn:(S.lets.map (·.n)).Nodup
 Ge:∀l∈S.lets,l.n<S.Be
 I2:∀p,some p∈S.done->p.1<3
 few:S.Be<1000
 le:S.ended.length+S.lets.length<=S.Be
 AG:C.T<=h.length
 pr:∀l∈Ew S,l.pre.length<=S.Ca
section
variable{C:F8}{h h':A5}{S:Em}
def OJ.to{l:Lt}(x:OJ C h l)(A9:h'[l.BL]?=h[l.BL]?)(AF:h'[l.Eb]?=h[l.Eb]?):OJ C h' l:=⟨A9.trans x.GH,AF.trans x.CC,x.m,x.a,x.d,x.t1,x.Cb⟩
def EY.JN(c:EY C):C.r<C.M:=G3 (FW c.bP) c.Cv
theorem EK.set(c:EY C)(R:EK C h S){p:Nat}(o:O)(h1:C.M+3<=p)(h2:p<C.T):EK C (h.set p o) S:=by
 have q:=c.Cv;have JN:=c.JN;have e:∀n,n≠p->(h.set p o)[n]?=h[n]?:=λn AV=>F5 (λz=>AV z.symm) o;refine⟨λn o' k ne=>?_,?_,?_,?_,?_,λl AG=>?_,R.C1,R.nn,R.Ge,R.I2,R.few,R.le,by simpa using R.AG,R.pr⟩
 .rw[e n (by have:=FW k;lia)];exact R.Bc n o' k ne
 .rw[e _ (by lia)];exact R.B5
 .rw[e _ (by lia)];exact R.CC
 .rw[e _ (by lia)];exact R.el
 .rw[e _ (by lia)];exact R.MT
 .have x:=R.lt l AG;have:=x.t1;have:=x.Cb;exact x.to (e _ (by lia)) (e _ (by lia))
def EK.app(R:EK C h S)(g:A5):EK C (h++g) S:=by refine⟨λn o' k ne=>Ch h (R.Bc n o' k ne) g,Ch h R.B5 g,Ch h R.CC g,Ch h R.el g,Ch h R.MT g,λl AG=>?_,R.C1,R.nn,R.Ge,R.I2,R.few,R.le,by have:=R.AG;simp;lia,R.pr⟩;have x:=R.lt l AG;exact⟨Ch h x.GH g,Ch h x.CC g,x.m,x.a,x.d,x.t1,x.Cb⟩
theorem EK.V_(c:EY C)(R:EK C h S):J7 h C.Kg C.cs C.ws:=by obtain⟨f,A9,AF⟩:=c.V_.ex;exact⟨f,R.Bc _ _ A9 (λz=>by cases z),R.Bc _ _ AF (λz=>by cases z)⟩
def Xz{K:A5}(Bc:∀(n:Nat) o,K[n]?=some o->o≠Iq->h[n]?=some o){b:Nat}{B:List (List Cu)}(x:EX K b B):EX h b B:=by obtain⟨rs,e,l,r⟩:=x.ex;exact⟨rs,Bc _ _ e (λz=>by cases z),l,λi q AX=>Bc _ _ (r i q AX) (λz=>by cases z)⟩
end
section
variable{C:F8}{h:A5}{S:Em}
def My(I3:List Ck)(hh m:Nat):Bool:=if m=1 then decide (some (0,hh)∈I3)else !decide (some (2,hh)∈I3)
def yg(c:EY C)(R:EK C h S){hh m:Nat}(hm:m<2):TH [.ref C.r,.int (hh:Int),.int (m:Int)] h=.ok (.AL (My S.done hh m),h):=by
 have fd:Ba "Run" "done" (.ref C.r) h=.ok (.ref C.M,h):=FK R.B5 rfl;have GK:=S2 (hh:=hh) (k:=0) true R.CC (by lia) R.I2;have Bm:=S2 (hh:=hh) (k:=2) false R.CC (by lia) R.I2;rw[show Gp 0=AJ "teach" from rfl]at GK;rw[show Gp 2=AJ "forget" from rfl]at Bm;have:m=0\/m=1:=by lia
 rcases this with rfl|rfl
 .simp[TH,YL,fd,Bm,B0,My]
 .simp[TH,YL,fd,GK,B0,My]
def Sq(C:F8)(m hh:Nat):List Cu:=(if m=1 then C.B else C.A).getD hh []
def HL(C:F8)(I3:List Ck)(l:Lt):Tl:=if My I3 l.d.1 l.m=true then OT C.ws (Sq C l.m l.d.1) l.d l.a else .Ov l.d.1
def zl(c:EY C)(R:EK C h S){l:Lt}(x:OJ C h l):TK [.ref C.r,.ref l.BL] h=.ok (CQ (HL C S.done l),h):=by
 have ic:Ba "Run" "books" (.ref C.r) h=.ok (.tup [.ref C.MM,.ref C.D_],h):=FK R.B5 rfl;have fn:Ba "Run" "net" (.ref C.r) h=.ok (.ref C.Kg,h):=FK R.B5 rfl;have UZ:Ba "Letter" "mark" (.ref l.BL) h=.ok (.int (l.m:Int),h):=FK x.GH rfl;have ga:Ba "Letter" "address" (.ref l.BL) h=.ok (.int (l.a:Int),h):=FK x.GH rfl;have OC:Ba "Letter" "doors" (.ref l.BL) h=.ok (.ref l.Eb,h):=FK x.GH rfl;have Ec:AA (.ref l.Eb) (.int (-1)) h=.ok (Aa l.d,h):=bt (us:=l.pre.map Aa) (by rw[x.CC];simp[Le]);have x0:AA (Aa l.d) (.int 0) h=.ok (.int (l.d.1:Int),h):=Ff h _ _;have hd:=(VV.mp x.d).1;have k:=yg c R (hh:=l.d.1) x.m;have s1:Ac (A0 AA (BM (Ba "Letter" "doors") (I 1)) (BM H4 (pu (.int 1)))) (AD 2) [some (.ref C.r),some (.ref l.BL),none] h=.ok (.AR [some (.ref C.r),some (.ref l.BL),some (Aa l.d)],h):=by have Va:H4 (.int 1) h=.ok (.int (-1),h):=rfl;simp only[Do,Bg,Jv,v_var,Bw,DM,ED,Ci,A3,OC,Va,Ec];rfl
 have FE:C_ "Run" "knows" 2 TH (I 0) (Z (A0 AA (I 2) (pu (.int 0))) (Z (BM (Ba "Letter" "mark") (I 1)) A1)) [some (.ref C.r),some (.ref l.BL),some (Aa l.d)] h=.ok (.AL (My S.done l.d.1 l.m),h):=L6 (us:=[.int (l.d.1:Int),.int (l.m:Int)]) rfl R.B5 rfl (by simp[x0,UZ]) rfl k;have CC:TK [.ref C.r,.ref l.BL] h=((YN [some (.ref C.r),some (.ref l.BL),none] h).bind outF).bind λp=>settle h p.1 p.2:=rfl;rw[CC];unfold YN;rw[B4,s1,A3,BA,B4,Dj,v_not,HA,FE,A3,HE,A3,A3];unfold HL;cases AO:My S.done l.d.1 l.m
 .simp[x0,B0,CQ]
 .have on:∀(b:Nat)(B:List (List Cu)),HR C.cs B->EX h b B->∃q,AA (.ref b) (.int (l.d.1:Int)) h=.ok (.ref q,h)/\VP [.ref C.Kg,.ref q,Aa l.d,.int (l.a:Int)] h=.ok (CQ (OT C.ws (B.getD l.d.1 []) l.d l.a),h):=λb B ok at'=>by
    obtain⟨rs,e,QC,r⟩:=at'.ex;have B7:l.d.1<rs.length:=by rw[QC,ok.1];exact hd
    exact⟨rs[l.d.1],GZ e (by rw[Ed,Cc B7];rfl),abD (R.V_ c) (ok.2 _ hd) (r _ _ (Cc B7)) x.a l.d⟩
  have:l.m=0\/l.m=1:=by have:=x.m;lia
  rcases this with e|e
  .obtain⟨q,A9,AF⟩:=on C.MM C.A c.KQ (Xz R.Bc c.MN);simp[fn,ic,UZ,Ff,JG,x0,A9,ga,AF,Sq,e,-EW]
  .obtain⟨q,A9,AF⟩:=on C.D_ C.B c.JL (Xz R.Bc c.O4);simp[fn,ic,UZ,Ff,JG,x0,A9,ga,AF,Sq,e,-EW]
def aag{cs:List Nat}{ws:List (Ad×Ad)}{n:Nat}(A:J7 h n cs ws){d:Ad}(hd:d∈D2 cs cs.length)(A2:EM ws d=none):S9 [.ref n,Aa d] h=.ok (.AL true,h):=by
 obtain⟨f,A9,AF⟩:=A.ex;have f1:Ba "Net" "far" (.ref n) h=.ok (.ref f,h):=FK A9 rfl;have f2:Ba "Net" "counts" (.ref n) h=.ok (.tup (Br cs),h):=FK A9 rfl;have u0:VE [.ref n,Aa d] h=.ok (.AL true,h):=by simp[VE,fh,f2,aW hd]
 have FE:C_ "Net" "is_door" 1 VE (I 0) (Z (I 1) A1) [some (.ref n),some (Aa d)] h=.ok (.AL true,h):=L6 (us:=[Aa d]) rfl A9 rfl rfl rfl u0;have BB:DH false (Aa d) (.ref f) h=.ok (.AL true,h):=by unfold DH;rw[bO AF,A2];rfl
 simp[S9,fi,FE,f1,BB]
def E9(I3:List Ck)(hh:Nat):Nat:=if some (1,hh)∈I3 then 1 else 0
def Nr(S:Em)(L:Nat)(d:Ad)(a:Nat):Lt:=⟨S.Be,E9 S.done d.1,a,[],d,L,L+1⟩
def xq(R:EK C h S):(.inl (S.Be:Int):Key)∉S.lets.map E5:=λz=>by obtain⟨l,AG,e⟩:=List.mem_map.mp z;have:=R.Ge l AG;simp only[E5,Rw]at e;lia
def sd(c:EY C)(R:EK C h S)(AH:S.Be<900){d:Ad}(hd:d∈D2 C.cs C.cs.length)(A2:EM C.ws d=none){a:Nat}(AE:a<16) :
  ∃h',SA [.ref C.r,Aa d,.int (a:Int)] h=.ok (.int (S.Be:Int),h')/\EK C h' { S with Be:=S.Be+1,lets:=S.lets++[Nr S h.length d a] }/\
   h.length<=h'.length/\∀n,n<h.length->n≠C.r->n≠C.M+1->h'[n]?=h[n]?:=by
 have q:=c.Cv;have JN:=c.JN;have ET:=c.ET;have AG:=R.AG;have fn:Ba "Run" "net" (.ref C.r) h=.ok (.ref C.Kg,h):=FK R.B5 rfl;have ui:Ba "Run" "came" (.ref C.r) h=.ok (.int (S.Be:Int),h):=FK R.B5 rfl;have fd:Ba "Run" "done" (.ref C.r) h=.ok (.ref C.M,h):=FK R.B5 rfl;obtain⟨f,As,_⟩:=(R.V_ c).ex;have x0:AA (Aa d) (.int 0) h=.ok (.int (d.1:Int),h):=Ff h _ _;have mo:C_ "Net" "is_outer" 1 S9 (BM (Ba "Run" "net") (I 0)) (Z (I 1) A1) [some (.ref C.r),some (Aa d),some (.int (a:Int)),none,none] h=.ok (.AL true,h):=L6 (us:=[Aa d]) (by simp[fn]) As rfl rfl rfl (aag (R.V_ c) hd A2);have t1:FL (EG (AY (C_ "Net" "is_outer" 1 S9 (BM (Ba "Run" "net") (I 0)) (Z (I 1) A1)))) (EG (AY (Ah 1 TL (Z (I 2) A1)))) [some (.ref C.r),some (Aa d),some (.int (a:Int)),none,none] h=.ok (false,h):=by rw[v_or,v_not,HA,mo];simp[g9 AE]
 have s2:Ac (BM (Ba "Run" "came") (I 0)) (AD 3) [some (.ref C.r),some (Aa d),some (.int (a:Int)),none,none] h=.ok (.AR [some (.ref C.r),some (Aa d),some (.int (a:Int)),some (.int (S.Be:Int)),none],h):=by simp only[Do,Jv,v_var,DM,Ci,A3,ui];rfl
 have BB:=S2 (hh:=d.1) (k:=1) true R.CC (by lia) R.I2;rw[show Gp 1=AJ "turn" from rfl]at BB;have s3:Ac (Nn (AY (A0 (DH true) (BQ (Z (pu (.str (AJ "turn"))) (Z (A0 AA (I 1) (pu (.int 0))) A1))) (BM (Ba "Run" "done") (I 0)))) (pu (.int 1)) (pu (.int 0))) (AD 4) [some (.ref C.r),some (Aa d),some (.int (a:Int)),some (.int (S.Be:Int)),none] h=.ok (.AR [some (.ref C.r),some (Aa d),some (.int (a:Int)),some (.int (S.Be:Int)),some (.int (E9 S.done d.1:Nat))],h):=by
  unfold E9;by_cases Bi:some (1,d.1)∈S.done
  .simp[x0,fd,BB,B0,Bi]
  .simp[x0,fd,BB,B0,Bi]
 obtain⟨l,el⟩:∃l,l=Nr S h.length d a:=⟨_,rfl⟩;have mk:Ic "Letter" 3 VD (Z (I 4) (Z (I 1) (Z (I 2) A1))) [some (.ref C.r),some (Aa d),some (.int (a:Int)),some (.int (S.Be:Int)),some (.int (E9 S.done d.1:Nat))] h=.ok (.ref h.length,h++[R4 l,Le l]):=by
  refine Yl (us:=[.int (E9 S.done d.1:Nat),Aa d,.int (a:Int)]) (h1:=h) (by simp) rfl ?_;have e:VD [.ref h.length,.int (E9 S.done d.1:Nat),Aa d,.int (a:Int)] (h++[⟨.ins "Letter" [],[]⟩])=(YG [some (.ref h.length),some (.int (E9 S.done d.1:Nat)),some (Aa d),some (.int (a:Int))] (h++[⟨.ins "Letter" [],[]⟩])).bind outF:=rfl;have a1:Er "Letter" "mark" (I 0) (I 1) [some (.ref h.length),some (.int (E9 S.done d.1:Nat)),some (Aa d),some (.int (a:Int))] (h++[⟨.ins "Letter" [],[]⟩])=.ok (.AR [some (.ref h.length),some (.int (E9 S.done d.1:Nat)),some (Aa d),some (.int (a:Int))],h++(⟨.ins "Letter" ["mark"],[.int (E9 S.done d.1:Nat)]⟩::([]++[]))):=NP rfl rfl (by decide) rfl rfl;have a2:Er "Letter" "address" (I 0) (I 3) [some (.ref h.length),some (.int (E9 S.done d.1:Nat)),some (Aa d),some (.int (a:Int))] (h++(⟨.ins "Letter" ["mark"],[.int (E9 S.done d.1:Nat)]⟩::([]++[])))=.ok (.AR [some (.ref h.length),some (.int (E9 S.done d.1:Nat)),some (Aa d),some (.int (a:Int))],h++(⟨.ins "Letter" ["mark","address"],[.int (E9 S.done d.1:Nat),.int (a:Int)]⟩::([]++[]++[]))):=NP rfl rfl (by decide) rfl rfl;have GT:Er "Letter" "doors" (I 0) (By (Z (I 2) A1)) [some (.ref h.length),some (.int (E9 S.done d.1:Nat)),some (Aa d),some (.int (a:Int))] (h++(⟨.ins "Letter" ["mark","address"],[.int (E9 S.done d.1:Nat),.int (a:Int)]⟩::([]++[]++[])))=.ok (.AR [some (.ref h.length),some (.int (E9 S.done d.1:Nat)),some (Aa d),some (.int (a:Int))],h++(⟨.ins "Letter" ["mark","address","doors"],[.int (E9 S.done d.1:Nat),.int (a:Int),.ref (h.length+1)]⟩::([]++[]++[]++[⟨.lst,[Aa d]⟩]))):=by refine NP rfl ?_ (by decide) rfl rfl;simp[nw,B0]
  rw[e];unfold YG;rw[B4,a1,A3,BA,B4,a2,A3,BA,GT,A3,jo,el];rfl
 obtain⟨h1,A9⟩:∃h1,h1=h++[R4 l,Le l]:=⟨_,rfl⟩;rw[<-A9]at mk;have CZ:h1.length=h.length+2:=by rw[A9];simp
 have Ip:EK C h1 S:=by rw[A9];exact R.app _
 have g1:Ba "Run" "letters" (.ref C.r) h1=.ok (.ref (C.M+1),h1):=FK Ip.B5 rfl;have few:=R.few;have le:=R.le;have pt:=gd (v:=.ref h.length) (ρ:=[some (.ref C.r),some (Aa d),some (.int (a:Int)),some (.int (S.Be:Int)),some (.int (E9 S.done d.1:Nat))]) Ip.el (xq R) (by rw[CS];unfold B0;lia);obtain⟨h2,AF⟩:∃h2,h2=h1.set (C.M+1) ⟨.Aj (S.lets.map E5++[.inl (S.Be:Int)]),(S.lets.map λl=>.ref l.BL)++[.ref h.length]⟩:=⟨_,rfl⟩;rw[<-AF]at pt;have iX:h2[C.r]?=some (OW C.Kg C.MM C.D_ C.pl C.M S.Be):=by rw[AF,F5 (by lia)];exact Ip.B5
 have s4:JK (BM (Ba "Run" "letters") (I 0)) (I 3) (Ic "Letter" 3 VD (Z (I 4) (Z (I 1) (Z (I 2) A1)))) [some (.ref C.r),some (Aa d),some (.int (a:Int)),some (.int (S.Be:Int)),some (.int (E9 S.done d.1:Nat))] h=.ok (.AR [some (.ref C.r),some (Aa d),some (.int (a:Int)),some (.int (S.Be:Int)),some (.int (E9 S.done d.1:Nat))],h2):=by rw[TB,mk,A3];simp only[Jv,v_var,DM,ED,Ci,A3,g1,pt]
 obtain⟨BH,Dh⟩:∃BH,BH=h2.set C.r (OW C.Kg C.MM C.D_ C.pl C.M (S.Be+1)):=⟨_,rfl⟩;have s5:Er "Run" "came" (I 0) (A0 addW (I 3) (pu (.int 1))) [some (.ref C.r),some (Aa d),some (.int (a:Int)),some (.int (S.Be:Int)),some (.int (E9 S.done d.1:Nat))] h2=.ok (.AR [some (.ref C.r),some (Aa d),some (.int (a:Int)),some (.int (S.Be:Int)),some (.int (E9 S.done d.1:Nat))],BH):=by rw[TC];simp only[Bg,v_var,Bw,DM,ED,Ci,A3,MW];rw[SL (ns':=mY) (ws':=[.ref C.Kg,.tup [.ref C.MM,.ref C.D_],.ref C.pl,.ref C.M,.int ((S.Be:Int)+1),.ref (C.M+1),.ref (C.M+2)]) iX (by decide) rfl rfl,Dh];rfl
 have CN:h2.length=h.length+2:=by rw[AF];simpa using CZ
 have Os:BH.length=h.length+2:=by rw[Dh];simpa using CN
 have keep:∀n,n≠C.r->n≠C.M+1->BH[n]?=h1[n]?:=λn DC Dx=>by rw[Dh,F5 (λz=>DC z.symm),AF,F5 (λz=>Dx z.symm)]
 refine⟨BH,?_,?_,by lia,λn AV DC Dx=>?_⟩
 .have e:SA [.ref C.r,Aa d,.int (a:Int)] h=(YI [some (.ref C.r),some (Aa d),some (.int (a:Int)),none,none] h).bind outF:=rfl;rw[e];unfold YI;rw[B4,Dj,t1,A3,if_neg (by simp),Fg,A3,BA,B4,s2,A3,BA,B4,s3,A3,BA,B4,s4,A3,BA,B4,s5,A3,BA];rfl
 .have ln:l.BL=h.length/\l.Eb=h.length+1/\l.n=S.Be:=by rw[el];exact⟨rfl,rfl,rfl⟩
  have bT:OJ C BH l:=by
   refine⟨?_,?_,?_,?_,?_,by lia,by lia⟩
   .rw[keep _ (by lia) (by lia),ln.1,A9];simp
   .rw[keep _ (by lia) (by lia),ln.2.1,A9];simp
   .rw[el];simp only[Nr,E9];split<;>lia
   .rw[el];exact AE
   .rw[el];exact hd
  rw[<-el];have old:∀x∈Ew S,OJ C BH x:=λx AK=>by have y:=Ip.lt x AK;have:=y.t1;have:=y.Cb;exact y.to (keep _ (by lia) (by lia)) (keep _ (by lia) (by lia))
  refine⟨λn o' k ne=>?_,?_,?_,?_,?_,λx AK=>?_,?_,?_,λx AK=>?_,R.I2,?_,?_,by lia,λx AK=>?_⟩
  .rw[keep n (λz=>by subst z;rw[c.bP]at k;cases k;exact ne rfl) (by have:=FW k;lia)];exact Ip.Bc n o' k ne
  .rw[Dh];exact IU iX
  .rw[keep _ (by lia) (by lia)];exact Ip.CC
  .rw[Dh,F5 (by lia),AF,IU Ip.el];simp[E5,ln.1,ln.2.2]
  .rw[keep _ (by lia) (by lia)];exact Ip.MT
  .simp only[Ew,F6,HV,JW]at AK;rcases AK with AK|rfl|AK
   .exact old x (Iz _ AK)
   .exact bT
   .exact old x (IY _ AK)
  .simp only[Ew,F6,IZ,D3,Hq];have C1:=R.C1;simp only[Ew,IZ]at C1;have fr:∀x∈Ew S,x.Eb≠l.Eb:=λx AK z=>by
    have:=FW (R.lt x AK).CC;lia
   obtain⟨DC,Dx,Ql⟩:=List.nodup_append.mp C1;refine List.nodup_append.mpr ⟨DC,?_,λu BI v B_=>?_⟩
   .rw[eD,List.nodup_cons];refine⟨λz=>?_,Dx⟩;obtain⟨x,AK,e⟩:=List.mem_map.mp z;exact fr x (IY _ AK) e
   .rw[eD,HW]at B_;rcases B_ with rfl|B_
    .obtain⟨x,AK,e⟩:=List.mem_map.mp BI;subst e;exact fr x (Iz _ AK)
    .exact Ql u BI v B_
  .simp only[IZ,D3,Hq];refine List.nodup_append.mpr ⟨R.nn,by simp,λu BI v B_=>?_⟩;obtain⟨x,AK,e⟩:=List.mem_map.mp BI;have:=R.Ge x AK;have B_:=List.mem_singleton.mp B_;lia
  .rcases List.mem_append.mp AK with AK|AK
   .have:=R.Ge x AK;show x.n<S.Be+1;lia
   .have:=List.mem_singleton.mp AK;subst this;show x.n<S.Be+1;lia
  .show S.Be+1<1000;lia
  .show S.ended.length+(S.lets++[l]).length<=S.Be+1;simp;lia
  .simp only[Ew,F6,HV,JW]at AK;rcases AK with AK|rfl|AK
   .exact R.pr x (Iz _ AK)
   .rw[el];exact ID _
   .exact R.pr x (IY _ AK)
 .rw[keep n DC Dx,A9,Gs AV]
end
section
variable{C:F8}{h:A5}{S:Em}
def JD(l:Lt)(e:Ad):Lt:={ l with pre:=l.pre++[l.d],d:=e }
def GI(S:Em)(CH:List Lt)(l:Lt)(B6:List Lt):Tl->Em
 |.at e=>{ S with lets:=CH++JD l e::B6,Ca:=S.Ca+1 }
 |t=>{ S with lets:=CH++B6,ended:=S.ended++[(l,t)],Ca:=S.Ca+1 }
def isAt:Tl->Bool
 |.at _=>true
 |_=>false
def rj{cs:List Nat}{ws:List (Ad×Ad)}(N:K3 cs ws){d e:Ad}(h:EM ws d=some e):e∈D2 cs cs.length:=N.sub _ (bB h).2
def abA{cs:List Nat}{ws:List (Ad×Ad)}(N:K3 cs ws){hh:Nat}{o:Option Nat}{e:Ad}(h:Ki ws hh o=.at e):e∈D2 cs cs.length:=by
 unfold Ki at h
 split at h
 .cases h
 .split at h
  .cases h
  .rename_i q;cases h;exact rj N q
def abC{cs:List Nat}{ws:List (Ad×Ad)}(N:K3 cs ws){BU:List Cu}{d:Ad}{a:Nat}{e:Ad}(h:OT ws BU d a=.at e):e∈D2 cs cs.length:=by
 unfold OT at h
 split at h
 .cases h
 .exact abA N h
def kF(c:EY C){I3:List Ck}{l:Lt}{e:Ad}(h:HL C I3 l=.at e):e∈D2 C.cs C.cs.length:=by
 unfold HL at h
 split at h
 .exact abC c.N h
 .cases h
def Vg{L:List Lt}{l:Lt}(h:l.n∉L.map (·.n)):E5 l∉L.map E5:=λz=>by obtain⟨x,AK,e⟩:=List.mem_map.mp z;simp only[E5,Rw]at e;exact h (List.mem_map.mpr ⟨x,AK,by lia⟩)
def dI{CH B6:List Lt}{l:Lt}(h:((CH++l::B6).map (·.n)).Nodup):l.n∉CH.map (·.n)/\l.n∉B6.map (·.n):=by simp only[IZ,D3]at h;obtain⟨_,h2,BH⟩:=List.nodup_append.mp h;exact⟨λz=>BH _ z _ (Gq ..) rfl,(List.nodup_cons.mp h2).1⟩
def wC(c:EY C)(R:EK C h S)(hm:S.Ca<900000){CH B6:List Lt}{l:Lt}(es:S.lets=CH++l::B6) :
  ∃h',Sb [.ref C.r,.int (l.n:Int)] h=.ok (CQ (HL C S.done l),h')/\EK C h' (GI S CH l B6 (HL C S.done l))/\h'.length=h.length/\∀n,n≠C.M+1->n≠C.M+2->n≠l.Eb->h'[n]?=h[n]?:=by
 have q:=c.Cv;have JN:=c.JN;have ET:=c.ET;have AG:=R.AG;have L7:l∈Ew S:=Iz _ (by rw[es];simp);have x:=R.lt l L7;have ahO:=x.t1;have ahP:=x.Cb;have nn:=R.nn;rw[es]at nn;obtain⟨DC,Dx⟩:=dI nn;have k1:=Vg DC;have k2:=Vg Dx;have el:h[C.M+1]?=some ⟨.Aj (CH.map E5++E5 l::B6.map E5),(CH.map λl=>.ref l.BL)++.ref l.BL::B6.map λl=>.ref l.BL⟩:=by rw[R.el,es];simp
 have Du:Ba "Run" "letters" (.ref C.r) h=.ok (.ref (C.M+1),h):=FK R.B5 rfl;have gl:Gz h (.ref (C.M+1)) (.int (l.n:Int))=some (some (.ref l.BL)):=by rw[Y4 el];show some (DW _ _ (E5 l))=_;rw[W1 k1 (by simp)]
 have GK:DH false (.int (l.n:Int)) (.ref (C.M+1)) h=.ok (.AL false,h):=by unfold DH;rw[gl];rfl
 have EO:AA (.ref (C.M+1)) (.int (l.n:Int)) h=.ok (.ref l.BL,h):=by unfold AA;rw[gl]
 obtain⟨t,Ir⟩:∃t,t=HL C S.done l:=⟨_,rfl⟩;have AR:=zl c R x;rw[<-Ir]at AR |-;have t1:FL (EG (AY (Ah 1 TO (Z (I 1) A1)))) (AY (A0 (DH false) (I 1) (BM (Ba "Run" "letters") (I 0)))) [some (.ref C.r),some (.int (l.n:Int)),none,none] h=.ok (false,h):=by simp[pI,Du,GK]
 have s2:Ac (A0 AA (BM (Ba "Run" "letters") (I 0)) (I 1)) (AD 2) [some (.ref C.r),some (.int (l.n:Int)),none,none] h=.ok (.AR [some (.ref C.r),some (.int (l.n:Int)),some (.ref l.BL),none],h):=by simp[Du,EO]
 have FE:C_ "Run" "next_of" 1 TK (I 0) (Z (I 2) A1) [some (.ref C.r),some (.int (l.n:Int)),some (.ref l.BL),none] h=.ok (CQ t,h):=L6 (us:=[.ref l.BL]) rfl R.B5 rfl rfl rfl AR;have s3:Ac (C_ "Run" "next_of" 1 TK (I 0) (Z (I 2) A1)) (AD 3) [some (.ref C.r),some (.int (l.n:Int)),some (.ref l.BL),none] h=.ok (.AR [some (.ref C.r),some (.int (l.n:Int)),some (.ref l.BL),some (CQ t)],h):=by rw[Do,FE];rfl
 have CC:Sb [.ref C.r,.int (l.n:Int)] h=(YJ [some (.ref C.r),some (.int (l.n:Int)),none,none] h).bind outF:=rfl;rw[CC];unfold YJ;rw[B4,Dj,t1,A3,if_neg (by simp),Fg,A3,BA,B4,s2,A3,BA,B4,s3,A3,BA,B4,Dj];have pl:=R.pr l L7;have dl:(l.pre.map Aa++[Aa l.d]).length<=900001:=by simp;lia
 by_cases AE:isAt t=true
 .obtain⟨e,te⟩:∃e,t=.at e:=by cases t<;>first|exact⟨_,rfl⟩|cases AE
  subst te;have he:=kF c Ir.symm;have tt:AY (A0 (Au true) (A0 AA (I 3) (pu (.int 0))) (pu (.str (AJ "at")))) [some (.ref C.r),some (.int (l.n:Int)),some (.ref l.BL),some (CQ (.at e))] h=.ok (true,h):=by simp[CQ,Ff]
  rw[tt,A3,if_pos rfl];have OC:Ba "Letter" "doors" (.ref l.BL) h=.ok (.ref l.Eb,h):=FK x.GH rfl;obtain⟨h',Dt⟩:∃h',h'=h.set l.Eb (Le (JD l e)):=⟨_,rfl⟩;have ap:EP FS (BM (Ba "Letter" "doors") (I 2)) (Z (BQ (Z (A0 AA (I 3) (pu (.int 1))) (Z (A0 AA (I 3) (pu (.int 2))) A1))) A1) [some (.ref C.r),some (.int (l.n:Int)),some (.ref l.BL),some (CQ (.at e))] h=.ok (.non,h'):=by rw[Dt];refine Mz (ws:=(l.pre++[l.d]).map Aa) (ws2:=(l.pre++[l.d]).map Aa) (us:=[Aa e]) (ws':=(l.pre++[l.d]++[e]).map Aa) (h1:=h) (h2:=h) (by simp[OC]) x.CC ?_ x.CC (by simp[FS]) (by simp[B0];lia);simp[CQ,JG,Ve,B0,Aa]
  refine⟨h',?_,?_,by rw[Dt];simp,λn _ _ AV=>by rw[Dt,F5 (λz=>AV z.symm)]⟩
  .rw[Mg,ap];rfl
  .have keep:∀n,n≠l.Eb->h'[n]?=h[n]?:=λn AV=>by rw[Dt,F5 (λz=>AV z.symm)]
   have C1:=R.C1;have kX:∀y∈Ew S,y.BL≠l.Eb:=λy AP z=>by have A9:=(R.lt y AP).GH;have AF:=x.CC;rw[z,AF]at A9;cases A9
   have abB:∀y,y∈CH++(B6++S.ended.map (·.1))->y.Eb≠l.Eb:=λy AP z=>by
    simp only[Ew,es,F6,HU,IZ,D3]at C1;obtain⟨a1,a2,GT⟩:=List.nodup_append.mp C1;have MK:=(List.nodup_cons.mp a2).1;rcases List.mem_append.mp AP with AP|AP
    .exact GT _ (List.mem_map.mpr ⟨y,AP,rfl⟩) _ (Gq ..) z
    .apply MK;rw[<-IZ];exact List.mem_map.mpr ⟨y,AP,z⟩
   have V7:∀y,y∈CH++(B6++S.ended.map (·.1))->OJ C h' y:=λy AP=>by
    have jt:y∈Ew S:=by
     simp only[Ew,es,F6,HU,HV,HW]at AP |-;rcases AP with AP|AP
     .exact .inl AP
     .exact .inr (.inr AP)
    exact(R.lt y jt).to (keep _ (kX y jt)) (keep _ (abB y AP))
   have bT:OJ C h' (JD l e):=⟨by show h'[l.BL]?=_;rw[keep _ (kX l L7)];exact x.GH,by show h'[l.Eb]?=_;rw[Dt];exact IU x.CC,x.m,x.a,he,x.t1,x.Cb⟩;refine⟨λn o' k ne=>?_,?_,?_,?_,?_,λy AP=>?_,?_,?_,λy AP=>?_,R.I2,R.few,?_,by rw[Dt];simpa using AG,λy AP=>?_⟩
   .rw[keep n (by have:=FW k;lia)];exact R.Bc n o' k ne
   .rw[keep _ (by lia)];exact R.B5
   .rw[keep _ (by lia)];exact R.CC
   .rw[keep _ (by lia),el];simp[GI,JD,E5]
   .rw[keep _ (by lia)];exact R.MT
   .simp only[Ew,GI,F6,HU,HV,HW]at AP;rcases AP with AP|rfl|AP
    .exact V7 y (Iz _ AP)
    .exact bT
    .exact V7 y (IY _ (List.mem_append.mpr AP))
   .have:(Ew (GI S CH l B6 (.at e))).map (·.Eb)=(Ew S).map (·.Eb):=by simp[Ew,GI,es,JD]
    rw[this];exact C1
   .have:(GI S CH l B6 (.at e)).lets.map (·.n)=S.lets.map (·.n):=by simp[GI,es,JD]
    rw[this];exact R.nn
   .simp only[GI,HV,HW]at AP;rcases AP with AP|rfl|AP
    .exact R.Ge y (by rw[es];simp[AP])
    .exact R.Ge l (by rw[es];simp)
    .exact R.Ge y (by rw[es];simp[AP])
   .have:=R.le;rw[es]at this;simpa[GI]using this
   .simp only[Ew,GI,F6,HU,HV,HW]at AP;show y.pre.length<=S.Ca+1;have old:∀z∈Ew S,z.pre.length<=S.Ca:=R.pr;simp only[Ew,es,F6,HU,HV,HW]at old;rcases AP with AP|rfl|AP
    .have:=old y (.inl AP);lia
    .simp only[JD,Ej,Df,Es];lia
    .have:=old y (.inr (.inr AP));lia
 .have tt:AY (A0 (Au true) (A0 AA (I 3) (pu (.int 0))) (pu (.str (AJ "at")))) [some (.ref C.r),some (.int (l.n:Int)),some (.ref l.BL),some (CQ t)] h=.ok (false,h):=by
    cases t<;>first|exact absurd rfl AE|(simp[CQ,Ff];decide)
  rw[tt,A3,if_neg (by simp)];have Ey:GI S CH l B6 t={ S with lets:=CH++B6,ended:=S.ended++[(l,t)],Ca:=S.Ca+1 }:=by cases t<;>first|exact absurd rfl AE|rfl
  obtain⟨h1,A9⟩:∃h1,h1=h.set (C.M+1) ⟨.Aj (CH.map E5++B6.map E5),(CH.map λl=>.ref l.BL)++B6.map λl=>.ref l.BL⟩:=⟨_,rfl⟩;have bq:Oo h (.ref (C.M+1))=true:=by unfold Oo;simp only[el]
  have pp:R6 (BM (Ba "Run" "letters") (I 0)) (I 1) [some (.ref C.r),some (.int (l.n:Int)),some (.ref l.BL),some (CQ t)] h=.ok (.ref l.BL,h1):=by rw[q5];simp only[Jv,v_var,DM,ED,Ci,A3,Du,Q8,bq,if_true,IV];rw[A9];exact gc (i:=(l.n:Int)) el k1 k2 (by simp) (by simp)
  have tV:h1[C.r]?=some (OW C.Kg C.MM C.D_ C.pl C.M S.Be):=by rw[A9,F5 (by lia)];exact R.B5
  have ax:Ba "Run" "ended" (.ref C.r) h1=.ok (.ref (C.M+2),h1):=FK tV rfl;have RT:h1[C.M+2]?=some ⟨.lst,S.ended.map RU⟩:=by rw[A9,F5 (by lia)];exact R.MT
  have le:=R.le;have few:=R.few;obtain⟨h',Dt⟩:∃h',h'=h1.set (C.M+2) ⟨.lst,(S.ended++[(l,t)]).map RU⟩:=⟨_,rfl⟩;have ap:EP FS (BM (Ba "Run" "ended") (I 0)) (Z (BQ (Z (I 1) (Z (I 2) (Z (I 3) A1)))) A1) [some (.ref C.r),some (.int (l.n:Int)),some (.ref l.BL),some (CQ t)] h1=.ok (.non,h'):=by rw[Dt];refine Mz (ws:=S.ended.map RU) (ws2:=S.ended.map RU) (us:=[RU (l,t)]) (h1:=h1) (h2:=h1) (by simp[ax]) RT ?_ RT (by simp[FS]) (by simp[B0];lia);simp[B0,RU]
  have keep:∀n,n≠C.M+1->n≠C.M+2->h'[n]?=h[n]?:=λn a b=>by rw[Dt,F5 (λz=>b z.symm),A9,F5 (λz=>a z.symm)]
  refine⟨h',?_,?_,by rw[Dt,A9];simp,λn a b _=>keep n a b⟩
  .rw[B4,Mg,pp,A3,A3,BA,Mg,ap];rfl
  .rw[Ey];have cn:(Ew { S with lets:=CH++B6,ended:=S.ended++[(l,t)],Ca:=S.Ca+1 }).Perm (Ew S):=by
    simp only[Ew,es,IZ,D3,Hq,F6,HU];refine qu _ ?_;rw[<-F6];exact List.perm_append_singleton l (B6++S.ended.map (·.1))
   refine⟨λn o' k ne=>?_,?_,?_,?_,?_,λy AP=>?_,?_,?_,λy AP=>?_,R.I2,R.few,?_,by rw[Dt,A9];simpa using AG,λy AP=>?_⟩
   .rw[keep n (by have:=FW k;lia) (by have:=FW k;lia)];exact R.Bc n o' k ne
   .rw[keep _ (by lia) (by lia)];exact R.B5
   .rw[keep _ (by lia) (by lia)];exact R.CC
   .rw[Dt,F5 (by lia),A9,IU el];simp
   .rw[Dt,IU RT]
   .have z:=R.lt y (cn.mem_iff.mp AP);have:=z.t1;have:=z.Cb;exact z.to (keep _ (by lia) (by lia)) (keep _ (by lia) (by lia))
   .exact(cn.map _).nodup_iff.mpr R.C1
   .simp only[IZ,D3]at nn |-;obtain⟨a1,a2,GT⟩:=List.nodup_append.mp nn;exact List.nodup_append.mpr ⟨a1,(List.nodup_cons.mp a2).2,λu BI v B_=>GT u BI v (GF _ B_)⟩
   .refine R.Ge y ?_;rw[es];rcases List.mem_append.mp AP with AP|AP<;>simp[AP]
   .rw[es]at le;simp only[Ej,Df,Es]at le |-;lia
   .have:=R.pr y (cn.mem_iff.mp AP);show y.pre.length<=S.Ca+1;lia
def aaJ(R:EK C h S){x y w:W}{h':A5}(e:SA [.ref C.r,x,y] h=.ok (w,h')):I7 [.ref C.r,.tup [.str (AJ "come"),x,y]] h=.ok (w,h'):=by have BB:Dv "tuple" (.tup [.str (AJ "come"),x,y]) h=.ok (.AL true,h):=rfl;have Bm:Dv "str" (.str (AJ "come")) h=.ok (.AL true,h):=rfl;have FE:C_ "Run" "come" 2 SA (I 0) (Z (A0 AA (I 1) (pu (.int 1))) (Z (A0 AA (I 1) (pu (.int 2))) A1)) [some (.ref C.r),some (.tup [.str (AJ "come"),x,y])] h=.ok (w,h'):=L6 (us:=[x,y]) rfl R.B5 rfl (by simp[JG,Ve]) rfl e;simp[I7,Sn,BB,Bm,Ou,Ff,FE]
def aaK(R:EK C h S){x w:W}{h':A5}(e:Sb [.ref C.r,x] h=.ok (w,h')):I7 [.ref C.r,.tup [.str (AJ "go"),x]] h=.ok (w,h'):=by have BB:Dv "tuple" (.tup [.str (AJ "go"),x]) h=.ok (.AL true,h):=rfl;have Bm:Dv "str" (.str (AJ "go")) h=.ok (.AL true,h):=rfl;have FE:C_ "Run" "go" 1 Sb (I 0) (Z (A0 AA (I 1) (pu (.int 1))) A1) [some (.ref C.r),some (.tup [.str (AJ "go"),x])] h=.ok (w,h'):=L6 (us:=[x]) rfl R.B5 rfl (by simp[JG]) rfl e;have q:(AJ "go"==AJ "come")=false:=rfl;simp[I7,Sn,BB,Bm,Ou,Ff,q,FE]
end
def bM{ws:List W}(k:Nat)(AO:k<=ws.length):Gy ws none (some (k:Int))=ws.take k:=by unfold Gy;rw[Dz.ZT,Dz.Sz];simp[f9 AO]
def sl{ws:List W}(k:Nat)(AO:k<=ws.length):Gy ws (some (k:Int)) none=ws.drop k:=by unfold Gy;rw[Dz.ZT,Dz.Sz,f9 AO];rw[eK (by simp)]
def WO{h:A5}{n:Nat}{ws:List W}(e:h[n]?=some ⟨.lst,ws⟩)(l:ws.length<=1000)(lo AB:Option Int)(ρ:B9):Lu (.ref n) lo AB ρ h=.ok (.ref h.length,h++[⟨.lst,Gy ws lo AB⟩]):=by unfold Lu;rw[IB h e];dsimp only;exact H_ h (by have:=h8 ws lo AB;unfold B0;lia)
def e1{ρ:B9}{i:Nat}{k:Int}(h:A5)(e:ρ[i]?=some (some (.int k))):CE (I i) ρ h=.ok (some k,h):=by unfold CE;rw[IV,v_var,e];rfl
def iz{h:A5}{n i k:Nat}{ws:List W}{w:W}{ρ:B9}{mw:B3}(AF:ρ[2]?=some (some (.ref n)))(G7:ρ[i]?=some (some (.int (k:Int))))(As:h[n]?=some ⟨.lst,ws⟩)(l:ws.length<=100)(AO:k<=ws.length)(hw:∀h',mw ρ h'=.ok (w,h'))(Kf:Fm ws=true)(zw:DL w=true) :
  Bb (A0 addW (A0 addW (D5 (I 2) (pu none) (CE (I i))) (By (Z mw A1))) (D5 (I 2) (CE (I i)) (pu none))) ρ h=.ok (.ref h.length,h++[⟨.lst,ws.take k++[w]++ws.drop k⟩]):=by
 have s1:D5 (I 2) (pu none) (CE (I i)) ρ h=.ok (.ref h.length,h++[⟨.lst,ws.take k⟩]):=by rw[Mi,v_var,AF,Ci,A3,Bw,A3,e1 _ G7,A3,WO As (by lia),bM k AO]
 have s2:By (Z mw A1) ρ (h++[⟨.lst,ws.take k⟩])=.ok (.ref (h.length+1),h++[⟨.lst,ws.take k⟩,⟨.lst,[w]⟩]):=by rw[Mh,CM,hw,A3,Ce,A3,A3,H_ _ (by simp[B0])];simp
 have a1:=NR (h:=h++[⟨.lst,ws.take k⟩,⟨.lst,[w]⟩]) (i:=h.length) (j:=h.length+1) (a:=ws.take k) (b:=[w]) (by simp) (by simp) (by simp[B0];lia);obtain⟨H,Cg⟩:∃H:A5,H=h++[⟨.lst,ws.take k⟩,⟨.lst,[w]⟩]++[⟨.lst,ws.take k++[w]⟩]:=⟨_,rfl⟩;rw[<-Cg]at a1;have Nk:H.length=h.length+3:=by rw[Cg];simp
 have lL:h<+: H:=by rw[Cg];exact Ha (G4 _ _) _
 have s3:D5 (I 2) (CE (I i)) (pu none) ρ H=.ok (.ref (h.length+3),H++[⟨.lst,ws.drop k⟩]):=by rw[Mi,v_var,AF,Ci,A3,e1 _ G7,A3,Bw,A3,WO (FM lL As) (by lia),sl k AO,Nk]
 have h2:H[h.length+2]?=some ⟨.lst,ws.take k++[w]⟩:=by rw[Cg,F6,Q1];rfl
 have a2:=NR (h:=H++[⟨.lst,ws.drop k⟩]) (i:=h.length+2) (j:=h.length+3) (a:=ws.take k++[w]) (b:=ws.drop k) (Ch H h2 _) (by rw[<-Nk];simp) (by simp[B0];lia);rw[FO,Bg,Bg,s1,A3,s2,A3,a1,A3];have kY:(h++[⟨.lst,ws.take k⟩,⟨.lst,[w]⟩]:A5).length=h.length+2:=by simp
 rw[kY,s3,A3,a2,A3];have:(H++[⟨.lst,ws.drop k⟩]:A5).length=h.length+4:=by rw[Ej,Nk];rfl
 rw[this];refine JQ (ws:=ws.take k++[w]++ws.drop k) h _ (Kj (Ha (Ha lL _) _)) (by lia) (by rw[<-this];simp) (Jn.mpr λx AK=>?_);have Kf:=Jn.mp Kf;simp only[HV,JW]at AK;rcases AK with(AK|rfl)|AK
 .exact Kf x (eF AK)
 .exact zw
 .exact Kf x (Wi AK)
def sL{h:A5}{n i k:Nat}{ws:List W}{ρ:B9}(AF:ρ[2]?=some (some (.ref n)))(G7:ρ[i]?=some (some (.int (k:Int))))(As:h[n]?=some ⟨.lst,ws⟩)(l:ws.length<=100)(AO:k<=ws.length)(Kf:Fm ws=true) :
  Bb (A0 addW (D5 (I 2) (pu none) (CE (I i))) (D5 (I 2) (CE (A0 addW (I i) (pu (.int 1)))) (pu none))) ρ h=.ok (.ref h.length,h++[⟨.lst,ws.take k++ws.drop (k+1)⟩]):=by
 have s1:D5 (I 2) (pu none) (CE (I i)) ρ h=.ok (.ref h.length,h++[⟨.lst,ws.take k⟩]):=by rw[Mi,v_var,AF,Ci,A3,Bw,A3,e1 _ G7,A3,WO As (by lia),bM k AO]
 have K9:Gy ws (some ((k:Int)+1)) none=ws.drop (k+1):=by
  have:((k:Int)+1)=((k+1:Nat):Int):=by lia
  rw[this];unfold Gy;rw[Dz.ZT,Dz.Sz];by_cases DS:k+1<=ws.length
  .rw[f9 DS,eK (by simp)]
  .rw[Nat.min_eq_right (by lia),List.drop_length,List.drop_of_length_le (by lia)];simp
 have s3:D5 (I 2) (CE (A0 addW (I i) (pu (.int 1)))) (pu none) ρ (h++[⟨.lst,ws.take k⟩])=.ok (.ref (h.length+1),h++[⟨.lst,ws.take k⟩]++[⟨.lst,ws.drop (k+1)⟩]):=by
  have pp:CE (A0 addW (I i) (pu (.int 1))) ρ (h++[⟨.lst,ws.take k⟩])=.ok (some ((k:Int)+1),h++[⟨.lst,ws.take k⟩]):=by unfold CE;rw[IV,Bg,v_var,G7,Ci,A3,Bw,A3,MW,A3];rfl
  rw[Mi,v_var,AF,Ci,A3,pp,A3,Bw,A3,WO (Ch h As _) (by lia),K9];simp
 have a2:=NR (h:=h++[⟨.lst,ws.take k⟩]++[⟨.lst,ws.drop (k+1)⟩]) (i:=h.length) (j:=h.length+1) (a:=ws.take k) (b:=ws.drop (k+1)) (by simp) (by simp) (by simp[B0];lia);rw[FO,Bg,s1,A3,s3,A3,a2,A3];refine JQ (ws:=ws.take k++ws.drop (k+1)) h _ (Kj (Ha (Ha (G4 _ _) _) _)) (by simp) (by simp) (Jn.mpr λx AK=>?_);have Kf:=Jn.mp Kf;rcases List.mem_append.mp AK with AK|AK
 .exact Kf x (eF AK)
 .exact Kf x (Wi AK)
structure K5(n:Nat)(ps:List Ck):Prop where
 k:∀p,some p∈ps->p.1<3/\p.2<n
 C1:(ps.filterMap id).Nodup
def K5.perm{n:Nat}{ps EV:List Ck}(h:K5 n ps)(p:EV.Perm ps):K5 n EV:=⟨λx AK=>h.k x (p.mem_iff.mp AK),(p.filterMap id).nodup_iff.mpr h.C1⟩
def K5.sub{n:Nat}{ps EV:List Ck}(h:K5 n ps)(s:EV.Sublist ps):K5 n EV:=⟨λx AK=>h.k x (s.mem AK),h.C1.sublist (s.filterMap id)⟩
def K5.wait{n:Nat}{ps EV:List Ck}(h:K5 n (ps++EV)):K5 n (ps++[none]++EV):=by
 refine⟨λx AK=>h.k x ?_,?_⟩
 .simp only[HV,JW]at AK |-;rcases AK with(AK|AK)|AK
  .exact .inl AK
  .cases AK
  .exact .inr AK
 .have:=h.C1;simpa[qv]using this
def kd(ps:List Ck)(k:Nat)(s:Ck):(ps.map Ax).take k++[Ax s]++(ps.map Ax).drop k=(ps.take k++[s]++ps.drop k).map Ax:=by simp[X8,f5]
def aaB(ps:List Ck)(k:Nat):(ps.map Ax).take k++(ps.map Ax).drop (k+1)=(ps.take k++ps.drop (k+1)).map Ax:=by simp[X8,f5]
def KV(c:Nat)(n:Nat):List Ck:=(CW n).map λi=>some (c,i)
def ZW(c n:Nat):(KV c n).length=n:=by simp[KV]
def ae6(c n:Nat):(KV c n).map Ax=(CW n).map λi:Nat=>W.tup [.str (Gp c),.int (i:Int)]:=by simp[KV,Ax,P8]
def cZ{c n:Nat}{t:Str}(Ir:t=Gp c)(AV:n<=6){ρ:B9}(h0:ρ[0]?=some (some (.int (n:Int))))(h:A5):Dw 1 [] (Dc (Z (I 0) A1)) (AD 0) (pu true) (BQ (Z (pu (.str t)) (Z (I 0) A1))) ρ h=.ok (.ref h.length,h++[⟨.lst,(KV c n).map Ax⟩]):=by rw[UM (h:=h) 0 n (λi=>.tup [.str t,.int (i:Int)]) (by lia) (LG (n:=n) (by simp[h0]) (by lia)) (λj Ap acc=>by simp[B0]),ae6,Ir]
def plain(n:Nat):List Ck:=KV 0 n++KV 1 n++[none]++KV 2 n
def acJ{n:Nat}(AV:n<=6)(h:A5):RG [.int (n:Int)] h=.ok (.ref h.length,h++[⟨.lst,(plain n).map Ax⟩]):=by
 obtain⟨A,NE⟩:∃A,A=(KV 0 n).map Ax:=⟨_,rfl⟩;obtain⟨B,PP⟩:∃B,B=(KV 1 n).map Ax:=⟨_,rfl⟩;obtain⟨D,Xb⟩:∃D,D=(KV 2 n).map Ax:=⟨_,rfl⟩;have kL:A.length=n:=by rw[NE,CS,ZW]
 have Vm:B.length=n:=by rw[PP,CS,ZW]
 have agl:D.length=n:=by rw[Xb,CS,ZW]
 have jv:Fm A=true:=by rw[NE];exact HK _ _ L8
 have jw:Fm B=true:=by rw[PP];exact HK _ _ L8
 have aaO:Fm D=true:=by rw[Xb];exact HK _ _ L8
 have PL:=λh=>cZ (c:=0) (t:=AJ "teach") rfl AV (ρ:=[some (.int (n:Int)),none]) rfl h;have Bk:=λh=>cZ (c:=1) (t:=AJ "turn") rfl AV (ρ:=[some (.int (n:Int)),none]) rfl h;rw[<-NE]at PL;rw[<-PP]at Bk;have a1:=NR (h:=h++[⟨.lst,A⟩]++[⟨.lst,B⟩]) (i:=h.length) (j:=h.length+1) (a:=A) (b:=B) (by simp) (by simp) (by simp[B0];lia);have s1:Ac (Bb (A0 addW (Dw 1 [] (Dc (Z (I 0) A1)) (AD 0) (pu true) (BQ (Z (pu (.str (AJ "teach"))) (Z (I 0) A1)))) (Dw 1 [] (Dc (Z (I 0) A1)) (AD 0) (pu true) (BQ (Z (pu (.str (AJ "turn"))) (Z (I 0) A1)))))) (AD 1) [some (.int (n:Int)),none] h=.ok (.AR [some (.int (n:Int)),some (.ref h.length)],h++[⟨.lst,A++B⟩]):=by
  have q:Bb (A0 addW (Dw 1 [] (Dc (Z (I 0) A1)) (AD 0) (pu true) (BQ (Z (pu (.str (AJ "teach"))) (Z (I 0) A1)))) (Dw 1 [] (Dc (Z (I 0) A1)) (AD 0) (pu true) (BQ (Z (pu (.str (AJ "turn"))) (Z (I 0) A1))))) [some (.int (n:Int)),none] h=.ok (.ref h.length,h++[⟨.lst,A++B⟩]):=by
   rw[FO,Bg,PL,A3,Bk,A3];have:(h++[⟨.lst,A⟩]:A5).length=h.length+1:=by simp
   rw[this,a1,A3];exact JQ (ws:=A++B) h _ (Kj (Ha (Ha (G4 _ _) _) _)) (by simp) (by simp) (Jn.mpr λx AK=>(List.mem_append.mp AK).elim (Jn.mp jv x) (Jn.mp jw x))
  rw[Do,q];rfl
 obtain⟨H,Cg⟩:∃H:A5,H=h++[⟨.lst,A++B⟩]:=⟨_,rfl⟩;have Nk:H.length=h.length+1:=by rw[Cg];simp
 have Px:H[h.length]?=some ⟨.lst,A++B⟩:=by rw[Cg];simp
 have G2:By (Z (BQ (Z (pu (.str (AJ "wait"))) A1)) A1) [some (.int (n:Int)),some (.ref h.length)] H=.ok (.ref H.length,H++[⟨.lst,[Ax none]⟩]):=rfl;have a2:=NR (h:=H++[⟨.lst,[Ax none]⟩]) (i:=h.length) (j:=H.length) (a:=A++B) (b:=[Ax none]) (Ch H Px _) (by simp) (by simp[B0];lia);obtain⟨G,Xc⟩:∃G:A5,G=H++[⟨.lst,[Ax none]⟩]++[⟨.lst,A++B++[Ax none]⟩]:=⟨_,rfl⟩;rw[<-Xc]at a2;have ym:G.length=H.length+2:=by rw[Xc];simp
 have aga:G[H.length+1]?=some ⟨.lst,A++B++[Ax none]⟩:=by rw[Xc,F6,Q1];rfl
 have Co:=cZ (c:=2) (t:=AJ "forget") rfl AV (ρ:=[some (.int (n:Int)),some (.ref h.length)]) rfl G;rw[<-Xb]at Co;have GT:=NR (h:=G++[⟨.lst,D⟩]) (i:=H.length+1) (j:=G.length) (a:=A++B++[Ax none]) (b:=D) (Ch G aga _) (by simp) (by simp[B0];lia);have s2:Bb (A0 addW (A0 addW (I 1) (By (Z (BQ (Z (pu (.str (AJ "wait"))) A1)) A1))) (Dw 1 [] (Dc (Z (I 0) A1)) (AD 0) (pu true) (BQ (Z (pu (.str (AJ "forget"))) (Z (I 0) A1))))) [some (.int (n:Int)),some (.ref h.length)] H=.ok (.ref H.length,H++[⟨.lst,A++B++[Ax none]++D⟩]):=by
  rw[FO,Bg,Bg,v_var];rw[show([some (.int (n:Int)),some (.ref h.length)]:B9)[1]?=some (some (.ref h.length))from rfl,Ci,A3,G2,A3,a2,A3];have CN:(H++[⟨.lst,[Ax none]⟩]:A5).length=H.length+1:=by simp
  rw[CN,Co,A3,GT,A3];refine JQ (ws:=A++B++[Ax none]++D) H _ (Kj ?_) (by rw[Ej,ym];lia) (by simp) (Jn.mpr λx AK=>?_)
  .rw[Xc];exact Ha (Ha (Ha (G4 _ _) _) _) _
  .simp only[HV,JW]at AK;rcases AK with((AK|AK)|rfl)|AK
   .exact Jn.mp jv x AK
   .exact Jn.mp jw x AK
   .exact L8 _
   .exact Jn.mp aaO x AK
 have e:RG [.int (n:Int)] h=((Xx [some (.int (n:Int)),none] h).bind outF).bind λp=>settle h p.1 p.2:=rfl;rw[e];unfold Xx;rw[B4,s1,A3,BA,<-Cg,Ga,s2,A3,A3,Ig,A3];have An:(plain n).map Ax=A++B++[Ax none]++D:=by rw[NE,PP,Xb];simp[plain]
 rw[An,Nk];exact JQ (ws:=A++B++[Ax none]++D) h _ (Kj (Ha (by rw[Cg];exact G4 _ _) _)) (by lia) (by rw[<-Nk];simp) (by rw[<-An];exact HK _ _ L8)
def acK(n:Nat):K5 n (plain n):=by
 refine⟨λp AT=>?_,?_⟩
 .simp only[plain,KV,HV,Tw,List.mem_range,JW]at AT;rcases AT with((⟨i,AB,e⟩|⟨i,AB,e⟩)|e)|⟨i,AB,e⟩
  .cases e;exact⟨by simp,AB⟩
  .cases e;exact⟨by simp,AB⟩
  .cases e
  .cases e;exact⟨by simp,AB⟩
 .have Y6:∀c,(KV c n).filterMap id=(CW n).map λi=>(c,i):=λc=>by
    unfold KV;rw[List.filterMap_map];induction CW n with
    |nil=>rfl
    |cons x l C9=>simp[C9]
  have C1:∀c:Nat,((CW n).map λi=>(c,i)).Nodup:=λc=>by rw[W_,Th];exact List.nodup_range.imp λh z=>h (Prod.mk.inj z).2
  have e:(plain n).filterMap id=((CW n).map λi=>(0,i))++((CW n).map λi=>(1,i))++((CW n).map λi=>(2,i)):=by simp only[plain,qv,Y6];simp
  rw[e];refine List.nodup_append.mpr ⟨List.nodup_append.mpr ⟨C1 0,C1 1,λa AE b A2 z=>?_⟩,C1 2,λa AE b A2 z=>?_⟩
  .obtain⟨i,_,rfl⟩:=List.mem_map.mp AE;obtain⟨j,_,rfl⟩:=List.mem_map.mp A2;cases z
  .obtain⟨j,_,rfl⟩:=List.mem_map.mp A2;rcases List.mem_append.mp AE with AE|AE
   .obtain⟨i,_,rfl⟩:=List.mem_map.mp AE;cases z
   .obtain⟨i,_,rfl⟩:=List.mem_map.mp AE;cases z
def EZ(a n:Nat)(p:Nat)(s3 s4 s5 s6 s7:Option W):B9:=[some (.ref a),some (.int (n:Int)),some (.ref p),s3,s4,s5,s6,s7]
noncomputable def dU:Am:=Bh (Fl (AY (A0 (Au true) (A0 BV (I 4) (pu (.int 5))) (pu (.int 0)))) (AY (A0 JJ (Az BO (Z (I 2) A1)) (pu (.int 30))))) (Ac (Bb (A0 addW (A0 addW (D5 (I 2) (pu none) (CE (I 5))) (By (Z (BQ (Z (pu (.str (AJ "wait"))) A1)) A1))) (D5 (I 2) (CE (I 5)) (pu none)))) (AD 2)) Bd
def dV:Am:=Bh (AY (A0 (Au true) (A0 BV (I 4) (pu (.int 5))) (pu (.int 1)))) (Ac (Bb (A0 addW (D5 (I 2) (pu none) (CE (I 5))) (D5 (I 2) (CE (A0 addW (I 5) (pu (.int 1)))) (pu none)))) (AD 2)) Bd
noncomputable def kK:Am:=AQ (Ac (EP JM (I 2) (Z (A0 BV (I 5) (Az BO (Z (I 2) A1))) A1)) (AD 6))
    (AQ (Ac (A0 BV (A0 CY (I 4) (pu (.int 200))) (A0 addW (Az BO (Z (I 2) A1)) (pu (.int 1)))) (AD 7))
    (Ac (Bb (A0 addW (A0 addW (D5 (I 2) (pu none) (CE (I 7))) (By (Z (I 6) A1))) (D5 (I 2) (CE (I 7)) (pu none)))) (AD 2)))
def dW:Am:=Bh (Ho (Fl (AY (A0 KG (A0 BV (I 4) (pu (.int 5))) (pu (.int 2)))) (AY (A0 (Au false) (I 2) (By A1))))) kK Bd
def cj:Am:=AQ (Ac (Ah 2 EQ (Z (I 3) (Z (pu (.int 5)) A1))) (AD 4))
    (AQ (Ac (A0 BV (A0 CY (I 4) (pu (.int 5))) (A0 addW (Az BO (Z (I 2) A1)) (pu (.int 1)))) (AD 5))
    (AQ dU (AQ dV dW)))
structure M5(h:A5)(n p:Nat)(ps:List Ck)(H:A5):Prop where
 pr:h<+: H
 BL:h.length<=p
 e:H[p]?=some ⟨.lst,ps.map Ax⟩
 i:K5 n ps
def acV{h:A5}{n:Nat}{ps:List Ck}(e:h[n]?=some ⟨.lst,ps.map Ax⟩):DD 8 h (.ref n)=some (.Dn false (ps.map NW)):=by simp only[DD,IB h e];rw[mapM_some (DD 7 h) Ax NW (λs=>mS 5 h s) ps];rfl
def ne_nil{h:A5}{n m:Nat}{ps:List Ck}(e:h[n]?=some ⟨.lst,ps.map Ax⟩)(BX:h[m]?=some ⟨.lst,[]⟩):Au false (.ref n) (.ref m) h=.ok (.AL (!ps.isEmpty),h):=by unfold Au;rw[acV e,WK (l:=[]) 7 BX];cases ps<;>simp[eqT,G8]
section
variable{h H:A5}{a n p:Nat}{ps:List Ck}{y:Int}{k:Nat}{s3 s6 s7:Option W}
def M5.new{EV:List Ck}{H1:A5}(x:M5 h n p ps H1)(q:K5 n EV):M5 h n H1.length EV (H1++[⟨.lst,EV.map Ax⟩]):=⟨Ha x.pr _,x.pr.length_le,by simp,q⟩
def t5(x:M5 h n p ps H)(l:ps.length<=30)(AO:k<=ps.length):∃EV FF A7,dU (EZ a n p s3 (some (.int y)) (some (.int (k:Int))) s6 s7) H=.ok (.AR (EZ a n FF s3 (some (.int y)) (some (.int (k:Int))) s6 s7),A7)/\M5 h n FF EV A7/\ps.length<=EV.length/\EV.length<=ps.length+1/\EV.length<=30:=by
 unfold dU;have lw:BO [.ref p] H=.ok (.int ps.length,H):=by rw[GL x.e,CS]
 have t:Fl (AY (A0 (Au true) (A0 BV (I 4) (pu (.int 5))) (pu (.int 0)))) (AY (A0 JJ (Az BO (Z (I 2) A1)) (pu (.int 30)))) (EZ a n p s3 (some (.int y)) (some (.int (k:Int))) s6 s7) H=.ok (decide (y%5=0)&&decide ((ps.length:Int)<30),H):=by
  by_cases Ez:y%5=0
  .simp[EZ,Ez,lw]
  .simp[EZ,Ez]
 rw[Dj,t,A3];by_cases A2:(decide (y%5=0)&&decide ((ps.length:Int)<30))=true
 .rw[if_pos A2];have R2:ps.length<30:=by
   have:=(Hr .. ▸A2:_/\_).2;have:=of_decide_eq_true this;lia
  have im:=iz (i:=5) (k:=k) (w:=Ax none) (ρ:=EZ a n p s3 (some (.int y)) (some (.int (k:Int))) s6 s7) (mw:=BQ (Z (pu (.str (AJ "wait"))) A1)) rfl rfl x.e (by simp;lia) (by simpa using AO) (λh'=>rfl) (HK _ _ L8) (L8 _);rw[kd]at im;have q:K5 n (ps.take k++[none]++ps.drop k):=K5.wait (by rw[PA];exact x.i);refine⟨_,H.length,_,?_,x.new q,by simp;lia,by simp;lia,by simp;lia⟩;rw[Do,im];rfl
 .rw[if_neg A2];exact⟨ps,p,H,rfl,x,CB _,by lia,l⟩
def t6(x:M5 h n p ps H)(l:ps.length<=30)(AO:k<=ps.length):∃EV FF A7,dV (EZ a n p s3 (some (.int y)) (some (.int (k:Int))) s6 s7) H=.ok (.AR (EZ a n FF s3 (some (.int y)) (some (.int (k:Int))) s6 s7),A7)/\M5 h n FF EV A7/\EV.length<=ps.length:=by
 unfold dV;have t:AY (A0 (Au true) (A0 BV (I 4) (pu (.int 5))) (pu (.int 1))) (EZ a n p s3 (some (.int y)) (some (.int (k:Int))) s6 s7) H=.ok (decide (y%5=1),H):=by simp[EZ]
 rw[Dj,t,A3];by_cases A2:decide (y%5=1)=true
 .rw[if_pos A2];have im:=sL (i:=5) (k:=k) (ρ:=EZ a n p s3 (some (.int y)) (some (.int (k:Int))) s6 s7) rfl rfl x.e (by simp;lia) (by simpa using AO) (HK _ _ L8);rw[aaB]at im;have FZ:(ps.take k++ps.drop (k+1)).Sublist ps:=by
   have:(ps.take k++ps.drop (k+1)).Sublist (ps.take k++ps.drop k):=(List.Sublist.refl _).append (by rw[<-List.drop_drop];exact List.drop_sublist _ _)
   rwa [PA]at this
  refine⟨_,H.length,_,?_,x.new (x.i.sub FZ),FZ.length_le⟩;rw[Do,im];rfl
 .rw[if_neg A2];exact⟨ps,p,H,rfl,x,CB _⟩
def t7(x:M5 h n p ps H)(l:ps.length<=30):∃EV FF A7 Lw Ze,dW (EZ a n p s3 (some (.int y)) (some (.int (k:Int))) s6 s7) H=.ok (.AR (EZ a n FF s3 (some (.int y)) (some (.int (k:Int))) Lw Ze),A7)/\M5 h n FF EV A7/\EV.length=ps.length:=by
 unfold dW;have WI:Au false (.ref p) (.ref H.length) (H++[⟨.lst,[]⟩])=.ok (.AL (!ps.isEmpty),H++[⟨.lst,[]⟩]):=ne_nil (Ch H x.e _) (by simp);have t:Ho (Fl (AY (A0 KG (A0 BV (I 4) (pu (.int 5))) (pu (.int 2)))) (AY (A0 (Au false) (I 2) (By A1)))) (EZ a n p s3 (some (.int y)) (some (.int (k:Int))) s6 s7) H=.ok (decide (2<y%5)&&!ps.isEmpty,H):=by
  by_cases Ez:2<y%5
  .simp[EZ,Ez,nw,WI]
  .simp[EZ,Ez]
 rw[Dj,t,A3];by_cases A2:(decide (2<y%5)&&!ps.isEmpty)=true
 .rw[if_pos A2];have ne:0<ps.length:=by
   have:=(Hr .. ▸A2:_/\_).2;cases ps with
   |nil=>cases this
   |cons _ _=>simp
  obtain⟨j,Ap,Hj⟩:=Jo (k:Int) (n:=ps.length) ne;have lw:BO [.ref p] H=.ok (.int ps.length,H):=by rw[GL x.e,CS]
  have Jq:(0:Int)<(ps.length:Int):=by lia
  obtain⟨H1,A9⟩:∃H1:A5,H1=H.set p ⟨.lst,(ps.eraseIdx j).map Ax⟩:=⟨_,rfl⟩;have s1:Ac (EP JM (I 2) (Z (A0 BV (I 5) (Az BO (Z (I 2) A1))) A1)) (AD 6) (EZ a n p s3 (some (.int y)) (some (.int (k:Int))) s6 s7) H=.ok (.AR (EZ a n p s3 (some (.int y)) (some (.int (k:Int))) (some (Ax ps[j])) s7),H1):=by
   have q:EP JM (I 2) (Z (A0 BV (I 5) (Az BO (Z (I 2) A1))) A1) (EZ a n p s3 (some (.int y)) (some (.int (k:Int))) s6 s7) H=.ok (Ax ps[j],H1):=by
    rw[A9];refine Mz (ws:=ps.map Ax) (ws2:=ps.map Ax) (us:=[.int (j:Int)]) (h1:=H) (h2:=H) rfl x.e ?_ x.e ?_ (by simp[B0];have:=List.length_eraseIdx_le ps j;lia)
    .simp only[EZ,CM,Bg,G1,Ce,v_var,DM,ED,Ci,A3,lw,Kh,if_pos Jq,Hj]
    .rw[ck (by simpa using Ap) (by simp;lia)];simp[Xg]
   rw[Do,q];rfl
  have FP:H1[p]?=some ⟨.lst,(ps.eraseIdx j).map Ax⟩:=by rw[A9];exact IU x.e
  have le:(ps.eraseIdx j).length=ps.length-1:=e4 Ap;have aa3:BO [.ref p] H1=.ok (.int (ps.eraseIdx j).length,H1):=by rw[GL FP,CS]
  obtain⟨i,AB,G7⟩:=Jo (y/200) (n:=(ps.eraseIdx j).length+1) (by lia);have G7:y/200%(((ps.eraseIdx j).length:Int)+1)=(i:Int):=by rw[<-G7];simp
  have E3:(0:Int)<((ps.eraseIdx j).length:Int)+1:=by lia
  have s2:Ac (A0 BV (A0 CY (I 4) (pu (.int 200))) (A0 addW (Az BO (Z (I 2) A1)) (pu (.int 1)))) (AD 7) (EZ a n p s3 (some (.int y)) (some (.int (k:Int))) (some (Ax ps[j])) s7) H1=.ok (.AR (EZ a n p s3 (some (.int y)) (some (.int (k:Int))) (some (Ax ps[j])) (some (.int (i:Int)))),H1):=by simp only[EZ,Do,Bg,G1,CM,Ce,v_var,Bw,DM,ED,Ci,A3,MX,if_pos (show(0:Int)<200/\(200:Int)<1073741824 by decide),aa3,MW,Kh,if_pos E3,G7];rfl
  have im:=iz (i:=7) (k:=i) (w:=Ax ps[j]) (ρ:=EZ a n p s3 (some (.int y)) (some (.int (k:Int))) (some (Ax ps[j])) (some (.int (i:Int)))) (mw:=I 6) rfl rfl FP (by rw[CS];lia) (by rw[CS];lia) (λh'=>rfl) (HK _ _ L8) (L8 _);rw[kd]at im;have pm:((ps.eraseIdx j).take i++[ps[j]]++(ps.eraseIdx j).drop i).Perm ps:=by
   have q1:((ps.eraseIdx j).take i++[ps[j]]++(ps.eraseIdx j).drop i).Perm (ps[j]::ps.eraseIdx j):=by
    rw[F6,eD];have:=List.perm_middle (a:=ps[j]) (l₁:=(ps.eraseIdx j).take i) (l₂:=(ps.eraseIdx j).drop i)
    rwa [PA]at this
   exact q1.trans (Xh ps j Ap)
  have x1:M5 h n p (ps.eraseIdx j) H1:=⟨by rw[A9];exact WH x.pr x.BL _,x.BL,FP,x.i.sub (List.eraseIdx_sublist ps j)⟩;refine⟨_,H1.length,_,some (Ax ps[j]),some (.int (i:Int)),?_,x1.new (x.i.perm pm),pm.length_eq⟩;unfold kK;rw[B4,s1,A3,BA,B4,s2,A3,BA,Do,im];rfl
 .rw[if_neg A2];exact⟨ps,p,H,s6,s7,rfl,x,rfl⟩
end
def JA{h h1:A5}{k:Nat}{mf:Bq}{ma:EE}{ρ:B9}{us:List W}{r:R (W×A5)}(BY:ma ρ h=.ok (us,h1))(l:us.length=k)(B5:mf us h1=r):Ah k mf ma ρ h=r:=by rw[IW,BY,A3,if_pos l,B5]
def abV{l:List Int}(AG:l.length<=10){n:Nat}(AV:n<=6){h:A5}{a:Nat}(BY:h[a]?=some ⟨.lst,Ay l⟩):∃ps,Sg n ps/\ps.length<=30/\RH [.ref a,.int (n:Int)] h=.ok (.ref h.length,h++[⟨.lst,ps.map Ax⟩]):=by
 have pm:=acJ AV h;have jJ:(plain n).length=3*n+1:=by simp[plain,ZW];lia
 have BL:=US (mi:=E8 (I 0)) (it:=GA (.ref a)) (g:=AD 3) (b:=cj) (ρ:=EZ a n h.length none none none none none) (h:=h++[⟨.lst,(plain n).map Ax⟩]) (h0:=h++[⟨.lst,(plain n).map Ax⟩]) (Ay l) (by simp[Ay];lia)
  (λj ρ H=>∃ps p s3 s4 s5 s6 s7,ρ=EZ a n p s3 s4 s5 s6 s7/\M5 h n p ps H/\ps.length<=30)
  (T:=λf H=>∃ps p s3 s4 s5 s6 s7,f=.AR (EZ a n p s3 s4 s5 s6 s7)/\M5 h n p ps H/\ps.length<=30)
  (Mu (Ch h BY _) rfl) (λj ρ H _ q=>by obtain⟨ps,p,_,_,_,_,_,_,x,_⟩:=q;exact PZ (FM x.pr BY) j)
  ⟨plain n,h.length,none,none,none,none,none,rfl,⟨G4 _ _,CB _,by simp,acK n⟩,by lia⟩ ?_ ?_
 .obtain⟨f,H,C8,ps,p,s3,s4,s5,s6,s7,rfl,x,R2⟩:=BL.H5;refine⟨ps,⟨by lia,x.i.k,x.i.C1⟩,R2,?_⟩;have e:RH [.ref a,.int (n:Int)] h=((AQ (Ac (Ah 1 RG (Z (I 1) A1)) (AD 2)) (AQ (F2 (E8 (I 0)) (AD 3) cj) (B2 (I 2))) [some (.ref a),some (.int (n:Int)),none,none,none,none,none,none] h).bind outF).bind λp=>settle h p.1 p.2:=rfl;have s1:Ac (Ah 1 RG (Z (I 1) A1)) (AD 2) [some (.ref a),some (.int (n:Int)),none,none,none,none,none,none] h=.ok (.AR (EZ a n h.length none none none none none),h++[⟨.lst,(plain n).map Ax⟩]):=by
   have q:Ah 1 RG (Z (I 1) A1) [some (.ref a),some (.int (n:Int)),none,none,none,none,none,none] h=.ok (.ref h.length,h++[⟨.lst,(plain n).map Ax⟩]):=JA (us:=[.int (n:Int)]) (h1:=h) rfl rfl pm;rw[Do,q];rfl
  rw[e,B4,s1,A3,BA,B4,Ly,C8,A3,BA,Ga,v_var,show(EZ a n p s3 s4 s5 s6 s7)[2]?=some (some (.ref p))from rfl,Ci,A3,A3,Ig,A3];exact JQ h H (Kj x.pr) x.BL x.e (HK _ _ L8)
 .rintro j w _ H Cp ⟨ps,p,s3,s4,s5,s6,s7,rfl,x,R2⟩;simp only[Ay,Ed]at Cp;cases ec:l[j]? with
  |none=>rw[ec]at Cp;cases Cp
  |some c=>
   rw[ec]at Cp;cases Cp;refine⟨EZ a n p (some (.int c)) s4 s5 s6 s7,H,rfl,?_⟩;obtain⟨y,DP⟩:=Nq c 5 (by lia);have DP:∀h,EQ [.int c,.int 5] h=.ok (.int y,h):=DP;have q1:Ac (Ah 2 EQ (Z (I 3) (Z (pu (.int 5)) A1))) (AD 4) (EZ a n p (some (.int c)) s4 s5 s6 s7) H=.ok (.AR (EZ a n p (some (.int c)) (some (.int y)) s5 s6 s7),H):=by simp[EZ,DP]
   have lw:BO [.ref p] H=.ok (.int ps.length,H):=by rw[GL x.e,CS]
   obtain⟨k,AO,DG⟩:=Jo (y/5) (n:=ps.length+1) (by lia);have DG:y/5%((ps.length:Int)+1)=(k:Int):=by rw[<-DG];simp
   have E3:(0:Int)<(ps.length:Int)+1:=by lia
   have q2:Ac (A0 BV (A0 CY (I 4) (pu (.int 5))) (A0 addW (Az BO (Z (I 2) A1)) (pu (.int 1)))) (AD 5) (EZ a n p (some (.int c)) (some (.int y)) s5 s6 s7) H=.ok (.AR (EZ a n p (some (.int c)) (some (.int y)) (some (.int (k:Int))) s6 s7),H):=by simp only[EZ,Do,Bg,G1,CM,Ce,v_var,Bw,DM,ED,Ci,A3,MX,if_pos (show(0:Int)<5/\(5:Int)<1073741824 by decide),lw,MW,Kh,if_pos E3,DG];rfl
   obtain⟨EV,FF,A7,Bk,x1,g1,g2,g3⟩:=t5 (a:=a) (y:=y) (s3:=some (.int c)) (s6:=s6) (s7:=s7) x R2 (k:=k) (by lia);obtain⟨ahY,Ct,AS,Co,x2,g4⟩:=t6 (a:=a) (y:=y) (s3:=some (.int c)) (s6:=s6) (s7:=s7) x1 g3 (k:=k) (by lia);obtain⟨ad6,HM,Bx,Lw,Ze,FH,x3,Ky⟩:=t7 (a:=a) (y:=y) (k:=k) (s3:=some (.int c)) (s6:=s6) (s7:=s7) x2 (by lia);unfold cj;rw[B4,q1,A3,BA,B4,q2,A3,BA,B4,Bk,A3,BA,B4,Co,A3,BA,FH];exact⟨_,_,rfl,ad6,HM,_,_,_,_,_,rfl,x3,by lia⟩
 .rintro _ H ⟨ps,p,s3,s4,s5,s6,s7,rfl,x,R2⟩;exact⟨ps,p,s3,s4,s5,s6,s7,rfl,x,R2⟩
end FU
namespace C0
open PySem PySem.Spec B6
def acu{h:A5}{n:Nat}{o Cn:O}(e:h[n]?=some o)(g:A5):(h.set n Cn++g).set n o=h++g:=by have AV:n<h.length:=(List.getElem?_eq_some_iff.mp e).1;have As:h[n]=o:=(List.getElem?_eq_some_iff.mp e).2;rw[List.set_append_left _ _ (by simpa using AV),List.set_set,<-As,List.set_getElem_self]
def gD{m e:B3}{ρ:B9}{h:A5}{n:Nat}{AI:List Key}{ws:List W}(p:W->Bool)(AG:ws.length<1000)(em:m ρ h=.ok (.ref n,h))(As:h[n]?=some ⟨.Aj AI,ws⟩)(DY:∀w∈ws,∀acc,e [some w] (h.set n ⟨.Gm AI,ws⟩++[⟨.lst,acc⟩])=.ok (.AL (p w),h.set n ⟨.Gm AI,ws⟩++[⟨.lst,acc⟩])) :
  Bb (Az (I9 true) (Z (R5 NZ 1 [] m (AD 0) (pu true) e) A1)) ρ h=.ok (.AL (ws.all p),h):=by
 have AV:n<h.length:=(List.getElem?_eq_some_iff.mp As).1;obtain⟨H,Cg⟩:∃H:A5,H=h.set n ⟨.Gm AI,ws⟩:=⟨_,rfl⟩;rw[<-Cg]at DY;have Nk:H.length=h.length:=by rw[Cg];simp
 have Px:H[n]?=some ⟨.Gm AI,ws⟩:=by rw[Cg];exact JU AV
 have c:=UL (mi:=pu (NZ AI ws)) (it:=NZ AI ws) (g:=AD 0) (t:=pu true) (e:=e) (ρ:=ρ) (h:=H) (h0:=H) (nl:=1) (caps:=[]) ws (λ_=>true) (λw=>.AL (p w)) (λρ=>∃s,ρ=[s]) AG rfl ⟨none,rfl⟩ (λj acc Ap=>by
   unfold NZ;by_cases q:j=ws.length
   .rw[if_pos q,JV (by lia)]
   .rw[if_neg q,Cc (by lia)];rfl) (by
   rintro w hw ρ acc ⟨s,rfl⟩;exact⟨[some w],rfl,⟨_,rfl⟩,rfl,λ_=>DY w hw acc⟩)
 rw[List.filter_eq_self.mpr (λ_ _=>rfl)]at c;have z:R5 NZ 1 [] m (AD 0) (pu true) e ρ h=.ok (.ref h.length,h++[⟨.lst,ws.map λw=>.AL (p w)⟩]):=by unfold R5;rw[IV,em,A3];simp only[As];rw[<-Cg,c];unfold pj;simp only[Gs (show n<H.length by lia),Px];rw[Cg,acu As];simp
 have q:EC (h++[⟨.lst,ws.map λw=>W.AL (p w)⟩]) (.ref h.length)=some (false,ws.map λw=>W.AL (p w)):=IB _ (by simp);have ad7:I9 true [.ref h.length] (h++[⟨.lst,ws.map λw=>W.AL (p w)⟩])=.ok (.AL (ws.all p),h++[⟨.lst,ws.map λw=>W.AL (p w)⟩]):=by simp only[I9,q,bD p ws,if_true];rw[Rx];rfl
 rw[FO,G1,CM,z,A3,Ce,A3,A3,ad7,A3];exact WP _ _ _ rfl
end C0
namespace FU
open PySem PySem.Spec B6 C0
section
variable{C:F8}{h:A5}{S:Em}
structure Qa(C:F8)(S:Em):Prop where
 le:S.done.length<=C.ps.length
 e:S.done=C.ps.take S.done.length
def a4(R:EK C h S):IP [.ref C.r] h=.ok (.int (S.done.length:Int),h):=by
 have fd:Ba "Run" "done" (.ref C.r) h=.ok (.ref C.M,h):=FK R.B5 rfl;have lw:BO [.ref C.M] h=.ok (.int S.done.length,h):=by rw[GL R.CC,CS]
 simp[IP,fk,fd,lw]
def allM(S:Em):Bool:=S.lets.all λl=>l.m==1
def Ie(C:F8)(S:Em):Bool:=if S.done.length=C.ps.length then false else if(C.ps.getD S.done.length none).isSome then true else allM S
def TZ(h:A5):W->Bool
 |.ref n=>match h[n]? with
  |some ⟨.ins _ _,.int m::_⟩=>m==1
  |_=>false
 |_=>false
def Qk{h h1:A5}{n:Nat}{c x:Str}{ns:List Str}{ws:List W}{mf:Bq}{o:B3}{ρ:B9}{r:C0.R (W×A5)}(GH:o ρ h=.ok (.ref n,h))(e:h[n]?=some ⟨.ins c ns,ws⟩)(v:DW ns ws x=none)(B5:mf [.ref n] h=r):C_ c x 0 mf o A1 ρ h=r:=L6 (us:=[]) GH e v rfl rfl B5
def l_(c:EY C)(R:EK C h S):h[C.pl]?=some ⟨.lst,C.ps.map Ax⟩:=R.Bc _ _ c.pp (λz=>by cases z)
def la(c:EY C)(R:EK C h S){k:Nat}(AO:k<C.ps.length):AA (.ref C.pl) (.int (k:Int)) h=.ok (Ax (C.ps.getD k none),h):=GZ (l_ c R) (by rw[Ed,Cc AO,EW,Cc AO];rfl)
def kf(c:EY C)(R:EK C h S)(D:Qa C S):TJ [.ref C.r] h=.ok (.AL (Ie C S),h):=by
 have BG:Ba "Run" "plan" (.ref C.r) h=.ok (.ref C.pl,h):=FK R.B5 rfl;have Du:Ba "Run" "letters" (.ref C.r) h=.ok (.ref (C.M+1),h):=FK R.B5 rfl;have lw:BO [.ref C.pl] h=.ok (.int C.ps.length,h):=by rw[GL (l_ c R),CS]
 have mp:C_ "Run" "place" 0 IP (I 0) A1 [some (.ref C.r)] h=.ok (.int (S.done.length:Int),h):=Qk (h1:=h) rfl R.B5 rfl (a4 R);have le:=R.le;have few:=R.few;have sP:=D.le;have al:=gD (m:=BM (Ba "Run" "letters") (I 0)) (e:=A0 (Au true) (BM (Ba "Letter" "mark") (I 0)) (pu (.int 1))) (ρ:=[some (.ref C.r)]) (TZ h) (by rw[CS];lia) (by simp[Du]) R.el (by
  intro w hw acc;obtain⟨l,AG,rfl⟩:=List.mem_map.mp hw;have x:=R.lt l (Iz _ AG);have t1:=x.t1;have ET:=c.ET;obtain⟨H,Cg⟩:∃H:A5,H=h.set (C.M+1) ⟨.Gm (S.lets.map E5),S.lets.map λl=>.ref l.BL⟩++[⟨.lst,acc⟩]:=⟨_,rfl⟩;have z:H[l.BL]?=some (R4 l):=by rw[Cg];exact Ch _ (by rw[F5 (by lia)];exact x.GH) _
  rw[<-Cg];have UZ:Ba "Letter" "mark" (.ref l.BL) H=.ok (.int (l.m:Int),H):=FK z rfl;have pm:TZ h (.ref l.BL)=decide ((l.m:Int)=1):=by simp only[TZ,x.GH,R4];by_cases q:(l.m:Int)=1<;>simp[q]
  rw[pm];simp[UZ])
 have BY:(S.lets.map λl=>W.ref l.BL).all (TZ h)=allM S:=by
  unfold allM;rw[Rx,Ww,Tk,Tk];refine forall_congr' λl=>⟨λq AG=>?_,λq AG=>?_⟩
  .have:=q AG;simp only[QQ,TZ,(R.lt l (Iz _ AG)).GH,R4,beq_iff_eq]at this |-;lia
  .have:=q AG;simp only[QQ,TZ,(R.lt l (Iz _ AG)).GH,R4,beq_iff_eq]at this |-;lia
 rw[BY]at al;have t1:AY (A0 (Au true) (C_ "Run" "place" 0 IP (I 0) A1) (Az BO (Z (BM (Ba "Run" "plan") (I 0)) A1))) [some (.ref C.r)] h=.ok (decide (S.done.length=C.ps.length),h):=by
  rw[HA,Bg,mp,A3];simp only[G1,CM,Ce,Jv,v_var,DM,Ci,A3,BG,lw,V4,HE]
  congr 2
  exact decide_eq_decide.mpr (by lia)
 have e:TJ [.ref C.r] h=((YM [some (.ref C.r)] h).bind outF).bind λp=>settle h p.1 p.2:=rfl;rw[e];unfold YM Ie;rw[B4,Dj,t1,A3];by_cases hd:S.done.length=C.ps.length
 .rw[if_pos (decide_eq_true hd),if_pos hd,Ga,Bw,A3,A3,T0,A3,Ig,A3];exact Pp h _ rfl
 .rw[if_neg (by simpa using hd),if_neg hd,Fg,A3,BA];have EO:=la c R (k:=S.done.length) (by lia);have Cb:AY (A0 (Au false) (A0 AA (BM (Ba "Run" "plan") (I 0)) (C_ "Run" "place" 0 IP (I 0) A1)) (pu MO)) [some (.ref C.r)] h=.ok (IN (Ax (C.ps.getD S.done.length none)),h):=by
   rw[HA,Bg,Bg,Jv,v_var];rw[show([some (.ref C.r)]:B9)[0]?=some (some (.ref C.r))from rfl,Ci,A3,BG,A3,mp,A3,EO,A3,Bw,A3,k7,A3,HE]
  rw[B4,Dj,Cb,A3];cases An:C.ps.getD S.done.length none with
  |some q=>rw[if_pos (show IN (Ax (some q))=true from rfl),if_pos (show(some q).isSome=true from rfl),Ga,Bw,A3,A3,T0,A3,Ig,A3];exact Pp h _ rfl
  |none=>rw[if_neg (show¬IN (Ax none)=true by simp[IN,Ax]),if_neg (show¬(none:Option (Nat×Nat)).isSome=true by simp),Fg,A3,BA,Ga,al,A3,A3,Ig,A3];exact Pp h _ rfl
def aeF(c:EY C)(R:EK C h S)(D:Qa C S)(hm:Ie C S=false):Pd [.ref C.r] h=.exc "NoMove" h:=by have FE:C_ "Run" "may_step" 0 TJ (I 0) A1 [some (.ref C.r)] h=.ok (.AL (Ie C S),h):=Qk (h1:=h) rfl R.B5 rfl (kf c R D);rw[hm]at FE;have e:Pd [.ref C.r] h=(So [some (.ref C.r)] h).bind outF:=rfl;rw[e];unfold So;rw[B4,Dj,v_not,HA,FE,A3,HE,A3,A3];rfl
def ke(D:Qa C S)(hm:Ie C S=true):S.done.length<C.ps.length:=by
 unfold Ie at hm;have:=D.le
 split at hm
 .cases hm
 .lia
def KW(C:F8)(S:Em):Em:={ S with done:=S.done++[C.ps.getD S.done.length none] }
def aeE(D:Qa C S)(DS:S.done.length<C.ps.length):Qa C (KW C S):=by refine⟨by simp[KW];lia,?_⟩;show S.done++[_]=C.ps.take (S.done++[_]).length;rw[Ej,qL,e8 DS,<-D.e,EW,Cc DS];rfl
def aeH(c:EY C)(R:EK C h S)(D:Qa C S)(hm:Ie C S=true):∃h',Pd [.ref C.r] h=.ok (Ax (C.ps.getD S.done.length none),h')/\EK C h' (KW C S)/\h'.length=h.length/\∀n,n≠C.M->h'[n]?=h[n]?:=by
 have DS:=ke D hm;have Vl:=c.P.l;have JN:=c.JN;have ET:=c.ET;have FE:C_ "Run" "may_step" 0 TJ (I 0) A1 [some (.ref C.r)] h=.ok (.AL (Ie C S),h):=Qk (h1:=h) rfl R.B5 rfl (kf c R D);rw[hm]at FE;have BG:Ba "Run" "plan" (.ref C.r) h=.ok (.ref C.pl,h):=FK R.B5 rfl;have fd:Ba "Run" "done" (.ref C.r) h=.ok (.ref C.M,h):=FK R.B5 rfl;have mp:C_ "Run" "place" 0 IP (I 0) A1 [some (.ref C.r)] h=.ok (.int (S.done.length:Int),h):=Qk (h1:=h) rfl R.B5 rfl (a4 R);obtain⟨s,es⟩:∃s,s=C.ps.getD S.done.length none:=⟨_,rfl⟩;have EO:=la c R DS;rw[<-es]at EO |-;obtain⟨h',Dt⟩:∃h':A5,h'=h.set C.M ⟨.lst,(S.done++[s]).map Ax⟩:=⟨_,rfl⟩;have ap:EP FS (BM (Ba "Run" "done") (I 0)) (Z (A0 AA (BM (Ba "Run" "plan") (I 0)) (C_ "Run" "place" 0 IP (I 0) A1)) A1) [some (.ref C.r)] h=.ok (.non,h'):=by rw[Dt];refine Mz (ws:=S.done.map Ax) (ws2:=S.done.map Ax) (us:=[Ax s]) (h1:=h) (h2:=h) (by simp[fd]) R.CC ?_ R.CC (by simp[FS]) (by simp[B0];lia);rw[CM,Bg,Jv,v_var,show([some (.ref C.r)]:B9)[0]?=some (some (.ref C.r))from rfl,Ci,A3,BG,A3,mp,A3,EO,A3];rfl
 have keep:∀n,n≠C.M->h'[n]?=h[n]?:=λn AV=>by rw[Dt,F5 (λz=>AV z.symm)]
 have Xd:h'[C.M]?=some ⟨.lst,(S.done++[s]).map Ax⟩:=by rw[Dt];exact IU R.CC
 have iW:h'[C.r]?=some (OW C.Kg C.MM C.D_ C.pl C.M S.Be):=by rw[keep _ (by lia)];exact R.B5
 have uj:Ba "Run" "done" (.ref C.r) h'=.ok (.ref C.M,h'):=FK iW rfl;have y9:AA (.ref C.M) (.int (-1)) h'=.ok (Ax s,h'):=bt (us:=S.done.map Ax) (by rw[Xd];simp);have q:=c.Cv;refine⟨h',?_,?_,by rw[Dt];simp,keep⟩
 .have e:Pd [.ref C.r] h=(So [some (.ref C.r)] h).bind outF:=rfl;rw[e];unfold So;rw[B4,Dj,v_not,HA,FE,A3,HE,A3,A3,if_neg (by simp),Fg,A3,BA,B4,Mg,ap,A3,A3,BA,Ga,Bg,Jv,v_var];rw[show([some (.ref C.r)]:B9)[0]?=some (some (.ref C.r))from rfl,Ci,A3,uj,A3,Jv,Bw,A3];have Va:H4 (.int 1) h'=.ok (.int (-1),h'):=rfl;rw[Va,A3,y9,A3,A3,Ig]
 .refine⟨λn o' k ne=>?_,iW,by rw[Xd];simp[KW,es],by rw[keep _ (by lia)];exact R.el,by rw[keep _ (by lia)];exact R.MT,λl AG=>?_,R.C1,R.nn,R.Ge,λp AT=>?_,R.few,R.le,by rw[Dt];simpa using R.AG,R.pr⟩
  .rw[keep n (by have:=FW k;lia)];exact R.Bc n o' k ne
  .have x:=R.lt l AG;have:=x.t1;have:=x.Cb;exact x.to (keep _ (by lia)) (keep _ (by lia))
  .simp only[KW,HV,JW]at AT;rcases AT with AT|AT
   .exact R.I2 p AT
   .refine(c.P.k p ?_).1;rw[AT,EW,Cc DS];exact LS _
def jp(R:EK C h S){r:C0.R (W×A5)}(e:Pd [.ref C.r] h=r)(B7:r=.exc "NoMove" h\/∃p,r=.ok p):I7 [.ref C.r,.tup [.str (AJ "step")]] h=r:=by
 have BB:Dv "tuple" (.tup [.str (AJ "step")]) h=.ok (.AL true,h):=rfl;have Bm:Dv "str" (.str (AJ "step")) h=.ok (.AL true,h):=rfl;have FE:C_ "Run" "step" 0 Pd (I 0) A1 [some (.ref C.r),some (.tup [.str (AJ "step")])] h=r:=Qk (h1:=h) rfl R.B5 rfl e;have q1:(AJ "step"==AJ "come")=false:=rfl;have q2:(AJ "step"==AJ "go")=false:=rfl;have Ee:Au true (.tup [.str (AJ "step")]) SE h=.ok (.AL true,h):=by simp[Au,SE,DD,eqT,G8]
 rcases B7 with B7|⟨⟨w,h'⟩,B7⟩
 .rw[B7]at FE |-;simp[I7,Sn,BB,Bm,Ou,Ff,q1,q2,Ee,FE]
 .rw[B7]at FE |-;simp[I7,Sn,BB,Bm,Ou,Ff,q1,q2,Ee,FE]
end
end FU
namespace C0
open PySem PySem.Spec B6
def sM{h:A5}{n:Nat}{AI:List Key}{vs:List W}(e:h[n]?=some ⟨.Aj AI,vs⟩)(x:Str):Gz h (.ref n) (.str x)=some (DW AI vs (.inr x)):=by simp only[Gz,e,keyOf,U1]
def Mw{h:A5}{n:Nat}{AI:List Key}{vs:List W}{x:Str}{w:W}(e:h[n]?=some ⟨.Aj AI,vs⟩)(v:DW AI vs (.inr x)=some w):AA (.ref n) (.str x) h=.ok (w,h):=by unfold AA;rw[sM e,v]
def gf{h:A5}{n:Nat}{AI:List Key}{vs pF:List W}{x:Str}{v:W}{ρ:B9}(e:h[n]?=some ⟨.Aj AI,vs⟩)(l:vs.length<B0)(m: .inr x∈AI)(ev:NU AI vs (.inr x) v=pF):MQ (.ref n) (.str x) v ρ h=.ok (.AR ρ,h.set n ⟨.Aj AI,pF⟩):=by unfold MQ;simp only[e,keyOf,if_pos l,MY,if_pos m,ev]
end C0
namespace FU
open PySem PySem.Spec B6 C0
noncomputable def OX:List Key:=[.inr (AJ "wires"),.inr (AJ "books"),.inr (AJ "plan"),.inr (AJ "done"),.inr (AJ "letters"),.inr (AJ "came"),.inr (AJ "ended")]
structure Kp where
 Ih:Nat
 po:Nat
 Cd:Nat
 pp:Nat
def Pn(C:F8)(P:Kp)(I3 ce:Nat):O:=⟨.Aj OX,[.ref P.Ih,.ref (C.M+4),.ref P.pp,.int (I3:Int),.ref (C.M+5),.int (ce:Int),.ref (C.M+6)]⟩
structure Ja(C:F8)(P:Kp):Prop where
 w:C.K[P.Ih]?=some ⟨.lst,C.ws.map CA⟩
 a:EX C.K P.po C.A
 b:EX C.K P.Cd C.B
 p:C.K[P.pp]?=some ⟨.lst,C.ps.map Ax⟩
 t:C.M+7<=C.T
def E6(f:Nat->Nat)(l:Lt):W:=.tup [.int (l.m:Int),.int (l.a:Int),.ref (f l.n)]
structure FR(C:F8)(P:Kp)(h:A5)(S:Em)(f:Nat->Nat):Prop where
 Bc:∀(n:Nat) o,C.K[n]?=some o->o≠Iq->h[n]?=some o
 D:Qa C S
 st:h[C.M+3]?=some (Pn C P S.done.length S.Be)
 FZ:h[C.M+4]?=some ⟨.lst,[.ref P.po,.ref P.Cd]⟩
 Bn:h[C.M+5]?=some ⟨.Aj (S.lets.map E5),S.lets.map (E6 f)⟩
 WN:∃es,h[C.M+6]?=some ⟨.lst,es⟩/\es.length+S.lets.length<=S.Be
 KR:∀l∈S.lets,h[f l.n]?=some (Le l)/\C.T<=f l.n
 lt:∀l∈S.lets,l.m<2/\l.a<16/\l.d∈D2 C.cs C.cs.length
 nn:(S.lets.map (·.n)).Nodup
 Ge:∀l∈S.lets,l.n<S.Be
 I2:∀p,some p∈S.done->p.1<3
 few:S.Be<1000
 AG:C.T<=h.length
 pr:∀l∈S.lets,l.pre.length<=S.Ca
section
variable{C:F8}{P:Kp}{h:A5}{S:Em}{f:Nat->Nat}
def FR.Ec(J:FR C P h S f):S.lets.length<=S.Be:=by obtain⟨es,_,e⟩:=J.WN;lia
def FR.to{h':A5}(c:EY C)(k:Ja C P)(J:FR C P h S f)(e:∀n,(n<C.K.length/\C.K[n]?≠some Iq)\/(C.M+3<=n/\n<C.M+7)\/(∃l∈S.lets,n=f l.n)->h'[n]?=h[n]?)(AG:C.T<=h'.length):FR C P h' S f:=by obtain⟨es,A9,AF⟩:=J.WN;have q:∀n,C.M+3<=n/\n<C.M+7->h'[n]?=h[n]?:=λn AV=>e n (.inr (.inl AV));exact⟨λn o Jl ne=>(e n (.inl ⟨FW Jl,λz=>ne (by rw[Jl]at z;cases z;rfl)⟩)).trans (J.Bc n o Jl ne),J.D,(q _ (by lia)).trans J.st,(q _ (by lia)).trans J.FZ,(q _ (by lia)).trans J.Bn,⟨es,(q _ (by lia)).trans A9,AF⟩,λl AG=>⟨(e _ (.inr (.inr ⟨l,AG,rfl⟩))).trans (J.KR l AG).1,(J.KR l AG).2⟩,J.lt,J.nn,J.Ge,J.I2,J.few,AG,J.pr⟩
def uU(J:FR C P h S f):AA (.ref (C.M+3)) (.str (AJ "wires")) h=.ok (.ref P.Ih,h):=Mw J.st rfl
def uS(J:FR C P h S f):AA (.ref (C.M+3)) (.str (AJ "books")) h=.ok (.ref (C.M+4),h):=Mw J.st rfl
def Yv(J:FR C P h S f):AA (.ref (C.M+3)) (.str (AJ "plan")) h=.ok (.ref P.pp,h):=Mw J.st rfl
def Rc(J:FR C P h S f):AA (.ref (C.M+3)) (.str (AJ "done")) h=.ok (.int (S.done.length:Int),h):=Mw J.st rfl
def SP(J:FR C P h S f):AA (.ref (C.M+3)) (.str (AJ "letters")) h=.ok (.ref (C.M+5),h):=Mw J.st rfl
def uT(J:FR C P h S f):AA (.ref (C.M+3)) (.str (AJ "came")) h=.ok (.int (S.Be:Int),h):=Mw J.st rfl
def a3(k:Ja C P)(R:FR C P h S f):h[P.pp]?=some ⟨.lst,C.ps.map Ax⟩:=R.Bc _ _ k.p (λz=>by cases z)
def h7(k:Ja C P)(c:EY C)(J:FR C P h S f)(ρ:B9):Lu (.ref P.pp) none (some (S.done.length:Int)) ρ h=.ok (.ref h.length,h++[⟨.lst,S.done.map Ax⟩]):=by have Vl:=c.P.l;rw[WO (a3 k J) (by rw[CS];lia),bM _ (by rw[CS];exact J.D.le),<-X8,<-J.D.e]
def e0{ρ:B9}{m:B3}{k:Int}{h h1:A5}(e:m ρ h=.ok (.int k,h1)):CE m ρ h=.ok (some k,h1):=by unfold CE;rw[IV,e];rfl
def yR(k:Ja C P)(c:EY C)(J:FR C P h S f){hh m:Nat}(hm:m<2):TU [.ref (C.M+3),.int (hh:Int),.int (m:Int)] h=.ok (.AL (My S.done hh m),h):=by
 obtain⟨H,Cg⟩:∃H:A5,H=h++[⟨.lst,S.done.map Ax⟩]:=⟨_,rfl⟩;have Px:H[h.length]?=some ⟨.lst,S.done.map Ax⟩:=by rw[Cg];simp
 have s1:Ac (Bb (D5 (A0 AA (I 0) (pu (.str (AJ "plan")))) (pu none) (CE (A0 AA (I 0) (pu (.str (AJ "done"))))))) (AD 3) [some (.ref (C.M+3)),some (.int (hh:Int)),some (.int (m:Int)),none] h=.ok (.AR [some (.ref (C.M+3)),some (.int (hh:Int)),some (.int (m:Int)),some (.ref h.length)],H):=by
  have v0:∀h':A5,I 0 [some (.ref (C.M+3)),some (.int (hh:Int)),some (.int (m:Int)),none] h'=.ok (.ref (C.M+3),h'):=λ_=>rfl;have OC:CE (A0 AA (I 0) (pu (.str (AJ "done")))) [some (.ref (C.M+3)),some (.int (hh:Int)),some (.int (m:Int)),none] h=.ok (some (S.done.length:Int),h):=e0 (by rw[Bg,v0,A3,Bw,A3,Rc J]);have q:Bb (D5 (A0 AA (I 0) (pu (.str (AJ "plan")))) (pu none) (CE (A0 AA (I 0) (pu (.str (AJ "done")))))) [some (.ref (C.M+3)),some (.int (hh:Int)),some (.int (m:Int)),none] h=.ok (.ref h.length,H):=by rw[FO,Mi,Bg,v0,A3,Bw,A3,Yv J,A3,Bw,A3,OC,A3,h7 k c J,A3,Cg];exact Po h _ rfl (HK _ _ L8)
  rw[Do,q];rfl
 have GK:=S2 (hh:=hh) (k:=0) true Px (by lia) J.I2;have Bm:=S2 (hh:=hh) (k:=2) false Px (by lia) J.I2;rw[show Gp 0=AJ "teach" from rfl]at GK;rw[show Gp 2=AJ "forget" from rfl]at Bm;have e:TU [.ref (C.M+3),.int (hh:Int),.int (m:Int)] h=((Xv [some (.ref (C.M+3)),some (.int (hh:Int)),some (.int (m:Int)),none] h).bind outF).bind λp=>settle h p.1 p.2:=rfl;rw[e];unfold Xv;rw[B4,s1,A3,BA];have:m=0\/m=1:=by lia
 rcases this with rfl|rfl
 .simp[Bm,B0,My];rw[Cg];simp
 .simp[GK,B0,My];rw[Cg];simp
def T_:W->Bool
 |.tup (.int m::_)=>m==1
 |_=>false
def zg(h:A5)(s:Ck):Au false (Ax s) (.tup [.str (AJ "wait")]) h=.ok (.AL (IN (Ax s)),h):=by
 cases s with
 |none=>simp[Au,Ax,DD,eqT,G8,IN]
 |some p=>simp[Au,Ax,DD,eqT,G8,IN]
def kS(k:Ja C P)(c:EY C)(J:FR C P h S f):TV [.ref (C.M+3)] h=.ok (.AL (Ie C S),h):=by
 have v0:∀h':A5,I 0 [some (.ref (C.M+3))] h'=.ok (.ref (C.M+3),h'):=λ_=>rfl;have lw:BO [.ref P.pp] h=.ok (.int C.ps.length,h):=by rw[GL (a3 k J),CS]
 have le:=J.Ec;have few:=J.few;have sP:=J.D.le;have al:=gD (m:=A0 AA (I 0) (pu (.str (AJ "letters")))) (e:=A0 (Au true) (A0 AA (I 0) (pu (.int 0))) (pu (.int 1))) (ρ:=[some (.ref (C.M+3))]) T_ (by rw[CS];lia) (by rw[Bg,v0,A3,Bw,A3,SP J]) J.Bn (by
  intro w hw acc;obtain⟨l,AG,rfl⟩:=List.mem_map.mp hw;have pm:T_ (E6 f l)=decide ((l.m:Int)=1):=by simp only[T_,E6];by_cases q:(l.m:Int)=1<;>simp[q]
  rw[pm];simp[E6,Ff])
 have BY:(S.lets.map (E6 f)).all T_=allM S:=by
  unfold allM;rw[Rx]
  congr 1
  funext l
  by_cases q:l.m=1
  .have CT:(l.m:Int)=1:=by lia
   simp[QQ,T_,E6,q]
  .have CT:¬(l.m:Int)=1:=by lia
   simp only[QQ,T_,E6];rw[beq_false_of_ne CT,beq_false_of_ne q]
 rw[BY]at al;have t1:AY (A0 (Au true) (A0 AA (I 0) (pu (.str (AJ "done")))) (Az BO (Z (A0 AA (I 0) (pu (.str (AJ "plan")))) A1))) [some (.ref (C.M+3))] h=.ok (decide (S.done.length=C.ps.length),h):=by
  rw[HA,Bg,Bg,v0,A3,Bw,A3,Rc J,A3,G1,CM,Bg,v0,A3,Bw,A3,Yv J,A3,Ce,A3,A3,lw,A3,V4,A3,HE]
  congr 2
  exact decide_eq_decide.mpr (by lia)
 have e:TV [.ref (C.M+3)] h=((Xw [some (.ref (C.M+3))] h).bind outF).bind λp=>settle h p.1 p.2:=rfl;rw[e];unfold Xw Ie;rw[B4,Dj,t1,A3];by_cases hd:S.done.length=C.ps.length
 .rw[if_pos (decide_eq_true hd),if_pos hd,Ga,Bw,A3,A3,T0,A3,Ig,A3];exact Pp h _ rfl
 .rw[if_neg (by simpa using hd),if_neg hd,Fg,A3,BA];have DS:S.done.length<C.ps.length:=by lia
  have EO:AA (.ref P.pp) (.int (S.done.length:Int)) h=.ok (Ax (C.ps.getD S.done.length none),h):=GZ (a3 k J) (by rw[Ed,Cc DS,EW,Cc DS];rfl);have Cb:AY (A0 (Au false) (A0 AA (A0 AA (I 0) (pu (.str (AJ "plan")))) (A0 AA (I 0) (pu (.str (AJ "done"))))) (BQ (Z (pu (.str (AJ "wait"))) A1))) [some (.ref (C.M+3))] h=.ok (IN (Ax (C.ps.getD S.done.length none)),h):=by rw[HA,Bg,Bg,Bg,v0,A3,Bw,A3,Yv J,A3,Bg,v0,A3,Bw,A3,Rc J,A3,EO,A3];have Od:BQ (Z (pu (.str (AJ "wait"))) A1) [some (.ref (C.M+3))] h=.ok (.tup [.str (AJ "wait")],h):=rfl;rw[Od,A3,zg,A3,HE]
  rw[B4,Dj,Cb,A3];cases An:C.ps.getD S.done.length none with
  |some q=>rw[if_pos (show IN (Ax (some q))=true from rfl),if_pos (show(some q).isSome=true from rfl),Ga,Bw,A3,A3,T0,A3,Ig,A3];exact Pp h _ rfl
  |none=>rw[if_neg (show¬IN (Ax none)=true by simp[IN,Ax]),if_neg (show¬(none:Option (Nat×Nat)).isSome=true by simp),Fg,A3,BA,Ga,al,A3,A3,Ig,A3];exact Pp h _ rfl
end
section
variable{C:F8}{P:Kp}{h:A5}{S:Em}{f:Nat->Nat}
def SH(S:Em)(q:Nat)(d:Ad)(a:Nat):Em:={ S with Be:=S.Be+1,lets:=S.lets++[Nr S q d a] }
def Hp(f:Nat->Nat)(n p:Nat):Nat->Nat:=λk=>if k=n then p else f k
def oN{h h1:A5}{ws:List W}(p:Fn h h1=true)(e:Fm ws=false):settle h (.tup ws) h1=.ok (.tup ws,h1):=by unfold C0.settle;simp only[p,if_true,DL,e];rfl
def FR.c0(J:FR C P h S f):(.inl (S.Be:Int):Key)∉S.lets.map E5:=λz=>by obtain⟨l,AG,e⟩:=List.mem_map.mp z;have:=J.Ge l AG;simp only[E5,Rw]at e;lia
def yt(k:Ja C P)(c:EY C)(J:FR C P h S f)(AH:S.Be<900)(q:Nat){d:Ad}(hd:d∈D2 C.cs C.cs.length){a:Nat}(AE:a<16) :
  ∃h',VN [.ref (C.M+3),Aa d,.int (a:Int)] h=.ok (.int (S.Be:Int),h')/\FR C P h' (SH S q d a) (Hp f S.Be h.length)/\
   h.length<=h'.length/\∀n,n<h.length->n≠C.M+3->n≠C.M+5->h'[n]?=h[n]?:=by
 have Cv:=c.Cv;have kt:=k.t;have AG:=J.AG;have few:=J.few;have Ec:=J.Ec;obtain⟨es,PO,R3⟩:=J.WN;obtain⟨ρ,DQ⟩:∃ρ:Option W->Option W->B9,ρ=λx y=>[some (.ref (C.M+3)),some (Aa d),some (.int (a:Int)),x,y]:=⟨_,rfl⟩;have v0:∀x y(h':A5),I 0 (ρ x y) h'=.ok (.ref (C.M+3),h'):=λ_ _ _=>by rw[DQ];rfl
 have v1:∀x y(h':A5),I 1 (ρ x y) h'=.ok (Aa d,h'):=λ_ _ _=>by rw[DQ];rfl
 have v2:∀x y(h':A5),I 2 (ρ x y) h'=.ok (.int (a:Int),h'):=λ_ _ _=>by rw[DQ];rfl
 have WX:∀x y(h':A5),I 3 (ρ (some x) y) h'=.ok (x,h'):=λ_ _ _=>by rw[DQ];rfl
 have v4:∀x y(h':A5),I 4 (ρ x (some y)) h'=.ok (y,h'):=λ_ _ _=>by rw[DQ];rfl
 have Px:(h++[(⟨.lst,S.done.map Ax⟩:O)])[h.length]?=some ⟨.lst,S.done.map Ax⟩:=by simp
 have BB:=S2 (hh:=d.1) (k:=1) true Px (by lia) J.I2;rw[show Gp 1=AJ "turn" from rfl]at BB;have s1:Ac (Bb (Az RI (Z (Bb (A0 (DH true) (BQ (Z (pu (.str (AJ "turn"))) (Z (A0 AA (I 1) (pu (.int 0))) A1))) (D5 (A0 AA (I 0) (pu (.str (AJ "plan")))) (pu none) (CE (A0 AA (I 0) (pu (.str (AJ "done")))))))) A1))) (AD 3) (ρ none none) h=.ok (.AR (ρ (some (.int (E9 S.done d.1:Nat))) none),h):=by
  have OC:CE (A0 AA (I 0) (pu (.str (AJ "done")))) (ρ none none) h=.ok (some (S.done.length:Int),h):=e0 (by rw[Bg,v0,A3,Bw,A3,Rc J]);have Pt:BQ (Z (pu (.str (AJ "turn"))) (Z (A0 AA (I 1) (pu (.int 0))) A1)) (ρ none none) h=.ok (.tup [.str (AJ "turn"),.int (d.1:Int)],h):=by rw[DQ];simp[Aa,Ff,B0]
  have q:Bb (A0 (DH true) (BQ (Z (pu (.str (AJ "turn"))) (Z (A0 AA (I 1) (pu (.int 0))) A1))) (D5 (A0 AA (I 0) (pu (.str (AJ "plan")))) (pu none) (CE (A0 AA (I 0) (pu (.str (AJ "done"))))))) (ρ none none) h=.ok (.AL (decide (some (1,d.1)∈S.done)),h):=by rw[FO,Bg,Pt,A3,Mi,Bg,v0,A3,Bw,A3,Yv J,A3,Bw,A3,OC,A3,h7 k c J,A3,BB,A3];exact WP h _ _ rfl
  rw[Do,FO,G1,CM,q,A3,Ce,A3,A3];have t:RI [.AL (decide (some (1,d.1)∈S.done))] h=.ok (.int (E9 S.done d.1:Nat),h):=by unfold E9;by_cases z:some (1,d.1)∈S.done<;>simp[RI,z]
  rw[t,A3,Pp h _ rfl,A3,DQ];rfl
 have s2:Ac (A0 AA (I 0) (pu (.str (AJ "came")))) (AD 4) (ρ (some (.int (E9 S.done d.1:Nat))) none) h=.ok (.AR (ρ (some (.int (E9 S.done d.1:Nat))) (some (.int (S.Be:Int)))),h):=by rw[Do,Bg,v0,A3,Bw,A3,uT J,A3,DQ];rfl
 obtain⟨r,B5⟩:∃r,r=ρ (some (.int (E9 S.done d.1:Nat))) (some (.int (S.Be:Int))):=⟨_,rfl⟩;obtain⟨h1,A9⟩:∃h1,h1=h++[⟨.lst,[Aa d]⟩]:=⟨_,rfl⟩;have CZ:h1.length=h.length+1:=by rw[A9];simp
 have Cn:∀n,n<h.length->h1[n]?=h[n]?:=λn AV=>by rw[A9,Gs AV]
 have dt:Bb (BQ (Z (I 3) (Z (I 2) (Z (By (Z (I 1) A1)) A1)))) r h=.ok (.tup [.int (E9 S.done d.1:Nat),.int (a:Int),.ref h.length],h1):=by
  have z:BQ (Z (I 3) (Z (I 2) (Z (By (Z (I 1) A1)) A1))) r h=.ok (.tup [.int (E9 S.done d.1:Nat),.int (a:Int),.ref h.length],h1):=by rw[B5,DQ,A9];simp[B0,nw]
  rw[FO,z,A3,A9];exact oN (WG h _) rfl
 have NV:h1[C.M+3]?=some (Pn C P S.done.length S.Be):=by rw[Cn _ (by lia)];exact J.st
 have Qq:h1[C.M+5]?=some ⟨.Aj (S.lets.map E5),S.lets.map (E6 f)⟩:=by rw[Cn _ (by lia)];exact J.Bn
 have aP:AA (.ref (C.M+3)) (.str (AJ "letters")) h1=.ok (.ref (C.M+5),h1):=Mw NV rfl;have pt:=gd (v:=.tup [.int (E9 S.done d.1:Nat),.int (a:Int),.ref h.length]) (ρ:=r) Qq J.c0 (by rw[CS];unfold B0;lia);obtain⟨h2,AF⟩:∃h2,h2=h1.set (C.M+5) ⟨.Aj (S.lets.map E5++[.inl (S.Be:Int)]),S.lets.map (E6 f)++[.tup [.int (E9 S.done d.1:Nat),.int (a:Int),.ref h.length]]⟩:=⟨_,rfl⟩;rw[<-AF]at pt;have s3:JK (A0 AA (I 0) (pu (.str (AJ "letters")))) (I 4) (Bb (BQ (Z (I 3) (Z (I 2) (Z (By (Z (I 1) A1)) A1))))) r h=.ok (.AR r,h2):=by rw[TB,dt,A3,Bg];have Jw:=v0 (some (.int (E9 S.done d.1:Nat))) (some (.int (S.Be:Int))) h1;have W4:=v4 (some (.int (E9 S.done d.1:Nat))) (.int (S.Be:Int)) h1;rw[<-B5]at Jw W4;rw[Jw,A3,Bw,A3,aP,A3,W4,A3,pt]
 have Ju:h2[C.M+3]?=some (Pn C P S.done.length S.Be):=by rw[AF,F5 (by lia)];exact NV
 obtain⟨BH,Dh⟩:∃BH,BH=h2.set (C.M+3) (Pn C P S.done.length (S.Be+1)):=⟨_,rfl⟩;have s4:JK (I 0) (pu (.str (AJ "came"))) (A0 addW (I 4) (pu (.int 1))) r h2=.ok (.AR r,BH):=by have Jw:=v0 (some (.int (E9 S.done d.1:Nat))) (some (.int (S.Be:Int))) h2;have W4:=v4 (some (.int (E9 S.done d.1:Nat))) (.int (S.Be:Int)) h2;rw[<-B5]at Jw W4;rw[TB,Bg,W4,A3,Bw,A3,MW,A3,Jw,A3,Bw,A3,Dh];exact gf Ju (by simp[B0]) (by simp[OX]) rfl
 have CN:h2.length=h.length+1:=by rw[AF];simpa using CZ
 have Os:BH.length=h.length+1:=by rw[Dh];simpa using CN
 have keep:∀n,n≠C.M+3->n≠C.M+5->BH[n]?=h1[n]?:=λn DC Dx=>by rw[Dh,F5 (λz=>DC z.symm),AF,F5 (λz=>Dx z.symm)]
 have Qn:∀l∈S.lets,Hp f S.Be h.length l.n=f l.n:=λl AG=>by have:=J.Ge l AG;simp only[Hp];rw[if_neg (by lia)]
 have un:Hp f S.Be h.length S.Be=h.length:=by simp[Hp]
 have nl:(Nr S q d a).n=S.Be:=rfl;refine⟨BH,?_,?_,by lia,λn AV DC Dx=>(keep n DC Dx).trans (Cn n AV)⟩
 .have e:VN [.ref (C.M+3),Aa d,.int (a:Int)] h=(Xs (ρ none none) h).bind outF:=by rw[DQ];rfl
  rw[e];unfold Xs;rw[B4,s1,A3,BA,B4,s2,A3,BA,<-B5,B4,s3,A3,BA,B4,s4,A3,BA,Ga,B5,v4];rfl
 .refine⟨λn o' Jl ne=>?_,⟨J.D.le,J.D.e⟩,?_,?_,?_,⟨es,?_,?_⟩,λl Hn=>?_,λl Hn=>?_,?_,λl Hn=>?_,J.I2,?_,by lia,λl Hn=>?_⟩
  .have:=FW Jl;rw[keep n (by lia) (by lia),Cn n (by lia)];exact J.Bc n o' Jl ne
  .rw[Dh,IU Ju];rfl
  .rw[keep _ (by lia) (by lia),Cn _ (by lia)];exact J.FZ
  .rw[Dh,F5 (by lia),AF,IU Qq];simp only[SH,IZ,D3,Hq];have GB:S.lets.map (E6 f)=S.lets.map (E6 (Hp f S.Be h.length)):=Wd λl AG=>by simp only[E6,Qn l AG]
   have GC:E6 (Hp f S.Be h.length) (Nr S q d a)=.tup [.int (E9 S.done d.1:Nat),.int (a:Int),.ref h.length]:=by simp only[E6,nl,un];rfl
   rw[GB,GC];rfl
  .rw[keep _ (by lia) (by lia),Cn _ (by lia)];exact PO
  .simp only[SH,Ej,Df,Es];lia
  .rcases List.mem_append.mp Hn with hm|hm
   .rw[Qn l hm];have z:=J.KR l hm;have:=FW z.1;exact⟨by rw[keep _ (by lia) (by lia),Cn _ (by lia)];exact z.1,z.2⟩
   .rw[JW]at hm;subst hm;rw[nl,un];refine⟨?_,AG⟩;rw[keep _ (by lia) (by lia),A9];simp[Le,Nr]
  .rcases List.mem_append.mp Hn with hm|hm
   .exact J.lt l hm
   .rw[JW]at hm;subst hm;refine⟨?_,AE,hd⟩;simp only[Nr,E9];split<;>lia
  .simp only[SH,IZ,D3,Hq,nl];refine List.nodup_append.mpr ⟨J.nn,by simp,λu BI v B_ z=>?_⟩;rw[JW]at B_;obtain⟨l,hm,rfl⟩:=List.mem_map.mp BI;have:=J.Ge l hm;lia
  .show l.n<S.Be+1;rcases List.mem_append.mp Hn with hm|hm
   .have:=J.Ge l hm;lia
   .rw[JW]at hm;subst hm;rw[nl];lia
  .show S.Be+1<1000;lia
  .show l.pre.length<=S.Ca;rcases List.mem_append.mp Hn with hm|hm
   .exact J.pr l hm
   .rw[JW]at hm;subst hm;simp[Nr]
end
section
variable{C:F8}{P:Kp}{h:A5}{S:Em}{f:Nat->Nat}
def yr(k:Ja C P)(c:EY C)(J:FR C P h S f){m hh:Nat}(hm:m<2)(hd:hh<C.cs.length):∃q r,AA (.ref (C.M+4)) (.int (m:Int)) h=.ok (.ref q,h)/\AA (.ref q) (.int (hh:Int)) h=.ok (.ref r,h)/\h[r]?=some (FT (Sq C m hh))/\LB (C.cs.getD hh 0) (Sq C m hh):=by
 have on:∀(b:Nat)(B:List (List Cu)),HR C.cs B->EX h b B->∃r,AA (.ref b) (.int (hh:Int)) h=.ok (.ref r,h)/\h[r]?=some (FT (B.getD hh []))/\LB (C.cs.getD hh 0) (B.getD hh []):=λb B ok at'=>by
  obtain⟨rs,e,QC,r⟩:=at'.ex;have B7:hh<rs.length:=by rw[QC,ok.1];exact hd
  exact⟨rs[hh],GZ e (by rw[Ed,Cc B7];rfl),r _ _ (Cc B7),ok.2 _ hd⟩
 have:m=0\/m=1:=by lia
 rcases this with rfl|rfl
 .obtain⟨r,A9,AF,Dh⟩:=on P.po C.A c.KQ (Xz J.Bc k.a);exact⟨P.po,r,GZ J.FZ rfl,A9,AF,Dh⟩
 .obtain⟨r,A9,AF,Dh⟩:=on P.Cd C.B c.JL (Xz J.Bc k.b);exact⟨P.Cd,r,GZ J.FZ rfl,A9,AF,Dh⟩
def yP(k:Ja C P)(c:EY C)(J:FR C P h S f)(hm:S.Ca<900000){CH B6:List Lt}{l:Lt}(es:S.lets=CH++l::B6) :
  ∃h' p,P2 [.ref (C.M+3),.int (l.n:Int)] h=.ok (CQ (HL C S.done l),h')/\FR C P h' (GI S CH l B6 (HL C S.done l)) (Hp f l.n p)/\h.length<=p/\
   h.length<=h'.length/\∀n,n<h.length->n≠C.M+5->n≠C.M+6->h'[n]?=h[n]?:=by
 have Cv:=c.Cv;have kt:=k.t;have AG:=J.AG;have few:=J.few;have Ec:=J.Ec;obtain⟨As,PO,R3⟩:=J.WN;have L7:l∈S.lets:=by rw[es];simp
 have nn:=J.nn;rw[es]at nn;obtain⟨DC,Dx⟩:=dI nn;have k1:=Vg DC;have k2:=Vg Dx;obtain⟨lm,HI,ld⟩:=J.lt l L7;obtain⟨F3,ahZ⟩:=J.KR l L7;have pl:=J.pr l L7;have hd:=(VV.mp ld).1;have Bn:h[C.M+5]?=some ⟨.Aj (CH.map E5++E5 l::B6.map E5),CH.map (E6 f)++E6 f l::B6.map (E6 f)⟩:=by rw[J.Bn,es];simp
 have EO:AA (.ref (C.M+5)) (.int (l.n:Int)) h=.ok (E6 f l,h):=by unfold AA;rw[Y4 Bn];have:DW (CH.map E5++E5 l::B6.map E5) (CH.map (E6 f)++E6 f l::B6.map (E6 f)) (.inl (l.n:Int))=some (E6 f l):=W1 k1 (by simp);rw[this]
 obtain⟨ρ,DQ⟩:∃ρ:Option W->Option W->Option W->Option W->B9,ρ=λx y z w=>[some (.ref (C.M+3)),some (.int (l.n:Int)),x,y,z,w]:=⟨_,rfl⟩;have v0:∀x y z w(h':A5),I 0 (ρ x y z w) h'=.ok (.ref (C.M+3),h'):=λ_ _ _ _ _=>by rw[DQ];rfl
 have v1:∀x y z w(h':A5),I 1 (ρ x y z w) h'=.ok (.int (l.n:Int),h'):=λ_ _ _ _ _=>by rw[DQ];rfl
 have s1:Oz (A0 AA (A0 AA (I 0) (pu (.str (AJ "letters")))) (I 1)) (Fs [(AD 2),(AD 3),(AD 4)]) (ρ none none none none) h=.ok (.AR (ρ (some (.int (l.m:Int))) (some (.int (l.a:Int))) (some (.ref (f l.n))) none),h):=by rw[q4,Bg,Bg,v0,A3,Bw,A3,SP J,A3,v1,A3,EO,A3,DQ];simp[E6]
 obtain⟨σ,eσ⟩:∃ σ :Option W->B9,σ =λw=>ρ (some (.int (l.m:Int))) (some (.int (l.a:Int))) (some (.ref (f l.n))) w:=⟨_,rfl⟩;have T7:∀w(h':A5),I 0 (σ w) h'=.ok (.ref (C.M+3),h'):=λ_ _=>by rw[eσ,DQ];rfl
 have ZI:∀w(h':A5),I 1 (σ w) h'=.ok (.int (l.n:Int),h'):=λ_ _=>by rw[eσ,DQ];rfl
 have Rh:∀w(h':A5),I 2 (σ w) h'=.ok (.int (l.m:Int),h'):=λ_ _=>by rw[eσ,DQ];rfl
 have dx:∀w(h':A5),I 3 (σ w) h'=.ok (.int (l.a:Int),h'):=λ_ _=>by rw[eσ,DQ];rfl
 have dy:∀w(h':A5),I 4 (σ w) h'=.ok (.ref (f l.n),h'):=λ_ _=>by rw[eσ,DQ];rfl
 have T8:∀w(h':A5),I 5 (σ (some w)) h'=.ok (w,h'):=λ_ _=>by rw[eσ,DQ];rfl
 have Lb:∀w v(h':A5),AD 5 v (σ w) h'=.ok (.AR (σ (some v)),h'):=λ_ _ _=>by rw[eσ,DQ];rfl
 have KS:AA (.ref (f l.n)) (.int (-1)) h=.ok (Aa l.d,h):=bt (us:=l.pre.map Aa) (by rw[F3];simp[Le]);have Va:H4 (.int 1) h=.ok (.int (-1),h):=rfl;have kM:∀w,A0 AA (I 4) (BM H4 (pu (.int 1))) (σ w) h=.ok (Aa l.d,h):=λw=>by rw[Bg,dy,A3,Jv,Bw,A3,Va,A3,KS]
 have bS:∀w,A0 AA (A0 AA (I 4) (BM H4 (pu (.int 1)))) (pu (.int 0)) (σ w) h=.ok (.int (l.d.1:Int),h):=λw=>by rw[Bg,kM,A3,Bw,A3];exact Ff h _ _
 have s2:Ac (BQ (Z (pu (.str (AJ "lost"))) (Z (A0 AA (A0 AA (I 4) (BM H4 (pu (.int 1)))) (pu (.int 0))) A1))) (AD 5) (σ none) h=.ok (.AR (σ (some (CQ (.Ov l.d.1)))),h):=by
  have z:BQ (Z (pu (.str (AJ "lost"))) (Z (A0 AA (A0 AA (I 4) (BM H4 (pu (.int 1)))) (pu (.int 0))) A1)) (σ none) h=.ok (CQ (.Ov l.d.1),h):=by simp only[Pu,CM,Bw,Ce,A3,bS];simp[B0,CQ]
  rw[Do,z,A3,Lb]
 have c0:Ah 3 TU (Z (I 0) (Z (A0 AA (A0 AA (I 4) (BM H4 (pu (.int 1)))) (pu (.int 0))) (Z (I 2) A1))) (σ (some (CQ (.Ov l.d.1)))) h=.ok (.AL (My S.done l.d.1 l.m),h):=
  JA (us:=[.ref (C.M+3),.int (l.d.1:Int),.int (l.m:Int)]) (by simp only[CM,Ce,A3,T7,Rh,bS]) rfl (yR k c J lm)
 obtain⟨q,r,D_,FX,O3,rX⟩:=yr k c J lm hd;have Cp:h[P.Ih]?=some ⟨.lst,C.ws.map CA⟩:=J.Bc _ _ k.w (λz=>by cases z);have AR:Ah 4 TW (Z (A0 AA (I 0) (pu (.str (AJ "wires")))) (Z (A0 AA (A0 AA (A0 AA (I 0) (pu (.str (AJ "books")))) (I 2)) (A0 AA (A0 AA (I 4) (BM H4 (pu (.int 1)))) (pu (.int 0)))) (Z (A0 AA (I 4) (BM H4 (pu (.int 1)))) (Z (I 3) A1)))) (σ (some (CQ (.Ov l.d.1)))) h=.ok (CQ (OT C.ws (Sq C l.m l.d.1) l.d l.a),h):=by
  refine JA (us:=[.ref P.Ih,.ref r,Aa l.d,.int (l.a:Int)]) (h1:=h) ?_ rfl (zm c.N.few Cp rX O3 l.d);have G2:A0 AA (I 0) (pu (.str (AJ "wires"))) (σ (some (CQ (.Ov l.d.1)))) h=.ok (.ref P.Ih,h):=by rw[Bg,T7,A3,Bw,A3,uU J]
  have Gb:A0 AA (A0 AA (A0 AA (I 0) (pu (.str (AJ "books")))) (I 2)) (A0 AA (A0 AA (I 4) (BM H4 (pu (.int 1)))) (pu (.int 0))) (σ (some (CQ (.Ov l.d.1)))) h=.ok (.ref r,h):=by rw[Bg,Bg,Bg,T7,A3,Bw,A3,uS J,A3,Rh,A3,D_,A3,bS,A3,FX]
  rw[CM,G2,A3,CM,Gb,A3,CM,kM,A3,CM,dx,A3,Ce];rfl
 obtain⟨t,Ir⟩:∃t,t=HL C S.done l:=⟨_,rfl⟩;have s3:Bh (AY (Ah 3 TU (Z (I 0) (Z (A0 AA (A0 AA (I 4) (BM H4 (pu (.int 1)))) (pu (.int 0))) (Z (I 2) A1))))) (Ac (Ah 4 TW (Z (A0 AA (I 0) (pu (.str (AJ "wires")))) (Z (A0 AA (A0 AA (A0 AA (I 0) (pu (.str (AJ "books")))) (I 2)) (A0 AA (A0 AA (I 4) (BM H4 (pu (.int 1)))) (pu (.int 0)))) (Z (A0 AA (I 4) (BM H4 (pu (.int 1)))) (Z (I 3) A1))))) (AD 5)) Bd (σ (some (CQ (.Ov l.d.1)))) h=.ok (.AR (σ (some (CQ t))),h):=by
  rw[Dj,HA,c0,A3,HE,A3,Ir];unfold HL;cases AO:My S.done l.d.1 l.m
  .rw[if_neg (by simp),Fg,if_neg (by simp)]
  .rw[if_pos rfl,Do,AR,A3,Lb,if_pos rfl]
 have Qn:∀(p:Nat)(y:Lt),y.n≠l.n->Hp f l.n p y.n=f y.n:=λp y AP=>by simp only[Hp];rw[if_neg AP]
 have up:∀p,Hp f l.n p l.n=p:=λp=>by simp[Hp]
 have dO:∀y∈CH,y.n≠l.n:=λy AP z=>DC (List.mem_map.mpr ⟨y,AP,z⟩);have dP:∀y∈B6,y.n≠l.n:=λy AP z=>Dx (List.mem_map.mpr ⟨y,AP,z⟩);have GB:∀p,CH.map (E6 (Hp f l.n p))=CH.map (E6 f):=λp=>Wd λy AP=>by simp only[E6,Qn p y (dO y AP)]
 have GC:∀p,B6.map (E6 (Hp f l.n p))=B6.map (E6 f):=λp=>Wd λy AP=>by simp only[E6,Qn p y (dP y AP)]
 have CC:P2 [.ref (C.M+3),.int (l.n:Int)] h=(Xu (ρ none none none none) h).bind outF:=by rw[DQ];rfl
 rw[CC,<-Ir];unfold Xu;rw[B4,s1,A3,BA,show ρ (some (.int (l.m:Int))) (some (.int (l.a:Int))) (some (.ref (f l.n))) none= σ none by rw[eσ],B4,s2,A3,BA,B4,s3,A3,BA,B4,Dj];by_cases AE:isAt t=true
 .obtain⟨e,te⟩:∃e,t=.at e:=by cases t<;>first|exact⟨_,rfl⟩|cases AE
  subst te;have he:=kF c Ir.symm;have tt:AY (A0 (Au true) (A0 AA (I 5) (pu (.int 0))) (pu (.str (AJ "at")))) (σ (some (CQ (.at e)))) h=.ok (true,h):=by rw[HA,Bg,Bg,T8,A3,Bw,A3];simp[CQ,Ff]
  rw[tt,A3,if_pos rfl];obtain⟨h1,A9⟩:∃h1,h1=h++[Le (JD l e)]:=⟨_,rfl⟩;have CZ:h1.length=h.length+1:=by rw[A9];simp
  have Cn:∀n,n<h.length->h1[n]?=h[n]?:=λn AV=>by rw[A9,Gs AV]
  have sk:Bb (D5 (I 5) (CE (pu (.int 1))) (pu none)) (σ (some (CQ (.at e)))) h=.ok (Aa e,h):=by
   rw[FO,Mi,T8,A3,e0 (Bw ..),A3,Bw,A3];have z:∀ρ,Lu (CQ (.at e)) (some 1) none ρ h=.ok (Aa e,h):=λρ=>by simp[Lu,CQ,T1,Gy,Dz.CV,Aa]
   rw[z,A3];exact Pp h _ rfl
  have lst:By (Z (Bb (D5 (I 5) (CE (pu (.int 1))) (pu none))) A1) (σ (some (CQ (.at e)))) h=.ok (.ref h.length,h++[⟨.lst,[Aa e]⟩]):=by rw[Mh,CM,sk,A3,Ce,A3,A3];simp[nw,B0]
  have add:Bb (A0 addW (I 4) (By (Z (Bb (D5 (I 5) (CE (pu (.int 1))) (pu none))) A1))) (σ (some (CQ (.at e)))) h=.ok (.ref h.length,h1):=by
   rw[FO,Bg,dy,A3,lst,A3,NR (Ch h F3 _) (by simp;rfl) (by simp[B0];lia),A3];rw[A9];refine(JQ h _ (by simp) (by simp) (List.getElem?_concat_length ..) ?_).trans ?_
   .rw[show(l.pre++[l.d]).map Aa++[Aa e]=(l.pre++[l.d]++[e]).map Aa by simp];exact HK _ _ dG
   .simp[Le,JD]
  have dt:Bb (BQ (Z (I 2) (Z (I 3) (Z (Bb (A0 addW (I 4) (By (Z (Bb (D5 (I 5) (CE (pu (.int 1))) (pu none))) A1)))) A1)))) (σ (some (CQ (.at e)))) h=.ok (.tup [.int (l.m:Int),.int (l.a:Int),.ref h.length],h1):=by
   have z:BQ (Z (I 2) (Z (I 3) (Z (Bb (A0 addW (I 4) (By (Z (Bb (D5 (I 5) (CE (pu (.int 1))) (pu none))) A1)))) A1))) (σ (some (CQ (.at e)))) h=.ok (.tup [.int (l.m:Int),.int (l.a:Int),.ref h.length],h1):=by rw[Pu,CM,Rh,A3,CM,dx,A3,CM,add,A3,Ce];simp[B0]
   rw[FO,z,A3,A9];exact oN (WG h _) rfl
  have NV:h1[C.M+3]?=some (Pn C P S.done.length S.Be):=by rw[Cn _ (by lia)];exact J.st
  have Qq:=Bn;rw[<-Cn _ (by lia)]at Qq;have aP:AA (.ref (C.M+3)) (.str (AJ "letters")) h1=.ok (.ref (C.M+5),h1):=Mw NV rfl;have pt:=sQ (i:=(l.n:Int)) (v:=.tup [.int (l.m:Int),.int (l.a:Int),.ref h.length]) (ρ:= σ (some (CQ (.at e)))) Qq k1 k2 (by simp) (by simp) (by rw[es]at Ec;simp only[Ej,Df,CS]at Ec |-;unfold B0;lia);obtain⟨h',Dt⟩:∃h',h'=h1.set (C.M+5) ⟨.Aj (CH.map E5++.inl (l.n:Int)::B6.map E5),CH.map (E6 f)++.tup [.int (l.m:Int),.int (l.a:Int),.ref h.length]::B6.map (E6 f)⟩:=⟨_,rfl⟩;rw[<-Dt]at pt;have Ni:h'.length=h.length+1:=by rw[Dt];simpa using CZ
  have keep:∀n,n≠C.M+5->h'[n]?=h1[n]?:=λn AV=>by rw[Dt,F5 (λz=>AV z.symm)]
  refine⟨h',h.length,?_,?_,CB _,by lia,λn AV a _=>(keep n a).trans (Cn n AV)⟩
  .rw[TB,dt,A3,Bg,T7,A3,Bw,A3,aP,A3,ZI,A3,pt,A3,BA,Ga,T8];rfl
  .have Ey:(GI S CH l B6 (.at e)).lets=CH++JD l e::B6:=rfl;refine⟨λn o' Jl ne=>?_,⟨J.D.le,J.D.e⟩,?_,?_,?_,⟨As,?_,?_⟩,λy AP=>?_,λy AP=>?_,?_,λy AP=>?_,J.I2,J.few,by lia,λy AP=>?_⟩
   .have:=FW Jl;rw[keep n (by lia),Cn n (by lia)];exact J.Bc n o' Jl ne
   .rw[keep _ (by lia)];exact NV
   .rw[keep _ (by lia),Cn _ (by lia)];exact J.FZ
   .rw[Dt,IU Qq,Ey];simp only[IZ,D3,GB,GC];have:E6 (Hp f l.n h.length) (JD l e)=.tup [.int (l.m:Int),.int (l.a:Int),.ref h.length]:=by
     simp only[E6,show(JD l e).n=l.n from rfl,up];rfl
    rw[this];rfl
   .rw[keep _ (by lia),Cn _ (by lia)];exact PO
   .rw[es]at R3;rw[Ey];show As.length+_<=S.Be;simpa using R3
   .rw[Ey]at AP;have old:∀z∈S.lets,z.n≠l.n->h'[Hp f l.n h.length z.n]?=some (Le z)/\C.T<=Hp f l.n h.length z.n:=λz hz zP=>by
     rw[Qn _ z zP];have w:=J.KR z hz;have:=FW w.1;exact⟨by rw[keep _ (by lia),Cn _ (by lia)];exact w.1,w.2⟩
    rcases List.mem_append.mp AP with AP|AP
    .exact old y (by rw[es];simp[AP]) (dO y AP)
    .rcases List.mem_cons.mp AP with rfl|AP
     .rw[show(JD l e).n=l.n from rfl,up];refine⟨?_,AG⟩;rw[keep _ (by lia),A9];simp
     .exact old y (by rw[es];simp[AP]) (dP y AP)
   .rw[Ey]at AP;rcases List.mem_append.mp AP with AP|AP
    .exact J.lt y (by rw[es];simp[AP])
    .rcases List.mem_cons.mp AP with rfl|AP
     .exact⟨lm,HI,he⟩
     .exact J.lt y (by rw[es];simp[AP])
   .have:(GI S CH l B6 (.at e)).lets.map (·.n)=S.lets.map (·.n):=by simp[GI,es,JD]
    rw[this];exact J.nn
   .rw[Ey]at AP;rcases List.mem_append.mp AP with AP|AP
    .exact J.Ge y (by rw[es];simp[AP])
    .rcases List.mem_cons.mp AP with rfl|AP
     .exact J.Ge l L7
     .exact J.Ge y (by rw[es];simp[AP])
   .rw[Ey]at AP;show y.pre.length<=S.Ca+1;rcases List.mem_append.mp AP with AP|AP
    .have:=J.pr y (by rw[es];simp[AP]);lia
    .rcases List.mem_cons.mp AP with rfl|AP
     .simp only[JD,Ej,Df,Es];lia
     .have:=J.pr y (by rw[es];simp[AP]);lia
 .have tt:AY (A0 (Au true) (A0 AA (I 5) (pu (.int 0))) (pu (.str (AJ "at")))) (σ (some (CQ t))) h=.ok (false,h):=by
    rw[HA,Bg,Bg,T8,A3,Bw,A3];cases t<;>first|exact absurd rfl AE|(simp[CQ,Ff];decide)
  rw[tt,A3,if_neg (by simp)];have Ey:GI S CH l B6 t={ S with lets:=CH++B6,ended:=S.ended++[(l,t)],Ca:=S.Ca+1 }:=by cases t<;>first|exact absurd rfl AE|rfl
  obtain⟨h1,A9⟩:∃h1,h1=h.set (C.M+5) ⟨.Aj (CH.map E5++B6.map E5),CH.map (E6 f)++B6.map (E6 f)⟩:=⟨_,rfl⟩;have bq:Oo h (.ref (C.M+5))=true:=by unfold Oo;simp only[Bn]
  have pp:R6 (A0 AA (I 0) (pu (.str (AJ "letters")))) (I 1) (σ (some (CQ t))) h=.ok (E6 f l,h1):=by rw[q5,Bg,T7,A3,Bw,A3,SP J,A3];simp only[Q8,bq,if_true,IV];rw[ZI,A3,A9];exact gc (i:=(l.n:Int)) Bn k1 k2 (by simp) (by simp)
  have NV:h1[C.M+3]?=some (Pn C P S.done.length S.Be):=by rw[A9,F5 (by lia)];exact J.st
  have ax:AA (.ref (C.M+3)) (.str (AJ "ended")) h1=.ok (.ref (C.M+6),h1):=Mw NV rfl;have RT:h1[C.M+6]?=some ⟨.lst,As⟩:=by rw[A9,F5 (by lia)];exact PO
  have mZ:h1[f l.n]?=some (Le l):=by rw[A9,F5 (by lia)];exact F3
  obtain⟨NB,WJ⟩:∃NB,AA (.ref (f l.n)) (.int 0) h1=.ok (Aa NB,h1):=by
   cases An:l.pre with
   |nil=>exact⟨l.d,GZ (k:=0) mZ (by simp[An])⟩
   |cons x xs=>exact⟨x,GZ (k:=0) mZ (by simp[An])⟩
  obtain⟨w,tX⟩:∃w,w=W.tup [.int (l.n:Int),.int (l.m:Int),Aa NB,.int (l.a:Int),.ref (f l.n),CQ t]:=⟨_,rfl⟩;obtain⟨h',Dt⟩:∃h',h'=h1.set (C.M+6) ⟨.lst,As++[w]⟩:=⟨_,rfl⟩;have ap:EP FS (A0 AA (I 0) (pu (.str (AJ "ended")))) (Z (BQ (Z (I 1) (Z (I 2) (Z (A0 AA (I 4) (pu (.int 0))) (Z (I 3) (Z (I 4) (Z (I 5) A1))))))) A1) (σ (some (CQ t))) h1=.ok (.non,h'):=by rw[Dt];refine Mz (ws:=As) (ws2:=As) (us:=[w]) (h1:=h1) (h2:=h1) (by rw[Bg,T7,A3,Bw,A3,ax]) RT ?_ RT (by simp[FS]) (by simp[B0];lia);simp only[CM,Ce,Pu,Bg,Bw,ZI,Rh,dx,dy,T8,WJ,A3];rw[tX];simp[B0]
  have keep:∀n,n≠C.M+5->n≠C.M+6->h'[n]?=h[n]?:=λn a b=>by rw[Dt,F5 (λz=>b z.symm),A9,F5 (λz=>a z.symm)]
  have Ni:h'.length=h.length:=by rw[Dt,A9];simp
  refine⟨h',h.length,?_,?_,CB _,by lia,λn _ a b=>keep n a b⟩
  .rw[B4,Mg,pp,A3,A3,BA,Mg,ap,A3,A3,BA,Ga,T8];rfl
  .rw[Ey];have sub:∀y∈CH++B6,y∈S.lets/\y.n≠l.n:=λy AP=>by
    rw[es];rcases List.mem_append.mp AP with AP|AP
    .exact⟨by simp[AP],dO y AP⟩
    .exact⟨by simp[AP],dP y AP⟩
   refine⟨λn o' Jl ne=>?_,⟨J.D.le,J.D.e⟩,?_,?_,?_,⟨As++[w],?_,?_⟩,λy AP=>?_,λy AP=>J.lt y (sub y AP).1,?_,λy AP=>J.Ge y (sub y AP).1,J.I2,J.few,by lia,λy AP=>?_⟩
   .have:=FW Jl;rw[keep n (by lia) (by lia)];exact J.Bc n o' Jl ne
   .rw[keep _ (by lia) (by lia)];exact J.st
   .rw[keep _ (by lia) (by lia)];exact J.FZ
   .rw[Dt,F5 (by lia),A9,IU Bn];simp only[IZ,GB,GC]
   .rw[Dt,IU RT]
   .rw[es]at R3;simp only[Ej,Df,Es]at R3 |-;lia
   .have s:=sub y AP;rw[Qn _ y s.2];have z:=J.KR y s.1;exact⟨by rw[keep _ (by lia) (by lia)];exact z.1,z.2⟩
   .simp only[IZ,D3]at nn |-;obtain⟨a1,a2,GT⟩:=List.nodup_append.mp nn;exact List.nodup_append.mpr ⟨a1,(List.nodup_cons.mp a2).2,λu BI v B_=>GT u BI v (GF _ B_)⟩
   .have:=J.pr y (sub y AP).1;show y.pre.length<=S.Ca+1;lia
end
section
variable{C:F8}{P:Kp}{h h':A5}{S:Em}{f:Nat->Nat}
theorem jG:∀L:List Lt,QA (L.map E5)=some (L.map λl=>(l.n:Int))
 |[]=>rfl
 |l::L=>by show(QA (L.map E5)).map _=_;rw[jG L];rfl
def oF{vs:List W}(L:List Lt){n:Nat}(e:h[n]?=some ⟨.Aj (L.map E5),vs⟩)(l:L.length<64):Mc [.ref n] h=.ok (.ref h.length,h++[⟨.lst,IR (LT.Jt (L.map λl=>(l.n:Int)))⟩]):=by have p:(LT.Jt (L.map λl=>(l.n:Int))).Perm (L.map λl=>(l.n:Int)):=Tq _ _;have AG:=p.length_eq;rw[CS]at AG;unfold Mc;simp only[YO,e,jG,CS,if_pos l];exact H_ h (by simp[IR,AG,B0];lia)
def oK{L:List Lt}{x:Int}:x∈LT.Jt (L.map λl=>(l.n:Int))↔∃l∈L,(l.n:Int)=x:=by have p:(LT.Jt (L.map λl=>(l.n:Int))).Perm (L.map λl=>(l.n:Int)):=Tq _ _;rw[p.mem_iff,Tw]
def iB(S:Em)(CH:List Lt)(l:Lt)(B6:List Lt)(t:Tl):(GI S CH l B6 t).Be=S.Be:=by cases t<;>rfl
def iC(S:Em)(CH:List Lt)(l:Lt)(B6:List Lt)(t:Tl):(GI S CH l B6 t).Ca=S.Ca+1:=by cases t<;>rfl
def wB{S:Em}{CH:List Lt}{l:Lt}{B6:List Lt}{t:Tl}{y:Lt}(h:y∈(GI S CH l B6 t).lets):y∈CH\/y∈B6\/∃e,y=JD l e:=by
 cases t<;>simp only[GI,HV,HW]at h
 .rcases h with h|h|h
  .exact .inl h
  .exact .inr (.inr ⟨_,h⟩)
  .exact .inr (.inl h)
 all_goals exact h.elim .inl λh=>.inr (.inl h)
def oI{L:List Lt}{l:Lt}(h:l∈L):∃CH B6,L=CH++l::B6:=List.append_of_mem h
def iA{S:Em}{CH:List Lt}{l:Lt}{B6:List Lt}{t:Tl}(es:S.lets=CH++l::B6){y:Lt}(h:y∈Ew (GI S CH l B6 t)):∃z∈Ew S,z.Eb=y.Eb:=by
 have q:∀z,z∈CH\/z=l\/z∈B6\/z∈S.ended.map (·.1)->z∈Ew S:=λz hz=>by simp only[Ew,es,F6,HU,HV,HW];exact hz
 cases t<;>simp only[Ew,GI,F6,HU,HV,HW,IZ,D3,Hq,Ka,or_false]at h
 .rcases h with h|rfl|h
  .exact⟨y,q y (.inl h),rfl⟩
  .exact⟨l,q l (.inr (.inl rfl)),rfl⟩
  .exact⟨y,q y (.inr (.inr h)),rfl⟩
 all_goals
  rcases h with h|h|h|h
  .exact⟨y,q y (.inl h),rfl⟩
  .exact⟨y,q y (.inr (.inr (.inl h))),rfl⟩
  .exact⟨y,q y (.inr (.inr (.inr h))),rfl⟩
  .exact⟨l,q l (.inr (.inl rfl)),by rw[h]⟩
def EK.to(c:EY C)(R:EK C h S)(e:∀n,n<h.length->¬(C.M+3<=n/\n<C.T)->h'[n]?=h[n]?)(l:h.length<=h'.length):EK C h' S:=by have Cv:=c.Cv;have JN:=c.JN;have ET:=c.ET;have AG:=R.AG;have g:∀{n:Nat}{o:O},h[n]?=some o->¬(C.M+3<=n/\n<C.T)->h'[n]?=some o:=λ{n o} a b=>(e n (FW a) b).trans a;refine⟨λn o' k ne=>g (R.Bc n o' k ne) (by have:=FW k;lia),g R.B5 (by lia),g R.CC (by lia),g R.el (by lia),g R.MT (by lia),λy AP=>?_,R.C1,R.nn,R.Ge,R.I2,R.few,R.le,by lia,R.pr⟩;have x:=R.lt y AP;have:=x.t1;have:=x.Cb;exact⟨g x.GH (by lia),g x.CC (by lia),x.m,x.a,x.d,x.t1,x.Cb⟩
structure GW(C:F8)(P:Kp)(h:A5)(S:Em)(f:Nat->Nat):Prop where
 R:EK C h S
 L:FR C P h S f
 s:∀l∈S.lets,∀Ni∈Ew S,f l.n≠Ni.Eb
def MP(d:Ad)(a:Nat):W:=.tup [.str (AJ "come"),Aa d,.int (a:Int)]
def Kz(n:Nat):W:=.tup [.str (AJ "go"),.int (n:Int)]
def Gf:W:=.tup [.str (AJ "step")]
def cU(R:EK C h S){w v:W}{h1:A5}(e:I7 [.ref C.r,w] h=.ok (v,h1)):Jm [.ref C.r,w] h=.ok (v,h1):=by
 have FE:C_ "Run" "move" 1 I7 (I 0) (Z (I 1) A1) [some (.ref C.r),some w,some .non] h=.ok (v,h1):=L6 (us:=[w]) rfl R.B5 rfl rfl rfl e;have CC:Jm [.ref C.r,w] h=(Sp [some (.ref C.r),some w,none] h).bind outF:=rfl;have s1:Ac (pu (.non)) (AD 2) [some (.ref C.r),some w,none] h=.ok (.AR [some (.ref C.r),some w,some .non],h):=rfl;have s2:P1 (C_ "Run" "move" 1 I7 (I 0) (Z (I 1) A1)) 2 ["NoMove"] (Ac (pu (.non)) (AD 2)) [some (.ref C.r),some w,some .non] h=.ok (.AR [some (.ref C.r),some w,some v],h1):=by unfold P1;rw[FE];rfl
 rw[CC];unfold Sp;rw[B4,s1,A3,BA,B4,s2,A3,BA];rfl
def aco(R:EK C h S){w:W}(e:I7 [.ref C.r,w] h=.exc "NoMove" h):Jm [.ref C.r,w] h=.ok (.non,h):=by
 have FE:C_ "Run" "move" 1 I7 (I 0) (Z (I 1) A1) [some (.ref C.r),some w,some .non] h=.exc "NoMove" h:=L6 (us:=[w]) rfl R.B5 rfl rfl rfl e;have CC:Jm [.ref C.r,w] h=(Sp [some (.ref C.r),some w,none] h).bind outF:=rfl;have s1:Ac (pu (.non)) (AD 2) [some (.ref C.r),some w,none] h=.ok (.AR [some (.ref C.r),some w,some .non],h):=rfl;have s2:P1 (C_ "Run" "move" 1 I7 (I 0) (Z (I 1) A1)) 2 ["NoMove"] (Ac (pu (.non)) (AD 2)) [some (.ref C.r),some w,some .non] h=.ok (.AR [some (.ref C.r),some w,some .non],h):=by unfold P1;rw[FE];rfl
 rw[CC];unfold Sp;rw[B4,s1,A3,BA,B4,s2,A3,BA];rfl
def rK(k:Ja C P)(c:EY C)(B:GW C P h S f)(AH:S.Be<900){d:Ad}(hd:d∈D2 C.cs C.cs.length)(A2:EM C.ws d=none){a:Nat}(AE:a<16) :
  ∃h1 h2 Db,Jm [.ref C.r,MP d a] h=.ok (.int (S.Be:Int),h1)/\IQ [.ref (C.M+3),MP d a] h1=.ok (.int (S.Be:Int),h2)/\GW C P h2 (SH S h.length d a) Db/\h.length<=h2.length/\∀n,C.M+7<=n->n<C.T->h2[n]?=h[n]?:=by
 have Cv:=c.Cv;have JN:=c.JN;have kt:=k.t;have AG:=B.R.AG;obtain⟨h1,A9,Ip,CZ,fr⟩:=sd c B.R AH hd A2 AE;have Ab:FR C P h1 S f:=B.L.to c k (λn AV=>by
  rcases AV with⟨a,b⟩|⟨a,b⟩|⟨y,AP,rfl⟩
  .exact fr n (by lia) (λz=>b (by rw[z];exact c.bP)) (by lia)
  .exact fr n (by lia) (by lia) (by lia)
  .have z:=B.L.KR y AP;have:=FW z.1;exact fr _ this (by lia) (by lia)) (by lia)
 obtain⟨h2,AF,BS,CN,Py⟩:=yt k c Ab AH h.length hd AE;have TY:IQ [.ref (C.M+3),MP d a] h1=.ok (.int (S.Be:Int),h2):=by have cl:Ah 3 VN (Z (I 0) (Z (A0 AA (I 1) (pu (.int 1))) (Z (A0 AA (I 1) (pu (.int 2))) A1))) [some (.ref (C.M+3)),some (MP d a)] h1=.ok (.int (S.Be:Int),h2):=JA (us:=[.ref (C.M+3),Aa d,.int (a:Int)]) (by simp[MP,JG,Ve]) rfl AF;simp[IQ,RO,MP,Ff,-IW]at cl |-;rw[cl];simp
 refine⟨h1,h2,_,cU B.R (aaJ B.R A9),TY,⟨EK.to c Ip (λn AV no=>Py n AV (by lia) (by lia)) CN,BS,λy AP TG Lj=>?_⟩,by lia,λn a b=>?_⟩
 .have Hh:=FW (Ip.lt TG Lj).CC;rcases List.mem_append.mp AP with AP|AP
  .have:=B.L.Ge y AP;have q:=B.L.KR y AP;have q1:=FW q.1;simp only[Hp];rw[if_neg (by lia)];simp only[Ew,SH,F6,HV,JW]at Lj;rcases Lj with Lj|rfl|Lj
   .exact B.s y AP TG (Iz _ Lj)
   .show f y.n≠h.length+1;lia
   .exact B.s y AP TG (IY _ Lj)
  .rw[JW]at AP;subst AP;simp only[Hp,show(Nr S h.length d a).n=S.Be from rfl];rw[if_pos trivial];lia
 .rw[Py n (by lia) (by lia) (by lia),fr n (by lia) (by lia) (by lia)]
def gn(k:Ja C P)(c:EY C)(B:GW C P h S f)(hm:S.Ca<900000){CH B6:List Lt}{l:Lt}(es:S.lets=CH++l::B6) :
  ∃h1 h2 Db,I7 [.ref C.r,Kz l.n] h=.ok (CQ (HL C S.done l),h1)/\P2 [.ref (C.M+3),.int (l.n:Int)] h1=.ok (CQ (HL C S.done l),h2)/\GW C P h2 (GI S CH l B6 (HL C S.done l)) Db/\h.length<=h2.length/\EK C h1 (GI S CH l B6 (HL C S.done l))/\∀n,n<h.length->n≠C.M+1->n≠C.M+2->n≠C.M+5->n≠C.M+6->n≠l.Eb->h2[n]?=h[n]?:=by
 have Cv:=c.Cv;have JN:=c.JN;have kt:=k.t;have AG:=B.R.AG;have L7:l∈Ew S:=Iz _ (by rw[es];simp);have afw:=(B.R.lt l L7).Cb;obtain⟨h1,A9,Ip,CZ,fr⟩:=wC c B.R hm es;have Ab:FR C P h1 S f:=B.L.to c k (λn AV=>by
  rcases AV with⟨a,b⟩|⟨a,b⟩|⟨y,AP,rfl⟩
  .exact fr n (by lia) (by lia) (by lia)
  .exact fr n (by lia) (by lia) (by lia)
  .have z:=B.L.KR y AP;exact fr _ (by lia) (by lia) (B.s y AP l L7)) (by lia)
 obtain⟨h2,p,AF,BS,BL,CN,Py⟩:=yP k c Ab hm es;refine⟨h1,h2,_,aaK B.R A9,AF,⟨EK.to c Ip (λn AV no=>Py n AV (by lia) (by lia)) CN,BS,λy AP TG Lj=>?_⟩,by lia,Ip,λn a b d e g j=>?_⟩
 .have Hh:=FW (Ip.lt TG Lj).CC;simp only[Hp];by_cases AV:y.n=l.n
  .rw[if_pos AV];lia
  .rw[if_neg AV];obtain⟨z,hz,Hk⟩:=iA es Lj;rw[<-Hk];refine B.s y ?_ z hz;rw[es];rcases wB AP with AP|AP|⟨e,rfl⟩
   .simp[AP]
   .simp[AP]
   .exact absurd rfl AV
 .rw[Py n (by lia) e g,fr n b d j]
def rL(k:Ja C P)(c:EY C)(B:GW C P h S f)(hm:S.Ca<900000){CH B6:List Lt}{l:Lt}(es:S.lets=CH++l::B6) :
  ∃h1 h2 Db,Jm [.ref C.r,Kz l.n] h=.ok (CQ (HL C S.done l),h1)/\IQ [.ref (C.M+3),Kz l.n] h1=.ok (CQ (HL C S.done l),h2)/\GW C P h2 (GI S CH l B6 (HL C S.done l)) Db/\h.length<=h2.length/\∀n,C.M+7<=n->n<C.T->h2[n]?=h[n]?:=by
 obtain⟨h1,h2,Db,A9,AF,He,CN,_,fr⟩:=gn k c B hm es;have AG:=B.R.AG;have kt:=k.t;have afw:=(B.R.lt l (Iz _ (by rw[es];simp))).Cb;refine⟨h1,h2,Db,cU B.R A9,?_,He,CN,λn a b=>fr n (by lia) (by lia) (by lia) (by lia) (by lia) (by lia)⟩;have q:(AJ "go"==AJ "come")=false:=rfl;have cl:Ah 2 P2 (Z (I 0) (Z (A0 AA (I 1) (pu (.int 1))) A1)) [some (.ref (C.M+3)),some (Kz l.n)] h1=.ok (CQ (HL C S.done l),h2):=JA (us:=[.ref (C.M+3),.int (l.n:Int)]) (by simp[Kz,JG]) rfl AF;simp[IQ,RO,Kz,Ff,q,-IW]at cl |-;rw[cl];simp
def aa1(k:Ja C P)(c:EY C)(J:FR C P h S f)(hm:Ie C S=false):IQ [.ref (C.M+3),Gf] h=.ok (.non,h):=by have q1:(AJ "step"==AJ "come")=false:=rfl;have q2:(AJ "step"==AJ "go")=false:=rfl;have cl:Ah 1 TV (Z (I 0) A1) [some (.ref (C.M+3)),some Gf] h=.ok (.AL (Ie C S),h):=JA (us:=[.ref (C.M+3)]) rfl rfl (kS k c J);simp[IQ,RO,Gf,Ff,q1,q2,hm,-IW]at cl |-;rw[cl];simp
def aa2(k:Ja C P)(c:EY C)(J:FR C P h S f)(hm:Ie C S=true):∃h',IQ [.ref (C.M+3),Gf] h=.ok (Ax (C.ps.getD S.done.length none),h')/\FR C P h' (KW C S) f/\h'.length=h.length/\∀n,n≠C.M+3->h'[n]?=h[n]?:=by
 have Cv:=c.Cv;have kt:=k.t;have DS:=ke J.D hm;have q1:(AJ "step"==AJ "come")=false:=rfl;have q2:(AJ "step"==AJ "go")=false:=rfl;have cl:Ah 1 TV (Z (I 0) A1) [some (.ref (C.M+3)),some Gf] h=.ok (.AL (Ie C S),h):=JA (us:=[.ref (C.M+3)]) rfl rfl (kS k c J);have v0:∀h':A5,I 0 [some (.ref (C.M+3)),some Gf] h'=.ok (.ref (C.M+3),h'):=λ_=>rfl;have t0:∀x:Str,AY (A0 (Au true) (A0 AA (I 1) (pu (.int 0))) (pu (.str x))) [some (.ref (C.M+3)),some Gf] h=.ok (AJ "step"==x,h):=λx=>by simp[Gf,Ff]
 obtain⟨h',Dt⟩:∃h',h'=h.set (C.M+3) (Pn C P (S.done.length+1) S.Be):=⟨_,rfl⟩;have keep:∀n,n≠C.M+3->h'[n]?=h[n]?:=λn AV=>by rw[Dt,F5 (λz=>AV z.symm)]
 have Ni:h'.length=h.length:=by rw[Dt];simp
 have H9:h'[C.M+3]?=some (Pn C P (S.done.length+1) S.Be):=by rw[Dt,IU J.st]
 have GR:FR C P h' (KW C S) f:=by
  obtain⟨As,PO,R3⟩:=J.WN;refine⟨λn o' Jl ne=>?_,aeE J.D DS,?_,?_,?_,⟨As,?_,R3⟩,λy AP=>?_,J.lt,J.nn,J.Ge,λp AT=>?_,J.few,by rw[Ni];exact J.AG,J.pr⟩
  .have:=FW Jl;rw[keep n (by lia)];exact J.Bc n o' Jl ne
  .rw[H9];simp[KW]
  .rw[keep _ (by lia)];exact J.FZ
  .rw[keep _ (by lia)];exact J.Bn
  .rw[keep _ (by lia)];exact PO
  .have z:=J.KR y AP;exact⟨by rw[keep _ (by lia)];exact z.1,z.2⟩
  .simp only[KW,HV,JW]at AT;rcases AT with AT|AT
   .exact J.I2 p AT
   .have cG:some p∈C.ps:=by rw[AT];exact getD_mem DS
    exact(c.P.k p cG).1
 have s1:JK (I 0) (pu (.str (AJ "done"))) (A0 addW (A0 AA (I 0) (pu (.str (AJ "done")))) (pu (.int 1))) [some (.ref (C.M+3)),some Gf] h=.ok (.AR [some (.ref (C.M+3)),some Gf],h'):=by rw[TB,Bg,Bg,v0,A3,Bw,A3,Rc J,A3,Bw,A3,MW,A3,v0,A3,Bw,A3,Dt];exact gf J.st (by simp[B0]) (by simp[OX]) rfl
 have wD:AA (.ref (C.M+3)) (.str (AJ "plan")) h'=.ok (.ref P.pp,h'):=Mw H9 rfl;have OC:AA (.ref (C.M+3)) (.str (AJ "done")) h'=.ok (.int ((S.done.length+1:Nat):Int),h'):=Mw H9 rfl;have EO:AA (.ref P.pp) (.int (S.done.length:Int)) h'=.ok (Ax (C.ps.getD S.done.length none),h'):=GZ (a3 k GR) (by rw[Ed,Cc DS,EW,Cc DS];rfl);have FZ:NY (.int ((S.done.length+1:Nat):Int)) (.int 1) h'=.ok (.int (S.done.length:Int),h'):=by show R.ok (W.int (((S.done.length+1:Nat):Int)-1),h')=_;rw[show(((S.done.length+1:Nat):Int)-1)=(S.done.length:Int)by lia]
 refine⟨h',?_,GR,Ni,keep⟩;have CC:IQ [.ref (C.M+3),Gf] h=(RO [some (.ref (C.M+3)),some Gf] h).bind outF:=rfl;rw[CC];unfold RO;rw[B4,Dj,t0,A3,if_neg (by rw[q1];simp),Fg,A3,BA,B4,Dj,t0,A3,if_neg (by rw[q2];simp),Fg,A3,BA,B4,Dj,v_not,HA,cl,A3,HE,A3,A3,hm,if_neg (by simp),Fg,A3,BA,B4,s1,A3,BA,Ga,Bg,Bg,v0,A3,Bw,A3,wD,A3,Bg,Bg,v0,A3,Bw,A3,OC,A3,Bw,A3,FZ,A3,EO];rfl
def Md(C:F8)(S:Em):W:=if Ie C S=true then Ax (C.ps.getD S.done.length none)else .non
def T3(C:F8)(S:Em):Em:=if Ie C S=true then KW C S else S
def gp(k:Ja C P)(c:EY C)(B:GW C P h S f) :
  ∃h1 h2,Jm [.ref C.r,Gf] h=.ok (Md C S,h1)/\IQ [.ref (C.M+3),Gf] h1=.ok (Md C S,h2)/\GW C P h2 (T3 C S) f/\h.length<=h2.length/\∀n,C.M+7<=n->n<C.T->h2[n]?=h[n]?:=by
 have Cv:=c.Cv;have JN:=c.JN;have kt:=k.t;have AG:=B.R.AG;unfold Md T3;cases hm:Ie C S
 .rw[if_neg (by simp),if_neg (by simp)];exact⟨h,h,aco B.R (jp B.R (aeF c B.R B.L.D hm) (.inl rfl)),aa1 k c B.L hm,B,CB _,λ_ _ _=>rfl⟩
 .rw[if_pos rfl,if_pos rfl];obtain⟨h1,A9,Ip,CZ,fr⟩:=aeH c B.R B.L.D hm;have Ab:FR C P h1 S f:=B.L.to c k (λn AV=>by
   rcases AV with⟨a,b⟩|⟨a,b⟩|⟨y,AP,rfl⟩
   .exact fr n (by lia)
   .exact fr n (by lia)
   .have z:=B.L.KR y AP;exact fr _ (by lia)) (by lia)
  obtain⟨h2,AF,BS,CN,Py⟩:=aa2 k c Ab hm;exact⟨h1,h2,cU B.R (jp B.R A9 (.inr ⟨_,rfl⟩)),AF,⟨EK.to c Ip (λn AV no=>Py n (by lia)) (by lia),BS,B.s⟩,by lia,λn a b=>by rw[Py n (by lia),fr n (by lia)]⟩
end
section
variable{C:F8}{P:Kp}{h h':A5}{S:Em}{f:Nat->Nat}
def outD(C:F8):List Ad:=(D2 C.cs C.cs.length).filter λd=>(EM C.ws d).isNone
def ki{C:F8}{d:Ad}:d∈outD C↔d∈D2 C.cs C.cs.length/\EM C.ws d=none:=by unfold outD;rw[List.mem_filter,Option.isNone_iff_eq_none]
structure PT(C:F8)(P:Kp)(C2:Nat):Prop where
 k:Ja C P
 o:C.K[C2]?=some ⟨.lst,(outD C).map Aa⟩
 ne:outD C≠[]
def uK{h:A5}{n m:Nat}{l:List Int}(e:h[n]?=some ⟨.lst,IR l⟩)(BX:h[m]?=some ⟨.lst,[]⟩):Au true (.ref n) (.ref m) h=.ok (.AL l.isEmpty,h):=by unfold Au;rw[WK 7 (l:=l) e,WK (l:=[]) 7 BX];cases l<;>simp[eqT,G8]
inductive U9(C:F8)(S:Em):W->Prop where
 |gy {d:Ad} {a:Nat} (hd:d∈outD C) (AE:a<16):U9 C S (MP d a)
 |go {l:Lt} (AG:l∈S.lets):U9 C S (Kz l.n)
 |iL:U9 C S Gf
def sY{C2:Nat}(k:PT C P C2)(c:EY C)(J:FR C P h S f)(AH:S.Be<=60)(x:Int):∃w,U9 C S w/\RE [.ref (C.M+3),.int x,.ref C2] h=.ok (w,h):=by
 have Cv:=c.Cv;have kt:=k.k.t;have AG:=J.AG;have Ec:=J.Ec;obtain⟨y,DP⟩:=Nq x 1 (by lia);have DP:∀h,EQ [.int x,.int 1] h=.ok (.int y,h):=DP;have GH:h[C2]?=some ⟨.lst,(outD C).map Aa⟩:=J.Bc _ _ k.o (λz=>by cases z);obtain⟨H8,es⟩:∃H8,H8=LT.Jt (S.lets.map λl=>(l.n:Int)):=⟨_,rfl⟩;have so:=oF S.lets J.Bn (by lia);rw[<-es]at so;obtain⟨H,Cg⟩:∃H,H=h++[⟨.lst,IR H8⟩]:=⟨_,rfl⟩;rw[<-Cg]at so;have An:H[h.length]?=some ⟨.lst,IR H8⟩:=by rw[Cg];simp
 have iR:H[C2]?=some ⟨.lst,(outD C).map Aa⟩:=by rw[Cg];exact Ch h GH _
 obtain⟨ρ,DQ⟩:∃ρ:Option W->Option W->Option W->B9,ρ=λa b c=>[some (.ref (C.M+3)),some (.int x),some (.ref C2),a,b,c]:=⟨_,rfl⟩;have s1:Ac (Ah 2 EQ (Z (I 1) (Z (pu (.int 1)) A1))) (AD 3) (ρ none none none) h=.ok (.AR (ρ (some (.int y)) none none),h):=by rw[DQ];simp[DP]
 have s2:Ac (Az Mc (Z (A0 AA (I 0) (pu (.str (AJ "letters")))) A1)) (AD 4) (ρ (some (.int y)) none none) h=.ok (.AR (ρ (some (.int y)) (some (.ref h.length)) none),H):=by rw[DQ];simp[SP J,so]
 have s3:Ac (A0 BV (I 3) (pu (.int 8))) (AD 5) (ρ (some (.int y)) (some (.ref h.length)) none) H=.ok (.AR (ρ (some (.int y)) (some (.ref h.length)) (some (.int (y%8)))),H):=by rw[DQ];simp
 obtain⟨r,B5⟩:∃r,r=ρ (some (.int y)) (some (.ref h.length)) (some (.int (y%8))):=⟨_,rfl⟩;have WI:Au true (.ref h.length) (.ref H.length) (H++[⟨.lst,[]⟩])=.ok (.AL H8.isEmpty,H++[⟨.lst,[]⟩]):=uK (Ch H An _) (by simp);obtain⟨b,BF⟩:∃b,b=(decide (y%8<2)||(decide (y%8<6)&&H8.isEmpty)):=⟨_,rfl⟩;have t1:Ho (FL (AY (A0 JJ (I 5) (pu (.int 2)))) (Fl (AY (A0 JJ (I 5) (pu (.int 6)))) (AY (A0 (Au true) (I 4) (By A1))))) r H=.ok (b,H):=by
  rw[B5,DQ,BF];by_cases h2:y%8<2
  .simp[h2]
  .by_cases FD:y%8<6
   .simp[h2,FD,nw,WI]
   .simp[h2,FD]
 have Cb:AY (A0 JJ (I 5) (pu (.int 6))) r H=.ok (decide (y%8<6),H):=by rw[B5,DQ];simp
 have CC:RE [.ref (C.M+3),.int x,.ref C2] h=((Xr (ρ none none none) h).bind outF).bind λp=>C0.settle h p.1 p.2:=by rw[DQ];rfl
 have fin:∀{w:W},DL w=true->C0.settle h w H=.ok (w,h):=λ{w} e=>by rw[Cg];exact WP h _ _ e
 rw[CC];unfold Xr;rw[B4,s1,A3,BA,B4,s2,A3,BA,B4,s3,A3,BA,<-B5,B4,Dj,t1,A3];cases A2:b
 .rw[if_neg (by simp),Fg,A3,BA,B4,Dj,Cb,A3];by_cases FD:y%8<6
  .rw[if_pos (by simpa using FD)];have ne:H8≠[]:=λz=>by
    rw[A2,z]at BF;simp[FD]at BF
   have lo:0<H8.length:=List.length_pos_iff.mpr ne;obtain⟨j,Ap,Hj⟩:=Jo (y/8) (n:=H8.length) lo;obtain⟨z,Hk⟩:∃z,z=H8[j]:=⟨_,rfl⟩;obtain⟨l,L7,ln⟩:=oK.mp (show z∈LT.Jt (S.lets.map λl=>(l.n:Int))by rw[<-es,Hk];exact LS _);have EO:AA (.ref h.length) (.int (j:Int)) H=.ok (.int (l.n:Int),H):=GZ An (by simp only[IR];rw[Ed,Cc Ap,<-Hk,ln];rfl);have Jq:(0:Int)<(H8.length:Int):=by lia
   have lw:BO [.ref h.length] H=.ok (.int H8.length,H):=by rw[GL An];simp[IR]
   have v:BQ (Z (pu (.str (AJ "go"))) (Z (A0 AA (I 4) (A0 BV (A0 CY (I 3) (pu (.int 8))) (Az BO (Z (I 4) A1)))) A1)) r H=.ok (Kz l.n,H):=by rw[B5,DQ];simp only[Pu,Bg,G1,CM,Ce,v_var,Bw,DM,ED,Ci,A3,MX,if_pos (show(0:Int)<8/\(8:Int)<1073741824 by decide),lw,Kh,if_pos Jq,Hj,EO];simp[B0,Kz]
   refine⟨Kz l.n,.go L7,?_⟩;rw[Ga,v,A3,A3,T0,A3,Ig,A3];exact fin (by simp[Kz])
  .rw[if_neg (by simpa using FD),Fg,A3,BA];refine⟨Gf,.iL,?_⟩;have v:BQ (Z (pu (.str (AJ "step"))) A1) r H=.ok (Gf,H):=by simp[B0,Gf]
   rw[Ga,v,A3,A3,Ig,A3];exact fin (by simp[Gf])
 .rw[if_pos rfl];have lo:0<(outD C).length:=List.length_pos_iff.mpr k.ne;obtain⟨j,Ap,Hj⟩:=Jo (y/8) (n:=(outD C).length) lo;obtain⟨d,CC⟩:∃d,d=(outD C)[j]:=⟨_,rfl⟩;have TY:d∈outD C:=by rw[CC];exact LS _
  have EO:AA (.ref C2) (.int (j:Int)) H=.ok (Aa d,H):=GZ iR (by rw[Ed,Cc Ap,CC];rfl);obtain⟨a,AE,BY⟩:=Jo (y/64) (n:=16) (by decide);have BY:y/64%16=(a:Int):=BY;have Jq:(0:Int)<((outD C).length:Int):=by lia
  have v:BQ (Z (pu (.str (AJ "come"))) (Z (A0 AA (I 2) (A0 BV (A0 CY (I 3) (pu (.int 8))) (Az BO (Z (I 2) A1)))) (Z (A0 BV (A0 CY (I 3) (pu (.int 64))) (pu (.int 16))) A1))) r H=.ok (MP d a,H):=by rw[B5,DQ];simp only[Pu,Bg,G1,CM,Ce,v_var,Bw,DM,ED,Ci,A3,MX,if_pos (show(0:Int)<8/\(8:Int)<1073741824 by decide),if_pos (show(0:Int)<64/\(64:Int)<1073741824 by decide),GL iR,CS,Kh,if_pos Jq,if_pos (show(0:Int)<16 by decide),Hj,EO,BY];simp[B0,MP]
  refine⟨MP d a,.gy TY AE,?_⟩;rw[Ga,v,A3,A3,T0,A3,Ig,A3];exact fin (by simp[MP])
end
section
variable{ns:List Int}{C:F8}{P:Kp}{C2 x1 x2 x3 x4 x6:Nat}{h h':A5}{S:Em}{f:Nat->Nat}
noncomputable def DN(ns:List Int)(C:F8)(x1 x2 x3 x4 C2 x6:Nat)(CP Di EB F4:Option W):B9:=[some (.DV (Ay ns)),some (.ref x1),some (.ref x2),some (.ref x3),some (.ref x4),some (.ref C2),some (.ref x6),some (.ref C.r),some (.ref (C.M+3)),CP,Di,EB,F4]
def ne_self(h:A5){w:W}(e:(∃t,w=CQ t)\/(∃s,w=Ax s)\/(∃i,w=.int i)\/w=.non):Au false w w h=.ok (.AL false,h):=by
 rcases e with⟨t,rfl⟩|⟨s,rfl⟩|⟨i,rfl⟩|rfl
 .cases t<;>simp[Au,CQ,DD,eqT,G8]
 .cases s<;>simp[Au,Ax,DD,eqT,G8]
 .simp[Au,DD,eqT]
 .simp[Au,DD,eqT]
noncomputable def bI:DF:=FL (AY (A0 (Au false) (Ah 2 Jm (Z (I 7) (Z (I 10) A1))) (Ah 2 IQ (Z (I 8) (Z (I 10) A1))))) (AY (A0 (Au false) (C_ "Run" "place" 0 IP (I 7) A1) (A0 AA (I 8) (pu (.str (AJ "done"))))))
def Vs:Am:=AQ (Ac (Ah 3 RE (Z (I 8) (Z (I 9) (Z (I 5) A1)))) (AD 10)) (Bh bI (B2 (pu (.AL false))) Bd)
def sx(k:PT C P C2)(c:EY C)(B:GW C P h S f)(AH:S.Be<=60)(hm:S.Ca<900000){w:W}(d:U9 C S w) :
  ∃v h1 h2 Cf Db,Jm [.ref C.r,w] h=.ok (v,h1)/\IQ [.ref (C.M+3),w] h1=.ok (v,h2)/\GW C P h2 Cf Db/\Cf.Be<=S.Be+1/\Cf.Ca<=S.Ca+1/\((∃t,v=CQ t)\/(∃s,v=Ax s)\/(∃i,v=.int i)\/v=.non)/\∀n,C.M+7<=n->n<C.T->h2[n]?=h[n]?:=by
 cases d with
 |gy hd AE=>obtain⟨GB,GC⟩:=ki.mp hd;obtain⟨h1,h2,Db,A9,AF,He,_,fr⟩:=rK k.k c B (by lia) GB GC AE;exact⟨_,h1,h2,_,Db,A9,AF,He,CB _,PB _,.inr (.inr (.inl ⟨_,rfl⟩)),fr⟩
 |go AG=>obtain⟨CH,B6,sp⟩:=oI AG;obtain⟨h1,h2,Db,A9,AF,He,_,fr⟩:=rL k.k c B hm sp;exact⟨_,h1,h2,_,Db,A9,AF,He,by rw[iB];lia,by rw[iC];lia,.inl ⟨_,rfl⟩,fr⟩
 |iL=>
  obtain⟨h1,h2,A9,AF,He,_,fr⟩:=gp k.k c B;refine⟨_,h1,h2,_,f,A9,AF,He,?_,?_,?_,fr⟩
  .unfold T3;split<;>simp[KW]
  .unfold T3;split<;>simp[KW]
  .unfold Md;split
   .exact .inr (.inl ⟨_,rfl⟩)
   .exact .inr (.inr (.inr rfl))
def rI(k:PT C P C2)(c:EY C)(B:GW C P h S f)(AH:S.Be<=60)(hm:S.Ca<900000){x:Int}(Di EB F4:Option W) :
  ∃h' Cf Db T5,Vs (DN ns C x1 x2 x3 x4 C2 x6 (some (.int x)) Di EB F4) h=.ok (.AR (DN ns C x1 x2 x3 x4 C2 x6 (some (.int x)) T5 EB F4),h')/\GW C P h' Cf Db/\Cf.Be<=S.Be+1/\Cf.Ca<=S.Ca+1/\∀n,C.M+7<=n->n<C.T->h'[n]?=h[n]?:=by
 obtain⟨w,d,Cp⟩:=sY k c B.L AH x;obtain⟨v,h1,h2,Cf,Db,A9,AF,He,ce,Ca,dh,fr⟩:=sx k c B AH hm d;have s1:Ac (Ah 3 RE (Z (I 8) (Z (I 9) (Z (I 5) A1)))) (AD 10) (DN ns C x1 x2 x3 x4 C2 x6 (some (.int x)) Di EB F4) h=.ok (.AR (DN ns C x1 x2 x3 x4 C2 x6 (some (.int x)) (some w) EB F4),h):=by have q:Ah 3 RE (Z (I 8) (Z (I 9) (Z (I 5) A1))) (DN ns C x1 x2 x3 x4 C2 x6 (some (.int x)) Di EB F4) h=.ok (w,h):=JA (us:=[.ref (C.M+3),.int x,.ref C2]) (h1:=h) rfl rfl Cp;rw[Do,q];rfl
 have a1:Ah 2 Jm (Z (I 7) (Z (I 10) A1)) (DN ns C x1 x2 x3 x4 C2 x6 (some (.int x)) (some w) EB F4) h=.ok (v,h1):=JA (us:=[.ref C.r,w]) (h1:=h) rfl rfl A9;have a2:Ah 2 IQ (Z (I 8) (Z (I 10) A1)) (DN ns C x1 x2 x3 x4 C2 x6 (some (.int x)) (some w) EB F4) h1=.ok (v,h2):=JA (us:=[.ref (C.M+3),w]) (h1:=h1) rfl rfl AF;have GT:C_ "Run" "place" 0 IP (I 7) A1 (DN ns C x1 x2 x3 x4 C2 x6 (some (.int x)) (some w) EB F4) h2=.ok (.int (Cf.done.length:Int),h2):=Qk (h1:=h2) rfl He.R.B5 rfl (a4 He.R);have TA:I 8 (DN ns C x1 x2 x3 x4 C2 x6 (some (.int x)) (some w) EB F4) h2=.ok (.ref (C.M+3),h2):=rfl;have t:bI (DN ns C x1 x2 x3 x4 C2 x6 (some (.int x)) (some w) EB F4) h=.ok (false,h2):=by unfold bI;rw[v_or,HA,Bg,a1,A3,a2,A3,ne_self h2 dh,A3,HE,A3];show AY _ _ h2=_;rw[HA,Bg,GT,A3,Bg,TA,A3,Bw,A3,Rc He.L,A3,ne_self h2 (.inr (.inr (.inl ⟨_,rfl⟩))),A3,HE]
 refine⟨h2,Cf,Db,some w,?_,He,ce,Ca,fr⟩;unfold Vs;rw[B4,s1,A3,BA,Dj,t,A3,if_neg (by simp),Fg]
def sK(k:PT C P C2)(c:EY C){cells:List Int}(AG:cells.length<=50){p:Nat}{mi:Fv}(xC:C.M+7<=p)(UD:p<C.T){h0:A5}(B:GW C P h S f)(s0:S.Be=0)(m0:S.Ca=0)(An:h[p]?=some ⟨.lst,Ay cells⟩){CP Di EB F4:Option W}(AB:mi (DN ns C x1 x2 x3 x4 C2 x6 CP Di EB F4) h0=.ok (GA (.ref p),h)) :
  Ends (F2 mi (AD 9) Vs (DN ns C x1 x2 x3 x4 C2 x6 CP Di EB F4) h0) λDu h'=>∃Cf Db CP Di,Du=.AR (DN ns C x1 x2 x3 x4 C2 x6 CP Di EB F4)/\GW C P h' Cf Db/\Cf.Be<=60/\Cf.Ca<=60:=by
 rw[Ly]
 refine Ends.H5 (US (mi:=mi) (it:=GA (.ref p)) (g:=AD 9) (b:=Vs) (ρ:=DN ns C x1 x2 x3 x4 C2 x6 CP Di EB F4) (h:=h0) (h0:=h) (Ay cells) (by simp[Ay];lia)
  (λj ρ h'=>∃Cf Db CP Di,ρ=DN ns C x1 x2 x3 x4 C2 x6 CP Di EB F4/\GW C P h' Cf Db/\Cf.Be<=j/\Cf.Ca<=j/\h'[p]?=some ⟨.lst,Ay cells⟩)
  AB (λj ρ h' _ q=>by obtain⟨Cf,_,_,_,_,_,_,_,e⟩:=q;exact PZ e j) ⟨S,f,CP,Di,rfl,B,by lia,by lia,An⟩ ?_ ?_)
 .rintro j w _ H Cp ⟨Cf,Db,oT,T5,rfl,Gi,ce,Ca,e⟩;simp only[Ay,Ed]at Cp;cases ex:cells[j]? with
  |none=>rw[ex]at Cp;cases Cp
  |some x=>rw[ex]at Cp;cases Cp;have Ap:=(List.getElem?_eq_some_iff.mp ex).1;obtain⟨h',gU,f2,ahe,BF,He,sU,aaM,fr⟩:=rI (ns:=ns) (x1:=x1) (x2:=x2) (x3:=x3) (x4:=x4) (x6:=x6) k c Gi (by lia) (by lia) (x:=x) T5 EB F4;refine⟨DN ns C x1 x2 x3 x4 C2 x6 (some (.int x)) T5 EB F4,H,by simp[DN],?_⟩;exact⟨_,_,BF,gU,f2,_,_,rfl,He,by lia,by lia,by rw[fr p xC UD];exact e⟩
 .rintro _ h' ⟨Cf,Db,oT,T5,rfl,Gi,ce,Ca,e⟩;simp only[Ay,CS]at ce Ca;exact⟨Cf,Db,oT,T5,rfl,Gi,by lia,by lia⟩
end
def mul_two{h:A5}{n:Nat}{a:List W}(e:h[n]?=some ⟨.lst,a⟩)(AG:a.length<100):HY (.ref n) (.int 2) h=.ok (.ref h.length,h++[⟨.lst,a++a⟩]):=by
 have c: -(2^63)<=(2:Int)/\(2:Int)<2^63:=by decide
 unfold HY;simp only[Nm h e,if_pos c];have:(Fu (Int.toNat 2) a).flatten=a++a:=by simp[Fu]
 rw[this];exact H_ h (by simp[B0];lia)
section
variable{ns:List Int}{C:F8}{P:Kp}{C2 x1 x2 x3 x4 x6:Nat}{h h':A5}{S:Em}{f:Nat->Nat}
noncomputable def swBody:Am:=Bh (AY (A0 (DH true) (I 12) (A0 AA (I 8) (pu (.str (AJ "letters")))))) (Bh (AY (A0 (Au false) (C_ "Run" "move" 1 I7 (I 7) (Z (BQ (Z (pu (.str (AJ "go"))) (Z (I 12) A1))) A1)) (Ah 2 P2 (Z (I 8) (Z (I 12) A1))))) (B2 (pu (.AL false))) Bd) Bd
def aeN(k:PT C P C2)(c:EY C)(B:GW C P h S f)(hm:S.Ca<100000)(AH:S.Be<=60)(CP Di EB F4:Option W) :
  Ends (F2 (E8 (Bb (A0 HY (Az Mc (Z (A0 AA (I 8) (pu (.str (AJ "letters")))) A1)) (pu (.int 2))))) (AD 12) swBody (DN ns C x1 x2 x3 x4 C2 x6 CP Di EB F4) h) λDu h'=>∃Cf Db ZS,Du=.AR (DN ns C x1 x2 x3 x4 C2 x6 CP Di EB ZS)/\GW C P h' Cf Db/\Cf.Ca<=S.Ca+128/\Cf.Be=S.Be:=by
 have kt:=k.k.t;have AG:=B.R.AG;have Ec:=B.L.Ec;obtain⟨H8,es⟩:∃H8,H8=LT.Jt (S.lets.map λl=>(l.n:Int)):=⟨_,rfl⟩;have so:=oF S.lets B.L.Bn (by lia);rw[<-es]at so;have ls:H8.length=S.lets.length:=by rw[es];exact(Tq _ _).length_eq.trans (by simp)
 obtain⟨two,AF⟩:∃two,two=H8++H8:=⟨_,rfl⟩;have CN:two.length<=120:=by rw[AF];simp;lia
 have nat:∀x∈two,∃i:Nat,x=(i:Int):=λx AK=>by
  have:x∈H8:=by rw[AF]at AK;rcases List.mem_append.mp AK with AK|AK<;>exact AK
  rw[es]at this;obtain⟨l,_,e⟩:=oK.mp this;exact⟨l.n,e.symm⟩
 have TA:∀(Ik:Option W)(g:A5),I 8 (DN ns C x1 x2 x3 x4 C2 x6 CP Di EB Ik) g=.ok (.ref (C.M+3),g):=λ_ _=>rfl;have adP:∀(w:W)(g:A5),I 12 (DN ns C x1 x2 x3 x4 C2 x6 CP Di EB (some w)) g=.ok (w,g):=λ_ _=>rfl;have mi:Bb (A0 HY (Az Mc (Z (A0 AA (I 8) (pu (.str (AJ "letters")))) A1)) (pu (.int 2))) (DN ns C x1 x2 x3 x4 C2 x6 CP Di EB F4) h=.ok (.ref h.length,h++[⟨.lst,Ay two⟩]):=by
  rw[FO,Bg,G1,CM,Bg,TA,A3,Bw,A3,SP B.L,A3,Ce,A3,A3,so,A3,Bw,A3,mul_two (a:=IR H8) (by simp) (by simp[IR];lia),A3];have:IR H8++IR H8=Ay two:=by rw[AF];simp[IR,Ay]
  rw[this];exact JQ (ws:=Ay two) h _ (Kj (Ha (G4 _ _) _)) (by simp) (by simp) (VY _)
 rw[Ly]
 refine Ends.H5 (US (it:=GA (.ref h.length)) (h0:=h++[⟨.lst,Ay two⟩]) (Ay two) (by simp[Ay];lia)
  (λj ρ h'=>∃Cf Db ZS,ρ=DN ns C x1 x2 x3 x4 C2 x6 CP Di EB ZS/\GW C P h' Cf Db/\h'[h.length]?=some ⟨.lst,Ay two⟩/\Cf.Ca<=S.Ca+j/\Cf.Be=S.Be/\(∀l∈Ew Cf,l.Eb≠h.length))
  (Mu (ws:=Ay two) (by simp) mi) (λj ρ h' _ q=>by obtain⟨Cf,Db,ZS,_,_,e,_⟩:=q;exact PZ e j) ⟨S,f,F4,rfl,⟨B.R.app _,B.L.to c k.k (λn AV=>?_) (by simp;lia),B.s⟩,by simp,by lia,rfl,λl Hn=>?_⟩ ?_ ?_)
 .have Cv:=c.Cv;refine Gs ?_;rcases AV with⟨a,b⟩|⟨a,b⟩|⟨y,AP,rfl⟩
  .lia
  .lia
  .exact FW (B.L.KR y AP).1
 .have:=FW (B.R.lt l Hn).CC;lia
 .rintro j w _ H Cp ⟨Cf,Db,Ik,rfl,Gi,An,Ca,ce,Eb⟩;simp only[Ay,Ed]at Cp;cases ex:two[j]? with
  |none=>rw[ex]at Cp;cases Cp
  |some x=>
   rw[ex]at Cp;cases Cp;obtain⟨Ap,Cr⟩:=List.getElem?_eq_some_iff.mp ex;obtain⟨i,rfl⟩:=nat x (by rw[<-Cr];exact LS _);refine⟨DN ns C x1 x2 x3 x4 C2 x6 CP Di EB (some (.int (i:Int))),H,by simp[DN],?_⟩;have Cv:=c.Cv;have AT:=FW An;unfold swBody;rw[Dj,HA,Bg,adP,A3,Bg,TA,A3,Bw,A3,SP Gi.L,A3];by_cases AB:∃l∈Cf.lets,l.n=i
   .obtain⟨l,Hn,rfl⟩:=AB;obtain⟨CH,B6,sp⟩:=oI Hn;have nn:=Gi.L.nn;rw[sp]at nn;have k1:=Vg (dI nn).1;have Bn:H[C.M+5]?=some ⟨.Aj (CH.map E5++E5 l::B6.map E5),CH.map (E6 Db)++E6 Db l::B6.map (E6 Db)⟩:=by rw[Gi.L.Bn,sp];simp
    have gl:Gz H (.ref (C.M+5)) (.int (l.n:Int))=some (some (E6 Db l)):=by rw[Y4 Bn];show some (DW _ _ (E5 l))=_;rw[W1 k1 (by simp)]
    have bh:DH true (.int (l.n:Int)) (.ref (C.M+5)) H=.ok (.AL true,H):=by unfold DH;rw[gl];rfl
    rw[bh,A3,HE,A3,if_pos rfl,Dj,HA,Bg];obtain⟨h1,h2,f2,A9,aX,He,_,_,fr⟩:=gn k.k c Gi (by lia) sp;have FE:C_ "Run" "move" 1 I7 (I 7) (Z (BQ (Z (pu (.str (AJ "go"))) (Z (I 12) A1))) A1) (DN ns C x1 x2 x3 x4 C2 x6 CP Di EB (some (.int (l.n:Int)))) H=.ok (CQ (HL C Cf.done l),h1):=L6 (us:=[Kz l.n]) rfl Gi.R.B5 rfl (by simp[DN,B0,Kz]) rfl A9;have cl:Ah 2 P2 (Z (I 8) (Z (I 12) A1)) (DN ns C x1 x2 x3 x4 C2 x6 CP Di EB (some (.int (l.n:Int)))) h1=.ok (CQ (HL C Cf.done l),h2):=JA (us:=[.ref (C.M+3),.int (l.n:Int)]) (h1:=h1) rfl rfl aX;rw[FE,A3,cl,A3,ne_self h2 (.inl ⟨_,rfl⟩),A3,HE,A3,if_neg (by simp),Fg];have WI:=Eb l (Iz _ Hn);refine⟨_,_,rfl,_,f2,_,rfl,He,?_,by rw[iC];lia,by rw[iB];exact ce,λy AP=>?_⟩
    .rw[fr _ AT (by lia) (by lia) (by lia) (by lia) (λz=>WI z.symm)];exact An
    .obtain⟨z,hz,Hk⟩:=iA sp AP;rw[<-Hk];exact Eb z hz
   .have Qm:(.inl (i:Int):Key)∉Cf.lets.map E5:=λz=>by
      obtain⟨l,Hn,e⟩:=List.mem_map.mp z;simp only[E5,Rw]at e;exact AB ⟨l,Hn,by lia⟩
    have bh:DH true (.int (i:Int)) (.ref (C.M+5)) H=.ok (.AL false,H):=by unfold DH;rw[Y4 Gi.L.Bn,pD Qm];rfl
    rw[bh,A3,HE,A3,if_neg (by simp),Fg];exact⟨_,_,rfl,Cf,Db,_,rfl,Gi,An,by lia,ce,Eb⟩
 .rintro _ h' ⟨Cf,Db,Ik,rfl,Gi,An,Ca,ce,Eb⟩;simp only[Ay,CS]at Ca;exact⟨Cf,Db,Ik,rfl,Gi,by lia,ce⟩
end
section
variable{ns:List Int}{C:F8}{P:Kp}{C2 x1 x2 x3 x4 x6:Nat}{h h':A5}{S:Em}{f:Nat->Nat}
noncomputable def ca:Am:=Bh (AY (A0 (Au false) (Ah 2 Jm (Z (I 7) (Z (BQ (Z (pu (.str (AJ "step"))) A1)) A1))) (Ah 2 IQ (Z (I 8) (Z (BQ (Z (pu (.str (AJ "step"))) A1)) A1))))) (B2 (pu (.AL false))) Bd
def WL:Am:=AQ (F2 (E8 (Bb (A0 HY (Az Mc (Z (A0 AA (I 8) (pu (.str (AJ "letters")))) A1)) (pu (.int 2))))) (AD 12) swBody) ca
def aeD(k:PT C P C2)(c:EY C)(B:GW C P h S f)(CP Di EB F4:Option W) :
  ∃h' Cf,ca (DN ns C x1 x2 x3 x4 C2 x6 CP Di EB F4) h=.ok (.AR (DN ns C x1 x2 x3 x4 C2 x6 CP Di EB F4),h')/\GW C P h' Cf f/\Cf.Be=S.Be/\Cf.Ca=S.Ca:=by
 obtain⟨h1,h2,A9,AF,He,_,fr⟩:=gp k.k c B;have a1:Ah 2 Jm (Z (I 7) (Z (BQ (Z (pu (.str (AJ "step"))) A1)) A1)) (DN ns C x1 x2 x3 x4 C2 x6 CP Di EB F4) h=.ok (Md C S,h1):=JA (us:=[.ref C.r,Gf]) (h1:=h) (by simp[DN,B0,Gf]) rfl A9;have a2:Ah 2 IQ (Z (I 8) (Z (BQ (Z (pu (.str (AJ "step"))) A1)) A1)) (DN ns C x1 x2 x3 x4 C2 x6 CP Di EB F4) h1=.ok (Md C S,h2):=JA (us:=[.ref (C.M+3),Gf]) (h1:=h1) (by simp[DN,B0,Gf]) rfl AF;have dh:(∃t,Md C S=CQ t)\/(∃s,Md C S=Ax s)\/(∃i,Md C S=.int i)\/Md C S=.non:=by
  unfold Md;split
  .exact .inr (.inl ⟨_,rfl⟩)
  .exact .inr (.inr (.inr rfl))
 refine⟨h2,_,?_,He,?_,?_⟩
 .unfold ca;rw[Dj,HA,Bg,a1,A3,a2,A3,ne_self h2 dh,A3,HE,A3,if_neg (by simp),Fg]
 .unfold T3;split<;>simp[KW]
 .unfold T3;split<;>simp[KW]
def acZ(k:PT C P C2)(c:EY C)(B:GW C P h S f)(AH:S.Be<=60)(hm:S.Ca<=60)(PO:C.K[x6]?=some ⟨.lst,C.ps.map Ax⟩)(CP Di EB F4:Option W) :
  Ends ((AQ (F2 (Dc (Z (Az BO (Z (I 6) A1)) A1)) (AD 11) WL) (B2 (A0 (Au true) (C_ "Run" "place" 0 IP (I 7) A1) (A0 AA (I 8) (pu (.str (AJ "done"))))))) (DN ns C x1 x2 x3 x4 C2 x6 CP Di EB F4) h) λDu _=>Du=.EA (.AL true):=by
 have Vl:=c.P.l;have Dt:h[x6]?=some ⟨.lst,C.ps.map Ax⟩:=B.R.Bc _ _ PO (λz=>by cases z);have lw:BO [.ref x6] h=.ok (.int (C.ps.length:Int),h):=by rw[GL Dt,CS]
 have BL:=RV (mi:=Dc (Z (Az BO (Z (I 6) A1)) A1)) (g:=AD 11) (b:=WL) (ρ:=DN ns C x1 x2 x3 x4 C2 x6 CP Di EB F4) (h:=h) (h0:=h) 0 C.ps.length (by lia)
  (λj ρ h'=>∃Cf Db O_ Ik,ρ=DN ns C x1 x2 x3 x4 C2 x6 CP Di O_ Ik/\GW C P h' Cf Db/\Cf.Ca<=60+128*j/\Cf.Be<=60)
  (T:=λDu h'=>∃Cf Db O_ Ik,Du=.AR (DN ns C x1 x2 x3 x4 C2 x6 CP Di O_ Ik)/\GW C P h' Cf Db)
  (LG (n:=C.ps.length) (by simp[DN,lw]) (by lia)) ⟨S,f,EB,F4,rfl,B,by lia,AH⟩ (by
    rintro j _ h' Ap ⟨Cf,Db,O_,Ik,rfl,Gi,Ca,ce⟩;refine⟨DN ns C x1 x2 x3 x4 C2 x6 CP Di (some (.int (0+(j:Int)))) Ik,h',by simp[DN],?_⟩;obtain⟨Du,h2,C8,gU,f2,dw,rfl,He,aaM,sU⟩:=aeN (ns:=ns) (x1:=x1) (x2:=x2) (x3:=x3) (x4:=x4) (x6:=x6) k c Gi (by lia) ce CP Di (some (.int (0+(j:Int)))) Ik;obtain⟨BH,rx,Dh,r1,agu,ahq⟩:=aeD (ns:=ns) (x1:=x1) (x2:=x2) (x3:=x3) (x4:=x4) (x6:=x6) k c He CP Di (some (.int (0+(j:Int)))) dw;have BF:WL (DN ns C x1 x2 x3 x4 C2 x6 CP Di (some (.int (0+(j:Int)))) Ik) h'=.ok (.AR (DN ns C x1 x2 x3 x4 C2 x6 CP Di (some (.int (0+(j:Int)))) dw),BH):=by unfold WL;rw[B4,C8,A3,BA,Dh]
    exact⟨_,_,BF,rx,f2,_,dw,rfl,r1,by lia,by lia⟩) (by
    rintro _ h' ⟨Cf,Db,O_,Ik,rfl,Gi,Ca,ce⟩;exact⟨Cf,Db,O_,Ik,rfl,Gi⟩)
 obtain⟨Du,H,C8,Cf,Db,O_,Ik,rfl,Gi⟩:=BL.H5;have GT:C_ "Run" "place" 0 IP (I 7) A1 (DN ns C x1 x2 x3 x4 C2 x6 CP Di O_ Ik) H=.ok (.int (Cf.done.length:Int),H):=Qk (h1:=H) rfl Gi.R.B5 rfl (a4 Gi.R);have TA:I 8 (DN ns C x1 x2 x3 x4 C2 x6 CP Di O_ Ik) H=.ok (.ref (C.M+3),H):=rfl;rw[B4,Ly,C8,A3,BA,Ga,Bg,GT,A3,Bg,TA,A3,Bw,A3,Rc Gi.L,A3,V4];exact⟨_,_,rfl,by simp⟩
end
def zc:([(AJ "wires"),(AJ "books"),(AJ "plan"),(AJ "done"),(AJ "letters"),(AJ "came"),(AJ "ended")]:List Str).Nodup:=by decide
def rg(h:A5)(Ih po Cd pp:Nat):RD [.ref Ih,.ref po,.ref Cd,.ref pp] h=.ok (.ref h.length,h++[⟨.Aj OX,[.ref Ih,.ref (h.length+1),.ref pp,.int 0,.ref (h.length+2),.int 0,.ref (h.length+3)]⟩,⟨.lst,[.ref po,.ref Cd]⟩,⟨.Aj [],[]⟩,⟨.lst,[]⟩]):=by
 have q:S6 [(AJ "wires"),(AJ "books"),(AJ "plan"),(AJ "done"),(AJ "letters"),(AJ "came"),(AJ "ended")] [(I 0),(By (Z (I 1) (Z (I 2) A1))),(I 3),(pu (.int 0)),(KN false),(pu (.int 0)),(By A1)] [some (.ref Ih),some (.ref po),some (.ref Cd),some (.ref pp)] h=.ok (.ref h.length,h++[⟨.Aj OX,[.ref Ih,.ref (h.length+1),.ref pp,.int 0,.ref (h.length+2),.int 0,.ref (h.length+3)]⟩,⟨.lst,[.ref po,.ref Cd]⟩,⟨.Aj [],[]⟩,⟨.lst,[]⟩]):=by
  have a:Oy [(I 0),(By (Z (I 1) (Z (I 2) A1))),(I 3),(pu (.int 0)),(KN false),(pu (.int 0)),(By A1)] [some (.ref Ih),some (.ref po),some (.ref Cd),some (.ref pp)] (h++[⟨.Aj [],[]⟩])=.ok ([.ref Ih,.ref (h.length+1),.ref pp,.int 0,.ref (h.length+2),.int 0,.ref (h.length+3)],h++[⟨.Aj [],[]⟩,⟨.lst,[.ref po,.ref Cd]⟩,⟨.Aj [],[]⟩,⟨.lst,[]⟩]):=by simp[Oy,KN,nw,B0]
  unfold S6;rw[a,A3];simp only[HH,DM,SU];rw[if_pos ⟨zc,by decide⟩];rfl
 have e:RD [.ref Ih,.ref po,.ref Cd,.ref pp] h=(Xp [some (.ref Ih),some (.ref po),some (.ref Cd),some (.ref pp)] h).bind outF:=rfl;rw[e];unfold Xp;rw[Ga,FO,q,A3];have s:C0.settle h (.ref h.length) (h++[⟨.Aj OX,[.ref Ih,.ref (h.length+1),.ref pp,.int 0,.ref (h.length+2),.int 0,.ref (h.length+3)]⟩,⟨.lst,[.ref po,.ref Cd]⟩,⟨.Aj [],[]⟩,⟨.lst,[]⟩])=.ok (.ref h.length,h++[⟨.Aj OX,[.ref Ih,.ref (h.length+1),.ref pp,.int 0,.ref (h.length+2),.int 0,.ref (h.length+3)]⟩,⟨.lst,[.ref po,.ref Cd]⟩,⟨.Aj [],[]⟩,⟨.lst,[]⟩]):=by unfold C0.settle;simp[DL]
 rw[s];rfl
def ha{h:A5}{b:Nat}{B:List (List Cu)}(e:∀i,i<B.length+1->h[b+i]?=(I1 b B)[i]?):EX h b B:=by
 refine⟨(CW B.length).map λi=>b+1+i,?_,by simp,λi r B5=>?_⟩
 .have:=e 0 (by lia);rw[Nat.add_zero]at this;rw[this];simp[I1,IT,P8]
 .rw[Ed]at B5;by_cases AB:i<B.length
  .rw[Tr AB]at B5;cases B5;show h[b+1+i]?=_;rw[show b+1+i=b+(i+1)by lia,e (i+1) (by lia)];simp[I1,EW,AB]
  .rw[JV (by simpa using AB)]at B5;cases B5
def EX.to{h h':A5}{b:Nat}{B:List (List Cu)}(x:EX h b B)(e:∀n,n<h.length->h'[n]?=h[n]?):EX h' b B:=by obtain⟨rs,A9,l,r⟩:=x.ex;exact⟨rs,(e _ (FW A9)).trans A9,l,λi q AX=>(e _ (FW (r i q AX))).trans (r i q AX)⟩
section
variable{cs:List Nat}{ws:List (Ad×Ad)}{A B:List (List Cu)}{ps:List Ck}(h:A5)
noncomputable def JP(h:A5)(cs:List Nat)(ws:List (Ad×Ad))(A B:List (List Cu))(ps:List Ck):A5:=h++(OW (h.length+3) (h.length+5) (h.length+6+A.length) (h.length+7+A.length+B.length) (h.length+8+A.length+B.length) 0::(Ii h.length cs ws A B ps++[⟨.lst,[]⟩,⟨.Aj [],[]⟩,⟨.lst,[]⟩]))
def ad9:(JP h cs ws A B ps).length=h.length+8+A.length+B.length+3:=by unfold JP;rw[Ej,Df,Ej,ZR];simp;lia
def adA{n:Nat}(AV:n<h.length):(JP h cs ws A B ps)[n]?=h[n]?:=by unfold JP;exact Gs AV
def adB:(JP h cs ws A B ps)[h.length]?=some (OW (h.length+3) (h.length+5) (h.length+6+A.length) (h.length+7+A.length+B.length) (h.length+8+A.length+B.length) 0):=by unfold JP;simp
def adC{k:Nat}(AO:k<A.length+B.length+7):(JP h cs ws A B ps)[h.length+1+k]?=(Ii h.length cs ws A B ps)[k]?:=by unfold JP;rw[show h.length+1+k=h.length+(k+1)by lia,Q1,ED,Gs (by rw[ZR];exact AO)]
def ct(k:Nat):(JP h cs ws A B ps)[h.length+8+A.length+B.length+k]?=([⟨.lst,[]⟩,⟨.Aj [],[]⟩,⟨.lst,[]⟩]:A5)[k]?:=by
 unfold JP;rw[show h.length+8+A.length+B.length+k=h.length+(A.length+B.length+7+k+1)by lia,Q1,ED,N1 (by rw[ZR];lia),ZR]
 congr 1;lia
def adL:(Ii h.length cs ws A B ps)[2]?=some (MV cs ws (h.length+4)):=by simp[Ii]
def adK:(Ii h.length cs ws A B ps)[3]?=some (HG ws):=by simp[Ii]
def adI{i:Nat}(AB:i<A.length+1):(Ii h.length cs ws A B ps)[4+i]?=(I1 (h.length+5) A)[i]?:=by
 unfold Ii;rw[Gs (by simp[NO];lia),Gs (by simp[NO];lia),N1 (by simp)]
 congr 1;simp
def adJ{i:Nat}(AB:i<B.length+1):(Ii h.length cs ws A B ps)[5+A.length+i]?=(I1 (h.length+6+A.length) B)[i]?:=by
 unfold Ii;rw[Gs (by simp[NO];lia),N1 (by simp[NO];lia)]
 congr 1;simp[NO];lia
def adM:(Ii h.length cs ws A B ps)[6+A.length+B.length]?=some ⟨.lst,ps.map Ax⟩:=by
 unfold Ii;rw[N1 (by simp[NO];lia)];have:6+A.length+B.length-([⟨.lst,Br cs⟩,⟨.lst,ws.map CA⟩,MV cs ws (h.length+4),HG ws]++I1 (h.length+5) A++I1 (h.length+6+A.length) B).length=0:=by simp[NO];lia
 rw[this];rfl
end
noncomputable def SG(h:A5)(cs:List Nat)(ws:List (Ad×Ad))(A B:List (List Cu))(ps:List Ck)(E1:A5):F8:=
 ⟨cs,ws,A,B,ps,h.length,h.length+8+A.length+B.length,h.length+8+A.length+B.length+8,h.length+3,h.length+5,h.length+6+A.length,h.length+7+A.length+B.length,(E1.take (h.length+8+A.length+B.length)).set h.length Iq⟩
def g5{cs:List Nat}{ws:List (Ad×Ad)}{A B:List (List Cu)}{ps:List Ck}{h E1:A5}(Nj:E1.length=h.length+8+A.length+B.length+3)(I4:∀n,h.length<=n->E1[n]?=(JP h cs ws A B ps)[n]?){n:Nat}(h1:n<h.length+8+A.length+B.length)(h2:n≠h.length):(SG h cs ws A B ps E1).K[n]?=E1[n]?:=by show((E1.take (h.length+8+A.length+B.length)).set h.length Iq)[n]?=_;rw[F5 (λz=>h2 z.symm),List.getElem?_take,if_pos h1]
def Uk{cs:List Nat}{ws:List (Ad×Ad)}{A B:List (List Cu)}{ps:List Ck}{h E1:A5}(Nj:E1.length=h.length+8+A.length+B.length+3)(I4:∀n,h.length<=n->E1[n]?=(JP h cs ws A B ps)[n]?){k:Nat}(AO:k<A.length+B.length+7):(SG h cs ws A B ps E1).K[h.length+1+k]?=(Ii h.length cs ws A B ps)[k]?:=by rw[g5 Nj I4 (by lia) (by lia),I4 _ (by lia),adC h AO]
def s_{cs:List Nat}{ws:List (Ad×Ad)}{A B:List (List Cu)}{ps:List Ck}{h E1:A5}(Nj:E1.length=h.length+8+A.length+B.length+3)(I4:∀n,h.length<=n->E1[n]?=(JP h cs ws A B ps)[n]?)(N:K3 cs ws)(KQ:HR cs A)(JL:HR cs B)(P:Sg cs.length ps):EY (SG h cs ws A B ps E1):=by
 refine⟨N,KQ,JL,P,⟨h.length+4,?_,?_⟩,ha λi AB=>?_,ha λi AB=>?_,?_,?_,?_,?_⟩
 .have:=Uk Nj I4 (k:=2) (by lia);rw[adL]at this;exact this
 .have:=Uk Nj I4 (k:=3) (by lia);rw[adK]at this;exact this
 .have:=Uk Nj I4 (k:=4+i) (by have:i<A.length+1:=AB;lia);rw[adI (A:=A) h AB]at this;rw[show h.length+1+(4+i)=h.length+5+i by lia]at this;exact this
 .have:=Uk Nj I4 (k:=5+A.length+i) (by have:i<B.length+1:=AB;lia);rw[adJ (B:=B) h AB]at this;rw[show h.length+1+(5+A.length+i)=h.length+6+A.length+i by lia]at this;exact this
 .have:=Uk Nj I4 (k:=6+A.length+B.length) (by lia);rw[adM,show h.length+1+(6+A.length+B.length)=h.length+7+A.length+B.length by lia]at this;exact this
 .show((E1.take (h.length+8+A.length+B.length)).set h.length Iq)[h.length]?=_;rw[JU (by rw[LR];lia)]
 .show((E1.take (h.length+8+A.length+B.length)).set h.length Iq).length<=h.length+8+A.length+B.length;rw[eO,LR];lia
 .show h.length+8+A.length+B.length+3<=h.length+8+A.length+B.length+8;lia
def aci{cs:List Nat}{ws:List (Ad×Ad)}{A B:List (List Cu)}{ps:List Ck}{h E1:A5}(Nj:E1.length=h.length+8+A.length+B.length+3)(I4:∀n,h.length<=n->E1[n]?=(JP h cs ws A B ps)[n]?)(g:A5)(agm:5<=g.length):EK (SG h cs ws A B ps E1) (E1++g) ⟨[],0,[],[],0⟩:=by
 have e:∀n o,E1[n]?=some o->(E1++g)[n]?=some o:=λn o x=>Ch E1 x g;refine⟨λn o k ne=>?_,e _ _ ?_,e _ _ ?_,e _ _ ?_,e _ _ ?_,(λ_ x=>by cases x),Rs,Rs,(λ_ x=>by cases x),(λ_ x=>by cases x),(by decide),(by decide),?_,(λ_ x=>by cases x)⟩
 .have AV:=FW k;have OR:n<h.length+8+A.length+B.length:=by
   have:((E1.take (h.length+8+A.length+B.length)).set h.length Iq).length<=h.length+8+A.length+B.length:=by rw[eO,LR];lia
   exact G3 AV this
  have Kf:n≠h.length:=λz=>by
   have:(SG h cs ws A B ps E1).K[h.length]?=some Iq:=by show((E1.take (h.length+8+A.length+B.length)).set h.length Iq)[h.length]?=_;rw[JU (by rw[LR];lia)]
   subst z;rw[this]at k;cases k;exact ne rfl
  rw[g5 Nj I4 OR Kf]at k;exact e _ _ k
 .exact(I4 _ (CB _)).trans (adB h)
 .have:=ct (cs:=cs) (ws:=ws) (A:=A) (B:=B) (ps:=ps) h 0;exact(I4 _ (by show h.length<=h.length+8+A.length+B.length;lia)).trans this
 .have:=ct (cs:=cs) (ws:=ws) (A:=A) (B:=B) (ps:=ps) h 1;exact(I4 _ (by show h.length<=h.length+8+A.length+B.length+1;lia)).trans this
 .have:=ct (cs:=cs) (ws:=ws) (A:=A) (B:=B) (ps:=ps) h 2;exact(I4 _ (by show h.length<=h.length+8+A.length+B.length+2;lia)).trans this
 .show h.length+8+A.length+B.length+8<=(E1++g).length;rw[Ej];lia
def HS(ns:List Int)(s1 s2 s3 s4 s5 s6 s7 GO:Option W):B9:=[some (.DV (Ay ns)),s1,s2,s3,s4,s5,s6,s7,GO,none,none,none,none]
def ae0{ns:List Int}{h:A5}{ρ:B9}(h0:ρ[0]?=some (some (.DV (Ay ns)))):∃l:List Int,l.length<=8/\Bb (D5 (I 0) (CE (pu (.int 10))) (CE (pu (.int 18)))) ρ h=.ok (.ref h.length,h++[⟨.lst,Ay l⟩]):=by
 obtain⟨l,el⟩:∃l,Gy (Ay ns) (some 10) (some 18)=Ay l:=bL ns _ _;have Ec:l.length<=8:=by
  have e:(Gy (Ay ns) (some 10) (some 18)).length=l.length:=by rw[el];simp[Ay]
  rw[<-e];unfold Gy;have a:Dz.CV (Ay ns).length 0 (some 10)=min 10 (Ay ns).length:=Dz.Sz _ _ 10;have b:Dz.CV (Ay ns).length (Ay ns).length (some 18)=min 18 (Ay ns).length:=Dz.Sz _ _ 18;rw[a,b];simp;lia
 refine⟨l,Ec,?_⟩;have s1:D5 (I 0) (CE (pu (.int 10))) (CE (pu (.int 18))) ρ h=.ok (.ref h.length,h++[⟨.lst,Ay l⟩]):=by rw[Mi,v_var,h0,Ci,A3,Vy,A3,Vy,A3];unfold Lu;simp only[ZY,el];rw[H_ _ (by simp[Ay,B0];lia)]
 rw[FO,s1,A3];exact JQ (ws:=Ay l) h _ (Kj (G4 _ _)) (by simp) (by simp) (VY _)
def sV{ns:List Int}(AG:ns.length<=63){h:A5}{ρ:B9}(h0:ρ[0]?=some (some (.DV (Ay ns)))):∃l:List Int,l.length<=50/\E8 (Bb (A0 addW (By (Z (pu (.int 3)) (Z (pu (.int 4)) A1))) (D5 (I 0) (CE (pu (.int 16))) (pu none)))) ρ h=.ok (GA (.ref h.length),h++[⟨.lst,Ay l⟩]):=by
 obtain⟨l,el⟩:∃l,Gy (Ay ns) (some 16) none=Ay l:=bL ns _ _;have Ec:l.length<=47:=by
  have e:(Gy (Ay ns) (some 16) none).length=l.length:=by rw[el];simp[Ay]
  rw[<-e];unfold Gy;have:Dz.CV (Ay ns).length 0 (some 16)=min 16 (Ay ns).length:=Dz.Sz _ _ 16;rw[this,Dz.ZT];simp[Ay];lia
 refine⟨3::4::l,by simp;lia,?_⟩;have DC:By (Z (pu (.int 3)) (Z (pu (.int 4)) A1)) ρ h=.ok (.ref h.length,h++[⟨.lst,[.int 3,.int 4]⟩]):=rfl;have s1:D5 (I 0) (CE (pu (.int 16))) (pu none) ρ (h++[⟨.lst,[.int 3,.int 4]⟩])=.ok (.ref (h.length+1),h++[⟨.lst,[.int 3,.int 4]⟩]++[⟨.lst,Ay l⟩]):=by rw[Mi,v_var,h0,Ci,A3,Vy,A3,Bw,A3];unfold Lu;simp only[ZY,el];rw[H_ _ (by simp[Ay,B0];lia)];simp
 have a1:=NR (h:=h++[⟨.lst,[.int 3,.int 4]⟩]++[⟨.lst,Ay l⟩]) (i:=h.length) (j:=h.length+1) (a:=[.int 3,.int 4]) (b:=Ay l) (by simp) (by simp) (by simp[Ay,B0];lia);have m:Bb (A0 addW (By (Z (pu (.int 3)) (Z (pu (.int 4)) A1))) (D5 (I 0) (CE (pu (.int 16))) (pu none))) ρ h=.ok (.ref h.length,h++[⟨.lst,Ay (3::4::l)⟩]):=by rw[FO,Bg,DC,A3,s1,A3,a1,A3];exact JQ (ws:=Ay (3::4::l)) h _ (Kj (Ha (Ha (G4 _ _) _) _)) (by simp) (by simp[Ay]) (VY _)
 exact Mu (ws:=Ay (3::4::l)) (by simp) m
def rP{ns:List Int}(AG:ns.length<=63):∃(cs:List Nat)(ws:List (Ad×Ad))(po Cd:Nat)(A B:List (List Cu))(H:A5),(1<=cs.length/\cs.length<=6)/\K3 cs ws/\(∃NB∈D2 cs cs.length,NB∉ends ws)/\HR cs A/\HR cs B/\2<=H.length/\H[0]?=some ⟨.lst,Br cs⟩/\H[1]?=some ⟨.lst,ws.map CA⟩/\EX H po A/\EX H Cd B/\RC [.DV (Ay ns)] []=.ok (.tup [.ref 0,.ref 1,.ref po,.ref Cd],H):=by
 obtain⟨Bu,fp⟩:∃Bu:A5,Bu=[]:=⟨_,rfl⟩;rw[<-fp];have Ko:Bu.length=0:=by rw[fp];rfl
 obtain⟨cell,ec⟩:=gs Bu ns 0;have ec:Lo [.DV (Ay ns),.int 0] Bu=.ok (.int cell,Bu):=ec;obtain⟨cs,⟨Bk,Uz⟩,FI,em⟩:=sh cell;have em:=em Bu;obtain⟨H1,fq⟩:∃H1:A5,H1=Bu++[⟨.lst,Br cs⟩]:=⟨_,rfl⟩;rw[<-fq,Ko]at em;have CH:H1.length=1:=by rw[fq];simp[Ko]
 have FP:H1[0]?=some ⟨.lst,Br cs⟩:=by rw[fq];have:=HH Bu [⟨.lst,Br cs⟩];rw[Ko]at this;exact this
 obtain⟨ws,N,hd,Cp⟩:=af5 cell cs Bk Uz FI FP;obtain⟨AS,XS⟩:∃AS:A5,AS=H1++[⟨.lst,ws.map CA⟩]:=⟨_,rfl⟩;rw[<-XS,CH]at Cp;have B6:AS.length=2:=by rw[XS];simp[CH]
 have Eg:AS[1]?=some ⟨.lst,ws.map CA⟩:=by rw[XS];have:=HH H1 [⟨.lst,ws.map CA⟩];rw[CH]at this;exact this
 have pS:AS[0]?=some ⟨.lst,Br cs⟩:=by rw[XS];exact Ch H1 FP _
 obtain⟨po,Cd,g,A,B,KQ,JL,MN,O4,BF⟩:=rl AG Bk Uz FI pS;refine⟨cs,ws,po,Cd,A,B,AS++g,⟨Bk,Uz⟩,N,hd,KQ,JL,by rw[Ej];lia,Ch _ pS _,Ch _ Eg _,MN,O4,?_⟩;have CC:RC [.DV (Ay ns)] Bu=(Xo [some (.DV (Ay ns)),none,none,none,none,none] Bu).bind outF:=rfl;rw[CC];unfold Xo;have t1:Ac (Ah 2 Lo (Z (I 0) (Z (pu (.int 0)) A1))) (AD 1) [some (.DV (Ay ns)),none,none,none,none,none] Bu=.ok (.AR [some (.DV (Ay ns)),some (.int cell),none,none,none,none],Bu):=by simp[ec]
 have Cb:Ac (Ah 1 TQ (Z (I 1) A1)) (AD 2) [some (.DV (Ay ns)),some (.int cell),none,none,none,none] Bu=.ok (.AR [some (.DV (Ay ns)),some (.int cell),some (.ref 0),none,none,none],H1):=by simp[em]
 have t3:Ac (Ah 2 P3 (Z (I 1) (Z (I 2) A1))) (AD 3) [some (.DV (Ay ns)),some (.int cell),some (.ref 0),none,none,none] H1=.ok (.AR [some (.DV (Ay ns)),some (.int cell),some (.ref 0),some (.ref 1),none,none],AS):=by simp[Cp]
 have Me:Oz (Ah 2 VM (Z (I 0) (Z (I 2) A1))) (Fs [(AD 4),(AD 5)]) [some (.DV (Ay ns)),some (.int cell),some (.ref 0),some (.ref 1),none,none] AS=.ok (.AR [some (.DV (Ay ns)),some (.int cell),some (.ref 0),some (.ref 1),some (.ref po),some (.ref Cd)],AS++g):=by simp[BF]
 rw[B4,t1,A3,BA,B4,Cb,A3,BA,B4,t3,A3,BA,B4,Me,A3,BA];rfl
def yp{ns:List Int}(AG:ns.length<=63):Ends (kb [.DV (Ay ns)] []) λw _=>w=.AL true:=by
 obtain⟨cs,ws,po,Cd,A,B,Bx,⟨Bk,Uz⟩,N,⟨NB,vi,vj⟩,KQ,JL,agp,pT,pU,MN,O4,BY⟩:=rP AG;have kL:=KQ.1;have Vm:=JL.1;obtain⟨O,iO⟩:∃O,O=(D2 cs cs.length).filter λd=>(EM ws d).isNone:=⟨_,rfl⟩;have GH:=aaf N pT pU;rw[<-iO]at GH;obtain⟨C2,ai⟩:∃C2,C2=Bx.length:=⟨_,rfl⟩;obtain⟨Cy,XT⟩:∃Cy:A5,Cy=Bx++[⟨.lst,O.map Aa⟩]:=⟨_,rfl⟩;rw[<-XT,<-ai]at GH;have C0:Cy.length=C2+1:=by rw[XT,ai];simp
 have dS:Bx<+: Cy:=by rw[XT];exact G4 _ _
 have W9:Cy[C2]?=some ⟨.lst,O.map Aa⟩:=by rw[XT,ai,HH];rfl
 obtain⟨l,Ec,es⟩:=ae0 (ns:=ns) (ρ:=HS ns (some (.ref 0)) (some (.ref 1)) (some (.ref po)) (some (.ref Cd)) (some (.ref C2)) none none none) (h:=Cy) rfl;obtain⟨ps,P,R2,An⟩:=abV (l:=l) (by lia) Uz (h:=Cy++[⟨.lst,Ay l⟩]) (a:=Cy.length) (by rw[HH];rfl);obtain⟨Dq,XU⟩:∃Dq:A5,Dq=Cy++[⟨.lst,ps.map Ax⟩]:=⟨_,rfl⟩;obtain⟨pp,aj⟩:∃pp,pp=Cy.length:=⟨_,rfl⟩;have pV:=FM dS pT;have pW:=FM dS pU;have lc:BO [.ref 0] (Cy++[⟨.lst,Ay l⟩])=.ok (.int (cs.length:Int),Cy++[⟨.lst,Ay l⟩]):=by rw[GL (Ch _ pV _)];simp[Br]
 have uJ:Bb (Ah 2 RH (Z (Bb (D5 (I 0) (CE (pu (.int 10))) (CE (pu (.int 18))))) (Z (Az BO (Z (I 1) A1)) A1))) (HS ns (some (.ref 0)) (some (.ref 1)) (some (.ref po)) (some (.ref Cd)) (some (.ref C2)) none none none) Cy=.ok (.ref pp,Dq):=by
  have v1:∀h',I 1 (HS ns (some (.ref 0)) (some (.ref 1)) (some (.ref po)) (some (.ref Cd)) (some (.ref C2)) none none none) h'=.ok (.ref 0,h'):=λ_=>rfl;have f_:Z (Bb (D5 (I 0) (CE (pu (.int 10))) (CE (pu (.int 18))))) (Z (Az BO (Z (I 1) A1)) A1) (HS ns (some (.ref 0)) (some (.ref 1)) (some (.ref po)) (some (.ref Cd)) (some (.ref C2)) none none none) Cy=.ok ([.ref Cy.length,.int (cs.length:Int)],Cy++[⟨.lst,Ay l⟩]):=by rw[CM,es,A3,CM,G1,CM,v1,A3,Ce,A3,A3,lc,A3,Ce,A3,A3]
  have q:=JA (mf:=RH) (k:=2) f_ rfl An;rw[FO,q,A3,aj,XU];exact JQ (ws:=ps.map Ax) Cy _ (Kj (Ha (G4 _ _) _)) (by simp) (by simp) (HK _ _ L8)
 have rp:Dq.length=pp+1:=by rw[XU,aj];simp
 have V9:Cy<+: Dq:=by rw[XU];exact G4 _ _
 have WA:Dq[pp]?=some ⟨.lst,ps.map Ax⟩:=by rw[XU,aj,HH];rfl
 have Vl:=P.l;have nm:=k8 N (h:=Dq) (a:=0) (b:=1) (FM V9 pV) (FM V9 pW);obtain⟨II,UA⟩:∃II:A5,II=Dq++[MV cs ws (Dq.length+1),HG ws]:=⟨_,rfl⟩;rw[<-UA]at nm;have rq:II.length=pp+3:=by rw[UA];simp[rp]
 have dT:Dq<+: II:=by rw[UA];exact G4 _ _
 have k3:Fk [.ref pp] II=.ok (.ref II.length,II++[⟨.lst,ps.map Ax⟩]):=
  Vp (IB _ (FM dT WA)) (by rw[CS];unfold B0;lia)
 obtain⟨DZ,XV⟩:∃DZ:A5,DZ=II++[⟨.lst,ps.map Ax⟩]:=⟨_,rfl⟩;rw[<-XV]at k3;have agq:DZ.length=pp+4:=by rw[XV];simp[rq]
 have a0:II<+: DZ:=by rw[XV];exact G4 _ _
 have agZ:DZ[II.length]?=some ⟨.lst,ps.map Ax⟩:=by rw[XV,HH];rfl
 have XO:J7 DZ Dq.length cs ws:=by
  refine⟨Dq.length+1,FM a0 ?_,FM a0 ?_⟩
  .rw[UA,HH];rfl
  .rw[UA,Q1];rfl
 have aah:Bx<+: DZ:=dS.trans (V9.trans (dT.trans a0));have bE:∀{b:Nat}{X:List (List Cu)},EX Bx b X->EX DZ b X:=λx=>by obtain⟨r,B5⟩:=aah;rw[<-B5];exact x.more _
 have d0:=acj N KQ JL P XO (bE MN) (bE O4) agZ;obtain⟨GX,XW⟩:∃GX,GX=JP DZ cs ws A B ps:=⟨_,rfl⟩;have d0:R8 [.ref DZ.length,.ref Dq.length,.ref po,.ref Cd,.ref II.length] (DZ++[⟨.ins "Run" [],[]⟩])=.ok (.non,GX):=by rw[XW];exact d0
 obtain⟨Na,RW⟩:∃ρ,ρ=HS ns (some (.ref 0)) (some (.ref 1)) (some (.ref po)) (some (.ref Cd)) (some (.ref C2)) (some (.ref pp)) none none:=⟨_,rfl⟩;have mk:Ic "Run" 4 R8 (Z (Ic "Net" 2 Np (Z (I 1) (Z (I 2) A1))) (Z (I 3) (Z (I 4) (Z (Az Fk (Z (I 6) A1)) A1)))) Na Dq=.ok (.ref DZ.length,GX):=by
  have v1:∀h',I 1 Na h'=.ok (.ref 0,h'):=by rw[RW];exact λ_=>rfl
  have v2:∀h',I 2 Na h'=.ok (.ref 1,h'):=by rw[RW];exact λ_=>rfl
  have WX:∀h',I 3 Na h'=.ok (.ref po,h'):=by rw[RW];exact λ_=>rfl
  have v4:∀h',I 4 Na h'=.ok (.ref Cd,h'):=by rw[RW];exact λ_=>rfl
  have v6:∀h',I 6 Na h'=.ok (.ref pp,h'):=by rw[RW];exact λ_=>rfl
  have aaI:Ic "Net" 2 Np (Z (I 1) (Z (I 2) A1)) Na Dq=.ok (.ref Dq.length,II):=by refine Yl (us:=[.ref 0,.ref 1]) (h1:=Dq) ?_ rfl nm;rw[CM,v1,A3,CM,v2,A3,Ce,A3,A3]
  refine Yl (us:=[.ref Dq.length,.ref po,.ref Cd,.ref II.length]) (h1:=DZ) ?_ rfl d0;rw[CM,aaI,A3,CM,WX,A3,CM,v4,A3,CM,G1,CM,v6,A3,Ce,A3,A3,k3,A3,Ce,A3,A3,A3,A3]
 have g6:GX.length=DZ.length+8+A.length+B.length+3:=by rw[XW];exact ad9 DZ
 have ag_:∀n,n<DZ.length->GX[n]?=DZ[n]?:=λn AV=>by rw[XW];exact adA DZ AV
 have I4:∀n,DZ.length<=n->GX[n]?=(JP DZ cs ws A B ps)[n]?:=λn _=>by rw[XW]
 have c:=s_ g6 I4 N KQ JL P;obtain⟨C,Kv⟩:∃C,C=SG DZ cs ws A B ps GX:=⟨_,rfl⟩;rw[<-Kv]at c;have low:∀n,n<DZ.length->C.K[n]?=DZ[n]?:=λn AV=>by rw[Kv,g5 g6 I4 (by lia) (by lia),ag_ n AV]
 have ahI:C.M=DZ.length+8+A.length+B.length:=by rw[Kv];rfl
 have r4:C.T=C.M+8:=by rw[Kv];rfl
 have r5:C.r=DZ.length:=by rw[Kv];rfl
 have lo:∀{n o},Dq[n]?=some o->C.K[n]?=some o:=λ{n o} e=>by have q:=FM (dT.trans a0) e;rw[low n (FW q)];exact q
 have AL:∀{b:Nat}{X:List (List Cu)},EX Bx b X->EX C.K b X:=λx=>(bE x).to low;have iP:C.ps=ps:=by rw[Kv];rfl
 have k:PT C ⟨1,po,Cd,pp⟩ C2:=by
  refine⟨⟨?_,?_,?_,?_,by lia⟩,?_,?_⟩
  .have:C.ws=ws:=by rw[Kv];rfl
   rw[this];exact lo (FM V9 pW)
  .have:C.A=A:=by rw[Kv];rfl
   rw[this];exact AL MN
  .have:C.B=B:=by rw[Kv];rfl
   rw[this];exact AL O4
  .rw[iP];exact lo WA
  .have V5:outD C=O:=by rw[Kv,iO];rfl
   rw[V5];exact lo (FM V9 W9)
  .have TY:NB∈outD C:=by
     refine ki.mpr ⟨by rw[Kv];exact vi,?_⟩;have:C.ws=ws:=by rw[Kv];rfl
     rw[this];cases q:EM ws NB with
     |none=>rfl
     |some x=>exact absurd (bB q).1 vj
   exact λz=>by rw[z]at TY;cases TY
 have hU:=rg GX 1 po Cd pp;have XJ:GX.length=C.M+3:=by lia
 obtain⟨E1,XX⟩:∃E1:A5,E1=GX++[⟨.Aj OX,[.ref 1,.ref (GX.length+1),.ref pp,.int 0,.ref (GX.length+2),.int 0,.ref (GX.length+3)]⟩,⟨.lst,[.ref po,.ref Cd]⟩,⟨.Aj [],[]⟩,⟨.lst,[]⟩]:=⟨_,rfl⟩;rw[<-XX]at hU;have rr:E1.length=C.M+7:=by rw[XX];simp[XJ]
 obtain⟨cells,lcs,ec⟩:=sV AG (ρ:=DN ns C 0 1 po Cd C2 pp none none none none) (h:=E1) rfl;have Yt:∀i o,([⟨.Aj OX,[.ref 1,.ref (GX.length+1),.ref pp,.int 0,.ref (GX.length+2),.int 0,.ref (GX.length+3)]⟩,⟨.lst,[.ref po,.ref Cd]⟩,⟨.Aj [],[]⟩,⟨.lst,[]⟩]:A5)[i]?=some o->(E1++[⟨.lst,Ay cells⟩])[C.M+3+i]?=some o:=λi o e=>by refine Ch _ ?_ _;rw[XX,<-XJ,Q1];exact e
 have gT:EK C (E1++[⟨.lst,Ay cells⟩]) ⟨[],0,[],[],0⟩:=by rw[XX,F6,Kv];exact aci g6 I4 _ (by simp)
 have r8:GW C ⟨1,po,Cd,pp⟩ (E1++[⟨.lst,Ay cells⟩]) ⟨[],0,[],[],0⟩ (λ_=>0):=by
  refine⟨gT,⟨gT.Bc,?_,?_,?_,?_,⟨[],?_,by simp⟩,(λ_ x=>by cases x),(λ_ x=>by cases x),Rs,(λ_ x=>by cases x),(λ_ x=>by cases x),by decide,?_,(λ_ x=>by cases x)⟩,(λ_ x=>by cases x)⟩
  .exact⟨ID _,by simp⟩
  .have:=Yt 0 _ rfl;rw[XJ]at this;exact this
  .exact Yt 1 _ rfl
  .exact Yt 2 _ rfl
  .exact Yt 3 _ rfl
  .rw[Ej,rr,r4];simp
 have dl:=sK (x1:=0) (x2:=1) (x3:=po) (x4:=Cd) (x6:=pp) k c lcs (p:=E1.length) (by lia) (by lia) r8 rfl rfl (by rw[HH];rfl) ec;obtain⟨Du,hz,Hk,Cf,Db,CP,Di,rfl,Gi,sc,ae3⟩:=dl;have Im:=acZ (ns:=ns) (x1:=0) (x2:=1) (x3:=po) (x4:=Cd) (x6:=pp) k c Gi sc ae3 (by rw[iP];exact lo WA) CP Di none none;obtain⟨Du,AP,DP,rfl⟩:=Im;have DQ:DN ns C 0 1 po Cd C2 pp none none none none=HS ns (some (.ref 0)) (some (.ref 1)) (some (.ref po)) (some (.ref Cd)) (some (.ref C2)) (some (.ref pp)) (some (.ref DZ.length)) (some (.ref (C.M+3))):=by unfold DN HS;rw[r5]
 rw[DQ]at Hk;have t1:Oz (Ah 1 RC (Z (I 0) A1)) (Fs [(AD 1),(AD 2),(AD 3),(AD 4)]) (HS ns none none none none none none none none) []=.ok (.AR (HS ns (some (.ref 0)) (some (.ref 1)) (some (.ref po)) (some (.ref Cd)) none none none none),Bx):=by have q:Ah 1 RC (Z (I 0) A1) (HS ns none none none none none none none none) []=.ok (.tup [.ref 0,.ref 1,.ref po,.ref Cd],Bx):=JA (us:=[.DV (Ay ns)]) (h1:=[]) rfl rfl BY;obtain⟨ρ,DQ⟩:∃ρ,ρ=HS ns none none none none none none none none:=⟨_,rfl⟩;rw[<-DQ]at q |-;simp only[q4,q,A3];rw[DQ];rfl
 have Cb:Ac (Ah 2 TX (Z (I 1) (Z (I 2) A1))) (AD 5) (HS ns (some (.ref 0)) (some (.ref 1)) (some (.ref po)) (some (.ref Cd)) none none none none) Bx=.ok (.AR (HS ns (some (.ref 0)) (some (.ref 1)) (some (.ref po)) (some (.ref Cd)) (some (.ref C2)) none none none),Cy):=by simp[HS,GH]
 have t3:∀{m:B3},m (HS ns (some (.ref 0)) (some (.ref 1)) (some (.ref po)) (some (.ref Cd)) (some (.ref C2)) none none none) Cy=.ok (.ref pp,Dq)->Ac m (AD 6) (HS ns (some (.ref 0)) (some (.ref 1)) (some (.ref po)) (some (.ref Cd)) (some (.ref C2)) none none none) Cy=.ok (.AR Na,Dq):=λ{m} q=>by rw[Do,q,RW];rfl
 have di:∀{m:B3},m Na Dq=.ok (.ref DZ.length,GX)->Ac m (AD 7) Na Dq=.ok (.AR (HS ns (some (.ref 0)) (some (.ref 1)) (some (.ref po)) (some (.ref Cd)) (some (.ref C2)) (some (.ref pp)) (some (.ref DZ.length)) none),GX):=λ{m} q=>by rw[Do,q,RW];rfl
 have Me:Ac (Ah 4 RD (Z (I 2) (Z (I 3) (Z (I 4) (Z (I 6) A1))))) (AD 8) (HS ns (some (.ref 0)) (some (.ref 1)) (some (.ref po)) (some (.ref Cd)) (some (.ref C2)) (some (.ref pp)) (some (.ref DZ.length)) none) GX=.ok (.AR (HS ns (some (.ref 0)) (some (.ref 1)) (some (.ref po)) (some (.ref Cd)) (some (.ref C2)) (some (.ref pp)) (some (.ref DZ.length)) (some (.ref (C.M+3)))),E1):=by have q:Ah 4 RD (Z (I 2) (Z (I 3) (Z (I 4) (Z (I 6) A1)))) (HS ns (some (.ref 0)) (some (.ref 1)) (some (.ref po)) (some (.ref Cd)) (some (.ref C2)) (some (.ref pp)) (some (.ref DZ.length)) none) GX=_:=JA (us:=[.ref 1,.ref po,.ref Cd,.ref pp]) (h1:=GX) rfl rfl hU;rw[Do,q,XJ];rfl
 have CC:kb [.DV (Ay ns)] []=(RN (HS ns none none none none none none none none) []).bind outF:=rfl;rw[CC]
 have BF:RN=(AQ (Oz (Ah 1 RC (Z (I 0) A1)) (Fs [(AD 1),(AD 2),(AD 3),(AD 4)]))
  (AQ (Ac (Ah 2 TX (Z (I 1) (Z (I 2) A1))) (AD 5))
  (AQ (Ac (Bb (Ah 2 RH (Z (Bb (D5 (I 0) (CE (pu (.int 10))) (CE (pu (.int 18))))) (Z (Az BO (Z (I 1) A1)) A1)))) (AD 6))
  (AQ (Ac (Ic "Run" 4 R8 (Z (Ic "Net" 2 Np (Z (I 1) (Z (I 2) A1))) (Z (I 3) (Z (I 4) (Z (Az Fk (Z (I 6) A1)) A1))))) (AD 7))
  (AQ (Ac (Ah 4 RD (Z (I 2) (Z (I 3) (Z (I 4) (Z (I 6) A1))))) (AD 8))
  (AQ (F2 (E8 (Bb (A0 addW (By (Z (pu (.int 3)) (Z (pu (.int 4)) A1))) (D5 (I 0) (CE (pu (.int 16))) (pu none))))) (AD 9) Vs)
  (AQ (F2 (Dc (Z (Az BO (Z (I 6) A1)) A1)) (AD 11) WL) (B2 (A0 (Au true) (C_ "Run" "place" 0 IP (I 7) A1) (A0 AA (I 8) (pu (.str (AJ "done"))))))))))))):=rfl
 rw[BF,B4,t1,A3,BA,B4,Cb,A3,BA,B4,t3 uJ,A3,BA,B4,di mk,A3,BA,B4,Me,A3,BA,B4,Hk,A3,BA,DP];exact⟨_,_,rfl,rfl⟩
def adv{P:C5}{w:Bo}{K:Aq}{mg:Str->Option A6}{f:A4}{GD Cm IL pm cd DA:A6}{Dy an:Option A4}{Bn:Array (Option A6)}(T:DU K mg)(a:J2 K FG "law"=some (some (.ref f)))(l:K.lookup f=some ⟨GD,Dy,.func (K0 "law" "law" (Ld Js) (KD Js) (Bs Js) .none Cm IL pm an cd DA),Bn⟩)(c:N4 K cd "law"=true)(k:Jz K (.ref f)=true) :
  (∃(f:A4)(GD:A6)(Dy an:Option A4)(Cm IL pm cd DA:A6)(Bn:Array (Option A6)),J2 K FG "law"=some (some (.ref f))/\K.lookup f=some ⟨GD,Dy,.func (K0 "law" "law" (Ld Js) (KD Js) (Bs Js) .none Cm IL pm an cd DA),Bn⟩/\N4 K cd "law"=true/\Jz K (.ref f)=true)/\∀base:B8,CD P w K mg base "law" Js ["_law_script","_law_counts_here","_law_wires_here","_law_old","_law_new","_law_outer_here","_law_plan_here","_law_run","_law_state","_law_cell","_law_deed","_law_k","_law_number"] 10 RN:=
 ⟨⟨f,GD,Dy,an,Cm,IL,pm,cd,DA,Bn,a,l,c,k⟩,λbase=>rG _ _ base T⟩
def af1{l:eQ}{q:C5}{loose:List Str}{Kt:(Str->Option A6)->B8->Prop}{MJ:Bo->B8->Prop}{d:DefRec}{K:Params->Aq}(AV:l.most=some 63)(Rg:d.params.defaults=[])(hd:d.name="law")(Ub:∀(w:Bo)(h:B8),MJ w h->(K w.params).In h)(T:∀(w:Bo)(mg:Str->Option A6)(h:B8),(K w.params).In h->h.Ns FG mg->(∃(f:A4)(GD:A6)(Dy an:Option A4)(Cm IL pm cd DA:A6)(Bn:Array (Option A6)),J2 (K w.params) FG "law"=some (some (.ref f))/\(K w.params).lookup f=some ⟨GD,Dy,.func (K0 "law" "law" (Ld Js) (KD Js) (Bs Js) .none Cm IL pm an cd DA),Bn⟩/\N4 (K w.params) cd "law"=true/\Jz (K w.params) (.ref f)=true)/\∀base:B8,CD l.prog w (K w.params) mg base "law" Js ["_law_script","_law_counts_here","_law_wires_here","_law_old","_law_new","_law_outer_here","_law_plan_here","_law_run","_law_state","_law_cell","_law_deed","_law_k","_law_number"] 10 RN) :
  ew q loose Kt MJ l.row.toRowW d [] (λf vs=>XF f vs):=
 af0 (st:=Js) (x:="law") (k:=10) (m:=RN) AV Rg ⟨rfl,by decide,by decide⟩ n4 hd Ub T λns AG=>yp AG
end FU
end
namespace PySem.W.Fast
def tw7061620414944825947:=0
def tw5603168208924078367:=0
def tw16633546983646346274:=0
def tw5105767809415456473:=0
def tw4482306945098148834:=0
def tw12774096901953080634:=0
def tw14869794876730038430:=0
def tw5361501456244064873:=0
def tw3515520463163499991:=0
def tw18338959715539584287:=0
def tw1460771428510608571:=0
def tw12585352700348483278:=0
def tw9679612264106461586:=0
def tw4951501040118037597:=0
def tw6568774695317487663:=0
def tw17981002457323300781:=0
def tw8417874420331253726:=0
def tw13855167969812219226:=0
def tw16907047627612629192:=0
def tw10473515295220383828:=0
def tw2980216758420630697:=0
def tw6111593578499872538:=0
def tw16811818379538442559:=0
def tw12501821219243954265:=0
def tw17921411840742452463:=0
def tw5709897188786642061:=0
def tw2961618970842826542:=0
def tw15082498340679371286:=0
def tw3330457483785726763:=0
def tw12993557398861110028:=0
def tw16164387635960568837:=0
def tw8428863164223335644:=0
def tw17429653890779750405:=0
def tw18305860953660720859:=0
def tw10975818633963079373:=0
def tw14626442759670045695:=0
def tw16013018303446528909:=0
def tw13322875778004469305:=0
def tw3155062995922880348:=0
def tw17124351735676955846:=0
def tw15385438553504223685:=0
def tw14112185607093055390:=0
def tw11942460510382359480:=0
def tw4621302112928564540:=0
def tw14382051006181377424:=0
def tw2983502108170094163:=0
def tw6930288988228230797:=0
def tw1812075900496424456:=0
def tw10221532519374058771:=0
def tw2636575720455696120:=0
def tw11129602524379040045:=0
def tw11558023703485417490:=0
def tw5762707810529483311:=0
def tw12638576937034264428:=0
def tw5662260866894809945:=0
def tw122634189860342812:=0
def tw8284729641246685324:=0
def tw12995444777028524745:=0
def tw6466396048106182452:=0
def tw4600909012356634037:=0
def tw9139143736928037814:=0
def tw2632660945771278762:=0
def tw16807235563133684499:=0
def tw6441308144253664838:=0
def tw2396945085457426515:=0
def tw15120950258064159158:=0
def tw11572942553944750942:=0
def tw639056277170267213:=0
def tw1149068664563211308:=0
def tw519377957677318482:=0
def tw11736625845739317704:=0
def tw8853372002467175626:=0
def tw5902219302316147453:=0
def tw5427644989540986432:=0
def tw11447307234689204575:=0
def tw1614535859907976645:=0
def tw2680896591797623201:=0
def tw884880805993470503:=0
def tw3400942132116266966:=0
def tw17235272089163916866:=0
def tw2481224689940107589:=0
def tw15042914112896206870:=0
def tw10020535285469064092:=0
def tw4773153405595320533:=0
def tw1217173605980309176:=0
def tw8385463667832441943:=0
def tw3957075268322972418:=0
def tw3234727913507424959:=0
def tw15727968585151987085:=0
def tw16757693828784695419:=0
def tw18049352631365835421:=0
def tw11005113760977838712:=0
def tw7010303218594533646:=0
def tw1656686817505087775:=0
def tw3195327740509786729:=0
def tw18380100505544685861:=0
def tw11137885288719815261:=0
def tw8581255068690374647:=0
def tw15318132301592018831:=0
def tw9779253514369740560:=0
def tw9713530477805727722:=0
def tw529486715540508171:=0
def tw8864964901764361278:=0
def tw1763516466595821011:=0
def tw12690855801272554754:=0
def tw9138544848893068554:=0
def tw14246184942781743366:=0
def tw7445686332943783375:=0
def tw6251013786904607567:=0
def tw12743496388580855432:=0
def tw578567784268960177:=0
def tw4920914061421034143:=0
def tw3937031008238958507:=0
def tw4536624491092980232:=0
def tw11226772658883278106:=0
def tw4847402955893123507:=0
def tw16223827016073128330:=0
def tw12631792514513252896:=0
def tw5872381246398954816:=0
def tw12441377187675569026:=0
def tw9920732930786805302:=0
end PySem.W.Fast
open PySem PySem.W PyProof.Rows B6 C0 FU
set_option maxRecDepth 100000 in
set_option maxHeartbeats 0 in
theorem PySem.Challenge.cw_nohalfway_k32_steps_and_waits_holds : PySem.Challenge.rw_nohalfway_k32_steps_and_waits.Holds := by
 w_on;o_law;k_head;(case hw=>w_witness2)
 k_fill
 refine FU.af1 (l:=PySem.Challenge.rw_nohalfway_k32_steps_and_waits) rfl rfl rfl (λw h Y=>PySem.W.kIn_of Y) ?T
 case T=>
  intro w mg h Hy G
  refine' FU.adv ?T ?ya ?yl ?yc ?yk
  (case T=>constructor<;>first
    |(refine' C0.uk Hy G ?a ?l ?c ?k;(case a=>k_is);(case l=>k_is);(case c=>k_is);(case k=>k_is))
    |(refine' C0.aaH ?n ?g1 ?g2 ?g3 ?g4 ?a ?l ?c ?k ?i;(case n=>k_is);(case g1=>k_is);(case g2=>k_is);(case g3=>k_is);(case g4=>k_is);(case a=>k_is);(case l=>k_is);(case c=>k_is);(case k=>k_is);(case i=>k_is))
    |(refine' C0.aaD Hy G ?n ?mk ?kc ?a ?l ?c ?k ?i;(case n=>k_is);(case mk=>k_is);(case kc=>k_is);(case a=>k_is);(case l=>k_is);(case c=>k_is);(case k=>k_is);(case i=>k_is))
    |(refine' C0.sX ?n ?g1 ?g2 ?g3 ?g4 ?u;(case n=>k_is);(case g1=>k_is);(case g2=>k_is);(case g3=>k_is);(case g4=>k_is);(case u=>(repeat' first|exact λ_ h=>absurd h Ka|refine qy.2 ⟨?_,?_⟩|k_is)))
    |(refine' C0.tY Hy G ?n ?e;(case n=>k_is);(case e=>k_exc))
    |(refine' C0.adj Hy G ?n ?u;(case n=>k_is);(case u=>(repeat' first|exact λ_ h=>absurd h Ka|refine qy.2 ⟨?_,?_⟩|(refine' C0.adi ?va ?vb;(case va=>k_is);(case vb=>kts_exm)))))
    |(refine' C0.sZ Hy G ?z;(case z=>k_is))
    |(refine' PySem.W.mg_none_of Hy G ?a;(case a=>k_is))
    |(refine' C0.sj Hy G ?z ?y ?hz ?e;(case z=>k_is);(case y=>k_is);(case hz=>exact qN rfl);(case e=>rfl)))
  case ya|yl|yc|yk=>k_is
