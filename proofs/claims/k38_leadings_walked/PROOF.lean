import PyProof.Rows.All
import PyProof.DictRoadsH
import Wide.All
import OpenK.AllK
import Wide.FinOn
import Lean
import PyProof.EqAt
import PyProof.EqKinds
import PyProof.TupleCall
import PyProof.NeKinds
import KE.KIsAll
import PyProof.ExcArgsOwn
import PySem.SetOps
import PyProof.TupleKey
import PyProof.SetKind
import PyProof.IsRules
import PyProof.Rows.SetFrom
import PyProof.Rows.SortShellK
import PyProof.DictKinds
import PyProof.FactsAll.tuple_2
import PyProof.SetRoads
import PyProof.AutoListH
import PyProof.SumAny
import PyProof.DictItems
import PyProof.DictItemsLoops
import PyProof.DictWalks
import PyProof.CollectWalk
import PyProof.Rows.SortWalk
import PyProof.Rows.SortKeyStr
import PyProof.Rows.TupDisplay
import KE.RegKIsAll
import KE.RegKTryMore
import PySem.Challenge.RW_nohalfway_k38_leadings_walked
set_option bootstrap.genMatcherCode false
set_option genSizeOf false
set_option compiler.extract_closed false
open PySem renaming wpAny_bind -> AL, wpAny_pure -> Ay, Value -> A7, Shared -> AP, starEach -> BF, Addr -> A8, wpAny -> Ad, sizeLine -> CD, Program -> Bx, model -> B2, Expr -> AU, mainGlobals -> FG, Around -> CK, wpAny_newObj_type -> JL, wpAny_call_entry -> Iu, World -> Bj, wpAny_callSpecial?_slot -> Mv, attributeBase -> Hw, backTo -> D4, wpAny_truthy_bool -> LM, keywordEach -> H3, behindInMarks -> Ir, mem_of_lookup -> Ms, wpAny_field -> Hf, compareOp -> GE, wpAny_holding -> K2, Heap -> BI, sysModules -> He, eval -> BJ, FuncData -> GF, cellsFrom -> Hh, wpAny_mono -> Iv, foldedSetIterable -> PM, Keyword -> FP, wpAny_seqItems -> Mz, bootBuiltins -> LY, wpAny_typeNameOfWhole_itemiter -> Ws, Stmt -> Be, backToKw -> H5, wpAny_typeNameOfWhole_keyiter -> Wo, cLine -> DS, wpAny_dictEntries -> Qo, strIterType -> LV, wpAny_rule -> Kb, wpAny_isInstance -> Qr, wpAny_setField_rec -> Sc, sizeLine_eq -> ME, assignEach -> LU, wpAny_passesOwn -> Qt, wpAny_typeNameOf_keyiter -> Wy, Scope -> E8, binaryOp -> JM, wpAny_Call_Name_kw -> UP, wpAny_notOrdered_dict -> X3, wpAny_specialOf -> Sk, wpAny_dictEpoch -> Sg, wpAny_attempt -> Qw, DictEntry -> MG, wpAny_setField -> Sh, firstArgMember -> Si, IsPair -> Gd, NameKind -> Ke, wpAny_isOneOf_itemiter -> f9, entryOfKey -> PN, holding -> K6, sliceBounds -> R5, wpAny_Call_method -> XD, isSubtype_tuple_tuple -> fP, swapsWith -> O6, wpAny_eqBool_str -> XF, wpAny_forIn_list -> XG, wpAny_updateSeq_pair -> fI, typeIs_str -> R2, wpAny_execs_nil -> X8, letOwnedTupleGo -> X9, getMethod -> PS, call_meetsIn -> UR, wpAny_tupleItemsOf -> fF, pyNext -> JN, wpAny_typeOf -> UT, Builtin -> MH, relabel -> MI, wpAny_fieldsOf -> XO, wpAny_pyIter_slot -> fk, standAt -> N2, wpAny_onRaise -> XP, wpAny_eqBool_int -> fX, assign -> Kf, rawInt -> Kg, noFill_tuple_add -> fZ, codeAny -> OA, codeAny_mono -> XK, seqIndex? -> So, callWith -> R7, typeIs_int -> UV, call_meets -> UW, carriedByValue -> fv, newFunctionEnv -> fy, wpAny_newTuple -> g0, isSubtype_stop -> g5, storedH -> PT, getItem -> PU, subscripted -> XU, notedBy -> PV, IsZip -> Ix, wpAny_letGo -> XV, KeyKind -> g7, bindArgs -> Sr, valueAt -> R8, callerA -> R9, Within -> fp, IsPart -> OC, atKey -> Kh, CmpOp -> Ki
open PySem.W renaming Frag -> Aa, findIn -> K4, fnOf -> JH, keepIn -> LQ, emptyDict -> O0, kia_one -> My, nsIn -> MF, instObj -> PL, codeIn -> PI, plainGet -> Sj, hasDictIn -> UG, mg_of -> Qx, plainOver -> XC, methodCall_KW -> fQ, plainGet_of -> fM, isFn -> US, callWith_K -> fH, lookIn -> XN, methodObj -> ff, cellsFrom_some -> qc, takerIn -> fa, makesIn -> fb, OpenLaw -> fc, kitx_tuple -> r2, kitx_list -> qu, kitx_dict -> qv
open PySem.Str renaming ofString -> B_, ofString -> En
open PySem.Heap renaming get?_push_of_some -> DM, get?_push_size -> FE, lt_size -> De, get?_update_self -> PH, SameBut -> JG, size_push -> LW, get?_update_other -> X1
open List renaming getElem?_eq_getElem -> Dt, size_toArray -> Dy, getElem?_map -> EC, mem_append_left -> FZ, mem_append_right -> Fz, mem_cons_of_mem -> Fk, map_cons -> Du, replicate -> ES, getElem?_append_left -> IS, getD_eq_getElem?_getD -> JF, mem_of_getElem? -> Hd, length_map -> GN, length_cons -> H4, range -> EN, getElem?_cons_zero -> LR, length_append -> JK, getElem?_cons_succ -> MD, map_append -> Hy, zip_cons_cons -> K5, getElem?_append_right -> Nx, find?_cons -> IV, getElem?_replicate -> PG, not_mem_nil -> LN, map_map -> IU, mem_cons_self -> Mt, append_nil -> LO, length_nil -> LP, getElem_mem -> MC, append_assoc -> O1, take_add_one -> O2, mem_cons -> LX, replicate_succ -> Qu, getElem_of_mem -> Qv, length_replicate -> Se, all_eq_true -> PJ, getElem?_set_ne -> Sd, flatten_cons -> Qp, length_pos_of_mem -> UB, zipIdx_cons -> Qs, length_singleton -> U7, any_cons -> Ny, drop_eq_getElem_cons -> Wm, forIn_cons -> Qz, map_nil -> O5, getElem?_range -> UO, all_cons -> PP, getElem?_set_self -> X0, take_of_length_le -> X2, any_map -> PQ, length_eraseIdx_of_lt -> fA, length_take -> UI, lookup_cons -> UJ, any_eq_true -> UL, nil_append -> UM, zipIdx_nil -> UF, exists_of_findSome?_eq_some -> qI, lookup -> R3, length -> R4, eraseIdx_eq_take_drop_succ -> qV, range' -> R6, forIn_nil -> UU, all_map -> Sl, length_drop -> X4, eq_nil_of_length_eq_zero -> qM, dropLast_concat -> fJ, replicate_succ' -> fK, filterMap_cons -> fL, of_mem_zip -> XA, findSome?_cons -> fN, lookup_append -> fO, mem_map -> UZ, getElem?_zip_eq_some -> qj, mem_of_find?_eq_some -> qk, ext_getElem? -> fh, getElem?_set -> fi, zip_nil_left -> fl, pairwise_mergeSort -> qa, eraseIdx_cons_succ -> qb, map_take -> XJ, take_length -> f_, drop_eq_nil_of_le -> qd, drop_of_length_le -> qh, getElem?_toArray -> qZ, length_filter_le -> q_, drop_zero -> fz
open Nat renaming le_refl -> CY, lt_of_lt_of_le -> Hx, le_trans -> FF, ne_of_lt -> Fl, lt_irrefl -> K3, zero_le -> IT, lt_trans -> LZ, add_assoc -> Nz, ne_of_gt -> Mw, le_of_ble_eq_true -> Wu, le_add_right -> UK, le_of_lt -> Qy, le_succ -> U_, lt_succ_self -> fY, zero_add -> XH, sub_zero -> XI, le_of_eq -> fq, succ_mul -> fu
open Bool renaming false_ne_true -> Fy, and_eq_true -> Fj, false_eq_true -> Hg, eq_iff_iff -> JI, not_true -> PO, and_true -> Sf, not_eq_true' -> fj, not_false -> fw, and_false -> fx, true_and -> g9
open Option.some renaming inj -> Ey, injEq -> qw
open PySem.Value renaming ref -> DR, none -> GD, type -> O4, bool -> Sp, int -> XR, str -> XS
open List.Nodup renaming length_le_of_subset -> Mu
open Or renaming inr -> Cp, inl -> Dh
open PySem.Heap.SameBut renaming update -> LS
open PyProof.Rows renaming arrOf -> Bq, callWith_type1 -> Qm, wpS_bind -> Ev, envOfC -> Nw, SortedToK -> Gb, wpS_pure -> Gc, listItems_at -> PR, SortSt -> GO, IsTup -> Wt, SortKind -> L_, slot_tuple_getitem -> qU, pendingOf -> O7, wpS_forRange -> Sm, seqObj -> Iw, kindOf -> JO, pairsOf_size -> UY, AllBare -> O9, KK_mirror_equal -> fV, pairsOf_toList -> g6, mirror_perm -> XW, wpS_reverse -> XX, Call_ -> qs, failedOf -> Sq, Keyed -> K7, tuples' -> RA, envOfC -> OB
open PySem.Builtin.SmallTypes renaming nextOf -> PF, ownedTupleIsFree -> Wr, ownedTupleHandOut -> qJ
open PySem.Builtin.Tuple renaming tupleHashOf -> Qn, tupleExact -> Ww, tupleItemsOf -> qT
open PySem.NameKind renaming free -> JJ
open Int renaming toNat_natCast -> Mr, natCast_add -> R1, emod_lt_of_pos -> fe, emod_nonneg -> fW
open Option renaming bind_some -> Mx, getD_none -> X5, getD_some -> X6, isSome_map -> fg, map_some -> fU, isSome_some -> r1
open PySem.Builtin.Dict_items renaming ownsTuple -> UD, pairFromOwner -> qH
open Array renaming getElem?_eq_getElem -> UE, getElem?_toList -> UC, length_toList -> UN, forIn_toList -> fG, getElem?_eq_none -> qg
open ForInStep renaming yield -> O3
open PySem.F renaming slot_dict_itemiterator_next -> Wn, plainAttrs_list -> U9, slot_dict_keyiterator_next -> Wp, slot_tuple_iterator_next -> Wq, slot_dict_get -> U8, plainAttrs_dict -> Wz, args_tuple_add_2 -> fC, entry_tuple_add -> fE, args_dict_get_2 -> f6, slot_tuple_add -> f7, entry_dict_get -> f8, args_dict_itemiterator_next_1 -> qW, entry_dict_itemiterator_next -> qX, args_dict_keyiterator_next_1 -> qY, slot_dict_itemiterator_iter -> qN, entry_dict_keyiterator_next -> qO, args_tuple_iterator_next_1 -> qP, entry_tuple_iterator_next -> qR, slot_zip_next -> XB, slot_list_append -> ql, type_list_append -> qm, slot_list_extend -> qo, type_list_extend -> qp, type_dict_get -> qi
open Function renaming comp_def -> Qq, comp -> fo
open List.cons renaming injEq -> PK
open PySem.Calls renaming callWith_builtin -> UA, spliced_cons -> Sb, spliced_nil -> UH, evalArgs_plain -> Wv, Name_function_global -> qK
open False renaming elim -> Kc
open PySem.Obj renaming mapSeq -> Kd, data_mapFields -> UQ, isFreed_of_fields -> fS
open PySem.Builtin.Slice renaming slicePlaces -> Wl, sliceAdjust -> fB, sliceApplied -> qL
open True renaming intro -> La
open PySem.Builtin.List renaming listTooLong -> Wx, listExtendWith -> qS, listSameRef -> qq, listItems -> qf
open PyProof.Rows.KeyOrd renaming kle_refl -> R0, kle_of_klt -> XE, kle_trans -> X7, kle_antisymm -> r0
open Ne renaming symm -> Hi
open PySem.Builtin.Range renaming rangeSize -> fD
open Classical renaming choose_spec -> fR, choose -> qx
open PySem.Builtin.Dict renaming showsAll -> fT
open Prod renaming ext -> N0
open PySem.Builtin.Str renaming strSliceIndices -> qQ
open Sum renaming inl -> N1, inr -> O8
open PySem.SeqAt renaming ne_of_list_tuple -> qe, RcNeAt -> XM, EqAt -> UX, RcAt -> XQ
open PySem.Data renaming cell -> Sn, fields -> XT
open PySem.Around renaming under_plainId -> qz, under -> fs
open Prod.mk renaming injEq -> g8
open PySem.Txt renaming slice -> Ua
open Sum.inl renaming injEq -> fm
open List.Pairwise renaming nil -> qt
open PySem.Code renaming isFrame -> ft
open Array.Perm renaming refl -> qy
open PySem.PassesOwn renaming never -> qr
set_option Elab.async false
set_option linter.all false
set_option maxRecDepth 100000
noncomputable section
set_option hygiene false in
local macro_rules|`(γ)=>`(by simp)|`(δ)=>`(by lia)|`(ε)=>`(by decide)|`(η)=>`(1000000000000000000000000000000000000000000000000000000000000)|`(ι)=>`(List Nat)|`(μ)=>`(List D)|`(ζ)=>`((x==("__debug__" :Str))=false)|`(θ)=>`(Inv X pins σ H s)
set_option hygiene false in
local macro_rules|`(($e :))=>`(by simpa using $e)
set_option hygiene false in
local macro_rules|`(tactic|erw [$[$a:term],*])=>`(tactic|simp only [$[$a:term],*])|`(tactic|erw [$[$a:term],*]$l:location)=>`(tactic|simp only [$[$a:term],*]$l:location)
set_option hygiene false in
local macro_rules|`(tactic|simp! [$a,*])=> `(tactic|simp(disch:=first|lia|(simp;done)|(simp;lia)) [$a,*])
set_option hygiene false in
local macro_rules|`(tactic|rw?)=>`(tactic|first|exact Dh rfl|exact Cp (Dh rfl)|exact Cp (Cp rfl))
set_option hygiene false in
local macro_rules|`(tactic|delta $x:ident $y:ident)=>`(tactic|(rintro σ H Q ⟨G,ρ,$y,h⟩;unfold $x at h;refine⟨G,ρ,$y,?_⟩))
set_option hygiene false in
local macro_rules|`(tactic|exists $a)=>`(tactic|have:=$a P w base T)|`(tactic|exists $f,$k,$m,$a,$b)=>`(tactic|(have h:=$f (P:=P) (w:=w) (mg:=mg) (base:=base) (k:=$k) (m:=$m) $a $b;refine h ?_))
set_option hygiene false in
local macro_rules|`(tactic|delta $x:ident)=>`(tactic|(rintro CC σ H ⟨G,ρ,r,h⟩;unfold $x at h))
set_option hygiene false in
local macro_rules|`(tactic|delta $x:ident $y:ident $z:ident $u:ident*)=>`(tactic|first|refine $x ?_|refine $y ?_|refine $z ?_$[|refine $u ?_]*)
set_option hygiene false in
local macro_rules|`(tactic|delta $x:ident $y:ident $z:ident $u:ident* at a)=>`(tactic|first|refine $x ?_ ?_|refine $y ?_ ?_|refine $z ?_ ?_$[|refine $u ?_ ?_]*)
set_option hygiene false in
local macro_rules|`(tactic|delta $x:ident $y:ident $z:ident $u:ident* at b)=>`(tactic|first|refine $x (Cm.units ‹_›) ?_ ?_|refine $y (Cm.units ‹_›) ?_ ?_|refine $z (Cm.units ‹_›) ?_ ?_$[|refine $u (Cm.units ‹_›) ?_ ?_]*)
set_option hygiene false in
local macro_rules| `(tactic|ac_rfl)=> `(tactic|repeat' first
 |refine agE _ ?_
 |delta ah2 af1 aez afn age afu af0 agH afA agR afx ag0 ahC aen ahL agZ ago agc afl agA aep agd ahK agn
 |exact afm _
 |delta ah0 afh ag8 afK aev af9 yx agj ah9 ahH ael agg aex aga aes agP ahA ahE ah7 af3 aet at a
 |refine agh _ ?_
 |exact ag6
 |refine ag7 _ _ _ (Cj.Cs ‹_›) (by rfl) ?_ ?_ ?_ (λ_ _ _ _ _ _ _=>?_)
 |refine afq _ (Cj.Cs ‹_›) ?_
 |exact agT _
 |exact afD
 |exact afi
 |refine afE ?_ ?_ Cn
 |refine af2 ‹_› (Cm.mono ‹_› ε) ?_
 |refine agF ?_ ?_ ?_
 |exact agG
 |exact aaN _ (Cj.Cs ‹_›)
 |exact agN
 |refine afF (EI.sg ‹_›) ?_
 |exact aey
 |refine agD qr ?_ ?_ ?_
 |refine agl (EI.gV ‹_›) ?_
 |delta ah6 ahB af8 afC ahD ah5 ah4 aem af5 ah8 af6 at b
 |exact aeo
 |exact sh _ (hN:=of_decide_eq_true ( by kernel_rfl ))
 |refine agi _ _ (by rfl) ?_ ?_ ?_ (λ_ _ _ _ _ _ _=>?_)
 |refine agf ‹_› (Cm.mono ‹_› ε) ?_
 |exact su
 |exact afz
 |refine ag4 _ ?_
 |refine qB (EI.Ux ‹_›) ?_
 |exact aaO
 |refine aaR rfl ?_
 |refine aeu ?_ ?_ ?_
 |refine ag9 _ (Cm.units ‹_›) ?_ ?_
 |refine agM ?_ ?_ ?_
 |refine ah1 qr ?_ ?_
 |refine aew ‹_› (EI.sd ‹_›) ?_
 |exact afr _ (Cj.Cs ‹_›)
 |refine agb (EI.lR ‹_›) ?_
 |refine af7 (Cm.units ‹_›) ?_ ?_ (by intro _ _;rfl)
 |refine afI ‹_› (Cm.mono ‹_› ε) ?_ ?_
 |refine afB ?_ ?_ ?_
 |refine agB (EI.Ux ‹_›) ?_
 |refine aer _ ?_
 |refine Wk (adz _) (EI.VQ ‹_›) (EI.gT ‹_›) (by kernel_rfl) ?_
 |refine qB (EI.lR ‹_›) ?_
 |refine afo _ (Cm.units ‹_›) ?_ ?_
 |refine agU _ ‹_› (Cm.mono ‹_› ε) ?_
 |refine afw (EI.gT ‹_›) (EI.gV ‹_›) ?_
 |refine afv (EI.gT ‹_›) ?_
 |refine afj (λ_ _ _ _ _ _ _=>?_)
 |refine Wk (ady _) (EI.VQ ‹_›) (EI.hv ‹_›) (by kernel_rfl) ?_
 |refine Wk (adx _) (EI.VQ ‹_›) (EI.se ‹_›) (by kernel_rfl) ?_
 |refine ah3 ZB ZB Zf Zf ?_ ?_ ?_
 |refine agS (EI.i0 ‹_›) ?_
 |refine agm (EI.gV ‹_›) ?_
 |refine ag3 _ (EI.Ux ‹_›) (Cm.units ‹_›) ?_ ?_
 |exact Wj (EI.S5 ‹_›)
 |exact agC (EI.Ux ‹_›)
 |refine agL _ _ (Cj.Cs ‹_›) ‹_› (Cm.mono ‹_› ε) (λ_ _=>?_)
 |refine agI _ ?_ ?_
 |refine ag5 _ ?_
 |refine agQ (EI.hv ‹_›) ?_
 |refine af4 ZB ZB Zf Zf ?_ ?_ ?_
 |exact Wj (EI.VT ‹_›)
 |exact Wj (EI.VS ‹_›)
 |refine Wk (ae1 _) (EI.VQ ‹_›) (EI.i0 ‹_›) (by kernel_rfl) ?_
 |refine afs _ (Cj.Cs ‹_›) (Cm.units ‹_›) ?_ ?_
 |refine afy (Cm.hd ‹_›) (EI.sj ‹_›) ?_
 |exact agY (EI.Y0 ‹_›)
 |refine Wk (ae0 _) (EI.VQ ‹_›) (EI.hz ‹_›) (by kernel_rfl) ?_
 |exact Wj (EI.TC ‹_›)
 |exact Wj (EI.VR ‹_›)
 |refine agp (EI.sk ‹_›) ?_
 |exact si _ _ (hN:=of_decide_eq_true ( by kernel_rfl ))
 |refine agO (EI.hz ‹_›) ?_
 |refine ahJ (EI.sf ‹_›) ?_
 |refine afk _ (EI.Ux ‹_›) (Cm.units ‹_›) ?_ (by intro _ _;rfl)
 |refine agV _ ?_
 |refine afH ‹_› (Cm.mono ‹_› ε) ?_
 |refine afJ ‹_› (Cm.mono ‹_› ε) ?_
 |refine afL ?_ ?_ ?_
 |refine afG ‹_› (Cm.mono ‹_› ε) ?_
 |refine agJ ?_
 |refine agK ?_
 |refine ahF ?_
 |refine ahG ?_
 |refine aeq ?_
 |refine agk ?_
 |refine ahI ?_
 |refine afp _ (Cj.Cs ‹_›) ?_
 |refine agz _ (Cj.Cs ‹_›) ?_
 |refine aft _ (Cj.Cs ‹_›) ?_)
namespace LE
open PySem
section
variable{prog:Bx}{w:Bj}{K:Type}[DecidableEq K]{knd:HeapKind prog w K}{A:CK}{E:A7->AP->Prop}{s:AP}
noncomputable def IX(knd:HeapKind prog w K)(h:BI)(d:A8)(xs:List (K×A8×A7)):Prop:=
 ∃o A4 BV,h.get? d=some o/\o.ExactDict/\o.data=.dict A4 BV/\A4.toList=xs.map (PN knd)/\(∀x∈xs,knd.is h x.1 x.2.1)/\(xs.map (·.1)).Nodup/\BV=A4.size
def IX.of{h:BI}{d:A8}{xs:List (K×A8×A7)}(x:IX knd h d xs):h.DictOfH knd d xs:=by obtain⟨o,A4,BV,A6,AA,Ao,BG,Er,DE,_⟩:=x;exact⟨o,A4,BV,A6,AA,Ao,BG,Er,DE⟩
def IX.new{d a:A8}{xs:List (K×A8×A7)}{k:K}{v:A7}{h:BI}(x:IX knd h d xs)(AE:knd.is h k a)(Ob:∀(j:Nat)(p:A8×A7),xs[j]?≠some (k,p)) :
  IX knd (h.update d (Obj.mapDictKeys λx=>x.push { hash:=knd.hash k,key:=.ref a,val:=v })) d (PT xs k a v):=by
 obtain⟨o,A4,BV,ho,AO,hd,he,RZ,AQ,Aq⟩:=x;rw[storedH_new (atKey_none_of_get Ob)];have AJ:=LS h d (Obj.mapDictKeys λx=>x.push { hash:=knd.hash k,key:=.ref a,val:=v });refine⟨_,_,BV+1,PH _ ho (Obj.isFreed_of_dict (Obj.data_mapDictKeys hd _)),Obj.ExactDict.mapDictKeys AO _,Obj.data_mapDictKeys hd _,by simp[he,PN],λx AG=>?_,?_,by simp[Aq]⟩
 .rcases List.mem_append.mp AG with AG|AG
  .exact knd.keeps (RZ x AG) ho hd AJ
  .obtain rfl:x=(k,a,v):=by simpa using AG
   exact knd.keeps AE ho hd AJ
 .rw[Hy,List.nodup_append];refine⟨AQ,γ,λx AG y Ba e=>?_⟩;obtain rfl:y=k:=by simpa using Ba
  exact not_mem_keys_of_get Ob (e▸AG)
def IX.old{d a:A8}{xs:List (K×A8×A7)}{k:K}{v:A7}{h:BI}{j:Nat}{p:A8×A7}(x:IX knd h d xs)(Bi:xs[j]?=some (k,p)) :
  IX knd (h.update d (Obj.mapDict λx=>x.modify j λe=>{ hash:=e.hash,key:=e.key,val:=v })) d (PT xs k a v):=by
 obtain⟨o,A4,BV,ho,AO,hd,he,RZ,AQ,Aq⟩:=x;rw[storedH_old (atKey_of_get AQ Bi)];have AJ:=LS h d (Obj.mapDict λx=>x.modify j λe=>{ hash:=e.hash,key:=e.key,val:=v });refine⟨_,_,BV,PH _ ho (Obj.isFreed_of_dict (Obj.data_mapDict hd _)),Obj.ExactDict.mapDict AO _,Obj.data_mapDict hd _,?_,λx AG=>?_,by rw[keys_map_putAt];exact AQ,by simp[Aq]⟩
 .have:=modify_map_putAt (PN knd) (λe=>{ hash:=e.hash,key:=e.key,val:=v }) k v (λx y=>rfl) AQ Bi;rw[<-he]at this;rw[<-this];cases A4;simp
 .obtain⟨y,Ba,rfl⟩:=List.mem_map.mp AG;have:=knd.keeps (RZ y Ba) ho hd AJ;unfold putAt
  split<;>exact this
def jR{d a:A8}{k:K}{xs:List (K×A8×A7)}{v:A7}{Q:Unit->AP->Prop}(BM:knd.room A)(LK:knd.is s.heap k a)(hm:IX knd s.heap d xs)(DU:∀h',IX knd h' d (PT xs k a v)->JG d s.heap h'->Q () { s with heap:=h',toks:=s.toks+knd.draws k })(hsz:xs.length<=CD) :
  Ad (B2 prog w) A (dictSet d (.ref a) v) Q E s:=by
 obtain⟨o,A4,BV,ho,AO,hd,he,RZ,AQ,Aq⟩:=id hm;unfold dictSet;refine K2 (AL (knd.pyHash BM LK ?_));unfold dictSetHashed;have AN:=size_of_entries he;refine K2 (AL (wpAny_dictFind_heap BM LK ho hd he RZ AQ (λOb=>AL (Kb (wpAny_updateDictKeys ho hd (DU _ (hm.new LK Ob) (LS ..)) δ γ))) λj p Bi=>AL (Kb (AL (wpAny_updateDict ho hd (wpAny_point (DU _ (hm.old Bi) (LS ..))) ?_)))))
 all_goals simp
 all_goals lia
theorem acw{d a:A8}{k:K}{xs:List (K×A8×A7)}{v:A7}{Q:Unit->AP->Prop}(BM:knd.room A.in1)(LK:knd.is s.heap k a)(hm:IX knd s.heap d xs)(DU:∀h',IX knd h' d (PT xs k a v)->JG d s.heap h'->Q () { s with heap:=h',toks:=s.toks+knd.draws k })(hsz:xs.length<=CD) :
  Ad (B2 prog w) A (setItem (.ref d) (.ref a) v) Q E s:=by
 unfold setItem;refine K2 (AL (wpAny_sequenceKey hm.of.typeIs ε (AL (Mv hm.of.typeIs F.slot_dict_setitem (Iu F.slot_dict_setitem hm.of.typeIs F.entry_dict_setitem ?_ (by first|exact args_dict_setitem _ _ _|exact F.args_dict_setitem_3 _ _ _))))));refine AL (X3 hm.of.typeIs ?_);show Ad _ _ (dictSet d (.ref a) v>>=λ_=>ret GD) _ _ _;refine AL (jR BM LK hm (λh' v5 Gw=>Ay ⟨GD,rfl,Ay (DU h' v5 Gw)⟩) hsz)
theorem ad0{d a:A8}{k:K}{xs:List (K×A8×A7)}{v:A7}{Q:A7->AP->Prop}(BM:knd.room A.in1)(Yj:(d==He)=false)(LK:knd.is s.heap k a)(hm:IX knd s.heap d xs)(A6:∀p,Kh xs k=some p->Q p.2 { s with toks:=s.toks+knd.draws k })(AA:Kh xs k=none->∀h',IX knd h' d (PT xs k a v)->JG d s.heap h'->Q v { s with heap:=h',toks:=s.toks+knd.draws k })(hsz:xs.length<=CD) :
  Ad (B2 prog w) A (call (.builtin "dict.setdefault") [.ref d,.ref a,v]) Q E s:=by
 refine UR F.slot_dict_setdefault hm.of.typeIs F.entry_dict_setdefault (F.args_dict_setdefault_3 _ _ _) (S:=λA R s=>knd.room A.in1/\∃xs,knd.is s.heap k a/\IX knd s.heap d xs/\xs.length<=CD/\(∀p,Kh xs k=some p->R (.ok (.ret p.2)) { s with toks:=s.toks+knd.draws k })/\(Kh xs k=none->∀h',IX knd h' d (PT xs k a v)->JG d s.heap h'->R (.ok (.ret v)) { s with heap:=h',toks:=s.toks+knd.draws k })) (MeetsIn.of_wp λA R s⟨BM,xs,LK,hm,hsz,A6,AA⟩=>?_) ⟨BM,xs,LK,hm,hsz,A6,AA⟩;obtain⟨o,A4,BV,ho,AO,hd,he,RZ,AQ,Aq⟩:=id hm;unfold MH.«dict.setdefault» Builtin.Dict.keyAndDefault;refine AL (AL (X3 hm.of.typeIs ?_));show Ad _ _ (pure _) _ _ _;refine Ay ?_;show Ad _ _ (if(d==He)=true then _ else _) _ _ _;rw[if_neg (by rw[Yj];exact Fy)];refine AL ?_;unfold dictSetDefault;refine K2 (AL (knd.pyHash BM LK ?_));have AN:=size_of_entries he;refine AL (wpAny_dictFind_heap BM LK ho hd he RZ AQ (λOb=>AL (Kb (AL (wpAny_updateDictKeys ho hd (Ay (Ay ⟨_,rfl,AA (atKey_none_of_get Ob) _ (hm.new LK Ob) (LS ..)⟩)) δ γ)))) λj p Bi=>?_);refine AL (Qo ho hd ?_);have e:A4[j]?=some (PN knd (k,p)):=by rw[<-UC,he,EC,Bi];rfl
 erw[e];exact AL (Kb (Ay (Ay ⟨_,rfl,A6 p (atKey_of_get AQ Bi)⟩)))
end
end LE
namespace Bs
open PySem PySem.Spec PyProof.Rows
abbrev Key:=Sum Int Str
noncomputable def Oi:Key->A7->Bool
 |.inl k,v=>Value.isInt k v
 |.inr x,v=>Value.isStrOf x v
noncomputable def y_(w:Bj):Key->Int
 |.inl k=>hashInt k
 |.inr x=>hashStr w x
def Km:∀{k:Key}{v:A7},Oi k v=true->(∃i t,k=N1 i/\v=XR i t)\/(∃x t,k=O8 x/\v=XS x t)
 |.inl i,v,h=>by obtain⟨t,e⟩:=Value.isInt_shape (k:=i) (v:=v) h;exact .inl ⟨i,t,rfl,e⟩
 |.inr x,v,h=>by obtain⟨t,e⟩:=Value.isStrOf_shape (x:=x) (v:=v) h;exact .inr ⟨x,t,rfl,e⟩
def yb(i:Int)(t:Tok):Oi (.inl i) (.int i t)=true:=by simp[Oi,Value.isInt]
def cF(x:Str)(t:Tok):Oi (.inr x) (.str x t)=true:=by simp[Oi,Value.isStrOf]
def yg(a b:Int):decide ((N1 a:Key)=N1 b)=(a==b):=by
 by_cases e:a=b
 .subst e;simp
 .have h:¬(N1 a:Key)=N1 b:=λq=>e (Sum.inl.inj q);rw[decide_eq_false h];exact(beq_eq_false_iff_ne.mpr e).symm
def yj(a b:Str):decide ((O8 a:Key)=O8 b)=decide (a=b):=by
 by_cases e:a=b
 .subst e;simp
 .have h:¬(O8 a:Key)=O8 b:=λq=>e (Sum.inr.inj q);rw[decide_eq_false h,decide_eq_false e]
def yh(a:Int)(b:Str):decide ((N1 a:Key)=O8 b)=false:=decide_eq_false (λq=>nomatch q)
def yi(a:Str)(b:Int):decide ((O8 a:Key)=N1 b)=false:=decide_eq_false (λq=>nomatch q)
noncomputable def HL(prog:Bx)(w:Bj):g7 prog w Key where
 is:=Oi
 hash:=y_ w
 inj:=λv a b AD A0=>by
  rcases Km AD with⟨i,t,rfl,rfl⟩|⟨x,t,rfl,rfl⟩
  .rcases Km A0 with⟨j,u,rfl,e⟩|⟨y,u,rfl,e⟩
   .injection e with A9 _;rw[A9]
   .exact nomatch e
  .rcases Km A0 with⟨j,u,rfl,e⟩|⟨y,u,rfl,e⟩
   .exact nomatch e
   .injection e with A9 _;rw[A9]
 byValue:=λk v h=>by rcases Km h with⟨i,t,rfl,rfl⟩|⟨x,t,rfl,rfl⟩<;>rfl
 pyHash:=λBN h=>by
  rcases Km BN with⟨i,t,rfl,rfl⟩|⟨x,t,rfl,rfl⟩
  .exact wpAny_pyHash_int h
  .exact wpAny_pyHash_str h
 eqBool:=λBM BN h=>by
  rcases Km BM with⟨i,t,rfl,rfl⟩|⟨x,t,rfl,rfl⟩
  .rcases Km BN with⟨j,u,rfl,rfl⟩|⟨y,u,rfl,rfl⟩
   .rw[yg]at h;exact fX h
   .rw[yh]at h;exact SeqAt.EqAt.int_str i t y u _ _ _ _ h
  .rcases Km BN with⟨j,u,rfl,rfl⟩|⟨y,u,rfl,rfl⟩
   .rw[yi]at h;exact SeqAt.EqAt.str_int x t j u _ _ _ _ h
   .rw[yj]at h;exact XF h
 «strs»:=λk x t v h=>by
  rcases Km h with⟨i,u,rfl,e⟩|⟨y,u,rfl,e⟩
  .exact nomatch e
  .injection e with A9 _;subst A9;cases v<;>rfl
def zI(prog:Bx)(w:Bj)(i:Int)(t:Tok):(HL prog w).is (.inl i) (.int i t)=true:=yb i t
def zJ(prog:Bx)(w:Bj)(x:Str)(t:Tok):(HL prog w).is (.inr x) (.str x t)=true:=cF x t
section
open SeqAt
section
variable(prog:Bx)(w:Bj)
abbrev JB:=Sum Key (List Key)
abbrev Bf:=List JB
def RG(h:BI):JB->A7->Prop
 |.inl k,v=>Oi k v=true
 |.inr ks,v=>∃b,v=.ref b/\IsTupleKey (HL prog w) h ks b
inductive GG(h:BI):Bf->List A7->Prop
 |nil:GG h [] []
 |cons {k:JB} {v:A7} {ks:Bf} {vs:List A7}:RG prog w h k v->GG h ks vs->GG h (k::ks) (v::vs)
def JA(h:BI)(ks:Bf)(a:A8):Prop:=∃o items n,h.get? a=some o/\o.cls=.type "tuple"/\o.data=.seq items n/\GG prog w h ks items.toList
variable{prog w}
theorem RG.inj{h:BI}{x y:JB}{v:A7}(AG:RG prog w h x v)(Ba:RG prog w h y v):x=y:=by
 cases x with
 |inl a=>
  cases y with
  |inl b=>rw[(HL prog w).inj _ _ _ AG Ba]
  |inr b=>obtain⟨c,rfl,_⟩:=Ba;have:=(HL prog w).byValue _ _ AG;simp[fv]at this
 |inr a=>
  obtain⟨c,rfl,AG⟩:=AG;cases y with
  |inl b=>have:=(HL prog w).byValue _ _ Ba;simp[fv]at this
  |inr b=>obtain⟨d,e,Ba⟩:=Ba;cases e;rw[AG.inj Ba]
theorem GG.inj{h:BI}{x y:Bf}{vs:List A7}(AG:GG prog w h x vs)(Ba:GG prog w h y vs):x=y:=by
 induction AG generalizing y with
 |nil=>cases Ba;rfl
 |cons A6 _ Bh=>
  cases Ba with
  |cons AA DI=>rw[A6.inj AA,Bh DI]
theorem GG.keeps{h h':BI}{d:A8}{o:Obj}{A4 BV}(ho:h.get? d=some o)(hd:o.data=.dict A4 BV)(AJ:JG d h h'):∀{x:Bf}{vs:List A7},GG prog w h x vs->GG prog w h' x vs
 |_,_,.nil=>.nil
 |_,_,.cons (k:=.inl _) A6 t=>.cons (k:=.inl _) A6 (GG.keeps ho hd AJ t)
 |_,_,.cons (k:=.inr _) ⟨b,e,x⟩ t=>.cons (k:=.inr _) ⟨b,e,x.keeps ho hd AJ⟩ (GG.keeps ho hd AJ t)
def JA.typeIs{s:AP}{ks:Bf}{a:A8}(x:JA prog w s.heap ks a):s.TypeIs (.ref a) "tuple":=let⟨o,_,_,ho,AO,_⟩:=x;⟨o,ho,AO⟩
theorem JA.inj{h:BI}{a:A8}{x y:Bf}(AG:JA prog w h x a)(Ba:JA prog w h y a):x=y:=by obtain⟨o,i,n,A6,_,AA,Ao⟩:=AG;obtain⟨o',ahs,Na,J0,_,OX,Q2⟩:=Ba;rw[A6]at J0;cases J0;rw[AA]at OX;cases OX;exact Ao.inj Q2
theorem JA.keeps{h h':BI}{ks:Bf}{a d:A8}{o:Obj}{A4 BV}(x:JA prog w h ks a)(ho:h.get? d=some o)(hd:o.data=.dict A4 BV)(AJ:JG d h h'):JA prog w h' ks a:=by
 obtain⟨o',items,n,EF,AO,Fw,AC⟩:=x;have R_:a≠d:=by rintro rfl;obtain rfl:o'=o:=Ey (EF.symm.trans ho);rw[hd]at Fw;exact nomatch Fw
 exact⟨o',items,n,(AJ.2 a R_).trans EF,AO,Fw,AC.keeps ho hd AJ⟩
def MS(prog:Bx)(w:Bj):JB->Int
 |.inl k=>(HL prog w).hash k
 |.inr ks=>tupleKeyHash (HL prog w) ks
noncomputable def RN:JB->Nat
 |.inl _=>1
 |.inr ks=>ks.length+1
variable{A:CK}{E:A7->AP->Prop}{s:AP}
theorem aaP{ks:Bf}{a:A8}{Q:Int->AP->Prop}(BM:A.units+8<DS)(AE:JA prog w s.heap ks a)(h:Q (reduceHash (Qn (ks.map (MS prog w)))) { s with toks:=s.toks+((ks.map RN).sum+1) }) :
  Ad (B2 prog w) A (pyHash (.ref a)) Q E s:=by
 have CM:=AE.typeIs;obtain⟨o,items,n,ho,_,hd,AC⟩:=AE;unfold pyHash
 first|unfold pyHashByItsType|skip
 first|refine AL (wpAny_cRoomFor_or (.inr δ) ?_)|skip
 refine AL (Sk CM F.slot_tuple_hash.lookup ?_);show Ad _ _ (if(some (Value.builtin "tuple.__hash__")==some GD)=true then _ else _) Q E s;rw[if_neg (by rw[beq_builtin_none];exact Fy)];refine AL (Sk CM F.slot_tuple_hash.lookup ?_);show Ad _ _ (callSpecialIfBoundUnlessNone? (.ref a) "__hash__" _>>=_) Q E s;refine AL (wpAny_callSpecialIfBoundUnlessNone?_slot CM F.slot_tuple_hash (Iu F.slot_tuple_hash CM F.entry_tuple_hash ?_ (F.args_tuple_hash_1 _)));show Ad _ _ (qT (.ref a)>>=_) _ _ s;refine AL (fF ho hd ?_);refine AL ?_;rw[<-fG]
 refine XG _
  (λrest(b:Array Int) s'=>∃done left,ks=done++left/\GG prog w s.heap left rest/\b.toList=done.map (MS prog w)/\s'={ s with toks:=s.toks+(done.map RN).sum })
  _ ?_ ?_ _ _ ⟨[],ks,rfl,AC,rfl,rfl⟩
 .rintro x rest b s' ⟨done,left,rfl,AN,A0,rfl⟩;cases AN with
  | @cons k _ ks' _ A6 Q3=>
    cases k with
    |inl k=>
     refine AL ((HL prog w).pyHash A6 ?_)
     first
      |exact Ay ⟨done++[.inl k],ks',γ,Q3,by simp[A0,MS],by simp[Nz,RN]⟩
      |exact AL (Ay (Ay ⟨done++[.inl k],ks',γ,Q3,by simp[A0,MS],by simp[Nz,RN]⟩))
    |inr BY=>
     obtain⟨Jr,rfl,A6⟩:=A6;refine AL (wpAny_pyHash_tuple (knd:=HL prog w) (ks:=BY) (show A.units+1<DS by lia) A6 ?_)
     first
      |exact Ay ⟨done++[.inr BY],ks',γ,Q3,by simp[A0,MS],by simp[Nz,RN]⟩
      |exact AL (Ay (Ay ⟨done++[.inr BY],ks',γ,Q3,by simp[A0,MS],by simp[Nz,RN]⟩))
 .rintro b s' ⟨done,left,rfl,AN,A0,rfl⟩;cases AN;rw[LO]at h;show Ad _ _ (retInt (Qn b.toList)) _ _ _;rw[A0];refine wpAny_ret_mkInt ?_;show Ad _ _ (if(decide (-(2:Int)^63<=Qn (done.map (MS prog w)))&&decide (Qn (done.map (MS prog w))<2^63))=true then _ else _) Q E _;unfold reduceHash at h;by_cases B5:(decide (-(2:Int)^63<=Qn (done.map (MS prog w)))&&decide (Qn (done.map (MS prog w))<2^63))=true
  .rw[if_pos B5];rw[if_pos B5]at h;exact Ay (by simpa[Nz]using h)
  .rw[if_neg B5];rw[if_neg B5]at h;exact AL (Kb (Ay (by simpa[Nz]using h)))
def aa_{x y:JB}{u v:A7}{Q:Bool->AP->Prop}(BM:A.units+1<DS)(AG:RG prog w s.heap x u)(Ba:RG prog w s.heap y v)(h:Q (decide (x=y)) s):Ad (B2 prog w) A (eqBool u v) Q E s:=by
 cases x with
 |inl a=>
  cases y with
  |inl b=>exact(HL prog w).eqBool (a:=a) (b:=b) AG Ba (h:)
  |inr b=>
   obtain⟨c,rfl,o,its,n,A6,AA,Ao,_⟩:=Ba;have hd:decide ((N1 a:JB)=O8 b)=false:=γ
   rw[hd]at h;rcases Km AG with⟨i,t,_,rfl⟩|⟨i,t,_,rfl⟩
   .exact EqAt.int_tuple i t ⟨o,A6,AA,n,Ao⟩ δ prog w E Q h
   .exact EqAt.str_tuple i t ⟨o,A6,AA,n,Ao⟩ δ prog w E Q h
 |inr a=>
  cases y with
  |inl b=>
   obtain⟨c,rfl,o,its,n,A6,AA,Ao,_⟩:=AG;have hd:decide ((O8 a:JB)=N1 b)=false:=γ
   rw[hd]at h;rcases Km Ba with⟨i,t,_,rfl⟩|⟨i,t,_,rfl⟩
   .exact EqAt.tuple_int i t ⟨o,A6,AA,n,Ao⟩ δ prog w E Q h
   .exact EqAt.tuple_str i t ⟨o,A6,AA,n,Ao⟩ δ prog w E Q h
  |inr b=>obtain⟨c,rfl,AG⟩:=AG;obtain⟨d,rfl,Ba⟩:=Ba;exact wpAny_eqBool_tuple δ AG Ba (h:)
def aaM{x y:Bf}{a b:A8}{P:Fin->AP->Prop}(BM:A.units+1<DS)(AG:JA prog w s.heap x a)(Ba:JA prog w s.heap y b)(h:P (.done (.ret (.bool (decide (x=y))))) s) :
  Ad (B2 prog w) A (MH.«tuple.__eq__» ⟨[.ref a,.ref b],[]⟩) P E s:=by
 have v8:=Ba.typeIs;obtain⟨mQ,xs,na,we,_,vN,uw⟩:=AG;obtain⟨ob,ys,nb,wf,_,GV,ux⟩:=Ba;show Ad _ _ (isInstance (.ref b) (.type "tuple")>>=_) _ _ s;refine AL (Qr v8 fP ?_);erw[PO,Hg,if_false];refine AL (fF we vN ?_);refine AL (fF wf GV ?_);refine AL ?_
 refine XG _
  (λrest r s'=>r.1=none/\s'=s/\∃Tj SX Gj Hb,rest=List.zip Gj Hb/\GG prog w s.heap Tj Gj/\GG prog w s.heap SX Hb/\decide (Tj=SX)=decide (x=y)/\(Gj.length==Hb.length)=(xs.size==ys.size))
  _ ?_ ?_ _ _ ⟨rfl,rfl,x,y,xs.toList,ys.toList,rfl,uw,ux,rfl,γ⟩
 .rintro⟨u,v⟩ rest r s' ⟨B5,rfl,Tj,SX,Gj,Hb,Aq,cv,YQ,Yk,hlen⟩;cases cv with
  |nil=>simp at Aq
  | @cons Cg FH qA ag1 A6 wp=>
    cases YQ with
    |nil=>simp at Aq
    | @cons By Nt qD agt AA wq=>
      erw[K5,PK,g8]at Aq;obtain⟨⟨rfl,rfl⟩,rfl⟩:=Aq;refine AL (aa_ BM A6 AA ?_);by_cases AE:Cg=By
      .subst AE;rw[decide_eq_true rfl];erw[PO,Hg,if_false];refine Ay ⟨rfl,rfl,qA,qD,ag1,agt,rfl,wp,wq,?_,(hlen:)⟩;rw[<-Yk];by_cases jq:qA=qD
       .simp[jq]
       .simp[jq]
      .rw[decide_eq_false AE];erw[fw,if_true];have hf:decide (x=y)=false:=by rw[<-Yk];simp[AE]
       rw[hf]at h;exact AL (Ay (Ay (Ay h)))
 .rintro⟨AK,B7⟩ s' ⟨B5,rfl,Tj,SX,Gj,Hb,Aq,cv,YQ,Yk,hlen⟩;simp only at B5;subst B5;refine Ay ?_;have vS:(xs.size==ys.size)=decide (x=y):=by
   rw[<-Yk,<-hlen];cases cv with
   |nil=>
    cases YQ with
    |nil=>simp
    |cons _ _=>simp
   |cons _ _=>
    cases YQ with
    |nil=>simp
    |cons _ _=>simp at Aq
  show P (.done (.ret (.bool (xs.size==ys.size)))) s';rw[vS];exact h
theorem zM{x y:Bf}{a b:A8}{Q:Bool->AP->Prop}(BM:A.units+8<DS)(AG:JA prog w s.heap x a)(Ba:JA prog w s.heap y b)(h:Q (decide (x=y)) s) :
  Ad (B2 prog w) A (eqBool (.ref a) (.ref b)) Q E s:=by
 unfold eqBool
 try with_reducible refine K2 ?_
 show Ad _ _ (if(DR a==DR b)=true then _ else _) Q E s;by_cases V5:(DR a==DR b)=true
 .rw[if_pos V5];have e:a=b:=by have:=eq_of_beq V5;injection this
  subst e;obtain rfl:=AG.inj Ba;exact AL (Kb (Ay (h:)))
 .rw[if_neg V5]
  exact AL (wpAny_richCompare_same_room (op:=.Eq) AG.typeIs Ba.typeIs F.slot_tuple_eq
   (Iu F.slot_tuple_eq AG.typeIs F.entry_tuple_eq (aaM (show A.units+1+1<DS by lia) AG Ba ⟨_,rfl,(λe=>nomatch e),LM h⟩) (F.args_tuple_eq_2 _ _)) δ)
theorem aab{x:JB}{v:A7}{Q:Bool->AP->Prop}{n:Nat}(AG:RG prog w s.heap x v)(h:Q true s):Ad (B2 prog w) A (eqIsQuiet 7 v) Q E s:=by
 cases x with
 |inl a=>rw[eqIsQuiet_byValue _ ((HL prog w).byValue _ _ AG)];exact Ay h
 |inr a=>
  obtain⟨c,rfl,AE⟩:=AG;have CM:=AE.typeIs;obtain⟨o,items,n,ho,_,hd,AC⟩:=AE;unfold eqIsQuiet;refine AL (Sk CM F.slot_tuple_eq.lookup ?_);show Ad _ _ (isInstance (.ref c) (.type "tuple")>>=_) _ _ s;refine AL (Qr CM fP ?_);erw[PO,Hg,if_false];refine AL (Mz ho hd ?_);refine AL ?_;show Ad _ _ (forIn items _ _) _ _ s;rw[<-fG];refine XG _ (λrest r s'=>r.1=none/\s'=s/\∀v∈rest,fv v=true) _ ?_ ?_ _ _ ⟨rfl,rfl,AC.byValue⟩
  .rintro v rest r s' ⟨B5,rfl,TP⟩;rw[eqIsQuiet_byValue _ (TP v Mt)];refine AL (Ay ?_);erw[PO,Hg,if_false];exact Ay ⟨rfl,rfl,λu VH=>TP u (Fk _ VH)⟩
  .rintro⟨AK,B7⟩ s' ⟨B5,rfl,_⟩;simp only at B5;subst B5;exact Ay h
theorem aaQ{ks:Bf}{a:A8}{Q:Bool->AP->Prop}(AE:JA prog w s.heap ks a)(h:Q true s):Ad (B2 prog w) A (eqIsQuiet 8 (.ref a)) Q E s:=by
 have CM:=AE.typeIs;obtain⟨o,items,n,ho,_,hd,AC⟩:=AE;unfold eqIsQuiet;refine AL (Sk CM F.slot_tuple_eq.lookup ?_);show Ad _ _ (isInstance (.ref a) (.type "tuple")>>=_) _ _ s;refine AL (Qr CM fP ?_);erw[PO,Hg,if_false];refine AL (Mz ho hd ?_);refine AL ?_;show Ad _ _ (forIn items _ _) _ _ s;rw[<-fG];refine XG _ (λrest r s'=>r.1=none/\s'=s/\∃ks',GG prog w s.heap ks' rest) _ ?_ ?_ _ _ ⟨rfl,rfl,ks,AC⟩
 .rintro v rest r s' ⟨B5,rfl,ks',AN⟩;cases AN with
  |cons A6 Q3=>refine AL (aab (n:=0) A6 ?_);erw[PO,Hg,if_false];exact Ay ⟨rfl,rfl,_,Q3⟩
 .rintro⟨AK,B7⟩ s' ⟨B5,rfl,_⟩;simp only at B5;subst B5;exact Ay h
end
noncomputable def KJ(prog:Bx)(w:Bj):HeapKind prog w Bf where
 is:=JA prog w
 hash:=λks=>reduceHash (Qn (ks.map (MS prog w)))
 draws:=λks=>(ks.map RN).sum+1
 room:=λA=>A.units+8<DS
 inj:=λAG Ba=>AG.inj Ba
 keeps:=λx ho hd AJ=>x.keeps ho hd AJ
 pyHash:=λBM AE h=>aaP BM AE h
 eqBool:=λBM AG Ba h=>zM BM AG Ba h
 quiet:=λAE h=>aaQ AE h
def nest_room{prog:Bx}{w:Bj}{A:CK}(BM:A.units+16<DS):(KJ prog w).room A.in1:=show A.units+1+8<DS by lia
end
inductive V where
 |non|AR (b:Bool)|int (i:Int)|str (x:Str)|NG (b:Array UInt8)|Z6 (b:UInt64)|ref (a:A8)|ty (n:String)
 deriving DecidableEq
noncomputable def RelV:V->A7->Prop
 |.non,u=>u=GD
 |.AR b,u=>u=Sp b
 |.int i,u=>∃t,u=XR i t
 |.str x,u=>∃t,u=XS x t
 |.NG b,u=>∃t,u=Value.bytes b t
 |.Z6 b,u=>∃t,u=Value.float b t
 |.ref a,u=>u=DR a
 |.ty n,u=>u=O4 n
abbrev Vals:List V->List A7->Prop:=Paired RelV
theorem Vals.length{xs:List V}{us:List A7}(r:Vals xs us):xs.length=us.length:=Paired.length r
theorem Vals.get:∀{xs:List V}{us:List A7}{i:Nat}{x:V},Vals xs us->xs[i]?=some x->∃u,us[i]?=some u/\RelV x u
 |_,_,_,_,.nil,e=>by simp at e
 |_,_,0,_,.cons r _,e=>by simp at e;subst e;exact⟨_,rfl,r⟩
 |_,_,i+1,x,.cons _ t,e=>by obtain⟨u,A6,AA⟩:=Vals.get (i:=i) (x:=x) t (e:);exact⟨u,(A6:),AA⟩
theorem Vals.set{x:V}{u:A7}(r:RelV x u):∀{xs:List V}{us:List A7}(i:Nat),Vals xs us->Vals (xs.set i x) (us.set i u)
 |_,_,_,.nil=>.nil
 |_,_,0,.cons _ t=>.cons r t
 |_,_,i+1,.cons q t=>.cons q (Vals.set r i t)
theorem Vals.append:∀{xs ys:List V}{us ws:List A7},Vals xs us->Vals ys ws->Vals (xs++ys) (us++ws)
 |_,_,_,_,.nil,s=>s
 |_,_,_,_,.cons r t,s=>.cons r (Vals.append t s)
theorem Vals.take:∀{xs:List V}{us:List A7}(n:Nat),Vals xs us->Vals (xs.take n) (us.take n)
 |_,_,0,_=>.nil
 |_,_,_+1,.nil=>.nil
 |_,_,n+1,.cons r t=>.cons r (Vals.take n t)
theorem Vals.drop:∀{xs:List V}{us:List A7}(n:Nat),Vals xs us->Vals (xs.drop n) (us.drop n)
 |_,_,0,r=>r
 |_,_,_+1,.nil=>.nil
 |_,_,n+1,.cons _ t=>Vals.drop n t
def I2:Option V->Option A7->Prop
 |some v,some u=>RelV v u
 |none,none=>True
 |_,_=>False
def H7{κ:Type}:List (κ×V)->List (κ×A7)->Prop:=Paired λ(p:κ×V)(q:κ×A7)=>p.1=q.1/\RelV p.2 q.2
noncomputable def Dm:Key->V
 |.inl i=>.int i
 |.inr x=>.str x
inductive DN where
 |lst (xs:List V)
 |tup (xs:List V)
 |Df (Ab:List (Key×V))|An (Ab:List (Bf×V))
 |set (S:Int->Bool) (n:Nat)
 |ins (C Ag:A8) (Ar:List (Str×V))
 |own (x:A8)
 |e7 (Ar:List (Str×V))
 |met (f x:A8)
 |da (lo AC:Int)
 |GT (o:Obj) (u:DN)
 |QS (Ai:Array A7)
 |ext (Tk:BI->Prop)
abbrev AB:=A8->Option DN
noncomputable def upd(H:AB)(a:A8)(o:DN):AB:=λb=>if b=a then some o else H b
def Da{H:AB}{a:A8}{o:DN}:upd H a o a=some o:=by unfold upd;rw[if_pos rfl]
def Cy{H:AB}{a b:A8}{o:DN}(h:b≠a):upd H a o b=H b:=by unfold upd;rw[if_neg h]
def dk{H:AB}{a b:A8}{o u:DN}(h:H a=some o)(h':H b=some u)(d:o≠u):a≠b:=by intro e;subst e;rw[h]at h';exact d (Ey h')
def KI{H:AB}{a b:A8}{o:DN}(h:H a=some o)(h':H b=none):a≠b:=by intro e;subst e;rw[h]at h';cases h'
def Nl(H:AB):JB->V->Prop
 |.inl k,v=>v=Dm k
 |.inr ks,v=>∃b,v=.ref b/\H b=some (.tup (ks.map Dm))
def Jo(H:AB)(k:Bf)(a:A8):Prop:=∃vs,H a=some (.tup vs)/\Paired (Nl H) k vs
def Nl.mono{H H':AB}(Aj:∀b xs,H b=some (.tup xs)->H' b=some (.tup xs)):∀{k:JB}{v:V},Nl H k v->Nl H' k v
 |.inl _,_,h=>h
 |.inr _,_,⟨b,e,h⟩=>⟨b,e,Aj _ _ h⟩
theorem iQ.mono{H H':AB}(Aj:∀b xs,H b=some (.tup xs)->H' b=some (.tup xs)):∀{k:Bf}{vs:List V},Paired (Nl H) k vs->Paired (Nl H') k vs
 |_,_,.nil=>.nil
 |_,_,.cons r t=>.cons (r.mono Aj) (iQ.mono Aj t)
theorem Jo.mono{H H':AB}{k:Bf}{a:A8}(h:Jo H k a)(Aj:∀b xs,H b=some (.tup xs)->H' b=some (.tup xs)):Jo H' k a:=
 let⟨vs,e,r⟩:=h;⟨vs,Aj _ _ e,iQ.mono Aj r⟩
def rK(K:Aa)(k:Bf)(b:A8):Prop:=∃(x:Str)(o:Obj)(n:Nat)(t:Tok),k=[.inl (.inr x)]/\K.lookup b=some o/\o.cls=.type "tuple"/\o.data=.seq #[.str x t] n
def I1(K:Aa)(H:AB)(k:Bf)(b:A8):Prop:=Jo H k b\/rK K k b
theorem I1.mono{K:Aa}{H H':AB}{k:Bf}{a:A8}(h:I1 K H k a)(Aj:∀b xs,H b=some (.tup xs)->H' b=some (.tup xs)):I1 K H' k a:=h.elim (λh=>.inl (h.mono Aj)) .inr
section
variable(P:Bx)(w:Bj)(K:Aa)
noncomputable def FS(H:AB)(h:BI)(a:A8):DN->Prop
 |.lst xs=>xs.length<=CD/\∃(its:List A7)(n:Nat),Vals xs its/\h.get? a=some { cls:=.type "list",data:=.seq its.toArray n }
 |.tup xs=>xs.length<=CD/\∃its:List A7,Vals xs its/\IsTup h a its.toArray
 |.Df Ab=>Ab.length<=CD/\(a==He)=false/\∃vs,H7 Ab vs/\h.DictOf (HL P w) a vs
 |.An Ab=>Ab.length<=CD/\(a==He)=false/\∃xs:List (Bf×A8×A7),
     Paired (λ(p:Bf×V)(q:Bf×A8×A7)=>p.1=q.1/\I1 K H p.1 q.2.1/\RelV p.2 q.2.2) Ab xs/\
     ∃o A4 BV,h.get? a=some o/\o.ExactDict/\o.data=.dict A4 BV/\A4.toList=xs.map (PN (KJ P w))/\(xs.map (·.1)).Nodup/\BV=A4.size
 |.set S n=>h.SetOf (intKind P w) a S n
 |.ins C Ag Ar=>H Ag=some (.own a)/\Ar.length<=1000/\Ag≠a/\h.get? a=some (PL C Ag)/\
     ∃EG,h.Ns1 Ag EG/\(∀f,I2 (Ar.lookup f) (EG f))/\fp EG (Ar.map (·.1))
 |.own _=>∃o,h.get? a=some o
 |.e7 Ar=>∃EG,h.Ns1 a EG/\∀f,I2 (Ar.lookup f) (EG f)
 |.da lo AC=>∃t u v,h.get? a=some { cls:=.type "range",data:=.fields #[.int lo t,.int AC u,.int 1 v] }
 |.GT o u=>h.get? a=some o/\FS H h a u
 |.QS Ai=>h.get? a=some { cls:=.none,data:=.fields Ai }
 |.met f x=>h.get? a=some (ff (.ref f) (.ref x))
 |.ext Tk=>Tk h/\(∃o,h.get? a=some o)/\∀A6 AA:BI,Tk A6->(∀o,A6.get? a=some o->AA.get? a=some o)->Tk AA
def Ei(H:AB)(h:BI):Prop:=∀a o,H a=some o->FS P w K H h a o
end
section
variable{P:Bx}{w:Bj}{K:Aa}{H H':AB}{h h':BI}{a:A8}{o:DN}
theorem FS.lt(x:FS P w K H h a o):a<h.objs.size:=by
 cases o with
 |lst xs=>obtain⟨_,_,_,_,e⟩:=x;exact De e
 |tup xs=>obtain⟨_,_,_,p⟩:=x;exact p.lt
 |Df Ab=>obtain⟨_,_,_,_,o,_,_,e,_⟩:=x;exact De e
 |An Ab=>obtain⟨_,_,_,_,o,_,_,e,_⟩:=x;exact De e
 |set S n=>obtain⟨o,_,_,_,e,_⟩:=x;exact De e
 |ins C Ag Ar=>obtain⟨_,_,_,e,_⟩:=x;exact De e
 |own y=>obtain⟨_,e⟩:=x;exact De e
 |e7 Ar=>obtain⟨_,⟨_,_,_,e,_⟩,_⟩:=x;exact De e
 |da lo AC=>obtain⟨_,_,_,e⟩:=x;exact De e
 |GT ob u=>obtain⟨e,_⟩:=x;exact De e
 |QS Ai=>exact De (show h.get? a=some _ from x)
 |met f y=>exact De (show h.get? a=some _ from x)
 |ext Tk=>obtain⟨_,⟨_,e⟩,_⟩:=x;exact De e
theorem Paired.c5{α β:Type}{F G:α->β->Prop}:∀{ky:List α}{l₂:List β},Paired F ky l₂->(∀a b,F a b->G a b)->Paired G ky l₂
 |_,_,.nil,_=>.nil
 |_,_,.cons r t,f=>.cons (f _ _ r) (Paired.c5 t f)
def FS.PA(x:FS P w K H h a o)(k:∀b u,(b=a\/H b=some (.own a))->h.get? b=some u->h'.get? b=some u)(ho:∀b,H b=some (.own a)->H' b=some (.own a))(Aj:∀b xs,H b=some (.tup xs)->H' b=some (.tup xs)):FS P w K H' h' a o:=by
 induction o with
 |lst xs=>obtain⟨z,its,n,r,e⟩:=x;exact⟨z,its,n,r,k _ _ (.inl rfl) e⟩
 |tup xs=>obtain⟨z,its,r,ob,e,c⟩:=x;exact⟨z,its,r,ob,k _ _ (.inl rfl) e,c⟩
 |Df Ab=>obtain⟨z,y,vs,r,ob,A4,BV,e,c⟩:=x;exact⟨z,y,vs,r,ob,A4,BV,k _ _ (.inl rfl) e,c⟩
 |An Ab=>obtain⟨z,y,xs,r,ob,A4,BV,e,c⟩:=x;exact⟨z,y,xs,Paired.c5 r λp q z=>⟨z.1,z.2.1.mono Aj,z.2.2⟩,ob,A4,BV,k _ _ (.inl rfl) e,c⟩
 |set S n=>obtain⟨ob,A4,BV,t,e,c⟩:=x;exact⟨ob,A4,BV,t,k _ _ (.inl rfl) e,c⟩
 |ins C Ag Ar=>obtain⟨d,z,ne,e,EG,⟨EL,A4,BV,AH,c⟩,r⟩:=x;exact⟨ho _ d,z,ne,k _ _ (.inl rfl) e,EG,⟨EL,A4,BV,k _ _ (.inr d) AH,c⟩,r⟩
 |own y=>obtain⟨ob,e⟩:=x;exact⟨ob,k _ _ (.inl rfl) e⟩
 |e7 Ar=>obtain⟨EG,⟨EL,A4,BV,e,c⟩,r⟩:=x;exact⟨EG,⟨EL,A4,BV,k _ _ (.inl rfl) e,c⟩,r⟩
 |da lo AC=>obtain⟨t,u,v,e⟩:=x;exact⟨t,u,v,k _ _ (.inl rfl) e⟩
 |GT ob u Bh=>obtain⟨e,q⟩:=x;exact⟨k _ _ (.inl rfl) e,Bh q⟩
 |QS Ai=>have e:h.get? a=some { cls:=.none,data:=.fields Ai }:=x;show h'.get? a=some { cls:=.none,data:=.fields Ai };exact k a _ (.inl rfl) e
 |met f y=>have e:h.get? a=some (ff (.ref f) (.ref y)):=x;show h'.get? a=some (ff (.ref f) (.ref y));exact k a _ (.inl rfl) e
 |ext Tk=>obtain⟨p,⟨o,e⟩,st⟩:=x;exact⟨st _ _ p λo q=>k _ _ (.inl rfl) q,⟨o,k _ _ (.inl rfl) e⟩,st⟩
theorem Ei.lt(x:Ei P w K H h)(e:H a=some o):a<h.objs.size:=(x a o e).lt
def Ei.fresh(x:Ei P w K H h)(e:h.objs.size<=a):H a=none:=by
 cases q:H a with
 |none=>rfl
 |some u=>exact absurd (Hx (x.lt q) e) (K3 _)
def Ei.kept(x:Ei P w K H h)(k:∀b u,h.get? b=some u->h'.get? b=some u):Ei P w K H h':=λa o e=>
 (x a o e).PA (λb u _ q=>k b u q) (λ_ q=>q) λ_ _ q=>q
def Ei.laid(x:Ei P w K H h)(k:∀b u,h.get? b=some u->h'.get? b=some u)(AZ:h.objs.size<=a)(new:FS P w K (upd H a o) h' a o):Ei P w K (upd H a o) h':=λb u e=>by
 have AQ:=x.fresh AZ;by_cases A0:b=a
 .subst A0;rw[Da]at e;cases e;exact new
 .rw[Cy A0]at e;exact(x b u e).PA (λc v _ q=>k c v q) (λc q=>by rw[Cy (KI q AQ)];exact q) λc xs q=>by rw[Cy (KI q AQ)];exact q
end
def Eo(H:AB)(a:A8)(u:DN):Prop:=H a=some u\/∃o,H a=some (.GT o u)
def Eo.ok{P:Bx}{w:Bj}{K:Aa}{H:AB}{h:BI}{a:A8}{u:DN}(r:Eo H a u)(x:Ei P w K H h):FS P w K H h a u:=by
 rcases r with r|⟨o,r⟩
 .exact x a u r
 .obtain⟨_,q⟩:=x a _ r;exact q
def Ul:Option DN->Prop
 |some (.lst _)=>True
 |some (.Df _)=>True
 |some (.An _)=>True
 |some (.set _ _)=>True
 |some (.ins _ _ _)=>True
 |some (.ext _)=>True
 |_=>False
section
variable{P:Bx}{w:Bj}{K:Aa}{H:AB}{h h':BI}{x e:A8}{o':DN}
def Ei.write(ok:Ei P w K H h)(KH:Ul (H x))(he:e=x\/H e=some (.own x))(k:∀b u,b≠e->h.get? b=some u->h'.get? b=some u)(TR:∃u,h'.get? e=some u)(new:FS P w K (upd H x o') h' x o'):Ei P w K (upd H x o') h':=λb u q=>by
 have mL:∀c y,H c=some (.own y)->c≠x:=λc y r z=>by subst z;rw[r]at KH;exact KH
 have zx:∀c xs,H c=some (.tup xs)->c≠x:=λc xs r z=>by subst z;rw[r]at KH;exact KH
 by_cases A0:b=x
 .subst A0;rw[Da]at q;cases q;exact new
 .rw[Cy A0]at q;by_cases RY:b=e
  .have Gf:H b=some (.own x):=by
     rcases he with z|z
     .exact absurd (RY.trans z) A0
     .rw[RY];exact z
   rw[q]at Gf;cases Gf;obtain⟨v,BN⟩:=TR;exact⟨v,by rw[RY];exact BN⟩
  .refine(ok b u q).PA (λc v AO r=>k c v ?_ r) (λc r=>by rw[Cy (mL c b r)];exact r) λc xs r=>by rw[Cy (zx c xs r)];exact r
   rcases AO with rfl|AO
   .exact RY
   .rintro rfl;rcases he with z|z
    .exact mL c b AO z
    .rw[AO]at z;cases z;exact A0 rfl
end
structure GR(Ar ex:List A8)(H H':AB)(h h':BI):Prop where
 keep:∀b o,h.get? b=some o->H b=none->b∉Ar->b∉ex->h'.get? b=some o
 slot:∀b o,h.get? b=some o->H b=none->b∈Ar->b∉ex->∃C2,h'.get? b=some { o with slots:=C2 }
 free:∀b o,h.get? b=some o->H b=none->b∉ex->H' b=none
 there:∀b o,h.get? b=some o->b∉ex->∃o',h'.get? b=some o'
 Np:∀b xs,H b=some (.tup xs)->H' b=some (.tup xs)
 Lo:∀b o u,H b=some (.GT o u)->H' b=some (.GT o u)
 Nb:∀b Ai,H b=some (.QS Ai)->∃more,H' b=some (.QS (Ai++more))
section
variable{Ar k4 ex aiI:List A8}{H H1 Am:AB}{h A6 AA h':BI}{a x e:A8}{o:DN}
def GR.any(u:GR Ar ex H H1 h A6){b:A8}{ob:Obj}(q:h.get? b=some ob)(n:H b=none)(AG:b∉ex):∃C2,A6.get? b=some { ob with slots:=C2 }:=by
 by_cases A0:b∈Ar
 .exact u.slot b ob q n A0 AG
 .exact⟨ob.slots,u.keep b ob q n A0 AG⟩
def GR.kept(k:∀b u,h.get? b=some u->h'.get? b=some u):GR Ar ex H H h h':=
 ⟨λb ob q _ _ _=>k b ob q,λb ob q _ _ _=>⟨ob.slots,k b ob q⟩,λ_ _ _ n _=>n,λb ob q _=>⟨ob,k b ob q⟩,λ_ _ q=>q,λ_ _ _ q=>q,λ_ Ai q=>⟨#[],by rw[q];simp⟩⟩
def GR.refl:GR Ar ex H H h h:=GR.kept λ_ _ q=>q
def GR.laid(k:∀b u,h.get? b=some u->h'.get? b=some u)(AZ:h.objs.size<=a)(AQ:H a=none):GR Ar ex H (upd H a o) h h' where
 keep:=λb u q _ _ _=>k b u q
 slot:=λb u q _ _ _=>⟨u.slots,k b u q⟩
 free:=λb u q n _=>by rw[Cy (Fl (Hx (De q) AZ))];exact n
 there:=λb u q _=>⟨u,k b u q⟩
 Np:=λb xs q=>by rw[Cy (KI q AQ)];exact q
 Lo:=λb u xs q=>by rw[Cy (KI q AQ)];exact q
 Nb:=λb Ai q=>⟨#[],by rw[Cy (KI q AQ),q];simp⟩
def GR.write(KH:Ul (H x))(he:e=x\/H e=some (.own x))(k:∀b u,b≠e->h.get? b=some u->h'.get? b=some u)(TR:∃u,h'.get? e=some u):GR Ar ex H (upd H x o) h h':=by
 have AG:∀b,H b=none->b≠x:=λb n z=>by subst z;rw[n]at KH;exact KH
 have A0:∀b,H b=none->b≠e:=λb n z=>by
  subst z;rcases he with r|r
  .exact AG b n r
  .rw[n]at r;cases r
 have hm:∀b u,H b=some u->¬Ul (some u)->b≠x:=λb u q nm z=>by subst z;rw[q]at KH;exact nm KH
 refine⟨λb u q n _ _=>k b u (A0 b n) q,λb u q n _ _=>⟨u.slots,k b u (A0 b n) q⟩,λb u q n _=>by rw[Cy (AG b n)];exact n,λb u q _=>?_,
  λb xs q=>by rw[Cy (hm b _ q λz=>z)];exact q,λb u xs q=>by rw[Cy (hm b _ q λz=>z)];exact q,λb Ai q=>⟨#[],by rw[Cy (hm b _ q λz=>z),q];simp⟩⟩
 by_cases RY:b=e
 .subst RY;exact TR
 .exact⟨u,k b u RY q⟩
end
noncomputable def aI(h:BI)(H:AB):List A8:=(EN h.objs.size).filter λa=>(H a).isSome
noncomputable def O_(h:BI)(H:AB):BI:=PySem.W.hideAll h (aI h H)
def uz(h:BI)(H:AB):(O_ h H).objs.size=h.objs.size:=PySem.W.hideAll_size _ _
def uy{h:BI}{H:AB}{b:A8}{o:Obj}(e:h.get? b=some o)(n:H b=none):(O_ h H).get? b=some o:=
 PySem.W.hideAll_get _ e λhm=>by have q:(H b).isSome=true:=(List.mem_filter.mp hm).2;rw[n]at q;simp at q
def aa3{h:BI}{H:AB}{b:A8}{o:Obj}(e:(O_ h H).get? b=some o):h.get? b=some o/\H b=none:=by
 have CQ:h.get? b=some o:=PySem.W.of_hideAll (aI h H) e;refine⟨CQ,?_⟩;cases q:H b with
 |none=>rfl
 |some x=>have hm:b∈aI h H:=List.mem_filter.mpr ⟨List.mem_range.mpr (De CQ),by simp[q]⟩;have z:(O_ h H).get? b=none:=PySem.W.hideAll_none (aI h H) hm;rw[z]at e;cases e
noncomputable def r7(g h:BI)(L:A8):List (A8×Obj):=(EN h.objs.size).filterMap λa=>if a=L\/(g.get? a).isSome=true then none else(h.get? a).map λo=>(a,o)
noncomputable def rest(g h:BI)(L d:A8):List (A8×Obj):=(r7 g h L).filter λp=>decide (p.1≠d)
structure Mod(K:Aa)(mg:Str->Option A7)(base:BI):Prop where
 JQ:K.In base
 glob:base.Ns FG mg
 blt:∃HK,base.Ns builtinsNs HK/\∀x:Str,x≠"__name__"->HK x=LY x
 nolimit:base.NoLimit
structure Ac where
 prog:Bx
 w:Bj
 K:Aa
 mg:Str->Option A7
 base:BI
 A:CK
 N:List Str
 GX:AP
 RE:AB
 env:Env
 outer:List Env
 stack:List Env
 ex:List A8
 fn:Str->Bool
 calm:Bool
 Bg:List (A8×Obj)
 xe:A7->AP->Prop
noncomputable def Lj(l:List Env):List A8:=l.filterMap (·.frame)
noncomputable abbrev Ac.Ar(X:Ac):List A8:=Lj X.outer
def Gp(sc:E8)(x:Str):Prop:=sc.names.lookup x=some .local\/sc.names.lookup x=some .cell\/sc.names.lookup x=some .free
def Loc(sc:E8)(x:Str):Prop:=sc.names.lookup x=some .local\/sc.names.lookup x=some .cell
noncomputable def Look(env:Env)(h:BI)(m:Str->Option A7)(x:Str)(u:A7):Prop:=
 (env.kindOf x=some .local/\m x=some u)\/((env.kindOf x=some .cell\/env.kindOf x=some .free)/\∃c,env.cells.lookup x=some c/\h.IsCell c (some u))
structure Ac.Ok(X:Ac):Prop where
 mod:Mod X.K X.mg X.base
 kind:X.env.scope.kind=.function
 glob:X.env.globals=FG
 blt:X.env.builtins=builtinsNs
 above:X.GX.heap.objs.size<=X.env.locals
 inj:∀x y c,X.env.cells.lookup x=some c->X.env.cells.lookup y=some c->x=y
 has:∀x,(X.env.kindOf x=some .cell\/X.env.kindOf x=some .free)->∃c,X.env.cells.lookup x=some c
 VU:∀x c,X.fn x=true->X.env.cells.lookup x=some c->X.GX.heap.objs.size<=c
 hd:X.calm=true->X.A.handled=none
 frames:X.A.frames=some X.stack
 SP:X.stack=X.outer\/(X.stack=X.env::X.outer/\X.env.frame=some X.env.locals)
 j1:∀b∈X.ex,b≠X.env.locals/\∀x c,X.env.cells.lookup x=some c->c≠b
 bs:∀b o,X.base.get? b=some o->X.GX.heap.get? b=some o/\X.RE b=none
 Pt:X.base.objs.size<=X.GX.heap.objs.size
 RO:∀b o,X.base.get? b=some o->b∉X.ex
 Z4:∀b∈X.ex,b∉X.Ar
 Ly:X.GX.heap.FunFrames X.base X.outer
 SJ:∀b∈X.Ar,X.RE b=none
structure Inv(X:Ac)(pins:List (A8×Obj))(σ :List (Option V))(H:AB)(s:AP):Prop where
 ok:X.Ok
 os:s.os=X.GX.os
 bare:O9 s.gens
 base:GR X.Ar X.ex X.RE H X.GX.heap s.heap
 loc:∃m,s.heap.Ns X.env.locals m/\∀(i:Nat)(x:Str)(v:V),X.N[i]?=some x-> σ[i]?=some (some v)->Gp X.env.scope x->∃u,RelV v u/\Look X.env s.heap m x u
 cell:∀x c,X.env.cells.lookup x=some c->∃v,s.heap.IsCell c v
 free:H X.env.locals=none
 Li:∀x c,X.env.cells.lookup x=some c->H c=none
 pin:∀p∈X.Bg++pins,s.heap.get? p.1=some p.2/\H p.1=none/\p.1≠X.env.locals/\p.1∉X.Ar/\∀v,p.2.data≠.cell v
 BZ:Ei X.prog X.w X.K H s.heap
 len: σ.length=X.N.length
section
variable{X:Ac}{pins:List (A8×Obj)}{σ :List (Option V)}{H H':AB}{s:AP}{h':BI}
def Ac.Ok.aah(ok:X.Ok){b:A8}{o:Obj}(e:X.base.get? b=some o):b∉X.Ar:=λA0=>by have:=(ok.Ly.mem A0).1;rw[e]at this;cases this
theorem Inv.bs(I:θ):∀b o,X.base.get? b=some o->s.heap.get? b=some o/\H b=none:=λb o e=>
 ⟨I.base.keep b o (I.ok.bs b o e).1 (I.ok.bs b o e).2 (I.ok.aah e) (I.ok.RO b o e),I.base.free b o (I.ok.bs b o e).1 (I.ok.bs b o e).2 (I.ok.RO b o e)⟩
def Inv.Fu(I:θ):∀b o,X.base.get? b=some o->s.heap.get? b=some o:=λb o e=>(I.bs b o e).1
theorem Inv.mod(I:θ):Mod X.K X.mg X.base:=I.ok.mod
def Inv.E9(I:θ):X.K.In s.heap:=I.ok.mod.JQ.keeps I.Fu
theorem Inv.lt(I:θ):X.env.locals<s.heap.objs.size:=let⟨_,AQ,_⟩:=I.loc;AQ.lt
def Inv.Lw(I:θ):X.GX.heap.objs.size<=s.heap.objs.size:=FF I.ok.above (Qy I.lt)
def Inv.aaj(I:θ){a:A8}(h:s.heap.objs.size<=a):a∉X.Ar:=λA0=>by obtain⟨_,o,ho,_⟩:=I.ok.Ly.mem A0;exact absurd (Hx (De ho) (FF I.Lw h)) (K3 _)
def Inv.S6(I:θ):∀x c,X.env.cells.lookup x=some c->c≠X.env.locals:=λx c e z=>by obtain⟨v,o,ho,hd⟩:=I.cell x c e;obtain⟨m,⟨o',A4,BV,EF,Fw,_⟩,_⟩:=I.loc;rw[z,EF]at ho;cases ho;rw[Fw]at hd;cases hd
theorem Inv.Ly(I:θ):s.heap.FunFrames X.base X.outer:=by
 have all:∀(l:List Env),(∀b∈Lj l,b∈X.Ar)->X.GX.heap.FunFrames X.base l->s.heap.FunFrames X.base l:=by
  intro l;induction l with
  |nil=>intro _ _;trivial
  |cons env r Bh=>intro AJ AN;obtain⟨AE,⟨L,o,hf,AQ,ho,hd⟩,B5⟩:=AN;have GU:L∈X.Ar:=AJ L (by unfold Lj;rw[fL,hf];exact Mt);obtain⟨C2,e⟩:=I.base.slot L o ho (I.ok.SJ L GU) GU λz=>I.ok.Z4 L z GU;exact⟨AE,⟨L,_,hf,AQ,e,hd⟩,Bh (λb A0=>AJ b (by unfold Lj;rw[fL,hf];exact Fk _ A0)) B5⟩
 exact all X.outer (λ_ A0=>A0) I.ok.Ly
theorem Inv.stack(I:θ):s.heap.FunFrames X.base X.stack:=by
 rcases I.ok.SP with e|⟨e,hf⟩
 .rw[e];exact I.Ly
 .rw[e];obtain⟨m,AQ,_⟩:=I.loc;refine .cons (by rw[I.ok.kind];decide) hf AQ ?_ I.Ly;exact Heap.get?_none_of_le (FF I.ok.Pt I.ok.above)
def Inv.a8(I:θ):∀b∈Lj X.stack,b∈X.env.locals::X.Ar:=λb A0=>by
 rcases I.ok.SP with e|⟨e,hf⟩
 .rw[e]at A0;exact Fk _ A0
 .rw[e]at A0;unfold Lj at A0;rw[fL,hf]at A0;exact A0
def Inv.pe(I:θ):∀b∈Lj X.stack,H b=none:=λb A0=>by
 rcases List.mem_cons.mp (I.a8 b A0)with e|A0
 .rw[e];exact I.free
 .obtain⟨_,o,ho,_⟩:=I.ok.Ly.mem A0;exact I.base.free b o ho (I.ok.SJ b A0) λz=>I.ok.Z4 b z A0
def Inv.step{g':Array GenState}{t':Nat}{d':Drawn}{ch:List A8}(I:θ)(NM:∀b∈ch,(b∈X.ex\/X.GX.heap.objs.size<=b)/\b≠X.env.locals/\(∀x c,X.env.cells.lookup x=some c->c≠b)/\∀p∈X.Bg++pins,p.1≠b)(keep:∀b o,b≠X.env.locals->b∉X.Ar->b∉ch->s.heap.get? b=some o->H b=none->h'.get? b=some o)(slot:∀b o,b≠X.env.locals->b∈X.Ar->b∉ch->s.heap.get? b=some o->H b=none->∃C2,h'.get? b=some { o with slots:=C2 })(free:∀b o,b∉ch->s.heap.get? b=some o->H b=none->H' b=none)(there:∀b o,b∉ch->s.heap.get? b=some o->∃o',h'.get? b=some o')(Np:∀b xs,H b=some (.tup xs)->H' b=some (.tup xs))(Lo:∀b o u,H b=some (.GT o u)->H' b=some (.GT o u))(Nb:∀b Ai,H b=some (.QS Ai)->∃more,H' b=some (.QS (Ai++more)))(ns:∀m,s.heap.Ns X.env.locals m->h'.Ns X.env.locals m)(BZ:Ei X.prog X.w X.K H' h')(A_:O9 g') :
  Inv X pins σ H' { s with heap:=h',gens:=g',drawn:=d',toks:=t' }:=by
 have mC:∀b o,X.GX.heap.get? b=some o->b≠X.env.locals:=λb o e=>Fl (Hx (De e) I.ok.above);have ZU:∀b o,X.GX.heap.get? b=some o->b∉X.ex->b∉ch:=λb o e AG A0=>by
  rcases(NM b A0).1 with z|z
  .exact AG z
  .exact absurd (Hx (De e) z) (K3 _)
 have cellK:∀x c,X.env.cells.lookup x=some c->∀v,s.heap.IsCell c v->h'.IsCell c v:=λx c e v⟨o,ho,hd⟩=>by
  have Vv:c∉ch:=λz=>(NM c z).2.2.1 x c e rfl;by_cases AO:c∈X.Ar
  .obtain⟨C2,q⟩:=slot c o (I.S6 x c e) AO Vv ho (I.Li x c e);exact⟨_,q,hd⟩
  .exact⟨o,keep c o (I.S6 x c e) AO Vv ho (I.Li x c e),hd⟩
 refine⟨I.ok,I.os,A_,⟨λb o e n A0 AG=>?_,λb o e n A0 AG=>?_,λb o e n AG=>?_,λb o e AG=>?_,λb xs e=>Np b xs (I.base.Np b xs e),λb o xs e=>Lo b o xs (I.base.Lo b o xs e),λb Ai e=>?_⟩,?_,λx c e=>?_,?_,λx c e=>?_,λp AZ=>?_,BZ,I.len⟩
 .exact keep b o (mC b o e) A0 (ZU b o e AG) (I.base.keep b o e n A0 AG) (I.base.free b o e n AG)
 .obtain⟨C2,A9⟩:=I.base.slot b o e n A0 AG;obtain⟨ar,AH⟩:=slot b _ (mC b o e) A0 (ZU b o e AG) A9 (I.base.free b o e n AG);exact⟨ar,AH⟩
 .obtain⟨o',A9⟩:=I.base.there b o e AG;exact free b o' (ZU b o e AG) A9 (I.base.free b o e n AG)
 .obtain⟨o',A9⟩:=I.base.there b o e AG;exact there b o' (ZU b o e AG) A9
 .obtain⟨Hr,A9⟩:=I.base.Nb b Ai e;obtain⟨HZ,AH⟩:=Nb b _ A9;exact⟨Hr++HZ,by rw[AH,Array.append_assoc]⟩
 .obtain⟨m,AQ,AN⟩:=I.loc;refine⟨m,ns m AQ,λi x v A9 AH Au=>?_⟩;obtain⟨u,r,l⟩:=AN i x v A9 AH Au;refine⟨u,r,?_⟩;rcases l with l|⟨k,c,e,z⟩
  .exact .inl l
  .exact .inr ⟨k,c,e,cellK x c e _ z⟩
 .obtain⟨v,z⟩:=I.cell x c e;exact⟨v,cellK x c e v z⟩
 .obtain⟨m,⟨o,_,_,ho,_⟩,_⟩:=I.loc;exact free _ o (λz=>(NM _ z).2.1 rfl) ho I.free
 .obtain⟨v,o,ho,hd⟩:=I.cell x c e;exact free c o (λz=>(NM c z).2.2.1 x c e rfl) ho (I.Li x c e)
 .obtain⟨e,n,ne,Kt,d⟩:=I.pin p AZ;have Vv:p.1∉ch:=λz=>(NM p.1 z).2.2.2 p AZ rfl;exact⟨keep p.1 p.2 ne Kt Vv e n,free p.1 p.2 Vv e n,ne,Kt,d⟩
def Inv.un{t':Nat}(I:θ)(u:GR X.Ar [] H H' s.heap h')(BZ:Ei X.prog X.w X.K H' h'):Inv X pins σ H' { s with heap:=h',toks:=t' }:=by
 obtain⟨m,⟨o,A4,BV,ho,r⟩,_⟩:=id I.loc;obtain⟨C2,GU⟩:=u.any ho I.free γ;exact I.step (g':=s.gens) (d':=s.drawn) (ch:=[]) (λ_ z=>nomatch z) (λb o _ A0 _ e n=>u.keep b o e n A0 γ) (λb o _ A0 _ e n=>u.slot b o e n A0 γ) (λb o _ e n=>u.free b o e n γ) (λb o _ e=>u.there b o e γ) u.Np u.Lo u.Nb (λDg hm=>by obtain⟨o',Vd,b8,EF,BO⟩:=hm;rw[ho]at EF;cases EF;exact⟨_,Vd,b8,GU,BO⟩) BZ I.bare
def Inv.call{g':Array GenState}{t':Nat}{d':Drawn}{ch:List A8}(I:θ)(u:GR (Lj X.stack) ch H H' s.heap h')(BZ:Ei X.prog X.w X.K H' h')(A_:O9 g')(NM:∀b∈ch,(b∈X.ex\/X.GX.heap.objs.size<=b)/\b≠X.env.locals/\(∀x c,X.env.cells.lookup x=some c->c≠b)/\∀p∈X.Bg++pins,p.1≠b) :
  Inv X pins σ H' { s with heap:=h',gens:=g',drawn:=d',toks:=t' }:=by
 obtain⟨m,⟨o,A4,BV,ho,r⟩,_⟩:=id I.loc;obtain⟨C2,GU⟩:=u.any ho I.free λz=>(NM _ z).2.1 rfl;exact I.step (ch:=ch) NM (λb o GU A0 AO e n=>u.keep b o e n (λz=>(List.mem_cons.mp (I.a8 b z)).elim GU A0) AO) (λb o _ _ AO e n=>u.any e n AO) (λb o AO e n=>u.free b o e n AO) (λb o AO e=>u.there b o e AO) u.Np u.Lo u.Nb (λDg hm=>by obtain⟨o',Vd,b8,EF,BO⟩:=hm;rw[ho]at EF;cases EF;exact⟨_,Vd,b8,GU,BO⟩) BZ A_
def Inv.turned{t':Nat}{it:A8}(I:θ)(k:∀b o,b≠it->s.heap.get? b=some o->h'.get? b=some o)(AQ:H it=none)(GU:it≠X.env.locals)(A6:it∈X.ex\/X.GX.heap.objs.size<=it)(AA:∀x c,X.env.cells.lookup x=some c->c≠it)(Ao:∀p∈X.Bg++pins,p.1≠it):Inv X pins σ H { s with heap:=h',toks:=t' }:=by
 have Ql:∀b u,H b=some u->b≠it:=λb u e z=>by rw[z,AQ]at e;cases e
 refine I.step (g':=s.gens) (d':=s.drawn) (ch:=[it]) (λb A0=>?_) (λb o _ _ AO e _=>k b o (λz=>AO (by simp[z])) e) (λb o _ _ AO e _=>⟨o.slots,k b o (λz=>AO (by simp[z])) e⟩) (λ_ _ _ _ n=>n)
  (λb o AO e=>⟨o,k b o (λz=>AO (by simp[z])) e⟩) (λ_ _ e=>e) (λ_ _ _ e=>e) (λb Ai e=>⟨#[],by rw[e];simp⟩) (λm hm=>?_) (λb u e=>?_) I.bare
 .have e:b=it:=by simpa using A0
  subst e;exact⟨A6,GU,AA,Ao⟩
 .obtain⟨o,A4,BV,ho,r⟩:=hm;exact⟨o,A4,BV,k _ o (Hi GU) ho,r⟩
 .refine(I.BZ b u e).PA (λc v AO q=>k c v ?_ q) (λ_ q=>q) λ_ _ q=>q;rcases AO with z|z
  .rw[z];exact Ql b u e
  .exact Ql c _ z
def Inv.tok(I:θ)(t:Nat):Inv X pins σ H { s with toks:=t }:=I.un (h':=s.heap) (t':=t) GR.refl I.BZ
theorem Inv.kept{t':Nat}(I:θ)(k:∀b u,s.heap.get? b=some u->h'.get? b=some u):Inv X pins σ H { s with heap:=h',toks:=t' }:=I.un (GR.kept k) (I.BZ.kept k)
theorem Inv.laid{a:A8}{o:DN}{t':Nat}(I:θ)(k:∀b u,s.heap.get? b=some u->h'.get? b=some u)(AZ:s.heap.objs.size<=a)(new:FS X.prog X.w X.K (upd H a o) h' a o) :
  Inv X pins σ (upd H a o) { s with heap:=h',toks:=t' }:=I.un (GR.laid k AZ (I.BZ.fresh AZ)) (I.BZ.laid k AZ new)
theorem Inv.write{x e:A8}{o:DN}{t':Nat}(I:θ)(KH:Ul (H x))(he:e=x\/H e=some (.own x))(k:∀b u,b≠e->s.heap.get? b=some u->h'.get? b=some u)(TR:∃u,h'.get? e=some u)(new:FS X.prog X.w X.K (upd H x o) h' x o):Inv X pins σ (upd H x o) { s with heap:=h',toks:=t' }:=I.un (GR.write KH he k TR) (I.BZ.write KH he k TR new)
def Inv.m6{m5:List (A8×Obj)}(I:θ)(h:∀p∈m5,s.heap.get? p.1=some p.2/\H p.1=none/\p.1≠X.env.locals/\p.1∉X.Ar/\∀v,p.2.data≠.cell v):Inv X m5 σ H s:=
 ⟨I.ok,I.os,I.bare,I.base,I.loc,I.cell,I.free,I.Li,λp AZ=>(List.mem_append.mp AZ).elim (λz=>I.pin p (FZ _ z)) (h p),I.BZ,I.len⟩
def mJ{N:List Str}(hN:N.Nodup){i j:Nat}{x:Str}(a:N[i]?=some x)(b:N[j]?=some x):i=j:=by obtain⟨A6,A9⟩:=List.getElem?_eq_some_iff.mp a;obtain⟨AA,AH⟩:=List.getElem?_eq_some_iff.mp b;exact(List.getElem_inj hN).mp (A9.trans AH.symm)
def pg{M:Model}{A:CK}{E:A7->AP->Prop}{i:Nat}{x:Str}{v:V}{u:A7}{Q:Unit->AP->Prop}(I:θ)(hN:X.N.Nodup)(AC:X.N[i]?=some x)(AG:Loc X.env.scope x)(r:RelV v u)(h:∀s',Inv X pins (σ.set i (some v)) H s'->(∃a,JG a s.heap s'.heap/\(a=X.env.locals\/X.env.cells.lookup x=some a))->Q () s')(hf:X.fn x=true\/X.env.scope.names.lookup x=some .local:=by first|exact .inl rfl|exact .inr rfl|assumption):Ad M A (storeName X.env x u) Q E s:=by
 obtain⟨m,AQ,AN⟩:=id I.loc;have vJ:(X.env.scope.kind==.class||(X.env.scope.kind==.module&&X.env.locals !=X.env.globals))=false:=by rw[I.ok.kind];rfl
 have ACσ :i< σ.length:=by rw[I.len];exact(List.getElem?_eq_some_iff.mp AC).1
 have S6:=I.S6;have tracked:∀{a:A8}{h':BI},(∃o,s.heap.get? a=some o/\H a=none)->JG a s.heap h'->Ei X.prog X.w X.K H h':=λ{a h'} AD AJ b ob e=>by
  obtain⟨_,_,Yn⟩:=AD;refine(I.BZ b ob e).PA (λc Fi AO q=>(AJ.2 c ?_).trans q) (λ_ q=>q) λ_ _ q=>q;rintro rfl;rcases AO with rfl|AO
  .rw[Yn]at e;cases e
  .rw[Yn]at AO;cases AO
 rcases AG with AE|AE
 .refine wpAny_storeName_local AE AQ (λh' wZ AJ=>?_) vJ;obtain⟨aa0,_,_,wd,_⟩:=id AQ;refine h _ ⟨I.ok,I.os,I.bare,⟨λb o e n A0 AG=>?_,λb o e n A0 AG=>?_,I.base.free,λb o e AG=>?_,I.base.Np,I.base.Lo,I.base.Nb⟩,⟨_,wZ,λj y Nt A9 AH Au=>?_⟩,λy c e=>?_,I.free,I.Li,λp AZ=>?_,tracked ⟨aa0,wd,I.free⟩ AJ,(I.len:)⟩ ⟨_,AJ,.inl rfl⟩
  .exact(AJ.2 b (Fl (Hx (De e) I.ok.above))).trans (I.base.keep b o e n A0 AG)
  .obtain⟨C2,A9⟩:=I.base.slot b o e n A0 AG;exact⟨C2,(AJ.2 b (Fl (Hx (De e) I.ok.above))).trans A9⟩
  .obtain⟨o',A9⟩:=I.base.there b o e AG;exact⟨o',(AJ.2 b (Fl (Hx (De e) I.ok.above))).trans A9⟩
  .by_cases Bi:j=i
   .subst Bi;rw[AC]at A9;cases A9;rw[X0 ACσ]at AH;cases AH;exact⟨u,r,.inl ⟨AE,γ⟩⟩
   .rw[Sd (Hi Bi)]at AH;obtain⟨FH,BO,q⟩:=AN j y Nt A9 AH Au;refine⟨FH,BO,?_⟩;rcases q with⟨k,e⟩|⟨k,c,e,z⟩
    .refine .inl ⟨k,?_⟩;have:y≠x:=λe=>Bi (mJ hN A9 (e▸AC));simp[this,e]
    .exact .inr ⟨k,c,e,z.sameBut AJ (S6 y c e)⟩
  .obtain⟨Fi,z⟩:=I.cell y c e;exact⟨Fi,z.sameBut AJ (S6 y c e)⟩
  .obtain⟨e,n,ne,Kt,d⟩:=I.pin p AZ;exact⟨(AJ.2 p.1 ne).trans e,n,ne,Kt,d⟩
 .have cX:X.fn x=true:=by
    rcases hf with z|z
    .exact z
    .rw[z]at AE;cases AE
  obtain⟨c,AO⟩:=I.ok.has x (.inl AE);obtain⟨Fi,z⟩:=I.cell x c AO;refine wpAny_storeName_cell I.ok.kind AE AO z (λh' M0 AJ=>?_);obtain⟨IL,jo,wg⟩:=id z;refine h { s with heap:=h' } ⟨I.ok,I.os,I.bare,⟨λb o e n A0 AG=>?_,λb o e n A0 AG=>?_,I.base.free,λb o e AG=>?_,I.base.Np,I.base.Lo,I.base.Nb⟩,⟨m,AQ.sameBut AJ (Hi (S6 x c AO)),λj y Nt A9 AH Au=>?_⟩,λy Em e=>?_,I.free,I.Li,λp AZ=>?_,tracked ⟨IL,jo,I.Li x c AO⟩ AJ,(I.len:)⟩ ⟨c,AJ,.inr AO⟩
  .exact(AJ.2 b (Fl (Hx (De e) (I.ok.VU x c cX AO)))).trans (I.base.keep b o e n A0 AG)
  .obtain⟨C2,A9⟩:=I.base.slot b o e n A0 AG;exact⟨C2,(AJ.2 b (Fl (Hx (De e) (I.ok.VU x c cX AO)))).trans A9⟩
  .obtain⟨o',A9⟩:=I.base.there b o e AG;exact⟨o',(AJ.2 b (Fl (Hx (De e) (I.ok.VU x c cX AO)))).trans A9⟩
  .by_cases Bi:j=i
   .subst Bi;rw[AC]at A9;cases A9;rw[X0 ACσ]at AH;cases AH;exact⟨u,r,.inr ⟨.inl AE,c,AO,M0⟩⟩
   .rw[Sd (Hi Bi)]at AH;obtain⟨FH,BO,q⟩:=AN j y Nt A9 AH Au;refine⟨FH,BO,?_⟩;rcases q with q|⟨k,Em,e,FY⟩
    .exact .inl q
    .refine .inr ⟨k,Em,e,FY.sameBut AJ ?_⟩;rintro rfl;exact Bi (mJ hN A9 (I.ok.inj _ _ _ e AO▸AC))
  .by_cases jf:Em=c
   .subst jf;exact⟨_,M0⟩
   .obtain⟨Et,Dj⟩:=I.cell y Em e;exact⟨Et,Dj.sameBut AJ jf⟩
  .obtain⟨e,n,ne,Kt,d⟩:=I.pin p AZ;refine⟨(AJ.2 p.1 ?_).trans e,n,ne,Kt,d⟩;intro q;rw[q,jo]at e;have Gf:IL=p.2:=Ey e;exact d Fi (by rw[<-Gf];exact wg)
def pf{M:Model}{A:CK}{E:A7->AP->Prop}{i:Nat}{x:Str}{v:V}{u:A7}{Q:Unit->AP->Prop}(I:θ)(hN:X.N.Nodup)(AC:X.N[i]?=some x)(AG:Loc X.env.scope x)(r:RelV v u)(h:∀s',Inv X pins (σ.set i (some v)) H s'->Q () s')(hf:X.fn x=true\/X.env.scope.names.lookup x=some .local:=by first|exact .inl rfl|exact .inr rfl|assumption):Ad M A (storeName X.env x u) Q E s:=
 pg I hN AC AG r (λs' Ni _=>h s' Ni) hf
def Inv.sC{s':AP}{ch:List A8}(I:θ)(ho:s'.os=s.os)(u:GR (Lj X.stack) ch H H' s.heap s'.heap)(BZ:Ei X.prog X.w X.K H' s'.heap)(A_:O9 s'.gens)(NM:∀b∈ch,(b∈X.ex\/X.GX.heap.objs.size<=b)/\b≠X.env.locals/\(∀x c,X.env.cells.lookup x=some c->c≠b)/\∀p∈X.Bg++pins,p.1≠b):Inv X pins σ H' s':=by obtain⟨h',g',d',t',o'⟩:=s';have e:o'=s.os:=ho;subst e;exact I.call (g':=g') (t':=t') (d':=d') u BZ A_ NM
end
abbrev DT:=A7->Option A8->AB->Prop
abbrev St:=List (Option V)
abbrev Cd:=V->AB->Prop
abbrev TE:=St->AB->Cd->Prop
abbrev TT:=St->AB->(Bool->AB->Prop)->Prop
abbrev Ew:=St->AB->(List V->AB->Prop)->Prop
structure Ends where
 B6:St->AB->Prop
 EP:Cd
 Fu:St->AB->Prop:=λ_ _=>False
 Dn:St->AB->Prop:=λ_ _=>False
abbrev FT:=Ends->St->AB->Prop
def G_(X:Ac)(pins:List (A8×Obj))(σ :St)(Q:Cd)(u:A7)(s':AP):Prop:=∃v H',Inv X pins σ H' s'/\RelV v u/\Q v H'
def YF(X:Ac)(pins:List (A8×Obj))(σ :St)(Q:Bool->AB->Prop)(b:Bool)(s':AP):Prop:=∃H',Inv X pins σ H' s'/\Q b H'
def hR(X:Ac)(pins:List (A8×Obj))(σ :St)(Q:List V->AB->Prop)(us:List A7)(s':AP):Prop:=∃vs H',Inv X pins σ H' s'/\Vals vs us/\Q vs H'
noncomputable def Rz(X:Ac)(pins:List (A8×Obj))(D:Ends)(f:Flow)(s':AP):Prop:=
 match f with
 |.next=>∃ σ' H',Inv X pins σ' H' s'/\D.B6 σ' H'
 |.brk=>∃ σ' H',Inv X pins σ' H' s'/\D.Fu σ' H'
 |.cont=>∃ σ' H',Inv X pins σ' H' s'/\D.Dn σ' H'
 |.ret u=>∃v σ' H',Inv X pins σ' H' s'/\RelV v u/\D.EP v H'
def Av(X:Ac)(e:AU)(t:TE):Prop:=
 ∀(pins:List (A8×Obj))(s:AP)(σ :St)(H:AB)(Q:Cd),θ->t σ H Q->Ad (B2 X.prog X.w) X.A (BJ e X.env) (G_ X pins σ Q) X.xe s
noncomputable def F_(X:Ac)(e:AU)(t:TT):Prop:=
 ∀(pins:List (A8×Obj))(s:AP)(σ :St)(H:AB)(Q:Bool->AB->Prop),θ->t σ H Q->Ad (B2 X.prog X.w) X.A (isTrue e X.env (BJ e X.env)) (YF X pins σ Q) X.xe s
noncomputable def Jk(X:Ac)(e:AU)(t:TT):Prop:=
 ∀(whole:Sem A7)(pins:List (A8×Obj))(s:AP)(σ :St)(H:AB)(Q:Bool->AB->Prop),θ->t σ H Q->Ad (B2 X.prog X.w) X.A (isTrue e X.env whole) (YF X pins σ Q) X.xe s
def Jk.pt{X:Ac}{e:AU}{t:TT}(h:Jk X e t):F_ X e t:=h _
noncomputable def GH(X:Ac)(A4:List AU)(t:Ew):Prop:=
 ∀(pos:Pos)(pins:List (A8×Obj))(s:AP)(σ :St)(H:AB)(Q:List V->AB->Prop),θ->t σ H Q->Ad (B2 X.prog X.w) X.A (spliced (D4 pos (BF A4 X.env))) (hR X pins σ Q) X.xe s
def DO(X:Ac)(st:Be)(t:FT):Prop:=
 ∀(pins:List (A8×Obj))(s:AP)(σ :St)(H:AB)(D:Ends),θ->t D σ H->Ad (B2 X.prog X.w) X.A (exec st X.env) (Rz X pins D) X.xe s
def GP(X:Ac)(st:List Be)(t:FT):Prop:=
 ∀(pins:List (A8×Obj))(s:AP)(σ :St)(H:AB)(D:Ends),θ->t D σ H->Ad (B2 X.prog X.w) X.A (execs st X.env) (Rz X pins D) X.xe s
def Bc{α:Type}{t:Sem α}{Q RK:α->AP->Prop}{M:Model}{A:CK}{E:A7->AP->Prop}{s:AP}(h:Ad M A t Q E s)(DU:∀a s,Q a s->RK a s):Ad M A t RK E s:=Iv h DU λ_ _ x=>x
section
variable{X:Ac}
def bin{a b:AU}{C7 tb:TE}(AD:Av X a C7)(A0:Av X b tb){pins:List (A8×Obj)}{s:AP}{σ :St}{H:AB}{R:V->V->AB->Prop}(I:θ)(h:C7 σ H λx H1=>tb σ H1 λy Am=>R x y Am){α:Type}{Q:α->AP->Prop}{f:A7->A7->Sem α}(hf:∀v u s2 x y Am,Inv X pins σ Am s2->RelV x v->RelV y u->R x y Am->Ad (B2 X.prog X.w) X.A (f v u) Q X.xe s2) :
  Ad (B2 X.prog X.w) X.A (BJ a X.env) (λv DL=>Ad (B2 X.prog X.w) X.A (BJ b X.env) (λu L2=>Ad (B2 X.prog X.w) X.A (f v u) Q X.xe L2) X.xe DL) X.xe s:=by
 refine Bc (AD pins s σ H _ I h) λv s1⟨x,H1,Az,AK,Ak⟩=>?_;refine Bc (A0 pins s1 σ H1 _ Az Ak) λu s2⟨y,Am,Bl,B7,BC⟩=>?_;exact hf v u s2 x y Am Bl AK B7 BC
def Vm(i:Nat):TE:=λσ H Q=>∃v,σ[i]?=some (some v)/\Q v H
def SS(v:V):TE:=λ_ H Q=>Q v H
def IM{i:Nat}{x:Str}{pos:Pos}(hN:X.N[i]?=some x)(BN:Gp X.env.scope x)(hd:ζ:=by decide)(DV:(x==("__classdict__" :Str))=false:=by decide):Av X (.Name x pos) (Vm i):=by
 intro pins s σ H Q I h;obtain⟨v,e,h⟩:=h;obtain⟨m,AQ,AN⟩:=I.loc;obtain⟨u,r,l⟩:=AN i x v hN e BN;have fin:G_ X pins σ Q u s:=⟨v,H,I,r,h⟩;rcases l with⟨AE,hm⟩|⟨AE,c,AO,jg⟩
 .exact wpAny_Name (wpAny_loadName_local I.ok.kind AE AQ hm fin) hd
 .rcases AE with AE|AE
  .exact wpAny_Name (wpAny_loadName_cell I.ok.kind AE AO jg fin) hd
  .exact wpAny_Name (wpAny_loadName_free I.ok.kind AE AO jg fin DV) hd
def abf{i j pos}:Av X (.Constant (.int i) j pos) (SS (.int i)):=λ_ _ _ H _ I h=>wpAny_Constant_int ⟨.int i,H,I.tok _,⟨_,rfl⟩,h⟩
def abT{b j pos}:Av X (.Constant (.bool b) j pos) (SS (.AR b)):=λ_ _ _ H _ I h=>Constant_bool ⟨.AR b,H,I,rfl,h⟩
def aaw{j pos}:Av X (.Constant .none j pos) (SS .non):=λ_ _ _ H _ I h=>Constant_none ⟨.non,H,I,rfl,h⟩
def aaz{x j pos}:Av X (.Constant (.str x) j pos) (SS (.str x)):=λ_ _ _ H _ I h=>Calls.Constant_str ⟨.str x,H,I.tok _,⟨_,rfl⟩,h⟩
def EE(X:Ac)(x:Str):Prop:=X.env.kindOf x=some .globalImplicit
def cS{E:A7->AP->Prop}{pins:List (A8×Obj)}{s:AP}{σ :St}{H:AB}{x:Str}{u:A7}{pos:Pos}{Q:A7->AP->Prop}(I:θ)(A_:EE X x)(hm:X.mg x=some u)(h:Q u s)(hd:ζ:=by decide):Ad (B2 X.prog X.w) X.A (BJ (.Name x pos) X.env) Q E s:=
 qK I.ok.kind A_ (Calls.loadGlobal_global (by rw[I.ok.glob];exact I.mod.glob.keeps I.Fu) hm h) hd
def Om{E:A7->AP->Prop}{pins:List (A8×Obj)}{s:AP}{σ :St}{H:AB}{x:Str}{u:A7}{pos:Pos}{Q:A7->AP->Prop}(I:θ)(A_:EE X x)(hm:X.mg x=none)(BN:LY x=some u)(h:Q u s)(AQ:x≠"__name__":=by decide)(hd:ζ:=by decide):Ad (B2 X.prog X.w) X.A (BJ (.Name x pos) X.env) Q E s:=by obtain⟨HK,A6,AA⟩:=I.mod.blt;exact qK I.ok.kind A_ (Calls.loadGlobal_builtin (by rw[I.ok.glob];exact I.mod.glob.keeps I.Fu) hm (by rw[I.ok.blt];exact A6.keeps I.Fu) ((AA x AQ).trans BN) h) hd
def lx{x:Str}{v:V}{u:A7}{pos:Pos}(A_:EE X x)(hm:X.mg x=some u)(r:RelV v u)(hd:ζ:=by decide):Av X (.Name x pos) (SS v):=
 λ_ _ _ H _ I h=>cS I A_ hm ⟨v,H,I,r,h⟩ hd
def abU{x:Str}{v:V}{u:A7}{pos:Pos}(A_:EE X x)(hm:X.mg x=none)(BN:LY x=some u)(r:RelV v u)(AQ:x≠"__name__":=by decide)(hd:ζ:=by decide):Av X (.Name x pos) (SS v):=
 λ_ _ _ H _ I h=>Om I A_ hm BN ⟨v,H,I,r,h⟩ AQ hd
variable{a b:AU}{C7 tb:TE}{pos:Pos}
noncomputable def YE(X:Ac)(op:Ki)(a b:AU)(t:TE):Prop:=
 ∀(pins:List (A8×Obj))(s:AP)(σ :St)(H:AB)(Q:Cd),θ->t σ H Q->
  Ad (B2 X.prog X.w) X.A (BJ a X.env) (λv DL=>Ad (B2 X.prog X.w) X.A (BJ b X.env) (λu L2=>Ad (B2 X.prog X.w) X.A (GE op v u) (G_ X pins σ Q) X.xe L2) X.xe DL) X.xe s
def mI(b:AU){op:Ki}(h:op≠.In)(AA:op≠.NotIn):Ir op b=false:=by
 have A9:(op==CmpOp.In)=false:=by cases op<;>first|rfl|exact absurd rfl h
 have AH:(op==CmpOp.NotIn)=false:=by cases op<;>first|rfl|exact absurd rfl AA
 cases b<;>simp[Ir,A9,AH]
def eo(t:TE):TT:=λσ H Q=>t σ H λx H1=>∃c,x=.AR c/\Q c H1
def abW{op:Ki}{t:TE}(h:YE X op a b t)(A6:Ir op b=false:=by first|exact mI _ ε ε|rfl):Av X (.Compare a [op] [b] pos) t:=λpins s σ H Q I hw=>wpAny_Compare1 (h pins s σ H Q I hw) A6
def lY{op:Ki}{t:TE}(h:YE X op a b t)(A6:Ir op b=false:=by first|exact mI _ ε ε|rfl):F_ X (.Compare a [op] [b] pos) (eo t):=by intro pins s σ H Q I hw;refine wpAny_isTrue_Compare1 (Bc (h pins s σ H _ I hw) λv s1 A6=>Bc A6 λu s2 AA=>Bc AA λc s3⟨x,H1,Az,AK,Ak⟩=>?_) A6;obtain⟨d,rfl,q⟩:=Ak;cases AK;exact LM ⟨H1,Az,q⟩
def acO{e:AU}{t:TE}(h:Av X e t)(he:∀whole,isTrue e X.env whole=(do let v <-whole;N2 e.pos;K6 [v] (truthy v)):=by intro _;rfl):F_ X e (eo t):=by intro pins s σ H Q I hw;refine isTrue_plain (Bc (h pins s σ H _ I hw) λv s1⟨x,H1,Az,AK,Ak⟩=>?_) (he _);obtain⟨d,rfl,q⟩:=Ak;cases AK;exact LM ⟨H1,Az,q⟩
variable{Es aA:TT}{rest:List AU}
def pq(t u:TT):TT:=λσ H Q=>t σ H λc H1=>if c=true then u σ H1 Q else Q false H1
def pC(t u:TT):TT:=λσ H Q=>t σ H λc H1=>if c=true then Q true H1 else u σ H1 Q
def pA(t:TT):TT:=λσ H Q=>t σ H λc H1=>Q (!c) H1
def acW(AD:F_ X a Es):Jk X (.BoolOp .And [a] pos) Es:=by
 intro SW pins s σ H Q I h;refine isTrue_and (Bc (AD pins s σ H Q I h) λc s1 e=>?_);cases c with
 |true=>exact isTrue_and_nil e
 |false=>exact e
def acY(AD:F_ X a Es):Jk X (.BoolOp .Or [a] pos) Es:=by
 intro SW pins s σ H Q I h;refine isTrue_or (Bc (AD pins s σ H Q I h) λc s1 e=>?_);cases c with
 |false=>exact isTrue_or_nil e
 |true=>exact e
def acV(AD:F_ X a Es)(A0:Jk X (.BoolOp .And (b::rest) pos) aA):Jk X (.BoolOp .And (a::b::rest) pos) (pq Es aA):=by
 intro SW pins s σ H Q I h;refine isTrue_and (Bc (AD pins s σ H _ I h) λc s1⟨H1,Az,Ak⟩=>?_);cases c with
 |true=>exact A0 SW pins s1 σ H1 Q Az Ak
 |false=>exact⟨H1,Az,Ak⟩
def acX(AD:F_ X a Es)(A0:Jk X (.BoolOp .Or (b::rest) pos) aA):Jk X (.BoolOp .Or (a::b::rest) pos) (pC Es aA):=by
 intro SW pins s σ H Q I h;refine isTrue_or (Bc (AD pins s σ H _ I h) λc s1⟨H1,Az,Ak⟩=>?_);cases c with
 |true=>exact⟨H1,Az,Ak⟩
 |false=>exact A0 SW pins s1 σ H1 Q Az Ak
def acN(AD:F_ X a Es):F_ X (.UnaryOp .Not a pos) (pA Es):=by intro pins s σ H Q I h;exact isTrue_not (AD pins s σ H (λc H1=>Q (!c) H1) I h)
def ps(C7 tb:TE):TE:=λσ H Q=>C7 σ H λx H1=>∃c,x=.AR c/\if c=true then tb σ H1 Q else Q (.AR false) H1
def pB(C7:TE):TE:=λσ H Q=>C7 σ H λx H1=>∃c,x=.AR c/\Q (.AR (!c)) H1
def aay{op}{t:TE}(h:Av X a t):Av X (.BoolOp op [a] pos) t:=λpins s σ H Q I hw=>BoolOp_one (h pins s σ H Q I hw)
def abS(AD:Av X a C7)(A0:Av X (.BoolOp .And (b::rest) pos) tb):Av X (.BoolOp .And (a::b::rest) pos) (ps C7 tb):=by
 intro pins s σ H Q I h;refine BoolOp_and (Bc (AD pins s σ H _ I h) λv s1⟨x,H1,Az,AK,Ak⟩=>?_);obtain⟨c,rfl,Ak⟩:=Ak;cases AK;refine LM ?_;cases c with
 |true=>exact A0 pins s1 σ H1 Q Az Ak
 |false=>exact⟨.AR false,H1,Az,rfl,Ak⟩
def aax(AD:Av X a C7):Av X (.UnaryOp .Not a pos) (pB C7):=by intro pins s σ H Q I h;refine UnaryOp_ (Bc (AD pins s σ H _ I h) λv s1⟨x,H1,Az,AK,Ak⟩=>?_);obtain⟨c,rfl,Ak⟩:=Ak;cases AK;exact not_of (LM ⟨.AR (!c),H1,Az,rfl,Ak⟩)
def p7(t:TT)(C7 tb:TE):TE:=λσ H Q=>t σ H λc H1=>if c=true then C7 σ H1 Q else tb σ H1 Q
def abe{c:AU}(AO:F_ X c Es)(AD:Av X a C7)(A0:Av X b tb):Av X (.IfExp c a b pos) (p7 Es C7 tb):=by
 intro pins s σ H Q I h;refine wpAny_IfExp (Bc (AO pins s σ H _ I h) λd s1⟨H1,Az,Ak⟩=>?_);cases d with
 |true=>exact AD pins s1 σ H1 Q Az Ak
 |false=>exact A0 pins s1 σ H1 Q Az Ak
end
noncomputable def CA(K:Aa)(H:AB)(a:A8)(xs:List V):Prop:=
 Eo H a (.lst xs)\/
  ∃(o:Obj)(its:Array A7)(n:Nat),K.lookup a=some o/\o.cls=.type "list"/\o.dict=none/\o.data=.seq its n/\its.size<=CD/\Vals xs its.toList
noncomputable def CT(K:Aa)(H:AB)(a:A8)(xs:List V):Prop:=
 Eo H a (.tup xs)\/
  ∃(o:Obj)(its:Array A7)(n:Nat),K.lookup a=some o/\o.cls=.type "tuple"/\o.data=.seq its n/\its.size<=CD/\Vals xs its.toList
noncomputable def rZ:A7->Option V
 |.none=>some .non
 |.bool b=>some (.AR b)
 |.int i _=>some (.int i)
 |.str x _=>some (.str x)
 |.bytes b _=>some (.NG b)
 |.float b _=>some (.Z6 b)
 |.ref a=>some (.ref a)
 |.type n=>some (.ty n)
 |_=>none
def RelV.abs{x:V}{u:A7}(r:RelV x u):rZ u=some x:=by
 cases x with
 |non=>cases r;rfl
 |AR _=>cases r;rfl
 |int _=>obtain⟨t,rfl⟩:=r;rfl
 |str _=>obtain⟨t,rfl⟩:=r;rfl
 |NG _=>obtain⟨t,rfl⟩:=r;rfl
 |Z6 _=>obtain⟨t,rfl⟩:=r;rfl
 |ref _=>cases r;rfl
 |ty _=>cases r;rfl
def RelV.inj{x y:V}{u:A7}(r:RelV x u)(q:RelV y u):x=y:=Ey (r.abs.symm.trans q.abs)
theorem Vals.inj:∀{xs ys:List V}{us:List A7},Vals xs us->Vals ys us->xs=ys
 |_,_,_,.nil,.nil=>rfl
 |_,_,_,.cons r t,.cons BO t'=>by rw[r.inj BO,Vals.inj t t']
section
variable{X:Ac}{pins:List (A8×Obj)}{σ :St}{H:AB}{s:AP}{a:A8}{xs ys:List V}
def CA.of{K:Aa}(h:H a=some (.lst xs)):CA K H a xs:=.inl (.inl h)
def CT.of{K:Aa}(h:H a=some (.tup xs)):CT K H a xs:=.inl (.inl h)
def Inv.list(I:θ)(h:CA X.K H a xs):∃its:List A7,Vals xs its/\PlainL s.heap a its.toArray/\xs.length<=CD:=by
 rcases h with h|⟨o,its,n,AE,AO,hd,AJ,Aq,r⟩
 .obtain⟨z,its,n,r,e⟩:=h.ok I.BZ;exact⟨its,r,⟨_,n,e,rfl,rfl,rfl⟩,z⟩
 .refine⟨its.toList,r,⟨o,n,I.E9 a o AE,AO,hd,(AJ:)⟩,?_⟩;have e:=r.length;erw[UN]at e;lia
def Inv.tuple(I:θ)(h:CT X.K H a xs):∃its:List A7,Vals xs its/\IsTup s.heap a its.toArray/\xs.length<=CD:=by
 rcases h with h|⟨o,its,n,AE,AO,AJ,Aq,r⟩
 .obtain⟨z,its,r,p⟩:=h.ok I.BZ;exact⟨its,r,p,z⟩
 .refine⟨its.toList,r,⟨o,I.E9 a o AE,AO,n,(AJ:)⟩,?_⟩;have e:=r.length;erw[UN]at e;lia
def Inv.cV(I:θ)(h:CA X.K H a xs)(h':CA X.K H a ys):xs=ys:=by
 obtain⟨its,r,⟨o,n,e,_,_,d⟩,_⟩:=I.list h;obtain⟨its',BO,⟨o',Na,CQ,_,_,d'⟩,_⟩:=I.list h';rw[e]at CQ;cases CQ;rw[d]at d';injection d' with d1 _;have:its=its':=(congrArg Array.toList d1:)
 subst this;exact r.inj BO
def Inv.eB(I:θ)(h:CT X.K H a xs)(h':CT X.K H a ys):xs=ys:=by
 obtain⟨its,r,⟨o,e,_,n,d⟩,_⟩:=I.tuple h;obtain⟨its',BO,⟨o',CQ,_,Na,d'⟩,_⟩:=I.tuple h';rw[e]at CQ;cases CQ;rw[d]at d';injection d' with d1 _;have:its=its':=(congrArg Array.toList d1:)
 subst this;exact r.inj BO
end
noncomputable abbrev Ac.Nu(X:Ac)(E:A7->AP->Prop):Ac:={ X with xe:=E }
noncomputable abbrev Ac.Kw(X:Ac):Ac:=X.Nu λ_ _=>False
theorem Ac.Ok.Nu{X:Ac}(ok:X.Ok)(E:A7->AP->Prop):(X.Nu E).Ok:=
 ⟨ok.mod,ok.kind,ok.glob,ok.blt,ok.above,ok.inj,ok.has,ok.VU,ok.hd,ok.frames,ok.SP,ok.j1,ok.bs,ok.Pt,ok.RO,ok.Z4,ok.Ly,ok.SJ⟩
def Ac.Ok.QU{X:Ac}{E:A7->AP->Prop}(ok:(X.Nu E).Ok):X.Ok:=
 ⟨ok.mod,ok.kind,ok.glob,ok.blt,ok.above,ok.inj,ok.has,ok.VU,ok.hd,ok.frames,ok.SP,ok.j1,ok.bs,ok.Pt,ok.RO,ok.Z4,ok.Ly,ok.SJ⟩
section
variable{X:Ac}{pins:List (A8×Obj)}{σ :St}{H:AB}{s:AP}{E:A7->AP->Prop}
theorem Inv.Nu(I:θ)(E:A7->AP->Prop):Inv (X.Nu E) pins σ H s:=⟨I.ok.Nu E,I.os,I.bare,I.base,I.loc,I.cell,I.free,I.Li,I.pin,I.BZ,I.len⟩
theorem Inv.QU(I:Inv (X.Nu E) pins σ H s):θ:=⟨I.ok.QU,I.os,I.bare,I.base,I.loc,I.cell,I.free,I.Li,I.pin,I.BZ,I.len⟩
theorem Rz.QU{D:Ends}{f:Flow}{s':AP}(h:Rz (X.Nu E) pins D f s'):Rz X pins D f s':=by
 cases f with
 |next=>obtain⟨σ',H',I,q⟩:=h;exact⟨σ',H',I.QU,q⟩
 |brk=>obtain⟨σ',H',I,q⟩:=h;exact⟨σ',H',I.QU,q⟩
 |cont=>obtain⟨σ',H',I,q⟩:=h;exact⟨σ',H',I.QU,q⟩
 |ret u=>obtain⟨v,σ',H',I,r,q⟩:=h;exact⟨v,σ',H',I.QU,r,q⟩
theorem GP.Kw{st:List Be}{t:FT}(h:GP X.Kw st t):GP X st t:=λpins s σ H D I hw=>
 Iv (h pins s σ H D (I.Nu _) hw) (λ_ _ q=>q.QU) λ_ _ z=>Kc z
end
section
variable{X:Ac}{st:Be}{rest:List Be}{t u:FT}{e:AU}{E4:TE}{pos:Pos}
def et:FT:=λD σ H=>D.B6 σ H
def eu(t u:FT):FT:=λD σ H=>t { D with B6:=u D } σ H
def lX:GP X [] et:=λ_ _ σ H _ I h=>X8 ⟨σ,H,I,h⟩
def lW(A6:DO X st t)(AA:GP X rest u):GP X (st::rest) (eu t u):=by
 intro pins s σ H D I h;refine wpAny_execs_cons (Bc (A6 pins s σ H { D with B6:=u D } I h) λf s1 q=>?_);cases f with
 |next=>obtain⟨σ',H',Ni,q⟩:=q;exact AA pins s1 σ' H' D Ni q
 |ret v=>exact q
 |brk=>exact q
 |cont=>exact q
def dS(A6:DO X st t):GP X [st] t:=by
 intro pins s σ H D I h;refine wpAny_execs_cons (Bc (A6 pins s σ H D I h) λf s1 q=>?_);cases f with
 |next=>exact X8 q
 |ret v=>exact q
 |brk=>exact q
 |cont=>exact q
def Inv.quiet{pins:List (A8×Obj)}{σ :St}{H:AB}{s:AP}(I:θ):interactive X.env=false:=by simp[interactive,I.ok.kind]
def p4(E4:TE):FT:=λD σ H=>E4 σ H λ_ H1=>D.B6 σ H1
def aV(he:Av X e E4)(AJ:O6 e none pos.line X.env=pure false:=by rfl):DO X (.Expr e pos) (p4 E4):=by intro pins s σ H D I h;exact wpAny_Expr_any (Bc (he pins s σ H _ I h) λv s1⟨x,H1,Az,AK,Ak⟩=>⟨σ,H1,Az,Ak⟩) I.quiet AJ
def aF(E4:TE):FT:=λD σ H=>E4 σ H D.EP
def W3(he:Av X e E4):DO X (.Return (some e) pos) (aF E4):=by intro pins s σ H D I h;exact wpAny_Return_some (Bc (he pins s σ H _ I h) λv s1⟨x,H1,Az,AK,Ak⟩=>⟨x,σ,H1,Az,AK,Ak⟩)
def er(c:TT)(t u:FT):FT:=λD σ H=>c σ H λb H1=>if b=true then t D σ H1 else u D σ H1
def lU{c:AU}{a b:List Be}{GY:TT}(AO:F_ X c GY)(AD:GP X a t)(A0:GP X b u):DO X (.If c a b pos) (er GY t u):=by
 intro pins s σ H D I h;refine wpAny_If (Bc (AO pins s σ H _ I h) λd s1⟨H1,Az,Ak⟩=>?_);cases d with
 |true=>exact AD pins s1 σ H1 D Az Ak
 |false=>exact A0 pins s1 σ H1 D Az Ak
def p9:FT:=λ_ _ _=>False
def lV:DO X st p9:=λ_ _ _ _ _ _ h=>h.elim
end
abbrev Ib:=V->St->AB->(St->AB->Prop)->Prop
abbrev Nk:=List V->St->AB->(St->AB->Prop)->Prop
noncomputable def KP(X:Ac)(target:AU)(t:Ib):Prop:=
 ∀(pins:List (A8×Obj))(s:AP)(σ :St)(H:AB)(v:V)(u:A7)(Q:St->AB->Prop),θ->RelV v u->t v σ H Q->
  Ad (B2 X.prog X.w) X.A (Kf target X.env u) (λ_ s'=>∃ σ' H',Inv X pins σ' H' s'/\Q σ' H') X.xe s
noncomputable def Um(X:Ac)(Aw:List AU)(t:Nk):Prop:=
 ∀(pins:List (A8×Obj))(s:AP)(σ :St)(H:AB)(vs:List V)(us:List A7)(Q:St->AB->Prop),θ->Vals vs us->t vs σ H Q->
  Ad (B2 X.prog X.w) X.A (assignInOrder ((LU Aw X.env).map (·.2)) us) (λ_ s'=>∃ σ' H',Inv X pins σ' H' s'/\Q σ' H') X.xe s
abbrev hF:=V->V->V->AB->(AB->Prop)->Prop
noncomputable def iK(X:Ac)(t:hF):Prop:=
 ∀(pins:List (A8×Obj))(s:AP)(σ :St)(H:AB)(o i v:V)(D6 Fx u:A7)(Q:AB->Prop),θ->RelV o D6->RelV i Fx->RelV v u->t o i v H Q->
  Ad (B2 X.prog X.w) X.A (setItem D6 Fx u) (λ_ s'=>∃H',Inv X pins σ H' s'/\Q H') X.xe s
section
variable{X:Ac}{pos:Pos}
def Jx(i:Nat):Ib:=λv σ H Q=>Q (σ.set i (some v)) H
def ZE{i:Nat}{x:Str}(hN:X.N.Nodup)(AC:X.N[i]?=some x)(AG:Loc X.env.scope x)(hf:X.fn x=true\/X.env.scope.names.lookup x=some .local:=by first|exact .inl rfl|exact .inr rfl|assumption):KP X (.Name x pos) (Jx i):=by intro pins s σ H v u Q I r h;exact wpAny_assign_Name (pf I hN AC AG r (λs' Ni=>⟨_,H,Ni,h⟩) hf)
def YX:Nk:=λvs σ H Q=>vs=[]/\Q σ H
def V0(t:Ib)(u:Nk):Nk:=λvs σ H Q=>∃v r,vs=v::r/\t v σ H λσ' H'=>u r σ' H' Q
def m2:Um X [] YX:=by intro pins s σ H vs us Q I r h;obtain⟨e,h⟩:=h;subst e;cases r;exact assignInOrder_nil ⟨σ,H,I,h⟩
def dO{e:AU}{A4:List AU}{t:Ib}{u:Nk}(A6:KP X e t)(AA:Um X A4 u)(AJ:(LU (e::A4) X.env).map (·.2)=Kf e X.env::(LU A4 X.env).map (·.2):=by rfl):Um X (e::A4) (V0 t u):=by
 intro pins s σ H vs us Q I r h;obtain⟨v,L4,A9,h⟩:=h;subst A9;cases r with
 |cons r IN=>rw[AJ];refine assignInOrder_cons (Bc (A6 pins s σ H _ _ _ I r h) λ_ s1⟨σ1,H1,Az,Ak⟩=>?_);exact AA pins s1 σ1 H1 _ _ Q Az IN Ak
def YY(K:Aa)(n:Nat)(t:Nk):Ib:=λv σ H Q=>∃a xs,v=.ref a/\CT K H a xs/\xs.length=n/\t xs σ H Q
def m1{A4:List AU}{k:Nat}{t:Nk}{n:Nat}(AO:X.calm=true)(h:Um X A4 t)(AQ:(LU A4 X.env).length=n:=by rfl)(Oe:(LU A4 X.env).findIdx? (·.1)=none:=by rfl):KP X (.Tuple A4 k pos) (YY X.K n t):=by intro pins s σ H v u Q I r hw;obtain⟨a,xs,A9,AV,AN,hw⟩:=hw;subst A9;cases r;obtain⟨its,CJ,Aj,Aq⟩:=I.tuple AV;refine assign_Tuple_tuple (I.ok.hd AO) Aj (by simp[AQ,<-AN,CJ.length]) Oe λh' AG=>?_;have Az:Inv X pins σ H { s with heap:=h' }:=I.kept (t':=s.toks) λb o e=>AG b o (Fl (De e)) e;exact h pins _ σ H xs _ Q Az (CJ:) hw
def vj(to aH:TE)(t:hF):Ib:=λv σ H Q=>to σ H λo H1=>aH σ H1 λi Am=>t o i v Am λCb=>Q σ Cb
def ab3 {o i:AU} {to aH:TE} {t:hF} (ho:Av X o to) (AC:Av X i aH) (AJ:iK X t)(AD:∀v,Kf (.Subscript o i pos) X.env v=(do
    let D6 <-K6 [v] (BJ o X.env)
    let Fx <-K6 [v,D6] (BJ i X.env)
    N2 pos
    K6 [v,D6,Fx] (setItem D6 Fx v)
    release [v,D6,Fx] []):=by intro _;rfl):KP X (.Subscript o i pos) (vj to aH t):=by
 intro pins s σ H v u Q I r h;rw[AD];refine AL (K2 (Bc (ho pins s σ H _ I h) λD6 s1⟨x,H1,Az,AK,Ak⟩=>?_));refine AL (K2 (Bc (AC pins s1 σ H1 _ Az Ak) λFx s2⟨y,Am,Bl,B7,BC⟩=>?_));refine AL (wpAny_standAt (AL (K2 (Bc (AJ pins s2 σ Am x y v D6 Fx u _ Bl AK B7 r BC) λ_ s3⟨Cb,Dk,EB⟩=>?_))));exact wpAny_release ⟨σ,Cb,Dk,EB⟩
def NB(E4:TE)(g:Ib):FT:=λD σ H=>E4 σ H λx H1=>g x σ H1 D.B6
def m9{Bw e:AU}{E4:TE}{g:Ib}(he:Av X e E4)(A_:KP X Bw g)(AJ:swapsWithSole [Bw] e pos.line X.env=pure false:=by rfl)(hw:swappedStores [Bw] e X.env=pure none:=by rfl)(A6:(LU [Bw] X.env).map (·.2)=[Kf Bw X.env]:=by rfl):DO X (.Assign [Bw] e pos) (NB E4 g):=by intro pins s σ H D I h;refine wpAny_Assign_stores (Bc (he pins s σ H _ I h) λv s1⟨x,H1,Az,AK,Ak⟩=>?_) AJ hw;rw[A6];exact Bc (A_ pins s1 σ H1 x v _ Az AK Ak) λ_ s2 q=>q
def RT{i:Nat}{x:Str}{e:AU}{E4:TE}{pos':Pos}(hN:X.N.Nodup)(AC:X.N[i]?=some x)(AG:Loc X.env.scope x)(he:Av X e E4)(AJ:O6 e (some (.Name x pos')) pos.line X.env=pure false:=by rfl)(hf:X.fn x=true\/X.env.scope.names.lookup x=some .local:=by first|exact .inl rfl|exact .inr rfl|assumption) :
  DO X (.Assign [.Name x pos'] e pos) (NB E4 (Jx i)):=by
 intro pins s σ H D I h;refine wpAny_Assign_Name (Bc (he pins s σ H _ I h) λv s1⟨y,H1,Az,AK,Ak⟩=>?_) AJ;exact pf Az hN AC AG AK (λs2 Bl=>⟨_,H1,Bl,Ak⟩) hf
end
section
variable{X:Ac}{pos:Pos}
noncomputable def pF(c:TT)(tb:FT):FT:=λD σ H=>∃W:Nat->St->AB->Prop,(∃m,W m σ H)/\∀m σ H,W m σ H->
 c σ H λb H1=>if b=true then ∃N:St->AB->Prop,(∀ σ' H',N σ' H'->∃Dg,Dg<m/\W Dg σ' H')/\tb { D with B6:=N,Dn:=N,Fu:=D.B6 } σ H1 else D.B6 σ H1
def acJ{c:AU}{body:List Be}{GY:TT}{tb:FT}(AZ:PassesOwn (B2 X.prog X.w) X.A X.env X.xe)(AO:F_ X c GY)(A0:GP X body tb):DO X (.While c body [] pos) (pF GY tb):=by
 intro pins s σ H D I h;obtain⟨W,⟨m0,PC⟩,turn⟩:=h;refine wpAny_While (codeAny_whileLoop (λn s'=>∃ σ' H',Inv X pins σ' H' s'/\W n σ' H') ?_ m0 ⟨σ,H,I,PC⟩);rintro n s1 ⟨σ1,H1,Az,FC⟩;refine Qt AZ (Bc (AO pins s1 σ1 H1 _ Az (turn n σ1 H1 FC)) λb s2⟨Am,Bl,BC⟩=>?_);cases b with
 |true=>
  obtain⟨N,hN,BC⟩:=BC;rw[if_pos rfl];refine Qt AZ (Bc (A0 pins s2 σ1 Am _ Bl BC) λf s3 EB=>?_);cases f with
  |next=>obtain⟨σ3,Cb,Dk,JU⟩:=EB;obtain⟨Dg,hm,Jc⟩:=hN σ3 Cb JU;exact⟨Dg,hm,σ3,Cb,Dk,Jc⟩
  |cont=>obtain⟨σ3,Cb,Dk,JU⟩:=EB;obtain⟨Dg,hm,Jc⟩:=hN σ3 Cb JU;exact⟨Dg,hm,σ3,Cb,Dk,Jc⟩
  |brk=>exact EB
  |ret v=>exact EB
 |false=>rw[if_neg Fy];exact X8 ⟨σ1,Am,Bl,BC⟩
end
structure It where
 go:Nat->AB->Prop
 Jd:Nat->AB->V->AB->Prop
 stop:Nat->AB->Prop
def KO(X:Ac)(pins:List (A8×Obj))(H:AB)(b:A8):Prop:=
 H b=none/\b≠X.env.locals/\b∉X.Ar/\(b∈X.ex\/X.GX.heap.objs.size<=b)/\(∀x c,X.env.cells.lookup x=some c->c≠b)/\∀p∈X.Bg++pins,p.1≠b
def Inv.OU{X:Ac}{pins:List (A8×Obj)}{σ :St}{H H':AB}{s:AP}{b:A8}(I:θ)(A0:s.heap.objs.size<=b)(AQ:H' b=none):KO X pins H' b:=by
 refine⟨AQ,Mw (Hx I.lt A0),I.aaj A0,.inr (FF I.Lw A0),λx c e z=>?_,λp AZ z=>?_⟩
 .obtain⟨v,q⟩:=I.cell x c e;exact absurd (Hx q.lt (by rw[z];exact A0)) (K3 _)
 .exact absurd (Hx (De (I.pin p AZ).1) (by rw[z];exact A0)) (K3 _)
structure Turn(P:Bx)(w:Bj)(K:Aa)(Bw:AU)(DA:It)(Al:List A8)(it:A8)(HP:Nat->BI->Prop):Prop where
 mem:it∈Al
 obj:∀i h,HP i h->∀b∈Al,∃o,h.get? b=some o/\∀v,o.data≠.cell v
 keep:∀i h h',HP i h->(∀b∈Al,∀o,h.get? b=some o->h'.get? b=some o)->HP i h'
 item:∀(X:Ac),X.prog=P->X.w=w->X.K=K->X.calm=true->∀(i:Nat)(pins:List (A8×Obj))(s:AP)(σ :St)(H:AB)(E:A7->AP->Prop),θ->(∀b∈Al,KO X pins H b)->HP i s.heap->DA.go i H->
  Ad (B2 P w) X.A (JN (.ref it)) (λr s1=>∃u,r=some u/\
   Ad (B2 P w) X.A (X9 Bw (.ref it) u) (λ_ s2=>∃x H',Inv X pins σ H' s2/\RelV x u/\DA.Jd i H x H'/\HP (i+1) s2.heap/\∀b∈Al,H' b=none) E s1) E s
 done:∀(X:Ac),X.prog=P->X.w=w->X.K=K->X.calm=true->∀(i:Nat)(pins:List (A8×Obj))(s:AP)(σ :St)(H:AB)(E:A7->AP->Prop),θ->(∀b∈Al,KO X pins H b)->HP i s.heap->DA.stop i H->
  Ad (B2 P w) X.A (JN (.ref it)) (λr s1=>r=none/\Inv X pins σ H s1) E s
 self:∀(A:CK)(i:Nat)(s:AP)(Q:A7->AP->Prop)(E:A7->AP->Prop),HP i s.heap->Q (.ref it) s->Ad (B2 P w) A (pyIter (.ref it)) Q E s
abbrev TI:=St->AB->(It->AB->Prop)->Prop
noncomputable def iJ(X:Ac)(pins:List (A8×Obj))(σ :St)(Bw:AU)(R:It->AB->Prop)(Zm:A7)(s2:AP):Prop:=
 ∃(it:A8)(Al:List A8)(HP:Nat->BI->Prop)(DA:It)(H':AB),Zm=.ref it/\Inv X pins σ H' s2/\Turn X.prog X.w X.K Bw DA Al it HP/\HP 0 s2.heap/\(∀b∈Al,KO X pins H' b)/\R DA H'
noncomputable def GI(X:Ac)(Bw iter:AU)(JE:TI):Prop:=
 ∀(pins:List (A8×Obj))(s:AP)(σ :St)(H:AB)(R:It->AB->Prop),θ->JE σ H R->
  Ad (B2 X.prog X.w) X.A (BJ iter X.env) (λv s1=>Ad (B2 X.prog X.w) X.A (pyIter v) (iJ X pins σ Bw R) X.xe s1) X.xe s
def Ya{M:Model}{A:CK}{E:A7->AP->Prop}{s:AP}{Bw:AU}{it:A8}{u:A7}{o:Obj}{n:String}{vs:Array A7}{Q:Unit->AP->Prop}(ho:s.heap.get? it=some o)(AO:o.cls=.type n)(hd:o.data=.fields vs)(AQ:["enumerate","zip","dict_itemiterator","dict_reverseitemiterator","odict_iterator","itertools.zip_longest","itertools.pairwise"].contains n=false)(DU:Q () s):Ad M A (X9 Bw (.ref it) u) Q E s:=by
 unfold X9
 cases Bw<;>first
  |exact Ay DU
  |(cases u<;>first
      |exact Ay DU
      |(refine AL (wpAny_load ho ?_)
        rw[AO,hd];show Ad M A (if(["enumerate","zip","dict_itemiterator","dict_reverseitemiterator","odict_iterator","itertools.zip_longest","itertools.pairwise"].contains n&&vs[0]?==some (Kg _))=true then _ else _) Q E s;rw[if_neg (by intro h;rw[AQ,Bool.false_and]at h;cases h)];exact Ay DU))
def h2(K:Aa)(a:A8):It:=
 ⟨λi H=>∃xs x,CA K H a xs/\xs[i]?=some x,λi H x H'=>H'=H/\∀xs,CA K H a xs->xs[i]?=some x,λi H=>∃xs,CA K H a xs/\xs.length<=i⟩
noncomputable def h4(K:Aa)(a:A8):It:=
 ⟨λi H=>∃xs x,CT K H a xs/\xs[i]?=some x,λi H x H'=>H'=H/\∀xs,CT K H a xs->xs[i]?=some x,λi H=>∃xs,CT K H a xs/\xs.length<=i⟩
def Uj(lo:Int)(n:Nat):It:=⟨λi _=>i<n,λi H x H'=>H'=H/\x=.int (lo+i),λi _=>n<=i⟩
def ae5{P:Bx}{w:Bj}{K:Aa}{Bw:AU}(a it:A8):Turn P w K Bw (h2 K a) [it] it (λi h=>h.IsListIter it a i) where
 mem:=γ
 obj:=λi h st b A0=>by
  have e:b=it:=(A0:)
  subst e;obtain⟨o,e,c,d⟩:=st;exact⟨o,e,λv z=>by rw[d]at z;cases z⟩
 keep:=λi h h' st k=>st.at λo e=>k it γ o e
 item:=by intro X DF hw Ap AO i pins s σ H E I hf st A_;subst DF hw Ap;obtain⟨xs,x,AV,AG⟩:=A_;obtain⟨its,CJ,p,Aq⟩:=I.list AV;obtain⟨u,BM,Fp⟩:=CJ.get AG;obtain⟨f0,f1,f2,Fc,f4,Ie⟩:=hf it γ;refine wpAny_pyNext_list_item st p.isList (x:=u) (BM:) λh' Mn L0=>?_;have Az:Inv X pins σ H { s with heap:=h' }:=I.turned (t':=s.toks) (λb o A0 e=>(L0.2 b A0).trans e) f0 f1 Fc f4 Ie;obtain⟨o,e,c,d⟩:=id Mn;exact⟨u,rfl,Ya (s:={ s with heap:=h' }) e c d ε ⟨x,H,Az,Fp,⟨rfl,λys Ba=>by rw[I.cV Ba AV];exact AG⟩,Mn,λb A0=>(hf b A0).1⟩⟩
 done:=by intro X DF hw Ap AO i pins s σ H E I hf st A_;subst DF hw Ap;obtain⟨xs,AV,AG⟩:=A_;obtain⟨its,CJ,p,Aq⟩:=I.list AV;obtain⟨f0,f1,f2,Fc,f4,Ie⟩:=hf it γ;have AN:=CJ.length;exact wpAny_pyNext_list_end (I.ok.hd AO) st p.isList (by simp;lia) λh' BS=>⟨rfl,I.turned (t':=s.toks) (λb o A0 e=>BS b o A0 e) f0 f1 Fc f4 Ie⟩
 self:=λ_ _ _ _ _ st h=>wpAny_pyIter_listiter st h
def ae8{P:Bx}{w:Bj}{K:Aa}{Bw:AU}(a it:A8):Turn P w K Bw (h4 K a) [it] it (λi h=>h.IsTupleIter it a i) where
 mem:=γ
 obj:=λi h st b A0=>by
  have e:b=it:=(A0:)
  subst e;obtain⟨o,e,c,d⟩:=st;exact⟨o,e,λv z=>by rw[d]at z;cases z⟩
 keep:=λi h h' st k=>st.at λo e=>k it γ o e
 item:=by intro X DF hw Ap AO i pins s σ H E I hf st A_;subst DF hw Ap;obtain⟨xs,x,AV,AG⟩:=A_;obtain⟨its,CJ,p,Aq⟩:=I.tuple AV;obtain⟨u,BM,Fp⟩:=CJ.get AG;obtain⟨f0,f1,f2,Fc,f4,Ie⟩:=hf it γ;refine wpAny_pyNext_tuple_item st (show s.heap.IsTuple a its.toArray from p) (x:=u) (BM:) λh' Mn L0=>?_;have Az:Inv X pins σ H { s with heap:=h' }:=I.turned (t':=s.toks) (λb o A0 e=>(L0.2 b A0).trans e) f0 f1 Fc f4 Ie;obtain⟨o,e,c,d⟩:=id Mn;exact⟨u,rfl,Ya (s:={ s with heap:=h' }) e c d ε ⟨x,H,Az,Fp,⟨rfl,λys Ba=>by rw[I.eB Ba AV];exact AG⟩,Mn,λb A0=>(hf b A0).1⟩⟩
 done:=by intro X DF hw Ap AO i pins s σ H E I hf st A_;subst DF hw Ap;obtain⟨xs,AV,AG⟩:=A_;obtain⟨its,CJ,p,Aq⟩:=I.tuple AV;obtain⟨f0,f1,f2,Fc,f4,Ie⟩:=hf it γ;have AN:=CJ.length;exact wpAny_pyNext_tuple_end (I.ok.hd AO) st (show s.heap.IsTuple a its.toArray from p) (by simp;lia) λh' BS=>⟨rfl,I.turned (t':=s.toks) (λb o A0 e=>BS b o A0 e) f0 f1 Fc f4 Ie⟩
 self:=λ_ _ _ _ _ st h=>wpAny_pyIter_tupleiter st h
def ae6{P:Bx}{w:Bj}{K:Aa}{Bw:AU}(it:A8)(lo:Int)(n:Nat):Turn P w K Bw (Uj lo n) [it] it (λi h=>IsRangeIter h it (lo+(i:Nat)*1) ((n:Int)-(i:Nat)) 1) where
 mem:=γ
 obj:=λi h st b A0=>by
  have e:b=it:=(A0:)
  subst e;exact⟨_,st,λv z=>by have FY:XT _=Sn v:=z;cases FY⟩
 keep:=λi h h' st k=>k it γ _ st
 item:=by intro X DF hw Ap AO i pins s σ H E I hf st A_;subst DF hw Ap;obtain⟨f0,f1,f2,Fc,f4,Ie⟩:=hf it γ;have W:=Walks.range (prog:=X.prog) (w:=X.w) (I.ok.hd AO) it lo 1 n;refine W.item i s _ _ A_ st λv h' C8 BN Mn BY=>?_;obtain⟨t,rfl⟩:=BN;have Az:Inv X pins σ H { s with heap:=h',toks:=C8 }:=I.turned (λb o A0 e=>BY b o (A0:) e) f0 f1 Fc f4 Ie;refine⟨_,rfl,Ya (s:={ s with heap:=h',toks:=C8 }) (n:="range_iterator") Mn rfl rfl ε ⟨.int (lo+i),H,Az,⟨t,?_⟩,⟨rfl,rfl⟩,Mn,λb A0=>(hf b A0).1⟩⟩;rw[Int.mul_one]
 done:=by intro X DF hw Ap AO i pins s σ H E I hf st A_;subst DF hw Ap;obtain⟨f0,f1,f2,Fc,f4,Ie⟩:=hf it γ;exact wpAny_pyNext_range_end (I.ok.hd AO) st (by have:n<=i:=A_;lia) λh' BS=>⟨rfl,I.turned (t':=s.toks) (λb o A0 e=>BS b o A0 e) f0 f1 Fc f4 Ie⟩
 self:=λ_ _ _ _ _ st h=>wpAny_pyIter_rangeiter st h
section
variable{X:Ac}{Bw:AU}
def jy(K:Aa)(Ex:TE):TI:=λσ H R=>Ex σ H λx H1=>∃a,x=.ref a/\(∃xs,CA K H1 a xs)/\R (h2 K a) H1
def jX(K:Aa)(Ex:TE):TI:=λσ H R=>Ex σ H λx H1=>∃a,x=.ref a/\(∃xs,CT K H1 a xs)/\R (h4 K a) H1
def ab6{l:AU}{Ex:TE}(AN:Av X l Ex):GI X Bw l (jy X.K Ex):=by
 intro pins s σ H R I h;refine Bc (AN pins s σ H _ I h) λv s1⟨x,H1,Az,AK,Ak⟩=>?_;obtain⟨a,e,⟨xs,AV⟩,q⟩:=Ak;subst e;cases AK;obtain⟨its,CJ,p,Aq⟩:=Az.list AV;refine wpAny_pyIter_list p.isList ?_;refine⟨s1.heap.objs.size,[s1.heap.objs.size],_,_,H1,rfl,Az.kept (t':=s1.toks) λb o e=>DM _ e,ae5 a _,⟨_,FE _ rfl,rfl,rfl⟩,λb A0=>?_,q⟩;have e:b=s1.heap.objs.size:=(A0:)
 subst e;exact Az.OU (CY _) (Az.BZ.fresh (CY _))
def abA{l:AU}{Ex:TE}(AN:Av X l Ex):GI X Bw l (jX X.K Ex):=by
 intro pins s σ H R I h;refine Bc (AN pins s σ H _ I h) λv s1⟨x,H1,Az,AK,Ak⟩=>?_;obtain⟨a,e,⟨xs,AV⟩,q⟩:=Ak;subst e;cases AK;obtain⟨its,CJ,p,Aq⟩:=Az.tuple AV;refine wpAny_pyIter_tuple (show s1.heap.IsTuple a its.toArray from p) ?_;refine⟨s1.heap.objs.size,[s1.heap.objs.size],_,_,H1,rfl,Az.kept (t':=s1.toks) λb o e=>DM _ e,ae8 a _,⟨_,FE _ rfl,rfl,rfl⟩,λb A0=>?_,q⟩;have e:b=s1.heap.objs.size:=(A0:)
 subst e;exact Az.OU (CY _) (Az.BZ.fresh (CY _))
def nP{pins:List (A8×Obj)}{σ :St}{H:AB}{s:AP}{R:It->AB->Prop}{E:A7->AP->Prop}{lo AC:Int}{t u v:Tok}{C8:Nat}(I:θ)(A6: -(2^62)<=lo)(AA:lo<2^62)(Ao: -(2^62)<=AC)(BG:AC<2^62)(q:R (Uj lo (AC-lo).toNat) H):Ad (B2 X.prog X.w) X.A (pyIter (.ref s.heap.objs.size)) (iJ X pins σ Bw R) E { s with heap:=s.heap.push { cls:=.type "range",data:=.fields #[.int lo t,.int AC u,.int 1 v] },toks:=C8 }:=by
 refine wpAny_pyIter_range (IsRange.new ..) (small_one A6 AA Ao BG) ?_;have Az:Inv X pins σ H { s with heap:=s.heap.push { cls:=.type "range",data:=.fields #[.int lo t,.int AC u,.int 1 v] },toks:=C8 }:=I.kept λb o e=>DM _ e
 refine⟨(s.heap.push { cls:=.type "range",data:=.fields #[.int lo t,.int AC u,.int 1 v] }).objs.size,[(s.heap.push { cls:=.type "range",data:=.fields #[.int lo t,.int AC u,.int 1 v] }).objs.size],_,_,H,rfl,
  Az.kept (t':=C8) λb o e=>DM _ e,ae6 _ lo (AC-lo).toNat,?_,λb A0=>?_,q⟩
 .have A9:lo+((0:Nat):Int)*1=lo:=γ
  have AH:(((AC-lo).toNat:Nat):Int)-((0:Nat):Int)=fD lo AC 1:=by rw[rangeSize_one];split<;>lia
  show IsRangeIter _ _ (lo+((0:Nat):Int)*1) ((((AC-lo).toNat:Nat):Int)-((0:Nat):Int)) 1;rw[A9,AH];exact FE _ rfl
 .have e:b=(s.heap.push { cls:=.type "range",data:=.fields #[.int lo t,.int AC u,.int 1 v] }).objs.size:=by simpa using A0
  subst e;exact Az.OU (CY _) (Az.BZ.fresh (CY _))
def jz(C7:Ew):TI:=λσ H R=>C7 σ H λvs H1=>∃j:Int,vs=[.int j]/\-(2^62)<=j/\j<2^62/\R (Uj 0 j.toNat) H1
def k0(C7:Ew):TI:=λσ H R=>C7 σ H λvs H1=>∃i j:Int,vs=[.int i,.int j]/\(-(2^62)<=i/\i<2^62/\-(2^62)<=j/\j<2^62)/\R (Uj i (j-i).toNat) H1
def ab7{a:AU}{C7:Ew}{p pos:Pos}(A_:EE X "range")(hm:X.mg "range"=none)(AD:GH X [a] C7)(AJ:BF [a] X.env=[(false,BJ a X.env)]:=by rfl):GI X Bw (.Call (.Name "range" p) [a] [] pos) (jz C7):=by
 intro pins s σ H R I h;refine Call_ (Om I A_ hm boot_range (Qm (Bc (AD pos pins s σ H _ I h) λus s1⟨vs,H1,Az,AK,Ak⟩=>?_) AJ rfl));obtain⟨j,e,Ak,BC,q⟩:=Ak;subst e;cases AK with
 |cons r IN=>cases IN;obtain⟨t,rfl⟩:=r;exact call_range_1 (nP Az δ δ Ak BC (q:))
def ab8{a b:AU}{C7:Ew}{p pos:Pos}(A_:EE X "range")(hm:X.mg "range"=none)(AD:GH X [a,b] C7)(AJ:BF [a,b] X.env=[(false,BJ a X.env),(false,BJ b X.env)]:=by rfl)(Fd:BF [b] X.env=[(false,BJ b X.env)]:=by rfl) :
  GI X Bw (.Call (.Name "range" p) [a,b] [] pos) (k0 C7):=by
 intro pins s σ H R I h;refine Call_ (Om I A_ hm boot_range (Qm (Bc (AD pos pins s σ H _ I h) λus s1⟨vs,H1,Az,AK,Ak⟩=>?_) (by rw[AJ,Fd]) (by rw[Fd];rfl)));obtain⟨i,j,e,⟨Ak,BC,EB,RU⟩,q⟩:=Ak;subst e;cases AK with
 |cons r IN=>
  cases IN with
  |cons BO IN=>cases IN;obtain⟨t,rfl⟩:=r;obtain⟨t',rfl⟩:=BO;exact call_range_2 (nP Az Ak BC EB RU q)
noncomputable def p5(JE:TI)(g:Ib)(tb:FT):FT:=λD σ H=>JE σ H λDA H1=>∃W:Nat->Nat->St->AB->Prop,(∃m,W 0 m σ H1)/\∀i m σ H,W i m σ H->
 (DA.stop i H/\D.B6 σ H)\/(DA.go i H/\∃N:St->AB->Prop,(∀ σ' H',N σ' H'->∃Dg,Dg<m/\W (i+1) Dg σ' H')/\∀x H',DA.Jd i H x H'->g x σ H' λσ2 Am=>tb { D with B6:=N,Dn:=N,Fu:=D.B6 } σ2 Am)
noncomputable def W2(Al:List A8)(h:BI):List (A8×Obj):=Al.filterMap λb=>(h.get? b).map λo=>(b,o)
def ZP{Al:List A8}{h:BI}{b:A8}{o:Obj}(A0:b∈Al)(e:h.get? b=some o):(b,o)∈W2 Al h:=List.mem_filterMap.mpr ⟨b,A0,by rw[e];rfl⟩
def aa4{Al:List A8}{h:BI}{p:A8×Obj}(AZ:p∈W2 Al h):p.1∈Al/\h.get? p.1=some p.2:=by
 obtain⟨b,A0,e⟩:=List.mem_filterMap.mp AZ;cases q:h.get? b with
 |none=>rw[q]at e;cases e
 |some o=>rw[q]at e;have CQ:(b,o)=p:=Ey e;subst CQ;exact⟨A0,q⟩
def Inv.pinned{pins:List (A8×Obj)}{σ :St}{H:AB}{s:AP}{Al:List A8}(I:θ)(hf:∀b∈Al,KO X pins H b)(ho:∀b∈Al,∃o,s.heap.get? b=some o/\∀v,o.data≠.cell v):Inv X (pins++W2 Al s.heap) σ H s:=
 I.m6 λp AZ=>(List.mem_append.mp AZ).elim (λz=>I.pin p (Fz _ z)) λz=>by obtain⟨A0,e⟩:=aa4 z;obtain⟨f0,f1,f2,_⟩:=hf p.1 A0;obtain⟨o,CQ,d⟩:=ho p.1 A0;rw[e]at CQ;cases CQ;exact⟨e,f0,f1,f2,d⟩
def Inv.aJ{pins pl:List (A8×Obj)}{σ :St}{H:AB}{s:AP}(I:Inv X (pins++pl) σ H s):θ:=I.m6 λp AZ=>I.pin p (Fz _ (FZ _ AZ))
def acI{iter:AU}{body:List Be}{JE:TI}{g:Ib}{tb:FT}{pos:Pos}(AZ:PassesOwn (B2 X.prog X.w) X.A X.env X.xe)(AO:X.calm=true)(AC:GI X Bw iter JE)(A_:KP X Bw g)(A0:GP X body tb)(AJ:∀x,PM iter X.env x=pure x:=by intro _;rfl):DO X (.For Bw iter body [] pos) (p5 JE g tb):=by
 intro pins s σ H D I h;refine wpAny_For (Bc (AC pins s σ H _ I h) λv s1 A6=>Bc A6 λZm s2 AA=>?_) AJ;obtain⟨it,Al,HP,DA,Am,e,Bl,T,Lu,f2,W,⟨m0,PC⟩,turn⟩:=AA;subst e;have stat:∀{H':AB},(∀b∈Al,H' b=none)->∀b∈Al,KO X pins H' b:=λAQ b A0=>⟨AQ b A0,(f2 b A0).2⟩;refine codeAny_forLoop_any (λn s'=>∃i σ' H',Inv X pins σ' H' s'/\HP i s'.heap/\(∀b∈Al,H' b=none)/\W i n σ' H') ?_ m0 ⟨0,σ,Am,Bl,Lu,λb A0=>(f2 b A0).1,PC⟩;rintro n s3 ⟨i,σ3,Cb,Dk,pa,ig,Jc⟩;rcases turn i n σ3 Cb Jc with⟨stop,qn⟩|⟨go,N,hN,step⟩
 .refine Qt AZ (Bc (T.done X rfl rfl rfl AO i pins s3 σ3 Cb X.xe Dk (stat ig) pa stop) λr s4⟨B5,Ln⟩=>?_);subst B5;exact X8 ⟨σ3,Cb,Ln,qn⟩
 .refine Qt AZ (Bc (T.item X rfl rfl rfl AO i pins s3 σ3 Cb X.xe Dk (stat ig) pa go) λr s4⟨u,B5,BG⟩=>?_);subst B5;refine Qt AZ (Bc BG λ_ s5⟨x,Jh,T5,Ru,agr,Td,Z8⟩=>?_);have rH:=T5.pinned (stat Z8) (T.obj _ _ Td);refine Qt AZ (Bc (A_ _ s5 σ3 Jh x u _ rH Ru (step x Jh agr)) λ_ Gg⟨σ6,T3,Ui,acd⟩=>?_);refine Qt AZ (Bc (A0 _ Gg σ6 T3 _ Ui acd) λf Ce QE=>?_);have again:∀{σ7:St}{Gn:AB},Inv X (pins++W2 Al s5.heap) σ7 Gn Ce->N σ7 Gn->∃m,m<n/\∃i σ' H',Inv X pins σ' H' Ce/\HP i Ce.heap/\(∀b∈Al,H' b=none)/\W i m σ' H':=λ{σ7 Gn} L6 IJ=>by
   obtain⟨Dg,hm,afQ⟩:=hN σ7 Gn IJ;refine⟨Dg,hm,i+1,σ7,Gn,L6.aJ,T.keep _ _ _ Td λb A0 o e=>(L6.pin (b,o) (Fz _ (Fz _ (ZP A0 e)))).1,λb A0=>?_,afQ⟩;obtain⟨o,e,d⟩:=T.obj _ _ Td b A0;exact(L6.pin (b,o) (Fz _ (Fz _ (ZP A0 e)))).2.1
  cases f with
  |next=>obtain⟨σ7,Gn,L6,IJ⟩:=QE;exact again L6 IJ
  |cont=>obtain⟨σ7,Gn,L6,IJ⟩:=QE;exact again L6 IJ
  |brk=>obtain⟨σ7,Gn,L6,QE⟩:=QE;exact⟨σ7,Gn,L6.aJ,QE⟩
  |ret v=>obtain⟨aff,σ7,Gn,L6,J_,QE⟩:=QE;exact⟨aff,σ7,Gn,L6.aJ,J_,QE⟩
end
abbrev Ek:=V->V->AB->Cd->Prop
noncomputable def E5(X:Ac)(f:A7->A7->Sem A7)(r:Ek):Prop:=
 ∀(pins:List (A8×Obj))(s:AP)(σ :St)(H:AB)(x y:V)(v u:A7)(Q:Cd),θ->RelV x v->RelV y u->r x y H Q->
  Ad (B2 X.prog X.w) X.A (f v u) (G_ X pins σ Q) X.xe s
noncomputable def YG(X:Ac)(f:A7->Sem A7)(r:V->AB->Cd->Prop):Prop:=
 ∀(pins:List (A8×Obj))(s:AP)(σ :St)(H:AB)(x:V)(v:A7)(Q:Cd),θ->RelV x v->r x H Q->
  Ad (B2 X.prog X.w) X.A (f v) (G_ X pins σ Q) X.xe s
noncomputable def IW(X:Ac)(f:A7)(r:List V->AB->Cd->Prop):Prop:=
 ∀(pins:List (A8×Obj))(s:AP)(σ :St)(H:AB)(xs:List V)(us:List A7)(Q:Cd),θ->Vals xs us->r xs H Q->
  Ad (B2 X.prog X.w) X.A (call f us) (G_ X pins σ Q) X.xe s
noncomputable def rR(X:Ac)(r:V->AB->(Bool->AB->Prop)->Prop):Prop:=
 ∀(pins:List (A8×Obj))(s:AP)(σ :St)(H:AB)(x:V)(v:A7)(Q:Bool->AB->Prop),θ->RelV x v->r x H Q->
  Ad (B2 X.prog X.w) X.A (truthy v) (YF X pins σ Q) X.xe s
def Vk(r:Ek)(C7 tb:TE):TE:=λσ H Q=>C7 σ H λx H1=>tb σ H1 λy Am=>r x y Am Q
def pE(r:V->AB->Cd->Prop)(C7:TE):TE:=λσ H Q=>C7 σ H λx H1=>r x H1 Q
def U6(C:Int->Int->Prop)(g:Int->Int->V):Ek:=λx y H Q=>∃i j,x=.int i/\y=.int j/\C i j/\Q (g i j) H
def N8(g:Int->Int->V):Ek:=λx y H Q=>∃i j,x=.int i/\y=.int j/\Q (g i j) H
def nO(g:Int->V):V->AB->Cd->Prop:=λx H Q=>∃i,x=.int i/\Q (g i) H
section
variable{X:Ac}{a b c:AU}{C7 tb GY:TE}{pos:Pos}
def bV(AD:Av X a C7)(A0:Av X b tb){pins:List (A8×Obj)}{s:AP}{σ :St}{H:AB}{R:V->V->AB->Prop}(I:θ)(h:C7 σ H λx H1=>tb σ H1 λy Am=>R x y Am){Q:A7->AP->Prop}{f:A7->A7->Sem A7}(hf:∀v u s2 x y Am,Inv X pins σ Am s2->RelV x v->RelV y u->R x y Am->Ad (B2 X.prog X.w) X.A (f v u) Q X.xe s2) :
  Ad (B2 X.prog X.w) X.A (BJ a X.env) (λv DL=>Ad (B2 X.prog X.w) X.A (BJ b X.env) (λu L2=>Ad (B2 X.prog X.w) X.A (f v u) Q X.xe L2) X.xe DL) X.xe s:=by
 refine Bc (AD pins s σ H _ I h) λv s1⟨x,H1,Az,AK,Ak⟩=>?_;refine Bc (A0 pins s1 σ H1 _ Az Ak) λu s2⟨y,Am,Bl,B7,BC⟩=>?_;exact hf v u s2 x y Am Bl AK B7 BC
def dL{op:Operator}{r:Ek}(ho:E5 X (JM op) r)(AD:Av X a C7)(A0:Av X b tb):Av X (.BinOp a op b pos) (Vk r C7 tb):=by intro pins s σ H Q I h;exact wpAny_BinOp (bV AD A0 I h λv u s2 x y Am Bl BR Bt q=>ho pins s2 σ Am x y v u Q Bl BR Bt q)
def ab1{op:UnaryOp}{r:V->AB->Cd->Prop}(ho:YG X (unaryOp op) r)(AD:Av X a C7):Av X (.UnaryOp op a pos) (pE r C7):=by intro pins s σ H Q I h;exact UnaryOp_ (Bc (AD pins s σ H _ I h) λv s1⟨x,H1,Az,AK,Ak⟩=>ho pins s1 σ H1 x v Q Az AK Ak)
def ZA{f:A7->A7->Sem A7}{C:Int->Int->Prop}{g:Int->Int->Int}(rule:∀(i j:Int)(t u:Tok)(s:AP)(Q:A7->AP->Prop)(E:A7->AP->Prop),C i j->Q (.int (g i j) s.toks) { s with toks:=s.toks+1 }->Ad (B2 X.prog X.w) X.A (f (.int i t) (.int j u)) Q E s) :
  E5 X f (U6 C λi j=>.int (g i j)):=by
 intro pins s σ H x y v u Q I BR Bt h;obtain⟨i,j,rfl,rfl,AO,q⟩:=h;obtain⟨t,rfl⟩:=BR;obtain⟨t',rfl⟩:=Bt;exact rule i j t t' s _ _ AO ⟨.int (g i j),H,I.tok _,⟨_,rfl⟩,q⟩
def lf{f:A7->A7->Sem A7}{g:Int->Int->Int}(rule:∀(i j:Int)(t u:Tok)(s:AP)(Q:A7->AP->Prop)(E:A7->AP->Prop),Q (.int (g i j) s.toks) { s with toks:=s.toks+1 }->Ad (B2 X.prog X.w) X.A (f (.int i t) (.int j u)) Q E s) :
  E5 X f (N8 λi j=>.int (g i j)):=by
 intro pins s σ H x y v u Q I BR Bt h;obtain⟨i,j,rfl,rfl,q⟩:=h;obtain⟨t,rfl⟩:=BR;obtain⟨t',rfl⟩:=Bt;exact rule i j t t' s _ _ ⟨.int (g i j),H,I.tok _,⟨_,rfl⟩,q⟩
def e2{f:A7->A7->Sem A7}{g:Int->Int->Bool}(rule:∀(i j:Int)(t u:Tok)(s:AP)(Q:A7->AP->Prop)(E:A7->AP->Prop),Q (.bool (g i j)) s->Ad (B2 X.prog X.w) X.A (f (.int i t) (.int j u)) Q E s) :
  E5 X f (N8 λi j=>.AR (g i j)):=by
 intro pins s σ H x y v u Q I BR Bt h;obtain⟨i,j,rfl,rfl,q⟩:=h;obtain⟨t,rfl⟩:=BR;obtain⟨t',rfl⟩:=Bt;exact rule i j t t' s _ _ ⟨.AR (g i j),H,I,rfl,q⟩
def Y6(i j:Int):Prop:=0<j/\j<1073741824
def Y7(i j:Int):Prop:=0<=j/\j<=1000000/\i.natAbs<2^64
def TY(i j:Int):Prop:=(-(2^64)<i/\i<2^64)\/(-(2^64)<j/\j<2^64)
def TY.ok{i j:Int}(h:TY i j):IntMulOk i j:=by
 rcases h with⟨A6,AA⟩|⟨A6,AA⟩
 .exact .of_left (intBits_le_64 A6 AA)
 .exact .of_right (intBits_le_64 A6 AA)
def aaI:E5 X (JM .Add) (N8 λi j=>.int (i+j)):=lf λ_ _ _ _ _ _ _ q=>add_int q
def abJ:E5 X (JM .Sub) (N8 λi j=>.int (i-j)):=lf λ_ _ _ _ _ _ _ q=>sub_int q
def zr:E5 X (JM .Mult) (U6 TY λi j=>.int (i*j)):=ZA λ_ _ _ _ _ _ _ AO q=>mul_int q AO.ok
def zm:E5 X (JM .FloorDiv) (U6 Y6 λi j=>.int (i/j)):=ZA λi j _ _ _ _ _ AO q=>by have A6:(0:Int)<j:=AO.1;have AA:j<1073741824:=AO.2;exact floordiv_int δ (by rw[Int.fdiv_eq_ediv_of_nonneg i δ];exact q) (.inl (PyProof.noPylong_small δ))
def zq:E5 X (JM .Mod) (U6 (λ_ j=>0<j) λi j=>.int (i%j)):=ZA λi j _ _ _ _ _ AO q=>by have A6:(0:Int)<j:=AO;exact mod_int' δ (by rw[Int.fmod_eq_emod_of_nonneg i δ];exact q)
def zv:E5 X (JM .Pow) (U6 Y7 λi j=>.int (i^j.toNat)):=ZA λ_ _ _ _ _ _ _ AO q=>pow_int_small AO.1 AO.2.1 AO.2.2 q
def aeE{f:A7->Sem A7}{g:Int->Int}(rule:∀(i:Int)(t:Tok)(s:AP)(Q:A7->AP->Prop)(E:A7->AP->Prop),Q (.int (g i) s.toks) { s with toks:=s.toks+1 }->Ad (B2 X.prog X.w) X.A (f (.int i t)) Q E s) :
  YG X f (nO λi=>.int (g i)):=by
 intro pins s σ H x v Q I BR h;obtain⟨i,rfl,q⟩:=h;obtain⟨t,rfl⟩:=BR;exact rule i t s _ _ ⟨.int (g i),H,I.tok _,⟨_,rfl⟩,q⟩
def aeF:YG X (unaryOp .USub) (nO λi=>.int (-i)):=aeE λ_ _ _ _ _ q=>neg_int q
end
noncomputable def oB:V->V->Bool
 |.non,.non=>true|.non,.int _=>true|.int _,.non=>true|.non,.AR _=>true|.AR _,.non=>true|.non,.str _=>true|.str _,.non=>true
 |.int _,.int _=>true|.AR _,.AR _=>true|.str _,.str _=>true|.NG _,.NG _=>true
 |.int _,.str _=>true|.str _,.int _=>true|.AR _,.str _=>true|.str _,.AR _=>true
 |_,_=>false
section
variable{X:Ac}{a b c:AU}{C7 tb GY:TE}{pos:Pos}
def i_{pins:List (A8×Obj)}{σ :St}{H:AB}{s:AP}{Q:Cd}{k k':Bool}(I:θ)(q:Q (.AR k) H)(e:k=k'):G_ X pins σ Q (.bool k') s:=by subst e;exact⟨.AR k,H,I,rfl,q⟩
def zp:E5 X (GE .Lt) (N8 λi j=>.AR (decide (i<j))):=e2 λ_ _ _ _ _ _ _ q=>lt_int q
def ZB:E5 X (GE .LtE) (N8 λi j=>.AR (decide (i<=j))):=e2 λ_ _ _ _ _ _ _ q=>le_int q
def zn:E5 X (GE .Gt) (N8 λi j=>.AR (decide (j<i))):=e2 λ_ _ _ _ _ _ _ q=>gt_int q
def zo:E5 X (GE .Is) (λx y H Q=>y=.non/\Q (.AR (decide (x=.non))) H):=by
 intro pins s σ H x y v u Q I BR Bt h;obtain⟨rfl,q⟩:=h;cases Bt;refine is_none_gen (i_ I q ?_)
 cases x<;>first
  |(cases BR;rfl)
  |(obtain⟨t,rfl⟩:=BR;rfl)
def zu:E5 X (GE .IsNot) (λx y H Q=>y=.non/\Q (.AR (!decide (x=.non))) H):=by
 intro pins s σ H x y v u Q I BR Bt h;obtain⟨rfl,q⟩:=h;cases Bt;refine isnot_none_gen (i_ I q ?_)
 cases x<;>first
  |(cases BR;rfl)
  |(obtain⟨t,rfl⟩:=BR;rfl)
def E5.or{f:A7->A7->Sem A7}{r BO:Ek}(h:E5 X f r)(h':E5 X f BO):E5 X f (λx y H Q=>r x y H Q\/BO x y H Q):=by
 intro pins s σ H x y v u Q I BR Bt q;rcases q with q|q
 .exact h pins s σ H x y v u Q I BR Bt q
 .exact h' pins s σ H x y v u Q I BR Bt q
def Q8(b:AU){op:Ki}(h:op≠.In:=by decide)(AA:op≠.NotIn:=by decide):Ir op b=false:=by
 have A9:(op==CmpOp.In)=false:=by cases op<;>first|rfl|exact absurd rfl h
 have AH:(op==CmpOp.NotIn)=false:=by cases op<;>first|rfl|exact absurd rfl AA
 cases b<;>simp[Ir,A9,AH]
def abX{op:Ki}{r:Ek}(ho:E5 X (GE op) r)(AD:Av X a C7)(A0:Av X b tb)(hm:Ir op b=false):Av X (.Compare a [op] [b] pos) (Vk r C7 tb):=by intro pins s σ H Q I h;exact wpAny_Compare1 (bV AD A0 I h λv u s2 x y Am Bl BR Bt q=>ho pins s2 σ Am x y v u Q Bl BR Bt q) hm
def ey(t:TE):TT:=λσ H Q=>t σ H λx H'=>∃k,x=.AR k/\Q k H'
def acM{op:Ki}{r:Ek}(ho:E5 X (GE op) r)(AD:Av X a C7)(A0:Av X b tb)(hm:Ir op b=false):F_ X (.Compare a [op] [b] pos) (ey (Vk r C7 tb)):=by
 intro pins s σ H Q I h;refine wpAny_isTrue_Compare1 (Bc (AD pins s σ H _ I h) λv s1⟨x,H1,Az,AK,Ak⟩=>Bc (A0 pins s1 σ H1 _ Az Ak) λu s2⟨y,Am,Bl,B7,BC⟩=>
  Bc (ho pins s2 σ Am x y v u _ Bl AK B7 BC) λc s3⟨z,Cb,Dk,DW,k,e,EB⟩=>?_) hm
 subst e;cases DW;exact LM ⟨Cb,Dk,EB⟩
def ep(r BO:Ek)(C7 tb GY:TE):TE:=λσ H Q=>C7 σ H λx H1=>tb σ H1 λy Am=>r x y Am λz Cb=>∃k,z=.AR k/\
 (if k=true then GY σ Cb λFi Hc=>BO y Fi Hc Q else Q (.AR false) Cb)
def abV{op JZ:Ki}{r BO:Ek}(ho:E5 X (GE op) r)(EF:E5 X (GE JZ) BO)(AD:Av X a C7)(A0:Av X b tb)(AO:Av X c GY)(hm:lastMarks [op,JZ] [b,c]=false:=by with_unfolding_all rfl):Av X (.Compare a [op,JZ] [b,c] pos) (ep r BO C7 tb GY):=by
 intro pins s σ H Q I h;refine Compare_chain (Bc (AD pins s σ H _ I h) λv s1⟨x,H1,Az,AK,Ak⟩=>chain_link (Bc (A0 pins s1 σ H1 _ Az Ak) λu s2⟨y,Am,Bl,B7,BC⟩=>
  Bc (ho pins s2 σ Am x y v u _ Bl AK B7 BC) λd s3⟨z,Cb,Dk,DW,k,e,EB⟩=>?_)) hm
 subst e;cases DW;refine LM ?_;cases k with
 |false=>exact ite_ff ⟨.AR false,Cb,Dk,rfl,EB⟩
 |true=>exact ite_tt (chain_last (Bc (AO pins s3 σ Cb _ Dk EB) λFi s4⟨FY,Hc,Ln,N7,RU⟩=>EF pins s4 σ Hc y FY u Fi Q Ln B7 N7 RU))
def acL{op JZ:Ki}{r BO:Ek}(ho:E5 X (GE op) r)(EF:E5 X (GE JZ) BO)(AD:Av X a C7)(A0:Av X b tb)(AO:Av X c GY)(hm:lastMarks [op,JZ] [b,c]=false:=by with_unfolding_all rfl):F_ X (.Compare a [op,JZ] [b,c] pos) (ey (ep r BO C7 tb GY)):=by
 intro pins s σ H Q I h;refine isTrue_chain (Bc (AD pins s σ H _ I h) λv s1⟨x,H1,Az,AK,Ak⟩=>test_link (Bc (A0 pins s1 σ H1 _ Az Ak) λu s2⟨y,Am,Bl,B7,BC⟩=>
  Bc (ho pins s2 σ Am x y v u _ Bl AK B7 BC) λd s3⟨z,Cb,Dk,DW,k,e,EB⟩=>?_)) hm
 subst e;cases DW;refine LM ?_;cases k with
 |false=>obtain⟨k',CQ,Gf⟩:=EB;cases CQ;exact ite_ff ⟨Cb,Dk,Gf⟩
 |true=>refine ite_tt (test_last (Bc (AO pins s3 σ Cb _ Dk EB) λFi s4⟨FY,Hc,Ln,N7,RU⟩=>Bc (EF pins s4 σ Hc y FY u Fi _ Ln B7 N7 RU) λd' s5⟨Dj,Jh,T5,Ru,By,AH,acb⟩=>?_));subst AH;cases Ru;exact LM ⟨Jh,T5,acb⟩
noncomputable def rS(K:Aa)(x:V)(H:AB)(k:Bool):Prop:=
 match x with
 |.non=>k=false
 |.AR b=>k=b
 |.int i=>k=(i !=0)
 |.str y=>y.length<=CD/\k=((y.length:Int) !=0)
 |.NG y=>y.size<=CD/\k=((y.size:Int) !=0)
 |.ref p=>(∃xs,CA K H p xs/\k=!xs.isEmpty)\/(∃xs,CT K H p xs/\k=!xs.isEmpty)\/∃Ab,H p=some (.Df Ab)/\k=!Ab.isEmpty
 |_=>False
def xH{κ:Type}{Ab:List (κ×V)}{vs:List (κ×A7)}(r:H7 Ab vs):(!vs.isEmpty)=!Ab.isEmpty:=by cases r<;>rfl
def k2{xs:List V}{its:List A7}(r:Vals xs its):(!its.toArray.isEmpty)=!xs.isEmpty:=by cases r<;>simp
def Sz:(CD:Nat)<2^63:=by rw[ME];decide
def aiq:rR X (λx H Q=>∃k,rS X.K x H k/\Q k H):=by
 intro pins s σ H x v Q I BR h;obtain⟨k,e,q⟩:=h;have AN:=Sz;have AJ:CD=16777216:=ME;cases x with
 |non=>cases BR;have CQ:k=false:=e;subst CQ;exact truthy_none ⟨H,I,q⟩
 |AR b=>cases BR;have CQ:k=b:=e;subst CQ;exact LM ⟨H,I,q⟩
 |int i=>obtain⟨t,rfl⟩:=BR;have CQ:k=(i !=0):=e;subst CQ;exact PySem.P.truthy_int ⟨H,I,q⟩
 |str y=>obtain⟨t,rfl⟩:=BR;obtain⟨Ba,CQ⟩:y.length<=CD/\k=((y.length:Int) !=0):=e;subst CQ;exact PySem.P.truthy_str δ ⟨H,I.tok _,q⟩
 |NG y=>obtain⟨t,rfl⟩:=BR;obtain⟨Ba,CQ⟩:y.size<=CD/\k=((y.size:Int) !=0):=e;subst CQ;exact PySem.W.truthy_bytes δ ⟨H,I.tok _,q⟩
 |ref p=>
  cases BR;have CQ:(∃xs,CA X.K H p xs/\k=!xs.isEmpty)\/(∃xs,CT X.K H p xs/\k=!xs.isEmpty)\/∃Ab,H p=some (.Df Ab)/\k=!Ab.isEmpty:=e;rcases CQ with⟨xs,AG,CQ⟩|⟨xs,AG,CQ⟩|⟨Ab,AG,CQ⟩
  .subst CQ;obtain⟨its,r,pl,Aq⟩:=I.list AG;have hlen:=r.length;exact wpAny_truthy_list pl.isList (by erw[Dy];lia) ⟨H,I.tok _,by rw[k2 r];exact q⟩
  .subst CQ;obtain⟨its,r,pl,Aq⟩:=I.tuple AG;have hlen:=r.length;exact truthy_tuple pl (by erw[Dy];lia) ⟨H,I.tok _,by rw[k2 r];exact q⟩
  .subst CQ;obtain⟨Aq,KC,vs,r,m⟩:Ab.length<=CD/\(p==He)=false/\∃vs,H7 Ab vs/\s.heap.DictOf (HL X.prog X.w) p vs:=I.BZ p _ AG;have hlen:Ab.length=vs.length:=Paired.length r;exact wpAny_truthy_dict KC m δ ⟨H,I.tok _,by rw[xH r];exact q⟩
 |_=>exact(show False from e).elim
def aaJ:E5 X (JM .Add) (λx y H Q=>∃i j,x=.str i/\y=.str j/\i.length+j.length<=CD/\Q (.str (i++j)) H):=by intro pins s σ H x y v u Q I BR Bt h;obtain⟨i,j,rfl,rfl,Aq,q⟩:=h;obtain⟨t,rfl⟩:=BR;obtain⟨t',rfl⟩:=Bt;exact add_str (λt' C8=>⟨.str (i++j),H,I.tok _,⟨_,rfl⟩,q⟩) Aq
def vals1{x:V}{us:List A7}(r:Vals [x] us):∃u,us=[u]/\RelV x u:=by
 cases r with
 |cons AK B7=>cases B7;exact⟨_,rfl,AK⟩
def vals2{x y:V}{us:List A7}(r:Vals [x,y] us):∃u Fi,us=[u,Fi]/\RelV x u/\RelV y Fi:=by
 cases r with
 |cons AK B7=>
  cases B7 with
  |cons DW N7=>cases N7;exact⟨_,_,rfl,AK,DW⟩
def sF:IW X (.type "int") (λxs H Q=>(∃i,xs=[.int i]/\Q (.int i) H)\/∃k,xs=[.AR k]/\Q (.int (if k then 1 else 0)) H):=by
 intro pins s σ H xs us Q I r h;rcases h with⟨i,rfl,q⟩|⟨k,rfl,q⟩
 .obtain⟨u,rfl,t,rfl⟩:=vals1 r;exact call_int_int ⟨.int i,H,I,⟨_,rfl⟩,q⟩
 .obtain⟨u,rfl,AK⟩:=vals1 r;cases AK;exact call_int_bool ⟨.int (if k then 1 else 0),H,I.tok _,⟨_,rfl⟩,q⟩
def sL:IW X (.type "str") (λxs H Q=>∃i,xs=[.int i]/\i.natAbs.log2<1920/\Q (.str (toString i)) H):=by intro pins s σ H xs us Q I r h;obtain⟨i,rfl,Aq,q⟩:=h;obtain⟨u,rfl,t,rfl⟩:=vals1 r;exact PySem.P.str_of_int Aq ⟨.str _,H,I.tok _,⟨_,rfl⟩,q⟩
noncomputable def iH(K:Aa)(x:V)(H:AB)(n:Nat):Prop:=
 match x with
 |.str y=>y.length<=CD/\n=y.length
 |.NG y=>y.size<=CD/\n=y.size
 |.ref p=>(∃xs,CA K H p xs/\n=xs.length)\/∃xs,CT K H p xs/\n=xs.length
 |_=>False
def sI:IW X (.builtin "len") (λxs H Q=>∃x n,xs=[x]/\iH X.K x H n/\Q (.int n) H):=by
 intro pins s σ H xs us Q I r h;obtain⟨x,n,rfl,e,q⟩:=h;obtain⟨u,rfl,BR⟩:=vals1 r;have AN:=Sz;have AJ:CD=16777216:=ME;cases x with
 |str y=>obtain⟨t,rfl⟩:=BR;obtain⟨Ba,CQ⟩:y.length<=CD/\n=y.length:=e;subst CQ;exact len_str δ ⟨.int _,H,I.tok _,⟨_,rfl⟩,q⟩
 |NG y=>obtain⟨t,rfl⟩:=BR;obtain⟨Ba,CQ⟩:y.size<=CD/\n=y.size:=e;subst CQ;exact PySem.W.len_bytes δ ⟨.int _,H,I.tok _,⟨_,rfl⟩,q⟩
 |ref p=>
  cases BR;have CQ:(∃xs,CA X.K H p xs/\n=xs.length)\/∃xs,CT X.K H p xs/\n=xs.length:=e;rcases CQ with⟨xs,AG,CQ⟩|⟨xs,AG,CQ⟩
  .subst CQ;obtain⟨its,BO,pl,Aq⟩:=I.list AG;have hlen:=BO.length;exact Calls.call_len_list pl.isList (by erw[Dy];lia) ⟨.int xs.length,H,I.tok _,⟨_,by erw[Dy];rw[hlen]⟩,q⟩
  .subst CQ;obtain⟨its,BO,pl,Aq⟩:=I.tuple AG;have hlen:=BO.length;exact len_tuple pl (by erw[Dy];lia) ⟨.int xs.length,H,I.tok _,⟨_,by erw[Dy];rw[hlen]⟩,q⟩
 |_=>exact(show False from e).elim
end
structure RJ(h:BI)(x Ag C:A8)(EG:Str->Option A7):Prop where
 obj:h.get? x=some (PL C Ag)
 ns:h.Ns1 Ag EG
 ne:Ag≠x
def z1{h:BI}{Ag:A8}{EG:Str->Option A7}(n:h.Ns1 Ag EG):∃EL,h.get? Ag=some EL/\∀name,XN name EL=some (EG name):=by
 obtain⟨o,A4,BV,ho,hd,AE,_,hm⟩:=n;refine⟨o,ho,λname=>?_⟩;have e:=hm name;unfold nsFind findBy at e;rw[<-Array.find?_toList]at e;unfold XN;rw[hd];dsimp only
 split
 .rename_i y q;rw[q]at e;exact congrArg some e
 .rename_i q;rw[q]at e;have a:A4.toList.any (·.refKey)=false:=by
   rw[List.any_eq_false];intro y Ba;obtain⟨z,t,LK⟩:=AE y (Array.mem_toList_iff.mp Ba);simp[DictEntry.refKey,LK]
  have Jq:¬A4.toList.any (·.refKey)=true:=by rw[a];exact Fy
  rw[if_neg Jq];exact congrArg some e
def RJ.look{h:BI}{x Ag C:A8}{EG:Str->Option A7}(I:RJ h x Ag C EG):∃EL,PySem.W.InstAt h x (PL C Ag) C (some EL)/\∀name,XN name EL=some (EG name):=
 let⟨EL,ho,AN⟩:=z1 I.ns
 ⟨EL,⟨I.obj,rfl,rfl,ho⟩,AN⟩
section
variable{prog:Bx}{w:Bj}{A:CK}{E:A7->AP->Prop}{s:AP}{K:Aa}{x Ag C f:A8}{EG:Str->Option A7}{name:Str}{v:A7}
def get_map{expr:Bool}{Q:A7->AP->Prop}(X:K.In s.heap)(I:RJ s.heap x Ag C EG)(A_:Sj K C name=true)(B4:UG K C=true)(AD:K4 K (.ref C) name=some none)(BN:EG name=some v)(wo:PySem.W.handedIn v=true)(h:Q v { s with toks:=s.toks+1 }) :
  Ad (B2 prog w) A (getAttr (.ref x) name expr) Q E s:=by
 obtain⟨EL,DA,AN⟩:=I.look;exact PySem.W.get_value X DA (fM A_).1 (PySem.W.findObj_own B4 AD rfl (by rw[AN,BN])) wo h
def vl{pl:Sem Bool}{Q:A7×List A7->AP->Prop}(X:K.In s.heap)(I:RJ s.heap x Ag C EG)(A_:Sj K C name=true)(hf:K4 K (.ref C) name=some (some (.ref f)))(Aj:US K (.ref f)=true)(BN:EG name=none)(h:Q (.ref f,[.ref x]) s) :
  Ad (B2 prog w) A (PS (.ref x) name pl) Q E s:=by
 obtain⟨EL,DA,AN⟩:=I.look;exact PySem.W.method_fn X DA (fM A_).1 (fM A_).2 hf (beq_iff_eq.mp Aj) (by show(XN name EL).map (·.isSome)=some false;rw[AN,BN];rfl) h
def acx{ns:List Str}{Q:Unit->AP->Prop}(X:K.In s.heap)(I:RJ s.heap x Ag C EG)(AJ:K4 K (.ref C) "__setattr__"=some (some (.builtin "object.__setattr__")))(AZ:XC K C=true)(Aj:fa K C name=some none)(B4:UG K C=true)(hw:fp EG ns)(hsz:ns.length<=CD)(h:∀h',RJ h' x Ag C (λy=>if y=name then some v else EG y)->JG Ag s.heap h'->Q () { s with heap:=h',toks:=s.toks+2 }) :
  Ad (B2 prog w) A (setAttr (.ref x) name v) Q E s:=by
 obtain⟨EL,DA,AN⟩:=I.look;refine PySem.W.set_plain X DA AJ (PySem.W.osa_open (s:={ s with toks:=s.toks+1 }) (r:=none) X DA AZ Aj λb=>?_);obtain⟨cd,AO,Fw⟩:=PySem.W.any_some B4;have AG:s.heap.get? x=some ⟨.ref C,some Ag,.plain,#[]⟩:=I.obj;refine AL (Ay (AL (AL (wpAny_loadPart AG (AL (PySem.W.Looks.here (s:={ s with toks:=s.toks+1 }) (PySem.W.looks_clsIn X AO) ?_))))));rw[Fw];refine Ay (a:=some Ag) (AL (Ay (AL ?_)));refine wpAny_nsSet1 (s:={ s with toks:=s.toks+1 }) I.ns λh' YL Fd=>?_;obtain⟨ahh,aiH,ahU,wc,vL,vH⟩:=YL.count (PySem.Within.cons name v hw);refine AL (wpAny_lookBehind wc (by rw[vL];exact pastItsLine_dict (FF vH (by rw[H4];lia))) ?_);exact Ay (h _ ⟨(Fd.2 _ (Hi I.ne)).trans I.obj,YL,I.ne⟩ Fd)
def zC {R:Result->AP->Prop} {vs:List A7} {kw:List (Str×A7)} (X:K.In s.heap) (hm:fb K C=true)(AC:K4 K (.ref C) "__init__"=some (some (.ref f))) (hf:PySem.W.typeIn K (.ref f)=some (.type "function"))(h:OA (B2 prog w) (A.under (.builtin "type.__call__" ⟨.ref C::vs,kw⟩)) (.call (.ref f) ⟨.ref (s.heap.objs.size+1)::vs,kw⟩) (PySem.W.InitBack (s.heap.objs.size+1) R)
    { s with heap:=(s.heap.push O0).push (PL C s.heap.objs.size) }) :
  OA (B2 prog w) A (.call (.ref C) ⟨vs,kw⟩) R s:=by
 obtain⟨B4,g,d,t,os⟩:=s;exact PySem.W.make_core (PySem.W.makes_of X hm) (PySem.W.looks_findIn X AC) (λself=>PySem.W.bind_fn X self hf) (.inl rfl) h
end
noncomputable def HM(f:Str)(v:V):List (Str×V)->List (Str×V)
 |[]=>[(f,v)]
 |(g,x)::r=>if g=f then(g,v)::r else(g,x)::HM f v r
theorem kr(f g:Str)(v:V):∀Ar:List (Str×V),(HM f v Ar).lookup g=if g=f then some v else Ar.lookup g
 |[]=>by
  show R3 g [(f,v)]=_;by_cases h:g=f
  .have A0:(g==f)=true:=beq_iff_eq.mpr h;erw[R3,A0,if_pos h]
  .have A0:(g==f)=false:=beq_eq_false_iff_ne.mpr h;erw[R3,A0,if_neg h]
 |(k,x)::r=>by
  have Bh:=kr f g v r;rw[show HM f v ((k,x)::r)=(if k=f then(k,v)::r else(k,x)::HM f v r)from rfl];by_cases AE:k=f
  .rw[if_pos AE];by_cases h:g=k
   .have A0:(g==k)=true:=beq_iff_eq.mpr h;erw[R3,A0,if_pos (h.trans AE)]
   .have A0:(g==k)=false:=beq_eq_false_iff_ne.mpr h;erw[R3,A0,if_neg (λe:g=f=>h (e.trans AE.symm))]
  .rw[if_neg AE];by_cases h:g=k
   .have A0:(g==k)=true:=beq_iff_eq.mpr h;erw[R3,A0,if_neg (λe:g=f=>AE (h.symm.trans e))]
   .have A0:(g==k)=false:=beq_eq_false_iff_ne.mpr h;erw[R3,A0];exact Bh
theorem cJ(f:Str)(v:V):∀Ar:List (Str×V),f∈(HM f v Ar).map (·.1)/\∀g,g∈Ar.map (·.1)->g∈(HM f v Ar).map (·.1)
 |[]=>⟨by simp[HM],λg h=>by simp at h⟩
 |(k,x)::r=>by
  obtain⟨Bd,C1⟩:=cJ f v r;rw[show HM f v ((k,x)::r)=(if k=f then(k,v)::r else(k,x)::HM f v r)from rfl];by_cases AE:k=f
  .rw[if_pos AE];subst AE;exact⟨γ,λg h=>(h:)⟩
  .rw[if_neg AE];refine⟨?_,λg h=>?_⟩
   .rw[Du];exact Fk _ Bd
   .rw[Du]at h |-;rcases List.mem_cons.mp h with e|e
    .exact List.mem_cons.mpr (.inl e)
    .exact Fk _ (C1 g e)
theorem km(f:Str)(v:V):∀Ar:List (Str×V),(HM f v Ar).length<=Ar.length+1
 |[]=>by simp[HM]
 |(k,x)::r=>by
  have Bh:=km f v r;rw[show HM f v ((k,x)::r)=(if k=f then(k,v)::r else(k,x)::HM f v r)from rfl];by_cases AE:k=f
  .rw[if_pos AE,H4,H4];lia
  .rw[if_neg AE,H4,H4];lia
def I2.some_of{v:V}{o:Option A7}(r:I2 (some v) o):∃u,o=some u/\RelV v u:=by
 cases o with
 |none=>exact(show False from r).elim
 |some u=>exact⟨u,rfl,r⟩
def I2.none_of{o:Option A7}(r:I2 none o):o=none:=by
 cases o with
 |none=>rfl
 |some u=>exact(show False from r).elim
def vD{v:V}{u:A7}(r:RelV v u):PySem.W.handedIn u=true:=by
 cases v with
 |non=>cases(show u=GD from r);rfl
 |AR b=>cases(show u=Sp b from r);rfl
 |int i=>obtain⟨t,e⟩:=(show ∃t,u=XR i t from r);cases e;rfl
 |str x=>obtain⟨t,e⟩:=(show ∃t,u=XS x t from r);cases e;rfl
 |NG b=>obtain⟨t,e⟩:=(show ∃t,u=Value.bytes b t from r);cases e;rfl
 |Z6 b=>obtain⟨t,e⟩:=(show ∃t,u=Value.float b t from r);cases e;rfl
 |ref a=>cases(show u=DR a from r);rfl
 |ty n=>cases(show u=O4 n from r);rfl
section
variable{P:Bx}{w:Bj}{K:Aa}{H H':AB}{h h':BI}{a C Ag:A8}{Ar k4:List (Str×V)}
def d3(BZ:Ei P w K H h)(e:H a=some (.ins C Ag Ar)):∃EG,RJ h a Ag C EG/\(∀f,I2 (Ar.lookup f) (EG f))/\fp EG (Ar.map (·.1))/\Ar.length<=1000/\H Ag=some (.own a):=by obtain⟨d,z,ne,ob,EG,n,r,q⟩:=(show FS P w K H h a (.ins C Ag Ar)from BZ a _ e);exact⟨EG,⟨ob,n,ne⟩,r,q,z,d⟩
end
structure Jf(K:Aa)(C:A8):Prop where
 ab2:Sj K C Str.empty=true
 hd:UG K C=true
 po:XC K C=true
 P6:K4 K (.ref C) "__setattr__"=some (some (.builtin "object.__setattr__"))
def Jf.get{K:Aa}{C:A8}(c:Jf K C)(f:Str):Sj K C f=true:=c.ab2
def RH(K:Aa)(C:A8)(f:Str):Prop:=K4 K (.ref C) f=some none
def RH.aei{K:Aa}{C:A8}{f:Str}(n:RH K C f):fa K C f=some none:=by unfold fa;rw[show K4 K (.ref C) f=some none from n];rfl
structure Meth(K:Aa)(C:A8)(m:Str)(f:A8):Prop where
 at_:K4 K (.ref C) m=some (some (.ref f))
 fn:US K (.ref f)=true
 kp:LQ K (.ref f)=true
section
variable{X:Ac}{pins:List (A8×Obj)}{σ :St}{H:AB}{s:AP}{a C Ag:A8}{Ar:List (Str×V)}{f:Str}{v:V}{A:CK}{E:A7->AP->Prop}
def vm{b:Bool}{Q:A7->AP->Prop}(I:θ)(e:H a=some (.ins C Ag Ar))(c:Jf X.K C)(n:RH X.K C f)(l:Ar.lookup f=some v)(h:∀u s',Inv X pins σ H s'->RelV v u->Q u s'):Ad (B2 X.prog X.w) A (getAttr (.ref a) f b) Q E s:=by obtain⟨EG,O,r,_,_,_⟩:=d3 I.BZ e;obtain⟨u,BM,Fp⟩:=I2.some_of (v:=v) (o:=EG f) (by rw[<-l];exact r f);exact get_map I.E9 O (c.get f) c.hd n BM (vD Fp) (h u _ (I.tok _) Fp)
def bS{m:Str}{g:A8}{pl:Sem Bool}{Q:A7×List A7->AP->Prop}(I:θ)(e:H a=some (.ins C Ag Ar))(c:Jf X.K C)(k:Meth X.K C m g)(l:Ar.lookup m=none)(h:Q (.ref g,[.ref a]) s):Ad (B2 X.prog X.w) A (PS (.ref a) m pl) Q E s:=by obtain⟨EG,O,r,_,_,_⟩:=d3 I.BZ e;have AQ:EG m=none:=I2.none_of (by rw[<-l];exact r m);exact vl I.E9 O (c.get m) k.at_ k.fn AQ h
def acz{y:V}{u:A7}{Q:Unit->AP->Prop}(I:θ)(e:H a=some (.ins C Ag Ar))(c:Jf X.K C)(n:RH X.K C f)(AN:Ar.length<1000)(Bt:RelV y u)(h:∀s',Inv X pins σ (upd H a (.ins C Ag (HM f y Ar))) s'->Q () s'):Ad (B2 X.prog X.w) A (setAttr (.ref a) f u) Q E s:=by
 obtain⟨EG,O,r,JE,_,ho⟩:=d3 I.BZ e;have Aq:(Ar.map (·.1)).length<=CD:=by rw[GN,ME];lia
 refine acx I.E9 O c.P6 c.po n.aei c.hd JE Aq λh' hC L0=>h _ ?_;have hd:∃o,h'.get? Ag=some o:=let⟨o,_,_,CQ,_⟩:=hC.ns;⟨o,CQ⟩
 refine I.write (x:=a) (e:=Ag) (by rw[e];exact La) (.inr ho) (λb q A0 z=>(L0.2 b A0).trans z) hd ?_;refine⟨by rw[Cy O.ne];exact ho,?_,O.ne,hC.obj,_,hC.ns,λg=>?_,λg A_=>?_⟩
 .have:=km f y Ar;lia
 .show I2 ((HM f y Ar).lookup g) (if g=f then some u else EG g);rw[kr];by_cases q:g=f
  .rw[if_pos q,if_pos q];exact Bt
  .rw[if_neg q,if_neg q];exact r g
 .by_cases q:g=f
  .rw[q];exact(cJ f y Ar).1
  .refine(cJ f y Ar).2 g (JE g λz=>A_ ?_);show(if g=f then some u else EG g)=none;rw[if_neg q];exact z
def Inv.made(I:θ):Inv X pins σ (upd (upd H s.heap.objs.size (.own (s.heap.objs.size+1))) (s.heap.objs.size+1) (.ins C s.heap.objs.size []))
  { s with heap:=(s.heap.push O0).push (PL C s.heap.objs.size) }:=by
 have A9:(s.heap.push O0).get? s.heap.objs.size=some O0:=FE s.heap rfl;have AH:((s.heap.push O0).push (PL C s.heap.objs.size)).get? (s.heap.objs.size+1)=some (PL C s.heap.objs.size):=by
  have:=FE (s.heap.push O0) (o:=PL C s.heap.objs.size) rfl
  rwa [LW]at this
 have Au:(s.heap.push O0).Ns s.heap.objs.size (λ_=>none):=⟨O0,#[],_,A9,rfl,(λe he=>absurd he γ),λ_=>rfl⟩;have Az:=I.laid (a:=s.heap.objs.size) (o:=.own (s.heap.objs.size+1)) (h':=s.heap.push O0) (t':=s.toks) (λb u q=>DM _ q) (CY _) ⟨_,A9⟩;refine Az.laid (a:=s.heap.objs.size+1) (o:=.ins C s.heap.objs.size []) (t':=s.toks) (λb u q=>DM _ q) (fq (LW _ _)) ?_;have ne:s.heap.objs.size≠s.heap.objs.size+1:=Fl (fY _);refine⟨by rw[Cy ne,Da],IT _,ne,AH,λ_=>none,(Heap.Ns1.of_empty Au).at λo q=>DM _ q,λ_=>La,λy Ba=>absurd rfl Ba⟩
def sZ{prog:Bx}{w:Bj}{env:Env}{e:AU}{f:Str}{pos:Pos}{s:AP}{Q:A7->AP->Prop}(A0:Hw e f env (BJ e env)=BJ e env)(h:Ad (B2 prog w) A (BJ e env) (λo DL=>Ad (B2 prog w) A (getAttr o f true) Q E DL) E s):Ad (B2 prog w) A (BJ (.Attribute e f pos) env) Q E s:=
 Attribute_any_ h (by rw[arm_eval_Attribute,A0])
end
def aea(K:Aa)(C7:TE)(f:Str):TE:=λσ H Q=>C7 σ H λx H1=>∃a C Ag Ar v,x=.ref a/\H1 a=some (.ins C Ag Ar)/\Jf K C/\RH K C f/\Ar.lookup f=some v/\Q v H1
noncomputable def abn(K:Aa)(C7 K_:TE)(f:Str):FT:=λD σ H=>K_ σ H λy H1=>C7 σ H1 λx Am=>∃a C Ag Ar,x=.ref a/\Am a=some (.ins C Ag Ar)/\Jf K C/\RH K C f/\Ar.length<1000/\
 D.B6 σ (upd Am a (.ins C Ag (HM f y Ar)))
section
variable{X:Ac}{o e value:AU}{f:Str}{pos pos' QT:Pos}{C7 K_:TE}
def dK(he:Av X e C7)(A0:Hw e f X.env (BJ e X.env)=BJ e X.env):Av X (.Attribute e f pos) (aea X.K C7 f):=by intro pins s σ H Q I h;refine sZ A0 (Bc (he pins s σ H _ I h) λu s1⟨x,H1,Az,BR,a,C,Ag,Ar,v,ex,As,c,n,l,q⟩=>?_);subst ex;obtain rfl:u=DR a:=BR;exact vm Az As c n l λFH s2 Bl Fp=>⟨v,H1,Bl,Fp,q⟩
def dR(AD:Av X o C7)(BN:Av X value K_)(AJ:O6 value (some (.Attribute o f pos')) pos.line X.env=pure false):DO X (.Assign [.Attribute o f pos'] value pos) (abn X.K C7 K_ f):=by intro pins s σ H D I h;refine plainObj_wpAny_Assign_Attribute (Bc (BN pins s σ H _ I h) λu s1⟨y,H1,Az,Bt,q⟩=>Bc (AD pins s1 σ H1 _ Az q) λD6 s2⟨x,Am,Bl,BR,a,C,Ag,Ar,ex,As,c,n,l,BC⟩=>?_) AJ;subst ex;obtain rfl:D6=DR a:=BR;exact acz Bl As c n l Bt λs3 Dk=>⟨σ,_,Dk,BC⟩
def aiC {pl:Sem Bool} {m:Str} {apos:Pos} {args:List AU} {pins:List (A8×Obj)} {s:AP} {σ :St} {H:AB} {Q:A7->AP->Prop} {E4:TE} (he:Av X e E4) (I:θ)(h:E4 σ H λx H1=>∃a C Ag Ar g,x=.ref a/\H1 a=some (.ins C Ag Ar)/\Jf X.K C/\Meth X.K C m g/\Ar.lookup m=none/\
    ∀s1,Inv X pins σ H1 s1->Ad (B2 X.prog X.w) X.A (R7 pos (.ref g) [.ref a] (D4 pos (BF args X.env)) (H5 pos (H3 [] X.env))) Q X.xe s1)
  (Aj:BJ (.Call (.Attribute e m apos) args [] pos) X.env=(do
    let D6 <-BJ e X.env
    N2 apos.atName
    let(f,first) <-K6 [D6] (PS D6 m pl)
    R7 pos f first (D4 pos (BF args X.env)) (H5 pos (H3 [] X.env)))) :
  Ad (B2 X.prog X.w) X.A (BJ (.Call (.Attribute e m apos) args [] pos) X.env) Q X.xe s:=by
 refine fQ (pl:=pl) (Bc (he pins s σ H _ I h) λu s1⟨x,H1,Az,BR,a,C,Ag,Ar,g,ex,As,c,k,l,q⟩=>?_) Aj;subst ex;obtain rfl:u=DR a:=BR;exact bS Az As c k l (q s1 Az)
end
section
variable{X:Ac}{pins:List (A8×Obj)}{σ :St}{H:AB}{s:AP}{A:CK}{E:A7->AP->Prop}{Q:A7->AP->Prop}{c:A7}{b:Bool}
end
structure Cm(k:Nat)(A:CK):Prop where
 hd:A.handled=none
 Yy:A.depth+3*k+5<recursionLimit
 un:A.units+16*k+200<DS
def Cm.mono{j k:Nat}{A:CK}(r:Cm k A)(h:j<=k):Cm j A:=⟨r.hd,by have:=r.Yy;lia,by have:=r.un;lia⟩
theorem Cm.deeper{k:Nat}{A:CK}(r:Cm (k+1) A)(env:Env):Cm k (A.deeper env):=
 ⟨r.hd,by have:=r.Yy;show A.depth+1+3*k+5<_;lia,by have:=r.un;show A.units+3+16*k+200<_;lia⟩
def zB{A:CK}{C:A8}{us:List A7}{kw:List (Str×A7)}:(A.under (.builtin "type.__call__" ⟨.ref C::us,kw⟩)).depth=A.depth+1:=by
 first|rfl|simp[fs,Code.weight,Code.isCreation,Code.isGuard,Code.isCaller,Code.frames,ft,guardIds]
def zD{A:CK}{C:A8}{us:List A7}{kw:List (Str×A7)}:(A.under (.builtin "type.__call__" ⟨.ref C::us,kw⟩)).units=A.units+1:=by
 first|rfl|simp[fs,Code.cUnits,Code.frames,ft]
def Cm.make{k:Nat}{A:CK}(r:Cm (k+1) A)(C:A8)(us:List A7)(kw:List (Str×A7)):Cm k (A.under (.builtin "type.__call__" ⟨.ref C::us,kw⟩)):=
 ⟨r.hd,by have:=r.Yy;rw[zB];lia,by have:=r.un;rw[zD];lia⟩
theorem Cm.depth{k:Nat}{A:CK}(r:Cm k A):A.depth<recursionLimit:=by have:=r.Yy;lia
theorem Cm.units{k:Nat}{A:CK}(r:Cm k A):A.units+64<DS:=by have:=r.un;lia
def aE:Ew:=λ_ H Q=>Q [] H
def oz(C7:TE)(Eg:Ew):Ew:=λσ H Q=>C7 σ H λx H1=>Eg σ H1 λxs Am=>Q (x::xs) Am
section
variable{X:Ac}{e:AU}{A4:List AU}{E4:TE}{t:Ew}{pos:Pos}
def RS:GH X [] aE:=λ_ _ _ _ H Q I h=>UH ⟨[],H,I,.nil,h⟩
def QC(AD:Av X e E4)(B5:GH X A4 t)(AJ:BF (e::A4) X.env=(false,BJ e X.env)::BF A4 X.env:=by rfl):GH X (e::A4) (oz E4 t):=by intro pos pins s σ H Q I h;rw[AJ];show Ad _ _ (spliced ((false,BJ e X.env)::D4 pos (BF A4 X.env))) _ _ s;refine Sb (Bc (AD pins s σ H _ I h) λu s1⟨x,H1,Az,AK,Ak⟩=>?_);exact Bc (B5 pos pins s1 σ H1 _ Az Ak) λus s2⟨xs,Am,Bl,B7,BC⟩=>⟨x::xs,Am,Bl,.cons AK B7,BC⟩
def pD(t:Ew):TE:=λσ H Q=>t σ H λxs H1=>xs.length<=CD/\∀p,H1 p=none->Q (.ref p) (upd H1 p (.tup xs))
def p8(t:Ew):TE:=λσ H Q=>t σ H λxs H1=>xs.length<=CD/\∀p,H1 p=none->Q (.ref p) (upd H1 p (.lst xs))
def ab0{FX}(h:GH X A4 t):Av X (.Tuple A4 FX pos) (pD t):=by intro pins s σ H Q I AV;refine wpAny_Tuple_spliced (Bc (h pos pins s σ H _ I AV) λus s1⟨xs,H1,Az,r,z,q⟩=>⟨by rw[<-r.length];exact z,?_⟩);have hf:H1 s1.heap.objs.size=none:=Az.BZ.fresh (CY _);refine⟨.ref s1.heap.objs.size,upd H1 s1.heap.objs.size (.tup xs),Az.laid (t':=s1.toks) (λb u e=>DM _ e) (CY _) ?_,rfl,q _ hf⟩;exact⟨z,us,r,⟨_,FE _ rfl,rfl,_,rfl⟩⟩
def aau(h:GH X A4 t):Av X (.List A4 pos) (p8 t):=by intro pins s σ H Q I AV;refine wpAny_List_spliced (Bc (h pos pins s σ H _ I AV) λus s1⟨xs,H1,Az,r,z,q⟩=>⟨by rw[<-r.length];exact z,?_⟩);have hf:H1 s1.heap.objs.size=none:=Az.BZ.fresh (CY _);refine⟨.ref s1.heap.objs.size,upd H1 s1.heap.objs.size (.lst xs),Az.laid (t':=s1.toks) (λb u e=>DM _ e) (CY _) ?_,rfl,q _ hf⟩;exact⟨z,us,0,r,FE _ rfl⟩
end
abbrev AX:=List V->AB->Cd->DT->Prop
abbrev Ll:=List Env->AB->AP->DT->A7->AP->Prop
structure RC(P:Bx)(w:Bj)(K:Aa)(mg:Str->Option A7)(base:BI)(A:CK)(outer:List Env)(s:AP)(H:AB):Prop where
 frames:A.frames=some outer
 mod:Mod K mg base
 bs:∀b o,base.get? b=some o->s.heap.get? b=some o/\H b=none
 Pt:base.objs.size<=s.heap.objs.size
 Ly:s.heap.FunFrames base outer
 SJ:∀b∈Lj outer,H b=none
 BZ:Ei P w K H s.heap
 bare:O9 s.gens
noncomputable def gA(outer:List Env)(P:Bx)(w:Bj)(K:Aa)(H:AB)(s:AP)(Q:Cd)(u:A7)(s':AP):Prop:=
 ∃v H',s'.os=s.os/\O9 s'.gens/\GR (Lj outer) [] H H' s.heap s'.heap/\Ei P w K H' s'.heap/\RelV v u/\Q v H'
noncomputable def rg(CX:Ll)(outer:List Env)(P:Bx)(w:Bj)(K:Aa)(H:AB)(s:AP)(Q:Cd)(E:DT)(r:Result)(s':AP):Prop:=
 match r with
 |.ok (.ret u)=>gA outer P w K H s Q u s'
 |.ok _=>False
 |.error e=>CX outer H s E e s'
structure Gl(P:Bx)(w:Bj)(K:Aa)(mg:Str->Option A7)(base:BI)(CX:Ll)(k:Nat)(f:A8)(fd:GF)(Ai:List Str)(sp:AX):Prop where
 len:∀vs H Q E,sp vs H Q E->vs.length=Ai.length
 run:∀(A:CK)(outer:List Env)(s:AP)(H:AB)(args:Args)(us:List A7)(vs:List V)(Q:Cd)(E:DT),Cm k A->RC P w K mg base A outer s H->BindsTo s fd args (Ai.zip us)->Vals vs us->sp vs H Q E->
  OA (B2 P w) A (.call (.ref f) args) (rg CX outer P w K H s Q E) s
def Gl.imp{P:Bx}{w:Bj}{K:Aa}{mg:Str->Option A7}{base:BI}{CX:Ll}{k:Nat}{f:A8}{fd:GF}{Ai:List Str}{sp pU:AX}(F:Gl P w K mg base CX k f fd Ai sp)(h:∀vs H Q E,pU vs H Q E->sp vs H Q E):Gl P w K mg base CX k f fd Ai pU:=
 ⟨λvs H Q E q=>F.len vs H Q E (h _ _ _ _ q),λA outer s H args us vs Q E B5 he A0 BN AJ=>F.run A outer s H args us vs Q E B5 he A0 BN (h _ _ _ _ AJ)⟩
def RC.make{P:Bx}{w:Bj}{K:Aa}{mg:Str->Option A7}{base:BI}{A:CK}{outer:List Env}{s:AP}{H:AB}(e:RC P w K mg base A outer s H)(C:A8)(us:List A7)(kw:List (Str×A7)) :
  RC P w K mg base (A.under (.builtin "type.__call__" ⟨.ref C::us,kw⟩)) outer s H:=⟨by first|exact e.frames|(simpa[fs,Code.envs,ft,pushEnvs]using e.frames),e.mod,e.bs,e.Pt,e.Ly,e.SJ,e.BZ,e.bare⟩
section
variable{X:Ac}{pins:List (A8×Obj)}{σ :St}{H:AB}{s s':AP}
def Inv.iu(I:θ):RC X.prog X.w X.K X.mg X.base X.A X.stack s H:=
 ⟨I.ok.frames,I.ok.mod,I.bs,FF I.ok.Pt I.Lw,I.stack,I.pe,I.BZ,I.bare⟩
def Inv.after{Q:Cd}{u:A7}(I:θ)(h:gA X.stack X.prog X.w X.K H s Q u s'):G_ X pins σ Q u s':=by obtain⟨v,H',os,bare,un,BZ,r,q⟩:=h;obtain⟨B4,g,d,t,abK⟩:=s';obtain rfl:abK=s.os:=os;exact⟨v,H',I.call (h':=B4) (g':=g) (d':=d) (t':=t) (ch:=[]) un BZ bare (λb z=>absurd z γ),r,q⟩
end
def WH(sp:AX)(HE:List V)(E:DT)(t:Ew):TE:=λσ H Q=>t σ H λvs H1=>sp (vs++HE) H1 Q E
def Vj(C:A8)(m:Str)(sp:AX)(HE:List V)(E:DT)(C7:TE)(t:Ew):TE:=λσ H Q=>C7 σ H λx H1=>∃a Ag Ar,x=.ref a/\H1 a=some (.ins C Ag Ar)/\Ar.lookup m=none/\
 t σ H1 λvs Am=>sp (x::(vs++HE)) Am Q E
noncomputable def es(C:A8)(sp:AX)(HE:List V)(E:DT)(t:Ew):TE:=λσ H Q=>t σ H λvs H1=>∀x Ag,H1 x=none->H1 Ag=none->Ag≠x->
 sp (.ref x::(vs++HE)) (upd (upd H1 Ag (.own x)) x (.ins C Ag [])) (λv Am=>v=.non/\Q (.ref x) Am) E
def Binds(K:Aa)(fd:GF)(Ai:List Str)(ds:List A7):Prop:=
 ∀(s:AP)(us:List A7),K.In s.heap->(us++ds).length=Ai.length->BindsTo s fd ⟨us,[]⟩ (Ai.zip (us++ds))
def Binds.all{K:Aa}{fd:GF}{Ai:List Str}(h:∀us:List A7,us.length=Ai.length->Sr fd ⟨us,[]⟩=pure (Ai.zip us)):Binds K fd Ai []:=λs us _ AN=>by rw[LO]at AN |-;exact .of_eq (h us AN)
def Passes(CX:Ll)(X:Ac)(E:DT):Prop:=∀(pins:List (A8×Obj))(σ :St)(H:AB)(s:AP)(e:A7)(s':AP),θ->CX X.stack H s E e s'->X.xe e s'
section
variable{X:Ac}{CX:Ll}{k:Nat}{f C:A8}{fd:GF}{Ai:List Str}{sp:AX}{HE:List V}{ds:List A7}{E:DT}{x m:Str}{p pos apos:Pos}{e o:AU}{A4:List AU}{C7:TE}{t:Ew}
def d4{pins:List (A8×Obj)}{σ :St}{H:AB}{s:AP}{Q:Cd}{us:List A7}{vs:List V}(F:Gl X.prog X.w X.K X.mg X.base CX k f fd Ai sp)(B5:Cm k X.A)(A0:Binds X.K fd Ai ds)(hd:Vals HE ds)(AG:Passes CX X E)(I:θ)(r:Vals vs us)(h:sp (vs++HE) H Q E):Ad (B2 X.prog X.w) X.A (call (.ref f) us) (G_ X pins σ Q) X.xe s:=by
 have B7:Vals (vs++HE) (us++ds):=r.append hd;have AN:(us++ds).length=Ai.length:=by rw[<-B7.length];exact F.len _ _ _ _ h
 refine wpAny_call (XK (F.run X.A X.stack s H ⟨us,[]⟩ (us++ds) (vs++HE) Q E B5 I.iu (A0 s us I.E9 AN) B7 h) λr s' AV=>?_);cases r with
 |error e=>exact AG pins σ H s e s' I AV
 |ok HV=>
  cases HV with
  |ret u=>exact I.after AV
  |next=>exact Kc AV
  |brk=>exact Kc AV
  |cont=>exact Kc AV
def dI(F:Gl X.prog X.w X.K X.mg X.base CX k f fd Ai sp)(B5:Cm k X.A)(A_:EE X x)(hm:X.mg x=some (.ref f))(AE:LQ X.K (.ref f)=true)(A0:Binds X.K fd Ai ds)(hd:Vals HE ds)(AG:Passes CX X E)(AD:GH X (e::A4) t)(GV:ζ:=by decide)(he:BF (e::A4) X.env=(false,BJ e X.env)::BF A4 X.env:=by rfl)(Dx:(D4 pos (BF A4 X.env)).any (·.1)=false:=by rfl) :
  Av X (.Call (.Name x p) (e::A4) [] pos) (WH sp HE E t):=by
 intro pins s σ H Q I h;refine UP (cS I A_ hm ?_ GV);refine fH (h₀:=X.base) I.ok.mod.JQ AE (Bc (AD pos pins s σ H _ I h) λus s1⟨vs,H1,Az,r,q⟩=>⟨Az.E9,?_⟩) he Dx;exact d4 F B5 A0 hd AG Az r q
def lz {pl:Sem Bool} (he:Av X o C7) (c:Jf X.K C) (hm:Meth X.K C m f) (F:Gl X.prog X.w X.K X.mg X.base CX k f fd Ai sp) (B5:Cm k X.A) (A0:Binds X.K fd Ai ds) (hd:Vals HE ds) (AG:Passes CX X E) (AD:GH X (e::A4) t)(Oe:BF (e::A4) X.env=(false,BJ e X.env)::BF A4 X.env:=by rfl) (Dx:(D4 pos (BF A4 X.env)).any (·.1)=false:=by rfl)(Aj:BJ (.Call (.Attribute o m apos) (e::A4) [] pos) X.env=(do
    let D6 <-BJ o X.env
    N2 apos.atName
    let(f,first) <-K6 [D6] (PS D6 m pl)
    R7 pos f first (D4 pos (BF (e::A4) X.env)) (H5 pos (H3 [] X.env))):=by rfl) :
  Av X (.Call (.Attribute o m apos) (e::A4) [] pos) (Vj C m sp HE E C7 t):=by
 intro pins s σ H Q I h;refine fQ (pl:=pl) (Bc (he pins s σ H _ I h) λu s1⟨x,H1,Az,BR,a,Ag,Ar,ex,As,l,q⟩=>?_) Aj;subst ex;obtain rfl:u=DR a:=BR;refine bS Az As c hm l ?_;refine fH (first:=[.ref a]) (h₀:=X.base) I.ok.mod.JQ hm.kp (Bc (AD pos pins s1 σ H1 _ Az q) λus s2⟨vs,Am,Bl,r,BC⟩=>⟨Bl.E9,?_⟩) Oe Dx;exact d4 (us:=.ref a::us) (vs:=.ref a::vs) F B5 A0 hd AG Bl (.cons rfl r) BC
def aav {pl:Sem Bool} (he:Av X o C7) (c:Jf X.K C) (hm:Meth X.K C m f) (F:Gl X.prog X.w X.K X.mg X.base CX k f fd Ai sp) (B5:Cm k X.A) (A0:Binds X.K fd Ai ds) (hd:Vals HE ds) (AG:Passes CX X E)(Aj:BJ (.Call (.Attribute o m apos) [] [] pos) X.env=(do
    let D6 <-BJ o X.env
    N2 apos.atName
    let(f,first) <-K6 [D6] (PS D6 m pl)
    R7 pos f first (D4 pos (BF [] X.env)) (H5 pos (H3 [] X.env))):=by rfl) :
  Av X (.Call (.Attribute o m apos) [] [] pos) (Vj C m sp HE E C7 aE):=by
 intro pins s σ H Q I h;refine fQ (pl:=pl) (Bc (he pins s σ H _ I h) λu s1⟨x,H1,Az,BR,a,Ag,Ar,ex,As,l,q⟩=>?_) Aj;subst ex;obtain rfl:u=DR a:=BR;refine bS Az As c hm l ?_;exact PySem.W.callWith_K0 (first:=[.ref a]) Az.E9 hm.kp (d4 (us:=[.ref a]) (vs:=[.ref a]) F B5 A0 hd AG Az (.cons rfl .nil) q)
structure Uk(K:Aa)(C f:A8):Prop where
 makes:fb K C=true
 init:K4 K (.ref C) "__init__"=some (some (.ref f))
 fn:US K (.ref f)=true
 kp:LQ K (.ref C)=true
def acE{pins:List (A8×Obj)}{σ :St}{H:AB}{s:AP}{Q:Cd}{us:List A7}{vs:List V}(M:Uk X.K C f)(F:Gl X.prog X.w X.K X.mg X.base CX k f fd Ai sp)(B5:Cm (k+1) X.A)(A0:Binds X.K fd Ai ds)(hd:Vals HE ds)(AG:Passes CX X E)(I:θ)(r:Vals vs us)(h:∀x Ag,H x=none->H Ag=none->Ag≠x->sp (.ref x::(vs++HE)) (upd (upd H Ag (.own x)) x (.ins C Ag [])) (λv Am=>v=.non/\Q (.ref x) Am) E) :
  Ad (B2 X.prog X.w) X.A (call (.ref C) us) (G_ X pins σ Q) X.xe s:=by
 have AV:=h (s.heap.objs.size+1) s.heap.objs.size (I.BZ.fresh (U_ _)) (I.BZ.fresh (CY _)) (Fl (fY _));have Bl:=Inv.made (C:=C) I;have B7:Vals (V.ref (s.heap.objs.size+1)::(vs++HE)) (DR (s.heap.objs.size+1)::(us++ds)):=.cons rfl (r.append hd);have AN:(DR (s.heap.objs.size+1)::us++ds).length=Ai.length:=by have e:=B7.length;rw[F.len _ _ _ _ AV]at e;exact e.symm
 refine wpAny_call (zC (f:=f) I.E9 M.makes M.init (beq_iff_eq.mp M.fn) (XK (F.run _ X.stack _ _ ⟨DR (s.heap.objs.size+1)::us,[]⟩ (DR (s.heap.objs.size+1)::(us++ds)) _ _ E (B5.make C us [])
  (Bl.iu.make C us []) (A0 _ (DR (s.heap.objs.size+1)::us) Bl.E9 AN) B7 AV) λr s' PW=>?_))
 cases r with
 |error e=>exact AG pins σ _ _ e s' Bl PW
 |ok HV=>
  cases HV with
  |ret u=>obtain⟨v,H',Dk,CJ,ev,EB⟩:=Bl.after PW;subst ev;exact⟨CJ,⟨V.ref (s.heap.objs.size+1),H',Dk,rfl,EB⟩⟩
  |next=>exact Kc PW
  |brk=>exact Kc PW
  |cont=>exact Kc PW
def ly(M:Uk X.K C f)(F:Gl X.prog X.w X.K X.mg X.base CX k f fd Ai sp)(B5:Cm (k+1) X.A)(A_:EE X x)(hm:X.mg x=some (.ref C))(A0:Binds X.K fd Ai ds)(hd:Vals HE ds)(AG:Passes CX X E)(AD:GH X (e::A4) t)(GV:ζ:=by decide)(he:BF (e::A4) X.env=(false,BJ e X.env)::BF A4 X.env:=by rfl)(Dx:(D4 pos (BF A4 X.env)).any (·.1)=false:=by rfl) :
  Av X (.Call (.Name x p) (e::A4) [] pos) (es C sp HE E t):=by
 intro pins s σ H Q I h;refine UP (cS I A_ hm ?_ GV);refine fH (h₀:=X.base) I.ok.mod.JQ M.kp (Bc (AD pos pins s σ H _ I h) λus s1⟨vs,H1,Az,r,q⟩=>⟨Az.E9,?_⟩) he Dx;exact acE M F B5 A0 hd AG Az r q
end
noncomputable def L8(X:Ac)(kf:List FP)(t:Ew):Prop:=
 ∀(pos:Pos)(pins:List (A8×Obj))(s:AP)(σ :St)(H:AB)(Q:List V->AB->Prop),θ->t σ H Q->Ad (B2 X.prog X.w) X.A (evalAll ((H5 pos (H3 kf X.env)).map (·.2))) (hR X pins σ Q) X.xe s
section
variable{X:Ac}{CX:Ll}{k:Nat}{f C:A8}{fd:GF}{Ai ks:List Str}{sp:AX}{E:DT}{x m:Str}{p pos apos ahz:Pos}{e o:AU}{A4:List AU}{kf:List FP}{E4 C7:TE}{t C8:Ew}{nm:Option Str}
variable{g:List A7->List A7->List A7}{aiT:List V->List V->List V}
end
structure Cj(N P:List Str)(sc:E8):Prop where
 kind:sc.kind=.function
 co:sc.isCoroutine=false
 gen:sc.isGenerator=false
 Cs:N.Nodup
 pre:N.take P.length=P
 par:∀x∈P,sc.names.lookup x=some .local\/sc.names.lookup x=some .cell
 aai:∀y∈sc.names,y.2≠.free
theorem i6{JO:Str->Option Ke}{x:Str}:∀{binds:List (Str×A7)}{m:Str->Option A7},(∀v,(x,v)∉binds)->bindL JO binds m x=m x
 |[],_,_=>rfl
 |(n,v)::r,m,h=>by
  unfold bindL;rw[i6 λw hw=>h w (Fk _ hw)]
  split
  .have:x≠n:=by rintro rfl;exact h v Mt
   simp[this]
  .rfl
theorem i4{JO:Str->Option Ke}{x:Str}:∀{binds:List (Str×A7)}{m:Str->Option A7},(∀v,(x,v)∉binds)->bindC JO binds m x=m x
 |[],_,_=>rfl
 |(n,v)::r,m,h=>by
  unfold bindC;rw[i4 λw hw=>h w (Fk _ hw)]
  split
  .rfl
  .have:x≠n:=by rintro rfl;exact h v Mt
   simp[this]
theorem i5{JO:Str->Option Ke}{x:Str}{v:A7}:∀{P:List Str}{vs:List A7}{i:Nat}{m:Str->Option A7},P.Nodup->P[i]?=some x->vs[i]?=some v->JO x=some .local->
  bindL JO (P.zip vs) m x=some v
 |[],_,_,_,_,h,_,_=>by simp at h
 |_::_,[],_,_,_,_,h,_=>by simp at h
 |p::P,w::vs,0,m,Cs,A6,AA,AE=>by simp at A6 AA;subst A6;subst AA;show bindL JO ((p,w)::P.zip vs) m p=_;unfold bindL;rw[i6 λv BN=>(List.nodup_cons.mp Cs).1 (XA BN).1,if_pos AE];simp
 |p::P,w::vs,i+1,m,Cs,A6,AA,AE=>by show bindL JO ((p,w)::P.zip vs) m x=_;unfold bindL;exact i5 (i:=i) (List.nodup_cons.mp Cs).2 (A6:) (AA:) AE
theorem i3{JO:Str->Option Ke}{x:Str}{v:A7}:∀{P:List Str}{vs:List A7}{i:Nat}{m:Str->Option A7},P.Nodup->P[i]?=some x->vs[i]?=some v->JO x≠some .local->
  bindC JO (P.zip vs) m x=some v
 |[],_,_,_,_,h,_,_=>by simp at h
 |_::_,[],_,_,_,_,h,_=>by simp at h
 |p::P,w::vs,0,m,Cs,A6,AA,AE=>by simp at A6 AA;subst A6;subst AA;show bindC JO ((p,w)::P.zip vs) m p=_;unfold bindC;rw[i4 λv BN=>(List.nodup_cons.mp Cs).1 (XA BN).1,if_neg AE];simp
 |p::P,w::vs,i+1,m,Cs,A6,AA,AE=>by show bindC JO ((p,w)::P.zip vs) m x=_;unfold bindC;exact i3 (i:=i) (List.nodup_cons.mp Cs).2 (A6:) (AA:) AE
noncomputable def start(N:List Str)(vs:List V):St:=vs.map some++ES (N.length-vs.length) none
noncomputable def Jt(CX:Ll)(P:Bx)(w:Bj)(K:Aa)(mg:Str->Option A7)(base:BI)(N:List Str)(qual:Str)(scope:E8)(f:A8)(cd:A7)(A:CK)(outer:List Env)(s:AP)(H:AB)(E:DT):Ac where
 prog:=P
 w:=w
 K:=K
 mg:=mg
 base:=base
 A:=A.deeper (OB qual scope s.heap.objs.size f cd)
 N:=N
 GX:=s
 RE:=H
 env:=OB qual scope s.heap.objs.size f cd
 outer:=outer
 stack:=OB qual scope s.heap.objs.size f cd::outer
 ex:=[]
 calm:=true
 fn:=λ_=>true
 Bg:=[]
 xe:=λe s'=>Ad (B2 P w) (A.deeper (OB qual scope s.heap.objs.size f cd)) (leaving (OB qual scope s.heap.objs.size f cd) e) (λ_ W7=>CX outer H s E e W7) (λCQ W7=>CX outer H s E CQ W7) s'
def bc{sc:E8}{n:Nat}{x:Str}(h:sc.names.lookup x=some .cell):∃c,(Hh n sc.names []).lookup x=some c:=by have q:=qc sc.names n [] (.inl h);exact Option.isSome_iff_exists.mp q
def xF{CX:Ll}{P:Bx}{w:Bj}{K:Aa}{mg:Str->Option A7}{base:BI}{N Ai:List Str}{qual:Str}{scope:E8}{f:A8}{cd:A7}{A:CK}{outer:List Env}{s s1:AP}{H:AB}{E:DT}{us:List A7}{vs:List V}(S:Cj N Ai scope)(hd:A.handled=none)(DJ:RC P w K mg base A outer s H)(AN:vs.length=Ai.length)(r:Vals vs us)(x:InCallC s s.heap.objs.size (bindL (OB qual scope s.heap.objs.size f cd).kindOf (Ai.zip us) λ_=>none) (Hh (s.heap.objs.size+1) scope.names []) (bindC (OB qual scope s.heap.objs.size f cd).kindOf (Ai.zip us) λ_=>none) s1) :
  Inv (Jt CX P w K mg base N qual scope f cd A outer s H E) [] (start N vs) H s1:=by
 have Dx:Ai.length<=N.length:=by have:=congrArg R4 S.pre;rw[UI]at this;lia
 obtain⟨A6,C8,rfl,AE⟩:=x.done;have Vx:∀b:A8,b∉(Jt CX P w K mg base N qual scope f cd A outer s H E).ex:=λb z=>absurd (show b∈([]:List A8)from z) γ
 refine⟨⟨DJ.mod,S.kind,rfl,rfl,CY _,λy z c A6 AA=>?_,λy Ba=>?_,λy c _ h=>?_,λ_=>hd,Around.frames_deeper DJ.frames,.inr ⟨rfl,rfl⟩,λb z=>absurd z (Vx b),DJ.bs,DJ.Pt,λb _ _=>Vx b,λb z=>absurd z (Vx b),DJ.Ly,DJ.SJ⟩,
  rfl,DJ.bare,GR.kept AE,⟨_,x.toInCall.ns,λi y v A6 AA Ao=>?_⟩,λy c h=>⟨_,x.cell y c h⟩,DJ.BZ.fresh (CY _),λy c h=>?_,λp AZ=>absurd (show p∈([]:List (A8×Obj))from AZ) γ,DJ.BZ.kept AE,?_⟩
 .exact name_of_addr x.apart (Ms A6) (Ms AA)
 .have Ba:scope.names.lookup y=some .cell\/scope.names.lookup y=some .free:=Ba;rcases Ba with Ba|Ba
  .exact bc Ba
  .exact absurd rfl (S.aai _ (Ms Ba))
 .exact Qy (x.above y c (Ms h))
 .have AC:i<vs.length:=by
    unfold start at AA;by_cases AC:i<vs.length
    .exact AC
    .rw[Nx (AC:)]at AA;rw[PG]at AA
     split at AA<;>cases AA
  have AD:vs[i]?=some v:=by
   unfold start at AA;rw[IS (AC:),EC]at AA;cases e:vs[i]? with
   |none=>rw[e]at AA;cases AA
   |some a=>rw[e]at AA;cases AA;rfl
  obtain⟨u,BM,CJ⟩:=r.get AD;have AZ:Ai[i]?=some y:=by rw[<-S.pre,List.getElem?_take_of_lt δ];exact A6
  have l3:Ai.Nodup:=by rw[<-S.pre];exact S.Cs.sublist (List.take_sublist _ _)
  refine⟨u,CJ,?_⟩;rcases S.par y (Hd AZ)with k|k
  .exact .inl ⟨k,i5 l3 AZ BM k⟩
  .obtain⟨c,e⟩:=bc (n:=s.heap.objs.size+1) k;refine .inr ⟨.inl k,c,e,?_⟩;have q:=x.cell y c e;rw[i3 l3 AZ BM (by show scope.names.lookup y≠_;rw[k];decide)]at q;exact q
 .exact DJ.BZ.fresh (Qy (x.above y c (Ms h)))
 .unfold start;show _=N.length;rw[JK,GN,Se];lia
def vb {CX:Ll} {P:Bx} {w:Bj} {K:Aa} {mg:Str->Option A7} {base:BI} {k:Nat} {f:A8} {name qual:Str} {params:Arguments} {body:List Be} {scope:E8} {Yt Dm doc pm CG Dn IL:A7} {an EL:Option A8}{N4:Array (Option A7)} {N Ai:List Str} {sp:AX} (lk:K.lookup f=some ⟨IL,EL,.func (JH name qual params body scope Yt Dm doc pm an CG Dn),N4⟩) (DV:PI K CG qual=true) (S:Cj N Ai scope)(len:∀vs H Q E,sp vs H Q E->vs.length=Ai.length)(b3:∀(A:CK)(outer:List Env)(s:AP)(H:AB)(vs:List V)(Q:Cd)(E:DT),Cm k (A.deeper (OB qual scope s.heap.objs.size f CG))->sp vs H Q E->
    ∃t,GP (Jt CX P w K mg base N qual scope f CG A outer s H E) body t/\t { B6:=λ_ H'=>Q .non H',EP:=Q } (start N vs) H) :
  Gl P w K mg base CX (k+1) f (JH name qual params body scope Yt Dm doc pm an CG Dn) Ai sp:=by
 refine⟨len,λA outer s H args us vs Q E B5 DJ A0 r PX=>?_⟩;have AN:=len _ _ _ _ PX;have IY:K.In s.heap:=DJ.mod.JQ.keeps λb o e=>(DJ.bs b o e).1;have lim:s.heap.NoLimit:=DJ.mod.nolimit.keeps λb o e=>(DJ.bs b o e).1;have v2:∀y∈Ai.zip us,scope.names.lookup y.1=some .local\/(scope.names.lookup y.1=some .cell/\((Hh (s.heap.objs.size+1) scope.names []).lookup y.1).isSome=true):=λ⟨n,v⟩ Ba=>by
  rcases S.par n (XA Ba).1 with q|q
  .exact .inl q
  .exact .inr ⟨q,qc _ _ _ (.inl q)⟩
 refine codeAny_call_function B5.depth (IY _ _ lk) rfl S.co S.gen rfl (PySem.W.codeRec_of IY DV) (A0 _ _ _ _ ?_);refine wpAny_newFunctionEnv_cells S.kind v2 λenv he s1 x=>?_;subst he;refine⟨lim.keeps x.toInCall.keep,codeAny_func ?_⟩;obtain⟨t,Aj,AV⟩:=b3 A outer s H vs Q E (B5.deeper _) PX;have I:Inv (Jt CX P w K mg base N qual scope f CG A outer s H E) [] (start N vs) H s1:=xF S B5.hd DJ AN r x;refine Iv (Aj [] s1 (start N vs) H _ I AV) (λHV s' AJ=>?_) λe s' AJ=>AJ;have fin:∀{σ' :St}{H':AB}{v:V}{u:A7},Inv (Jt CX P w K mg base N qual scope f CG A outer s H E) [] σ' H' s'->RelV v u->Q v H'->gA outer P w K H s Q u s':=
  λ{σ' H' v u} DA CJ q=>⟨v,H',DA.os,DA.bare,DA.base,DA.BZ,CJ,q⟩
 cases HV with
 |ret u=>obtain⟨v,σ',H',DA,CJ,q⟩:=AJ;exact fin DA CJ q
 |next=>obtain⟨σ',H',DA,q⟩:=AJ;exact fin (v:=V.non) (u:=GD) DA rfl q
 |brk=>obtain⟨_,_,_,q⟩:=AJ;exact Kc q
 |cont=>obtain⟨_,_,_,q⟩:=AJ;exact Kc q
section
variable{X:Ac}{x:Str}{p pos:Pos}{e:AU}{A4:List AU}{t:Ew}{id T:String}{r:List V->AB->Cd->Prop}
def aB(r:List V->AB->Cd->Prop)(t:Ew):TE:=λσ H Q=>t σ H λvs H1=>r vs H1 Q
def dJ(AO:IW X (.builtin id) r)(A_:EE X x)(hm:X.mg x=none)(BN:LY x=some (.builtin id))(AD:GH X (e::A4) t)(AQ:x≠"__name__":=by decide)(GV:ζ:=by decide)(he:BF (e::A4) X.env=(false,BJ e X.env)::BF A4 X.env:=by rfl)(Dx:(D4 pos (BF A4 X.env)).any (·.1)=false:=by rfl):Av X (.Call (.Name x p) (e::A4) [] pos) (aB r t):=by intro pins s σ H Q I h;refine UP (Om I A_ hm BN ?_ AQ GV);exact PyProof.Rows.callWith_builtin1 (Bc (AD pos pins s σ H _ I h) λus s1⟨vs,H1,Az,AK,Ak⟩=>AO pins s1 σ H1 vs us Q Az AK Ak) he Dx
def lq(AO:IW X (.type T) r)(A_:EE X x)(hm:X.mg x=none)(BN:LY x=some (.type T))(AD:GH X (e::A4) t)(AQ:x≠"__name__":=by decide)(GV:ζ:=by decide)(he:BF (e::A4) X.env=(false,BJ e X.env)::BF A4 X.env:=by rfl)(Dx:(D4 pos (BF A4 X.env)).any (·.1)=false:=by rfl):Av X (.Call (.Name x p) (e::A4) [] pos) (aB r t):=by intro pins s σ H Q I h;refine UP (Om I A_ hm BN ?_ AQ GV);exact Qm (Bc (AD pos pins s σ H _ I h) λus s1⟨vs,H1,Az,AK,Ak⟩=>AO pins s1 σ H1 vs us Q Az AK Ak) he Dx
end
end Bs
namespace DX
open PySem PyProof.Rows
section
open PySem.SeqAt
open PySem.AutoSeq1 (wpAny_loadPart')
open PySem.MeetsSeq PySem.MeetsSeq2 PySem.MeetsSeq3
end
section
variable{prog:Bx}{w:Bj}{A:CK}{E:A7->AP->Prop}{s:AP}
def sP{t b:A8}{vs ws:List A7}{Q:A7->AP->Prop}(Aj:IsTup s.heap t vs.toArray)(A0:IsTup s.heap b ws.toArray)(BN:vs≠[])(A6:ws=[]->Q (.ref t) s)(AA:ws≠[]->Q (.ref s.heap.objs.size) { s with heap:=s.heap.push { cls:=.type "tuple",data:=.seq (vs++ws).toArray } })(hsz:vs.length+ws.length<=CD):Ad (B2 prog w) A (JM .Add (.ref t) (.ref b)) Q E s:=by
 obtain⟨⟨cls,D7,data,C2⟩,ho,AO,n,hd⟩:=id Aj;obtain⟨⟨rl,Yw,data2,au⟩,Ra,F2,D8,hd2⟩:=id A0;simp only at AO hd F2 hd2;subst AO hd F2 hd2;have e:vs.toArray++ws.toArray=(vs++ws).toArray:=γ
 by_cases hw:ws=[]
 .exact concat_meets ⟨_,ho,rfl⟩ ⟨_,Ra,rfl⟩ fZ seq_tuple_add f7 fE (fC _ _)
    (tuple_addW1 t b vs.toArray ws.toArray n D8 D7 Yw C2 au (BN:) (by simp[hw])) ⟨ho,Ra,A6 hw⟩
 .refine concat_meets ⟨_,ho,rfl⟩ ⟨_,Ra,rfl⟩ fZ seq_tuple_add f7 fE (fC _ _)
    (tuple_addW2 t b vs.toArray ws.toArray n D8 D7 Yw C2 au (BN:) (hw:) (by rw[Dy,Dy];exact hsz)) ⟨ho,Ra,?_⟩
  rw[e];exact AA hw
noncomputable def Ca(n d:Nat):Option Int->Nat
 |none=>d
 |some v=>if v<0 then(v+(n:Int)).toNat else min v.toNat n
def d8(n d:Nat):Ca n d none=d:=rfl
def nd(n d k:Nat):Ca n d (some (k:Int))=min k n:=by show(if(k:Int)<0 then((k:Int)+(n:Int)).toNat else min (k:Int).toNat n)=min k n;rw[if_neg δ,Mr]
def d7(n d:Nat)(hd:d<=n)(o:Option Int):Ca n d o<=n:=by
 cases o with
 |none=>exact hd
 |some v=>
  show(if v<0 then(v+(n:Int)).toNat else min v.toNat n)<=n;by_cases BN:v<0
  .rw[if_pos BN];lia
  .rw[if_neg BN];exact Nat.min_le_right _ _
def hc(v:Int)(n d:Nat):(if v<0 then max (v+(n:Int)) 0 else min v (n:Int))=((Ca n d (some v):Nat):Int):=by
 show(if v<0 then max (v+(n:Int)) 0 else min v (n:Int))=(((if v<0 then(v+(n:Int)).toNat else min v.toNat n):Nat):Int);by_cases BN:v<0
 .erw[if_pos BN];lia
 .erw[if_neg BN];lia
def r6(lo AC:Option Int)(n:Nat):fB lo AC 1 (n:Int)=(((Ca n 0 lo:Nat):Int),((Ca n n AC:Nat):Int)):=by
 have A6:¬((1:Int)<0):=δ
 unfold fB;erw[A6,if_false];refine N0 ?_ ?_
 .cases lo with
  |none=>rfl
  |some v=>exact hc v n 0
 .cases AC with
  |none=>rfl
  |some v=>exact hc v n n
def aam(i j:Nat):Wl (i:Int) (j:Int) 1=j-i:=by
 unfold Wl;have A6:(1:Int)>0:=δ
 erw[A6,if_true,Int.ediv_one]
 split<;>lia
def pS{v:A7}{o:Option Int}{Q:Option Int->AP->Prop}(p:OC v o)(h:Q o s):Ad (B2 prog w) A (Builtin.Slice.slicePartIndex v) Q E s:=by
 cases p with
 |none=>exact slicePart_none h
 |int i t=>exact slicePart_int h
def ad8{C2:A8}{H_ Ha:A7}{lo AC:Option Int}{n:Nat}{Q:Int×Int×Nat->AP->Prop}(AJ:s.heap.IsSliceOf C2 H_ Ha .none)(pl:OC H_ lo)(pu:OC Ha AC)(h:Q (((Ca n 0 lo:Nat):Int),1,Ca n n AC-Ca n 0 lo) s):Ad (B2 prog w) A (qL (.ref C2) (pure (n:Int))) Q E s:=by obtain⟨os,Rc,jh,Yl⟩:=id AJ;unfold qL Builtin.Slice.sliceFields;refine AL (AL (Hf Rc Yl (x:=H_) rfl (AL (Hf Rc Yl (x:=Ha) rfl (AL (Hf Rc Yl (x:=.none) rfl (Ay ?_)))))));refine AL (slicePart_none ?_);show Ad _ _ (if((1:Int)==0)=true then _ else _) _ _ s;rw[if_neg ε];refine AL (pS pl (AL (pS pu (AL (Ay ?_)))));show Ad _ _ (match fB lo AC 1 (n:Int)with|(lo,AC)=>pure (lo,(1:Int),Wl lo AC 1)) _ _ s;rw[r6 lo AC n];show Ad _ _ (pure (((Ca n 0 lo:Nat):Int),(1:Int),Wl ((Ca n 0 lo:Nat):Int) ((Ca n n AC:Nat):Int) 1)) _ _ s;rw[aam];exact Ay h
def abF(xs:Array A7)(i k:Nat):((EN k).filterMap λ(m:Nat)=>xs[((i:Int)+(m:Int)*1).toNat]?).toArray=((xs.toList.drop i).take k).toArray:=by
 have e:(λ(m:Nat)=>xs[((i:Int)+(m:Int)*1).toNat]?)=λm=>xs[i+m]?:=by
  funext m
  have:((i:Int)+(m:Int)*1).toNat=i+m:=δ
  rw[this]
 rw[e];have:=pick_run xs i k;rw[List.filterMap_map]at this;have AH:((λx=>xs[x]?)∘λx=>i+x)=λm=>xs[i+m]?:=rfl;rw[AH]at this;rw[this]
def vk{t C2:A8}{items:Array A7}{H_ Ha:A7}{lo AC:Option Int}{Q:A7->AP->Prop}(Aj:IsTup s.heap t items)(AJ:s.heap.IsSliceOf C2 H_ Ha .none)(pl:OC H_ lo)(pu:OC Ha AC)(hw:¬(Ca items.size 0 lo=0/\Ca items.size items.size AC=items.size))(h:Q (.ref s.heap.objs.size) { s with heap:=s.heap.push { cls:=.type "tuple",data:=.seq ((items.toList.drop (Ca items.size 0 lo)).take (Ca items.size items.size AC-Ca items.size 0 lo)).toArray } })(hsz:items.size<=CD):Ad (B2 prog w) A (PU (.ref t) (.ref C2)) Q E s:=by
 have YP:sizeOk (.seq ((items.toList.drop (Ca items.size 0 lo)).take (Ca items.size items.size AC-Ca items.size 0 lo)).toArray):=by show((items.toList.drop (Ca items.size 0 lo)).take (Ca items.size items.size AC-Ca items.size 0 lo)).toArray.size<=CD;rw[Dy,UI,X4,UN];lia
 have Bi:Ca items.size items.size AC<=items.size:=d7 _ _ (CY _) AC;obtain⟨os,Rc,jh,Yl⟩:=id AJ;have v9:s.TypeIs (.ref C2) "slice":=⟨os,Rc,jh⟩;unfold PU
 try with_reducible refine K2 ?_
 first|refine AL (Ay ?_)|skip
 refine AL (wpAny_sequenceKey Aj.typeIs ε ?_)
 refine AL (Mv (name:=En "__getitem__") Aj.typeIs qU
  (Iu qU Aj.typeIs entry_tuple_getitem ?_ (args_tuple_getitem _ _)))
 show Ad _ _ (qT (.ref t)>>=_) _ _ s;refine AL (tupleItemsOf_ Aj ?_);refine AL (UT v9 ?_);rw[if_pos ε];refine AL (ad8 AJ pl pu ?_);have Ob:¬((((Ca items.size 0 lo:Nat):Int)==0&&(1:Int)==1&&(Ca items.size items.size AC-Ca items.size 0 lo)==items.size)=true):=by intro q;rw[Fj,Fj]at q;have Ak:((Ca items.size 0 lo:Nat):Int)=0:=eq_of_beq q.1.1;have BC:Ca items.size items.size AC-Ca items.size 0 lo=items.size:=eq_of_beq q.2;exact hw ⟨δ,δ⟩
 show Ad _ _ (if(((Ca items.size 0 lo:Nat):Int)==0&&(1:Int)==1&&(Ca items.size items.size AC-Ca items.size 0 lo)==items.size)=true then _ else _) _ _ s;rw[if_neg Ob,abF]
 first
  |exact AL (m:=Ww _) (JL (Ay ⟨_,rfl,Ay h⟩) YP)
  |exact AL (m:=Ww _) (JL (AL (Ay (Ay ⟨_,rfl,Ay h⟩))) YP)
  |exact AL (AL (m:=Ww _) (JL (Ay (Ay ⟨_,rfl,Ay h⟩)) YP))
  |exact AL (AL (m:=Ww _) (JL (Ay ⟨_,rfl,Ay h⟩) YP))
end
end DX
namespace Bs
open PySem PySem.Spec PyProof.Rows
abbrev CB:=St->AB->(Option Int->AB->Prop)->Prop
noncomputable def Un(X:Ac)(e:Option AU)(t:CB):Prop:=
 ∀(pins:List (A8×Obj))(s:AP)(σ :St)(H:AB)(Q:Option Int->AB->Prop),θ->t σ H Q->
  Ad (B2 X.prog X.w) X.A (evalPart e X.env) (λu s'=>∃o H',Inv X pins σ H' s'/\OC u o/\Q o H') X.xe s
def aed:CB:=λ_ H Q=>Q none H
def aee(t:TE):CB:=λσ H Q=>t σ H λx H1=>∃i,x=.int i/\Q (some i) H1
section
variable{X:Ac}{e:AU}{E4:TE}{lo AC:Option AU}{Ex aG:CB}{pos Cw:Pos}
def aap:Un X none aed:=by intro pins s σ H Q I h;rw[evalPart_none];exact Ay ⟨none,H,I,.none,h⟩
def aaq(h:Av X e E4):Un X (some e) (aee E4):=by intro pins s σ H Q I hw;rw[evalPart_some];refine Bc (h pins s σ H _ I hw) λu s1⟨x,H1,Az,AK,Ak⟩=>?_;obtain⟨i,rfl,q⟩:=Ak;obtain⟨t,rfl⟩:=AK;exact⟨some i,H1,Az,.int i t,q⟩
noncomputable def Pl(X:Ac)(r:V->Option Int->Option Int->AB->Cd->Prop):Prop:=
 ∀(pins:List (A8×Obj))(s:AP)(σ :St)(H:AB)(x:V)(v H_ Ha:A7)(lo AC:Option Int)(C2:A8)(Q:Cd),θ->RelV x v->s.heap.IsSliceOf C2 H_ Ha .none->OC H_ lo->OC Ha AC->r x lo AC H Q->
  ∃T id,typeLookup (.type T) "__getitem__"=pure (some (.builtin id))/\s.TypeIs v T/\Ad (B2 X.prog X.w) X.A (PU v (.ref C2)) (G_ X pins σ Q) X.xe s
def Pl.or{r BO:V->Option Int->Option Int->AB->Cd->Prop}(h:Pl X r)(h':Pl X BO):Pl X (λx lo AC H Q=>r x lo AC H Q\/BO x lo AC H Q):=by
 intro pins s σ H x v H_ Ha lo AC C2 Q I BR AJ pl pu q;rcases q with q|q
 .exact h pins s σ H x v H_ Ha lo AC C2 Q I BR AJ pl pu q
 .exact h' pins s σ H x v H_ Ha lo AC C2 Q I BR AJ pl pu q
def ew(r:V->Option Int->Option Int->AB->Cd->Prop)(E4:TE)(Ex aG:CB):TE:=λσ H Q=>E4 σ H λx H1=>Ex σ H1 λl Am=>aG σ Am λu Cb=>r x l u Cb Q
def dM{r:V->Option Int->Option Int->AB->Cd->Prop}(B5:Pl X r)(he:Av X e E4)(AN:Un X lo Ex)(BM:Un X AC aG):Av X (.Subscript e (.Slice lo AC none Cw) pos) (ew r E4 Ex aG):=by intro pins s σ H Q I h;refine Subscript_ (Bc (he pins s σ H _ I h) λv s1⟨x,H1,Az,AK,Ak⟩=>?_);refine wpAny_Slice (Bc (AN pins s1 σ H1 _ Az Ak) λH_ s2⟨l,Am,Bl,pl,BC⟩=>Bc (BM pins s2 σ Am _ Bl BC) λHa s3⟨u,Cb,Dk,pu,EB⟩=>?_);rw[evalPart_none];refine Ay ?_;have Ln:Inv X pins σ Cb { s3 with heap:=s3.heap.push { cls:=.type "slice",data:=.fields #[H_,Ha,.none] } }:=Dk.kept (t':=s3.toks) λb ob q=>DM _ q;obtain⟨T,id,CM,Aj,A_⟩:=B5 pins { s3 with heap:=s3.heap.push { cls:=.type "slice",data:=.fields #[H_,Ha,.none] } } σ Cb x v H_ Ha l u s3.heap.objs.size Q Ln AK (Heap.IsSliceOf.new ..) pl pu EB;show Ad (B2 X.prog X.w) X.A (subscriptTail e (.Slice lo AC none Cw) v (.ref s3.heap.objs.size)) (G_ X pins σ Q) X.xe { s3 with heap:=s3.heap.push { cls:=.type "slice",data:=.fields #[H_,Ha,.none] } };exact tail_any (ops:=[.ref s3.heap.objs.size,v]) Aj CM A_ (by with_unfolding_all rfl)
noncomputable def Pu(xs:List V)(lo AC:Option Int):List V:=(xs.drop (DX.Ca xs.length 0 lo)).take (DX.Ca xs.length xs.length AC-DX.Ca xs.length 0 lo)
def jE(xs:List V)(lo AC:Option Int):(Pu xs lo AC).length<=xs.length:=by unfold Pu;rw[UI,X4];lia
noncomputable def nN(K:Aa):V->Option Int->Option Int->AB->Cd->Prop:=λx lo AC H Q=>∃a xs,x=.ref a/\CT K H a xs/\
 ¬(DX.Ca xs.length 0 lo=0/\DX.Ca xs.length xs.length AC=xs.length)/\∀p,H p=none->Q (.ref p) (upd H p (.tup (Pu xs lo AC)))
def pR:Pl X (nN X.K):=by
 intro pins s σ H x v H_ Ha lo AC C2 Q I BR AJ pl pu h;obtain⟨a,xs,rfl,AG,hw,q⟩:=h;cases BR;obtain⟨its,r,Aj,Aq⟩:=I.tuple AG;have hlen:its.toArray.size=xs.length:=by rw[Dy];exact r.length.symm
 refine⟨"tuple",_,PyProof.Rows.slot_tuple_getitem.lookup,Aj.typeIs,?_⟩;refine DX.vk Aj AJ pl pu (by rw[hlen];exact hw) ?_ (by rw[hlen];exact Aq);rw[hlen];refine⟨.ref s.heap.objs.size,_,I.laid (t':=s.toks) (o:=.tup (Pu xs lo AC)) (λb ob q=>DM _ q) (CY _) ?_,rfl,q _ (I.BZ.fresh (CY _))⟩;exact⟨FF (jE xs lo AC) Aq,_,(r.drop (DX.Ca xs.length 0 lo)).take (DX.Ca xs.length xs.length AC-DX.Ca xs.length 0 lo),IsTup.new _ _⟩
noncomputable def nE(K:Aa):Ek:=λx y H Q=>∃a b xs ys,x=.ref a/\y=.ref b/\CT K H a xs/\CT K H b ys/\xs≠[]/\xs.length+ys.length<=CD/\
 (ys=[]->Q (.ref a) H)/\(ys≠[]->∀p,H p=none->Q (.ref p) (upd H p (.tup (xs++ys))))
def Vals.dm{xs:List V}{us:List A7}(r:Vals xs us):us=[]↔xs=[]:=by
 cases r with
 |nil=>simp
 |cons _ _=>simp
def aaK:E5 X (JM .Add) (nE X.K):=by intro pins s σ H x y v u Q I BR Bt h;obtain⟨a,b,xs,ys,rfl,rfl,AD,A0,AG,Aq,Ak,BC⟩:=h;cases BR;cases Bt;obtain⟨its,AK,EA,_⟩:=I.tuple AD;obtain⟨IE,B7,Cw,_⟩:=I.tuple A0;refine DX.sP EA Cw (λz=>AG (AK.dm.mp z)) (λz=>⟨.ref a,H,I,rfl,Ak (B7.dm.mp z)⟩) (λz=>?_) (by rw[<-AK.length,<-B7.length];exact Aq);refine⟨.ref s.heap.objs.size,_,I.laid (t':=s.toks) (o:=.tup (xs++ys)) (λb ob q=>DM _ q) (CY _) ?_,rfl,BC (λw=>z (B7.dm.mpr w)) _ (I.BZ.fresh (CY _))⟩;exact⟨by rw[JK];exact Aq,_,AK.append B7,IsTup.new _ _⟩
end
noncomputable def Ii(n:Nat)(i:Int):Option Nat:=if 0<=i then(if i<n then some i.toNat else none)else if-(n:Int)<=i then some (i+n).toNat else none
noncomputable def G2{α:Type}(xs:List α)(i:Int):Option α:=(Ii xs.length i).bind λj=>xs[j]?
def lF{n:Nat}{i:Int}{j:Nat}(h:Ii n i=some j):So i n=some j/\j<n/\-(n:Int)<=i/\i<n:=by
 unfold Ii at h;by_cases h0:0<=i
 .rw[if_pos h0]at h;by_cases A6:i<n
  .rw[if_pos A6]at h;have e:i.toNat=j:=Ey h;exact⟨by rw[seqIndex_of h0 A6,e],δ,δ,A6⟩
  .rw[if_neg A6]at h;cases h
 .rw[if_neg h0]at h;by_cases A6: -(n:Int)<=i
  .rw[if_pos A6]at h;have e:(i+n).toNat=j:=Ey h;exact⟨by rw[seqIndex_neg δ A6,e],δ,A6,δ⟩
  .rw[if_neg A6]at h;cases h
def gZ{α:Type}{xs:List α}{i:Int}{v:α}(h:G2 xs i=some v):∃j,So i xs.length=some j/\xs[j]?=some v/\j<xs.length/\-(xs.length:Int)<=i/\i<xs.length:=by
 unfold G2 at h;cases e:Ii xs.length i with
 |none=>rw[e]at h;cases h
 |some j=>rw[e]at h;obtain⟨A6,AA,Ao,BG⟩:=lF e;exact⟨j,A6,h,AA,Ao,BG⟩
def hE(b:AU):Prop:=∀o i,XU b false o i=operate [o,i] (PU o i)
noncomputable def Os(X:Ac)(r:Ek):Prop:=
 ∀(value slice:AU)(pins:List (A8×Obj))(s:AP)(σ :St)(H:AB)(x y:V)(v u:A7)(Q:Cd),θ->RelV x v->RelV y u->r x y H Q->
  XU slice false v u=operate [v,u] (PU v u)->Ad (B2 X.prog X.w) X.A (subscriptTail value slice v u) (G_ X pins σ Q) X.xe s
noncomputable def rN(X:Ac)(id:String)(r:V->List V->AB->Cd->Prop):Prop:=
 ∀(pins:List (A8×Obj))(s:AP)(σ :St)(H:AB)(x:V)(xs:List V)(v:A7)(us:List A7)(Q:Cd),θ->RelV x v->Vals xs us->r x xs H Q->
  Ad (B2 X.prog X.w) X.A (call (.builtin id) (v::us)) (G_ X pins σ Q) X.xe s
section
variable{X:Ac}{a b:AU}{C7 tb:TE}{pos:Pos}
def Os.or{r BO:Ek}(h:Os X r)(h':Os X BO):Os X (λx y H Q=>r x y H Q\/BO x y H Q):=by
 intro value slice pins s σ H x y v u Q I BR Bt q AJ;rcases q with q|q
 .exact h value slice pins s σ H x y v u Q I BR Bt q AJ
 .exact h' value slice pins s σ H x y v u Q I BR Bt q AJ
def abg{r:Ek}(B5:Os X r)(AD:Av X a C7)(A0:Av X b tb)(AJ:hE b):Av X (.Subscript a b pos) (Vk r C7 tb):=by intro pins s σ H Q I h;exact Subscript_ (bV AD A0 I h λv u s2 x y Am Bl BR Bt q=>B5 a b pins s2 σ Am x y v u Q Bl BR Bt q (AJ _ _))
def nH(K:Aa):Ek:=λx y H Q=>∃p xs i v,x=.ref p/\y=.int i/\CA K H p xs/\G2 xs i=some v/\Q v H
def nJ(K:Aa):Ek:=λx y H Q=>∃p xs i v,x=.ref p/\y=.int i/\CT K H p xs/\G2 xs i=some v/\Q v H
def nI:Ek:=λx y H Q=>∃z i c,x=.str z/\y=.int i/\z.length<=CD/\G2 z.cps.toList i=some c/\Q (.str ⟨#[c]⟩) H
def x5:Os X (nH X.K):=by
 intro value slice pins s σ H x y v u Q I BR Bt h AJ;obtain⟨p,xs,i,z,rfl,rfl,AV,he,q⟩:=h;cases BR;obtain⟨t,rfl⟩:=Bt;obtain⟨its,r,pl,Aq⟩:=I.list AV;obtain⟨j,A6,AA,Ao,BG,Er⟩:=gZ he;obtain⟨w,IA,Kz⟩:=r.get AA;have AN:=r.length;have AQ:=Sz;have fin:G_ X pins σ Q w s:=⟨z,H,I,Kz,q⟩;by_cases h0:0<=i
 .have Bi:i.toNat=j:=by
    rw[seqIndex_of h0 Er]at A6;exact Ey A6
  exact item_listR pl.isList h0 δ (by rw[Bi];simpa using IA) fin AJ
 .have Bi:(i+(its.toArray.size:Int)).toNat=j:=by
    rw[seqIndex_neg δ BG]at A6;rw[Dy,<-AN];exact Ey A6
  exact subscriptTail_builtinR (x:=w) pl.isList.typeIs slot_list_getitem.lookup
   (wpAny_getItem_list_neg (Q:=λr s'=>r=w/\G_ X pins σ Q r s') pl.isList δ (by rw[Dy]<;>lia) δ (by rw[Bi];simpa using IA) ⟨rfl,fin⟩) AJ
def x8:Os X (nJ X.K):=by
 intro value slice pins s σ H x y v u Q I BR Bt h AJ;obtain⟨p,xs,i,z,rfl,rfl,AV,he,q⟩:=h;cases BR;obtain⟨t,rfl⟩:=Bt;obtain⟨its,r,pl,Aq⟩:=I.tuple AV;obtain⟨j,A6,AA,Ao,BG,Er⟩:=gZ he;obtain⟨w,IA,Kz⟩:=r.get AA;have AN:=r.length;have AQ:=Sz;have fin:G_ X pins σ Q w s:=⟨z,H,I,Kz,q⟩
 exact subscriptTail_builtinR (x:=w) pl.typeIs slot_tuple_getitem.lookup
  (getItem_tuple (j:=j) (Q:=λr s'=>r=w/\G_ X pins σ Q r s') pl δ δ (by rw[Dy,<-AN];exact A6) (IA:) ⟨rfl,fin⟩) AJ
def cA:Os X nI:=by
 intro value slice pins s σ H x y v u Q I BR Bt h AJ;obtain⟨z,i,c,rfl,rfl,Aq,he,q⟩:=h;obtain⟨t,rfl⟩:=BR;obtain⟨t',rfl⟩:=Bt;obtain⟨j,A6,AA,Ao,BG,Er⟩:=gZ he;have AN:z.cps.toList.length=z.length:=by simp[Str.length]
 rw[AN]at A6 BG Er;have AQ:=Sz;exact tail_any (R2 s z t) slot_str_getitem.lookup (getItem_str (c:=c) (by have A9:decide (i< -(2^63:Int))=false:=decide_eq_false δ;have AH:decide (i≥2^63)=false:=decide_eq_false δ;rw[A9,AH,Bool.or_false]) (by rw[A6];simpa using AA) ⟨.str ⟨#[c]⟩,H,I.tok _,⟨_,rfl⟩,q⟩) AJ
def nG(K:Aa):Ek:=λx y H Q=>nH K x y H Q\/nJ K x y H Q\/nI x y H Q
def x7:Os X (nG X.K):=x5.or (x8.or cA)
def zE(its:List A7)(n j:Nat)(u:A7):Kd (·.setIfInBounds j u) { cls:=.type "list",data:=.seq its.toArray n }={ cls:=.type "list",data:=.seq (its.set j u).toArray n }:=by simp[Kd]
theorem Inv.lst{pins:List (A8×Obj)}{σ :St}{H:AB}{s:AP}{p:A8}{xs:List V}(I:θ)(h:H p=some (.lst xs)) :
  ∃(its:List A7)(n:Nat),Vals xs its/\s.heap.get? p=some { cls:=.type "list",data:=.seq its.toArray n }/\xs.length<=CD:=by
 obtain⟨z,its,n,r,e⟩:=I.BZ p _ h;exact⟨its,n,r,e,z⟩
def Inv.z5{pins:List (A8×Obj)}{σ :St}{H:AB}{s:AP}{p:A8}{xs ys:List V}{its its':List A7}{n Na:Nat}{f:Obj->Obj}(I:θ)(h:H p=some (.lst xs))(ho:s.heap.get? p=some { cls:=.type "list",data:=.seq its.toArray n })(hf:f { cls:=.type "list",data:=.seq its.toArray n }={ cls:=.type "list",data:=.seq its'.toArray Na })(r:Vals ys its')(Aq:ys.length<=CD)(t:Nat) :
  Inv X pins σ (upd H p (.lst ys)) { s with heap:=s.heap.update p f,toks:=t }:=by
 have e:(s.heap.update p f).get? p=some { cls:=.type "list",data:=.seq its'.toArray Na }:=by rw[PH f ho (by rw[hf]<;>rfl),hf]
 refine I.write (x:=p) (e:=p) (by rw[h];trivial) (.inl rfl) (λb u A0 q=>(X1 _ _ (Hi A0)).trans q) ⟨_,e⟩ ?_;exact⟨Aq,its',Na,r,e⟩
def abv:V->V->V->AB->(AB->Prop)->Prop:=λo i v H Q=>∃p xs k j,o=.ref p/\i=.int k/\H p=some (.lst xs)/\Ii xs.length k=some j/\Q (upd H p (.lst (xs.set j v)))
def set_list:iK X abv:=by
 intro pins s σ H o i v D6 Fx u Q I Ja N9 CJ h;obtain⟨p,xs,k,j,rfl,rfl,AZ,Bi,q⟩:=h;cases Ja;obtain⟨t,rfl⟩:=N9;obtain⟨its,n,r,ho,Aq⟩:=I.lst AZ;obtain⟨A6,AA,Ao,BG⟩:=lF Bi;have AN:=r.length;have AQ:=Sz;have Ni:Inv X pins σ (upd H p (.lst (xs.set j v))) { s with heap:=s.heap.update p (Kd (·.setIfInBounds j u)) }:=
  I.z5 AZ ho (zE its n j u) (r.set CJ j) (by rw[List.length_set];exact Aq) s.toks
 by_cases h0:0<=k
 .have AE:k.toNat=j:=by
    rw[seqIndex_of h0 BG]at A6;exact Ey A6
  exact PySem.W.ki_setAt ho h0 δ (by rw[Dy,<-AN];exact BG) (by rw[AE];exact⟨_,Ni,q⟩)
 .have AE:(k+(its.toArray.size:Int)).toNat=j:=by
    rw[seqIndex_neg δ Ao]at A6;rw[Dy,<-AN];exact Ey A6
  exact PySem.W.ki_setBack ho δ (by rw[Dy,<-AN];exact Ao) δ (by rw[AE];exact⟨_,Ni,q⟩)
def adA(lo AC:Option Int)(n:Nat):(R5 lo AC none n).1=((DX.Ca n 0 lo:Nat):Int)/\(R5 lo AC none n).2.1=((DX.Ca n n AC:Nat):Int)/\(R5 lo AC none n).2.2=1:=by
 refine⟨?_,?_,rfl⟩
 .cases lo with
  |none=>simp[R5,DX.Ca]
  |some i=>
   erw[R5,DX.Ca,X5,show(1:Int)>0 by decide,if_true];by_cases h:i<0
   .erw[h,if_true]<;>lia
   .erw[h,if_false]<;>lia
 .cases AC with
  |none=>simp[R5,DX.Ca]
  |some i=>
   erw[R5,DX.Ca,X5,show(1:Int)>0 by decide,if_true];by_cases h:i<0
   .erw[h,if_true]<;>lia
   .erw[h,if_false]<;>lia
def ad9(its:List A7)(lo AC:Option Int):slicePick its.toArray lo AC none=((its.drop (DX.Ca its.length 0 lo)).take (DX.Ca its.length its.length AC-DX.Ca its.length 0 lo)).toArray:=by obtain⟨A6,AA,Ao⟩:=adA lo AC its.toArray.size;unfold slicePick;rw[A6,AA,Ao];erw[sliceRange_one,pick_run,Dy]<;>rfl
def nL(K:Aa):V->Option Int->Option Int->AB->Cd->Prop:=λx lo AC H Q=>∃a xs,x=.ref a/\CA K H a xs/\∀p,H p=none->Q (.ref p) (upd H p (.lst (Pu xs lo AC)))
def ad5:Pl X (nL X.K):=by intro pins s σ H x v H_ Ha lo AC C2 Q I BR AJ pl pu h;obtain⟨a,xs,rfl,AG,q⟩:=h;cases BR;obtain⟨its,r,Aj,Aq⟩:=I.list AG;have hlen:=r.length;refine⟨"list",_,slot_list_getitem.lookup,Aj.isList.typeIs,?_⟩;refine wpAny_getItem_list_slice Aj.isList AJ pl pu .none γ ?_ (by rw[Dy]<;>lia);rw[ad9,<-hlen];refine⟨.ref s.heap.objs.size,_,I.laid (t':=s.toks) (o:=.lst (Pu xs lo AC)) (λb ob q=>DM _ q) (CY _) ?_,rfl,q _ (I.BZ.fresh (CY _))⟩;exact⟨FF (jE xs lo AC) Aq,_,0,(r.drop (DX.Ca xs.length 0 lo)).take (DX.Ca xs.length xs.length AC-DX.Ca xs.length 0 lo),FE _ rfl⟩
def IW.or{f:A7}{r BO:List V->AB->Cd->Prop}(h:IW X f r)(h':IW X f BO):IW X f (λxs H Q=>r xs H Q\/BO xs H Q):=by
 intro pins s σ H xs us Q I rs q;rcases q with q|q
 .exact h pins s σ H xs us Q I rs q
 .exact h' pins s σ H xs us Q I rs q
def sJ:IW X (.type "list") (λxs H Q=>∃p ys,xs=[.ref p]/\(CA X.K H p ys\/CT X.K H p ys)/\∀l,H l=none->Q (.ref l) (upd H l (.lst ys))):=by
 intro pins s σ H xs us Q I r h;obtain⟨p,ys,rfl,AV,q⟩:=h;obtain⟨u,rfl,BR⟩:=vals1 r;cases BR
 have fin:∀(its:List A7),Vals ys its->ys.length<=CD->∀(h':BI)(Em:Nat),(∀b o',s.heap.get? b=some o'->h'.get? b=some o')->
   h'.get? s.heap.objs.size=some { cls:=.type "list",dict:=none,data:=.seq its.toArray Em,slots:= #[] }->G_ X pins σ Q (.ref s.heap.objs.size) { s with heap:=h' }:=λits BO Aq h' Em kp e=>
  ⟨.ref s.heap.objs.size,_,I.laid (t':=s.toks) kp (CY _) (show FS X.prog X.w X.K _ h' _ (.lst ys)from⟨Aq,its,Em,BO,e⟩),rfl,q _ (I.BZ.fresh (CY _))⟩
 rcases AV with AV|AV
 .obtain⟨its,BO,pl,Aq⟩:=I.list AV;have hlen:=BO.length;obtain⟨o,ho,AO,n,hd⟩:=pl.isList;exact call_list_seq p (.inl rfl) ho AO hd (λh' Em kp e=>fin its BO Aq h' Em kp e) (by erw[Dy]<;>lia)
 .obtain⟨its,BO,pl,Aq⟩:=I.tuple AV;have hlen:=BO.length;obtain⟨o,ho,AO,n,hd⟩:=pl;exact call_list_seq p (.inr rfl) ho AO hd (λh' Em kp e=>fin its BO Aq h' Em kp e) (by erw[Dy]<;>lia)
def sM:IW X (.type "tuple") (λxs H Q=>∃p ys,xs=[.ref p]/\((CA X.K H p ys/\∀l,H l=none->Q (.ref l) (upd H l (.tup ys)))\/(CT X.K H p ys/\Q (.ref p) H))):=by
 intro pins s σ H xs us Q I r h;obtain⟨p,ys,rfl,h⟩:=h;obtain⟨u,rfl,BR⟩:=vals1 r;cases BR;rcases h with⟨AV,q⟩|⟨AV,q⟩
 .obtain⟨its,BO,pl,Aq⟩:=I.list AV;have hlen:=BO.length;refine call_tuple_list pl.isList (λh' kp=>?_) (by erw[Dy]<;>lia);have Az:Inv X pins σ H { s with heap:=h' }:=I.kept (t':=s.toks) kp;have Bl:Inv X pins σ (upd H h'.objs.size (.tup ys)) { s with heap:=h'.push { cls:=.type "tuple",data:=.seq its.toArray } }:=
   Az.laid (t':=s.toks) (λb o e=>DM _ e) (CY _) (show FS X.prog X.w X.K _ _ _ (.tup ys)from⟨Aq,its,BO,IsTup.new _ _⟩)
  exact⟨.ref h'.objs.size,_,Bl,rfl,q _ (Az.BZ.fresh (CY _))⟩
 .obtain⟨its,BO,pl,Aq⟩:=I.tuple AV;exact call_tuple_same pl ⟨.ref p,H,I,rfl,q⟩
noncomputable def ou(K:Aa)(T:String)(x:V)(H:AB):Prop:=match x with
 |.str _=>T="str"
 |.int _=>T="int"
 |.ref p=>(T="list"/\∃xs,CA K H p xs)\/(T="tuple"/\∃o,K.lookup p=some o/\o.cls=.type "tuple"/\o.dict=none)\/
     (T="dict"/\((∃Ab,H p=some (.Df Ab))\/∃Ab,H p=some (.An Ab)))\/(T="set"/\∃S n,H p=some (.set S n))
 |_=>False
def aeC{pins:List (A8×Obj)}{σ :St}{H:AB}{s:AP}{T:String}{x:V}{v:A7}(I:θ)(r:RelV x v)(ty:ou X.K T x H) :
  s.TypeIs v T/\∀a,v=.ref a->∃ob,s.heap.get? a=some ob/\ob.dict=none:=by
 cases x with
 |str z=>obtain⟨t,rfl⟩:=r;cases(show T="str" from ty);exact⟨R2 s z t,λ_ e=>nomatch e⟩
 |int i=>obtain⟨t,rfl⟩:=r;cases(show T="int" from ty);exact⟨UV s i t,λ_ e=>nomatch e⟩
 |ref p=>
  cases r;rcases ty with⟨rfl,xs,AV⟩|⟨rfl,o,AE,AO,hd⟩|⟨rfl,AE⟩|⟨rfl,S,n,AE⟩
  .obtain⟨its,_,pl,_⟩:=I.list AV;refine⟨pl.isList.typeIs,λa e=>?_⟩;cases e;obtain⟨o,n,e,c,hd,_⟩:=pl;exact⟨o,e,hd⟩
  .refine⟨⟨o,I.E9 p o AE,AO⟩,λa e=>?_⟩;cases e;exact⟨o,I.E9 _ o AE,hd⟩
  .have z:∃o,s.heap.get? p=some o/\o.ExactDict:=by
     rcases AE with⟨Ab,AE⟩|⟨Ab,AE⟩
     .obtain⟨_,_,_,_,o,_,_,e,ex,_⟩:=I.BZ p _ AE;exact⟨o,e,ex⟩
     .obtain⟨_,_,_,_,o,_,_,e,ex,_⟩:=I.BZ p _ AE;exact⟨o,e,ex⟩
   obtain⟨o,e,ex⟩:=z;refine⟨⟨o,e,ex.1⟩,λa AH=>?_⟩;cases AH;exact⟨o,e,ex.2.1⟩
  .obtain⟨o,_,_,_,e,ex,_⟩:=I.BZ p _ AE;refine⟨⟨o,e,ex.1⟩,λa AH=>?_⟩;cases AH;exact⟨o,e,ex.2.1⟩
 |_=>exact Kc ty
def aeW(K:Aa)(T:String)(r:V->List V->AB->Cd->Prop)(to:TE)(t:Ew):TE:=λσ H Q=>to σ H λx H1=>ou K T x H1/\t σ H1 λxs Am=>r x xs Am Q
variable{o e:AU}{A4:List AU}{to:TE}{t:Ew}{name:Str}{apos Bv:Pos}{T id:String}{r:V->List V->AB->Cd->Prop}
def W1 (RR:PlainAttrs T) (slot:Slot T name id) (wn:typeOf (.builtin id)=pure (.type "method_descriptor")) (hm:rN X id r) (ho:Av X o to) (AD:GH X (e::A4) t)(Mf:Hw o name X.env (BJ o X.env)=BJ o X.env:=by rfl)(Mh:((D4 Bv (BF (e::A4) X.env)).all (λx=>!x.1)&&(H5 Bv (H3 [] X.env)).all (λx=>x.1.isSome)
    &&decide ((e::A4).length+([]:List FP).length+(if([]:List FP).isEmpty then 0 else 1)<30))=true:=by rfl)
  (Mi:(apos.endLine==Bv.line)=true:=by rfl) (AJ:BF (e::A4) X.env=(false,BJ e X.env)::BF A4 X.env:=by rfl) (MJ:(D4 Bv (BF A4 X.env)).any (·.1)=false:=by rfl) :
  Av X (.Call (.Attribute o name apos) (e::A4) [] Bv) (aeW X.K T r to t):=by
 intro pins s σ H Q I h;refine wpAny_Call_method_late Mf Mh Mi rfl (Bc (ho pins s σ H _ I h) λv s1⟨x,H1,Az,AK,ty,Ak⟩=>?_);obtain⟨A6,AA⟩:=aeC Az AK ty;refine⟨T,id,RR,slot,wn,A6,AA,?_⟩;have K9:=AD Bv pins s1 σ H1 _ Az Ak;rw[AJ]at K9 |-;refine UA (by show(false||(D4 Bv (BF A4 X.env)).any (·.1))=false;rw[MJ]<;>rfl) (Wv ?_);exact Bc K9 λus s2⟨vs,Am,Bl,B7,BC⟩=>hm pins s2 σ Am x vs v us Q Bl AK B7 BC
end
noncomputable def hB(X:Ac)(id:String)(r:V->List V->AB->Cd->Prop):Prop:=
 ∀(pins:List (A8×Obj))(s:AP)(σ :St)(H:AB)(x:V)(xs:List V)(v:A7)(us:List A7)(Q:Cd),θ->RelV x v->Vals xs us->r x xs H Q->
  Ad (B2 X.prog X.w) X.A (call (.builtin id) (v::us)) (G_ X pins σ Q) X.xe s
def Vals.one:∀{x:V}{us:List A7},Vals [x] us->∃u,us=[u]/\RelV x u
 |_,_,.cons r .nil=>⟨_,rfl,r⟩
theorem Vals.eraseIdx:∀{xs:List V}{us:List A7}(i:Nat),Vals xs us->Vals (xs.eraseIdx i) (us.eraseIdx i)
 |_,_,_,.nil=>.nil
 |_,_,0,.cons _ t=>t
 |_,_,i+1,.cons r t=>.cons r (Vals.eraseIdx i t)
theorem Vals.rep{xs:List V}{us:List A7}(h:Vals xs us):∀k:Nat,Vals (ES k xs).flatten (ES k us).flatten
 |0=>.nil
 |k+1=>by rw[Qu,Qu,Qp,Qp];exact Vals.append h (Vals.rep h k)
theorem kl{α:Type}:∀(l:List α)(i:Nat),(l.eraseIdx i).length<=l.length
 |[],_=>CY _
 |_::_,0=>U_ _
 |_::r,i+1=>Nat.succ_le_succ (kl r i)
theorem foldl_rep(its:List A7):∀(k:Nat)(acc:List A7),
  List.foldl (λFX FD=>FX++FD) acc.toArray (ES k its.toArray)=(acc++(ES k its).flatten).toArray
 |0,acc=>γ
 |k+1,acc=>by
  have e:acc.toArray++its.toArray=(acc++its).toArray:=γ
  have AH:(acc++its)++(ES k its).flatten=acc++(ES (k+1) its).flatten:=by rw[Qu,Qp,O1]
  rw[<-AH,<-foldl_rep its k (acc++its),<-e,Qu,List.foldl_cons]
section
variable{X:Ac}{pins:List (A8×Obj)}{σ :St}{H:AB}{s:AP}{l b:A8}{xs ys zs:List V}
def Inv.c0{its its':List A7}{n:Nat}{f:Array A7->Array A7}{t':Nat}(I:θ)(J1:H l=some (.lst xs))(e:s.heap.get? l=some { cls:=.type "list",data:=.seq its.toArray n })(hf:f its.toArray=its'.toArray)(BN:Vals ys its')(Aq:ys.length<=CD) :
  Inv X pins σ (upd H l (.lst ys)) { s with heap:=s.heap.update l (Kd f),toks:=t' }:=by
 have q:=PySem.IsL.update e f;rw[hf]at q;refine I.write (x:=l) (e:=l) (by rw[J1];exact trivial) (.inl rfl) (λJr u A0 BM=>(X1 s.heap (Kd f) (Hi A0)).trans BM) ⟨_,q⟩ ?_;exact⟨Aq,its',_,BN,q⟩
def Inv.bw{its:List A7}{t':Nat}(I:θ)(BN:Vals ys its)(Aq:ys.length<=CD) :
  Inv X pins σ (upd H s.heap.objs.size (.lst ys)) { s with heap:=s.heap.push { cls:=.type "list",data:=.seq its.toArray },toks:=t' }:=
 I.laid (λ_ _ q=>DM _ q) (CY _) ⟨Aq,its,0,BN,FE _ rfl⟩
theorem Inv.fresh(I:θ):H s.heap.objs.size=none:=I.BZ.fresh (CY _)
def Inv.Ri(I:θ)(J1:H l=some (.lst xs)):xs.length<=CD/\∃(its:List A7)(n:Nat),Vals xs its/\xs.length=its.length/\s.heap.get? l=some { cls:=.type "list",data:=.seq its.toArray n }:=by obtain⟨z,its,n,r,e⟩:=I.BZ l _ J1;exact⟨z,its,n,r,r.length,e⟩
def mK{n:Nat}(h:n<=CD):Wx n=false:=by unfold Wx;exact decide_eq_false δ
end
section
variable{X:Ac}
def acg:V->List V->AB->Cd->Prop:=λx vs H Q=>∃l xs y,x=.ref l/\vs=[y]/\H l=some (.lst xs)/\xs.length<CD/\Q .non (upd H l (.lst (xs++[y])))
theorem dh:hB X "list.append" acg:=by intro pins s σ H x vs v us Q I BR CJ h;obtain⟨l,xs,y,rfl,rfl,J1,Aq,q⟩:=h;cases BR;obtain⟨u,rfl,Fp⟩:=CJ.one;obtain⟨z,its,n,r,AN,e⟩:=I.Ri J1;refine UW F.slot_list_append ⟨_,e,rfl⟩ F.entry_list_append (F.args_list_append_2 _ _) (PySem.list_append l its.toArray n u (by rw[Dy];lia)) ⟨e,?_⟩;refine⟨.non,_,I.c0 (its':=its++[u]) J1 e γ (r.append (.cons Fp .nil)) ?_,rfl,q⟩;rw[JK,U7];lia
def ach:V->List V->AB->Cd->Prop:=λx vs H Q=>∃l b xs zs,x=.ref l/\vs=[.ref b]/\H l=some (.lst xs)/\H b=some (.lst zs)/\xs.length+zs.length<=CD/\Q .non (upd H l (.lst (xs++zs)))
theorem kV:hB X "list.extend" ach:=by
 intro pins s σ H x vs v us Q I BR CJ h;obtain⟨l,b,xs,zs,rfl,rfl,J1,ax,Aq,q⟩:=h;cases BR;obtain⟨u,rfl,Fp⟩:=CJ.one;cases Fp;obtain⟨z,its,n,r,AN,e⟩:=I.Ri J1;obtain⟨Dj,IE,D8,B7,LL,AH⟩:=I.Ri ax;have hsz:its.toArray.size+IE.toArray.size<=CD:=by rw[Dy,Dy];lia
 have ci:¬(!its.toArray.isEmpty&&Wx (its.toArray.size+IE.toArray.size))=true:=by rw[mK hsz,fx];exact Fy
 refine UW F.slot_list_extend ⟨_,e,rfl⟩ F.entry_list_extend (F.args_list_extend_2 _ _)
  (AutoSeq1.list_extend_list_list_0 l its.toArray n b IE.toArray D8 ci (by rw[Dy];lia) δ) ⟨e,AH,?_⟩
 refine⟨.non,_,I.c0 (its':=its++IE) J1 e γ (r.append B7) ?_,rfl,q⟩;rw[JK];lia
def abu:V->List V->AB->Cd->Prop:=λx vs H Q=>∃l xs i k y,x=.ref l/\vs=[.int i]/\H l=some (.lst xs)/\-(2^63)<=i/\i<2^63/\So i xs.length=some k/\xs[k]?=some y/\Q y (upd H l (.lst (xs.eraseIdx k)))
theorem yu:hB X "list.pop" abu:=by
 intro pins s σ H x vs v us Q I BR CJ h;obtain⟨l,xs,i,k,y,rfl,rfl,J1,A6,AA,AE,Ba,q⟩:=h;cases BR;obtain⟨u,rfl,Fp⟩:=CJ.one;obtain⟨t,rfl⟩:=Fp;obtain⟨z,its,n,r,AN,e⟩:=I.Ri J1;obtain⟨w,hw,Kz⟩:=r.get Ba
 refine UW F.slot_list_pop ⟨_,e,rfl⟩ F.entry_list_pop (F.args_list_pop_2 _ _)
  (MeetsSeq.list_pop_at l its.toArray n i t k w (fitsIndex_both A6 AA) (by rw[Dy,<-AN];exact AE) (by rw[<-UC];exact hw) (by rw[Dy];lia)) ⟨e,?_⟩
 refine⟨y,_,I.c0 (its':=its.eraseIdx k) J1 e ?_ (r.eraseIdx k) ?_,Kz,q⟩
 .show its.toArray.eraseIdxIfInBounds k=(its.eraseIdx k).toArray;rw[List.eraseIdxIfInBounds_toArray]
 .have:=kl xs k;lia
def mB:Ek:=λx y H Q=>∃l b xs zs,x=.ref l/\y=.ref b/\H l=some (.lst xs)/\H b=some (.lst zs)/\xs.length+zs.length<=CD/\∀p,H p=none->Q (.ref p) (upd H p (.lst (xs++zs)))
def e3:E5 X (JM .Add) mB:=by
 intro pins s σ H x y v u Q I BR Bt h;obtain⟨l,b,xs,zs,rfl,rfl,J1,ax,Aq,q⟩:=h;cases BR;cases Bt;obtain⟨z,its,n,r,AN,e⟩:=I.Ri J1;obtain⟨Dj,IE,D8,B7,LL,AH⟩:=I.Ri ax;refine PySem.P.add_list e AH ?_ (by rw[Dy,Dy];lia);have As:its.toArray++IE.toArray=(its++IE).toArray:=γ
 rw[As];exact⟨.ref _,_,I.bw (t':=s.toks) (r.append B7) (by rw[JK];lia),rfl,q _ I.fresh⟩
def nK:Ek:=λx y H Q=>∃l k xs,x=.ref l/\y=.int k/\H l=some (.lst xs)/\-(2^63)<=k/\k<2^63/\xs.length*k.toNat<=CD/\
 ∀p,H p=none->Q (.ref p) (upd H p (.lst (ES k.toNat xs).flatten))
def len_rep{α:Type}(xs:List α)(k:Nat):(ES k xs).flatten.length=k*xs.length:=by
 induction k with
 |zero=>simp
 |succ k Bh=>rw[Qu,Qp,JK,Bh,fu,Nat.add_comm]
theorem aaL:E5 X (JM .Mult) nK:=by
 intro pins s σ H x y v u Q I BR Bt h;obtain⟨l,k,xs,rfl,rfl,J1,A6,AA,Aq,q⟩:=h;cases BR;obtain⟨t,rfl⟩:=Bt;obtain⟨z,its,n,r,AN,e⟩:=I.Ri J1;have hlen:its.toArray.size*k.toNat<=CD:=by rw[Dy,<-AN];exact Aq
 have vI:¬its.toArray.size*k.toNat>(2^63-1)/8:=by
  have:(CD:Nat)<=(2^63-1)/8:=ε
  lia
 have vT:¬(!Builtin.List.listFitsIndex k)=true:=by rw[fitsIndex_both A6 AA];exact Fy
 have ci:¬Wx (its.toArray.size*k.toNat)=true:=by rw[mK hlen];exact Fy
 have wb:List.foldl (λFX FD=>FX++FD) #[] (ES (if its.toArray.isEmpty=true then 0 else k.toNat) its.toArray)=(ES k.toNat its).flatten.toArray:=by
  have f0:∀m:Nat,List.foldl (λFX FD=>FX++FD) #[] (ES m its.toArray)=(ES m its).flatten.toArray:=λm=>by have:=foldl_rep its m [];rw[UM]at this;exact this
  rw[f0];cases its with
  |nil=>simp
  |cons a BO=>rw[if_neg γ]
 refine wpAny_binaryOp_repeat_ref (T:="list") (U:="int") ε ⟨_,e,rfl⟩ (λs'=>UV s' k t) noFill_list_mul F.fills_int_mul F.slot_int_rmul repeat_list F.slot_int_index.lookup
  (UW F.slot_int_rmul (UV s k t) F.entry_int_rmul (F.args_int_rmul_2 _ _) (int___rmul___int_list k t l its.toArray n)
    ⟨e,rfl,⟨_,e,rfl⟩,UW F.slot_list_mul ⟨_,e,rfl⟩ F.entry_list_mul (F.args_list_mul_2 _ _) (AutoListH.list___mul___list_int_3 l its.toArray n k t vT vI ci) ⟨e,?_⟩⟩)
 rw[wb];exact⟨.ref _,_,I.bw (t':=s.toks) (r.rep k.toNat) (by rw[len_rep,Nat.mul_comm];exact Aq),rfl,q _ I.fresh⟩
end
section
variable{prog:Bx}{w:Bj}{A:CK}{E:A7->AP->Prop}{s:AP}
end
section
variable{X:Ac}
end
section
variable{κ:Type}[DecidableEq κ]
noncomputable def F5(Ab:List (κ×V))(k:κ):Option V:=(Ab.find? λD2=>decide (D2.1=k)).map (·.2)
noncomputable def putK(Ab:List (κ×V))(k:κ)(v:V):List (κ×V):=
 if(Ab.any λD2=>decide (D2.1=k))=true then Ab.map (λD2=>if D2.1=k then(D2.1,v)else D2)else Ab++[(k,v)]
def eR{p:κ×V}{r:List (κ×V)}{k:κ}(e:p.1=k):F5 (p::r) k=some p.2:=by simp[F5,IV,e]
def eQ{p:κ×V}{r:List (κ×V)}{k:κ}(e:¬p.1=k):F5 (p::r) k=F5 r k:=by simp[F5,IV,e]
theorem eP(k:κ):∀Ab:List (κ×V),(Ab.any λD2=>decide (D2.1=k))=(F5 Ab k).isSome
 |[]=>rfl
 |p::r=>by
  rw[Ny];by_cases e:p.1=k
  .erw[eR e,decide_eq_true e,Bool.true_or,r1]
  .rw[eQ e,decide_eq_false e,Bool.false_or];exact eP k r
def cU(Ab:List (κ×V))(k:κ)(v:V):(putK Ab k v).length<=Ab.length+1:=by
 unfold putK
 split
 .rw[GN];lia
 .rw[JK,H4,LP];lia
def dT{Ab:List (κ×V)}{k:κ}(v:V)(h:F5 Ab k=none):putK Ab k v=Ab++[(k,v)]:=by unfold putK;rw[eP,h];exact if_neg ε
def I2.Uu{o:Option V}{u:Option A7}(r:I2 o u):o.isSome=u.isSome:=by
 cases o with
 |none=>cases u with
  |none=>rfl
  |some _=>exact(show False from r).elim
 |some _=>cases u with
  |none=>exact(show False from r).elim
  |some _=>rfl
theorem I2.getD{o:Option V}{u:Option A7}{d:V}{d':A7}(r:I2 o u)(E7:RelV d d'):RelV (o.getD d) (u.getD d'):=by
 cases o with
 |none=>cases u with
  |none=>exact E7
  |some _=>exact(show False from r).elim
 |some _=>cases u with
  |none=>exact(show False from r).elim
  |some _=>exact r
def H7.val{Ab:List (κ×V)}{vs:List (κ×A7)}(r:H7 Ab vs)(k:κ):I2 (F5 Ab k) (R8 vs k):=by
 unfold H7 at r;induction r with
 |nil=>exact La
 | @cons p q Ai N6 h t Bh=>
   obtain⟨A6,AA⟩:=h;by_cases e:p.1=k
   .have CQ:q.1=k:=A6.symm.trans e;have b:R8 (q::N6) k=some q.2:=by simp[R8,IV,CQ]
    rw[eR e,b];exact AA
   .have CQ:¬q.1=k:=λz=>e (A6.trans z);have b:R8 (q::N6) k=R8 N6 k:=by simp[R8,IV,CQ]
    rw[eQ e,b];exact Bh
theorem H7.any{Ab:List (κ×V)}{vs:List (κ×A7)}(r:H7 Ab vs)(k:κ):(Ab.any λD2=>decide (D2.1=k))=vs.any λD2=>decide (D2.1=k):=by
 unfold H7 at r;induction r with
 |nil=>rfl
 |cons h t Bh=>rw[Ny,Ny,Bh,h.1]
def H7.dY{Ab:List (κ×V)}{vs:List (κ×A7)}(r:H7 Ab vs)(k:κ){y:V}{u:A7}(Bt:RelV y u) :
  H7 (Ab.map λD2=>if D2.1=k then(D2.1,y)else D2) (vs.map λD2=>if D2.1=k then(D2.1,u)else D2):=by
 unfold H7 at r |-;induction r with
 |nil=>exact .nil
 | @cons p q Ai N6 h t Bh=>
   rw[Du,Du];refine .cons ?_ Bh;obtain⟨A6,AA⟩:=h;by_cases e:p.1=k
   .rw[if_pos e,if_pos (A6.symm.trans e)];exact⟨A6,Bt⟩
   .rw[if_neg e,if_neg (λz=>e (A6.trans z))];exact⟨A6,AA⟩
def H7.put{Ab:List (κ×V)}{vs:List (κ×A7)}(r:H7 Ab vs)(k:κ){y:V}{u:A7}(Bt:RelV y u):H7 (putK Ab k y) (stored vs k u):=by
 unfold putK stored;rw[r.any k];by_cases e:(vs.any λD2=>decide (D2.1=k))=true
 .rw[if_pos e,if_pos e];exact r.dY k Bt
 .rw[if_neg e,if_neg e];exact Paired.snoc r ⟨rfl,Bt⟩
theorem H7.length{Ab:List (κ×V)}{vs:List (κ×A7)}(r:H7 Ab vs):Ab.length=vs.length:=Paired.length r
end
def Rf{P:Bx}{w:Bj}{k:Key}{u:A7}(r:RelV (Dm k) u):(HL P w).is k u=true:=by
 cases k with
 |inl i=>obtain⟨t,e⟩:=(show ∃t,u=XR i t from r);subst e;exact zI P w i t
 |inr x=>obtain⟨t,e⟩:=(show ∃t,u=XS x t from r);subst e;exact zJ P w x t
theorem lE{P:Bx}{w:Bj}:∀{ks:List Key}{us:List A7},Vals (ks.map Dm) us->ItemsAre (HL P w) ks us
 |[],_,r=>by rw[O5]at r;cases r;exact .nil
 |k::ks,_,r=>by
  rw[Du]at r;cases r with
  |cons h t=>exact .cons (Rf h) (lE t)
abbrev KT(K:Aa)(H:AB):List (Bf×V)->List (Bf×A8×A7)->Prop:=Paired λp q=>p.1=q.1/\I1 K H p.1 q.2.1/\RelV p.2 q.2.2
def KT.val{K:Aa}{H:AB}{Ab:List (Bf×V)}{xs:List (Bf×A8×A7)}(r:KT K H Ab xs)(k:Bf):I2 (F5 Ab k) ((Kh xs k).map (·.2)):=by
 induction r with
 |nil=>exact La
 | @cons p q Ai N6 h t Bh=>
   obtain⟨A6,_,AA⟩:=h;by_cases e:p.1=k
   .have CQ:q.1=k:=A6.symm.trans e;have b:Kh (q::N6) k=some q.2:=by simp[Kh,IV,CQ]
    rw[eR e,b];exact AA
   .have CQ:¬q.1=k:=λz=>e (A6.trans z);have b:Kh (q::N6) k=Kh N6 k:=by simp[Kh,IV,CQ]
    rw[eQ e,b];exact Bh
def KT.dY{K:Aa}{H:AB}{Ab:List (Bf×V)}{xs:List (Bf×A8×A7)}(r:KT K H Ab xs)(k:Bf){y:V}{u:A7}(Bt:RelV y u) :
  KT K H (Ab.map λD2=>if D2.1=k then(D2.1,y)else D2) (xs.map (putAt k u)):=by
 induction r with
 |nil=>exact .nil
 | @cons p q Ai N6 h t Bh=>
   rw[Du,Du];refine .cons ?_ Bh;obtain⟨A6,AA,Ao⟩:=h;unfold putAt;by_cases e:p.1=k
   .rw[if_pos e,if_pos (A6.symm.trans e)];exact⟨A6,AA,Bt⟩
   .rw[if_neg e,if_neg (λz=>e (A6.trans z))];exact⟨A6,AA,Ao⟩
def KT.put{K:Aa}{H:AB}{Ab:List (Bf×V)}{xs:List (Bf×A8×A7)}(r:KT K H Ab xs)(k:Bf){b:A8}{y:V}{u:A7}(A0:I1 K H k b)(Bt:RelV y u) :
  KT K H (putK Ab k y) (PT xs k b u):=by
 have e:(Ab.any λD2=>decide (D2.1=k))=(Kh xs k).isSome:=by rw[eP,(r.val k).Uu,fg]
 unfold putK PT;rw[e];by_cases q:(Kh xs k).isSome=true
 .rw[if_pos q,if_pos q];exact r.dY k Bt
 .rw[if_neg q,if_neg q];exact Paired.snoc r ⟨rfl,A0,Bt⟩
def KT.keeps{K:Aa}{H H':AB}{Ab:List (Bf×V)}{xs:List (Bf×A8×A7)}(r:KT K H Ab xs)(Aj:∀b ys,H b=some (.tup ys)->H' b=some (.tup ys)):KT K H' Ab xs:=
 Paired.c5 r λ_ _ z=>⟨z.1,z.2.1.mono Aj,z.2.2⟩
section
variable{P:Bx}{w:Bj}{K:Aa}{H:AB}{h:BI}{a:A8}
def nT{u:DN}(ok:Ei P w K H h)(e:Eo H a u):FS P w K H h a u:=e.ok ok
def S8{Ab:List (Key×V)}(ok:Ei P w K H h)(e:Eo H a (.Df Ab)):Ab.length<=CD/\(a==He)=false/\∃vs,H7 Ab vs/\h.DictOf (HL P w) a vs:=
 show FS P w K H h a (.Df Ab)from nT ok e
def tr{Ab:List (Key×V)}(ok:Ei P w K H h)(e:H a=some (.Df Ab)):Ab.length<=CD/\(a==He)=false/\∃vs,H7 Ab vs/\h.DictOf (HL P w) a vs:=S8 ok (.inl e)
def ye{ks:List Key}(ok:Ei P w K H h)(e:H a=some (.tup (ks.map Dm))):IsTupleKey (HL P w) h ks a:=by obtain⟨_,its,r,o,A6,AA,n,Ao⟩:=(show FS P w K H h a (.tup (ks.map Dm))from ok a _ e);exact⟨o,its.toArray,n,A6,AA,Ao,(lE r:)⟩
theorem dn(ok:Ei P w K H h):∀{ks:Bf}{vs:List V}{us:List A7},Paired (Nl H) ks vs->Vals vs us->GG P w h ks us
 |_,_,_,.nil,.nil=>.nil
 |.inl _::_,_,_,.cons e t,.cons r q=>.cons (k:=.inl _) (Rf (P:=P) (w:=w) (by rw[<-show _=Dm _ from e];exact r)) (dn ok t q)
 |.inr _::_,_,_,.cons ⟨b,e,z⟩ t,.cons r q=>.cons (k:=.inr _) ⟨b,by subst e;exact r,ye ok z⟩ (dn ok t q)
def Rg{ks:Bf}(ok:Ei P w K H h)(e:Jo H ks a):(KJ P w).is h ks a:=by obtain⟨vs,e,p⟩:=e;obtain⟨_,its,r,o,A6,AA,n,Ao⟩:=(show FS P w K H h a (.tup vs)from ok a _ e);exact⟨o,its.toArray,n,A6,AA,Ao,(dn ok p r:)⟩
def Zp{ks:Bf}(ok:Ei P w K H h)(JQ:K.In h)(e:I1 K H ks a):(KJ P w).is h ks a:=by
 rcases e with e|⟨x,o,n,t,rfl,AE,AO,hd⟩
 .exact Rg ok e
 .exact⟨o,_,n,JQ a o AE,AO,hd,(GG.cons (k:=.inl (.inr x)) (cF x t) .nil:)⟩
def TG{Ab:List (Bf×V)}(ok:Ei P w K H h)(JQ:K.In h)(e:Eo H a (.An Ab)):Ab.length<=CD/\(a==He)=false/\
  ∃xs,KT K H Ab xs/\LE.IX (KJ P w) h a xs:=by
 obtain⟨z,y,xs,r,o,A4,BV,A6,AA,Ao,BG,Er⟩:=(show FS P w K H h a (.An Ab)from nT ok e);refine⟨z,y,xs,r,o,A4,BV,A6,AA,Ao,BG,λx AG=>?_,Er⟩;have all:∀{l:List (Bf×V)}{m:List (Bf×A8×A7)},KT K H l m->∀x∈m,(KJ P w).is h x.1 x.2.1:=by
  intro l m q;induction q with
  |nil=>intro x AG;exact nomatch AG
  | @cons p q Ai N6 AV t Bh=>
    intro x AG;rcases List.mem_cons.mp AG with e|AG
    .subst e;exact Zp ok JQ (by rw[<-AV.1];exact AV.2.1)
    .exact Bh x AG
 exact all r x AG
def SA{Ab:List (Bf×V)}(ok:Ei P w K H h)(JQ:K.In h)(e:Eo H a (.An Ab)):Ab.length<=CD/\(a==He)=false/\
  ∃xs,KT K H Ab xs/\h.DictOfH (KJ P w) a xs:=
 let⟨z,y,xs,r,d⟩:=TG ok JQ e;⟨z,y,xs,r,d.of⟩
end
def J8(H:AB)(a:A8)(y:V)(r:Option V):Prop:=
 (∃Ab k,Eo H a (.Df Ab)/\y=Dm k/\r=F5 Ab k)\/∃Ab k b,Eo H a (.An Ab)/\y=.ref b/\Jo H k b/\r=F5 Ab k
noncomputable def Pe(H:AB)(a:A8)(y v:V)(H':AB):Prop:=
 (∃Ab k,H a=some (.Df Ab)/\y=Dm k/\Ab.length<CD/\H'=upd H a (.Df (putK Ab k v)))\/
 ∃Ab k b,H a=some (.An Ab)/\y=.ref b/\Jo H k b/\Ab.length<CD/\H'=upd H a (.An (putK Ab k v))
def J8.t{H:AB}{a b:A8}{Ab:List (Bf×V)}{k:Bf}(e:H a=some (.An Ab))(BS:Jo H k b):J8 H a (.ref b) (F5 Ab k):=.inr ⟨Ab,k,b,.inl e,rfl,BS,rfl⟩
def Pe.t{H:AB}{a b:A8}{Ab:List (Bf×V)}{k:Bf}{v:V}(e:H a=some (.An Ab))(BS:Jo H k b)(AN:Ab.length<CD) :
  Pe H a (.ref b) v (upd H a (.An (putK Ab k v))):=.inr ⟨Ab,k,b,e,rfl,BS,AN,rfl⟩
section
variable{X:Ac}{pins:List (A8×Obj)}{σ :St}{H:AB}{s:AP}{a:A8}{y v:V}{u r:A7}{o:Option V}{A:CK}{E:A7->AP->Prop}
def Inv.big(I:θ):He<s.heap.objs.size:=by have h:FG<s.heap.objs.size:=(I.mod.glob.keeps I.Fu).lt;exact LZ ε h
def tc{Q:A7->AP->Prop}(BM:A.units+16<DS)(I:θ)(g:J8 H a y (some v))(Bt:RelV y u)(h:∀Fi s',Inv X pins σ H s'->RelV v Fi->Q Fi s') :
  Ad (B2 X.prog X.w) A (PU (.ref a) u) Q E s:=by
 rcases g with⟨Ab,k,e,DK,l⟩|⟨Ab,k,b,e,DK,BS,l⟩
 .subst DK;obtain⟨z,hd,vs,rel,D7⟩:=S8 I.BZ e;obtain⟨Fi,hw,Kz⟩:=I2.some_of (v:=v) (o:=R8 vs k) (by rw[l];exact rel.val k);exact wpAny_getItem_of (Rf Bt) D7.mapOf hw (h Fi _ (I.tok _) Kz)
 .subst DK;cases(show u=DR b from Bt);obtain⟨z,hd,xs,rel,D7⟩:=SA I.BZ I.E9 e;obtain⟨Fi,hw,Kz⟩:=I2.some_of (v:=v) (o:=(Kh xs k).map (·.2)) (by rw[l];exact rel.val k);obtain⟨p,AZ,Od⟩:=Option.map_eq_some_iff.mp hw;refine wpAny_getItem_heap (nest_room BM) (Rg I.BZ BS) D7 AZ ?_;rw[Od];exact h Fi _ (I.tok _) Kz
def td{Q:A7->AP->Prop}(BM:A.units+16<DS)(I:θ)(g:J8 H a y o)(Bt:RelV y u)(h:∀s',Inv X pins σ H s'->Q (.bool o.isSome) s') :
  Ad (B2 X.prog X.w) A (GE .In u (.ref a)) Q E s:=by
 rcases g with⟨Ab,k,e,DK,l⟩|⟨Ab,k,b,e,DK,BS,l⟩
 .subst DK;obtain⟨z,hd,vs,rel,D7⟩:=S8 I.BZ e;refine wpAny_in_of (Rf Bt) hd D7.mapOf ?_;rw[<-(rel.val k).Uu,<-l];exact h _ (I.tok _)
 .subst DK;cases(show u=DR b from Bt);obtain⟨z,hd,xs,rel,D7⟩:=SA I.BZ I.E9 e;refine wpAny_in_heap (nest_room BM) (Rg I.BZ BS) hd D7 ?_;have q:=(rel.val k).Uu;rw[fg]at q;rw[<-q,<-l];exact h _ (I.tok _)
def te{Q:A7->AP->Prop}(BM:A.units+16<DS)(I:θ)(g:J8 H a y o)(Bt:RelV y u)(h:∀s',Inv X pins σ H s'->Q (.bool (!o.isSome)) s') :
  Ad (B2 X.prog X.w) A (GE .NotIn u (.ref a)) Q E s:=by
 rcases g with⟨Ab,k,e,DK,l⟩|⟨Ab,k,b,e,DK,BS,l⟩
 .subst DK;obtain⟨z,hd,vs,rel,D7⟩:=S8 I.BZ e;refine wpAny_notIn_of (Rf Bt) hd D7.mapOf ?_;rw[<-(rel.val k).Uu,<-l];exact h _ (I.tok _)
 .subst DK;cases(show u=DR b from Bt);obtain⟨z,hd,xs,rel,D7⟩:=SA I.BZ I.E9 e;refine wpAny_notIn_heap (nest_room BM) (Rg I.BZ BS) hd D7 ?_;have q:=(rel.val k).Uu;rw[fg]at q;rw[<-q,<-l];exact h _ (I.tok _)
def Yu{h':BI}{t':Nat}{ob:DN}(I:θ)(KH:Ul (H a))(AJ:JG a s.heap h')(he:∃q,h'.get? a=some q)(new:FS X.prog X.w X.K (upd H a ob) h' a ob) :
  Inv X pins σ (upd H a ob) { s with heap:=h',toks:=t' }:=
 I.write (x:=a) (e:=a) KH (.inl rfl) (λb q A0 z=>(AJ.2 b A0).trans z) he new
def tq{P:Bx}{w:Bj}{K:Aa}{H':AB}{h':BI}{Ab:List (Key×V)}{vs:List (Key×A7)}(z:Ab.length<=CD)(hd:(a==He)=false)(rel:H7 Ab vs)(D7:h'.DictOf (HL P w) a vs) :
  FS P w K H' h' a (.Df Ab):=⟨z,hd,vs,rel,D7⟩
def tg{H':AB}{Q:Unit->AP->Prop}(BM:A.units+16<DS)(I:θ)(g:Pe H a y v H')(Bt:RelV y u)(CJ:RelV v r)(h:∀s',Inv X pins σ H' s'->Q () s') :
  Ad (B2 X.prog X.w) A (setItem (.ref a) u r) Q E s:=by
 rcases g with⟨Ab,k,e,DK,l,bp⟩|⟨Ab,k,b,e,DK,BS,l,bp⟩
 .subst DK bp;obtain⟨z,hd,vs,rel,D7⟩:=tr I.BZ e;have Aq:vs.length<=CD:=by rw[<-rel.length];exact z
  have AN:(putK Ab k v).length<=CD:=by have:=cU Ab k v;lia
  refine wpAny_setItem_pairs (hsz:=Aq) (Rf Bt) D7 λh' Pv AJ=>h _ ?_;have he:∃q,h'.get? a=some q:=let⟨q,_,_,AV,_⟩:=Pv;⟨q,AV⟩
  exact Yu I (by rw[e];exact La) AJ he (tq AN hd (rel.put k CJ) Pv)
 .subst DK bp;cases(show u=DR b from Bt);obtain⟨z,hd,xs,rel,D7⟩:=TG I.BZ I.E9 (.inl e);have Aq:xs.length<=CD:=by rw[<-Paired.length rel];exact z
  have AN:(putK Ab k v).length<=CD:=by have:=cU Ab k v;lia
  refine LE.acw (hsz:=Aq) (nest_room BM) (Rg I.BZ BS) D7 λh' Pv AJ=>h _ ?_;obtain⟨q,A4,BV,AV,AA,Ao,BG,_,Er⟩:=Pv;refine Yu I (by rw[e];exact La) AJ ⟨q,AV⟩ ⟨AN,hd,_,(rel.put k (.inl BS) CJ).keeps λc ys ec=>?_,q,A4,BV,AV,AA,Ao,BG,Er⟩;rw[Cy (dk ec e (λz=>nomatch z))];exact ec
end
section
variable{X:Ac}{pins:List (A8×Obj)}{σ :St}{H:AB}{s:AP}{a:A8}{Ab:List (Key×V)}{k:Key}{u:A7}{A:CK}{E:A7->AP->Prop}
end
def YD(i:AU):Prop:=∀D6 Fx,XU i false D6 Fx=operate [D6,Fx] (PU D6 Fx)
def aeQ{prog:Bx}{w:Bj}{A:CK}{E:A7->AP->Prop}{s:AP}{env:Env}{value slice:AU}{pos:Pos}{T id:String}{Q:A7->AP->Prop}(AN:typeLookup (.type T) "__getitem__"=pure (some (.builtin id)))(AJ:YD slice)(h:Ad (B2 prog w) A (BJ value env) (λo DL=>Ad (B2 prog w) A (BJ slice env) (λi L2=>L2.TypeIs o T/\Ad (B2 prog w) A (PU o i) Q E L2) E DL) E s) :
  Ad (B2 prog w) A (BJ (.Subscript value slice pos) env) Q E s:=by
 refine Subscript_ (Iv h (λo DL Kk=>Iv Kk (λi L2 ML=>?_) λ_ _ x=>x) λ_ _ x=>x);obtain⟨CM,ML⟩:=ML;unfold subscriptTail;refine AL ?_;rw[getitemInPython_of_ne CM.not_modules];refine AL (Sk CM AN ?_);have fin:Ad (B2 prog w) A (XU slice false o i) (λr QQ=>Ad (B2 prog w) A (letTemporaryGo value o r>>=λ_=>pure r) Q E QQ) E L2:=by rw[AJ o i];exact wpAny_operating (Iv ML (λr QQ NQ=>AL (wpAny_letTemporaryGo (Ay NQ))) λ_ _ x=>x)
 first
  |exact Ay (AL fin)
  |exact AL (Ay (AL fin))
  |exact AL fin
def tp{X:Ac}{pins:List (A8×Obj)}{σ :St}{H:AB}{s:AP}{a:A8}{y:V}{o:Option V}(I:θ)(g:J8 H a y o):s.TypeIs (.ref a) "dict":=by
 rcases g with⟨Ab,k,e,_,_⟩|⟨Ab,k,b,e,_,_,_⟩
 .obtain⟨_,_,vs,_,D7⟩:=S8 I.BZ e;exact D7.typeIs
 .obtain⟨_,_,xs,_,D7⟩:=SA I.BZ I.E9 e;exact D7.typeIs
def p0(E_ ty:TE):TE:=λσ H Q=>E_ σ H λx H1=>ty σ H1 λy Am=>∃a v,x=.ref a/\J8 Am a y (some v)/\Q v Am
def p2(ty E_:TE):TE:=λσ H Q=>ty σ H λy H1=>E_ σ H1 λx Am=>∃a o,x=.ref a/\J8 Am a y o/\Q (.AR o.isSome) Am
def p3(ty E_:TE):TE:=λσ H Q=>ty σ H λy H1=>E_ σ H1 λx Am=>∃a o,x=.ref a/\J8 Am a y o/\Q (.AR (!o.isSome)) Am
def abm(E_ ty K_:TE):FT:=λD σ H=>K_ σ H λv H1=>E_ σ H1 λx Am=>ty σ Am λy Cb=>∃a Hc,x=.ref a/\Pe Cb a y v Hc/\D.B6 σ Hc
section
variable{X:Ac}{o i e value:AU}{pos pos' QT:Pos}{E_ ty K_:TE}
def lr(BM:X.A.units+16<DS)(ho:Av X o E_)(AC:Av X i ty)(AJ:YD i):Av X (.Subscript o i pos) (p0 E_ ty):=by intro pins s σ H Q I h;refine aeQ PySem.F.slot_dict_getitem.lookup AJ (Bc (ho pins s σ H _ I h) λu s1⟨x,H1,Az,BR,Ak⟩=>Bc (AC pins s1 σ H1 _ Az Ak) λFx s2⟨y,Am,Bl,Bt,a,v,ex,g,BC⟩=>?_);subst ex;obtain rfl:u=DR a:=BR;exact⟨tp Bl g,tc BM Bl g Bt λFi s3 Dk Kz=>⟨v,Am,Dk,Kz,BC⟩⟩
def lp(BM:X.A.units+16<DS)(AC:Av X i ty)(ho:Av X o E_):YE X .In i o (p2 ty E_):=by intro pins s σ H Q I h;refine Bc (AC pins s σ H _ I h) λFx s1⟨y,H1,Az,Bt,Ak⟩=>Bc (ho pins s1 σ H1 _ Az Ak) λu s2⟨x,Am,Bl,BR,a,D6,ex,g,BC⟩=>?_;subst ex;obtain rfl:u=DR a:=BR;exact td BM Bl g Bt λs3 Dk=>⟨.AR D6.isSome,Am,Dk,rfl,BC⟩
def abQ(BM:X.A.units+16<DS)(AC:Av X i ty)(ho:Av X o E_):YE X .NotIn i o (p3 ty E_):=by intro pins s σ H Q I h;refine Bc (AC pins s σ H _ I h) λFx s1⟨y,H1,Az,Bt,Ak⟩=>Bc (ho pins s1 σ H1 _ Az Ak) λu s2⟨x,Am,Bl,BR,a,D6,ex,g,BC⟩=>?_;subst ex;obtain rfl:u=DR a:=BR;exact te BM Bl g Bt λs3 Dk=>⟨.AR (!D6.isSome),Am,Dk,rfl,BC⟩
def mA(BM:X.A.units+16<DS)(ho:Av X o E_)(AC:Av X i ty)(BN:Av X value K_)(AJ:O6 value (some (.Subscript o i pos')) pos.line X.env=pure false) :
  DO X (.Assign [.Subscript o i pos'] value pos) (abm E_ ty K_):=by
 intro pins s σ H D I h;refine wpAny_Assign_Subscript (Bc (BN pins s σ H _ I h) λr s1⟨v,H1,Az,CJ,Ak⟩=>Bc (ho pins s1 σ H1 _ Az Ak) λu s2⟨x,Am,Bl,BR,BC⟩=>Bc (AC pins s2 σ Am _ Bl BC) λFx s3⟨y,Cb,Dk,Bt,a,Hc,ex,g,EB⟩=>?_) AJ;subst ex;obtain rfl:u=DR a:=BR;exact tg BM Dk g Bt CJ λs4 Ln=>⟨σ,Hc,Ln,EB⟩
end
def jS{P:Bx}{w:Bj}{K:Aa}{H:AB}(h:BI)(A0:He<h.objs.size):FS P w K H (h.push { cls:=.type "dict",data:=.dict #[] }) h.objs.size (.An []):=
 ⟨IT _,beq_eq_false_iff_ne.mpr (Hi (Fl A0)),[],.nil,_,#[],0,FE _ rfl,⟨rfl,rfl,rfl⟩,rfl,rfl,List.nodup_nil,rfl⟩
def aeZ:TE:=λ_ H Q=>∀p,H p=none->Q (.ref p) (upd H p (.An []))
section
variable{X:Ac}{pos:Pos}
def lu:Av X (.Dict [] [] pos) aeZ:=λpins s σ H Q I h=>
 wpAny_Dict_empty ⟨.ref s.heap.objs.size,_,I.laid (a:=s.heap.objs.size) (o:=.An []) (t':=s.toks) (λ_ _ q=>DM _ q) (CY _) (jS s.heap I.big),rfl,h _ (I.BZ.fresh (CY _))⟩
end
structure iI(X:Ac)(o:AU)(m:Str)(apos:Pos)(e:AU)(Bv:Pos):Prop where
 base:Hw o m X.env (BJ o X.env)=BJ o X.env
 few:((D4 Bv (BF [e] X.env)).all (λx=>!x.1)&&(H5 Bv (H3 [] X.env)).all (λx=>x.1.isSome)
  &&decide (([e]:List AU).length+([]:List FP).length+(if([]:List FP).isEmpty then 0 else 1)<30))=true
 line:(apos.endLine==Bv.line)=true
 trees:D4 Bv (BF [e] X.env)=[(false,BJ e X.env)]
structure M2(X:Ac)(o:AU)(m:Str)(apos:Pos)(e f:AU)(Bv:Pos):Prop where
 base:Hw o m X.env (BJ o X.env)=BJ o X.env
 few:((D4 Bv (BF [e,f] X.env)).all (λx=>!x.1)&&(H5 Bv (H3 [] X.env)).all (λx=>x.1.isSome)
  &&decide (([e,f]:List AU).length+([]:List FP).length+(if([]:List FP).isEmpty then 0 else 1)<30))=true
 line:(apos.endLine==Bv.line)=true
 trees:D4 Bv (BF [e,f] X.env)=[(false,BJ e X.env),(false,BJ f X.env)]
def YA(H:AB)(a:A8):Prop:=(∃Ab,Eo H a (.Df Ab))\/∃Ab,Eo H a (.An Ab)
def Zi{X:Ac}{pins:List (A8×Obj)}{σ :St}{H:AB}{s:AP}{a:A8}(I:θ)(d:YA H a) :
  s.TypeIs (.ref a) "dict"/\(∀b,DR a=.ref b->∃ob,s.heap.get? b=some ob/\ob.dict=none)/\(a==He)=false:=by
 rcases d with⟨Ab,e⟩|⟨Ab,e⟩
 .obtain⟨_,hd,vs,_,D7⟩:=S8 I.BZ e;refine⟨D7.typeIs,λb q=>?_,hd⟩;cases q;obtain⟨ob,_,_,A6,AA,_⟩:=D7;exact⟨ob,A6,AA.2.1⟩
 .obtain⟨_,hd,xs,_,D7⟩:=SA I.BZ I.E9 e;refine⟨D7.typeIs,λb q=>?_,hd⟩;cases q;obtain⟨ob,_,_,A6,AA,_⟩:=D7;exact⟨ob,A6,AA.2.1⟩
section
variable{X:Ac}{pins:List (A8×Obj)}{σ :St}{H:AB}{s:AP}{a:A8}{y d:V}{u r:A7}{o:Option V}{A:CK}{E:A7->AP->Prop}
def ta{Q:A7->AP->Prop}(BM:A.units+16<DS)(I:θ)(g:J8 H a y o)(Bt:RelV y u)(h:∀Fi s',Inv X pins σ H s'->RelV (o.getD .non) Fi->Q Fi s') :
  Ad (B2 X.prog X.w) A (call (.builtin "dict.get") [.ref a,u]) Q E s:=by
 rcases g with⟨Ab,k,e,DK,l⟩|⟨Ab,k,b,e,DK,BS,l⟩
 .subst DK;obtain⟨z,hd,vs,rel,D7⟩:=S8 I.BZ e;refine UR U8 D7.typeIs f8 (f6 _ _) (meets_dict_get (HL X.prog X.w) a (Rf Bt) hd) ⟨_,D7.mapOf,h _ _ (I.tok _) ?_⟩;rw[l];exact(rel.val k).getD rfl
 .subst DK;cases(show u=DR b from Bt);obtain⟨z,hd,xs,rel,D7⟩:=SA I.BZ I.E9 e;refine UR U8 D7.typeIs f8 (f6 _ _) (meetsH_dict_get (KJ X.prog X.w) a b hd) ⟨nest_room BM,k,xs,Rg I.BZ BS,D7,h _ _ (I.tok _) ?_⟩;rw[l];exact(rel.val k).getD rfl
end
def p1(E_ ty:TE):TE:=λσ H Q=>E_ σ H λx H1=>∃a,x=.ref a/\YA H1 a/\ty σ H1 λy Am=>∃o,J8 Am a y o/\Q (o.getD .non) Am
section
variable{X:Ac}{o e f:AU}{apos Bv:Pos}{E_ ty Vr:TE}
def ab_(BM:X.A.units+16<DS)(ho:Av X o E_)(he:Av X e ty)(m:iI X o "get" apos e Bv):Av X (.Call (.Attribute o "get" apos) [e] [] Bv) (p1 E_ ty):=by intro pins s σ H Q I h;refine XD m.base m.few m.line Wz U8 qi (Bc (ho pins s σ H _ I h) λu s1⟨x,H1,Az,BR,a,ex,d,Ak⟩=>?_);subst ex;obtain rfl:u=DR a:=BR;obtain⟨t1,DI,_⟩:=Zi Az d;refine⟨t1,DI,?_⟩;rw[m.trees];refine UA rfl (Wv (Sb (Bc (he pins s1 σ H1 _ Az Ak) λFx s2⟨y,Am,Bl,Bt,D6,g,BC⟩=>UH ?_)));exact ta BM Bl g Bt λFi s3 Dk Kz=>⟨_,Am,Dk,Kz,BC⟩
end
section
variable{X:Ac}{pins:List (A8×Obj)}{σ :St}{H:AB}{s:AP}{a:A8}{Ab:List (Key×V)}{A:CK}{E:A7->AP->Prop}
end
section
variable{X:Ac}{pins:List (A8×Obj)}{σ :St}{H:AB}{s:AP}{a:A8}{y:V}{u:A7}{A:CK}{E:A7->AP->Prop}
end
end Bs
namespace hS
open PySem PySem.W PySem.Calls PyProof.Rows
def xD{P:Params}{h:BI}:∀(ns:List Int)(vs:List A7),WellAll P h vs (ns.map WData.int)->IntsAre vs ns:=by
 intro ns;induction ns with
 |nil=>intro vs w;rw[O5]at w;cases w;exact .nil
 |cons n ns Bh=>
  intro vs w;rw[Du]at w;cases w with
  |cons a b=>cases a;exact .cons _ _ (Bh _ b)
def adg{l:OpenLaw}{n:Nat}(AQ:l.most=some n){P:Params}{h:BI}{args:List WData}{vals:List A7}(YM:l.row.toRowW.claim.pre args=true)(cu:WellAll P h vals args) :
  ∃a vs ns,vals=[DR a]/\args=[WData.list (ns.map WData.int)]/\h.get? a=some { cls:=.type "list",data:=.seq vs.toArray }/\IntsAre vs ns/\ns.length<=n:=by
 have YO:WShape.hasAll [] args [.list .int]=true:=(pre_splitW YM).1;have AO:l.pre.holds [] { args:=args }=true:=(pre_splitW YM).2;obtain⟨d,r,rfl,A6,AA⟩:=hasAllW_cons YO;obtain rfl:=hasAllW_nil AA;obtain⟨xs,rfl,Ao⟩:=hasW_list A6;obtain⟨ns,rfl⟩:=items_int Ao;have hlen:ns.length<=n:=by
  unfold OpenLaw.pre at AO;have BG:(WTm.not (.lt (.lit (.int (n:Int))) (.len (.arg 0)))).holds [] { args:=[.list (ns.map .int)] }=true:=by have BG:=(holds_andW AO).1;rw[AQ]at BG;exact BG
  have Er:=condW_of BG (w_not (w_lt w_lit (w_len_list (w_arg rfl))));rw[GN]at Er;refine Nat.le_of_not_lt λq=>?_;have Gf:(n:Int)<((ns.length:Nat):Int):=δ
  first
   |(rw[decide_eq_true Gf]at Er;exact absurd Er ε)
   |(simp at Er;lia)
 cases cu with
 |cons FC Et=>
  cases Et;cases FC with
  |list ho TP=>exact⟨_,_,ns,rfl,rfl,ho,xD ns _ TP,hlen⟩
def aas(l:OpenLaw)(args:List WData):l.row.toRowW.claim.post args (.bool true) args=true:=
 postW_of (r:=l.row.toRowW) (X:=(true==true))
  (show WShape.has [] (.bool true) .bool=true by first|rfl|decide|simp[WShape.has,WShape.arms,WShape.armsAll])
  (show(WTm.eq .res (.lit (.bool true))).value [] { args:=args,res:=some (.bool true),after:=args }=some (.bool (true==true))from w_eq_bool (w_res rfl) w_lit) rfl
def sY {l:OpenLaw} {n:Nat} {q:Bx} {loose:List Str} {T7:(Str->Option A7)->BI->Prop} {Pp:Bj->BI->Prop} {d:DefRec}(AQ:l.most=some n) (VA:d.params.defaults=[])(call:∀(w:Bj)(GX DL:AP)(mg HK:Str->Option A7)(G6:A8)(o:Obj)(pm cd doc:A7)(a:A8)(vs:List A7)(ns:List Int),
    Ground q loose [] T7 w GX mg HK DL.heap->Pp w DL.heap->
    DL.heap.get? G6=some o->o.data=.func (docDef d.name d.params d.body d.scope pm cd doc)->DL.heap.CodeRec cd d.name->mg d.name=some (.ref G6)->
    DL.heap.get? a=some { cls:=.type "list",data:=.seq vs.toArray }->IntsAre vs ns->ns.length<=n->DL.gens= #[]->
    OA (B2 l.prog w) R9 (.call (.ref G6) ⟨[.ref a],[]⟩) (λr s'=>r=.ok (.ret (.bool true))/\OldK DL.heap s'.heap/\s'.os=DL.os/\O9 s'.gens) DL) :
  WalkO q loose T7 Pp l.row.toRowW d [] (λf vs=>PySem.call f vs):=by
 intro w GX DL mg HK G Y G6 o pm cd doc Yt Dm ho hd DV kC VE A_ args vals as YM ai_ ahq cu aia;obtain rfl:Yt=.none:=Dflts.none kC VA;obtain rfl:Dm=.none:=Dflts.noKw kC;obtain⟨a,vs,ns,rfl,rfl,cm,hints,hlen⟩:=adg AQ YM cu;refine enter_call (XK (call w GX DL mg HK G6 o pm cd doc a vs ns G Y ho (fd_plain hd) DV VE cm hints hlen A_) λr s' AV=>?_);obtain⟨rfl,AA,Ao,BG⟩:=AV;exact⟨.inl ⟨.bool true,.bool true,[],rfl,λ_=>rfl,.bool true,aas l _,λ_=>⟨qt,λ_ hm=>(nomatch hm)⟩⟩,AA,Ao,BG⟩
section
variable{prog:Bx}{w:Bj}{A:CK}{E:A7->AP->Prop}{s:AP}{K:Frag}
end
end hS
namespace Bs
open PySem PySem.Spec PyProof.Rows
theorem q5:∀{vs:List A7}{ns:List Int},IntsAre vs ns->Vals (ns.map V.int) vs
 |_,_,.nil=>.nil
 |_,_,.cons n t h=>.cons ⟨t,rfl⟩ (q5 h)
def hD(H:AB):Prop:=∀b,H b=none\/∃o xs,H b=some (.GT o (.lst xs))
def zc{P:Bx}{w:Bj}{K:Aa}{mg HK:Str->Option A7}{CX:Ll}{k:Nat}{G6 a:A8}{fd:GF}{x:Str}{sp:AX}{DL:AP}{vs:List A7}{ns:List Int}(IY:K.In DL.heap)(jm:DL.heap.Ns FG mg)(A0:DL.heap.Ns builtinsNs HK)(V7:∀x:Str,x≠"__name__"->HK x=LY x)(v4:DL.heap.NoLimit)(A_:DL.gens= #[])(AD:DL.heap.get? a=some { cls:=.type "list",data:=.seq vs.toArray })(AC:IntsAre vs ns)(AN:ns.length<=CD)(B5:Cm k R9)(F:∀base:BI,K.In base->base.Ns FG mg->Gl P w K mg base CX k G6 fd [x] sp)(vF:∀(s:AP)(u:A7),BindsTo s fd ⟨[u],[]⟩ [(x,u)])(PX:∀H:AB,hD H->CA K H a (ns.map V.int)->sp [.ref a] H (λv _=>v=.AR true) λ_ _ _=>False)(ay:∀H e s',CX [] H DL (λ_ _ _=>False) e s'->False) :
  OA (B2 P w) R9 (.call (.ref G6) ⟨[.ref a],[]⟩) (λr s'=>r=.ok (.ret (.bool true))/\OldK DL.heap s'.heap/\s'.os=DL.os/\O9 s'.gens) DL:=by
 have CJ:=q5 AC;have zi:=AC.length
 have core:∀H:AB,hD H->CA K H a (ns.map V.int)->Ei P w K H DL.heap->(∀b,H b≠none->b=a)->(H a≠none->K.lookup a=none)->
   OA (B2 P w) R9 (.call (.ref G6) ⟨[.ref a],[]⟩) (λr s'=>r=.ok (.ret (.bool true))/\OldK DL.heap s'.heap/\s'.os=DL.os/\O9 s'.gens) DL:=by
  intro H Hp KC BZ K9 Ap;have i1:∀{b:A8}{o:Obj},DL.heap.get? b=some o->H b=none->(O_ DL.heap H).get? b=some o:=λe n=>uy e n;have Vx:∀{b:A8}{o:Obj}{A4:Array MG}{BV:Nat},DL.heap.get? b=some o->o.data=.dict A4 BV->H b=none:=λ{b o A4 BV} e d=>by
   cases q:H b with
   |none=>rfl
   |some u=>have CQ:b=a:=K9 b (by rw[q];simp);subst CQ;rw[AD]at e;cases e;have d':Data.seq vs.toArray _=Data.dict A4 BV:=d;cases d'
  have Zc:∀{b:A8}{m:Str->Option A7},DL.heap.Ns b m->(O_ DL.heap H).Ns b m:=λ{b m}⟨o,A4,BV,e,d,r⟩=>⟨o,A4,BV,i1 e (Vx e d),d,r⟩;have kD:K.In (O_ DL.heap H):=λb o e=>i1 (IY b o e) (by
   cases q:H b with
   |none=>rfl
   |some u=>have CQ:b=a:=K9 b (by rw[q];simp);subst CQ;rw[Ap (by rw[q];simp)]at e;cases e)
  have Yd:Mod K mg (O_ DL.heap H):=⟨kD,Zc jm,⟨HK,Zc A0,V7⟩,let⟨ZO,A6,AA⟩:=v4;⟨ZO,Zc A6,AA⟩⟩;have DJ:RC P w K mg (O_ DL.heap H) R9 [] DL H:=⟨rfl,Yd,λb o e=>aa3 e,fq (uz _ _),trivial,λb A0=>absurd (show b∈([]:List A8)from A0) γ,BZ,.of_eq A_⟩;refine XK ((F _ kD (Zc jm)).run R9 [] DL H ⟨[.ref a],[]⟩ [.ref a] [.ref a] _ _ B5 DJ (vF DL (.ref a)) (.cons rfl .nil) (PX H Hp KC)) λr s' h=>?_;cases r with
  |error e=>exact(ay H e s' h).elim
  |ok HV=>
   cases HV with
   |next=>exact Kc h
   |brk=>exact Kc h
   |cont=>exact Kc h
   |ret u=>
    obtain⟨v,H',os,bare,un,wh,BO,q⟩:=h;have Gf:v=.AR true:=q;subst Gf;obtain rfl:u=Sp true:=BO;refine⟨rfl,OldK.of_keep λb o e=>?_,os,bare⟩;cases q:H b with
    |none=>exact un.keep b o e q (by intro z;exact absurd (show b∈([]:List A8)from z) γ) γ
    |some u=>
     rcases Hp b with z|⟨ob,xs,z⟩
     .rw[q]at z;cases z
     .have Dj:=un.Lo b ob _ z;obtain⟨A9,_⟩:=BZ b _ z;obtain⟨AH,_⟩:=wh b _ Dj;rw[e]at A9;cases A9;exact AH
 cases AE:K.lookup a with
 |some o=>have e:=IY a o AE;rw[AD]at e;cases e;refine core (λ_=>none) (λ_=>.inl rfl) (.inr ⟨_,vs.toArray,_,AE,rfl,rfl,rfl,by rw[Dy,zi];exact AN,(CJ:)⟩) (λb u z=>by have FY:(none:Option DN)=some u:=z;cases FY) (λb z=>absurd rfl z) λz=>absurd rfl z
 |none=>
  refine core (λb=>if b=a then some (.GT { cls:=.type "list",data:=.seq vs.toArray } (.lst (ns.map V.int)))else none) (λb=>?_) (.inl (.inr ⟨{ cls:=.type "list",data:=.seq vs.toArray },if_pos rfl⟩)) (λb u z=>?_) (λb z=>?_) λ_=>AE
  .by_cases A0:b=a
   .exact .inr ⟨_,_,if_pos A0⟩
   .exact .inl (if_neg A0)
  .by_cases A0:b=a
   .have FY:=(if_pos A0).symm.trans z;cases FY;subst A0;exact⟨AD,by rw[GN];exact AN,vs,_,CJ,AD⟩
   .have FY:=(if_neg A0).symm.trans z;cases FY
  .by_cases A0:b=a
   .exact A0
   .exact absurd (if_neg A0) z
def afU {l:fc} {n k:Nat} {q:Bx} {loose:List Str} {T7:(Str->Option A7)->BI->Prop} {Pp:Bj->BI->Prop} {d:DefRec} {K:Params->Aa} {CX:Bj->Ll} {sp:Bj->AX} {x:Str}(AQ:l.most=some n) (YL:n<=CD) (VA:d.params.defaults=[]) (B5:Cm k R9)(b1:∀(w:Bj)(h:BI),Pp w h->(K w.params).In h)(F:∀(w:Bj)(mg:Str->Option A7)(G6:A8)(h:BI),(K w.params).In h->h.Ns FG mg->mg d.name=some (.ref G6)->
    ∃fd:GF,(∀(s:AP)(u:A7),BindsTo s fd ⟨[u],[]⟩ [(x,u)])/\
     ∀base:BI,(K w.params).In base->base.Ns FG mg->Gl l.prog w (K w.params) mg base (CX w) k G6 fd [x] (sp w))
  (PX:∀(w:Bj)(H:AB)(a:A8)(ns:List Int),ns.length<=n->hD H->CA (K w.params) H a (ns.map V.int)->sp w [.ref a] H (λv _=>v=.AR true) λ_ _ _=>False)
  (ay:∀(w:Bj)(H:AB)(s:AP)(e:A7)(s':AP),CX w [] H s (λ_ _ _=>False) e s'->False) :
  PySem.W.WalkO q loose T7 Pp l.row.toRowW d [] (λf vs=>PySem.call f vs):=by
 refine hS.sY AQ VA λw GX DL mg HK G6 o pm cd doc a vs ns G Y ho hd DV VE cm hints hlen A_=>?_;have IY:=b1 w _ Y;obtain⟨fd,A0,Lz⟩:=F w mg G6 _ IY G.T.g VE;exact zc IY G.T.g G.T.b G.T.builtins G.T.nolimit A_ cm hints (FF hlen YL) B5 Lz A0 (λH Hp KC=>PX w H a ns hlen Hp KC) λH e s'=>ay w H DL e s'
noncomputable def inClass(s:Be)(j:Nat):Be:=match s with
 |.ClassDef _ _ _ body _ _ _ _ _ _ _=>body.getD j (.Pass ⟨0,0,0,0⟩)
 |_=>.Pass ⟨0,0,0,0⟩
noncomputable def LD(s:Be):Arguments:=match s with
 |.FunctionDef _ a _ _ _ _ _ _ _ _=>a
 |_=>{ posonlyargs:=[],args:=[],vararg:=none,kwonlyargs:=[],kw_defaults:=[],kwarg:=none,defaults:=[] }
noncomputable def GS(s:Be):List Be:=match s with
 |.FunctionDef _ _ b _ _ _ _ _ _ _=>b
 |_=>[]
noncomputable def C0(s:Be):E8:=match s with
 |.FunctionDef _ _ _ _ _ _ sc _ _ _=>sc
 |_=>{ kind:=.function,names:=[],isGenerator:=false,isCoroutine:=false }
abbrev H6:Ll:=λ_ _ _ _ _ _=>False
abbrev Ue:DT:=λ_ _ _=>False
def QD{X:Ac}:Passes H6 X Ue:=λ_ _ _ _ _ _ _ h=>h.elim
structure Nh(K:Aa)(x qual:Str)(st:Be)(f:A8)(fd:GF):Prop where
 ex:∃(IL:A7)(EL:Option A8)(Dm doc pm:A7)(an:Option A8)(CG Dn:A7)(N4:Array (Option A7)),
  fd=JH x qual (LD st) (GS st) (C0 st) .none Dm doc pm an CG Dn/\K.lookup f=some ⟨IL,EL,.func fd,N4⟩/\PI K CG qual=true
 kp:LQ K (.ref f)=true
section
variable{P:Bx}{w:Bj}{K:Aa}{mg:Str->Option A7}{base:BI}
def Nh.ok {x qual:Str} {st:Be} {f:A8} {fd:GF} {N Ai:List Str} {k:Nat} {sp:AX} (F:Nh K x qual st f fd) (S:Cj N Ai (C0 st)) (len:∀vs H Q E,sp vs H Q E->vs.length=Ai.length)(b3:∀(CG:A7)(A:CK)(outer:List Env)(s:AP)(H:AB)(vs:List V)(Q:Cd)(E:DT),Cm k (A.deeper (OB qual (C0 st) s.heap.objs.size f CG))->sp vs H Q E->
    ∃t,GP (Jt H6 P w K mg base N qual (C0 st) f CG A outer s H E).Kw (GS st) t/\t { B6:=λ_ H'=>Q .non H',EP:=Q } (start N vs) H):Gl P w K mg base H6 (k+1) f fd Ai sp:=by
 obtain⟨IL,EL,Dm,doc,pm,an,CG,Dn,N4,rfl,lk,DV⟩:=F.ex;refine vb lk DV S len λA outer s H vs Q E B5 PX=>?_;obtain⟨t,h,q⟩:=b3 CG A outer s H vs Q E B5 PX;exact⟨t,h.Kw,q⟩
def Nh.binds{x qual:Str}{st:Be}{f:A8}{fd:GF}{Ai:List Str}(F:Nh K x qual st f fd)(h:∀(Dm doc pm:A7)(an:Option A8)(CG Dn:A7)(us:List A7),us.length=Ai.length->Sr (JH x qual (LD st) (GS st) (C0 st) .none Dm doc pm an CG Dn) ⟨us,[]⟩=pure (Ai.zip us)):Binds K fd Ai []:=by obtain⟨IL,EL,Dm,doc,pm,an,CG,Dn,N4,rfl,lk,DV⟩:=F.ex;exact .all (h Dm doc pm an CG Dn)
def RV{x qual:Str}{st:Be}{f:A8}{IL:A7}{EL an:Option A8}{N4:Array (Option A7)}{Dm doc pm CG Dn:A7}(l:K.lookup f=some ⟨IL,EL,.func (JH x qual (LD st) (GS st) (C0 st) .none Dm doc pm an CG Dn),N4⟩)(c:PI K CG qual=true)(k:LQ K (.ref f)=true):Nh K x qual st f (JH x qual (LD st) (GS st) (C0 st) .none Dm doc pm an CG Dn):=⟨⟨IL,EL,Dm,doc,pm,an,CG,Dn,N4,rfl,l,c⟩,k⟩
end
section
variable{X:Ac}
def N5(i:Nat){x:Str}{pos:Pos}(hN:X.N[i]?=some x:=by rfl)(BN:Gp X.env.scope x:=by rw?)(hd:ζ:=by decide)(DV:(x==("__classdict__" :Str))=false:=by decide):Av X (.Name x pos) (Vm i):=IM hN BN hd DV
end
def iO(H H':AB):Prop:=∀b o,H b=some o->H' b=some o
def iO.seq{K:Aa}{H H':AB}{a:A8}{xs:List V}(e:iO H H')(h:CA K H a xs):CA K H' a xs:=by
 rcases h with(h|⟨o,h⟩)|h
 .exact .inl (.inl (e _ _ h))
 .exact .inl (.inr ⟨o,e _ _ h⟩)
 .exact .inr h
section
variable{X:Ac}
end
section
variable{κ:Type}[DecidableEq κ]
end
noncomputable def HU(env:Env):List (Str×Ke)->List (Str×A8)->List (Str×A8)
 |[],cs=>cs
 |(x,k)::r,cs=>HU env r (if k==.free then(x,(env.cells.lookup x).getD 0)::cs else cs)
theorem jA{env:Env}:∀(names:List (Str×Ke))(cs:List (Str×A8)),(∀p∈names,p.2=.free->∃c,env.cells.lookup p.1=some c)->
 (forIn (m:=Sem) names cs λ(x:Str×Ke) cs=>if(x.2==JJ)=true then do
   let a <-cellOf env x.1
   pure (O3 ((x.1,a)::cs))else pure (O3 cs))=pure (HU env names cs)
 |[],cs,_=>rfl
 |(x,k)::r,cs,h=>by
  rw[Qz];have Bh:=jA (env:=env) r;by_cases AE:k=.free
  .subst AE;obtain⟨c,AO⟩:=h (x,.free) Mt rfl;have A9:cellOf env x=pure c:=by unfold cellOf;rw[AO]
   erw[beq_self_eq_true,if_true,HU,A9,AO,X6,pure_bind];exact Bh _ λp AZ=>h p (Fk _ AZ)
  .have A0:(k==JJ)=false:=by simpa using AE
   erw[A0,Hg,if_false,HU,pure_bind];exact Bh _ λp AZ=>h p (Fk _ AZ)
def i8{env:Env}{scope:E8}(h:∀p∈scope.names,p.2=.free->∃c,env.cells.lookup p.1=some c):closureFor scope env=pure (HU env scope.names []):=by
 have e:=jA (env:=env) scope.names [] h;unfold closureFor
 refine Eq.trans (b:=(forIn (m:=Sem) scope.names [] λ(x:Str×Ke) cs=>if(x.2==JJ)=true then do
   let a <-cellOf env x.1
   pure (O3 ((x.1,a)::cs))else pure (O3 cs))>>=pure) rfl ?_
 rw[e];rfl
theorem hg{env:Env}{x:Str}:∀(names:List (Str×Ke))(cs:List (Str×A8)),(∀p∈names,p.2=.free->∃c,env.cells.lookup p.1=some c)->
  (HU env names cs).lookup x=if(x,JJ)∈names then env.cells.lookup x else cs.lookup x
 |[],cs,_=>by simp[HU]
 |(y,k)::r,cs,h=>by
  rw[HU,hg r _ λp AZ=>h p (Fk _ AZ)];by_cases hm:(x,JJ)∈r
  .rw[if_pos hm,if_pos (Fk _ hm)]
  .rw[if_neg hm];by_cases AE:k=.free
   .subst AE;obtain⟨c,AO⟩:=h (y,.free) Mt rfl;by_cases AG:x=y
    .subst AG;rw[if_pos Mt];simp[UJ,AO]
    .have nm:¬(x,JJ)∈(y,JJ)::r:=λz=>by
       rcases List.mem_cons.mp z with e|e
       .exact AG (by injection e)
       .exact hm e
     rw[if_neg nm];have A0:(x==y)=false:=(AG:)
     simp[UJ,A0]
   .have A0:(k==JJ)=false:=by simpa using AE
    have nm:¬(x,JJ)∈(y,k)::r:=λz=>by
     rcases List.mem_cons.mp z with e|e
     .exact AE (by injection e with _ AH;exact AH.symm)
     .exact hm e
    rw[if_neg nm];simp[A0]
def rm {prog:Bx} {w:Bj} {A:CK} {R:Result->AP->Prop} {s:AP} {elt target iter:AU} {ifs:List AU} {scope:E8} {pos:Pos} {it acc:A7} {env:Env} (I:Nat->AP->Prop)(turn:∀n s,I n s->Ad (B2 prog w) A (JN it) (λr DL=>match r with
    |none=>R (.ok .next) DL
    |some v=>Ad (B2 prog w) A (X9 target it v) (λ_ pk=>Ad (B2 prog w) A (Kf target env v) (λ_ L2=>
       Ad (B2 prog w) A (forIn ifs true λc r=>if r=true then do let ok <-isTrue c env (BJ c env);pure (O3 ok)else pure (O3 r)) (λok QQ=>
        if ok=true then Ad (B2 prog w) A (BJ elt env) (λx a9=>
         Ad (B2 prog w) A (call (.builtin "list.append") [acc,x]) (λ_ pn=>∃m,m<n/\I m pn) (PV (B2 prog w) A env λe s'=>R (.error e) s') a9) (PV (B2 prog w) A env λe s'=>R (.error e) s') QQ
        else ∃m,m<n/\I m QQ) (PV (B2 prog w) A env λe s'=>R (.error e) s') L2) (PV (B2 prog w) A env λe s'=>R (.error e) s') pk) (PV (B2 prog w) A env λe s'=>R (.error e) s') DL) (PV (B2 prog w) A env λe s'=>R (.error e) s') s)
  (n:Nat) (h:I n s):OA (B2 prog w) A (.compLoop (.ListComp elt [⟨target,iter,ifs,0⟩] scope pos) 0 it acc env) R s:=by
 refine codeAny_loop rfl I (λn s HW=>?_) n h;show Ad _ A ((compTurn (.ListComp elt [⟨target,iter,ifs,0⟩] scope pos) 0 it acc env).onRaise (λx=>do noteFrame x env;theTreesLotGoes x)) _ _ s;refine wpAny_noted ?_;rw[compTurn_list];refine AL (wpAny_standAt (AL (Iv (turn n s HW) (λr DL Kk=>?_) λ_ _ h'=>h')));cases r with
 |none=>exact Ay Kk
 |some v=>
  refine AL (Iv Kk (λ_ pk ww=>?_) λ_ _ h'=>h');refine AL (Iv ww (λ_ L2 ML=>AL (Iv ML (λok QQ NQ=>?_) λ_ _ h'=>h')) λ_ _ h'=>h');cases ok with
  |false=>exact Ay ⟨rfl,NQ⟩
  |true=>exact AL (AL (Iv NQ (λx a9 VI=>AL (Iv VI (λ_ pn Hq=>Ay (Ay ⟨rfl,Hq⟩)) λ_ _ h'=>h')) λ_ _ h'=>h'))
noncomputable abbrev Fa(X:Ac)(scope:E8)(N:List Str)(cl:List (Str×A8))(C:A8)(s:AP)(H:AB)(Al:List A8):Ac where
 prog:=X.prog
 w:=X.w
 K:=X.K
 mg:=X.mg
 base:=X.base
 A:=X.A
 N:=N
 GX:=s
 RE:=H
 env:=compEnvC scope cl C X.env
 outer:=X.stack
 stack:=X.stack
 ex:=Al
 calm:=X.calm
 fn:=λx=>scope.names.lookup x==some .cell
 Bg:=[]
 xe:=λ_ _=>False
noncomputable def NF(nl:Nat)(caps:ι)(σ :St):St:=ES nl none++caps.map λj=> σ.getD j none
noncomputable def Zh:Option Ke->Bool
 |some .cell=>true
 |some .free=>true
 |_=>false
structure Ng(sc:E8)(Nm:List Str)(scope:E8)(N:List Str)(nl:Nat)(caps:ι):Prop where
 kind:scope.kind=.function
 uniq:∀x∈scope.names,scope.names.lookup x.1=some x.2
 free:∀x∈scope.names,x.2=.free->Zh (sc.names.lookup x.1)=true
 len:N.length=nl+caps.length
 sO:∀k j,caps[k]?=some j->∃x,Nm[j]?=some x/\N[nl+k]?=some x/\scope.names.lookup x=some .free/\Zh (sc.names.lookup x)=true
noncomputable def VX(sc:E8)(Nm:List Str)(scope:E8)(N:List Str)(nl:Nat)(caps:ι):Bool:=
 (scope.kind==.function)&&scope.names.all (λx=>scope.names.lookup x.1==some x.2&&(x.2 !=.free||Zh (sc.names.lookup x.1)))&&
 (N.length==nl+caps.length)&&(caps.zipIdx.all λcC=>match Nm[cC.1]? with
   |none=>false
   |some x=>N[nl+cC.2]?==some x&&scope.names.lookup x==some .free&&Zh (sc.names.lookup x))
def Ng.of{sc:E8}{Nm:List Str}{scope:E8}{N:List Str}{nl:Nat}{caps:ι}(h:VX sc Nm scope N nl caps=true):Ng sc Nm scope N nl caps:=by
 unfold VX at h;rw[Fj,Fj,Fj]at h;obtain⟨⟨⟨A6,AA⟩,Ao⟩,BG⟩:=h;rw[PJ]at AA BG;refine⟨eq_of_beq A6,λx AG=>?_,λx AG e=>?_,eq_of_beq Ao,λk j e=>?_⟩
 .have:=AA x AG;rw[Fj]at this;exact eq_of_beq this.1
 .have:=AA x AG;rw[Fj]at this;have q:=this.2;rw[e]at q;simpa using q
 .have m:(j,k)∈caps.zipIdx:=by
    rw[List.mem_zipIdx_iff_getElem?];exact e
  have q:=BG _ m;dsimp only at q
  split at q
  .cases q
  .rename_i x ex;rw[Fj,Fj]at q;exact⟨x,ex,eq_of_beq q.1.1,eq_of_beq q.1.2,q.2⟩
def Ng.locs{sc:E8}{Nm:List Str}{scope:E8}{N:List Str}{nl:Nat}{caps:ι}(S:Ng sc Nm scope N nl caps):∀x∈scope.names,x.2=.local->scope.names.lookup x.1=some .local:=λx AG e=>e▸S.uniq x AG
theorem be:∀(ns:List (Str×Ke))(n:Nat)(a b:List (Str×A8)),Hh n ns (a++b)=Hh n ns a++b
 |[],_,_,_=>rfl
 |(x,k)::r,n,a,b=>by
  unfold Hh
  split
  .exact be r (n+1) ((x,n)::a) b
  .exact be r n a b
theorem Xb{x:Str}{c:A8}:∀(ns:List (Str×Ke))(n:Nat)(a:List (Str×A8)),(x,c)∈Hh n ns a->(x,NameKind.cell)∈ns\/(x,c)∈a
 |[],_,_,h=>.inr h
 |(y,k)::r,n,a,h=>by
  unfold Hh at h
  split at h
  .rename_i AE;rcases Xb r _ _ h with z|z
   .exact .inl (Fk _ z)
   .rcases List.mem_cons.mp z with e|z
    .injection e with A9 AH;subst A9;rw[eq_of_beq AE];exact .inl Mt
    .exact .inr z
  .rcases Xb r _ _ h with z|z
   .exact .inl (Fk _ z)
   .exact .inr z
def aaU{M:Model}{A:CK}{E:A7->AP->Prop}{s:AP}{scope:E8}{globals:A8}{cl:List (Str×A8)}{qual:Str}{env:Env}{Q:Env->AP->Prop}(DU:Q { scope:=scope,locals:=s.heap.objs.size,globals:=globals,cells:=Hh (s.heap.objs.size+1) scope.names cl,qual:=qual,func:=none,code:=env.code,frame:=env.frame,builtins:=env.builtins } { s with heap:=pushCells (s.heap.push { cls:=.type "dict",data:=.dict #[] }) scope.names }) :
  Ad M A (fy scope globals cl [] qual none .none (some env)) Q E s:=by
 erw[fy,r1,if_true];refine AL (wpAny_alloc ?_);refine AL (wpAny_layCells _ (λname kind cells=>by cases v1:kind==NameKind.cell<;>simp[v1]) _ _ _ _ ?_);rw[show({ s with heap:=s.heap.push { cls:=.type "dict",data:=.dict #[] } }:AP).heap.objs.size=s.heap.objs.size+1 from LW ..];exact AL (Ay (Ay DU))
def dX{scope:E8}{env:Env}{x:Str}{k:Ke}(h:(MI scope env).names.lookup x=some k):(x,k)∈scope.names\/(k=.cell/\(x,JJ)∈scope.names):=by
 have m:=Ms h;obtain⟨⟨y,q⟩,Ba,e⟩:=List.mem_map.mp m;dsimp only at e
 split at e
 .rename_i AO;injection e with A9 AH;subst A9;have hf:q=.free:=by
   rw[Fj,Fj]at AO;exact eq_of_beq AO.1.1
  subst hf;exact .inr ⟨AH.symm,Ba⟩
 .injection e with A9 AH;subst A9;subst AH;exact .inl Ba
noncomputable def aC(JE:TI)(g:Ib)(GY:TT)(E4:TE)(nl:Nat)(caps:ι):TE:=λσ H Q=>
 JE σ H λDA H1=>∀acc,H1 acc=none->∃W:Nat->Nat->St->AB->Prop,(∃m,W 0 m (NF nl caps σ) (upd H1 acc (.lst [])))/\
  ∀i m σ' H',W i m σ' H'->(DA.stop i H'/\Q (.ref acc) H')\/
   (DA.go i H'/\∀x Am,DA.Jd i H' x Am->g x σ' Am λσ2 Cb=>GY σ2 Cb λb Hc=>
      if b=true then E4 σ2 Hc λy Jh=>∃ys,Jh acc=some (.lst ys)/\ys.length<CD/\∃Dg,Dg<m/\W (i+1) Dg σ2 (upd Jh acc (.lst (ys++[y])))
      else ∃Dg,Dg<m/\W (i+1) Dg σ2 Hc)
section
variable{X:Ac}{elt target iter:AU}{ifs:List AU}{scope:E8}{pos:Pos}{N:List Str}{nl:Nat}{caps:ι}{JE:TI}{g:Ib}{GY:TT}{E4:TE}
noncomputable def Pk(X:Ac)(ifs:List AU)(t:TT):Prop:=
 ∀(pins:List (A8×Obj))(s:AP)(σ :St)(H:AB)(Q:Bool->AB->Prop),θ->t σ H Q->
  Ad (B2 X.prog X.w) X.A (forIn ifs true λc r=>if r=true then do let ok <-isTrue c X.env (BJ c X.env);pure (O3 ok)else pure (O3 r)) (YF X pins σ Q) X.xe s
def aeg:TT:=λ_ H Q=>Q true H
def acP:Pk X [] aeg:=λ_ _ _ H _ I h=>wpAny_tests_nil ⟨H,I,h⟩
def acQ{c:AU}{t:TT}(h:F_ X c t):Pk X [c] t:=λpins s σ H Q I hw=>wpAny_tests_one (h pins s σ H Q I hw)
def xE{pins:List (A8×Obj)}{σ :St}{H:AB}{s s4:AP}{cl:List (Str×A8)}{Al:List A8}(S:Ng X.env.scope X.N scope N nl caps)(I:θ)(Cg:∀x c,cl.lookup x=some c->X.env.cells.lookup x=some c\/(scope.names.lookup x=some .cell/\s.heap.objs.size<c/\s4.heap.IsCell c none))(By:∀x,(x,JJ)∈scope.names->cl.lookup x=X.env.cells.lookup x)(Fm:∀x,scope.names.lookup x=some .cell->∃c,cl.lookup x=some c/\s.heap.objs.size<c)(Oh:∀x y c,cl.lookup x=some c->cl.lookup y=some c->x=y)(hf:∀b∈Al,KO X pins H b)(ID:∀b∈Al,b<s.heap.objs.size)(Rc:s4.os=s.os)(A_:s4.gens=s.gens)(AQ:∃m,s4.heap.Ns s.heap.objs.size m)(AE:∀b o,s.heap.get? b=some o->s4.heap.get? b=some o) :
  Inv (Fa X scope N cl s.heap.objs.size s H Al) [] (NF nl caps σ) H s4:=by
 refine⟨⟨I.ok.mod,?_,I.ok.glob,I.ok.blt,CY _,Oh,λx AG=>?_,λx c z e=>?_,I.ok.hd,I.ok.frames,.inl rfl,λb A0=>⟨Fl (ID b A0),λx c e=>(Cg x c e).elim (λe=>(hf b A0).2.2.2.2.1 x c e) λe=>Mw (LZ (ID b A0) e.2.1)⟩,I.bs,FF I.ok.Pt I.Lw,λb o e A0=>?_,λb A0 AJ=>?_,I.stack,I.pe⟩,
  Rc,?_,GR.kept AE,?_,λx c e=>?_,I.BZ.fresh (CY _),λx c e=>(Cg x c e).elim (I.Li x c) λe=>I.BZ.fresh (Qy e.2.1),λp AZ=>absurd (show p∈([]:List (A8×Obj))from AZ) γ,I.BZ.kept AE,?_⟩
 .show(MI scope X.env).kind=.function;exact S.kind
 .have AG:(MI scope X.env).names.lookup x=some .cell\/(MI scope X.env).names.lookup x=some .free:=AG;have hm:(x,JJ)∈scope.names\/scope.names.lookup x=some .cell:=by
   rcases AG with h|h
   .rcases dX h with m|⟨_,m⟩
    .exact .inr (S.uniq _ m)
    .exact .inl m
   .rcases dX h with m|⟨e,_⟩
    .exact .inl m
    .cases e
  rcases hm with hm|hm
  rotate_left
  .obtain⟨c,e,_⟩:=Fm x hm;exact⟨c,e⟩
  have AV:=S.free _ hm rfl;have AO:∃c,X.env.cells.lookup x=some c:=by
   apply I.ok.has x;show X.env.scope.names.lookup x=some .cell\/X.env.scope.names.lookup x=some .free;cases e:X.env.scope.names.lookup x with
   |none=>rw[e]at AV;cases AV
   |some k=>
    rw[e]at AV
    cases k<;>first
     |exact .inl rfl
     |exact .inr rfl
     |cases AV
  obtain⟨c,e⟩:=AO;exact⟨c,by show cl.lookup x=some c;rw[By x hm];exact e⟩
 .obtain⟨Em,CQ,q⟩:=Fm x (eq_of_beq z);rw[show cl.lookup x=some c from e]at CQ;cases CQ;exact Qy q
 .rcases(hf b A0).2.2.2.1 with z|z
  .exact I.ok.RO b o e z
  .exact absurd (Hx (De (I.ok.bs b o e).1) z) (K3 _)
 .rcases List.mem_cons.mp (I.a8 b AJ)with z|z
  .exact(hf b A0).2.1 z
  .exact(hf b A0).2.2.1 z
 .rw[A_];exact I.bare
 .obtain⟨m,AQ⟩:=AQ;refine⟨m,AQ,λi x v A6 AA Ao=>?_⟩;have hN:N[i]?=some x:=A6;unfold NF at AA;by_cases AC:i<nl
  .rw[IS (AC:),PG,if_pos AC]at AA;cases AA
  .rw[Nx (AC:),Se,EC]at AA;cases e:caps[i-nl]? with
   |none=>rw[e]at AA;cases AA
   |some j=>
    rw[e]at AA;have AA: σ.getD j none=some v:=Ey AA;obtain⟨y,A9,AH,Px,F1⟩:=S.sO _ _ e;have Au:(y,JJ)∈scope.names:=Ms Px;have CH:Gp X.env.scope y:=by
     cases q:X.env.scope.names.lookup y with
     |none=>rw[q]at F1;cases F1
     |some k=>
      rw[q]at F1
      cases k<;>first
       |exact .inr (.inl q)
       |exact .inr (.inr q)
       |cases F1
    have Fv:nl+(i-nl)=i:=δ
    rw[Fv,hN]at AH;cases AH;have AJ: σ[j]?=some (some v):=by
     rw[JF]at AA;cases q: σ[j]? with
     |none=>rw[q]at AA;cases AA
     |some o=>rw[q]at AA;exact congrArg some AA
    obtain⟨m0,_,AN⟩:=I.loc;obtain⟨u,r,l⟩:=AN j x v A9 AJ CH;refine⟨u,r,.inr ⟨?_,?_⟩⟩
    .show(MI scope X.env).names.lookup x=some .cell\/(MI scope X.env).names.lookup x=some .free;rcases Ao with Ao|Ao|Ao
     .have Ao:(MI scope X.env).names.lookup x=some .local:=Ao;rcases dX Ao with z|⟨z,_⟩
      .have Dj:scope.names.lookup x=some .local:=S.locs _ z rfl;rw[Dj]at Px;cases Px
      .cases z
     .exact .inl Ao
     .exact .inr Ao
    .have AV:X.env.scope.names.lookup x≠some .local:=λz=>by rw[z]at F1;cases F1
     rcases l with⟨z,_⟩|⟨_,c,Db,Dj⟩
     .exact absurd z AV
     .refine⟨c,?_,Dj.keeps AE⟩;show cl.lookup x=some c;rw[By x Au];exact Db
 .rcases Cg x c e with e|e
  .obtain⟨v,z⟩:=I.cell x c e;exact⟨v,z.keeps AE⟩
  .exact⟨_,e.2.2⟩
 .show(NF nl caps σ).length=N.length;unfold NF;rw[JK,Se,GN,S.len]
def xG{pins:List (A8×Obj)}{σ σ' :St}{H H':AB}{s s':AP}{cl:List (Str×A8)}{Al:List A8}{h':BI}(I:θ)(hf:∀b∈Al,KO X pins H b)(DA:Inv (Fa X scope N cl s.heap.objs.size s H Al) [] σ' H' s')(AJ:JG s.heap.objs.size s'.heap h'):Inv X pins σ H' { s' with heap:=h' }:=by
 have ne:∀b o,s.heap.get? b=some o->b≠s.heap.objs.size:=λb o e=>Fl (De e);have u:GR (Lj X.stack) Al H H' s.heap s'.heap:=DA.base;have fr:H' s.heap.objs.size=none:=DA.free;refine I.sC (ch:=Al) (s':={ s' with heap:=h' }) DA.os ⟨λb o e n A0 AG=>(AJ.2 b (ne b o e)).trans (u.keep b o e n A0 AG),λb o e n A0 AG=>?_,u.free,λb o e AG=>?_,u.Np,u.Lo,u.Nb⟩ (λb o e=>?_) DA.bare λb A0=>?_
 .obtain⟨C2,q⟩:=u.slot b o e n A0 AG;exact⟨C2,(AJ.2 b (ne b o e)).trans q⟩
 .obtain⟨o',q⟩:=u.there b o e AG;exact⟨o',(AJ.2 b (ne b o e)).trans q⟩
 .refine(DA.BZ b o e).PA (λc v AO q=>(AJ.2 c ?_).trans q) (λ_ q=>q) λ_ _ q=>q;rintro rfl;rcases AO with z|z
  .rw[<-z,fr]at e;cases e
  .rw[fr]at z;cases z
 .obtain⟨_,f1,_,Fc,f4,Ie⟩:=hf b A0;exact⟨Fc,f1,f4,Ie⟩
def jB {pins:List (A8×Obj)} {σ :St} {s2:AP} {Am:AB} {it:A8} {Al:List A8} {HP:Nat->BI->Prop} {DA:It} {E:A7->AP->Prop} {Q:AB->Prop} {W:Nat->Nat->St->AB->Prop} {m0:Nat}(S:Ng X.env.scope X.N scope N nl caps) (AO:X.calm=true) (Bl:Inv X pins σ Am s2) (T:Turn X.prog X.w X.K target DA Al it HP) (Lu:HP 0 s2.heap) (f2:∀b∈Al,KO X pins Am b)(A_:∀cl C s H Al,KP (Fa X scope N cl C s H Al) target g) (Aj:∀cl C s H Al,Pk (Fa X scope N cl C s H Al) ifs GY) (he:∀cl C s H Al,Av (Fa X scope N cl C s H Al) elt E4)(PC:W 0 m0 (NF nl caps σ) (upd Am s2.heap.objs.size (.lst [])))(turn:∀i m σ' H',W i m σ' H'->(DA.stop i H'/\Q H')\/
    (DA.go i H'/\∀x Cb,DA.Jd i H' x Cb->g x σ' Cb λσ2 Hc=>GY σ2 Hc λb Jh=>
       if b=true then E4 σ2 Jh λy T3=>∃ys,T3 s2.heap.objs.size=some (.lst ys)/\ys.length<CD/\∃Dg,Dg<m/\W (i+1) Dg σ2 (upd T3 s2.heap.objs.size (.lst (ys++[y])))
       else ∃Dg,Dg<m/\W (i+1) Dg σ2 Jh))
  (Uo:A7->A8->Result->AP->Prop)
  (vx:∀(C:A8) s' H',(∃m,s'.heap.Ns C m)->KO X pins H' C->(∀h',JG C s'.heap h'->Inv X pins σ H' { s' with heap:=h' })->Q H'->Uo (.ref s2.heap.objs.size) C (.ok .next) s') :
  Ad (B2 X.prog X.w) X.A (newList []) (λacc QQ=>Ad (B2 X.prog X.w) X.A (fy scope X.env.globals (HU X.env scope.names []) [] X.env.qual none .none (some X.env)) (λhb a9=>
   OA (B2 X.prog X.w) X.A (.compStart (.ListComp elt [⟨target,iter,ifs,0⟩] scope pos) 0 (.ref it) acc { hb with scope:=MI scope X.env }) (Uo acc hb.locals) a9) E QQ) E s2:=by
 have Yn:∀p∈scope.names,p.2=.free->∃c,X.env.cells.lookup p.1=some c:=λp AZ e=>by
  have q:=S.free p AZ e;apply Bl.ok.has p.1;show X.env.scope.names.lookup p.1=some .cell\/X.env.scope.names.lookup p.1=some .free;cases AH:X.env.scope.names.lookup p.1 with
  |none=>rw[AH]at q;cases q
  |some k=>
   rw[AH]at q
   cases k<;>first
    |exact .inl rfl
    |exact .inr rfl
    |cases q
 have Yi:∀x,(HU X.env scope.names []).lookup x=if(x,JJ)∈scope.names then X.env.cells.lookup x else none:=λx=>hg scope.names [] Yn
 have kO:Am s2.heap.objs.size=none:=Bl.BZ.fresh (CY _);refine JL (aaU ?_);dsimp only;have Dk:Inv X pins σ (upd Am s2.heap.objs.size (.lst [])) { s2 with heap:=s2.heap.push { cls:=.type "list",dict:=none,data:=.seq ([]:List A7).toArray } }:=Bl.bw (its:=[]) (ys:=[]) (t':=s2.toks) .nil (IT _);generalize cp:({ s2 with heap:=s2.heap.push { cls:=.type "list",dict:=none,data:=.seq ([]:List A7).toArray } }:AP)=s3 at Dk;have cZ:s2.heap.push { cls:=.type "list",dict:=none,data:=.seq ([]:List A7).toArray }=s3.heap:=by rw[<-cp]
 rw[cZ];have mT:∀b o,s2.heap.get? b=some o->s3.heap.get? b=some o:=λb o e=>by rw[<-cZ];exact DM _ e
 have ad3:s3.heap.objs.size=s2.heap.objs.size+1:=by rw[<-cZ,LW]
 have kc:=be scope.names (s3.heap.objs.size+1) [] (HU X.env scope.names []);have ok:=cellsFrom_ok scope.names (s3.heap.push { cls:=.type "dict",data:=.dict #[] }) (s3.heap.objs.size+1) [] ⟨λ_ _ hm=>(nomatch hm),qt⟩ (by rw[LW];exact CY _);have jn:=(Heap.Ns.new s3.heap (.type "dict")).keeps (pushCells_keeps scope.names _);have Zo:∀b o,s3.heap.get? b=some o->(pushCells (s3.heap.push { cls:=.type "dict",data:=.dict #[] }) scope.names).get? b=some o:=λb o e=>pushCells_keeps _ _ b o (DM _ e);rw[LW]at ok;rw[UM]at kc;rw[kc];generalize pushCells (s3.heap.push { cls:=.type "dict",data:=.dict #[] }) scope.names=Kk at jn Zo ok |-;have old:∀x c,X.env.cells.lookup x=some c->c<s3.heap.objs.size:=λx c e=>by obtain⟨v,z⟩:=Dk.cell x c e;exact z.lt
 have Sv:∀x c,(Hh (s3.heap.objs.size+1) scope.names []++HU X.env scope.names []).lookup x=some c->((x,c)∈Hh (s3.heap.objs.size+1) scope.names []/\scope.names.lookup x=some .cell/\s3.heap.objs.size<c/\Kk.IsCell c none)\/X.env.cells.lookup x=some c:=λx c e=>by
  rw[fO]at e;cases A9:(Hh (s3.heap.objs.size+1) scope.names []).lookup x with
  |some Em=>
   rw[A9]at e;have e:Em=c:=Ey e;subst e;have m:=Ms A9;rcases Xb _ _ _ m with z|z
   .exact .inl ⟨m,S.uniq _ z,(ok.empty _ _ m).2,(ok.empty _ _ m).1⟩
   .cases z
  |none=>
   rw[A9]at e;have e:(HU X.env scope.names []).lookup x=some c:=e;rw[Yi]at e
   split at e
   .exact .inr e
   .cases e
 have By:∀x,(x,JJ)∈scope.names->(Hh (s3.heap.objs.size+1) scope.names []++HU X.env scope.names []).lookup x=X.env.cells.lookup x:=λx AG=>by
  rw[fO];cases A9:(Hh (s3.heap.objs.size+1) scope.names []).lookup x with
  |some Em=>
   rcases Xb _ _ _ (Ms A9)with z|z
   .have Ak:=S.uniq _ z;have BC:=S.uniq _ AG;dsimp only at Ak BC;rw[Ak]at BC;cases BC
   .cases z
  |none=>show(HU X.env scope.names []).lookup x=_;rw[Yi,if_pos AG]
 have Fm:∀x,scope.names.lookup x=some .cell->∃c,(Hh (s3.heap.objs.size+1) scope.names []++HU X.env scope.names []).lookup x=some c/\s3.heap.objs.size<c:=λx AG=>by obtain⟨c,e⟩:=bc (n:=s3.heap.objs.size+1) AG;exact⟨c,by rw[fO,e];rfl,(ok.empty _ _ (Ms e)).2⟩
 have Oh:∀x y c,(Hh (s3.heap.objs.size+1) scope.names []++HU X.env scope.names []).lookup x=some c->(Hh (s3.heap.objs.size+1) scope.names []++HU X.env scope.names []).lookup y=some c->x=y:=λx y c A6 AA=>by
  rcases Sv x c A6 with Db|Db<;>rcases Sv y c AA with Dj|Dj
  .exact name_of_addr ok.apart Db.1 Dj.1
  .exact absurd (old y c Dj) (Nat.not_lt_of_gt Db.2.2.1)
  .exact absurd (old x c Db) (Nat.not_lt_of_gt Dj.2.2.1)
  .exact Dk.ok.inj x y c Db Dj
 have Cg:∀x c,(Hh (s3.heap.objs.size+1) scope.names []++HU X.env scope.names []).lookup x=some c->X.env.cells.lookup x=some c\/(scope.names.lookup x=some .cell/\s3.heap.objs.size<c/\Kk.IsCell c none):=λx c e=>(Sv x c e).elim (λz=>.inr z.2) .inl;generalize Hh (s3.heap.objs.size+1) scope.names []++HU X.env scope.names []=cl at Sv Cg By Fm Oh |-;have jl:∀b∈Al,b<s2.heap.objs.size:=λb A0=>by obtain⟨o,e,_⟩:=T.obj 0 _ Lu b A0;exact De e
 have Fc:∀b∈Al,KO X pins (upd Am s2.heap.objs.size (.lst [])) b:=λb A0=>by obtain⟨Pq,a1⟩:=f2 b A0;exact⟨by rw[Cy (Fl (jl b A0))];exact Pq,a1⟩
 have ck:∀b∈Al,b<s3.heap.objs.size:=λb A0=>by rw[ad3];exact Nat.lt_succ_of_lt (jl b A0)
 have loop:∀s4:AP,s4={ s3 with heap:=Kk }->
   OA (B2 X.prog X.w) X.A (.compLoop (.ListComp elt [⟨target,iter,ifs,0⟩] scope pos) 0 (.ref it) (.ref s2.heap.objs.size) (compEnvC scope cl s3.heap.objs.size X.env))
    (Uo (.ref s2.heap.objs.size) s3.heap.objs.size) s4:=by
  intro s4 TW;have Ln:Inv (Fa X scope N cl s3.heap.objs.size s3 (upd Am s2.heap.objs.size (.lst [])) Al) [] (NF nl caps σ) (upd Am s2.heap.objs.size (.lst [])) s4:=
   xE S Dk (by rw[TW];exact Cg) By Fm Oh Fc ck (by rw[TW]) (by rw[TW]) ⟨_,by rw[TW];exact jn⟩ (by rw[TW];exact Zo)
  have aco:HP 0 s4.heap:=T.keep 0 _ _ Lu λb A0 o e=>by rw[TW];exact Zo b o (mT b o e)
  generalize J3:Fa X scope N cl s3.heap.objs.size s3 (upd Am s2.heap.objs.size (.lst [])) Al=B at Ln;have stat:∀{H':AB},(∀b∈Al,H' b=none)->∀b∈Al,KO B [] H' b:=λ{H'} AQ b A0=>by
   subst J3;obtain⟨Pq,a1,a2,I3,Ox,S2⟩:=Fc b A0;refine⟨AQ b A0,Fl (ck b A0),λz=>?_,.inl A0,λx c e=>?_,λp AZ=>absurd (show p∈([]:List (A8×Obj))from AZ) γ⟩
   .rcases List.mem_cons.mp (Dk.a8 b z)with q|q
    .exact a1 q
    .exact a2 q
   .rcases Cg x c e with e|e
    .exact Ox x c e
    .exact Mw (LZ (ck b A0) e.2.1)
  have vU:KP B target g:=by subst J3;exact A_ _ _ _ _ _
  have wl:Pk B ifs GY:=by subst J3;exact Aj _ _ _ _ _
  have vQ:Av B elt E4:=by subst J3;exact he _ _ _ _ _
  have Va:B.prog=X.prog:=by subst J3;rfl
  have IA:B.w=X.w:=by subst J3;rfl
  have SB:B.K=X.K:=by subst J3;rfl
  have tH:B.A=X.A:=by subst J3;rfl
  have bo:B.env=compEnvC scope cl s3.heap.objs.size X.env:=by subst J3;rfl
  have ik:B.calm=true:=by subst J3;exact AO
  have t5:B.xe=λ_ _=>False:=by subst J3;rfl
  rw[<-Va,<-IA,<-tH,<-bo];refine rm (λn s'=>∃i σ' H',Inv B [] σ' H' s'/\HP i s'.heap/\(∀b∈Al,H' b=none)/\W i n σ' H') ?_ m0 ⟨0,_,_,Ln,aco,λb A0=>(Fc b A0).1,PC⟩;rintro n s5 ⟨i,σ5,Jh,T5,Td,Z8,afP⟩;have away:∀{α:Type}{t:Sem α}{iM:α->AP->Prop}{rh:A7->AP->Prop}{P6:AP},Ad (B2 B.prog B.w) B.A t iM B.xe P6->Ad (B2 B.prog B.w) B.A t iM rh P6:=λh=>Iv h (λ_ _ q=>q) λe s' z=>by rw[t5]at z;cases z
  rcases turn i n σ5 Jh afP with⟨stop,q⟩|⟨go,step⟩
  .have d:=T.done B Va IA SB ik i [] s5 σ5 Jh (PV (B2 B.prog B.w) B.A B.env λe s'=>Uo (.ref s2.heap.objs.size) s3.heap.objs.size (.error e) s') T5 (stat Z8) Td stop;rw[<-Va,<-IA]at d;refine Bc d λr Gg⟨B5,Ui⟩=>?_;subst B5;refine vx _ Gg Jh ?_ (Dk.OU (CY _) ?_) (λh' Gw=>?_) q
   .obtain⟨m,AQ,_⟩:=Ui.loc;rw[bo]at AQ;exact⟨m,AQ⟩
   .have z:=Ui.free;rw[bo]at z;exact z
   .subst J3;exact xG Dk Fc Ui Gw
  .have d:=T.item B Va IA SB ik i [] s5 σ5 Jh (PV (B2 B.prog B.w) B.A B.env λe s'=>Uo (.ref s2.heap.objs.size) s3.heap.objs.size (.error e) s') T5 (stat Z8) Td go;rw[<-Va,<-IA]at d;refine Bc d λr Gg⟨u,B5,DE⟩=>?_;subst B5;refine Bc DE λ_ Ce⟨x,Gn,L6,J_,ags,eh,vd⟩=>?_;have rI:=L6.pinned (stat vd) (T.obj _ _ eh);refine away (Bc (vU _ Ce σ5 Gn x u _ rI J_ (step x Gn ags)) λ_ s8⟨σ8,gG,rJ,ace⟩=>?_);refine away (Bc (wl _ s8 σ8 gG _ rJ ace) λb s9⟨rD,iE,l_⟩=>?_);have again:∀{σa:St}{T4:AB}{P6:AP},Inv B ([]++W2 Al Ce.heap) σa T4 P6->(∃Dg,Dg<n/\W (i+1) Dg σa T4)->∃m,m<n/\∃i σ' H',Inv B [] σ' H' P6/\HP i P6.heap/\(∀b∈Al,H' b=none)/\W i m σ' H':=λ{σa T4 P6} gI⟨Dg,hm,afS⟩=>by
    refine⟨Dg,hm,i+1,σa,T4,gI.aJ,T.keep _ _ _ eh λb A0 o e=>(gI.pin (b,o) (Fz _ (Fz _ (ZP A0 e)))).1,λb A0=>?_,afS⟩;obtain⟨o,e,d⟩:=T.obj _ _ eh b A0;exact(gI.pin (b,o) (Fz _ (Fz _ (ZP A0 e)))).2.1
   cases b with
   |false=>exact again iE l_
   |true=>show Ad _ _ (BJ elt B.env) _ _ s9;refine away (Bc (vQ _ s9 σ8 rD _ iE l_) λe8 Bp⟨y,iC,rF,Bt,ys,AD,Aq,aca⟩=>?_);refine away (Bc (dh _ Bp σ8 iC (.ref s2.heap.objs.size) [y] (.ref s2.heap.objs.size) [e8] (λ_ iD=>iD=upd iC s2.heap.objs.size (.lst (ys++[y]))) rF rfl (.cons Bt .nil) ⟨_,ys,y,rfl,rfl,AD,Aq,rfl⟩) λ_ Dc⟨z,iD,rG,_,tE⟩=>?_);subst tE;exact again rG aca
 exact codeAny_compStart_list (loop _ (by rw[<-cp])) (T.self X.A 0 _ _ _ (T.keep 0 _ _ Lu λb A0 o e=>Zo b o (mT b o e)) (loop _ (by rw[<-cp])))
def jj{pins:List (A8×Obj)}{σ :St}{s:AP}{H:AB}(S:Ng X.env.scope X.N scope N nl caps)(I:θ):∀p∈scope.names,p.2=.free->∃c,X.env.cells.lookup p.1=some c:=λp AZ e=>by
 have q:=S.free p AZ e;apply I.ok.has p.1;show X.env.scope.names.lookup p.1=some .cell\/X.env.scope.names.lookup p.1=some .free;cases AH:X.env.scope.names.lookup p.1 with
 |none=>rw[AH]at q;cases q
 |some k=>
  rw[AH]at q
  cases k<;>first
   |exact .inl rfl
   |exact .inr rfl
   |cases q
def abY(S:Ng X.env.scope X.N scope N nl caps)(AO:X.calm=true)(AC:GI X target iter JE)(A_:∀cl C s H Al,KP (Fa X scope N cl C s H Al) target g)(Aj:∀cl C s H Al,Pk (Fa X scope N cl C s H Al) ifs GY)(he:∀cl C s H Al,Av (Fa X scope N cl C s H Al) elt E4)(AJ:∀x,PM iter X.env x=pure x:=by intro _;rfl):Av X (.ListComp elt [⟨target,iter,ifs,0⟩] scope pos) (aC JE g GY E4 nl caps):=by intro pins s σ H Q I h;rw[eval_ListComp];refine wpAny_comprehension_free (use:=none) rfl AJ (i8 (jj S I)) S.kind S.locs ?_;refine Bc (AC pins s σ H _ I h) λv s1 A6=>Bc A6 λZm s2 AA=>?_;obtain⟨it,Al,HP,DA,Am,e,Bl,T,Lu,f2,k⟩:=AA;subst e;obtain⟨W,⟨m0,PC⟩,turn⟩:=k s2.heap.objs.size (Bl.BZ.fresh (CY _));refine jB (Q:=λH'=>Q (.ref s2.heap.objs.size) H') S AO Bl T Lu f2 A_ Aj he PC turn (λacc C=>compPost (B2 X.prog X.w) X.A X.xe none (G_ X pins σ Q) acc C) ?_;intro C s' H' AQ _ HW q;obtain⟨m,AQ⟩:=AQ;exact⟨m,AQ,λh' Gw=>⟨.ref s2.heap.objs.size,H',HW h' Gw,rfl,q⟩⟩
def abI{i:Nat}{y:Str}{py pY:Pos}(S:Ng X.env.scope X.N scope N nl caps)(AO:X.calm=true)(hN:X.N.Nodup)(Ba:X.N[i]?=some y)(AN:X.env.kindOf y=some .local)(AC:GI X target iter JE)(A_:∀cl C s H Al,KP (Fa X scope N cl C s H Al) target g)(Aj:∀cl C s H Al,Pk (Fa X scope N cl C s H Al) ifs GY)(he:∀cl C s H Al,Av (Fa X scope N cl C s H Al) elt E4)(cq:O6 (.ListComp elt [⟨target,iter,ifs,0⟩] scope pos) (some (.Name y py)) pY.line X.env=pure true:=by rfl)(AJ:∀x,PM iter X.env x=pure x:=by intro _;rfl):DO X (.Assign [.Name y py] (.ListComp elt [⟨target,iter,ifs,0⟩] scope pos) pY) (NB (aC JE g GY E4 nl caps) (Jx i)):=by
 intro pins s σ H CC I h;rw[exec_Assign_Name_used _ _ _ _ cq];refine AL (wpAny_standAt (AL ?_));show Ad _ X.A (do let _ <-comprehension (.ListComp elt [⟨target,iter,ifs,0⟩] scope pos) scope X.env _ (newList []) false (BJ iter X.env) (some (Kf (.Name y py) X.env))) _ _ s;refine AL (Iv (wpAny_comprehension_free (use:=some (Kf (.Name y py) X.env)) (Q:=λ_ s'=>Rz X pins CC .next s') rfl AJ (i8 (jj S I)) S.kind S.locs ?_) (λ_ s' AV=>Ay (Ay AV)) λ_ _ e=>e);refine Bc (AC pins s σ H _ I h) λv s1 A6=>Bc A6 λZm s2 AA=>?_;obtain⟨it,Al,HP,DA,Am,e,Bl,T,Lu,f2,k⟩:=AA;subst e;obtain⟨W,⟨m0,PC⟩,turn⟩:=k s2.heap.objs.size (Bl.BZ.fresh (CY _));refine jB (Q:=λH'=>CC.B6 (σ.set i (some (.ref s2.heap.objs.size))) H') S AO Bl T Lu f2 A_ Aj he PC turn (λacc C=>compPost (B2 X.prog X.w) X.A X.xe (some (Kf (.Name y py) X.env)) (λ_ s'=>Rz X pins CC .next s') acc C) ?_;intro C s' H' AQ HJ HW q;obtain⟨m,AQ⟩:=AQ;show Ad _ X.A (Kf (.Name y py) X.env (.ref s2.heap.objs.size)) _ _ s';have Ni:Inv X pins σ H' s':=HW s'.heap (Heap.SameBut.refl _ _);refine wpAny_assign_Name (pg (v:=.ref s2.heap.objs.size) Ni hN Ba (.inl AN) (show RelV (V.ref _) _ from rfl) (λW7 rE wk=>?_) (.inr AN));obtain⟨a,wj,AD⟩:=wk;obtain⟨OO,BW,Ea,HA,Js,s6⟩:=HJ;have yw:C≠a:=by
  rcases AD with z|z
  .rw[z];exact BW
  .exact λw=>Js y a z w.symm
 refine⟨m,AQ.sameBut wj yw,λh' Gw=>?_⟩;exact⟨_,H',rE.turned (t':=W7.toks) (it:=C) (λb o A0 e=>(Gw.2 b A0).trans e) OO BW HA Js s6,q⟩
end
section
variable{X:Ac}{pins:List (A8×Obj)}{σ :St}{H H':AB}{s s':AP}{a:A8}{C Pq:A7}{B:BI}
end
section
variable{X:Ac}{x:Str}{np Bv pos ahQ:Pos}{C:A8}{ahN:List A7}{B newId ahv:String}{m:Str}{j:Nat}
end
noncomputable abbrev t4(a:A8)(C:A7):DN:=.ext λh=>∃ob,h.get? a=some ob/\ob.cls=C
section
variable{X:Ac}{pins:List (A8×Obj)}{σ :St}{H H':AB}{s s':AP}{a:A8}{C Pq:A7}{B:BI}{aiV:BI}
end
section
variable{X:Ac}{k:Nat}{f C:A8}{fd:GF}{Ai:List Str}{sp:AX}{E:DT}{x:Str}{p pos:Pos}{e:AU}{A4:List AU}{t:Ew}
end
section
variable{X:Ac}{pins:List (A8×Obj)}{σ :St}{H H':AB}{s s':AP}{a:A8}
end
section
variable{X:Ac}{i:Nat}{x n:Str}{W:A8}{e:AU}{E4:TE}{E:DT}{rz:Be}{aeR:List Be}{Aw:FT}{abR np AZ pos:Pos}
end
end Bs
namespace CP
open PySem Bs
inductive D where
 |non|AR (b:Bool)|int (i:Int)|str (x:Str)
 |tup (xs:μ)|lst (xs:μ)|D1 (xs:μ)
 |Df (ks:List Key) (xs:μ)|An (ks:List Bf) (xs:μ)
 |ins (c:Str) (ns:List Str) (xs:μ)
 |Md (c:Str)
 |Do (xs:μ)
def Sub(G H:AB):Prop:=∀b o,G b=some o->H b=some o
def Sub.refl(G:AB):Sub G G:=λ_ _ e=>e
def Sub.trans{G H I:AB}(a:Sub G H)(b:Sub H I):Sub G I:=λc o e=>b c o (a c o e)
def Sub.gone{G H:AB}(a:Sub G H){b:A8}(h:H b=none):G b=none:=by
 cases e:G b with
 |none=>rfl
 |some o=>rw[a b o e]at h;cases h
theorem Sub.upd{G:AB}{a:A8}{o:DN}(h:G a=none):Sub G (upd G a o):=λb u e=>by rw[Cy (KI e h)];exact e
def Sub.aK{G H:AB}{a:A8}{o:DN}(s:Sub G H)(h:G a=none):Sub G (Bs.upd H a o):=λb u e=>by rw[Cy (KI e h)];exact s b u e
def Sub.both{G H:AB}{a:A8}{o:DN}(s:Sub G H):Sub (Bs.upd G a o) (Bs.upd H a o):=λb u e=>by
 by_cases A0:b=a
 .subst A0;rw[Da]at e |-;exact e
 .rw[Cy A0]at e |-;exact s b u e
theorem Sub.at{G H:AB}{a:A8}{o:DN}(s:Sub G H)(h:H a=some o):Sub (Bs.upd G a o) H:=λb u e=>by
 by_cases A0:b=a
 .subst A0;rw[Da]at e;rw[h];exact e
 .rw[Cy A0]at e;exact s b u e
def H8(H:AB)(b:A8):Prop:=H b≠none/\∀xs,H b≠some (.tup xs)
structure C3(G H G' H':AB):Prop where
 g:Sub G G'
 h:Sub H H'
 n:∀b,H8 H b->G' b=G b
def Sub.some{G H:AB}(s:Sub G H){b:A8}(h:G b≠none):H b≠none:=λz=>h (s.gone z)
def Sub.JC{G H:AB}(s:Sub G H){b:A8}(h:H8 G b):H8 H b:=by
 cases e:G b with
 |none=>exact absurd e h.1
 |some o=>exact⟨s.some h.1,λxs z=>h.2 xs (e.trans ((s b o e).symm.trans z))⟩
def H8.of{H:AB}{b:A8}{o:DN}(e:H b=some o)(n:∀xs,o≠.tup xs):H8 H b:=⟨by rw[e];exact(λz=>nomatch z),λxs z=>n xs (Ey (e.symm.trans z))⟩
theorem C3.refl(G H:AB):C3 G H G H:=⟨Sub.refl _,Sub.refl _,λ_ _=>rfl⟩
theorem C3.trans{G H Ah H1 CL Am:AB}(a:C3 G H Ah H1)(b:C3 Ah H1 CL Am):C3 G H CL Am:=⟨a.g.trans b.g,a.h.trans b.h,λc AO=>(b.n c (a.h.JC AO)).trans (a.n c AO)⟩
def C3.lay{G H:AB}{p:A8}{o:DN}(s:Sub G H)(AZ:H p=none):C3 G H (Bs.upd G p o) (Bs.upd H p o):=⟨Sub.upd (s.gone AZ),Sub.upd AZ,λb A0=>by rw[Cy];intro e;subst e;exact A0.1 AZ⟩
def C3.lay0{G H:AB}{p:A8}{o:DN}(AZ:H p=none):C3 G H G (Bs.upd H p o):=⟨Sub.refl _,Sub.upd AZ,λ_ _=>rfl⟩
def C3.put{G H G' H':AB}{p:A8}{o:DN}(u:C3 G H G' H')(AZ:H p=none)(A_:G' p=none):C3 G H (Bs.upd G' p o) H':=⟨u.g.trans (Sub.upd A_),u.h,λb A0=>by
 rw[Cy]
 .exact u.n b A0
 .intro e;subst e;exact A0.1 AZ⟩
def Eo.mono{G H:AB}(s:Sub G H){a:A8}{u:DN}(r:Eo G a u):Eo H a u:=by
 rcases r with r|⟨o,r⟩
 .exact .inl (s _ _ r)
 .exact .inr ⟨o,s _ _ r⟩
theorem CA.mono{K:Aa}{G H:AB}(s:Sub G H){a:A8}{xs:List V}(r:CA K G a xs):CA K H a xs:=by
 rcases r with r|r
 .exact .inl (Eo.mono s r)
 .exact .inr r
theorem CT.mono{K:Aa}{G H:AB}(s:Sub G H){a:A8}{xs:List V}(r:CT K G a xs):CT K H a xs:=by
 rcases r with r|r
 .exact .inl (Eo.mono s r)
 .exact .inr r
def G1(K:Aa)(c:Str)(C:A8):Prop:=MF K FG c=some (some (.ref C))
mutual
noncomputable def At(K:Aa)(G:AB):D->V->Prop
 |.non,v=>v=.non
 |.AR b,v=>v=.AR b
 |.int i,v=>v=.int i
 |.str x,v=>v=.str x
 |.tup ds,v=>∃a xs,v=.ref a/\G a=some (.tup xs)/\AW K G ds xs
 |.Do ds,v=>∃a xs,v=.ref a/\CT K G a xs/\AW K G ds xs
 |.lst ds,v=>∃a xs,v=.ref a/\G a=some (.lst xs)/\AW K G ds xs
 |.D1 ds,v=>∃a xs,v=.ref a/\CA K G a xs/\AW K G ds xs
 |.Df ks ds,v=>∃a xs,v=.ref a/\G a=some (.Df xs)/\xs.map (·.1)=ks/\AW K G ds (xs.map (·.2))
 |.An ks ds,v=>∃a xs,v=.ref a/\G a=some (.An xs)/\xs.map (·.1)=ks/\AW K G ds (xs.map (·.2))
 |.ins c ns ds,v=>∃a Ag xs,v=.ref a/\(∃C,G1 K c C/\G a=some (.ins C Ag xs))/\xs.map (·.1)=ns/\AW K G ds (xs.map (·.2))
 |.Md c,v=>∃(a:A8)(xs:List V),v=.ref a/\(∃C,G1 K c C/\G a=some (t4 a (.ref C)))/\xs=[]
noncomputable def AW(K:Aa)(G:AB):μ->List V->Prop
 |[],vs=>vs=[]
 |d::ds,vs=>∃v r,vs=v::r/\At K G d v/\AW K G ds r
end
mutual
theorem At.mono{K:Aa}{G H:AB}(s:Sub G H):∀{d:D}{v:V},At K G d v->At K H d v
 |.non,_,h=>by simpa only[At]using h
 |.AR _,_,h=>by simpa only[At]using h
 |.int _,_,h=>by simpa only[At]using h
 |.str _,_,h=>by simpa only[At]using h
 |.tup _,_,h=>by erw[At]at h |-;obtain⟨a,xs,e,q,r⟩:=h;exact⟨a,xs,e,s _ _ q,AW.mono s r⟩
 |.Do _,_,h=>by erw[At]at h |-;obtain⟨a,xs,e,q,r⟩:=h;exact⟨a,xs,e,CT.mono s q,AW.mono s r⟩
 |.lst _,_,h=>by erw[At]at h |-;obtain⟨a,xs,e,q,r⟩:=h;exact⟨a,xs,e,s _ _ q,AW.mono s r⟩
 |.D1 _,_,h=>by erw[At]at h |-;obtain⟨a,xs,e,q,r⟩:=h;exact⟨a,xs,e,CA.mono s q,AW.mono s r⟩
 |.Df _ _,_,h=>by erw[At]at h |-;obtain⟨a,xs,e,q,k,r⟩:=h;exact⟨a,xs,e,s _ _ q,k,AW.mono s r⟩
 |.An _ _,_,h=>by erw[At]at h |-;obtain⟨a,xs,e,q,k,r⟩:=h;exact⟨a,xs,e,s _ _ q,k,AW.mono s r⟩
 |.ins _ _ _,_,h=>by erw[At]at h |-;obtain⟨a,Ag,xs,e,⟨C,BW,q⟩,k,r⟩:=h;exact⟨a,Ag,xs,e,⟨C,BW,s _ _ q⟩,k,AW.mono s r⟩
 |.Md _,_,h=>by erw[At]at h |-;obtain⟨a,xs,e,⟨C,BW,q⟩,r⟩:=h;exact⟨a,xs,e,⟨C,BW,s _ _ q⟩,r⟩
theorem AW.mono{K:Aa}{G H:AB}(s:Sub G H):∀{ds:μ}{vs:List V},AW K G ds vs->AW K H ds vs
 |[],_,h=>by simpa only[AW]using h
 |_::_,_,h=>by erw[AW]at h |-;obtain⟨v,r,e,q,t⟩:=h;exact⟨v,r,e,At.mono s q,AW.mono s t⟩
end
section
variable{K:Aa}{G:AB}
def AW.nil:AW K G [] []:=by erw[AW]
def AW.cons{d:D}{ds:μ}{v:V}{vs:List V}(h:At K G d v)(t:AW K G ds vs):AW K G (d::ds) (v::vs):=by erw[AW];exact⟨v,vs,rfl,h,t⟩
theorem AW.length:∀{ds:μ}{vs:List V},AW K G ds vs->ds.length=vs.length
 |[],_,h=>by erw[AW]at h;subst h;rfl
 |_::_,_,h=>by erw[AW]at h;obtain⟨v,r,rfl,_,t⟩:=h;simp[AW.length t]
theorem AW.get:∀{ds:μ}{vs:List V}{i:Nat}{d:D},AW K G ds vs->ds[i]?=some d->∃v,vs[i]?=some v/\At K G d v
 |[],_,_,_,_,e=>by simp at e
 |_::_,_,0,_,h,e=>by erw[AW]at h;obtain⟨v,r,rfl,q,t⟩:=h;simp at e;subst e;exact⟨v,γ,q⟩
 |_::_,_,i+1,d,h,e=>by erw[AW]at h;obtain⟨v,r,rfl,q,t⟩:=h;obtain⟨u,A6,AA⟩:=AW.get (i:=i) (d:=d) t (e:);exact⟨u,(A6:),AA⟩
def AW.V2{ds:μ}{vs:List V}{i:Nat}{v:V}(h:AW K G ds vs)(e:vs[i]?=some v):∃d,ds[i]?=some d/\At K G d v:=by
 have AC:i<ds.length:=by rw[h.length];exact(List.getElem?_eq_some_iff.mp e).1
 obtain⟨u,A6,AA⟩:=h.get (Dt AC);rw[e]at A6;cases A6;exact⟨_,Dt AC,AA⟩
theorem AW.append:∀{ds A4:μ}{vs ws:List V},AW K G ds vs->AW K G A4 ws->AW K G (ds++A4) (vs++ws)
 |[],_,_,_,h,t=>by erw[AW]at h;subst h;exact t
 |_::_,_,_,_,h,t=>by erw[AW]at h;obtain⟨v,r,rfl,q,s⟩:=h;exact .cons q (AW.append s t)
theorem AW.take:∀(n:Nat){ds:μ}{vs:List V},AW K G ds vs->AW K G (ds.take n) (vs.take n)
 |0,_,_,_=>(AW.nil:)
 |_+1,[],_,h=>by erw[AW]at h;subst h;simpa using AW.nil
 |n+1,_::_,_,h=>by erw[AW]at h;obtain⟨v,r,rfl,q,t⟩:=h;exact .cons q (AW.take n t)
theorem AW.drop:∀(n:Nat){ds:μ}{vs:List V},AW K G ds vs->AW K G (ds.drop n) (vs.drop n)
 |0,_,_,h=>(h:)
 |_+1,[],_,h=>by erw[AW]at h;subst h;simpa using AW.nil
 |n+1,_::_,_,h=>by erw[AW]at h;obtain⟨v,r,rfl,q,t⟩:=h;simpa using AW.drop n t
theorem AW.set{d:D}{v:V}(q:At K G d v):∀(n:Nat){ds:μ}{vs:List V},AW K G ds vs->AW K G (ds.set n d) (vs.set n v)
 |_,[],_,h=>by erw[AW]at h;subst h;simpa using AW.nil
 |0,_::_,_,h=>by erw[AW]at h;obtain⟨u,r,rfl,_,t⟩:=h;exact .cons q t
 |n+1,_::_,_,h=>by erw[AW]at h;obtain⟨u,r,rfl,p,t⟩:=h;exact .cons p (AW.set q n t)
def AW.snoc{ds:μ}{vs:List V}{d:D}{v:V}(h:AW K G ds vs)(q:At K G d v):AW K G (ds++[d]) (vs++[v]):=h.append (.cons q .nil)
end
inductive R(α:Type) where
 |ok (a:α)|exc (c:Str)|bad
namespace R
noncomputable def bind{α β:Type}:R α->(α->R β)->R β
 |.ok a,k=>k a
 |.exc c,_=>.exc c
 |.bad,_=>.bad
noncomputable def map{α β:Type}(f:α->β)(r:R α):R β:=r.bind λa=>.ok (f a)
def EU{α β:Type}(a:α)(k:α->R β):(R.ok a).bind k=k a:=rfl
end R
def rb{α β:Type}{P:R α->Prop}{Jj:R β->Prop}{r:R α}{k:α->R β}(h:Jj (r.bind k))(f:∀a,r=.ok a->Jj (k a)->P (.ok a))(A0:Jj .bad->P .bad:=by exact id)(AG:∀c,Jj (.exc c)->P (.exc c):=by exact λ_=>id):P r:=by
 cases r with
 |ok a=>exact f a rfl h
 |exc c=>exact AG c h
 |bad=>exact A0 h
inductive T where
 |A2 (d:D)|lst (Aw:List T)|Df (ks:List Key) (Aw:List T)|An (ks:List Bf) (Aw:List T)|ins (c:Str) (ns:List Str) (Aw:List T)
mutual
noncomputable def toD:T->D
 |.A2 d=>d
 |.lst Aw=>.lst (Mo Aw)
 |.Df ks Aw=>.Df ks (Mo Aw)
 |.An ks Aw=>.An ks (Mo Aw)
 |.ins c ns Aw=>.ins c ns (Mo Aw)
noncomputable def Mo:List T->μ
 |[]=>[]
 |t::Aw=>toD t::Mo Aw
end
mutual
noncomputable def Al(H:AB):T->V->List A8
 |.A2 _,_=>[]
 |.lst Aw,v=>match v with
  |.ref a=>match H a with
   |some (.lst xs)=>a::E6 H Aw xs
   |_=>[]
  |_=>[]
 |.Df _ Aw,v=>match v with
  |.ref a=>match H a with
   |some (.Df xs)=>a::E6 H Aw (xs.map (·.2))
   |_=>[]
  |_=>[]
 |.An _ Aw,v=>match v with
  |.ref a=>match H a with
   |some (.An xs)=>a::E6 H Aw (xs.map (·.2))
   |_=>[]
  |_=>[]
 |.ins _ _ Aw,v=>match v with
  |.ref a=>match H a with
   |some (.ins _ _ xs)=>a::E6 H Aw (xs.map (·.2))
   |_=>[]
  |_=>[]
noncomputable def E6(H:AB):List T->List V->List A8
 |[],_=>[]
 |t::Aw,vs=>match vs with
  |v::r=>Al H t v++E6 H Aw r
  |[]=>[]
end
mutual
noncomputable def Ch(K:Aa)(G H:AB):T->V->Prop
 |.A2 d,v=>At K G d v
 |.lst Aw,v=>∃a xs,v=.ref a/\H a=some (.lst xs)/\Bu K G H Aw xs
 |.Df ks Aw,v=>∃a xs,v=.ref a/\H a=some (.Df xs)/\xs.map (·.1)=ks/\Bu K G H Aw (xs.map (·.2))
 |.An ks Aw,v=>∃a xs,v=.ref a/\H a=some (.An xs)/\xs.map (·.1)=ks/\Bu K G H Aw (xs.map (·.2))
 |.ins c ns Aw,v=>∃a Ag xs,v=.ref a/\(∃C,G1 K c C/\H a=some (.ins C Ag xs))/\xs.map (·.1)=ns/\Bu K G H Aw (xs.map (·.2))
noncomputable def Bu(K:Aa)(G H:AB):List T->List V->Prop
 |[],vs=>vs=[]
 |t::Aw,vs=>∃v r,vs=v::r/\Ch K G H t v/\Bu K G H Aw r
end
section
variable{K:Aa}{G G' H H' P:AB}
def SI{a:A8}{xs:List V}{Aw:List T}(q:H a=some (.lst xs)):Al H (.lst Aw) (.ref a)=a::E6 H Aw xs:=by erw[Al,q]
def TN{a:A8}{xs:List (Key×V)}{ks:List Key}{Aw:List T}(q:H a=some (.Df xs)):Al H (.Df ks Aw) (.ref a)=a::E6 H Aw (xs.map (·.2)):=by erw[Al,q]
def Me{a:A8}{xs:List (Bf×V)}{ks:List Bf}{Aw:List T}(q:H a=some (.An xs)):Al H (.An ks Aw) (.ref a)=a::E6 H Aw (xs.map (·.2)):=by erw[Al,q]
def Lh{a C:A8}{Ag}{xs:List (Str×V)}{c:Str}{ns:List Str}{Aw:List T}(q:H a=some (.ins C Ag xs)):Al H (.ins c ns Aw) (.ref a)=a::E6 H Aw (xs.map (·.2)):=by erw[Al,q]
def Ho{t:T}{Aw:List T}{v:V}{r:List V}:E6 H (t::Aw) (v::r)=Al H t v++E6 H Aw r:=by erw[E6]
def TM{vs:List V}:E6 H [] vs=[]:=by erw[E6]
mutual
theorem Ch.mono(BH:Sub G G'):∀{t:T}{v:V},Ch K G H t v->Ch K G' H t v
 |.A2 _,_,h=>by erw[Ch]at h |-;exact h.mono BH
 |.lst _,_,h=>by erw[Ch]at h |-;obtain⟨a,xs,e,q,r⟩:=h;exact⟨a,xs,e,q,Bu.mono BH r⟩
 |.Df _ _,_,h=>by erw[Ch]at h |-;obtain⟨a,xs,e,q,n,r⟩:=h;exact⟨a,xs,e,q,n,Bu.mono BH r⟩
 |.An _ _,_,h=>by erw[Ch]at h |-;obtain⟨a,xs,e,q,n,r⟩:=h;exact⟨a,xs,e,q,n,Bu.mono BH r⟩
 |.ins _ _ _,_,h=>by erw[Ch]at h |-;obtain⟨a,Ag,xs,e,q,n,r⟩:=h;exact⟨a,Ag,xs,e,q,n,Bu.mono BH r⟩
theorem Bu.mono(BH:Sub G G'):∀{Aw:List T}{vs:List V},Bu K G H Aw vs->Bu K G' H Aw vs
 |[],_,h=>by simpa only[Bu]using h
 |_::_,_,h=>by erw[Bu]at h |-;obtain⟨v,r,e,q,t⟩:=h;exact⟨v,r,e,Ch.mono BH q,Bu.mono BH t⟩
end
mutual
theorem Ch.keep:∀{t:T}{v:V},(∀b∈Al H t v,H' b=H b)->Ch K G H t v->Ch K G H' t v/\Al H' t v=Al H t v
 |.A2 _,_,_,h=>by erw[Ch]at h;exact⟨by erw[Ch];exact h,by erw[Al]⟩
 |.lst _,_,k,h=>by erw[Ch]at h;obtain⟨a,xs,rfl,q,r⟩:=h;rw[SI q]at k;have Mm:H' a=some (.lst xs):=(k a γ).trans q;obtain⟨AK,B7⟩:=Bu.keep (λb A0=>k b (Fk _ A0)) r;exact⟨by erw[Ch];exact⟨a,xs,rfl,Mm,AK⟩,by rw[SI Mm,SI q,B7]⟩
 |.Df _ _,_,k,h=>by erw[Ch]at h;obtain⟨a,xs,rfl,q,n,r⟩:=h;rw[TN q]at k;have Mm:H' a=some (.Df xs):=(k a γ).trans q;obtain⟨AK,B7⟩:=Bu.keep (λb A0=>k b (Fk _ A0)) r;exact⟨by erw[Ch];exact⟨a,xs,rfl,Mm,n,AK⟩,by rw[TN Mm,TN q,B7]⟩
 |.An _ _,_,k,h=>by erw[Ch]at h;obtain⟨a,xs,rfl,q,n,r⟩:=h;rw[Me q]at k;have Mm:H' a=some (.An xs):=(k a γ).trans q;obtain⟨AK,B7⟩:=Bu.keep (λb A0=>k b (Fk _ A0)) r;exact⟨by erw[Ch];exact⟨a,xs,rfl,Mm,n,AK⟩,by rw[Me Mm,Me q,B7]⟩
 |.ins _ _ _,_,k,h=>by erw[Ch]at h;obtain⟨a,Ag,xs,rfl,⟨C,BW,q⟩,n,r⟩:=h;rw[Lh q]at k;have Mm:H' a=some (.ins C Ag xs):=(k a γ).trans q;obtain⟨AK,B7⟩:=Bu.keep (λb A0=>k b (Fk _ A0)) r;exact⟨by erw[Ch];exact⟨a,Ag,xs,rfl,⟨C,BW,Mm⟩,n,AK⟩,by rw[Lh Mm,Lh q,B7]⟩
theorem Bu.keep:∀{Aw:List T}{vs:List V},(∀b∈E6 H Aw vs,H' b=H b)->Bu K G H Aw vs->Bu K G H' Aw vs/\E6 H' Aw vs=E6 H Aw vs
 |[],_,_,h=>⟨by simpa only[Bu]using h,by erw[E6]⟩
 |_::_,_,k,h=>by erw[Bu]at h;obtain⟨v,r,rfl,q,t⟩:=h;rw[Ho]at k;obtain⟨Ak,BC⟩:=Ch.keep (λb A0=>k b (FZ _ A0)) q;obtain⟨t1,DI⟩:=Bu.keep (λb A0=>k b (Fz _ A0)) t;exact⟨by erw[Bu];exact⟨v,r,rfl,Ak,t1⟩,by rw[Ho,Ho,BC,DI]⟩
end
mutual
theorem Ch.some:∀{t:T}{v:V},Ch K G H t v->∀b∈Al H t v,H b≠none
 |.A2 _,_,_=>by intro b A0;simp[Al]at A0
 |.lst _,_,h=>by
  erw[Ch]at h;obtain⟨a,xs,rfl,q,r⟩:=h;rw[SI q];intro b A0;rcases List.mem_cons.mp A0 with rfl|A0
  .rw[q];exact λz=>nomatch z
  .exact Bu.some r b A0
 |.Df _ _,_,h=>by
  erw[Ch]at h;obtain⟨a,xs,rfl,q,n,r⟩:=h;rw[TN q];intro b A0;rcases List.mem_cons.mp A0 with rfl|A0
  .rw[q];exact λz=>nomatch z
  .exact Bu.some r b A0
 |.An _ _,_,h=>by
  erw[Ch]at h;obtain⟨a,xs,rfl,q,n,r⟩:=h;rw[Me q];intro b A0;rcases List.mem_cons.mp A0 with rfl|A0
  .rw[q];exact λz=>nomatch z
  .exact Bu.some r b A0
 |.ins _ _ _,_,h=>by
  erw[Ch]at h;obtain⟨a,Ag,xs,rfl,⟨C,BW,q⟩,n,r⟩:=h;rw[Lh q];intro b A0;rcases List.mem_cons.mp A0 with rfl|A0
  .rw[q];exact λz=>nomatch z
  .exact Bu.some r b A0
theorem Bu.some:∀{Aw:List T}{vs:List V},Bu K G H Aw vs->∀b∈E6 H Aw vs,H b≠none
 |[],_,_=>by intro b A0;simp[E6]at A0
 |_::_,_,h=>by
  erw[Bu]at h;obtain⟨v,r,rfl,q,t⟩:=h;rw[Ho];intro b A0;rcases List.mem_append.mp A0 with A0|A0
  .exact Ch.some q b A0
  .exact Bu.some t b A0
end
mutual
theorem Ch.JC:∀{t:T}{v:V},Ch K G H t v->∀b∈Al H t v,H8 H b
 |.A2 _,_,_=>by intro b A0;simp[Al]at A0
 |.lst _,_,h=>by
  erw[Ch]at h;obtain⟨a,xs,rfl,q,r⟩:=h;rw[SI q];intro b A0;rcases List.mem_cons.mp A0 with rfl|A0
  .exact .of q λ_ z=>nomatch z
  .exact Bu.JC r b A0
 |.Df _ _,_,h=>by
  erw[Ch]at h;obtain⟨a,xs,rfl,q,n,r⟩:=h;rw[TN q];intro b A0;rcases List.mem_cons.mp A0 with rfl|A0
  .exact .of q λ_ z=>nomatch z
  .exact Bu.JC r b A0
 |.An _ _,_,h=>by
  erw[Ch]at h;obtain⟨a,xs,rfl,q,n,r⟩:=h;rw[Me q];intro b A0;rcases List.mem_cons.mp A0 with rfl|A0
  .exact .of q λ_ z=>nomatch z
  .exact Bu.JC r b A0
 |.ins _ _ _,_,h=>by
  erw[Ch]at h;obtain⟨a,Ag,xs,rfl,⟨C,BW,q⟩,n,r⟩:=h;rw[Lh q];intro b A0;rcases List.mem_cons.mp A0 with rfl|A0
  .exact .of q λ_ z=>nomatch z
  .exact Bu.JC r b A0
theorem Bu.JC:∀{Aw:List T}{vs:List V},Bu K G H Aw vs->∀b∈E6 H Aw vs,H8 H b
 |[],_,_=>by intro b A0;simp[E6]at A0
 |_::_,_,h=>by
  erw[Bu]at h;obtain⟨v,r,rfl,q,t⟩:=h;rw[Ho];intro b A0;rcases List.mem_append.mp A0 with A0|A0
  .exact Ch.JC q b A0
  .exact Bu.JC t b A0
end
mutual
theorem Ch.view(BH:Sub G P):∀{t:T}{v:V},(∀a∈Al H t v,P a=H a)->Ch K G H t v->At K P (toD t) v
 |.A2 _,_,_,h=>by erw[Ch,toD]at h |-;exact h.mono BH
 |.lst _,_,k,h=>by erw[Ch]at h;obtain⟨a,xs,rfl,q,r⟩:=h;rw[SI q]at k;erw[toD,At];exact⟨a,xs,rfl,by rw[k a γ];exact q,Bu.view BH (λb A0=>k b (Fk _ A0)) r⟩
 |.Df _ _,_,k,h=>by erw[Ch]at h;obtain⟨a,xs,rfl,q,n,r⟩:=h;rw[TN q]at k;erw[toD,At];exact⟨a,xs,rfl,by rw[k a γ];exact q,n,Bu.view BH (λb A0=>k b (Fk _ A0)) r⟩
 |.An _ _,_,k,h=>by erw[Ch]at h;obtain⟨a,xs,rfl,q,n,r⟩:=h;rw[Me q]at k;erw[toD,At];exact⟨a,xs,rfl,by rw[k a γ];exact q,n,Bu.view BH (λb A0=>k b (Fk _ A0)) r⟩
 |.ins _ _ _,_,k,h=>by erw[Ch]at h;obtain⟨a,Ag,xs,rfl,⟨C,BW,q⟩,n,r⟩:=h;rw[Lh q]at k;erw[toD,At];exact⟨a,Ag,xs,rfl,⟨C,BW,by rw[k a γ];exact q⟩,n,Bu.view BH (λb A0=>k b (Fk _ A0)) r⟩
theorem Bu.view(BH:Sub G P):∀{Aw:List T}{vs:List V},(∀a∈E6 H Aw vs,P a=H a)->Bu K G H Aw vs->AW K P (Mo Aw) vs
 |[],_,_,h=>by erw[Bu,Mo,AW]at h |-;exact h
 |_::_,_,k,h=>by erw[Bu]at h;obtain⟨v,r,rfl,q,t⟩:=h;rw[Ho]at k;erw[Mo,AW];exact⟨v,r,rfl,Ch.view BH (λb A0=>k b (FZ _ A0)) q,Bu.view BH (λb A0=>k b (Fz _ A0)) t⟩
end
end
inductive L7 where
 |lst (ds:μ)|An (ks:List Bf) (ds:μ)|ins (c:Str) (ns:List Str) (ds:μ)
noncomputable def Ov(K:Aa)(G:AB):L7->DN->Prop
 |.lst ds,ho=>∃xs,ho=.lst xs/\AW K G ds xs
 |.An ks ds,ho=>∃xs,ho=.An xs/\xs.map (·.1)=ks/\AW K G ds (xs.map (·.2))
 |.ins c ns ds,ho=>∃C Ag xs,G1 K c C/\ho=.ins C Ag xs/\xs.map (·.1)=ns/\AW K G ds (xs.map (·.2))
theorem Ov.mono{K:Aa}{G H:AB}(s:Sub G H):∀{o:L7}{ho:DN},Ov K G o ho->Ov K H o ho
 |.lst _,_,⟨xs,e,q⟩=>⟨xs,e,q.mono s⟩
 |.An _ _,_,⟨xs,e,k,q⟩=>⟨xs,e,k,q.mono s⟩
 |.ins _ _ _,_,⟨C,Ag,xs,c,e,k,q⟩=>⟨C,Ag,xs,c,e,k,q.mono s⟩
noncomputable def JX:L7->D
 |.lst ds=>.lst ds
 |.An ks ds=>.An ks ds
 |.ins c ns ds=>.ins c ns ds
def Ov.at{K:Aa}{G:AB}{o:L7}{ho:DN}{a:A8}(h:Ov K G o ho)(e:G a=some ho):At K G (JX o) (.ref a):=by
 cases o with
 |lst ds=>obtain⟨xs,rfl,q⟩:=h;erw[JX,At];exact⟨a,xs,rfl,e,q⟩
 |An ks ds=>obtain⟨xs,rfl,k,q⟩:=h;erw[JX,At];exact⟨a,xs,rfl,e,k,q⟩
 |ins c ns ds=>obtain⟨C,Ag,xs,BW,rfl,k,q⟩:=h;erw[JX,At];exact⟨a,Ag,xs,rfl,⟨C,BW,e⟩,k,q⟩
inductive Bb where
 |un|A2 (d:D)|ob (o:L7)|Eg (t:T)|Bg (k:Nat) (t:T)
noncomputable abbrev Bb.Bm(ds:μ):Bb:=.ob (.lst ds)
abbrev AI:=List Bb
structure BA where
 K:Aa
 G0:AB
 H0:AB
 EX:Str->AB->Prop
 pin:Nat->Option V
noncomputable def IK:Nat->Option V:=λ_=>none
structure FR(F:BA)(G H:AB):Prop where
 sub:Sub G H
 EJ:Sub F.G0 G
 B4:Sub F.H0 H
 new:∀b,H8 F.H0 b->G b=F.G0 b
structure MY(F:BA)(G H:AB)(t:T)(v:V):Prop where
 at_:Ch F.K G H t v
 Cs:(Al H t v).Nodup
 own:∀b∈Al H t v,G b=none/\F.H0 b=none
noncomputable def Ia(F:BA)(G H:AB)(o:Option V):Bb->Prop
 |.un=>True
 |.A2 d=>∃v,o=some v/\At F.K G d v
 |.ob ob=>∃a ho,o=some (.ref a)/\H a=some ho/\G a=none/\F.H0 a=none/\Ov F.K G ob ho
 |.Eg t=>∃v,o=some v/\MY F G H t v
 |.Bg k t=>∃v,o=some v/\MY F G H t v/\F.pin k=some v
def Ez(H:AB):Bb->Option V->A8->Prop
 |.un,_,_=>False
 |.A2 _,_,_=>False
 |.ob _,o,a=>o=some (.ref a)
 |.Eg t,o,a=>∃v,o=some v/\a∈Al H t v
 |.Bg _ t,o,a=>∃v,o=some v/\a∈Al H t v
structure Rel(F:BA)(G H:AB)(σ :St)(ρ:AI):Prop where
 kp:FR F G H
 len: σ.length=ρ.length
 C2:∀(i:Nat)(s:Bb),ρ[i]?=some s->∃o,σ[i]?=some o/\Ia F G H o s
 LF:∀(i j:Nat)(a:A8)(s s':Bb)(o o':Option V),ρ[i]?=some s->ρ[j]?=some s'-> σ[i]?=some o-> σ[j]?=some o'->Ez H s o a->Ez H s' o' a->i=j
def Cc(H:AB)(σ :St)(ρ:AI)(a:A8):Prop:=∃(i:Nat)(s:Bb)(o:Option V),ρ[i]?=some s/\ σ[i]?=some o/\Ez H s o a
def nv{α:Type}{l:List α}{i:Nat}{x:α}(e:l[i]?=some x):l.set i x=l:=by
 apply fh;intro j;rw[fi];by_cases h:i=j
 .subst h;rw[if_pos rfl,if_pos (List.getElem?_eq_some_iff.mp e).1];exact e.symm
 .simp[h]
section
variable{F:BA}{G G' H H':AB}{σ :St}{ρ:AI}
theorem Cc.ob{a:A8}{i:Nat}{o:L7}(A9:ρ[i]?=some (.ob o))(AH: σ[i]?=some (some (.ref a))):Cc H σ ρ a:=⟨i,_,_,A9,AH,rfl⟩
theorem Ia.keep{o:Option V}{s:Bb}(h:Ia F G H o s)(BH:Sub G G')(k:∀a,Ez H s o a->H' a=H a/\G' a=none):Ia F G' H' o s/\(∀a,Ez H' s o a->Ez H s o a):=by
 cases s with
 |un=>exact⟨trivial,λ_ z=>z⟩
 |A2 d=>obtain⟨v,AH,a⟩:=h;exact⟨⟨v,AH,a.mono BH⟩,λ_ z=>z⟩
 |ob ds=>obtain⟨a,xs,AH,A6,AA,Ao,BG⟩:=h;exact⟨⟨a,xs,AH,by rw[(k a AH).1];exact A6,(k a AH).2,Ao,BG.mono BH⟩,λ_ z=>z⟩
 |Eg t=>
  obtain⟨v,AH,Ak,BC,EB⟩:=h;obtain⟨FC,Et⟩:=Ak.keep λb A0=>(k b ⟨v,AH,A0⟩).1;refine⟨⟨v,AH,⟨FC.mono BH,by rw[Et];exact BC,λb A0=>?_⟩⟩,λa z=>?_⟩
  .rw[Et]at A0;exact⟨(k b ⟨v,AH,A0⟩).2,(EB b A0).2⟩
  .obtain⟨u,Au,A0⟩:=z;rw[AH]at Au;cases Au;rw[Et]at A0;exact⟨v,AH,A0⟩
 |Bg n t=>
  obtain⟨v,AH,⟨Ak,BC,EB⟩,AZ⟩:=h;obtain⟨FC,Et⟩:=Ak.keep λb A0=>(k b ⟨v,AH,A0⟩).1;refine⟨⟨v,AH,⟨FC.mono BH,by rw[Et];exact BC,λb A0=>?_⟩,AZ⟩,λa z=>?_⟩
  .rw[Et]at A0;exact⟨(k b ⟨v,AH,A0⟩).2,(EB b A0).2⟩
  .obtain⟨u,Au,A0⟩:=z;rw[AH]at Au;cases Au;rw[Et]at A0;exact⟨v,AH,A0⟩
def Ia.foot{o:Option V}{s:Bb}(h:Ia F G H o s){a:A8}(f:Ez H s o a):H a≠none/\G a=none/\F.H0 a=none:=by
 cases s with
 |un=>cases f
 |A2 d=>cases f
 |ob ds=>obtain⟨b,xs,AH,A6,AA,Ao,BG⟩:=h;have f:o=some (.ref a):=f;rw[AH]at f;cases f;exact⟨by rw[A6];exact(λz=>nomatch z),AA,Ao⟩
 |Eg t=>obtain⟨v,AH,Ak,BC,EB⟩:=h;obtain⟨u,Au,A0⟩:=f;rw[AH]at Au;cases Au;exact⟨Ak.some a A0,EB a A0⟩
 |Bg n t=>obtain⟨v,AH,⟨Ak,BC,EB⟩,_⟩:=h;obtain⟨u,Au,A0⟩:=f;rw[AH]at Au;cases Au;exact⟨Ak.some a A0,EB a A0⟩
def Ia.Vi{o:Option V}{s:Bb}{a:A8}(h:Ia F G H o s)(f:Ez H s o a):H8 H a:=by
 cases s with
 |un=>cases f
 |A2 _=>cases f
 |ob ob=>
  obtain⟨b,ho,AH,A6,_,_,BG⟩:=h;have Au:o=some (.ref a):=f;rw[AH]at Au;cases Au;cases ob with
  |lst _=>obtain⟨xs,rfl,_⟩:=BG;exact .of A6 λ_ z=>nomatch z
  |An _ _=>obtain⟨xs,rfl,_⟩:=BG;exact .of A6 λ_ z=>nomatch z
  |ins _ _ _=>obtain⟨C,Ag,xs,_,rfl,_⟩:=BG;exact .of A6 λ_ z=>nomatch z
 |Eg t=>obtain⟨v,AH,Ak,BC,EB⟩:=h;obtain⟨u,Au,A0⟩:=f;rw[AH]at Au;cases Au;exact Ak.JC a A0
 |Bg n t=>obtain⟨v,AH,⟨Ak,BC,EB⟩,_⟩:=h;obtain⟨u,Au,A0⟩:=f;rw[AH]at Au;cases Au;exact Ak.JC a A0
theorem Rel.Vi(r:Rel F G H σ ρ){a:A8}(h:Cc H σ ρ a):H8 H a:=by obtain⟨i,s,o,A9,AH,f⟩:=h;obtain⟨o',Au,q⟩:=r.C2 i s A9;rw[AH]at Au;cases Au;exact q.Vi f
theorem Rel.foot(r:Rel F G H σ ρ){a:A8}(h:Cc H σ ρ a):H a≠none/\G a=none/\F.H0 a=none:=by obtain⟨i,s,o,A9,AH,f⟩:=h;obtain⟨o',Au,q⟩:=r.C2 i s A9;rw[AH]at Au;cases Au;exact q.foot f
def Rel.over{F':BA}(r:Rel F G H σ ρ)(Ap:F'.K=F.K)(kp:FR F' G' H')(BH:Sub G G')(k:∀a,Cc H σ ρ a->H' a=H a/\G' a=none/\F'.H0 a=none)(DF:F'.pin=F.pin:=by rfl):Rel F' G' H' σ ρ:=by
 have one:∀(i:Nat)(s:Bb),ρ[i]?=some s->∃o,σ[i]?=some o/\Ia F' G' H' o s/\(∀a,Ez H' s o a->Ez H s o a):=λi s e=>by
  obtain⟨o,A9,q⟩:=r.C2 i s e;obtain⟨Ak,BC⟩:=q.keep BH λa f=>⟨(k a ⟨i,s,o,e,A9,f⟩).1,(k a ⟨i,s,o,e,A9,f⟩).2.1⟩;refine⟨o,A9,?_,BC⟩;cases s with
  |un=>trivial
  |A2 d=>obtain⟨v,AH,a⟩:=Ak;exact⟨v,AH,by rw[Ap];exact a⟩
  |ob ds=>obtain⟨a,xs,AH,A6,AA,Ao,BG⟩:=Ak;exact⟨a,xs,AH,A6,AA,(k a ⟨i,_,o,e,A9,AH⟩).2.2,by rw[Ap];exact BG⟩
  |Eg t=>obtain⟨v,AH,FC,Et,Jc⟩:=Ak;exact⟨v,AH,by rw[Ap];exact FC,Et,λb A0=>⟨(Jc b A0).1,(k b ⟨i,_,o,e,A9,BC b ⟨v,AH,A0⟩⟩).2.2⟩⟩
  |Bg n t=>obtain⟨v,AH,⟨FC,Et,Jc⟩,Wh⟩:=Ak;exact⟨v,AH,⟨by rw[Ap];exact FC,Et,λb A0=>⟨(Jc b A0).1,(k b ⟨i,_,o,e,A9,BC b ⟨v,AH,A0⟩⟩).2.2⟩⟩,by rw[DF];exact Wh⟩
 refine⟨kp,r.len,λi s e=>let⟨o,A9,q,_⟩:=one i s e;⟨o,A9,q⟩,λi j a s s' o o' A9 AH Au CH f1 f2=>?_⟩;obtain⟨u,Db,_,Dj⟩:=one i s A9;rw[Au]at Db;cases Db;obtain⟨u,Q7,_,SZ⟩:=one j s' AH;rw[CH]at Q7;cases Q7;exact r.LF i j a s s' o o' A9 AH Au CH (Dj a f1) (SZ a f2)
def Rel.grow(r:Rel F G H σ ρ)(BH:Sub G G')(Hv:Sub G' H')(B4:Sub H H')(nw:∀b,H8 H b->G' b=G b):Rel F G' H' σ ρ:=by
 refine r.over rfl ⟨Hv,r.kp.EJ.trans BH,r.kp.B4.trans B4,λb A0=>?_⟩ BH λa AD=>?_
 .rw[nw b (r.kp.B4.JC A0)];exact r.kp.new b A0
 .obtain⟨A6,AA,Ao⟩:=r.foot AD;refine⟨?_,(nw a (r.Vi AD)).trans AA,Ao⟩;cases e:H a with
  |none=>exact absurd e A6
  |some o=>exact B4 a o e
def Rel.lay(r:Rel F G H σ ρ){p:A8}{o:DN}(AZ:H p=none):Rel F (upd G p o) (upd H p o) σ ρ:=by have RX:G p=none:=r.kp.sub.gone AZ;refine r.grow (Sub.upd RX) (Sub.both r.kp.sub) (Sub.upd AZ) λb A0=>?_;rw[Cy];intro e;subst e;exact A0.1 AZ
def Rel.lay0(r:Rel F G H σ ρ){p:A8}{o:DN}(AZ:H p=none):Rel F G (upd H p o) σ ρ:=
 r.grow (Sub.refl _) (Sub.aK r.kp.sub (r.kp.sub.gone AZ)) (Sub.upd AZ) λ_ _=>rfl
def Rel.take(r:Rel F G H σ ρ){p:A8}{o:DN}(AZ:H p=some o)(A_:G p=none)(h0:F.H0 p=none)(no:¬Cc H σ ρ p):Rel F (upd G p o) H σ ρ:=by
 refine r.over rfl ⟨Sub.at r.kp.sub AZ,r.kp.EJ.trans (Sub.upd A_),r.kp.B4,λb A0=>?_⟩ (Sub.upd A_) λa AD=>?_
 .rw[Cy]
  .exact r.kp.new b A0
  .intro e;subst e;exact A0.1 h0
 .obtain⟨A6,AA,Ao⟩:=r.foot AD;exact⟨rfl,by rw[Cy (λz=>no (by rw[<-z];exact AD))];exact AA,Ao⟩
theorem Rel.A2(r:Rel F G H σ ρ){i:Nat}{d:D}(e:ρ[i]?=some (.A2 d)):∃v,σ[i]?=some (some v)/\At F.K G d v:=by obtain⟨o,A9,v,rfl,a⟩:=r.C2 i _ e;exact⟨v,A9,a⟩
def Rel.obj(r:Rel F G H σ ρ){i:Nat}{o:L7}(e:ρ[i]?=some (.ob o)):∃a ho,σ[i]?=some (some (.ref a))/\H a=some ho/\G a=none/\F.H0 a=none/\Ov F.K G o ho:=by obtain⟨v,A9,a,ho,rfl,A6,AA,Ao,BG⟩:=r.C2 i _ e;exact⟨a,ho,A9,A6,AA,Ao,BG⟩
def Rel.own{G H:AB}{σ :St}{ρ:AI}(r:Rel F G H σ ρ){i:Nat}{ds:μ}(e:ρ[i]?=some (.Bm ds)):∃a xs,σ[i]?=some (some (.ref a))/\H a=some (.lst xs)/\G a=none/\F.H0 a=none/\AW F.K G ds xs:=by obtain⟨a,ho,A9,A6,AA,Ao,xs,rfl,BG⟩:=r.obj e;exact⟨a,xs,A9,A6,AA,Ao,BG⟩
def get_set{α:Type}{l:List α}{i j:Nat}{x y:α}(e:(l.set i x)[j]?=some y):(i=j/\y=x)\/(i≠j/\l[j]?=some y):=by
 rw[fi]at e;by_cases h:i=j
 .rw[if_pos h]at e
  split at e
  .cases e;exact .inl ⟨h,rfl⟩
  .cases e
 .rw[if_neg h]at e;exact .inr ⟨h,e⟩
def Rel.am(r:Rel F G H σ ρ){i:Nat}{s:Bb}{o:Option V}(AC:i<ρ.length)(q:Ia F G H o s)(no:∀a,Ez H s o a->∀(j:Nat)(s':Bb)(o':Option V),j≠i->ρ[j]?=some s'-> σ[j]?=some o'->¬Ez H s' o' a):Rel F G H (σ.set i o) (ρ.set i s):=by
 have AJ:i< σ.length:=by rw[r.len];exact AC
 refine⟨r.kp,by simp[r.len],λj s e=>?_,λj k b s1 s2 D0 D3 A9 AH Au CH f1 f2=>?_⟩
 .rcases get_set e with⟨rfl,rfl⟩|⟨ne,e⟩
  .exact⟨o,by simp[AJ],q⟩
  .rw[Sd ne];exact r.C2 j s e
 .rcases get_set A9 with⟨Bd,Db⟩|⟨Cv,I9⟩
  .subst Bd Db;rw[X0 AJ]at Au;cases Au;rcases get_set AH with⟨C1,Dj⟩|⟨D8,Iq⟩
   .exact C1
   .rw[Sd D8]at CH;exact absurd f2 (no b f1 k s2 D3 (Hi D8) Iq CH)
  .rw[Sd Cv]at Au;rcases get_set AH with⟨C1,Dj⟩|⟨D8,Iq⟩
   .subst C1 Dj;rw[X0 AJ]at CH;cases CH;exact absurd f1 (no b f2 j s1 D0 (Hi Cv) I9 Au)
   .rw[Sd D8]at CH;exact r.LF j k b s1 s2 D0 D3 I9 Iq Au CH f1 f2
theorem Rel.set(r:Rel F G H σ ρ){i:Nat}{d:D}{v:V}(AC:i<ρ.length)(a:At F.K G d v):Rel F G H (σ.set i (some v)) (ρ.set i (.A2 d)):=
 r.am AC ⟨v,rfl,a⟩ λ_ f=>f.elim
def Rel.setB(r:Rel F G H σ ρ){i:Nat}{ob:L7}{a:A8}{ho:DN}(AC:i<ρ.length)(AD:H a=some ho)(A_:G a=none)(h0:F.H0 a=none)(q:Ov F.K G ob ho)(no:∀(j:Nat)(s:Bb)(o:Option V),j≠i->ρ[j]?=some s-> σ[j]?=some o->¬Ez H s o a):Rel F G H (σ.set i (some (.ref a))) (ρ.set i (.ob ob)):=
 r.am AC ⟨a,ho,rfl,AD,A_,h0,q⟩ λb f=>by have f:some (V.ref a)=some (.ref b):=f;cases f;exact no
def Rel.nr(r:Rel F G H σ ρ){i:Nat}{ds:μ}{a:A8}{xs:List V}(AC:i<ρ.length)(AD:H a=some (.lst xs))(A_:G a=none)(h0:F.H0 a=none)(q:AW F.K G ds xs)(no:∀(j:Nat)(s:Bb)(o:Option V),j≠i->ρ[j]?=some s-> σ[j]?=some o->¬Ez H s o a):Rel F G H (σ.set i (some (.ref a))) (ρ.set i (.Bm ds)):=r.setB AC AD A_ h0 ⟨xs,rfl,q⟩ no
def Rel.di(r:Rel F G H σ ρ){i:Nat}{s s':Bb}{o:Option V}{a:A8}{ho:DN}(e:ρ[i]?=some s)(As: σ[i]?=some o)(G6:Ez H s o a)(q:Ia F G (upd H a ho) o s')(f:∀b,Ez (upd H a ho) s' o b->Ez H s o b\/¬Cc H σ ρ b) :
  Rel F G (upd H a ho) σ (ρ.set i s'):=by
 have AC:i<ρ.length:=(List.getElem?_eq_some_iff.mp e).1;obtain⟨A6,AA,Ao⟩:=r.foot ⟨i,s,o,e,As,G6⟩;have JD:∀(j:Nat)(t:Bb),i≠j->ρ[j]?=some t->∃u,σ[j]?=some u/\Ia F G (upd H a ho) u t/\(∀b,Ez (upd H a ho) t u b->Ez H t u b):=λj t ne z=>by obtain⟨u,Db,Dj⟩:=r.C2 j t z;have na:¬Ez H t u a:=λw=>ne (r.LF i j a s t o u e z As Db G6 w);obtain⟨Ak,BC⟩:=Dj.keep (H':=upd H a ho) (Sub.refl G) λb LI=>⟨Cy λw=>na (w▸LI),(Dj.foot LI).2.1⟩;exact⟨u,Db,Ak,BC⟩
 refine⟨⟨Sub.aK r.kp.sub AA,r.kp.EJ,λc u z=>?_,r.kp.new⟩,by simp[r.len],λj t z=>?_,λj k c s1 s2 D0 D3 Au CH F1 Py f1 f2=>?_⟩
 .rw[Cy (KI z Ao)];exact r.kp.B4 c u z
 .rcases get_set z with⟨rfl,rfl⟩|⟨ne,z⟩
  .exact⟨o,As,q⟩
  .obtain⟨u,Db,Dj,_⟩:=JD j t ne z;exact⟨u,Db,Dj⟩
 .rcases get_set Au with⟨Bd,Db⟩|⟨Cv,GZ⟩
  .subst Bd Db;rw[As]at F1;cases F1;rcases get_set CH with⟨C1,Dj⟩|⟨D8,Ip⟩
   .exact C1
   .obtain⟨u,I9,_,Iq⟩:=JD k s2 D8 Ip;rw[Py]at I9;cases I9;have g2:=Iq c f2;rcases f c f1 with g1|g1
    .exact r.LF i k c s s2 o D3 e Ip As Py g1 g2
    .exact absurd ⟨k,s2,D3,Ip,Py,g2⟩ g1
  .obtain⟨u,I9,_,Iq⟩:=JD j s1 Cv GZ;rw[F1]at I9;cases I9;have g1:=Iq c f1;rcases get_set CH with⟨C1,Dj⟩|⟨D8,Ip⟩
   .subst C1 Dj;rw[As]at Py;cases Py;rcases f c f2 with g2|g2
    .exact r.LF j i c s1 s D0 o GZ e F1 As g1 g2
    .exact absurd ⟨j,s1,D0,GZ,F1,g1⟩ g2
   .obtain⟨u,SY,_,agq⟩:=JD k s2 D8 Ip;rw[Py]at SY;cases SY;exact r.LF j k c s1 s2 D0 D3 GZ Ip F1 Py g1 (agq c f2)
def Rel.Tz(r:Rel F G H σ ρ){i:Nat}{o o':L7}{a:A8}{ho:DN}(e:ρ[i]?=some (.ob o))(As: σ[i]?=some (some (.ref a)))(q:Ov F.K G o' ho) :
  Rel F G (upd H a ho) σ (ρ.set i (.ob o')):=by
 obtain⟨b,aib,A9,A6,AA,Ao,BG⟩:=r.obj e;rw[As]at A9;have BS:b=a:=by cases A9;rfl
 subst BS;exact r.di e As rfl ⟨b,ho,rfl,Da,AA,Ao,q⟩ λc f=>.inl f
def Rel.mut(r:Rel F G H σ ρ){i:Nat}{ds ds':μ}{a:A8}{ys:List V}(e:ρ[i]?=some (.Bm ds))(As: σ[i]?=some (some (.ref a)))(q:AW F.K G ds' ys) :
  Rel F G (upd H a (.lst ys)) σ (ρ.set i (.Bm ds')):=r.Tz e As ⟨ys,rfl,q⟩
def Rel.GT(r:Rel F G H σ ρ){i:Nat}{o:L7}(e:ρ[i]?=some (.ob o)):∃G',Rel F G' H σ (ρ.set i (.A2 (JX o)))/\Sub G G':=by
 have AC:i<ρ.length:=(List.getElem?_eq_some_iff.mp e).1;obtain⟨a,ho,A9,A6,AA,Ao,BG⟩:=r.obj e;have un:Rel F G H σ (ρ.set i .un):=by have z:=r.am (s:=.un) (o:=some (.ref a)) AC trivial λ_ f=>f.elim;rw[CP.nv A9]at z;exact z
 have no:¬Cc H σ (ρ.set i .un) a:=λ⟨j,s,u,I9,Iq,SY⟩=>by
  rcases get_set I9 with⟨_,z⟩|⟨ne,I9⟩
  .subst z;exact SY
  .exact ne (r.LF i j a _ s _ u e I9 A9 Iq rfl SY)
 have B7:=un.take A6 AA Ao no;have DW:=B7.am (i:=i) (s:=.A2 (JX o)) (o:=some (.ref a)) (AC:) ⟨.ref a,rfl,(BG.mono (Sub.upd AA)).at Da⟩ λ_ f=>f.elim;rw[CP.nv A9,List.set_set]at DW;exact⟨upd G a ho,DW,Sub.upd AA⟩
end
abbrev Ae:=AI->R D
abbrev Ck:=AI->R Bool
abbrev B1:=AI->R μ
inductive FQ where
 |B6 (ρ:AI)|EP (d:D)|Ja (ds:μ)|Fu (ρ:AI)|Dn (ρ:AI)|Lq (t:T)|rs (d:D) (ρ:AI)
abbrev B0:=AI->R FQ
def NS(F:BA)(c:Str):Prop:=∀G' H',FR F G' H'->F.EX c H'
def JP(F:BA)(G H:AB)(σ :St)(ρ:AI)(Q:Cd):R D->Prop
 |.ok d=>∀v H' G',Rel F G' H' σ ρ->C3 G H G' H'->At F.K G' d v->Q v H'
 |.exc c=>NS F c
 |.bad=>False
def Sw(F:BA)(G H:AB)(σ :St)(ρ:AI)(Q:Bool->AB->Prop):R Bool->Prop
 |.ok b=>∀H' G',Rel F G' H' σ ρ->C3 G H G' H'->Q b H'
 |.exc c=>NS F c
 |.bad=>False
def yR(F:BA)(G H:AB)(σ :St)(ρ:AI)(Q:List V->AB->Prop):R μ->Prop
 |.ok ds=>∀vs H' G',Rel F G' H' σ ρ->C3 G H G' H'->AW F.K G' ds vs->Q vs H'
 |.exc c=>NS F c
 |.bad=>False
noncomputable def yW(F:BA)(G H:AB)(σ :St)(ρ:AI)(Q:Cd):R μ->Prop
 |.ok ds=>∀a xs H' G',Rel F G' H' σ ρ->C3 G H G' H'->H a=none->H' a=some (.lst xs)->G' a=none->AW F.K G' ds xs->Q (.ref a) H'
 |.exc c=>NS F c
 |.bad=>False
noncomputable def Fe(F:BA)(G:AB)(CC:Ends):R FQ->Prop
 |.ok (.B6 BL)=>∀ σ' G' H',Rel F G' H' σ' BL->Sub G G'->CC.B6 σ' H'
 |.ok (.Fu BL)=>∀ σ' G' H',Rel F G' H' σ' BL->Sub G G'->CC.Fu σ' H'
 |.ok (.Dn BL)=>∀ σ' G' H',Rel F G' H' σ' BL->Sub G G'->CC.Dn σ' H'
 |.ok (.EP d)=>∀v G' H',FR F G' H'->At F.K G' d v->CC.EP v H'
 |.ok (.Ja ds)=>∀a xs G' H',FR F G' H'->G' a=none->F.H0 a=none->H' a=some (.lst xs)->AW F.K G' ds xs->CC.EP (.ref a) H'
 |.ok (.Lq t)=>∀v G' H',FR F G' H'->MY F G' H' t v->CC.EP v H'
 |.ok (.rs d BL)=>∀v σ' G' H',Rel F G' H' σ' BL->At F.K G' d v->CC.EP v H'
 |.exc c=>NS F c
 |.bad=>False
def Cx(F:BA)(m:Ae):TE:=λσ H Q=>∃G ρ,Rel F G H σ ρ/\JP F G H σ ρ Q (m ρ)
def HO(F:BA)(m:Ck):TT:=λσ H Q=>∃G ρ,Rel F G H σ ρ/\Sw F G H σ ρ Q (m ρ)
def Es(F:BA)(m:B1):Ew:=λσ H Q=>∃G ρ,Rel F G H σ ρ/\yR F G H σ ρ Q (m ρ)
def I8(F:BA)(m:B1):TE:=λσ H Q=>∃G ρ,Rel F G H σ ρ/\yW F G H σ ρ Q (m ρ)
def Fq(F:BA)(m:B0):FT:=λCC σ H=>∃G ρ,Rel F G H σ ρ/\Fe F G CC (m ρ)
section
variable{F:BA}{G Ah H H1:AB}{σ :St}{ρ:AI}
def JP.mono{Q:Cd}(s:C3 G H Ah H1):∀{r:R D},JP F G H σ ρ Q r->JP F Ah H1 σ ρ Q r
 |.ok _,h=>λv H' G' r BH a=>h v H' G' r (s.trans BH) a
 |.exc _,h=>h
 |.bad,h=>h
def Sw.mono{Q:Bool->AB->Prop}(s:C3 G H Ah H1):∀{r:R Bool},Sw F G H σ ρ Q r->Sw F Ah H1 σ ρ Q r
 |.ok _,h=>λH' G' r BH=>h H' G' r (s.trans BH)
 |.exc _,h=>h
 |.bad,h=>h
def Fe.mono{CC:Ends}(s:Sub G Ah):∀{r:R FQ},Fe F G CC r->Fe F Ah CC r
 |.ok (.B6 _),h=>λσ' G' H' r BH=>h σ' G' H' r (s.trans BH)
 |.ok (.Fu _),h=>λσ' G' H' r BH=>h σ' G' H' r (s.trans BH)
 |.ok (.Dn _),h=>λσ' G' H' r BH=>h σ' G' H' r (s.trans BH)
 |.ok (.EP _),h=>h
 |.ok (.Ja _),h=>h
 |.ok (.Lq _),h=>h
 |.ok (.rs _ _),h=>h
 |.exc _,h=>h
 |.bad,h=>h
end
abbrev Ej(t' t:TE):Prop:=∀ σ H Q,t' σ H Q->t σ H Q
abbrev Ph(t' t:TT):Prop:=∀ σ H Q,t' σ H Q->t σ H Q
abbrev gJ(t' t:Ew):Prop:=∀ σ H Q,t' σ H Q->t σ H Q
abbrev I0(t' t:FT):Prop:=∀CC σ H,t' CC σ H->t CC σ H
noncomputable def J(i:Nat):Ae:=λρ=>match ρ[i]? with
 |some (.A2 d)=>.ok d
 |_=>.bad
noncomputable def A5(d:D):Ae:=λ_=>.ok d
section
variable{F:BA}
def xo(i:Nat):Ej (Cx F (J i)) (Vm i):=by
 rintro σ H Q ⟨G,ρ,r,h⟩;unfold J at h;cases e:ρ[i]? with
 |none=>rw[e]at h;cases h
 |some s=>
  rw[e]at h;cases s with
  |un=>cases h
  |ob _=>cases h
  |Eg _=>cases h
  |Bg _ _=>cases h
  |A2 d=>obtain⟨v,A9,a⟩:=r.A2 e;exact⟨v,A9,h v H G r (C3.refl _ _) a⟩
def VL{d:D}{v:V}(a:∀G,At F.K G d v):Ej (Cx F (A5 d)) (SS v):=by rintro σ H Q ⟨G,ρ,r,h⟩;exact h v H G r (C3.refl _ _) (a G)
noncomputable def A3(f:D->D->R D)(a b:Ae):Ae:=λρ=>(a ρ).bind λx=>(b ρ).bind λy=>f x y
def Hl(F:BA)(r:Ek)(f:D->D->R D):Prop:=∀ σ ρ G H x y Ag Gs Q,Rel F G H σ ρ->At F.K G Ag x->At F.K G Gs y->JP F G H σ ρ Q (f Ag Gs)->r x y H Q
def YU{r:Ek}{f:D->D->R D}{ma HK:Ae}(ho:Hl F r f):Ej (Cx F (A3 f ma HK)) (Vk r (Cx F ma) (Cx F HK)):=by delta A3 r;refine rb h λAg As h x H1 Ah AK s1 Bn=>?_;refine⟨Ah,ρ,AK,?_⟩;refine rb h λGs BS h y Am CL B7 s2 Cq=>?_;exact ho σ ρ CL Am x y Ag Gs Q B7 (Bn.mono s2.g) Cq (h.mono (s1.trans s2))
noncomputable def C4(f:D->R D)(a:Ae):Ae:=λρ=>(a ρ).bind f
def iT(F:BA)(r:V->AB->Cd->Prop)(f:D->R D):Prop:=∀ σ ρ G H x Ag Q,Rel F G H σ ρ->At F.K G Ag x->JP F G H σ ρ Q (f Ag)->r x H Q
def xn{r:V->AB->Cd->Prop}{f:D->R D}{ma:Ae}(ho:iT F r f):Ej (Cx F (C4 f ma)) (pE r (Cx F ma)):=by delta C4 r;refine rb h λAg As h x H1 Ah AK s1 Bn=>?_;exact ho σ ρ Ah H1 x Ag Q AK Bn (h.mono s1)
noncomputable def AF:B1:=λ_=>.ok []
noncomputable def A1(a:Ae)(r:B1):B1:=λρ=>(a ρ).bind λx=>(r ρ).bind λxs=>.ok (x::xs)
def w7:gJ (Es F AF) aE:=by rintro σ H Q ⟨G,ρ,r,h⟩;exact h [] H G r (C3.refl _ _) .nil
def wM{ma:Ae}{ZS:B1}:gJ (Es F (A1 ma ZS)) (oz (Cx F ma) (Es F ZS)):=by delta A1 r;refine rb h λAg As h x H1 Ah AK s1 Bn=>?_;refine⟨Ah,ρ,AK,?_⟩;refine rb h λGs BS h y Am CL B7 s2 Cq=>?_;exact h (x::y) Am CL B7 (s1.trans s2) (.cons (Bn.mono s2.g) Cq)
noncomputable def C_(m:B1):Ae:=λρ=>(m ρ).bind λxs=>if xs.length<=1000000 then .ok (.tup xs)else .bad
def xl{m:B1}:Ej (Cx F (C_ m)) (pD (Es F m)):=by
 delta C_ r;refine rb h λds As h vs H1 Ah AK s1 a=>?_;by_cases AN:ds.length<=1000000
 .rw[if_pos AN]at h;refine⟨by rw[<-a.length];exact FF AN ε,λp AZ=>?_⟩;refine h (.ref p) _ _ (AK.lay AZ) (s1.trans (C3.lay AK.kp.sub AZ)) ?_;erw[At];exact⟨p,vs,rfl,Da,a.mono (Sub.upd (AK.kp.sub.gone AZ))⟩
 .rw[if_neg AN]at h;cases h
theorem Cc.some{G H:AB}{σ :St}{ρ:AI}(r:Rel F G H σ ρ){a:A8}(h:Cc H σ ρ a):∃xs,H a=some xs:=by
 cases e:H a with
 |none=>exact absurd e (r.foot h).1
 |some o=>exact⟨o,rfl⟩
def Cc.back{G H H':AB}{σ :St}{ρ:AI}(r:Rel F G H σ ρ)(s:Sub H H'){a:A8}(h:Cc H' σ ρ a):Cc H σ ρ a:=by
 obtain⟨i,C2,o,A9,AH,f⟩:=h;refine⟨i,C2,o,A9,AH,?_⟩;obtain⟨o',Au,q⟩:=r.C2 i C2 A9;rw[AH]at Au;cases Au;exact(q.keep (G':=G) (H':=H') (Sub.refl _) λb LI=>⟨by
  cases e:H b with
  |none=>exact absurd e (q.foot LI).1
  |some u=>exact s b u e,(q.foot LI).2.1⟩).2 a f
def Cc.fresh{G H H':AB}{σ :St}{ρ:AI}(r:Rel F G H σ ρ)(s:Sub H H'){a:A8}(n:H a=none):¬Cc H' σ ρ a:=λh=>(r.foot (h.back r s)).1 n
noncomputable def lim(xs:μ):R μ:=if xs.length<=1000000 then .ok xs else .bad
def CZ(m:B1):B1:=λρ=>(m ρ).bind lim
def w1{m:B1}:Ej (I8 F (CZ m)) (p8 (Es F m)):=by
 rintro σ H Q ⟨G,ρ,r,h⟩;unfold CZ lim at h;refine⟨G,ρ,r,?_⟩;refine rb h λds As h vs H1 Ah AK s1 a=>?_;by_cases AN:ds.length<=1000000
 .rw[if_pos AN]at h;refine⟨by rw[<-a.length];exact FF AN ε,λp AZ=>?_⟩;exact h p vs _ Ah (AK.lay0 AZ) (s1.trans (C3.lay0 AZ)) (s1.h.gone AZ) Da (AK.kp.sub.gone AZ) a
 .rw[if_neg AN]at h;cases h
noncomputable def Bo(m:B1):Ae:=λρ=>(m ρ).bind λxs=>.ok (.lst xs)
def wU{m:B1}:Ej (Cx F (Bo m)) (I8 F m):=by delta Bo r;refine rb h λds As h a xs H' G' BO s' AQ AD A_ q=>?_;refine h (.ref a) H' _ (BO.take AD A_ (r.kp.B4.gone AQ) (Cc.fresh r s'.h AQ)) (s'.put AQ A_) ?_;erw[At];exact⟨a,xs,rfl,Da,q.mono (Sub.upd A_)⟩
noncomputable def NC:D->R Bool
 |.AR b=>.ok b
 |_=>.bad
noncomputable def Ax(m:Ae):Ck:=λρ=>(m ρ).bind NC
def YT{m:Ae}:Ph (HO F (Ax m)) (eo (Cx F m)):=by
 delta Ax r;refine rb h λd As h x H1 Ah AK s1 Bn=>?_
 cases d<;>first
  |(cases h)
  |(erw[At]at Bn;exact⟨_,Bn,h H1 Ah AK s1⟩)
def jZ{m:Ae}:Ph (HO F (Ax m)) (ey (Cx F m)):=YT
noncomputable def IH(a b:Ck):Ck:=λρ=>(a ρ).bind λc=>if c=true then b ρ else .ok false
noncomputable def II(a b:Ck):Ck:=λρ=>(a ρ).bind λc=>if c=true then .ok true else b ρ
noncomputable def Ec(a:Ck):Ck:=λρ=>(a ρ).bind λc=>.ok (!c)
def wA{a b:Ck}:Ph (HO F (IH a b)) (pq (HO F a) (HO F b)):=by
 delta IH r;refine rb h λc As h H1 Ah AK s1=>?_;cases c with
 |true=>exact⟨Ah,ρ,AK,Sw.mono s1 h⟩
 |false=>exact h H1 Ah AK s1
def xX{a b:Ck}:Ph (HO F (II a b)) (pC (HO F a) (HO F b)):=by
 delta II r;refine rb h λc As h H1 Ah AK s1=>?_;cases c with
 |true=>exact h H1 Ah AK s1
 |false=>exact⟨Ah,ρ,AK,Sw.mono s1 h⟩
def wY{a:Ck}:Ph (HO F (Ec a)) (pA (HO F a)):=by
 delta Ec r;cases As:a ρ with
 |bad=>rw[As]at h;cases h
 |exc c=>rw[As]at h;exact h
 |ok c=>rw[As,R.EU]at h;exact h
noncomputable def OD(a b:Ae):Ae:=λρ=>(a ρ).bind λx=>(NC x).bind λc=>if c=true then b ρ else .ok (.AR false)
noncomputable def a3(a:Ae):Ae:=λρ=>(a ρ).bind λx=>(NC x).bind λc=>.ok (.AR (!c))
def wB{a b:Ae}:Ej (Cx F (OD a b)) (ps (Cx F a) (Cx F b)):=by
 delta OD r;refine rb h λd As h x H1 Ah AK s1 Bn=>?_;cases d with
 |AR c=>
  erw[At]at Bn;refine⟨c,Bn,?_⟩;cases c with
  |true=>exact⟨Ah,ρ,AK,JP.mono s1 h⟩
  |false=>exact h _ H1 Ah AK s1 (by erw[At])
 |_=>cases h
def xV{a:Ae}:Ej (Cx F (a3 a)) (pB (Cx F a)):=by
 delta a3 r;refine rb h λd As h x H1 Ah AK s1 Bn=>?_;cases d with
 |AR c=>erw[At]at Bn;exact⟨c,Bn,h _ H1 Ah AK s1 (by erw[At])⟩
 |_=>cases h
noncomputable def MO(c:Ck)(a b:Ae):Ae:=λρ=>(c ρ).bind λk=>if k=true then a ρ else b ρ
def wW{c:Ck}{a b:Ae}:Ej (Cx F (MO c a b)) (p7 (HO F c) (Cx F a) (Cx F b)):=by
 delta MO r;refine rb h λk As h H1 Ah AK s1=>?_;cases k with
 |true=>exact⟨Ah,ρ,AK,JP.mono s1 h⟩
 |false=>exact⟨Ah,ρ,AK,JP.mono s1 h⟩
def CU:B0:=λρ=>.ok (.B6 ρ)
noncomputable def AS(a b:B0):B0:=λρ=>(a ρ).bind λf=>match f with
 |.B6 BL=>b BL
 |f=>.ok f
def w6:I0 (Fq F CU) et:=by rintro CC σ H ⟨G,ρ,r,h⟩;exact h σ G H r (Sub.refl _)
def xc{a b:B0}:I0 (Fq F (AS a b)) (eu (Fq F a) (Fq F b)):=by
 delta AS;refine⟨G,ρ,r,?_⟩;refine rb h λf As h=>?_;cases f with
 |B6 BL=>exact λσ' G' H' BO s'=>⟨G',BL,BO,Fe.mono s' h⟩
 |EP d=>exact h
 |Ja d=>exact h
 |Fu d=>exact h
 |Dn d=>exact h
 |Lq d=>exact h
 |rs d _=>exact h
noncomputable def CV(a:Ae):B0:=λρ=>(a ρ).bind λd=>.ok (.EP d)
def x_{a:Ae}:I0 (Fq F (CV a)) (aF (Cx F a)):=by
 delta CV;refine⟨G,ρ,r,?_⟩;cases As:a ρ with
 |bad=>rw[As]at h;cases h
 |exc c=>rw[As]at h;exact h
 |ok d=>rw[As,R.EU]at h;exact λv H' G' BO s' a=>h v G' H' BO.kp a
noncomputable def Fn(a:B1):B0:=λρ=>(a ρ).bind λd=>.ok (.Ja d)
def xa{a:B1}:I0 (Fq F (Fn a)) (aF (I8 F a)):=by
 delta Fn;refine⟨G,ρ,r,?_⟩;cases As:a ρ with
 |bad=>rw[As]at h;cases h
 |exc c=>rw[As]at h;exact h
 |ok d=>rw[As,R.EU]at h;exact λa xs H' G' BO s' A6 AA Ao BG=>h a xs G' H' BO.kp Ao (r.kp.B4.gone A6) AA BG
noncomputable def J5(i:Nat):B1:=λρ=>match ρ[i]? with
 |some (.ob (.lst d))=>.ok d
 |_=>.bad
def xb(i:Nat):I0 (Fq F (Fn (J5 i))) (aF (Vm i)):=by
 rintro CC σ H ⟨G,ρ,r,h⟩;unfold Fn J5 at h;cases e:ρ[i]? with
 |none=>rw[e]at h;cases h
 |some s=>
  rw[e]at h;cases s with
  |un=>cases h
  |A2 _=>cases h
  |Eg _=>cases h
  |Bg _ _=>cases h
  |ob o=>
   cases o with
   |lst ds=>obtain⟨a,xs,A9,A6,AA,Ao,BG⟩:=r.own e;exact⟨.ref a,A9,h a xs G H r.kp AA Ao A6 BG⟩
   |An _ _=>cases h
   |ins _ _ _=>cases h
noncomputable def C9(c:Ck)(a b:B0):B0:=λρ=>(c ρ).bind λk=>if k=true then a ρ else b ρ
def wX{c:Ck}{a b:B0}:I0 (Fq F (C9 c a b)) (er (HO F c) (Fq F a) (Fq F b)):=by
 delta C9;refine⟨G,ρ,r,?_⟩;refine rb h λk As h H1 Ah AK s1=>?_;cases k with
 |true=>exact⟨Ah,ρ,AK,Fe.mono s1.g h⟩
 |false=>exact⟨Ah,ρ,AK,Fe.mono s1.g h⟩
noncomputable def BK(i:Nat)(d:D)(ρ:AI):R AI:=if i<ρ.length then .ok (ρ.set i (.A2 d))else .bad
noncomputable def BU(i:Nat)(a:Ae):B0:=λρ=>(a ρ).bind λd=>(BK i d ρ).bind λBL=>.ok (.B6 BL)
def xd{i:Nat}{a:Ae}:I0 (Fq F (BU i a)) (NB (Cx F a) (Jx i)):=by
 rintro CC σ H ⟨G,ρ,r,h⟩;unfold BU BK at h;refine⟨G,ρ,r,?_⟩;refine rb h λd As h v H1 Ah AK s1 BD=>?_;by_cases AC:i<ρ.length
 .rw[if_pos AC]at h;exact h _ Ah H1 (AK.set AC BD) s1.g
 .rw[if_neg AC]at h;cases h
noncomputable def EK(i:Nat)(a:B1):B0:=λρ=>(a ρ).bind λds=>if i<ρ.length then .ok (.B6 (ρ.set i (.Bm ds)))else .bad
def cz{i:Nat}{a:B1}:I0 (Fq F (EK i a)) (NB (I8 F a) (Jx i)):=by
 delta EK;refine⟨G,ρ,r,?_⟩;refine rb h λds As h b xs H1 Ah AK s1 A6 AA Ao BG=>?_;by_cases AC:i<ρ.length
 .rw[if_pos AC]at h;exact h _ Ah H1 (AK.nr AC AA Ao (r.kp.B4.gone A6) BG λj A4 o _ A9 AH f=>Cc.fresh r s1.h A6 ⟨j,A4,o,A9,AH,f⟩) s1.g
 .rw[if_neg AC]at h;cases h
noncomputable def Jw(i:Nat)(ρ:AI):AI:=match ρ[i]? with
 |some (.ob o)=>ρ.set i (.A2 (JX o))
 |_=>ρ
theorem Rel.Jw{G H:AB}{σ :St}{ρ:AI}(r:Rel F G H σ ρ)(i:Nat):∃G',Rel F G' H σ (CP.Jw i ρ)/\Sub G G':=by
 unfold CP.Jw;cases e:ρ[i]? with
 |none=>exact⟨G,r,Sub.refl _⟩
 |some s=>
  cases s with
  |un=>exact⟨G,r,Sub.refl _⟩
  |A2 _=>exact⟨G,r,Sub.refl _⟩
  |Eg _=>exact⟨G,r,Sub.refl _⟩
  |Bg _ _=>exact⟨G,r,Sub.refl _⟩
  |ob o=>exact r.GT e
noncomputable def OF(i:Nat)(m:B0):B0:=λρ=>m (Jw i ρ)
def wT{i:Nat}{m:B0}:I0 (Fq F (OF i m)) (Fq F m):=by rintro CC σ H ⟨G,ρ,r,h⟩;obtain⟨Ah,AK,s1⟩:=r.Jw i;exact⟨Ah,_,AK,Fe.mono s1 h⟩
noncomputable def Gh:D->Bool
 |.non=>true|.AR _=>true|.int _=>true|.str _=>true
 |_=>false
def At.oB{K:Aa}{G G':AB}{d:D}{v:V}(h:Gh d=true)(a:At K G d v):At K G' d v:=by
 cases d<;>first
  |(erw[At]at a |-;exact a)
  |(cases h)
def IB:Bb->Bb
 |.ob o=>.A2 (JX o)
 |.Eg t=>.A2 (toD t)
 |.Bg _ t=>.A2 (toD t)
 |s=>s
def DG(ρ:AI):AI:=ρ.map IB
open Classical in
noncomputable def IC(σ :St)(ρ:AI)(G H:AB):AB:=λb=>if Cc H σ ρ b then H b else G b
def V1{G H:AB}{σ :St}{ρ:AI}(r:Rel F G H σ ρ):Sub G (IC σ ρ G H):=λb o e=>by
 unfold IC
 split
 .exact r.kp.sub b o e
 .exact e
def OW{G H:AB}{σ :St}{ρ:AI}{b:A8}(h:Cc H σ ρ b):IC σ ρ G H b=H b:=by unfold IC;rw[if_pos h]
def vf{H:AB}{ρ:AI}{i:Nat}{s:Bb}(e:(DG ρ)[i]?=some s)(o:Option V)(a:A8):¬Ez H s o a:=by
 unfold DG at e;rw[EC]at e;cases AH:ρ[i]? with
 |none=>rw[AH]at e;cases e
 |some t=>rw[AH]at e;have A4:IB t=s:=Ey e;subst A4;cases t<;>exact λz=>z
def Rel.plus{G H:AB}{σ :St}{ρ:AI}(r:Rel F G H σ ρ):Rel F (IC σ ρ G H) H σ (DG ρ):=by
 have BH:=V1 r;refine⟨⟨λb o e=>?_,r.kp.EJ.trans BH,r.kp.B4,λb A0=>?_⟩,by simp[DG,r.len],λi s e=>?_,λi j a s s' o o' A9 _ _ _ f _=>absurd f (vf A9 o a)⟩
 .unfold IC at e
  split at e
  .exact e
  .exact r.kp.sub b o e
 .unfold IC
  split
  .rename_i z;exact absurd (r.foot z).2.2 A0.1
  .exact r.kp.new b A0
 .unfold DG at e;rw[EC]at e;cases A9:ρ[i]? with
  |none=>rw[A9]at e;cases e
  |some t=>
   rw[A9]at e;have A4:IB t=s:=Ey e;obtain⟨o,AH,q⟩:=r.C2 i t A9;refine⟨o,AH,?_⟩;subst A4;cases t with
   |un=>trivial
   |A2 d=>obtain⟨v,Au,a⟩:=q;exact⟨v,Au,a.mono BH⟩
   |ob ds=>obtain⟨a,ho,Au,A6,AA,Ao,BG⟩:=q;subst Au;exact⟨.ref a,rfl,(BG.mono BH).at (by rw[OW (.ob A9 AH)];exact A6)⟩
   |Eg t=>obtain⟨v,Au,q⟩:=q;exact⟨v,Au,q.at_.view BH λa AD=>OW ⟨i,_,o,A9,AH,v,Au,AD⟩⟩
   |Bg n t=>obtain⟨v,Au,q,_⟩:=q;exact⟨v,Au,q.at_.view BH λa AD=>OW ⟨i,_,o,A9,AH,v,Au,AD⟩⟩
def Rel.back{G H G' H':AB}{σ :St}{ρ:AI}(r:Rel F G H σ ρ)(BO:Rel F G' H' σ (DG ρ))(s:Sub (IC σ ρ G H) G'):Rel F G H' σ ρ:=
 r.over rfl ⟨(V1 r).trans (s.trans BO.kp.sub),r.kp.EJ,BO.kp.B4,r.kp.new⟩ (Sub.refl _) λa AD=>by
   obtain⟨A6,AA,Ao⟩:=r.foot AD;refine⟨?_,AA,Ao⟩;cases e:H a with
   |none=>exact absurd e A6
   |some o=>exact BO.kp.sub _ _ (s _ _ (by rw[OW AD];exact e))
noncomputable def Vz(d:D):R D:=if Gh d=true then .ok d else .bad
def Ko(m:Ae):Ae:=λρ=>(m (DG ρ)).bind Vz
def wC{m:Ae}:Ej (Cx F (Ko m)) (Cx F m):=by
 rintro σ H Q ⟨G,ρ,r,h⟩;refine⟨IC σ ρ G H,DG ρ,r.plus,?_⟩;unfold Ko Vz at h;refine rb h λd As h v H' G' BO s' a=>?_;by_cases hd:Gh d=true
 .rw[if_pos hd]at h;exact h v H' G (r.back BO s'.g) ⟨Sub.refl _,s'.h,λ_ _=>rfl⟩ (a.oB hd)
 .rw[if_neg hd]at h;cases h
def EH(m:Ck):Ck:=λρ=>m (DG ρ)
def wH{m:Ck}:Ph (HO F (EH m)) (HO F m):=by
 rintro σ H Q ⟨G,ρ,r,h⟩;refine⟨IC σ ρ G H,DG ρ,r.plus,?_⟩;unfold EH at h;cases As:m (DG ρ)with
 |bad=>rw[As]at h;cases h
 |exc c=>rw[As]at h;exact h
 |ok d=>rw[As]at h;exact λH' G' BO s'=>h H' G (r.back BO s'.g) ⟨Sub.refl _,s'.h,λ_ _=>rfl⟩
end
section
variable{F:BA}
noncomputable def I4(G H:AB):AB:=λb=>match H b with
 |some (.tup xs)=>some (.tup xs)
 |_=>G b
def hp{G H:AB}{b:A8}{xs:List V}(e:H b=some (.tup xs)):I4 G H b=some (.tup xs):=by unfold I4;rw[e]
def hn{G H:AB}{b:A8}(h:H8 H b):I4 G H b=G b:=by
 unfold I4
 split
 .rename_i xs e;exact absurd e (h.2 xs)
 .rfl
def gW{G H:AB}(s:Sub G H):Sub G (I4 G H):=λb o e=>by
 unfold I4
 split
 .rename_i xs z;rw[s b o e]at z;rw[z]
 .exact e
def r8{G H:AB}(s:Sub G H):Sub (I4 G H) H:=λb o e=>by
 unfold I4 at e
 split at e
 .rename_i xs z;rw[z];exact e
 .exact s b o e
theorem Rel.I4{G H:AB}{σ :Bs.St}{ρ:AI}(r:Rel F G H σ ρ):Rel F (I4 G H) H σ ρ:=r.grow (gW r.kp.sub) (r8 r.kp.sub) (Sub.refl _) λb h=>hn h
theorem C3.I4{G H:AB}(s:Sub G H):C3 G H (I4 G H) H:=⟨gW s,Sub.refl _,λb h=>hn h⟩
structure MV(K:Aa)(DA:It)(ds:μ)(G:AB):Prop where
 go:∀(i:Nat)(H:AB),Sub G H->i<ds.length->DA.go i H
 Jd:∀(i:Nat)(H:AB)(x:V)(H':AB),Sub G H->i<ds.length->DA.Jd i H x H'->∃d,ds[i]?=some d/\
  ((H'=H/\At K G d x)\/∃p xs A4,H p=none/\H'=upd H p (.tup xs)/\x=.ref p/\d=.tup A4/\∀Ah,Sub G Ah->(∀b ys,H b=some (.tup ys)->Ah b=some (.tup ys))->AW K Ah A4 xs)
 stop:∀(H:AB),Sub G H->DA.stop ds.length H
def yU(F:BA)(G H:AB)(σ :St)(ρ:AI)(Q:It->AB->Prop):R μ->Prop
 |.ok ds=>∀DA H' G',Rel F G' H' σ ρ->C3 G H G' H'->MV F.K DA ds G'->Q DA H'
 |.exc c=>NS F c
 |.bad=>False
def L3(F:BA)(m:B1):TI:=λσ H Q=>∃G ρ,Rel F G H σ ρ/\yU F G H σ ρ Q (m ρ)
abbrev Oq(t' t:TI):Prop:=∀ σ H Q,t' σ H Q->t σ H Q
def MV.turn{DA:It}{ds:μ}{G Ah H H':AB}{σ :St}{ρ:AI}{i:Nat}{x:V}(t:MV F.K DA ds G)(r:Rel F Ah H σ ρ)(s:Sub G Ah)(AC:i<ds.length)(y:DA.Jd i H x H') :
  ∃d G',ds[i]?=some d/\Rel F G' H' σ ρ/\C3 Ah H G' H'/\At F.K G' d x:=by
 obtain⟨d,e,h⟩:=t.Jd i H x H' (s.trans r.kp.sub) AC y;rcases h with⟨rfl,a⟩|⟨p,xs,A4,AZ,rfl,rfl,rfl,a⟩
 .exact⟨d,Ah,e,r,C3.refl _ _,a.mono s⟩
 .have B7:=r.I4;refine⟨_,_,e,B7.lay AZ,(C3.I4 r.kp.sub).trans (C3.lay B7.kp.sub AZ),?_⟩;erw[At];exact⟨p,xs,rfl,Da,(a _ (s.trans (gW r.kp.sub)) λ_ _ e=>hp e).mono (Sub.upd (B7.kp.sub.gone AZ))⟩
def Pg(F:BA)(g:Ib)(set:D->AI->R AI):Prop:=∀ σ ρ G H v d Q BL,Rel F G H σ ρ->At F.K G d v->set d ρ=.ok BL->(∀ σ',Rel F G H σ' BL->Q σ' H)->g v σ H Q
def YZ(i:Nat):Pg F (Jx i) (BK i):=by
 intro σ ρ G H v d Q BL r a e h;unfold BK at e;by_cases AC:i<ρ.length
 .rw[if_pos AC]at e;cases e;exact h _ (r.set AC a)
 .rw[if_neg AC]at e;cases e
noncomputable def IQ:List (D->AI->R AI)->μ->AI->R AI
 |[],[],ρ=>.ok ρ
 |f::Ar,d::ds,ρ=>(f d ρ).bind λBL=>IQ Ar ds BL
 |_,_,_=>.bad
def Uh(F:BA)(g:Nk)(set:μ->AI->R AI):Prop:=∀ σ ρ G H vs ds Q BL,Rel F G H σ ρ->AW F.K G ds vs->set ds ρ=.ok BL->(∀ σ',Rel F G H σ' BL->Q σ' H)->g vs σ H Q
def k8:Uh F YX (IQ []):=by
 intro σ ρ G H vs ds Q BL r a e h;cases ds with
 |nil=>erw[AW]at a;cases e;exact⟨a,h σ r⟩
 |cons d ds=>cases e
def bQ{g:Ib}{gs:Nk}{f:D->AI->R AI}{Ar:List (D->AI->R AI)}(A6:Pg F g f)(AA:Uh F gs (IQ Ar)):Uh F (V0 g gs) (IQ (f::Ar)):=by
 intro σ ρ G H vs ds Q BL r a e h;cases ds with
 |nil=>cases e
 |cons d ds=>
  erw[AW]at a;obtain⟨v,L4,rfl,BD,Ma⟩:=a;erw[IQ]at e;cases A9:f d ρ with
  |bad=>rw[A9]at e;cases e
  |exc c=>rw[A9]at e;cases e
  |ok ER=>rw[A9,R.EU]at e;refine⟨v,L4,rfl,A6 σ ρ G H v d _ ER r BD A9 λσ1 AK=>?_⟩;exact AA σ1 ER G H L4 ds Q BL AK Ma e h
noncomputable def FO(Ar:List (D->AI->R AI)):D->AI->R AI
 |.tup ds,ρ=>IQ Ar ds ρ
 |_,_=>.bad
theorem nk:∀{Ar:List (D->AI->R AI)}{ds:μ}{ρ BL:AI},IQ Ar ds ρ=.ok BL->ds.length=Ar.length
 |[],[],_,_,_=>rfl
 |[],_::_,_,_,e=>by cases e
 |_::_,[],_,_,e=>by cases e
 |f::Ar,d::ds,ρ,BL,e=>by
  erw[IQ]at e;cases A9:f d ρ with
  |bad=>rw[A9]at e;cases e
  |exc c=>rw[A9]at e;cases e
  |ok ER=>rw[A9,R.EU]at e;simp[nk e]
def k9{gs:Nk}{Ar:List (D->AI->R AI)}{n:Nat}(AQ:n=Ar.length)(h:Uh F gs (IQ Ar)):Pg F (YY F.K n gs) (FO Ar):=by
 intro σ ρ G H v d Q BL r a e k;cases d with
 |tup ds=>erw[At]at a;obtain⟨p,xs,rfl,AV,al⟩:=a;refine⟨p,xs,rfl,CT.of (r.kp.sub _ _ AV),?_,h σ ρ G H xs ds Q BL r al e k⟩;rw[<-al.length,AQ];exact nk e
 |_=>cases e
noncomputable def Jv(set:D->AI->R AI)(body:B0):μ->AI->R FQ
 |[],ρ=>.ok (.B6 ρ)
 |d::ds,ρ=>(set d ρ).bind λER=>(body ER).bind λf=>match f with
  |.B6 Eu=>Jv set body ds Eu
  |.Dn Eu=>Jv set body ds Eu
  |.Fu Eu=>.ok (.B6 Eu)
  |f=>.ok f
def Dq(mi:B1)(set:D->AI->R AI)(body:B0):B0:=λρ=>(mi ρ).bind λds=>Jv set body ds ρ
def wS{mi:B1}{set:D->AI->R AI}{body:B0}{g:Ib}(A_:Pg F g set)(AG:∀d ρ c,set d ρ≠.exc c):I0 (Fq F (Dq mi set body)) (p5 (L3 F mi) g (Fq F body)):=by
 delta Dq;refine⟨G,ρ,r,?_⟩;refine rb h λds As h DA H1 Ah AK s1 it=>?_;refine⟨λi m σ2 Am=>m=ds.length-i/\i<=ds.length/\∃CL Eu,Rel F CL Am σ2 Eu/\Sub Ah CL/\Fe F CL CC (Jv set body (ds.drop i) Eu),⟨ds.length,γ,IT _,Ah,ρ,AK,Sub.refl _,Fe.mono s1.g (h:)⟩,?_⟩;rintro i m σ2 Am ⟨rfl,AC,CL,Eu,B7,s2,By⟩;by_cases ID:i<ds.length
 .refine .inr ⟨it.go i Am (s2.trans B7.kp.sub) ID,λσ3 Cb=>∃Ga aU,Rel F Ga Cb σ3 aU/\Sub Ah Ga/\Fe F Ga CC (Jv set body (ds.drop (i+1)) aU),λσ3 Cb⟨Ga,aU,DW,s3,Fm⟩=>⟨ds.length-(i+1),δ,rfl,ID,Ga,aU,DW,s3,Fm⟩,λx Cb y=>?_⟩;obtain⟨d,Ga,Au,DW,s3,I3⟩:=it.turn B7 s2 ID y;have GK:ds.drop i=d::ds.drop (i+1):=by
   rw[Wm ID];have:=Dt ID;rw[Au]at this;rw[Ey this]
  rw[GK]at By;erw[Jv]at By;cases CH:set d Eu with
  |bad=>rw[CH]at By;cases By
  |exc c=>exact absurd CH (AG d Eu c)
  |ok Je=>
   rw[CH,R.EU]at By;refine A_ σ2 Eu Ga Cb x d _ Je DW I3 CH λσ5 Ru=>⟨Ga,Je,Ru,?_⟩;have W8:Sub CL Ga:=s3.g;refine rb By λf Py By=>?_;cases f with
   |B6 PE=>exact λσ7 MU Gn J_ Ce=>⟨MU,PE,J_,s2.trans (W8.trans Ce),Fe.mono (W8.trans Ce) By⟩
   |Dn PE=>exact λσ7 MU Gn J_ Ce=>⟨MU,PE,J_,s2.trans (W8.trans Ce),Fe.mono (W8.trans Ce) By⟩
   |Fu PE=>exact λσ7 MU Gn J_ Ce=>By σ7 MU Gn J_ (W8.trans Ce)
   |EP d=>exact By
   |Ja ds=>exact By
   |Lq t=>exact By
   |rs t _=>exact By
 .have e:ds.drop i=[]:=qd δ;rw[e]at By;have Fv:i=ds.length:=δ
  subst Fv;exact .inl ⟨it.stop Am (s2.trans B7.kp.sub),By σ2 CL Am B7 (Sub.refl _)⟩
def aq(i:Nat):∀d ρ c,BK i d ρ≠.exc c:=λd ρ c=>by
 unfold BK
 split<;>exact λz=>nomatch z
theorem nq:∀{Ar:List (D->AI->R AI)},(∀f∈Ar,∀d ρ c,f d ρ≠.exc c)->∀ds ρ c,IQ Ar ds ρ≠.exc c
 |[],_,[],_,_,e=>nomatch e
 |[],_,_::_,_,_,e=>nomatch e
 |_::_,_,[],_,_,e=>nomatch e
 |f::Ar,h,d::ds,ρ,c,e=>by
  erw[IQ]at e;cases A9:f d ρ with
  |bad=>rw[A9]at e;cases e
  |exc c=>exact h f γ d ρ c A9
  |ok ER=>rw[A9,R.EU]at e;exact nq (λg A_=>h g (by simp[A_])) ds ER c e
def nu{Ar:List (D->AI->R AI)}(h:∀f∈Ar,∀d ρ c,f d ρ≠.exc c):∀d ρ c,FO Ar d ρ≠.exc c:=λd ρ c e=>by
 cases d<;>first
  |(exact nq h _ _ _ e)
  |(cases e)
def l9{K:Aa}{G:AB}{a:A8}{xs:List V}{ds:μ}(h:CA K G a xs)(q:AW K G ds xs):MV K (h2 K a) ds G where
 go:=λi H s AC=>by obtain⟨v,e,_⟩:=q.get (Dt AC);exact⟨xs,v,CA.mono s h,e⟩
 Jd:=λi H x H' s AC y=>by obtain⟨rfl,y⟩:=y;obtain⟨d,e,a⟩:=q.V2 (y xs (CA.mono s h));exact⟨d,e,.inl ⟨rfl,a⟩⟩
 stop:=λH s=>⟨xs,CA.mono s h,by rw[<-q.length];exact CY _⟩
def lD{K:Aa}{G:AB}{a:A8}{xs:List V}{ds:μ}(h:CT K G a xs)(q:AW K G ds xs):MV K (h4 K a) ds G where
 go:=λi H s AC=>by obtain⟨v,e,_⟩:=q.get (Dt AC);exact⟨xs,v,CT.mono s h,e⟩
 Jd:=λi H x H' s AC y=>by obtain⟨rfl,y⟩:=y;obtain⟨d,e,a⟩:=q.V2 (y xs (CT.mono s h));exact⟨d,e,.inl ⟨rfl,a⟩⟩
 stop:=λH s=>⟨xs,CT.mono s h,by rw[<-q.length];exact CY _⟩
noncomputable def Fh(lo:Int)(n:Nat):μ:=(EN n).map λ(i:Nat)=>.int (lo+(i:Int))
def lB{K:Aa}{G:AB}(lo:Int)(n:Nat):MV K (Uj lo n) (Fh lo n) G where
 go:=λi H s AC=>by
  have h:i<n:=by simpa[Fh]using AC
  exact h
 Jd:=λi H x H' s AC y=>by
  have h:i<n:=by simpa[Fh]using AC
  obtain⟨A9,AH⟩:=y;refine⟨.int (lo+(i:Int)),?_,.inl ⟨A9,?_⟩⟩
  .unfold Fh;rw[EC,UO h];rfl
  .erw[At];exact AH
 stop:=λH s=>by
  have h:n<=(Fh lo n).length:=by simp[Fh]
  exact h
noncomputable def P7:D->R μ
 |.lst ds=>.ok ds
 |.D1 ds=>.ok ds
 |_=>.bad
noncomputable def f5:D->R μ
 |.tup ds=>.ok ds
 |.Do ds=>.ok ds
 |_=>.bad
def H2(m:Ae):B1:=λρ=>(m ρ).bind P7
def vz{m:Ae}:Oq (L3 F (H2 m)) (jy F.K (Cx F m)):=by
 delta H2 r;refine rb h λd As h v H1 Ah AK s1 a=>?_;cases d with
 |lst ds=>erw[At]at a;obtain⟨p,xs,e,AV,al⟩:=a;exact⟨p,e,⟨xs,CA.of (AK.kp.sub _ _ AV)⟩,h _ H1 Ah AK s1 (l9 (CA.of AV) al)⟩
 |D1 ds=>erw[At]at a;obtain⟨p,xs,e,AV,al⟩:=a;exact⟨p,e,⟨xs,CA.mono AK.kp.sub AV⟩,h _ H1 Ah AK s1 (l9 AV al)⟩
 |_=>cases h
def Qc(m:Ae):B1:=λρ=>(m ρ).bind f5
def xm{m:Ae}:Oq (L3 F (Qc m)) (jX F.K (Cx F m)):=by
 delta Qc r;refine rb h λd As h v H1 Ah AK s1 a=>?_;cases d with
 |tup ds=>erw[At]at a;obtain⟨p,xs,e,AV,al⟩:=a;exact⟨p,e,⟨xs,CT.of (AK.kp.sub _ _ AV)⟩,h _ H1 Ah AK s1 (lD (CT.of AV) al)⟩
 |Do ds=>erw[At]at a;obtain⟨p,xs,e,AV,al⟩:=a;exact⟨p,e,⟨xs,CT.mono AK.kp.sub AV⟩,h _ H1 Ah AK s1 (lD AV al)⟩
 |_=>cases h
noncomputable def SL:μ->R μ
 |[.int j]=>if-(2^62)<=j/\j<2^62 then .ok (Fh 0 j.toNat)else .bad
 |_=>.bad
noncomputable def W5:μ->R μ
 |[.int i,.int j]=>if-(2^62)<=i/\i<2^62/\-(2^62)<=j/\j<2^62 then .ok (Fh i (j-i).toNat)else .bad
 |_=>.bad
def AW.ints1{K:Aa}{G:AB}{j:Int}{vs:List V}(a:AW K G [.int j] vs):vs=[.int j]:=by erw[AW,At]at a;obtain⟨v,r,rfl,rfl,rfl⟩:=a;rfl
def AW.ints2{K:Aa}{G:AB}{i j:Int}{vs:List V}(a:AW K G [.int i,.int j] vs):vs=[.int i,.int j]:=by erw[AW,At]at a;obtain⟨v,r,rfl,rfl,v,r,rfl,rfl,rfl⟩:=a;rfl
def FL(m:B1):B1:=λρ=>(m ρ).bind SL
def OI(m:B1):B1:=λρ=>(m ρ).bind W5
def xY{m:B1}:Oq (L3 F (FL m)) (jz (Es F m)):=by
 delta FL r;refine rb h λds As h vs H1 Ah AK s1 a=>?_;unfold SL at h
 split at h
 .rename_i j
  split at h
  .rename_i Bi;exact⟨j,a.ints1,Bi.1,Bi.2,h _ H1 Ah AK s1 (lB 0 j.toNat)⟩
  .exact h.elim
 .exact h.elim
def xZ{m:B1}:Oq (L3 F (OI m)) (k0 (Es F m)):=by
 delta OI r;refine rb h λds As h vs H1 Ah AK s1 a=>?_;unfold W5 at h
 split at h
 .rename_i i j
  split at h
  .rename_i Bi;exact⟨i,j,a.ints2,Bi,h _ H1 Ah AK s1 (lB i (j-i).toNat)⟩
  .exact h.elim
 .exact h.elim
inductive C5 where
 |v (d:D)|o (ds:μ)|t (t:T)
noncomputable def yS(F:BA)(Q:Cd):R C5->Prop
 |.ok (.v d)=>∀v G' H',FR F G' H'->At F.K G' d v->Q v H'
 |.ok (.o ds)=>∀a xs G' H',FR F G' H'->G' a=none->F.H0 a=none->H' a=some (.lst xs)->AW F.K G' ds xs->Q (.ref a) H'
 |.ok (.t t)=>∀v G' H',FR F G' H'->MY F G' H' t v->Q v H'
 |.exc c=>NS F c
 |.bad=>False
def QP(K:Aa)(n:Nat)(xe:DT->Str->AB->Prop)(BQ:μ->R C5):AX:=λvs H Q E=>∃G ds,Sub G H/\AW K G ds vs/\ds.length=n/\yS ⟨K,G,H,xe E,IK⟩ Q (BQ ds)
def ee{K:Aa}{n:Nat}{xe:DT->Str->AB->Prop}{BQ:μ->R C5}:∀vs H Q E,QP K n xe BQ vs H Q E->vs.length=n:=λvs H Q E h=>by obtain⟨G,ds,_,a,l,_⟩:=h;rw[<-a.length];exact l
noncomputable def outD:FQ->R C5
 |.B6 _=>.ok (.v .non)
 |.EP d=>.ok (.v d)
 |.Ja ds=>.ok (.o ds)
 |.Lq t=>.ok (.t t)
 |_=>.bad
noncomputable def HX(N:Nat)(ds:μ):AI:=ds.map .A2++ES (N-ds.length) .un
noncomputable def DZ(N:Nat)(m:B0)(ds:μ):R C5:=(m (HX N ds)).bind outD
noncomputable def NA(N:Nat)(vs:List V):St:=vs.map some++ES (N-vs.length) none
def nW{K:Aa}{G H:AB}{EX:Str->AB->Prop}{N:Nat}{ds:μ}{vs:List V}(s:Sub G H)(a:AW K G ds vs):Rel ⟨K,G,H,EX,IK⟩ G H (NA N vs) (HX N ds):=by
 have AN:=a.length;refine⟨⟨s,Sub.refl _,Sub.refl _,λ_ _=>rfl⟩,by simp[NA,HX,AN],λi t e=>?_,λi j b A4 Vd o o' A9 AH _ _ f _=>?_⟩
 .unfold HX at e;unfold NA;by_cases AC:i<ds.length
  .rw[IS (AC:),EC,Dt AC]at e;obtain⟨v,A9,BD⟩:=a.get (Dt AC);rw[IS (by rw[GN,<-AN];exact AC),EC,A9];have NI:Bb.A2 ds[i]=t:=Ey e;subst NI;exact⟨some v,rfl,v,rfl,BD⟩
  .rw[Nx (AC:),PG]at e;rw[Nx (by rw[GN,<-AN];lia),PG,GN,<-AN];rw[GN]at e
   split at e
   .rename_i B4;rw[if_pos B4];cases e;exact⟨none,rfl,trivial⟩
   .cases e
 .exfalso;unfold HX at A9;by_cases AC:i<ds.length
  .rw[IS (AC:),EC,Dt AC]at A9;cases A9;exact f
  .rw[Nx (AC:),PG]at A9
   split at A9
   .cases A9;exact f
   .cases A9
def bW{K:Aa}{xe:DT->Str->AB->Prop}{n N:Nat}{m:B0}{vs:List V}{H:AB}{Q:Cd}{E:DT}(h:QP K n xe (DZ N m) vs H Q E) :
  ∃G,Fq ⟨K,G,H,xe E,IK⟩ m { B6:=λ_ H'=>Q .non H',EP:=Q } (NA N vs) H:=by
 obtain⟨G,ds,s,a,l,k⟩:=h;refine⟨G,G,HX N ds,nW s a,?_⟩;unfold DZ at k;refine rb k λf e k=>?_;cases f with
 |B6 ρ=>exact λσ' G' H' r _=>k .non G' H' r.kp (by erw[At])
 |EP d=>exact k
 |Ja ds=>exact k
 |Lq t=>exact k
 |rs t _=>cases k
 |Fu ρ=>cases k
 |Dn ρ=>cases k
def FR.of{G H G' H':AB}{σ :St}{ρ:AI}{EX:Str->AB->Prop}(r:Rel F G H σ ρ)(k:FR ⟨F.K,G,H,EX,IK⟩ G' H'):Rel F G' H' σ ρ:=r.grow k.EJ k.sub k.B4 λb A0=>k.new b A0
def P4:C5->R D
 |.v d=>.ok d
 |.o ds=>.ok (.lst ds)
 |.t t=>.ok (toD t)
noncomputable def af:C5->R μ
 |.o ds=>.ok ds
 |_=>.bad
noncomputable def NK(A:List A8)(G H:AB):AB:=λb=>if b∈A then H b else G b
def Rel.ez{G H G0 H0:AB}{σ :St}{ρ:AI}(r:Rel F G H σ ρ){F':BA}{t:T}{v:V}(Ap:F'.K=F.K)(q:MY F' G H t v)(u:C3 G0 H0 G H)(n:∀b∈Al H t v,H0 b=none/\F.H0 b=none/\¬Cc H σ ρ b) :
  Rel F (NK (Al H t v) G H) H σ ρ/\C3 G0 H0 (NK (Al H t v) G H) H/\At F.K (NK (Al H t v) G H) (toD t) v:=by
 have BH:Sub G (NK (Al H t v) G H):=λb o e=>by
  unfold NK;by_cases A0:b∈Al H t v
  .rw[(q.own b A0).1]at e;cases e
  .rw[if_neg A0];exact e
 refine⟨r.over rfl ⟨λb o e=>?_,r.kp.EJ.trans BH,r.kp.B4,λb A0=>?_⟩ BH λa AD=>?_,⟨u.g.trans BH,u.h,λb A0=>?_⟩,?_⟩
 .unfold NK at e
  split at e
  .exact e
  .exact r.kp.sub b o e
 .unfold NK;rw[if_neg (λz=>A0.1 (n b z).2.1)];exact r.kp.new b A0
 .obtain⟨A6,AA,Ao⟩:=r.foot AD;refine⟨rfl,?_,Ao⟩;unfold NK;rw[if_neg (λz=>(n a z).2.2 AD)];exact AA
 .unfold NK;rw[if_neg (λz=>A0.1 (n b z).1)];exact u.n b A0
 .rw[<-Ap];exact q.at_.view BH λa AD=>by unfold NK;rw[if_pos AD]
def Br(n:Nat)(BQ:μ->R C5)(m:B1):Ae:=λρ=>(m ρ).bind λds=>if ds.length=n then(BQ ds).bind P4 else .bad
noncomputable def Fg(n:Nat)(BQ:μ->R C5)(m:B1):B1:=λρ=>(m ρ).bind λds=>if ds.length=n then(BQ ds).bind af else .bad
def wI{n:Nat}{BQ:μ->R C5}{m:B1}{xe:DT->Str->AB->Prop}{E:DT}(AG:F.EX=xe E):Ej (Cx F (Br n BQ m)) (WH (QP F.K n xe BQ) [] E (Es F m)):=by
 delta Br r;refine rb h λds As h vs H1 Ah AK s1 a=>?_;by_cases AQ:ds.length=n
 .rw[if_pos AQ]at h;rw[LO];refine⟨Ah,ds,AK.kp.sub,a,AQ,?_⟩;cases e:BQ ds with
  |bad=>rw[e]at h;cases h
  |exc c=>rw[e]at h;intro G' H' k;have z:=h G' H' (FR.of AK k).kp;rw[AG]at z;exact z
  |ok t=>
   rw[e,R.EU]at h;cases t with
   |v d=>exact λv G' H' k BD=>h v H' G' (FR.of AK k) (s1.trans ⟨k.EJ,k.B4,k.new⟩) BD
   |o A4=>intro p xs G' H' k A6 AA Ao BG;have AA:H1 p=none:=AA;have BO:=FR.of AK k;have no:¬Cc H' σ ρ p:=Cc.fresh AK k.B4 AA;refine h (.ref p) H' _ (BO.take Ao A6 (AK.kp.B4.gone AA) no) ((s1.trans ⟨k.EJ,k.B4,k.new⟩).put (s1.h.gone AA) A6) ?_;erw[At];exact⟨p,xs,rfl,Da,BG.mono (Sub.upd A6)⟩
   |t t=>intro v G' H' k q;obtain⟨a1,a2,I3⟩:=(FR.of AK k).ez (F':=⟨F.K,Ah,H1,xe E,IK⟩) rfl q (s1.trans ⟨k.EJ,k.B4,k.new⟩) λb A0=>⟨s1.h.gone (q.own b A0).2,AK.kp.B4.gone (q.own b A0).2,Cc.fresh AK k.B4 (q.own b A0).2⟩;exact h v H' _ a1 a2 I3
 .rw[if_neg AQ]at h;cases h
def wJ{n:Nat}{BQ:μ->R C5}{m:B1}{xe:DT->Str->AB->Prop}{E:DT}(AG:F.EX=xe E):Ej (I8 F (Fg n BQ m)) (WH (QP F.K n xe BQ) [] E (Es F m)):=by
 delta Fg r;refine rb h λds As h vs H1 Ah AK s1 a=>?_;by_cases AQ:ds.length=n
 .rw[if_pos AQ]at h;rw[LO];refine⟨Ah,ds,AK.kp.sub,a,AQ,?_⟩;cases e:BQ ds with
  |bad=>rw[e]at h;cases h
  |exc c=>rw[e]at h;intro G' H' k;have z:=h G' H' (FR.of AK k).kp;rw[AG]at z;exact z
  |ok t=>
   rw[e,R.EU]at h;cases t with
   |v d=>cases h
   |t t=>cases h
   |o A4=>intro p xs G' H' k A6 AA Ao BG;have AA:H1 p=none:=AA;have BO:=FR.of AK k;exact h p xs H' G' BO (s1.trans ⟨k.EJ,k.B4,k.new⟩) (s1.h.gone AA) Ao A6 BG
 .rw[if_neg AQ]at h;cases h
end
end CP
namespace CP
open PySem PySem.Spec Bs
noncomputable def HT:Bb->Bb
 |.A2 d=>.A2 d
 |_=>.un
noncomputable def NE(nl:Nat)(caps:ι)(ρ:AI):AI:=ES nl .un++caps.map λj=>HT (ρ.getD j .un)
noncomputable def I5(set:D->AI->R AI)(tst:Ck)(elt:Ae):μ->AI->μ->R μ
 |[],_,ws=>.ok ws
 |d::ds,ρ,ws=>(set d ρ).bind λER=>(tst ER).bind λb=>if b=true then(elt ER).bind λy=>if ws.length<1000000 then I5 set tst elt ds ER (ws++[y])else .bad else I5 set tst elt ds ER ws
noncomputable def GL{α:Type}:R α->R α
 |.exc _=>.bad
 |r=>r
def E3(nl:Nat)(caps:ι)(mi:B1)(set:D->AI->R AI)(tst:Ck)(elt:Ae):B1:=λρ=>(mi ρ).bind λds=>GL (I5 set tst elt ds (NE nl caps ρ) [])
noncomputable def Gv(K:Aa)(G H:AB):BA:=⟨K,G,H,λ_ _=>False,IK⟩
def e6(K:Aa)(m:Ck):TT:=λσ H Q=>∃G0 H0,HO (Gv K G0 H0) m σ H Q
def e5(K:Aa)(m:Ae):TE:=λσ H Q=>∃G0 H0,Cx (Gv K G0 H0) m σ H Q
def m7:Bb->Bool
 |.un=>true|.A2 _=>true
 |_=>false
def m8{H:AB}{s:Bb}(h:m7 s=true)(o:Option V)(a:A8):¬Ez H s o a:=by
 cases s<;>first
  |exact λz=>z
  |cases h
def RI(ρ:AI):Prop:=∀(i:Nat)(s:Bb),ρ[i]?=some s->m7 s=true
def mG(nl:Nat)(caps:ι)(ρ:AI):RI (NE nl caps ρ):=λi s A9=>by
 unfold NE at A9;by_cases AC:i<nl
 .rw[IS (AC:),PG,if_pos AC]at A9;cases A9;rfl
 .rw[Nx (AC:),Se,EC]at A9;cases KU:caps[i-nl]? with
  |none=>rw[KU]at A9;cases A9
  |some j=>rw[KU]at A9;have A4:HT (ρ.getD j .un)=s:=Ey A9;subst A4;cases AJ:ρ.getD j .un<;>rfl
def Keeps(set:D->AI->R AI):Prop:=∀d ρ BL,set d ρ=.ok BL->RI ρ->RI BL
def ao(i:Nat):Keeps (BK i):=λd ρ BL e n j ds z=>by
 unfold BK at e
 split at e
 .cases e;rcases get_set z with⟨_,z⟩|⟨_,z⟩
  .subst z;rfl
  .exact n j ds z
 .cases e
theorem nj:∀{Ar:List (D->AI->R AI)},(∀f∈Ar,Keeps f)->∀ds ρ BL,IQ Ar ds ρ=.ok BL->RI ρ->RI BL
 |[],_,[],_,_,e,n=>by cases e;exact n
 |[],_,_::_,_,_,e,_=>by cases e
 |_::_,_,[],_,_,e,_=>by cases e
 |f::Ar,h,d::ds,ρ,BL,e,n=>by
  erw[IQ]at e;cases A9:f d ρ with
  |bad=>rw[A9]at e;cases e
  |exc c=>rw[A9]at e;cases e
  |ok ER=>rw[A9,R.EU]at e;exact nj (λg A_=>h g (by simp[A_])) ds ER BL e (h f γ d ρ ER A9 n)
def nt{Ar:List (D->AI->R AI)}(h:∀f∈Ar,Keeps f):Keeps (FO Ar):=λd ρ BL e n=>by
 cases d<;>first
  |(exact nj h _ _ _ e n)
  |(cases e)
section
variable{F:BA}
def ac4{G H:AB}{σ :St}{ρ:AI}(r:Rel F G H σ ρ){acc:A8}(AD:H acc=none)(nl:Nat)(caps:ι) :
  Rel (Gv F.K G H) G (upd H acc (.lst [])) (NF nl caps σ) (NE nl caps ρ):=by
 refine⟨⟨Sub.aK r.kp.sub (r.kp.sub.gone AD),Sub.refl _,Sub.upd AD,λ_ _=>rfl⟩,by simp[NF,NE],λi s e=>?_,λi j b s s' o o' A9 _ _ _ f _=>?_⟩
 .unfold NE at e;unfold NF;by_cases AC:i<nl
  .rw[IS (AC:),PG,if_pos AC]at e;rw[IS (AC:),PG,if_pos AC];cases e;exact⟨none,rfl,trivial⟩
  .rw[Nx (AC:),Se,EC]at e;rw[Nx (AC:),Se,EC];cases KU:caps[i-nl]? with
   |none=>rw[KU]at e;cases e
   |some j=>
    rw[KU]at e;refine⟨σ.getD j none,rfl,?_⟩;have A4:HT (ρ.getD j .un)=s:=Ey e;subst A4;cases CR:ρ[j]? with
    |none=>
     have eg:ρ.getD j .un=.un:=by rw[JF,CR];rfl
     rw[eg];exact trivial
    |some t=>
     have eg:ρ.getD j .un=t:=by rw[JF,CR];rfl
     rw[eg];obtain⟨o,A9,q⟩:=r.C2 j t CR;cases t with
     |un=>exact trivial
     |ob ds=>exact trivial
     |Eg t=>exact trivial
     |Bg _ t=>exact trivial
     |A2 d=>obtain⟨v,AH,a⟩:=q;refine⟨v,?_,a⟩;rw[JF,A9,AH];rfl
 .exact absurd f (m8 (mG nl caps ρ i s A9) o b)
def wL{nl:Nat}{caps:ι}{mi:B1}{set:D->AI->R AI}{tst:Ck}{elt:Ae}{g:Ib}(A_:∀G H,Pg (Gv F.K G H) g set)(AG:∀d ρ c,set d ρ≠.exc c)(AE:Keeps set) :
  Ej (I8 F (E3 nl caps mi set tst elt)) (aC (L3 F mi) g (e6 F.K tst) (e5 F.K elt) nl caps):=by
 delta E3 r;refine rb h λds As h DA H1 Ah AK Mp it acc AD=>?_;cases CR:I5 set tst elt ds (NE nl caps ρ) []with
 |bad=>rw[CR]at h;cases h
 |exc c=>rw[CR]at h;cases h
 |ok res=>
  rw[CR]at h
  refine⟨λi m σ2 Am=>m=ds.length-i/\i<=ds.length/\∃CL Eu ys ws,Rel (Gv F.K Ah H1) CL Am σ2 Eu/\RI Eu/\Am acc=some (.lst ys)/\CL acc=none/\AW F.K CL ws ys/\I5 set tst elt (ds.drop i) Eu ws=.ok res,
   ⟨ds.length,γ,IT _,Ah,_,[],[],ac4 AK AD nl caps,mG _ _ _,Da,AK.kp.sub.gone AD,.nil,(CR:)⟩,?_⟩
  rintro i m σ2 Am ⟨rfl,AC,CL,Eu,ys,ws,B7,D8,A6,AA,Ao,BG⟩;have BH:Sub Ah CL:=B7.kp.EJ;by_cases ID:i<ds.length
  .refine .inr ⟨it.go i Am (BH.trans B7.kp.sub) ID,λx Cb y=>?_⟩;obtain⟨d,Ga,Au,DW,Nq,I3⟩:=MV.turn (F:=Gv F.K Ah H1) it B7 BH ID y;have GK:ds.drop i=d::ds.drop (i+1):=by
    rw[Wm ID];have:=Dt ID;rw[Au]at this;rw[Ey this]
   rw[GK]at BG;erw[I5]at BG;cases CH:set d Eu with
   |bad=>rw[CH]at BG;cases BG
   |exc c=>exact absurd CH (AG d Eu c)
   |ok Je=>
    rw[CH,R.EU]at BG;refine A_ Ah H1 σ2 Eu Ga Cb x d _ Je DW I3 CH λσ5 Ru=>⟨Ah,H1,Ga,Je,Ru,?_⟩;have MR:RI Je:=AE d Eu Je CH D8;have iV:Cb acc=some (.lst ys):=Nq.h _ _ A6;have g3:Ga acc=none:=by rw[Nq.n acc (.of A6 λ_ z=>nomatch z)];exact AA
    cases F1:tst Je with
    |bad=>rw[F1]at BG;cases BG
    |exc c=>rw[F1]at BG;cases BG
    |ok b=>
     rw[F1,R.EU]at BG;intro T3 Y8 lc eD;have hJ:T3 acc=some (.lst ys):=eD.h _ _ iV;have OV:Y8 acc=none:=by rw[eD.n acc (.of iV λ_ z=>nomatch z)];exact g3
     have T9:AW F.K Y8 ws ys:=(Ao.mono Nq.g).mono eD.g;cases b with
     |false=>rw[if_neg Fy]at BG;rw[if_neg Fy];exact⟨_,δ,rfl,ID,Y8,Je,ys,ws,lc,MR,hJ,OV,T9,BG⟩
     |true=>
      rw[if_pos rfl]at BG;rw[if_pos rfl];refine⟨Ah,H1,Y8,Je,lc,?_⟩;cases bl:elt Je with
      |bad=>rw[bl]at BG;cases BG
      |exc c=>rw[bl]at BG;cases BG
      |ok y=>
       rw[bl,R.EU]at BG;intro e8 gG gF U5 u8 hI;have r_:gG acc=some (.lst ys):=u8.h _ _ hJ;have k5:gF acc=none:=by rw[u8.n acc (.of hJ λ_ z=>nomatch z)];exact OV
       by_cases AN:ws.length<1000000
       .rw[if_pos AN]at BG;have hj:AW F.K gF ws ys:=T9.mono u8.g;refine⟨ys,r_,by rw[<-hj.length];exact LZ AN ε,_,δ,rfl,ID,gF,Je,ys++[e8],ws++[y],?_,MR,Da,k5,hj.snoc hI,BG⟩;have Sv:(Gv F.K Ah H1).H0 acc=none:=AD;refine⟨⟨Sub.aK U5.kp.sub k5,U5.kp.EJ,λc o z=>?_,U5.kp.new⟩,U5.len,λj t z=>?_,λj k b s s' o o' I9 _ _ _ f _=>absurd f (m8 (MR j s I9) o b)⟩
        .rw[Cy (KI z Sv)];exact U5.kp.B4 c o z
        .obtain⟨o,Db,Dj⟩:=U5.C2 j t z;refine⟨o,Db,?_⟩;cases t with
         |un=>exact trivial
         |A2 d=>exact Dj
         |ob A4=>exact absurd (MR j _ z) (λw=>nomatch w)
         |Eg A4=>exact absurd (MR j _ z) (λw=>nomatch w)
         |Bg _ A4=>exact absurd (MR j _ z) (λw=>nomatch w)
       .rw[if_neg AN]at BG;cases BG
  .have e:ds.drop i=[]:=qd δ;rw[e]at BG;erw[I5]at BG;cases BG;have Fv:i=ds.length:=δ
   subst Fv;refine .inl ⟨it.stop Am (BH.trans B7.kp.sub),?_⟩;have k:FR ⟨F.K,Ah,H1,λ_ _=>False,IK⟩ CL Am:=B7.kp;exact h acc ys Am CL (FR.of AK k) (Mp.trans ⟨k.EJ,k.B4,k.new⟩) (Mp.h.gone AD) A6 AA Ao
end
mutual
noncomputable def Ci:D->D->Bool
 |.non,y=>(match y with|.non=>true|_=>false)
 |.AR a,y=>(match y with|.AR b=>a==b|.int b=>(if a then 1 else 0)==b|_=>false)
 |.int a,y=>(match y with|.AR b=>a==(if b then 1 else 0)|.int b=>a==b|_=>false)
 |.str a,y=>(match y with|.str b=>a==b|_=>false)
 |.tup xs,y=>(match y with|.tup ys=>Dv xs ys|.Do ys=>Dv xs ys|_=>false)
 |.Do xs,y=>(match y with|.tup ys=>Dv xs ys|.Do ys=>Dv xs ys|_=>false)
 |.lst xs,y=>(match y with|.lst ys=>Dv xs ys|.D1 ys=>Dv xs ys|_=>false)
 |.D1 xs,y=>(match y with|.lst ys=>Dv xs ys|.D1 ys=>Dv xs ys|_=>false)
 |_,_=>false
noncomputable def Dv:μ->μ->Bool
 |[],[]=>true
 |x::xs,y::ys=>Ci x y&&Dv xs ys
 |_,_=>false
end
noncomputable def okN:Nat->D->Bool
 |_,.non=>true
 |_,.AR _=>true
 |_,.int _=>true
 |_,.str _=>true
 |n+1,.tup xs=>xs.all (okN n)
 |n+1,.Do xs=>xs.all (okN n)
 |n+1,.lst xs=>xs.all (okN n)
 |n+1,.D1 xs=>xs.all (okN n)
 |_,_=>false
inductive L9(s:AP)(P:D->A7->Prop):D->A7->Prop where
 |non:L9 s P .non .none
 |AR (b:Bool):L9 s P (.AR b) (.bool b)
 |int (i:Int) (t:Tok):L9 s P (.int i) (.int i t)
 |str (x:Str) (t:Tok):L9 s P (.str x) (.str x t)
 |tup (a:A8) (ds:μ) (its:List A7) (h:s.heap.IsTuple a its.toArray) (l:ds.length=its.length) (p:∀(i:Nat) d u,ds[i]?=some d->its[i]?=some u->P d u):L9 s P (.tup ds) (.ref a)
 |Do (a:A8) (ds:μ) (its:List A7) (h:s.heap.IsTuple a its.toArray) (l:ds.length=its.length) (p:∀(i:Nat) d u,ds[i]?=some d->its[i]?=some u->P d u):L9 s P (.Do ds) (.ref a)
 |lst (a:A8) (ds:μ) (its:List A7) (h:s.heap.IsList a its.toArray) (l:ds.length=its.length) (p:∀(i:Nat) d u,ds[i]?=some d->its[i]?=some u->P d u):L9 s P (.lst ds) (.ref a)
 |D1 (a:A8) (ds:μ) (its:List A7) (h:s.heap.IsList a its.toArray) (l:ds.length=its.length) (p:∀(i:Nat) d u,ds[i]?=some d->its[i]?=some u->P d u):L9 s P (.D1 ds) (.ref a)
def Nc(K:Aa)(G:AB)(d:D)(u:A7):Prop:=∃x,At K G d x/\RelV x u
section
variable{X:Ac}{pins:List (A8×Obj)}{σ :St}{H G:AB}{s:AP}
def Su{K:Aa}{ds:μ}{xs:List V}{its:List A7}(q:AW K G ds xs)(r:Vals xs its):∀(i:Nat) d u,ds[i]?=some d->its[i]?=some u->Nc K G d u:=λi d u A9 AH=>by obtain⟨v,Au,a⟩:=q.get A9;obtain⟨FH,CH,CJ⟩:=r.get Au;rw[AH]at CH;cases CH;exact⟨v,a,CJ⟩
def QL(I:θ)(BH:Sub G H){d:D}{u:A7}{n:Nat}(ok:okN n d=true)(h:Nc X.K G d u):L9 s (Nc X.K G) d u:=by
 obtain⟨x,a,r⟩:=h;cases d with
 |non=>erw[At]at a;subst a;cases r;exact .non
 |AR b=>erw[At]at a;subst a;cases r;exact .AR b
 |int i=>erw[At]at a;subst a;obtain⟨t,rfl⟩:=r;exact .int i t
 |str i=>erw[At]at a;subst a;obtain⟨t,rfl⟩:=r;exact .str i t
 |tup ds=>erw[At]at a;obtain⟨p,xs,rfl,AV,al⟩:=a;cases r;obtain⟨its,CJ,Aj,_⟩:=I.tuple (CT.of (BH _ _ AV));exact .tup p ds its Aj (al.length.trans CJ.length) (Su al CJ)
 |lst ds=>erw[At]at a;obtain⟨p,xs,rfl,AV,al⟩:=a;cases r;obtain⟨its,CJ,Aj,_⟩:=I.list (CA.of (BH _ _ AV));exact .lst p ds its Aj.isList (al.length.trans CJ.length) (Su al CJ)
 |D1 ds=>erw[At]at a;obtain⟨p,xs,rfl,AV,al⟩:=a;cases r;obtain⟨its,CJ,Aj,_⟩:=I.list (CA.mono BH AV);exact .D1 p ds its Aj.isList (al.length.trans CJ.length) (Su al CJ)
 |Df ks xs=>cases n<;>cases ok
 |An ks xs=>cases n<;>cases ok
 |ins C ns xs=>cases n<;>cases ok
 |Md C=>cases n<;>cases ok
 |Do ds=>erw[At]at a;obtain⟨p,xs,rfl,AV,al⟩:=a;cases r;obtain⟨its,CJ,Aj,_⟩:=I.tuple (CT.mono BH AV);exact .Do p ds its Aj (al.length.trans CJ.length) (Su al CJ)
theorem bA:∀{xs ys:μ},xs.length≠ys.length->Dv xs ys=false
 |[],[],h=>absurd rfl h
 |[],_::_,_=>by erw[Dv]
 |_::_,[],_=>by erw[Dv]
 |x::xs,y::ys,h=>by erw[Dv];rw[bA (λe=>h (by simp[e])),fx]
def MM(xs ys:μ)(j:Nat):Bool:=match xs[j]?,ys[j]? with
 |some x,some y=>Ci x y
 |_,_=>true
def rA(f:Nat->Bool)(n:Nat):(EN (n+1)).all f=(f 0&&(EN n).all λj=>f (j+1)):=by rw[List.range_succ_eq_map,PP,Sl];rfl
theorem bB:∀{xs ys:μ},xs.length=ys.length->(EN xs.length).all (MM xs ys)=Dv xs ys
 |[],[],_=>by simp[Dv]
 |[],_::_,h=>by simp at h
 |_::_,[],h=>by simp at h
 |x::xs,y::ys,h=>by
  rw[H4,rA];have e:(λj=>MM (x::xs) (y::ys) (j+1))=MM xs ys:=by
   funext j
   simp[MM]
  rw[e,bB (h:)];erw[Dv];rfl
def in1_units(A:CK):A.in1.units=A.units+1:=rfl
def oC{A:CK}{P:D->A7->Prop}{d1 Ct:D}{u v:A7}(A6:L9 s P d1 u)(AA:L9 s P Ct v)(D0:Gh d1=true)(D3:Gh Ct=true) :
  UX A s u v (Ci d1 Ct)/\XQ A s u v (Ci d1 Ct)/\XM A s u v (!Ci d1 Ct):=by
 cases A6<;>cases AA<;>first
  |(cases D0;done)
  |(cases D3;done)
  |(erw[Ci,PO,fw];refine⟨?_,?_,?_⟩<;>with_reducible first|exact .same _|exact .none_none|exact .none_bool _|exact .none_int _ _|exact .none_str _ _|exact .bool_none _|exact .bool_bool _ _|exact .bool_int _ _ _|exact .bool_str _ _ _|exact .int_none _ _|exact .int_bool _ _ _|exact .int_int _ _ _ _|exact .int_str _ _ _ _|exact .str_none _ _|exact .str_bool _ _ _|exact .str_int _ _ _ _|exact .str_str _ _ _ _)
def kQ{A:CK}{P:D->A7->Prop}{d1 Ct:D}{u v:A7}(BM:A.units<DS)(A6:L9 s P d1 u)(AA:L9 s P Ct v)(o:Gh d1=true/\Gh Ct=false\/Gh d1=false/\Gh Ct=true) :
  UX A s u v (Ci d1 Ct)/\XQ A s u v (Ci d1 Ct)/\XM A s u v (!Ci d1 Ct):=by
 cases A6<;>cases AA<;>first
  |(rcases o with⟨Db,Dj⟩|⟨Db,Dj⟩<;>first|(cases Db;done)|(cases Dj;done))
  |(erw[Ci,fw];refine⟨?_,?_,?_⟩<;>with_reducible first|exact .none_tuple ‹_› BM|exact .none_list ‹_› BM|exact .bool_tuple _ ‹_› BM|exact .bool_list _ ‹_› BM|exact .int_tuple _ _ ‹_› BM|exact .int_list _ _ ‹_› BM|exact .str_tuple _ _ ‹_› BM|exact .str_list _ _ ‹_› BM|exact .tuple_none ‹_› BM|exact .list_none ‹_› BM|exact .tuple_bool _ ‹_› BM|exact .list_bool _ ‹_› BM|exact .tuple_int _ _ ‹_› BM|exact .list_int _ _ ‹_› BM|exact .tuple_str _ _ ‹_› BM|exact .list_str _ _ ‹_› BM)
theorem iw:∀{xs ys:μ},xs.length=ys.length->(∀(i:Nat) x y,xs[i]?=some x->ys[i]?=some y->Ci x y=true)->Dv xs ys=true
 |[],[],_,_=>by erw[Dv]
 |[],_::_,h,_=>by simp at h
 |_::_,[],h,_=>by simp at h
 |x::xs,y::ys,h,k=>by erw[Dv];rw[k 0 x y rfl rfl,iw (h:) λi a b A9 AH=>k (i+1) a b (A9:) (AH:)];rfl
def oE{K:Aa}{d1 Ct:D}{x:V}(D0:Gh d1=true)(a1:At K G d1 x)(a2:At K G Ct x):Ci d1 Ct=true:=by
 cases d1 with
 |non=>erw[At]at a1;subst a1;cases Ct<;>erw[At]at a2<;>first|(erw[Ci];done)|(cases a2;done)|(obtain⟨a,xs,e,_⟩:=a2;cases e;done)|(obtain⟨a,Ag,xs,e,_⟩:=a2;cases e;done)
 |AR b=>erw[At]at a1;subst a1;cases Ct<;>erw[At]at a2<;>first|(cases a2;erw[Ci,beq_self_eq_true];done)|(cases a2;done)|(obtain⟨a,xs,e,_⟩:=a2;cases e;done)|(obtain⟨a,Ag,xs,e,_⟩:=a2;cases e;done)
 |int b=>erw[At]at a1;subst a1;cases Ct<;>erw[At]at a2<;>first|(cases a2;erw[Ci,beq_self_eq_true];done)|(cases a2;done)|(obtain⟨a,xs,e,_⟩:=a2;cases e;done)|(obtain⟨a,Ag,xs,e,_⟩:=a2;cases e;done)
 |str b=>erw[At]at a1;subst a1;cases Ct<;>erw[At]at a2<;>first|(cases a2;erw[Ci,beq_self_eq_true];done)|(cases a2;done)|(obtain⟨a,xs,e,_⟩:=a2;cases e;done)|(obtain⟨a,Ag,xs,e,_⟩:=a2;cases e;done)
 |_=>cases D0
def iv{d1 Ct:D}(D3:Gh Ct=true)(D0:Gh d1=false){K:Aa}{x:V}(a1:At K G d1 x)(a2:At K G Ct x):False:=by
 cases Ct<;>first
  |(cases D3;done)
  |(erw[At]at a2;subst a2
    cases d1<;>first
     |(cases D0;done)
     |(erw[At]at a1;obtain⟨a,xs,e,_⟩:=a1;cases e;done)
     |(erw[At]at a1;obtain⟨a,Ag,xs,e,_⟩:=a1;cases e;done))
inductive Hn(K:Aa)(G:AB):D->A8->Bool->μ->List V->Prop where
 |tup {a ds xs} (h:CT K G a xs) (q:AW K G ds xs):Hn K G (.tup ds) a true ds xs
 |Do {a ds xs} (h:CT K G a xs) (q:AW K G ds xs):Hn K G (.Do ds) a true ds xs
 |lst {a ds xs} (h:G a=some (.lst xs)) (q:AW K G ds xs):Hn K G (.lst ds) a false ds xs
 |D1 {a ds xs} (h:CA K G a xs) (q:AW K G ds xs):Hn K G (.D1 ds) a false ds xs
def Tb{K:Aa}{n:Nat}{d:D}{x:V}(o:okN n d=true)(ns:Gh d=false)(a:At K G d x):∃p b ds xs,x=.ref p/\Hn K G d p b ds xs/\∃m,n=m+1/\ds.all (okN m)=true:=by
 cases d with
 |tup ds=>
  erw[At]at a;obtain⟨p,xs,e,h,q⟩:=a;cases n with
  |zero=>cases o
  |succ m=>exact⟨p,_,ds,xs,e,.tup (CT.of h) q,m,rfl,o⟩
 |lst ds=>
  erw[At]at a;obtain⟨p,xs,e,h,q⟩:=a;cases n with
  |zero=>cases o
  |succ m=>exact⟨p,_,ds,xs,e,.lst h q,m,rfl,o⟩
 |D1 ds=>
  erw[At]at a;obtain⟨p,xs,e,h,q⟩:=a;cases n with
  |zero=>cases o
  |succ m=>exact⟨p,_,ds,xs,e,.D1 h q,m,rfl,o⟩
 |Df _ _=>cases n<;>cases o
 |An _ _=>cases n<;>cases o
 |ins _ _ _=>cases n<;>cases o
 |Md _=>cases n<;>cases o
 |Do ds=>
  erw[At]at a;obtain⟨p,xs,e,h,q⟩:=a;cases n with
  |zero=>cases o
  |succ m=>exact⟨p,_,ds,xs,e,.Do h q,m,rfl,o⟩
 |_=>cases ns
def Hn.Iz{K:Aa}{d:D}{p:A8}{b:Bool}{ds:μ}{xs:List V}(h:Hn K G d p b ds xs):AW K G ds xs:=by cases h<;>assumption
def Hn.eq{K:Aa}{d1 Ct:D}{EA Cw:A8}{FU G3:Bool}{Gr HD:μ}{QX PD:List V}(A6:Hn K G d1 EA FU Gr QX)(AA:Hn K G Ct Cw G3 HD PD):Ci d1 Ct=(FU==G3&&Dv Gr HD):=by cases A6<;>cases AA<;>simp[Ci]
theorem Hn.heap(I:θ)(BH:Sub G H){d:D}{p:A8}{b:Bool}{ds:μ}{xs:List V}(h:Hn X.K G d p b ds xs) :
  ∃its:List A7,Vals xs its/\(b=true->s.heap.IsTuple p its.toArray)/\(b=false->s.heap.IsList p its.toArray):=by
 cases h with
 |tup h q=>obtain⟨its,CJ,Aj,_⟩:=I.tuple (CT.mono BH h);exact⟨its,CJ,λ_=>Aj,λz=>by cases z⟩
 |Do h q=>obtain⟨its,CJ,Aj,_⟩:=I.tuple (CT.mono BH h);exact⟨its,CJ,λ_=>Aj,λz=>by cases z⟩
 |lst h q=>obtain⟨its,CJ,Aj,_⟩:=I.list (CA.of (BH _ _ h));exact⟨its,CJ,(λz=>by cases z),λ_=>Aj.isList⟩
 |D1 h q=>obtain⟨its,CJ,Aj,_⟩:=I.list (CA.mono BH h);exact⟨its,CJ,(λz=>by cases z),λ_=>Aj.isList⟩
def Hn.same(I:θ)(BH:Sub G H){d1 Ct:D}{p:A8}{FU G3:Bool}{Gr HD:μ}{QX PD:List V}(A6:Hn X.K G d1 p FU Gr QX)(AA:Hn X.K G Ct p G3 HD PD):FU=G3/\QX=PD:=by
 obtain⟨Pb,AK,t1,G8⟩:=A6.heap I BH;obtain⟨IE,B7,DI,Dp⟩:=AA.heap I BH;cases FU with
 |true=>
  cases G3 with
  |false=>exact absurd rfl (qe (Dp rfl) (t1 rfl))
  |true=>
   refine⟨rfl,?_⟩;cases A6<;>cases AA<;>
   exact I.eB (CT.mono BH (by assumption)) (CT.mono BH (by assumption))
 |false=>
  cases G3 with
  |true=>exact absurd rfl (qe (G8 rfl) (DI rfl))
  |false=>
   refine⟨rfl,?_⟩;have g1:CA X.K H p QX:=by
    cases A6 with
    |lst h q=>exact CA.of (BH _ _ h)
    |D1 h q=>exact CA.mono BH h
   have g2:CA X.K H p PD:=by
    cases AA with
    |lst h q=>exact CA.of (BH _ _ h)
    |D1 h q=>exact CA.mono BH h
   exact I.cV g1 g2
def TA{f:D->Bool}{ds:μ}(h:ds.all f=true){i:Nat}{d:D}(e:ds[i]?=some d):f d=true:=List.all_eq_true.mp h d (Hd e)
def sX(I:θ)(BH:Sub G H):∀(n:Nat){d1 Ct:D}{x:V},okN n d1=true->okN n Ct=true->At X.K G d1 x->At X.K G Ct x->Ci d1 Ct=true:=by
 intro n;induction n with
 |zero=>intro d1 Ct x D0 D3 a1 a2;exact oE (by cases d1<;>first|rfl|(cases D0)) a1 a2
 |succ n Bh=>
  intro d1 Ct x D0 D3 a1 a2;cases s1:Gh d1 with
  |true=>exact oE s1 a1 a2
  |false=>
   cases s2:Gh Ct with
   |true=>exact(iv s2 s1 a1 a2).elim
   |false=>
    obtain⟨EA,FU,Gr,QX,A9,Ak,Hr,il,Cg⟩:=Tb D0 s1 a1;obtain⟨Cw,G3,HD,PD,AH,BC,HZ,im,By⟩:=Tb D3 s2 a2;subst A9;cases AH;have:n=Hr:=δ
    subst this;have:n=HZ:=δ
    subst this;obtain⟨BS,ex⟩:=Ak.same I BH BC;subst BS;subst ex;rw[Ak.eq BC,beq_self_eq_true,g9];refine iw (Ak.Iz.length.trans BC.Iz.length.symm) λi a b As BS=>?_;obtain⟨v,ev,BD⟩:=Ak.Iz.get As;obtain⟨Nt,Ve,bv⟩:=BC.Iz.get BS;rw[ev]at Ve;cases Ve;exact Bh (TA Cg As) (TA By BS) BD bv
def b9(I:θ)(BH:Sub G H):∀(n:Nat){d1 Ct:D}{u v:A7}{A:CK},okN n d1=true->okN n Ct=true->Nc X.K G d1 u->Nc X.K G Ct v->A.units+n<DS->
  UX A s u v (Ci d1 Ct)/\XQ A s u v (Ci d1 Ct)/\XM A s u v (!Ci d1 Ct):=by
 intro n;induction n with
 |zero=>
  intro d1 Ct u v A D0 D3 a1 a2 BM;refine oC (QL I BH D0 a1) (QL I BH D3 a2) ?_ ?_
  .cases d1<;>first|rfl|(cases D0)
  .cases Ct<;>first|rfl|(cases D3)
 |succ n Bh=>
  intro d1 Ct u v A D0 D3 a1 a2 BM;have M3:A.units<DS:=δ
  cases s1:Gh d1 with
  |true=>
   cases s2:Gh Ct with
   |true=>exact oC (QL I BH D0 a1) (QL I BH D3 a2) s1 s2
   |false=>exact kQ M3 (QL I BH D0 a1) (QL I BH D3 a2) (.inl ⟨s1,s2⟩)
  |false=>
   cases s2:Gh Ct with
   |true=>exact kQ M3 (QL I BH D0 a1) (QL I BH D3 a2) (.inr ⟨s1,s2⟩)
   |false=>
    obtain⟨FX,HS,abj⟩:=a1;obtain⟨FD,at2,abk⟩:=a2;obtain⟨EA,FU,Gr,QX,A9,Ak,Hr,il,Cg⟩:=Tb D0 s1 HS;obtain⟨Cw,G3,HD,PD,AH,BC,HZ,im,By⟩:=Tb D3 s2 at2;subst A9;subst AH;cases abj;cases abk;have:n=Hr:=δ
    subst this;have:n=HZ:=δ
    subst this;obtain⟨Pb,AK,t1,G8⟩:=Ak.heap I BH;obtain⟨IE,B7,DI,Dp⟩:=BC.heap I BH;have Sy:Gr.length=Pb.length:=Ak.Iz.length.trans AK.length;have WL:HD.length=IE.length:=BC.Iz.length.trans B7.length;have item:∀j(A6:j<Pb.toArray.size)(AA:j<IE.toArray.size),UX A.in1 s Pb.toArray[j] IE.toArray[j] (MM Gr HD j):=λj A6 AA=>by
     have Og:j<Gr.length:=by rw[Sy];simpa using A6
     have Uw:j<HD.length:=by rw[WL];simpa using AA
     have g1:Nc X.K G Gr[j] Pb.toArray[j]:=Su Ak.Iz AK j _ _ (Dt Og) (by simp at A6;simp[A6]);have g2:Nc X.K G HD[j] IE.toArray[j]:=Su BC.Iz B7 j _ _ (Dt Uw) (by simp at AA;simp[AA]);have:=(Bh (A:=A.in1) (TA Cg (Dt Og)) (TA By (Dt Uw)) g1 g2 (by rw[in1_units];lia)).1;unfold MM;rw[Dt Og,Dt Uw];exact this
    have whole:XQ A s (.ref EA) (.ref Cw) (Ci d1 Ct)/\XM A s (.ref EA) (.ref Cw) (!Ci d1 Ct):=by
     rw[Ak.eq BC];cases FU with
     |true=>
      cases G3 with
      |false=>exact⟨SeqAt.RcAt.tuple_list (t1 rfl) (Dp rfl) M3,SeqAt.RcNeAt.tuple_list (t1 rfl) (Dp rfl) M3⟩
      |true=>
       have BW:=SeqAt.RcAt.tuples (e:=MM Gr HD) (t1 rfl) (DI rfl) M3 item;have Ea:=SeqAt.RcNeAt.tuples (e:=MM Gr HD) (t1 rfl) (DI rfl) M3 item;have eq:((EN (min Pb.toArray.size IE.toArray.size)).all (MM Gr HD)&&Pb.toArray.size==IE.toArray.size)=(true==true&&Dv Gr HD):=by
        rw[Dy,Dy,<-Sy,<-WL,beq_self_eq_true,g9];by_cases AN:Gr.length=HD.length
        .rw[<-AN,Nat.min_self,bB AN,beq_self_eq_true,Sf]
        .rw[bA AN];have:(Gr.length==HD.length)=false:=by simpa using AN
         rw[this,fx]
       rw[eq]at BW;refine⟨BW,?_⟩
       first
        |(rw[eq]at Ea;exact Ea)
        |exact Ea
     |false=>
      cases G3 with
      |true=>exact⟨SeqAt.RcAt.list_tuple (G8 rfl) (DI rfl) M3,SeqAt.RcNeAt.list_tuple (G8 rfl) (DI rfl) M3⟩
      |false=>
       rw[beq_self_eq_true,g9];by_cases AN:Gr.length=HD.length
       .have BW:=SeqAt.RcAt.lists (e:=MM Gr HD) (G8 rfl) (Dp rfl) (by rw[Dy,Dy,<-Sy,<-WL];exact AN) M3 item;have Ea:=SeqAt.RcNeAt.lists (e:=MM Gr HD) (G8 rfl) (Dp rfl) (by rw[Dy,Dy,<-Sy,<-WL];exact AN) M3 item;rw[Dy,<-Sy,bB AN]at BW Ea;exact⟨BW,Ea⟩
       .have Aq:(Pb.toArray.size !=IE.toArray.size)=true:=by
          rw[Dy,Dy,<-Sy,<-WL];simpa using AN
        rw[bA AN];exact⟨SeqAt.RcAt.lists_lengths (G8 rfl) (Dp rfl) Aq M3,SeqAt.RcNeAt.lists_lengths (G8 rfl) (Dp rfl) Aq M3⟩
    refine⟨?_,whole⟩;by_cases AZ:EA=Cw
    .subst AZ;rw[sX I BH (n+1) D0 D3 HS at2];exact SeqAt.EqAt.same _
    .exact SeqAt.EqAt.of_refs AZ whole.1
end
noncomputable def notStar:AU->Bool
 |.Starred .. =>false
 |_=>true
def acr(e:AU)(A4:List AU)(env:Env)(h:notStar e=true):BF (e::A4) env=(false,BJ e env)::BF A4 env:=by cases e<;>first|rfl|(cases h)
noncomputable def Oz:AU->Bool
 |.ListComp .. =>false
 |.SetComp .. =>false
 |.DictComp .. =>false
 |_=>true
def Lv(e:AU)(t:Option AU)(l:Nat)(env:Env)(h:Oz e=true):O6 e t l env=pure false:=by cases e<;>first|rfl|(cases h)
noncomputable def aak:AU->Bool
 |.Slice .. =>false
 |_=>true
def Cn{b:AU}(h:aak b=true:=by rfl):hE b:=λo i=>by cases b<;>first|rfl|(cases h)
section
variable{X:Ac}{F:BA}{e a b c:AU}{A4:List AU}{pos:Pos}
def Av.imp{t t':TE}(h:Av X e t)(i:Ej t' t):Av X e t':=λpins s σ H Q I hw=>h pins s σ H Q I (i σ H Q hw)
def F_.imp{t t':TT}(h:F_ X e t)(i:Ph t' t):F_ X e t':=λpins s σ H Q I hw=>h pins s σ H Q I (i σ H Q hw)
def Jk.imp{t t':TT}(h:Jk X e t)(i:Ph t' t):Jk X e t':=λSW pins s σ H Q I hw=>h SW pins s σ H Q I (i σ H Q hw)
def GH.imp{t t':Ew}(h:GH X A4 t)(i:gJ t' t):GH X A4 t':=λp pins s σ H Q I hw=>h p pins s σ H Q I (i σ H Q hw)
def DO.imp{st:Be}{t t':FT}(h:DO X st t)(i:I0 t' t):DO X st t':=λpins s σ H CC I hw=>h pins s σ H CC I (i CC σ H hw)
def GP.imp{st:List Be}{t t':FT}(h:GP X st t)(i:I0 t' t):GP X st t':=λpins s σ H CC I hw=>h pins s σ H CC I (i CC σ H hw)
def GI.imp{Bw:AU}{t t':TI}(h:GI X Bw e t)(i:Oq t' t):GI X Bw e t':=λpins s σ H Q I hw=>h pins s σ H Q I (i σ H Q hw)
abbrev Jg(X:Ac)(F:BA)(e:AU)(m:Ae):Prop:=Av X e (Cx F m)
abbrev iA(X:Ac)(F:BA)(e:AU)(m:B1):Prop:=Av X e (I8 F m)
abbrev iP(X:Ac)(F:BA)(e:AU)(m:Ck):Prop:=F_ X e (HO F m)
abbrev hQ(X:Ac)(F:BA)(A4:List AU)(m:B1):Prop:=GH X A4 (Es F m)
abbrev rf(X:Ac)(F:BA)(st:List Be)(m:B0):Prop:=GP X st (Fq F m)
abbrev gH(X:Ac)(F:BA)(Bw e:AU)(m:B1):Prop:=GI X Bw e (L3 F m)
def tL{x:Str}{v:V}{u:A7}{d:D}(hm:X.mg x=some u)(r:RelV v u)(at':∀G,At F.K G d v)(A_:EE X x:=by rfl)(hd:ζ:=by decide):Jg X F (.Name x pos) (A5 d):=
 Av.imp (lx A_ hm r hd) (VL at')
variable{st:Be}{SQ:List Be}
def Pz{op:Operator}{r:Ek}{f:D->D->R D}{m n:Ae}(ho:E5 X (JM op) r)(hf:Hl F r f)(AD:Jg X F a m)(A0:Jg X F b n):Jg X F (.BinOp a op b pos) (A3 f m n):=Av.imp (dL ho AD A0) (YU hf)
def br{op:Ki}{r:Ek}{f:D->D->R D}{m n:Ae}(ho:E5 X (GE op) r)(hf:Hl F r f)(AD:Jg X F a m)(A0:Jg X F b n)(hm:Ir op b=false):Jg X F (.Compare a [op] [b] pos) (A3 f m n):=Av.imp (abX ho AD A0 hm) (YU hf)
def QR{op:Ki}{r:Ek}{f:D->D->R D}{m n:Ae}(ho:E5 X (GE op) r)(hf:Hl F r f)(AD:Jg X F a m)(A0:Jg X F b n)(hm:Ir op b=false):iP X F (.Compare a [op] [b] pos) (Ax (A3 f m n)):=
 F_.imp (acM ho AD A0 hm) λσ H Q h=>by obtain⟨G,ρ,r,k⟩:=jZ (F:=F) (m:=A3 f m n) σ H Q h;exact YU hf σ H _ ⟨G,ρ,r,k⟩
def tM{op:UnaryOp}{r:V->AB->Cd->Prop}{f:D->R D}{m:Ae}(ho:YG X (unaryOp op) r)(hf:iT F r f)(AD:Jg X F a m):Jg X F (.UnaryOp op a pos) (C4 f m):=Av.imp (ab1 ho AD) (xn hf)
noncomputable def M4(f:Int->Int->R D):D->D->R D
 |.int i,.int j=>f i j
 |_,_=>.bad
def Ze{g:Int->Int->V}{f:Int->Int->D}(h:∀i j G,At F.K G (f i j) (g i j)):Hl F (N8 g) (M4 λi j=>.ok (f i j)):=by
 intro σ ρ G H x y Ag Gs Q r Bn Cq k;unfold M4 at k
 split at k
 .rename_i i j;erw[At]at Bn Cq;exact⟨i,j,Bn,Cq,k _ H G r (C3.refl _ _) (h i j G)⟩
 .exact k.elim
def U3{C:Int->Int->Prop}[∀i j,Decidable (C i j)]{g:Int->Int->V}{f:Int->Int->D}(h:∀i j G,At F.K G (f i j) (g i j)):Hl F (U6 C g) (M4 λi j=>if C i j then .ok (f i j)else .bad):=by
 intro σ ρ G H x y Ag Gs Q r Bn Cq k;unfold M4 at k
 split at k
 .rename_i i j;erw[At]at Bn Cq;dsimp only at k
  split at k
  .rename_i AO;exact⟨i,j,Bn,Cq,AO,k _ H G r (C3.refl _ _) (h i j G)⟩
  .exact k.elim
 .exact k.elim
noncomputable instance(i j:Int):Decidable (Y6 i j):=by unfold Y6;infer_instance
noncomputable instance(i j:Int):Decidable (Y7 i j):=by unfold Y7;infer_instance
noncomputable instance(i j:Int):Decidable (TY i j):=by unfold TY;infer_instance
noncomputable def SR:=M4 λi j=>.ok (.int (i-j))
noncomputable def Ks:=M4 λi j=>if TY i j then .ok (.int (i*j))else .bad
noncomputable def Eb:=M4 λi j=>if Y6 i j then .ok (.int (i/j))else .bad
noncomputable def D5:=M4 λi j=>if 0<j then .ok (.int (i%j))else .bad
noncomputable def P2:=M4 λi j=>if Y7 i j then .ok (.int (i^j.toNat))else .bad
noncomputable def Rj:=M4 λi j=>.ok (.AR (decide (i<j)))
noncomputable def Pd:=M4 λi j=>.ok (.AR (decide (i<=j)))
noncomputable def Yb:=M4 λi j=>.ok (.AR (decide (j<i)))
variable{m n:Ae}
noncomputable def EW:D->R D
 |.int i=>.ok (.int (-i))
 |_=>.bad
noncomputable def DP:D->D->R D
 |.int i,.int j=>.ok (.int (i+j))
 |.str x,.str y=>if x.length+y.length<=1000000 then .ok (.str (x++y))else .bad
 |.lst xs,.lst ys=>if xs.length+ys.length<=1000000 then .ok (.lst (xs++ys))else .bad
 |_,_=>.bad
def aa5:Hl F (λx y H Q=>N8 (λi j=>.int (i+j)) x y H Q\/(∃i j,x=.str i/\y=.str j/\i.length+j.length<=CD/\Q (.str (i++j)) H)\/mB x y H Q) DP:=by
 intro σ ρ G H x y Ag Gs Q r Bn Cq k;unfold DP at k
 split at k
 .rename_i i j;erw[At]at Bn Cq;exact .inl ⟨i,j,Bn,Cq,k _ H G r (C3.refl _ _) (by erw[At])⟩
 .rename_i i j;erw[At]at Bn Cq
  split at k
  .rename_i AN;exact .inr (.inl ⟨i,j,Bn,Cq,FF AN ε,k _ H G r (C3.refl _ _) (by erw[At])⟩)
  .exact k.elim
 .rename_i ds A4;erw[At]at Bn Cq
  split at k
  .rename_i AN;obtain⟨p,xs,A9,A6,Ak⟩:=Bn;obtain⟨Cw,ys,AH,AA,BC⟩:=Cq;refine .inr (.inr ⟨p,Cw,xs,ys,A9,AH,r.kp.sub _ _ A6,r.kp.sub _ _ AA,by rw[<-Ak.length,<-BC.length];exact FF AN ε,λl AQ=>?_⟩);refine k (.ref l) _ _ (r.lay AQ) (C3.lay r.kp.sub AQ) ?_;erw[At];exact⟨l,xs++ys,rfl,Da,(Ak.append BC).mono (Sub.upd (r.kp.sub.gone AQ))⟩
  .exact k.elim
 .exact k.elim
def BP(b:Bool)(x y:D):R D:=if okN 8 x=true/\okN 8 y=true then .ok (.AR (if b then Ci x y else !Ci x y))else .bad
def dV(F:BA)(b:Bool):Ek:=λx y H Q=>∃G d1 Ct,Sub G H/\At F.K G d1 x/\At F.K G Ct y/\okN 8 d1=true/\okN 8 Ct=true/\Q (.AR (if b then Ci d1 Ct else !Ci d1 Ct)) H
def lg(Ap:F.K=X.K)(BM:X.A.units+64<DS):E5 X (GE .Eq) (dV F true):=by intro pins s σ H x y v u Q I BR Bt h;obtain⟨G,d1,Ct,BH,a1,a2,D0,D3,q⟩:=h;rw[Ap]at a1 a2;exact(b9 I BH 8 (A:=X.A) D0 D3 ⟨x,a1,BR⟩ ⟨y,a2,Bt⟩ δ).2.1 X.prog X.w X.xe _ ⟨.AR _,H,I,rfl,q⟩
def lj(Ap:F.K=X.K)(BM:X.A.units+64<DS):E5 X (GE .NotEq) (dV F false):=by intro pins s σ H x y v u Q I BR Bt h;obtain⟨G,d1,Ct,BH,a1,a2,D0,D3,q⟩:=h;rw[Ap]at a1 a2;exact(b9 I BH 8 (A:=X.A) D0 D3 ⟨x,a1,BR⟩ ⟨y,a2,Bt⟩ δ).2.2 X.prog X.w X.xe _ ⟨.AR _,H,I,rfl,q⟩
def Zd(b:Bool):Hl F (dV F b) (BP b):=by
 intro σ ρ G H x y Ag Gs Q r Bn Cq k;unfold BP at k
 split at k
 .rename_i ho;exact⟨G,Ag,Gs,r.kp.sub,Bn,Cq,ho.1,ho.2,k _ H G r (C3.refl _ _) (by erw[At])⟩
 .exact k.elim
end
section
variable{X:Ac}{F:BA}{e a b c:AU}{A4:List AU}{pos:Pos}{m n:Ae}
theorem ix:∀{ds ds':μ},ds.length=ds'.length->(∀(i:Nat) x y,ds[i]?=some x->ds'[i]?=some y->∀z,Ci x z=Ci y z)->∀A4,Dv ds A4=Dv ds' A4
 |[],[],_,_,_=>rfl
 |[],_::_,h,_,_=>by simp at h
 |_::_,[],h,_,_=>by simp at h
 |x::xs,y::ys,h,k,[]=>by erw[Dv]
 |x::xs,y::ys,h,k,e::A4=>by erw[Dv];rw[k 0 x y rfl rfl e,ix (h:) (λi a b A9 AH=>k (i+1) a b (A9:) (AH:)) A4]
def oD{K:Aa}{G:AB}{d d':D}{x:V}(o:Gh d=true)(a1:At K G d x)(a2:At K G d' x):d=d':=by
 cases d with
 |non=>erw[At]at a1;subst a1;cases d'<;>erw[At]at a2<;>first|rfl|(cases a2;done)|(obtain⟨a,xs,e,_⟩:=a2;cases e;done)|(obtain⟨a,Ag,xs,e,_⟩:=a2;cases e;done)
 |AR b=>erw[At]at a1;subst a1;cases d'<;>erw[At]at a2<;>first|(cases a2;rfl)|(cases a2;done)|(obtain⟨a,xs,e,_⟩:=a2;cases e;done)|(obtain⟨a,Ag,xs,e,_⟩:=a2;cases e;done)
 |int b=>erw[At]at a1;subst a1;cases d'<;>erw[At]at a2<;>first|(cases a2;rfl)|(cases a2;done)|(obtain⟨a,xs,e,_⟩:=a2;cases e;done)|(obtain⟨a,Ag,xs,e,_⟩:=a2;cases e;done)
 |str b=>erw[At]at a1;subst a1;cases d'<;>erw[At]at a2<;>first|(cases a2;rfl)|(cases a2;done)|(obtain⟨a,xs,e,_⟩:=a2;cases e;done)|(obtain⟨a,Ag,xs,e,_⟩:=a2;cases e;done)
 |_=>cases o
def Hn.val{K:Aa}{G:AB}{d:D}{p:A8}{b:Bool}{ds:μ}{xs:List V}(h:Hn K G d p b ds xs)(e:D):Ci d e=match e with
  |.tup A4=>b&&Dv ds A4
  |.Do A4=>b&&Dv ds A4
  |.lst A4=>!b&&Dv ds A4
  |.D1 A4=>!b&&Dv ds A4
  |_=>false:=by
 cases h<;>cases e<;>simp[Ci]
section
variable{pins:List (A8×Obj)}{σ :St}{H G:AB}{s:AP}
def sW(I:θ)(BH:Sub G H):∀(n:Nat){d d':D}{x:V},okN n d=true->okN n d'=true->At X.K G d x->At X.K G d' x->∀e,Ci d e=Ci d' e:=by
 intro n;induction n with
 |zero=>intro d d' x D0 D3 a1 a2 e;rw[oD (by cases d<;>first|rfl|(cases D0)) a1 a2]
 |succ n Bh=>
  intro d d' x D0 D3 a1 a2 e;cases s1:Gh d with
  |true=>rw[oD s1 a1 a2]
  |false=>
   cases s2:Gh d' with
   |true=>exact(iv s2 s1 a1 a2).elim
   |false=>
    obtain⟨EA,FU,Gr,QX,A9,Ak,Hr,il,Cg⟩:=Tb D0 s1 a1;obtain⟨Cw,G3,HD,PD,AH,BC,HZ,im,By⟩:=Tb D3 s2 a2;subst A9;cases AH;have:n=Hr:=δ
    subst this;have:n=HZ:=δ
    subst this;obtain⟨BS,ex⟩:=Ak.same I BH BC;subst BS;subst ex;have el:∀A4,Dv Gr A4=Dv HD A4:=ix (Ak.Iz.length.trans BC.Iz.length.symm) λi a b As BS z=>by obtain⟨v,ev,BD⟩:=Ak.Iz.get As;obtain⟨Nt,Ve,bv⟩:=BC.Iz.get BS;rw[ev]at Ve;cases Ve;exact Bh (TA Cg As) (TA By BS) BD bv z
    rw[Ak.val,BC.val];cases e<;>first|rfl|(erw[el])
open Classical in
noncomputable def Ps(K:Aa)(G:AB)(d:D)(u:A7):Bool:=if h:∃d',okN 7 d'=true/\Nc K G d' u then Ci (qx h) d else false
def hq(I:θ)(BH:Sub G H){d d1:D}{u:A7}(o:okN 7 d=true)(h:Nc X.K G d u):Ps X.K G d1 u=Ci d d1:=by have AG:∃d',okN 7 d'=true/\Nc X.K G d' u:=⟨d,o,h⟩;unfold Ps;rw[dif_pos AG];obtain⟨o',h'⟩:=fR AG;obtain⟨x,a,r⟩:=h;obtain⟨Tj,Jq,BO⟩:=h';have:Tj=x:=BO.inj r;subst this;exact sW I BH 7 o' o Jq a d1
theorem gX(I:θ)(BH:Sub G H){d1:D}:∀{ds:μ}{xs:List V}{its:List A7},AW X.K G ds xs->Vals xs its->ds.all (okN 7)=true->its.any (Ps X.K G d1)=ds.any λy=>Ci y d1
 |[],_,_,q,r,_=>by erw[AW]at q;subst q;cases r;rfl
 |d::ds,_,_,q,r,o=>by
  erw[AW]at q;obtain⟨v,L4,rfl,BD,Ma⟩:=q;cases r with
  |cons AK B7=>rw[PP,Fj]at o;rw[Ny,Ny,hq I BH o.1 ⟨v,BD,AK⟩,gX I BH Ma B7 o.2]
theorem c6(I:θ)(BH:Sub G H){d1:D}{x:V}{v:A7}{A:CK}(BM:A.units+8<DS)(D0:okN 7 d1=true)(a1:At X.K G d1 x)(BR:RelV x v):∀{ds:μ}{xs:List V}{its:List A7},AW X.K G ds xs->Vals xs its->ds.all (okN 7)=true->
  ∀u∈its,UX A s u v (Ps X.K G d1 u)
 |[],_,_,q,r,_=>by erw[AW]at q;subst q;cases r;exact λu BM=>nomatch BM
 |d::ds,_,_,q,r,o=>by
  erw[AW]at q;obtain⟨w,wr,rfl,BD,Ma⟩:=q;cases r with
  |cons AK B7=>
   rw[PP,Fj]at o;intro FH hm;rcases List.mem_cons.mp hm with e|hm
   .subst e;rw[hq I BH o.1 ⟨w,BD,AK⟩];exact(b9 I BH 7 (A:=A) o.1 D0 ⟨w,BD,AK⟩ ⟨x,a1,BR⟩ δ).1
   .exact c6 I BH BM D0 a1 BR Ma B7 o.2 FH hm
end
noncomputable def QK:D->Option μ
 |.tup ys=>some ys
 |.Do ys=>some ys
 |.lst ys=>some ys
 |.D1 ys=>some ys
 |_=>none
def inD(b:Bool)(x y:D):R D:=match QK y with
 |some ys=>if okN 7 x=true/\ys.all (okN 7)=true then .ok (.AR (if b then ys.any (λy=>Ci y x)else !ys.any λy=>Ci y x))else .bad
 |none=>.bad
noncomputable def dW(F:BA)(b:Bool):Ek:=λx y H Q=>∃G d1 Ct p ds xs k,Sub G H/\At F.K G d1 x/\y=.ref p/\Hn F.K G Ct p k ds xs/\okN 7 d1=true/\ds.all (okN 7)=true/\Q (.AR (if b then ds.any (λy=>Ci y d1)else !ds.any λy=>Ci y d1)) H
def lh(Ap:F.K=X.K)(BM:X.A.units+64<DS):E5 X (GE .In) (dW F true):=by
 intro pins s σ H x y v u Q I BR Bt h;obtain⟨G,d1,Ct,p,ds,xs,k,BH,a1,rfl,GC,D0,D3,q⟩:=h;rw[Ap]at a1 GC;cases Bt;obtain⟨its,AK,t1,G8⟩:=GC.heap I BH;have q:Q (.AR (ds.any λy=>Ci y d1)) H:=q;rw[<-gX I BH GC.Iz AK D3]at q;have hm:=c6 I BH (A:=X.A.in1) (d1:=d1) (by rw[in1_units];lia) D0 a1 BR GC.Iz AK D3;cases k with
 |true=>exact SeqAt.in_tupleAt (Ps X.K G d1) (t1 rfl) (λw hw=>hm w (hw:)) ⟨.AR _,H,I,rfl,(q:)⟩
 |false=>exact SeqAt.in_listAt (Ps X.K G d1) (G8 rfl) (λw hw=>hm w (hw:)) ⟨.AR _,H,I,rfl,(q:)⟩
def zt(Ap:F.K=X.K)(BM:X.A.units+64<DS):E5 X (GE .NotIn) (dW F false):=by
 intro pins s σ H x y v u Q I BR Bt h;obtain⟨G,d1,Ct,p,ds,xs,k,BH,a1,rfl,GC,D0,D3,q⟩:=h;rw[Ap]at a1 GC;cases Bt;obtain⟨its,AK,t1,G8⟩:=GC.heap I BH;have q:Q (.AR (!ds.any λy=>Ci y d1)) H:=q;rw[<-gX I BH GC.Iz AK D3]at q;have hm:=c6 I BH (A:=X.A.in1) (d1:=d1) (by rw[in1_units];lia) D0 a1 BR GC.Iz AK D3;cases k with
 |true=>exact SeqAt.notIn_tupleAt (Ps X.K G d1) (t1 rfl) (λw hw=>hm w (hw:)) ⟨.AR _,H,I,rfl,(q:)⟩
 |false=>exact SeqAt.notIn_listAt (Ps X.K G d1) (G8 rfl) (λw hw=>hm w (hw:)) ⟨.AR _,H,I,rfl,(q:)⟩
def adI{K:Aa}{G:AB}{d:D}{x:V}{ds:μ}(e:QK d=some ds)(a:At K G d x):∃p xs k,x=.ref p/\Hn K G d p k ds xs:=by
 cases d<;>first
  |(cases e;done)
  |(cases e
    erw[At]at a;obtain⟨p,xs,e,h,q⟩:=a
    first
     |exact⟨p,xs,_,e,.tup (CT.of h) q⟩
     |exact⟨p,xs,_,e,.Do h q⟩
     |exact⟨p,xs,_,e,.lst h q⟩
     |exact⟨p,xs,_,e,.D1 h q⟩)
def dx(b:Bool):Hl F (dW F b) (inD b):=by
 intro σ ρ G H x y Ag Gs Q r Bn Cq k;unfold inD at k;cases e:QK Gs with
 |none=>rw[e]at k;cases k
 |some ys=>
  rw[e]at k;dsimp only at k
  split at k
  .rename_i ho;obtain⟨p,xs,BY,DK,GC⟩:=adI e Cq;exact⟨G,Ag,Gs,p,ys,xs,BY,r.kp.sub,Bn,DK,GC,ho.1,ho.2,k _ H G r (C3.refl _ _) (by erw[At])⟩
  .exact k.elim
def K1:D->Bool
 |.non=>true
 |_=>false
noncomputable def GW(b:Bool):D->D->R D
 |x,.non=>.ok (.AR (if b then K1 x else !K1 x))
 |_,_=>.bad
def l4{K:Aa}{G:AB}{d:D}{x:V}(a:At K G d x):K1 d=decide (x=.non):=by
 cases d<;>erw[At]at a<;>first
  |(subst a;simp[K1];done)
  |(obtain⟨p,xs,e,_⟩:=a;subst e;simp[K1];done)
  |(obtain⟨p,Ag,xs,e,_⟩:=a;subst e;simp[K1];done)
noncomputable def OE(f g:D->D->R D)(a b c:Ae):Ae:=λρ=>(a ρ).bind λx=>(b ρ).bind λy=>(f x y).bind λz=>(NC z).bind λk=>if k=true then(c ρ).bind λw=>g y w else .ok (.AR false)
def ja{r BO:Ek}{f g:D->D->R D}{l:Ae}(hf:Hl F r f)(A_:Hl F BO g):Ej (Cx F (OE f g m n l)) (ep r BO (Cx F m) (Cx F n) (Cx F l)):=by
 delta OE Ky;refine rb h λAg As h x H1 Ah AK s1 Bn=>?_;refine⟨Ah,ρ,AK,?_⟩;refine rb h λGs BS h y Am CL B7 s2 Cq=>?_;refine hf σ ρ CL Am x y Ag Gs _ B7 (Bn.mono s2.g) Cq ?_;refine rb h λtC Cr h z Cb Ga DW s3 ND=>?_;cases tC with
 |AR k=>
  erw[At]at ND;refine⟨k,ND,?_⟩;have h:JP F G H σ ρ Q (if k=true then(l ρ).bind λw=>g Gs w else .ok (.AR false)):=h;cases k with
  |false=>rw[if_neg Fy]at h |-;exact h _ Cb Ga DW (s1.trans (s2.trans s3)) (by erw[At])
  |true=>rw[if_pos rfl]at h |-;refine⟨Ga,ρ,DW,?_⟩;refine rb h λtB ec h w Hc Ug N7 s4 Oy=>?_;exact A_ σ ρ Ug Hc y w Gs tB Q N7 ((Cq.mono s3.g).mono s4.g) Oy (h.mono (s1.trans (s2.trans (s3.trans s4))))
 |_=>cases h
def Zf:Hl F (N8 λi j=>.AR (decide (i<=j))) Pd:=Ze λ_ _ _=>by erw[At]
end
section
variable{X:Ac}{F:BA}{e a b c:AU}{A4:List AU}{pos p:Pos}{m n:Ae}{ma:B1}
noncomputable def Bz(f:μ->R D)(m:B1):Ae:=λρ=>(m ρ).bind f
def Q6(F:BA)(r:List V->AB->Cd->Prop)(f:μ->R D):Prop:=∀ σ ρ G H xs ds Q,Rel F G H σ ρ->AW F.K G ds xs->JP F G H σ ρ Q (f ds)->r xs H Q
def j_{r:List V->AB->Cd->Prop}{f:μ->R D}(hf:Q6 F r f):Ej (Cx F (Bz f ma)) (aB r (Es F ma)):=by delta Bz Ky;refine rb h λds As h vs H1 Ah AK s1 a=>?_;exact hf σ ρ Ah H1 vs ds Q AK a (h.mono s1)
def jW{x:Str}{id:String}{r:List V->AB->Cd->Prop}{f:μ->R D}(AO:IW X (.builtin id) r)(hf:Q6 F r f)(hm:X.mg x=none)(BN:LY x=some (.builtin id))(AD:hQ X F (e::A4) ma)(A_:EE X x:=by rfl)(AQ:x≠"__name__":=by decide)(GV:ζ:=by decide)(he:BF (e::A4) X.env=(false,BJ e X.env)::BF A4 X.env:=by rfl)(Dx:(D4 pos (BF A4 X.env)).any (·.1)=false:=by rfl):Jg X F (.Call (.Name x p) (e::A4) [] pos) (Bz f ma):=
 Av.imp (dJ AO A_ hm BN AD AQ GV he Dx) (j_ hf)
def bq{x:Str}{T:String}{r:List V->AB->Cd->Prop}{f:μ->R D}(AO:IW X (.type T) r)(hf:Q6 F r f)(hm:X.mg x=none)(BN:LY x=some (.type T))(AD:hQ X F (e::A4) ma)(A_:EE X x:=by rfl)(AQ:x≠"__name__":=by decide)(GV:ζ:=by decide)(he:BF (e::A4) X.env=(false,BJ e X.env)::BF A4 X.env:=by rfl)(Dx:(D4 pos (BF A4 X.env)).any (·.1)=false:=by rfl):Jg X F (.Call (.Name x p) (e::A4) [] pos) (Bz f ma):=
 Av.imp (lq AO A_ hm BN AD AQ GV he Dx) (j_ hf)
noncomputable def CE:μ->R D
 |[.str x]=>if x.length<=1000000 then .ok (.int x.length)else .bad
 |[.lst xs]=>.ok (.int xs.length)
 |[.D1 xs]=>.ok (.int xs.length)
 |[.tup xs]=>.ok (.int xs.length)
 |[.Do xs]=>.ok (.int xs.length)
 |_=>.bad
def AW.one{K:Aa}{G:AB}{d:D}{vs:List V}(a:AW K G [d] vs):∃v,vs=[v]/\At K G d v:=by erw[AW]at a;obtain⟨v,r,rfl,h,rfl⟩:=a;exact⟨v,rfl,h⟩
def AW.two{K:Aa}{G:AB}{d e:D}{vs:List V}(a:AW K G [d,e] vs):∃v w,vs=[v,w]/\At K G d v/\At K G e w:=by erw[AW]at a;obtain⟨v,r,rfl,h,w,BO,rfl,h',rfl⟩:=a;exact⟨v,w,rfl,h,h'⟩
def aa9(Ap:F.K=X.K):Q6 F (λxs H Q=>∃x n,xs=[x]/\iH X.K x H n/\Q (.int n) H) CE:=by
 intro σ ρ G H xs ds Q r al k;unfold CE at k
 split at k
 .rename_i x;obtain⟨v,rfl,BD⟩:=al.one;erw[At]at BD;subst BD
  split at k
  .rename_i AN;exact⟨_,x.length,rfl,⟨FF AN ε,rfl⟩,k _ H G r (C3.refl _ _) (by erw[At])⟩
  .exact k.elim
 .rename_i ys;obtain⟨v,rfl,BD⟩:=al.one;erw[At]at BD;obtain⟨q,xs,rfl,h,al⟩:=BD;rw[al.length]at k;exact⟨_,xs.length,rfl,.inl ⟨xs,CA.of (r.kp.sub _ _ h),rfl⟩,k _ H G r (C3.refl _ _) (by erw[At])⟩
 .rename_i ys;obtain⟨v,rfl,BD⟩:=al.one;erw[At]at BD;obtain⟨q,xs,rfl,h,al⟩:=BD;rw[al.length]at k;rw[Ap]at h;exact⟨_,xs.length,rfl,.inl ⟨xs,CA.mono r.kp.sub h,rfl⟩,k _ H G r (C3.refl _ _) (by erw[At])⟩
 .rename_i ys;obtain⟨v,rfl,BD⟩:=al.one;erw[At]at BD;obtain⟨q,xs,rfl,h,al⟩:=BD;rw[al.length]at k;exact⟨_,xs.length,rfl,.inr ⟨xs,CT.of (r.kp.sub _ _ h),rfl⟩,k _ H G r (C3.refl _ _) (by erw[At])⟩
 .rename_i ys;obtain⟨v,rfl,BD⟩:=al.one;erw[At]at BD;obtain⟨q,xs,rfl,h,al⟩:=BD;rw[al.length]at k;rw[Ap]at h;exact⟨_,xs.length,rfl,.inr ⟨xs,CT.mono r.kp.sub h,rfl⟩,k _ H G r (C3.refl _ _) (by erw[At])⟩
 .exact k.elim
noncomputable def WI:D->Option String
 |.non=>some "NoneType"
 |.AR _=>some "bool"
 |.int _=>some "int"
 |.str _=>some "str"
 |.lst _=>some "list"
 |.D1 _=>some "list"
 |.tup _=>some "tuple"
 |.Do _=>some "tuple"
 |.Df _ _=>some "dict"
 |.An _ _=>some "dict"
 |_=>none
noncomputable def ei(T U:String):Bool:=T==U||(T=="bool"&&U=="int")
def Ih(U:String)(d:D):R D:=match WI d with
 |some T=>.ok (.AR (ei T U))
 |none=>.bad
def S0(K:Aa)(U:String):Prop:=∀T,T="NoneType"\/T="bool"\/T="int"\/T="str"\/T="list"\/T="tuple"\/T="dict"->PySem.W.kitOne K (.type T) (.type U)=some (ei T U)
def ady(K:Aa):S0 K "int":=λT h=>by rcases h with rfl|rfl|rfl|rfl|rfl|rfl|rfl<;>kernel_rfl
def adx(K:Aa):S0 K "bool":=λT h=>by rcases h with rfl|rfl|rfl|rfl|rfl|rfl|rfl<;>kernel_rfl
def ae0(K:Aa):S0 K "str":=λT h=>by rcases h with rfl|rfl|rfl|rfl|rfl|rfl|rfl<;>kernel_rfl
def adz(K:Aa):S0 K "list":=λT h=>by rcases h with rfl|rfl|rfl|rfl|rfl|rfl|rfl<;>kernel_rfl
def ae1(K:Aa):S0 K "tuple":=λT h=>by rcases h with rfl|rfl|rfl|rfl|rfl|rfl|rfl<;>kernel_rfl
def xL{pins:List (A8×Obj)}{σ :St}{H G:AB}{s:AP}{Q:A7->AP->Prop}{E:A7->AP->Prop}{d:D}{x:V}{u:A7}{T U:String}{k:Bool}(I:θ)(BH:Sub G H)(at':At X.K G d x)(BR:RelV x u)(e:WI d=some T)(tt:PySem.W.kitOne X.K (.type T) (.type U)=some k)(h:∀C8,Q (.bool k) { s with toks:=C8 }):Ad (B2 X.prog X.w) X.A (call (.builtin "isinstance") [u,.type U]) Q E s:=by
 cases d with
 |non=>cases e;erw[At]at at';subst at';cases BR;exact My PySem.W.kitx_none I.E9 La tt (λz=>nomatch z) h
 |AR b=>cases e;erw[At]at at';subst at';cases BR;exact My PySem.W.kitx_bool I.E9 La tt (λz=>nomatch z) h
 |int b=>cases e;erw[At]at at';subst at';obtain⟨t,rfl⟩:=BR;exact My PySem.W.kitx_int I.E9 La tt (λz=>nomatch z) h
 |str b=>cases e;erw[At]at at';subst at';obtain⟨t,rfl⟩:=BR;exact My PySem.W.kitx_str I.E9 La tt (λz=>nomatch z) h
 |lst ds=>cases e;erw[At]at at';obtain⟨q,xs,rfl,AV,_⟩:=at';cases BR;obtain⟨its,_,⟨o,n,A9,AH,_⟩,_⟩:=I.list (CA.of (BH _ _ AV));exact My qu I.E9 ⟨o,A9,AH⟩ tt (λz=>nomatch z) h
 |D1 ds=>cases e;erw[At]at at';obtain⟨q,xs,rfl,AV,_⟩:=at';cases BR;obtain⟨its,_,⟨o,n,A9,AH,_⟩,_⟩:=I.list (CA.mono BH AV);exact My qu I.E9 ⟨o,A9,AH⟩ tt (λz=>nomatch z) h
 |tup ds=>cases e;erw[At]at at';obtain⟨q,xs,rfl,AV,_⟩:=at';cases BR;obtain⟨its,_,⟨o,A9,AH,_⟩,_⟩:=I.tuple (CT.of (BH _ _ AV));exact My r2 I.E9 ⟨o,A9,AH⟩ tt (λz=>nomatch z) h
 |Do ds=>cases e;erw[At]at at';obtain⟨q,xs,rfl,AV,_⟩:=at';cases BR;obtain⟨its,_,⟨o,A9,AH,_⟩,_⟩:=I.tuple (CT.mono BH AV);exact My r2 I.E9 ⟨o,A9,AH⟩ tt (λz=>nomatch z) h
 |Df ks ds=>cases e;erw[At]at at';obtain⟨q,xs,rfl,AV,_⟩:=at';cases BR;obtain⟨_,_,vs,_,o,A4,BV,A6,AA,_⟩:=(show FS X.prog X.w X.K H s.heap q (.Df xs)from I.BZ q _ (BH _ _ AV));exact My qv I.E9 ⟨o,A6,AA.1⟩ tt (λz=>nomatch z) h
 |An ks ds=>cases e;erw[At]at at';obtain⟨q,xs,rfl,AV,_⟩:=at';cases BR;obtain⟨_,_,zs,_,o,A4,BV,A6,AA,_⟩:=(show FS X.prog X.w X.K H s.heap q (.An xs)from I.BZ q _ (BH _ _ AV));exact My qv I.E9 ⟨o,A6,AA.1⟩ tt (λz=>nomatch z) h
 |ins C ns ds=>cases e
 |Md C=>cases e
def aeB{d:D}{T:String}(e:WI d=some T):T="NoneType"\/T="bool"\/T="int"\/T="str"\/T="list"\/T="tuple"\/T="dict":=by cases d<;>cases e<;>simp
def abt(F:BA)(U:String):List V->AB->Cd->Prop:=λxs H Q=>∃G d x T,Sub G H/\xs=[x,.ty U]/\At F.K G d x/\WI d=some T/\Q (.AR (ei T U)) H
def sH{U:String}(Ap:F.K=X.K)(tt:S0 X.K U):IW X (.builtin "isinstance") (abt F U):=by intro pins s σ H xs us Q I r h;obtain⟨G,d,x,T,BH,rfl,a,e,q⟩:=h;obtain⟨u,Fi,rfl,BR,Fp⟩:=vals2 r;obtain rfl:Fi=O4 U:=Fp;rw[Ap]at a;exact xL I BH a BR e (tt T (aeB e)) λC8=>⟨.AR _,H,I.tok C8,rfl,q⟩
noncomputable def AM:D->D->R D
 |.lst xs,.int i=>match G2 xs i with|some d=>.ok d|none=>.bad
 |.D1 xs,.int i=>match G2 xs i with|some d=>.ok d|none=>.bad
 |.tup xs,.int i=>match G2 xs i with|some d=>.ok d|none=>.bad
 |.Do xs,.int i=>match G2 xs i with|some d=>.ok d|none=>.bad
 |.str x,.int i=>if x.length<=1000000 then match G2 x.cps.toList i with|some c=>.ok (.str ⟨#[c]⟩)|none=>.bad else .bad
 |_,_=>.bad
def Xm{K:Aa}{G:AB}{ds:μ}{xs:List V}{i:Int}{d:D}(q:AW K G ds xs)(e:G2 ds i=some d):∃v,G2 xs i=some v/\At K G d v:=by
 unfold G2 at e |-;rw[q.length]at e;cases KU:Ii xs.length i with
 |none=>rw[KU]at e;cases e
 |some j=>rw[KU]at e;obtain⟨v,A9,a⟩:=q.get e;exact⟨v,A9,a⟩
def aa8(Ap:F.K=X.K):Hl F (nG X.K) AM:=by
 intro σ ρ G H x y Ag Gs Q r Bn Cq k;unfold AM at k
 split at k
 .rename_i ds i;erw[At]at Bn Cq;obtain⟨p,xs,e,h,q⟩:=Bn
  split at k
  .rename_i d GK;obtain⟨v,ev,BD⟩:=Xm q GK;exact .inl ⟨p,xs,i,v,e,Cq,CA.of (r.kp.sub _ _ h),ev,k _ H G r (C3.refl _ _) BD⟩
  .exact k.elim
 .rename_i ds i;erw[At]at Bn Cq;obtain⟨p,xs,e,h,q⟩:=Bn
  split at k
  .rename_i d GK;obtain⟨v,ev,BD⟩:=Xm q GK;have h':=h;rw[Ap]at h';exact .inl ⟨p,xs,i,v,e,Cq,CA.mono r.kp.sub h',ev,k _ H G r (C3.refl _ _) BD⟩
  .exact k.elim
 .rename_i ds i;erw[At]at Bn Cq;obtain⟨p,xs,e,h,q⟩:=Bn
  split at k
  .rename_i d GK;obtain⟨v,ev,BD⟩:=Xm q GK;exact .inr (.inl ⟨p,xs,i,v,e,Cq,CT.of (r.kp.sub _ _ h),ev,k _ H G r (C3.refl _ _) BD⟩)
  .exact k.elim
 .rename_i ds i;erw[At]at Bn Cq;obtain⟨p,xs,e,h,q⟩:=Bn
  split at k
  .rename_i d GK;obtain⟨v,ev,BD⟩:=Xm q GK;have h':=h;rw[Ap]at h';exact .inr (.inl ⟨p,xs,i,v,e,Cq,CT.mono r.kp.sub h',ev,k _ H G r (C3.refl _ _) BD⟩)
  .exact k.elim
 .rename_i z i;erw[At]at Bn Cq
  split at k
  .rename_i AN
   split at k
   .rename_i c ec;exact .inr (.inr ⟨z,i,c,Bn,Cq,FF AN ε,ec,k _ H G r (C3.refl _ _) (by erw[At])⟩)
   .exact k.elim
  .exact k.elim
 .exact k.elim
end
section
variable{X:Ac}{F:BA}{e a b c:AU}{A4:List AU}{pos p:Pos}{m n:Ae}{ma:B1}
noncomputable def Ed{α:Type}(xs:List α)(lo AC:Option Int):List α:=(xs.drop (DX.Ca xs.length 0 lo)).take (DX.Ca xs.length xs.length AC-DX.Ca xs.length 0 lo)
noncomputable def S7(x:Str)(lo AC:Option Int):Str:=⟨(Ed x.cps.toList lo AC).toArray⟩
def aeM(lo AC:Option Int)(n:Nat):qQ lo AC 1 n=(EN (DX.Ca n n AC-DX.Ca n 0 lo)).map (DX.Ca n 0 lo+·):=by
 rw[<-sliceRange_one];unfold qQ;erw[show(1:Int)>0 by decide,if_true]
 congr 1
 .cases lo with
  |none=>rfl
  |some i=>
   show max 0 (min (if i<0 then i+(n:Int)else i) (n:Int))=((if i<0 then(i+(n:Int)).toNat else min i.toNat n:Nat):Int)
   split<;>lia
 .cases AC with
  |none=>rfl
  |some i=>
   show max 0 (min (if i<0 then i+(n:Int)else i) (n:Int))=((if i<0 then(i+(n:Int)).toNat else min i.toNat n:Nat):Int)
   split<;>lia
def d7(n:Nat)(v:Option Int){d:Nat}(hd:d<=n):DX.Ca n d v<=n:=by
 cases v with
 |none=>exact hd
 |some i=>
  show(if i<0 then(i+(n:Int)).toNat else min i.toNat n)<=n
  split<;>lia
def adB(x:Str)(lo AC:Option Int):Ua x lo AC=S7 x lo AC:=by
 have AN:x.cps.toList.length=x.length:=by simp[Str.length]
 unfold Ua S7 Ed;rw[aeM,AN]
 split
 .rename_i h;have h:DX.Ca x.length x.length AC-DX.Ca x.length 0 lo=x.length:=by simpa using h
  have A6:=d7 x.length AC (CY _);have AA:DX.Ca x.length 0 lo=0\/x.length=0:=δ
  have e:(x.cps.toList.drop (DX.Ca x.length 0 lo)).take (DX.Ca x.length x.length AC-DX.Ca x.length 0 lo)=x.cps.toList:=by
   rw[h];rcases AA with z|z
   .rw[z,fz,X2 δ]
   .have DJ:x.cps.toList=[]:=List.length_eq_zero_iff.mp δ;rw[DJ];simp
  rw[e]
 .rw[pick_run]
def nM:V->Option Int->Option Int->AB->Cd->Prop:=λx lo AC H Q=>∃z,x=.str z/\z.length<=CD/\Q (.str (S7 z lo AC)) H
def lm{v:A7}{o:Option Int}(h:OC v o):∃l:Option (Int×Tok),v=partValue l/\l.map (·.1)=o:=by
 cases h with
 |none=>exact⟨none,rfl,rfl⟩
 |int i t=>exact⟨some (i,t),rfl,rfl⟩
theorem ad7:Pl X nM:=by
 intro pins s σ H x v H_ Ha lo AC C2 Q I BR AJ pl pu h;obtain⟨z,rfl,Aq,q⟩:=h;obtain⟨t,rfl⟩:=BR;obtain⟨l,rfl,el⟩:=lm pl;obtain⟨u,rfl,LH⟩:=lm pu;refine⟨"str",_,F.slot_str_getitem.lookup,R2 s z t,wpAny_getItem_str_slice (l:=l) (u:=u) (st:=none) ?_ rfl ?_⟩
 .obtain⟨o,A6,AA,Ao⟩:=AJ;exact⟨o,A6,AA,Ao⟩
 .have e:Ua z lo AC=S7 z lo AC:=adB z lo AC;have fin:∀t' k,G_ X pins σ Q (.str (Ua z lo AC) t') { s with toks:=k }:=λt' k=>⟨.str (S7 z lo AC),H,I.tok k,⟨t',by rw[e]⟩,q⟩;unfold Ua at fin;subst el LH;exact post_val_or_str ⟨FF (Txt.slice_le z _ _) Aq,fin⟩
abbrev MW:=AI->R (Option Int)
noncomputable def G9:MW:=λ_=>.ok none
noncomputable def intD:D->R (Option Int)
 |.int i=>.ok (some i)
 |_=>.bad
noncomputable def Ef(m:Ae):MW:=λρ=>(m ρ).bind intD
def yX(F:BA)(G H:AB)(σ :St)(ρ:AI)(Q:Option Int->AB->Prop):R (Option Int)->Prop
 |.ok o=>∀H' G',Rel F G' H' σ ρ->C3 G H G' H'->Q o H'
 |.exc c=>NS F c
 |.bad=>False
def Vl(F:BA)(m:MW):CB:=λσ H Q=>∃G ρ,Rel F G H σ ρ/\yX F G H σ ρ Q (m ρ)
noncomputable def EV(f:D->Option Int->Option Int->R D)(m:Ae)(lo AC:MW):Ae:=λρ=>(m ρ).bind λd=>(lo ρ).bind λl=>(AC ρ).bind λh=>f d l h
noncomputable def IR(d:D)(l h:Option Int):R D:=match d with
 |.lst xs=>.ok (.lst (Ed xs l h))
 |.D1 xs=>.ok (.lst (Ed xs l h))
 |.str x=>if x.length<=1000000 then .ok (.str (S7 x l h))else .bad
 |_=>.bad
def AW.cut{K:Aa}{G:AB}{ds:μ}{xs:List V}(q:AW K G ds xs)(l h:Option Int):AW K G (Ed ds l h) (Pu xs l h):=by unfold Ed Pu;rw[q.length];exact(q.drop _).take _
def xh(Ap:F.K=X.K){lo AC:MW}:Ej (Cx F (EV IR m lo AC)) (ew (λx lo AC H Q=>nL X.K x lo AC H Q\/nM x lo AC H Q) (Cx F m) (Vl F lo) (Vl F AC)):=by
 delta EV r;refine rb h λd As h x H1 Ah AK s1 Bn=>?_;refine⟨Ah,ρ,AK,?_⟩;refine rb h λl el h Am CL B7 s2=>?_;refine⟨CL,ρ,B7,?_⟩;refine rb h λu OR h Cb Ga DW s3=>?_;have up:=s1.trans (s2.trans s3);have KS:=(Bn.mono s2.g).mono s3.g;cases d with
 |lst ds=>erw[At]at KS;obtain⟨q,xs,rfl,AV,al⟩:=KS;refine .inl ⟨q,xs,rfl,CA.of (DW.kp.sub _ _ AV),λDp AQ=>?_⟩;refine h (.ref Dp) _ _ (DW.lay AQ) (up.trans (C3.lay DW.kp.sub AQ)) ?_;erw[At];exact⟨Dp,_,rfl,Da,(al.cut l u).mono (Sub.upd (DW.kp.sub.gone AQ))⟩
 |D1 ds=>erw[At]at KS;obtain⟨q,xs,rfl,AV,al⟩:=KS;have PW:=AV;rw[Ap]at PW;refine .inl ⟨q,xs,rfl,CA.mono DW.kp.sub PW,λDp AQ=>?_⟩;refine h (.ref Dp) _ _ (DW.lay AQ) (up.trans (C3.lay DW.kp.sub AQ)) ?_;erw[At];exact⟨Dp,_,rfl,Da,(al.cut l u).mono (Sub.upd (DW.kp.sub.gone AQ))⟩
 |str z=>
  erw[At]at KS;have h:JP F G H σ ρ Q (if z.length<=1000000 then .ok (.str (S7 z l u))else .bad):=h
  split at h
  .rename_i Aq;exact .inr ⟨z,KS,FF Aq ε,h _ Cb Ga DW up (by erw[At])⟩
  .exact h.elim
 |_=>cases h
noncomputable def Te:μ->R D
 |[.int i]=>if i.natAbs.log2<1920 then .ok (.str (toString i))else .bad
 |_=>.bad
def aaD:Q6 F (λxs H Q=>∃i,xs=[.int i]/\i.natAbs.log2<1920/\Q (.str (toString i)) H) Te:=by
 intro σ ρ G H xs ds Q r al k;unfold Te at k
 split at k
 .rename_i i
  split at k
  .rename_i AN;exact⟨i,al.ints1,AN,k _ H G r (C3.refl _ _) (by erw[At])⟩
  .exact k.elim
 .exact k.elim
def sG:IW X (.type "int") (λxs H Q=>(∃i,xs=[.int i]/\Q (.int i) H)\/∃x i,xs=[.str x]/\x.length<=640/\intText? x=some i/\Q (.int i) H):=by
 intro pins s σ H xs us Q I r h;rcases h with⟨i,rfl,q⟩|⟨x,i,rfl,AN,AC,q⟩
 .obtain⟨u,rfl,t,rfl⟩:=vals1 r;exact call_int_int ⟨.int i,H,I,⟨_,rfl⟩,q⟩
 .obtain⟨u,rfl,t,rfl⟩:=vals1 r;exact PySem.W.KIN.call_text AC AN ⟨.int i,H,I.tok _,⟨_,rfl⟩,q⟩
end
end CP
namespace Bs
open PySem PySem.Spec
section
variable{prog:Bx}{w:Bj}{A:CK}{E:A7->AP->Prop}{s:AP}
def aaW{it t:A8}{i:Nat}{items:Array A7}{x:A7}{Q:A7->AP->Prop}(hit:s.heap.IsTupleIter it t i)(Aj:s.heap.IsTuple t items)(AG:items[i]?=some x)(DU:∀h',h'.IsTupleIter it t (i+1)->JG it s.heap h'->Q x { s with heap:=h' }):Ad (B2 prog w) A (PF (.ref it)) Q E s:=by
 obtain⟨o,ho,AO,hd⟩:=id hit;obtain⟨ol,cn,_,nl,NN⟩:=Aj;unfold PF
 refine AL (Mv (name:=En "__next__") hit.typeIs Wq
  (Iu Wq hit.typeIs qR ?_ (qP _)))
 show Ad _ _ (field (.ref it) 0>>=_) _ _ s;refine AL (Hf ho hd (x:=.ref t) rfl ?_);show Ad _ _ (if(DR t==GD)=true then _ else _) _ _ s;rw[if_neg (show¬((DR t==GD)=true)from Fy)];show Ad _ _ (field (.ref it) 1>>=_) _ _ s;refine AL (Hf ho hd (x:=.int i 0) rfl ?_);show Ad _ _ (seqItems? (.ref t)>>=_) _ _ s;refine AL (Mz cn NN ?_);erw[Mr,AG];refine AL (Sh ho hd γ (Ay ⟨x,rfl,Ay (DU _ ?_ (LS ..))⟩));exact⟨_,PH _ ho (fS (UQ hd _)),(Obj.cls_mapFields ..).trans AO,by
  rw[UQ hd];simp[Kg]⟩
def aaV{it t:A8}{i:Nat}{items:Array A7}{Q:A7->AP->Prop}(B4:A.handled=none)(hit:s.heap.IsTupleIter it t i)(Aj:s.heap.IsTuple t items)(AG:items[i]?=none)(KA:∀h' e,Heap.ExtBut it s.heap h'->(∃o,h'.get? e=some o/\o.cls=.type "StopIteration")->E (.ref e) { s with heap:=h' }):Ad (B2 prog w) A (PF (.ref it)) Q E s:=by
 obtain⟨o,ho,AO,hd⟩:=id hit;obtain⟨ol,cn,_,nl,NN⟩:=Aj;unfold PF
 refine AL (Mv (name:=En "__next__") hit.typeIs Wq
  (Iu Wq hit.typeIs qR ?_ (qP _)))
 show Ad _ _ (field (.ref it) 0>>=_) _ _ s;refine AL (Hf ho hd (x:=.ref t) rfl ?_);show Ad _ _ (if(DR t==GD)=true then _ else _) _ _ s;rw[if_neg (show¬((DR t==GD)=true)from Fy)];show Ad _ _ (field (.ref it) 1>>=_) _ _ s;refine AL (Hf ho hd (x:=.int i 0) rfl ?_);show Ad _ _ (seqItems? (.ref t)>>=_) _ _ s;refine AL (Mz cn NN ?_);erw[Mr,AG];refine AL (Kb (AL (Sh ho hd γ ?_)));show Ad _ _ (newExc (.type "StopIteration") []>>=_) _ _ _;refine AL ?_;erw[newExc,newTuple];refine AL (JL ?_ (by size_fits));refine AL (m:=Si _ _) (wpAny_of_eq (a:=GD) (by first|rfl|(erw[Si];rfl)) ?_);refine JL ?_ (by size_fits);erw[raiseNew];refine AL (wpAny_handled ?_)
 first|rw[show A.in1.handled=none from B4]|rw[B4]
 refine AL (Ay (wpAny_throw ?_));exact KA _ _ (((LS ..).extBut.push _).push _) ⟨_,FE _ rfl,rfl⟩
def jQ(B4:A.handled=none)(it l:A8)(R_:l≠it)(items:Array A7) :
  Draws prog w A it [it,l] items.size (λi v=>items[i]?=some v) (λi h=>h.IsTupleIter it l i/\h.IsTuple l items) where
 live:=λ_ _ st=>let⟨o,ho,_⟩:=st.1;⟨o,ho⟩
 frame:=λ_ _ _ st AE=>⟨st.1.at λo e=>AE it γ o e,st.2.at λo e=>AE l γ o e⟩
 item:=λi s Q E AC st DU=>by refine aaW st.1 st.2 (x:=items[i]) (by simp[AC]) λh' TU Gw=>?_;exact DU _ h' s.toks (by simp[AC]) ⟨TU,st.2.extBut Gw.extBut R_⟩ Gw
 done:=λs Q E st KA=>aaV B4 st.1 st.2 γ KA
structure T8(z TI CB Bd C1:A8)(f1 f2:List A8):Prop where
 TIz:TI≠z
 TOz:CB≠z
 TITO:TI≠CB
 TIi1:TI≠Bd
 TIi2:TI≠C1
 TOi1:CB≠Bd
 TOi2:CB≠C1
 i1z:Bd≠z
 i2z:C1≠z
 i12:Bd≠C1
 bE:z∉f1
 j2:CB∉f1
 tX:C1∉f1
 bG:z∉f2
 bF:CB∉f2
 j4:Bd∉f2
def Lk{Al:List A8}{n:Nat}{P:Nat->A7->Prop}{St:Nat->BI->Prop}{it b:A8}{h h':BI}{i:Nat}(D:Draws prog w A it Al n P St)(st:St i h)(AJ:JG b h h')(A0:b∉Al):St i h':=
 D.frame i h h' st λc AO o e=>AJ.extBut c o (λz=>A0 (z▸AO)) e
def agw {z TI CB Bd C1:A8} {f1 f2:List A8} {Cv D8 i:Nat} {I_ Hm:Nat->A7->Prop} {Jm Jn:Nat->BI->Prop} {a b:A7} {Q:A7->AP->Prop} (Hz:Draws prog w A Bd f1 Cv I_ Jm) (Hk:Draws prog w A C1 f2 D8 Hm Jn) (ap:T8 z TI CB Bd C1 f1 f2)(Aq:Ix s.heap z TI CB .none) (Ig:Gd s.heap TI (.ref Bd) (.ref C1)) (J2:Gd s.heap CB a b) (A6:Jm i s.heap) (AA:Jn i s.heap) (G8:i<Cv) (Dp:i<D8)(DU:∀x y h' C8,I_ i x->Hm i y->Ix h' z TI CB (Kg s.heap.objs.size)->Gd h' CB x y->Jm (i+1) h'->Jn (i+1) h'->Gd h' s.heap.objs.size x y->h'.objs.size=s.heap.objs.size+1->
    (∀c o,c≠z->c≠CB->c≠Bd->c≠C1->s.heap.get? c=some o->h'.get? c=some o)->Q (.ref s.heap.objs.size) { s with heap:=h',toks:=C8 }) :
  Ad (B2 prog w) A (MH.«zip.__next__» ⟨[.ref z],[]⟩) (λfin s'=>∃v,fin=.done (.ret v)/\Q v s') E s:=by
 show Ad _ _ (field (.ref z) 2>>=_) _ _ _;refine AL (Hf Aq rfl (x:=.bool false) rfl ?_);show Ad _ _ (field (.ref z) 3>>=_) _ _ _;refine AL (Hf Aq rfl (x:=.ref TI) rfl ?_);refine AL (Mz Ig rfl ?_);show Ad _ _ (Wr (.ref z)>>=_) _ _ _;refine AL ?_;unfold Wr;refine AL (Hf Aq rfl (x:=.none) rfl (Ay ?_));erw[if_true];refine AL (Kb ?_);refine AL (Hf Aq rfl (x:=.ref CB) rfl ?_);refine AL (Sc Aq γ λKk P_ MK=>?_);replace P_:Ix Kk z TI CB .ellipsis:=P_;refine AL ?_;erw[Qs,UF,Qz,UU];refine AL (AL (XP ?_));show Ad _ _ (PF (.ref Bd)>>=_) _ _ _;refine AL (Hz.item i _ _ _ G8 (Lk Hz A6 MK ap.bE) λx ML ov AG ph Kj=>Ay ?_);have V3:Gd ML CB a b:=Kj.extBut _ _ ap.TOi1 (MK.extBut _ _ ap.TOz J2);refine AL (Mz V3 rfl ?_);refine AL (fI V3 λNQ Yf M1=>?_);replace Yf:Gd NQ CB x b:=Yf;refine AL (XV (Ay ?_));refine AL (AL (XP ?_));show Ad _ _ (PF (.ref C1)>>=_) _ _ _;have acm:Jn i NQ:=Lk Hk (Lk Hk (Lk Hk AA MK ap.bG) Kj ap.j4) M1 ap.bF;refine AL (Hk.item i _ _ _ Dp acm λy VI ais Ba aeP PY=>Ay ?_);have kK:Gd VI CB x b:=PY.extBut _ _ ap.TOi2 Yf;refine AL (Mz kK rfl ?_);refine AL (fI kK λHq Yg PZ=>?_);replace Yg:Gd Hq CB x y:=Yg;refine AL (XV (Ay (Ay ?_)));refine AL (Mz Yg rfl ?_);refine AL (g0 ?_);have hsz:Hq.objs.size=s.heap.objs.size:=by rw[PZ.1,PY.1,M1.1,Kj.1,MK.1]
 have jv:Ix Hq z TI CB .ellipsis:=PZ.extBut _ _ ap.TOz.symm (PY.extBut _ _ ap.i2z.symm (M1.extBut _ _ ap.TOz.symm (Kj.extBut _ _ ap.i1z.symm P_)));have v3:∀c o,c≠z->c≠CB->c≠Bd->c≠C1->s.heap.get? c=some o->Hq.get? c=some o:=λc o BW Ea HA Js e=>
  PZ.extBut _ _ Ea (PY.extBut _ _ Js (M1.extBut _ _ Ea (Kj.extBut _ _ HA (MK.extBut _ _ BW e))))
 have ack:Jm (i+1) Hq:=Lk Hz (Lk Hz (Lk Hz ph M1 ap.j2) PY ap.tX) PZ ap.j2;have acn:Jn (i+1) Hq:=Lk Hk aeP PZ ap.bF;have js:z<Hq.objs.size:=De jv;show Ad _ _ (qJ (.ref z) (.ref Hq.objs.size)>>=_) _ _ _;refine AL ?_;unfold qJ;have wv:Ix (Hq.push { cls:=.type "tuple",data:=.seq #[x,y] }) z TI CB .ellipsis:=DM _ jv;refine AL (Sc wv γ λwx cx cr=>?_);replace cx:Ix wx z TI CB (Kg Hq.objs.size):=cx;refine Sc cx γ λVJ YR ct=>?_;replace YR:Ix VJ z TI CB (Kg Hq.objs.size):=YR;have up:∀c o,c≠z->Hq.get? c=some o->VJ.get? c=some o:=λc o BW e=>ct.extBut _ _ BW (cr.extBut _ _ BW (DM _ e));have kM:Gd VJ Hq.objs.size x y:=ct.extBut _ _ (Mw js) (cr.extBut _ _ (Mw js) (FE _ rfl));have jr:VJ.objs.size=Hq.objs.size+1:=by rw[ct.1,cr.1,LW]
 rw[hsz]at YR kM jr;refine Ay ⟨_,rfl,?_⟩;show Q (.ref Hq.objs.size) _;rw[hsz];exact DU x y VJ _ AG Ba YR (up _ _ ap.TOz Yg) (Hz.frame _ _ _ ack λc AO o e=>up c o (λq=>ap.bE (q▸AO)) e) (Hk.frame _ _ _ acn λc AO o e=>up c o (λq=>ap.bG (q▸AO)) e) kM jr λc o BW Ea HA Js e=>up c o BW (v3 c o BW Ea HA Js e)
def agv{z TI CB Bd C1:A8}{f1 f2:List A8}{Cv D8 i:Nat}{I_ Hm:Nat->A7->Prop}{Jm Jn:Nat->BI->Prop}{a b:A7}{Q:Fin->AP->Prop}(Hz:Draws prog w A Bd f1 Cv I_ Jm)(Hk:Draws prog w A C1 f2 D8 Hm Jn)(ap:T8 z TI CB Bd C1 f1 f2)(Aq:Ix s.heap z TI CB .none)(Ig:Gd s.heap TI (.ref Bd) (.ref C1))(J2:Gd s.heap CB a b)(A6:Jm i s.heap)(AA:Jn i s.heap)(b5:i=Cv\/(i<Cv/\i=D8))(KA:∀h' e C8,(∀c o,c≠z->c≠CB->c≠Bd->c≠C1->s.heap.get? c=some o->h'.get? c=some o)->(∃o,h'.get? e=some o/\o.cls=.type "StopIteration")->E (.ref e) { s with heap:=h',toks:=C8 }) :
  Ad (B2 prog w) A (MH.«zip.__next__» ⟨[.ref z],[]⟩) Q E s:=by
 show Ad _ _ (field (.ref z) 2>>=_) _ _ _;refine AL (Hf Aq rfl (x:=.bool false) rfl ?_);show Ad _ _ (field (.ref z) 3>>=_) _ _ _;refine AL (Hf Aq rfl (x:=.ref TI) rfl ?_);refine AL (Mz Ig rfl ?_);show Ad _ _ (Wr (.ref z)>>=_) _ _ _;refine AL ?_;unfold Wr;refine AL (Hf Aq rfl (x:=.none) rfl (Ay ?_));erw[if_true];refine AL (Kb ?_);refine AL (Hf Aq rfl (x:=.ref CB) rfl ?_);refine AL (Sc Aq γ λKk P_ MK=>?_);replace P_:Ix Kk z TI CB .ellipsis:=P_;refine AL ?_;erw[Qs,UF,Qz,UU];refine AL (AL (XP ?_));show Ad _ _ (PF (.ref Bd)>>=_) _ _ _;have p_:Jm i Kk:=Lk Hz A6 MK ap.bE;rcases b5 with A9|⟨G8,AH⟩
 .subst A9;refine AL (Hz.done _ _ _ p_ λML e Kj he=>?_);obtain⟨dr,Rb,V8⟩:=he;have jt:Ix ML z TI CB .ellipsis:=Kj _ _ ap.i1z.symm P_;have bT:e≠z:=λx=>by subst x;rw[jt]at Rb;cases Rb;simp at V8
  refine Sc jt γ λNQ _ M1=>KA NQ e s.toks (λc o BW _ HA _ x=>M1.extBut _ _ BW (Kj _ _ HA (MK.extBut _ _ BW x))) ⟨dr,M1.extBut _ _ bT Rb,V8⟩
 .subst AH;refine AL (Hz.item _ _ _ _ G8 p_ λx ML ov AG ph Kj=>Ay ?_);have V3:Gd ML CB a b:=Kj.extBut _ _ ap.TOi1 (MK.extBut _ _ ap.TOz J2);refine AL (Mz V3 rfl ?_);refine AL (fI V3 λNQ Yf M1=>?_);refine AL (XV (Ay ?_));refine AL (AL (XP ?_));show Ad _ _ (PF (.ref C1)>>=_) _ _ _;refine AL (Hk.done _ _ _ (Lk Hk (Lk Hk (Lk Hk AA MK ap.bG) Kj ap.j4) M1 ap.bF) λVI e PY he=>?_);obtain⟨dr,Rb,V8⟩:=he;have ju:Ix VI z TI CB .ellipsis:=PY _ _ ap.i2z.symm (M1.extBut _ _ ap.TOz.symm (Kj.extBut _ _ ap.i1z.symm P_));have bT:e≠z:=λx=>by subst x;rw[ju]at Rb;cases Rb;simp at V8
  refine Sc ju γ λHq _ PZ=>KA Hq e ov (λc o BW Ea HA Js x=>PZ.extBut _ _ BW (PY _ _ Js (M1.extBut _ _ Ea (Kj.extBut _ _ HA (MK.extBut _ _ BW x))))) ⟨dr,PZ.extBut _ _ bT Rb,V8⟩
theorem ac_ {z TI CB Bd C1:A8} {f1 f2:List A8} {Cv D8 i:Nat} {I_ Hm:Nat->A7->Prop} {Jm Jn:Nat->BI->Prop} {a b:A7} {Q:Option A7->AP->Prop} (Hz:Draws prog w A.in1 Bd f1 Cv I_ Jm) (Hk:Draws prog w A.in1 C1 f2 D8 Hm Jn) (ap:T8 z TI CB Bd C1 f1 f2)(Aq:Ix s.heap z TI CB .none) (Ig:Gd s.heap TI (.ref Bd) (.ref C1)) (J2:Gd s.heap CB a b) (A6:Jm i s.heap) (AA:Jn i s.heap) (G8:i<Cv) (Dp:i<D8)(DU:∀x y h' C8,I_ i x->Hm i y->Ix h' z TI CB (Kg s.heap.objs.size)->Gd h' CB x y->Jm (i+1) h'->Jn (i+1) h'->Gd h' s.heap.objs.size x y->h'.objs.size=s.heap.objs.size+1->
    (∀c o,c≠z->c≠CB->c≠Bd->c≠C1->s.heap.get? c=some o->h'.get? c=some o)->Q (some (.ref s.heap.objs.size)) { s with heap:=h',toks:=C8 }) :
  Ad (B2 prog w) A (JN (.ref z)) Q E s:=by
 have CM:s.TypeIs (.ref z) "zip":=⟨_,Aq,rfl⟩;unfold JN
 exact AL (Qw (Mv (name:=En "__next__") CM XB
  (Iu XB CM F.entry_zip_next
    (agw Hz Hk ap Aq Ig J2 A6 AA G8 Dp λx y h' C8 a1 a2 I3 Ox S2 T9 rX hI rY=>Ay (DU x y h' C8 a1 a2 I3 Ox S2 T9 rX hI rY)) (F.args_zip_next_1 _))))
theorem acZ{z TI CB Bd C1:A8}{f1 f2:List A8}{Cv D8 i:Nat}{I_ Hm:Nat->A7->Prop}{Jm Jn:Nat->BI->Prop}{a b:A7}{Q:Option A7->AP->Prop}(Hz:Draws prog w A.in1 Bd f1 Cv I_ Jm)(Hk:Draws prog w A.in1 C1 f2 D8 Hm Jn)(ap:T8 z TI CB Bd C1 f1 f2)(Aq:Ix s.heap z TI CB .none)(Ig:Gd s.heap TI (.ref Bd) (.ref C1))(J2:Gd s.heap CB a b)(A6:Jm i s.heap)(AA:Jn i s.heap)(b5:i=Cv\/(i<Cv/\i=D8))(DU:∀h' C8,(∀c o,c≠z->c≠CB->c≠Bd->c≠C1->s.heap.get? c=some o->h'.get? c=some o)->Q none { s with heap:=h',toks:=C8 }):Ad (B2 prog w) A (JN (.ref z)) Q E s:=by
 have CM:s.TypeIs (.ref z) "zip":=⟨_,Aq,rfl⟩;unfold JN
 refine AL (Qw (Mv (name:=En "__next__") CM XB
  (Iu XB CM F.entry_zip_next (agv Hz Hk ap Aq Ig J2 A6 AA b5 λh' e C8 AE he=>?_) (F.args_zip_next_1 _))))
 obtain⟨o,ho,AO⟩:=he;refine AL (Qr (T:="StopIteration") (b:=true) ⟨o,ho,AO⟩ g5 ?_);exact Ay (DU _ _ AE)
end
def Inv.Vq{X:Ac}{pins:List (A8×Obj)}{σ :St}{H:AB}{s:AP}{h':BI}{t':Nat}{ch:List A8}(I:θ)(k:∀b o,b∉ch->s.heap.get? b=some o->h'.get? b=some o)(hf:∀b∈ch,KO X pins H b):Inv X pins σ H { s with heap:=h',toks:=t' }:=by
 have Ql:∀b u,H b=some u->b∉ch:=λb u e z=>by rw[(hf b z).1]at e;cases e
 refine I.step (g':=s.gens) (d':=s.drawn) (ch:=ch) (λb A0=>?_) (λb o _ _ AO e _=>k b o AO e) (λb o _ _ AO e _=>⟨o.slots,k b o AO e⟩) (λ_ _ _ _ n=>n)
  (λb o AO e=>⟨o,k b o AO e⟩) (λ_ _ e=>e) (λ_ _ _ e=>e) (λb Ai e=>⟨#[],by rw[e];simp⟩) (λm hm=>?_) (λb u e=>?_) I.bare
 .obtain⟨_,f1,_,Fc,f4,Ie⟩:=hf b A0;exact⟨Fc,f1,f4,Ie⟩
 .obtain⟨o,A4,BV,ho,r⟩:=hm;exact⟨o,A4,BV,k _ o (λz=>(hf _ z).2.1 rfl) ho,r⟩
 .refine(I.BZ b u e).PA (λc v AO q=>k c v ?_ q) (λ_ q=>q) λ_ _ q=>q;rcases AO with z|z
  .rw[z];exact Ql b u e
  .exact Ql c _ z
def Inv.eC{X:Ac}{pins:List (A8×Obj)}{σ :St}{H:AB}{s:AP}{h':BI}{t':Nat}{ch:List A8}{T:A8}{xs:List V}{its:List A7}(I:θ)(k:∀b o,b∉ch->s.heap.get? b=some o->h'.get? b=some o)(hf:∀b∈ch,KO X pins H b)(CM:s.heap.objs.size<=T)(Aj:Wt h' T its.toArray)(CJ:Vals xs its)(Aq:xs.length<=CD):Inv X pins σ (upd H T (.tup xs)) { s with heap:=h',toks:=t' }:=by
 have Ql:∀b u,H b=some u->b∉ch:=λb u e z=>by rw[(hf b z).1]at e;cases e
 have AQ:H T=none:=I.BZ.fresh CM;have neT:∀b o,s.heap.get? b=some o->b≠T:=λb o e=>Fl (Hx (De e) CM)
 refine I.step (g':=s.gens) (d':=s.drawn) (ch:=ch) (λb A0=>?_) (λb o _ _ AO e _=>k b o AO e) (λb o _ _ AO e _=>⟨o.slots,k b o AO e⟩) (λb o _ e n=>by rw[Cy (neT b o e)];exact n)
  (λb o AO e=>⟨o,k b o AO e⟩) (λb ys e=>by rw[Cy (KI e AQ)];exact e) (λb _ _ e=>by rw[Cy (KI e AQ)];exact e) (λb Ai e=>⟨#[],by rw[Cy (KI e AQ),e];simp⟩) (λm hm=>?_) (λb u e=>?_) I.bare
 .obtain⟨_,f1,_,Fc,f4,Ie⟩:=hf b A0;exact⟨Fc,f1,f4,Ie⟩
 .obtain⟨o,A4,BV,ho,r⟩:=hm;exact⟨o,A4,BV,k _ o (λz=>(hf _ z).2.1 rfl) ho,r⟩
 .by_cases A0:b=T
  .subst A0;rw[Da]at e;cases e;exact⟨Aq,its,CJ,Aj⟩
  .rw[Cy A0]at e;refine(I.BZ b u e).PA (λc v AO q=>k c v ?_ q) (λc q=>by rw[Cy (KI q AQ)];exact q) λc ys q=>by rw[Cy (KI q AQ)];exact q
   rcases AO with z|z
   .rw[z];exact Ql b u e
   .exact Ql c _ z
def h3(x:Str):It:=⟨λi _=>i<x.cps.size,λi H v H'=>H'=H/\∃c,x.cps[i]?=some c/\v=.str ⟨#[c]⟩,λi _=>i=x.cps.size⟩
def q8{prog:Bx}{w:Bj}{A:CK}(B4:A.handled=none)(I:A8)(x:Str)(t:Tok):Walks prog w A I [I] [I] x.cps.size (SignAt x) (λi h=>h.IsStrIter I (LV x) x t i):=by
 unfold LV;cases AD:x.cps.all (· <128)
 .rw[if_neg Fy];exact Walks.strWide B4 I x t
 .rw[if_pos rfl];exact Walks.strAscii B4 I x t
def jP{prog:Bx}{w:Bj}{A:CK}(B4:A.handled=none)(I:A8)(x:Str)(t:Tok):Draws prog w A I [I] x.cps.size (λi v=>∃c u,x.cps[i]?=some c/\v=.str ⟨#[c]⟩ u) (λi h=>h.IsStrIter I (LV x) x t i):=by
 unfold LV;cases AD:x.cps.all (· <128)
 .rw[if_neg Fy];exact Draws.strWide B4 I x t
 .rw[if_pos rfl];exact Draws.strAscii B4 I x t
def adK(x:Str):["enumerate","zip","dict_itemiterator","dict_reverseitemiterator","odict_iterator","itertools.zip_longest","itertools.pairwise"].contains (LV x)=false:=by
 unfold LV
 split<;>decide
def ae7{P:Bx}{w:Bj}{K:Aa}{Bw:AU}(it:A8)(x:Str)(t:Tok):Turn P w K Bw (h3 x) [it] it (λi h=>h.IsStrIter it (LV x) x t i) where
 mem:=γ
 obj:=λi h st b A0=>by
  have e:b=it:=(A0:)
  subst e;obtain⟨o,e,c,d⟩:=st;exact⟨o,e,λv z=>by rw[d]at z;cases z⟩
 keep:=λi h h' st k=>by obtain⟨o,e,r⟩:=st;exact⟨o,k it γ o e,r⟩
 item:=by intro X DF hw Ap AO i pins s σ H E I hf st A_;subst DF hw Ap;have W:=q8 (prog:=X.prog) (w:=X.w) (A:=X.A) (I.ok.hd AO) it x t;refine W.item i s _ _ A_ st λv h' C8 BN Mn BY=>?_;obtain⟨c,u,M0,rfl⟩:=BN;have Az:Inv X pins σ H { s with heap:=h',toks:=C8 }:=I.Vq (ch:=[it]) BY hf;obtain⟨o,e,BW,d1⟩:=id Mn;exact⟨_,rfl,Ya (s:={ s with heap:=h',toks:=C8 }) e BW d1 (adK x) ⟨.str ⟨#[c]⟩,H,Az,⟨u,rfl⟩,⟨rfl,c,M0,rfl⟩,Mn,λb A0=>(hf b A0).1⟩⟩
 done:=by intro X DF hw Ap AO i pins s σ H E I hf st A_;subst DF hw Ap;have W:=q8 (prog:=X.prog) (w:=X.w) (A:=X.A) (I.ok.hd AO) it x t;have AC:i=x.cps.size:=A_;subst AC;exact W.done s _ _ st λh' C8 BY=>⟨rfl,I.Vq (ch:=[it]) BY hf⟩
 self:=λA i s Q E st h=>by
  unfold LV at st;cases AD:x.cps.all (· <128)
  .rw[AD,if_neg Fy]at st;exact wpAny_pyIter_striter_wide st h
  .rw[AD,if_pos rfl]at st;exact wpAny_pyIter_striter_ascii st h
section
variable{X:Ac}{Bw:AU}
def k1(Ex:TE):TI:=λσ H R=>Ex σ H λv H1=>∃x,v=.str x/\R (h3 x) H1
def ab9{l:AU}{Ex:TE}(AN:Av X l Ex):GI X Bw l (k1 Ex):=by
 intro pins s σ H R I h;refine Bc (AN pins s σ H _ I h) λv s1⟨y,H1,Az,AK,Ak⟩=>?_;obtain⟨x,e,q⟩:=Ak;subst e;obtain⟨t,rfl⟩:=AK;refine wpAny_pyIter_strU ?_;refine⟨s1.heap.objs.size,[s1.heap.objs.size],_,_,H1,rfl,Az.kept (t':=s1.toks) λb o e=>DM _ e,ae7 _ x t,⟨_,FE _ rfl,rfl,rfl⟩,λb A0=>?_,q⟩;have e:b=s1.heap.objs.size:=(A0:)
 subst e;exact Az.OU (CY _) (Az.BZ.fresh (CY _))
end
noncomputable def gL(K:Aa)(l:A8):It:=⟨λi H=>∃xs x,CA K H l xs/\xs[i]?=some x,λi H v H'=>∃p x,H p=none/\H'=upd H p (.tup [.int (i:Int),x])/\v=.ref p/\∀xs,CA K H l xs->xs[i]?=some x,λi H=>∃xs,CA K H l xs/\xs.length=i⟩
def ae3{P:Bx}{w:Bj}{K:Aa}{elts:List AU}{BY:Nat}{pos:Pos}(e it l:A8)(ji:e≠it) :
  Turn P w K (.Tuple elts BY pos) (gL K l) [e,it] e (λi h=>(∃old,IsEnum h e it i old)/\h.IsListIter it l i) where
 mem:=γ
 obj:=λi h st b A0=>by
  obtain⟨⟨old,he⟩,o,A9,c,d⟩:=st;rcases List.mem_cons.mp A0 with z|z
  .subst z;exact⟨_,he,λv z=>by have FY:XT _=Sn v:=z;cases FY⟩
  .have z:b=it:=by simpa using z
   subst z;exact⟨o,A9,λv z=>by rw[d]at z;cases z⟩
 keep:=λi h h' st k=>by obtain⟨⟨old,he⟩,hit⟩:=st;exact⟨⟨old,k e γ _ he⟩,hit.at λo x=>k it γ o x⟩
 item:=by
  intro X DF hw Ap AO i pins s σ H E I hf st A_;subst DF hw Ap;obtain⟨xs,x,AV,AG⟩:=A_;obtain⟨its,CJ,pl,Aq⟩:=I.list AV;obtain⟨⟨old,he⟩,hit⟩:=st;have GU:=pl.isList;have hle:l≠e:=λz=>by subst z;obtain⟨o,ho,K0,_⟩:=GU;rw[he]at ho;cases ho;have K0:O4 "enumerate"=O4 "list":=K0;injection K0 with K0;exact absurd K0 ε
  have cg:l≠it:=λz=>by subst z;obtain⟨o,ho,K0,_⟩:=GU;obtain⟨o',EF,OZ,_⟩:=hit;rw[EF]at ho;cases ho;rw[K0]at OZ;injection OZ with OZ;exact absurd OZ ε
  have W:=WalksT.enumerate (prog:=X.prog) (w:=X.w) (A:=X.A) (I.ok.hd AO) e it l ji hle cg its.toArray;have hlen:=CJ.length;have TS:i<xs.length:=(List.getElem?_eq_some_iff.mp AG).1;refine W.item i s _ _ (by rw[Dy,<-hlen];exact TS) ⟨⟨old,he⟩,hit,GU⟩ λT vals h' C8 DF CM vA Yd AE=>?_;obtain⟨t,u,BM,rfl⟩:=DF;obtain⟨FH,VH,Fp⟩:=CJ.get AG;have LH:FH=u:=by rw[qZ]at BM;rw[VH]at BM;exact Ey BM
  subst LH;refine⟨_,rfl,?_⟩;refine W.go elts BY pos i T { s with heap:=h',toks:=C8 } _ _ Yd λAA Lu Oa=>?_;have kL:T∉[e,it]:=W.apart i T h' Yd;have keep:∀b o,b∉[e,it]->s.heap.get? b=some o->AA.get? b=some o:=λb o A0 q=>Oa b o A0 (AE b o A0 q);have VG:Wt AA T (#[.int i t,FH]:Array A7):=by obtain⟨o,ho,r⟩:=vA;exact⟨o,Oa T o kL ho,r⟩
  have AQ:H T=none:=I.BZ.fresh CM;have Bl:Inv X pins σ (upd H T (.tup [.int (i:Int),x])) { s with heap:=AA,toks:=C8 }:=I.eC (its:=[.int i t,FH]) (ch:=[e,it]) keep hf CM VG (.cons ⟨t,rfl⟩ (.cons Fp .nil)) (by show 2<=CD;decide);refine⟨.ref T,upd H T (.tup [.int (i:Int),x]),Bl,rfl,⟨T,x,AQ,rfl,rfl,λys Ba=>by rw[I.cV Ba AV];exact AG⟩,⟨Lu.1,Lu.2.1⟩,λb A0=>?_⟩;have nb:b≠T:=λz=>kL (z▸A0);rw[Cy nb];exact(hf b A0).1
 done:=by
  intro X DF hw Ap AO i pins s σ H E I hf st A_;subst DF hw Ap;obtain⟨xs,AV,AG⟩:=A_;obtain⟨its,CJ,pl,Aq⟩:=I.list AV;obtain⟨⟨old,he⟩,hit⟩:=st;have GU:=pl.isList;have hle:l≠e:=λz=>by subst z;obtain⟨o,ho,K0,_⟩:=GU;rw[he]at ho;cases ho;have K0:O4 "enumerate"=O4 "list":=K0;injection K0 with K0;exact absurd K0 ε
  have cg:l≠it:=λz=>by subst z;obtain⟨o,ho,K0,_⟩:=GU;obtain⟨o',EF,OZ,_⟩:=hit;rw[EF]at ho;cases ho;rw[K0]at OZ;injection OZ with OZ;exact absurd OZ ε
  have W:=WalksT.enumerate (prog:=X.prog) (w:=X.w) (A:=X.A) (I.ok.hd AO) e it l ji hle cg its.toArray;have Fv:i=its.toArray.size:=by rw[Dy,<-CJ.length];exact AG.symm
  subst Fv;exact W.done s _ _ ⟨⟨old,he⟩,hit,GU⟩ λh' C8 BY=>⟨rfl,I.Vq (ch:=[e,it]) BY hf⟩
 self:=λA i s Q E st h=>by obtain⟨⟨old,he⟩,_⟩:=st;exact wpAny_pyIter_enum he h
section
variable{X:Ac}{elts:List AU}{BY:Nat}{QT:Pos}
def jw(K:Aa)(C7:Ew):TI:=λσ H R=>C7 σ H λvs H1=>∃l,vs=[.ref l]/\(∃xs,CA K H1 l xs)/\R (gL K l) H1
def ab4{a:AU}{C7:Ew}{p pos:Pos}(A_:EE X "enumerate")(hm:X.mg "enumerate"=none)(AD:GH X [a] C7)(AJ:BF [a] X.env=[(false,BJ a X.env)]:=by rfl):GI X (.Tuple elts BY QT) (.Call (.Name "enumerate" p) [a] [] pos) (jw X.K C7):=by
 have A0:LY "enumerate"=some (.type "enumerate"):=by kernel_rfl
 intro pins s σ H R I h;refine qs (Om I A_ hm A0 (Qm (Bc (AD pos pins s σ H _ I h) λus s1⟨vs,H1,Az,AK,Ak⟩=>?_) AJ rfl));obtain⟨l,e,⟨xs,AV⟩,q⟩:=Ak;subst e;obtain⟨u,rfl,Fp⟩:=vals1 AK;cases Fp;obtain⟨its,CJ,pl,Aq⟩:=Az.list AV;refine call_enumerate_list pl.isList λh' he hit hsz AE=>?_;have Bl:Inv X pins σ H1 { s1 with heap:=h' }:=Az.kept (t':=s1.toks) AE;refine wpAny_pyIter_enum he ?_;refine⟨s1.heap.objs.size+1,[s1.heap.objs.size+1,s1.heap.objs.size],_,_,H1,rfl,Bl,ae3 _ _ l (Nat.succ_ne_self _),⟨⟨_,he⟩,hit⟩,λb A0=>?_,q⟩;have A0:b=s1.heap.objs.size+1\/b=s1.heap.objs.size:=(A0:)
 rcases A0 with z|z
 .subst z;exact Az.OU (U_ _) (Az.BZ.fresh (U_ _))
 .subst z;exact Az.OU (CY _) (Az.BZ.fresh (CY _))
end
noncomputable abbrev aQ(h:BI)(x:Str)(t:Tok):BI:=h.push { cls:=.type (LV x),data:=.fields #[.str x t,.int 0 0] }
noncomputable abbrev aR(h:BI)(x:Str)(t:Tok)(l:A8):BI:=(aQ h x t).push { cls:=.type "tuple_iterator",data:=.fields #[.ref l,.int 0 0] }
noncomputable abbrev aS(h:BI)(x:Str)(t:Tok)(l:A8):BI:=(aR h x t l).push { cls:=.type "tuple",data:=.seq #[.ref h.objs.size,.ref (aQ h x t).objs.size] }
noncomputable abbrev aT(h:BI)(x:Str)(t:Tok)(l:A8):BI:=(aS h x t l).push { cls:=.type "tuple",data:=.seq #[.none,.none] }
noncomputable abbrev Sa(h:BI)(x:Str)(t:Tok)(l:A8):BI:=(aT h x t l).push { cls:=.type "zip",data:=.fields #[.none,.bool false,.bool false,.ref (aR h x t l).objs.size,.ref (aS h x t l).objs.size] }
set_option maxHeartbeats 4000000 in
def zF(x:Str)(t:Tok)(Dp:A8)(ys:Array A7) :
  Meets (MH.«zip.__new__» ⟨[.type "zip",.str x t,.ref Dp],[]⟩) (λ_ R s=>s.heap.IsTuple Dp ys/\R (.ok (.ret (.ref (aT s.heap x t Dp).objs.size))) { s with heap:=Sa s.heap x t Dp }):=
 .of_wp λprog w A R s h=>by
   obtain⟨AZ,g,d,C8,os⟩:=s;obtain⟨LL,h⟩:=h;have ahr:=sub_zip;have vw:Heap.IsTuple (Shared.heap ⟨AZ.push { cls:=.type (LV x),data:=.fields #[.str x t,.int 0 0] },g,d,C8,os⟩) Dp ys:=Heap.IsTuple.push LL _
   wp_walk using wpAny_pyIter_strU,wpAny_pyIter_tuple vw
   exact⟨_,rfl,h⟩
theorem sN {prog:Bx} {w:Bj} {A:CK} {E:A7->AP->Prop} {s:AP} {x:Str} {t:Tok} {Dp:A8} {ys:Array A7} {Q:A7->AP->Prop} (LL:s.heap.IsTuple Dp ys)(h:∀h',Ix h' (s.heap.objs.size+4) (s.heap.objs.size+2) (s.heap.objs.size+3) .none->Gd h' (s.heap.objs.size+2) (.ref s.heap.objs.size) (.ref (s.heap.objs.size+1))->
    Gd h' (s.heap.objs.size+3) .none .none->h'.IsStrIter s.heap.objs.size (LV x) x t 0->h'.IsTupleIter (s.heap.objs.size+1) Dp 0->h'.objs.size=s.heap.objs.size+5->
    (∀c o,s.heap.get? c=some o->h'.get? c=some o)->Q (.ref (s.heap.objs.size+4)) { s with heap:=h' }) :
  Ad (B2 prog w) A (call (.type "zip") [.str x t,.ref Dp]) Q E s:=by
 refine callType_new F.called_zip ε (F.typeCall_zip_2 _ _) (F.newCall_zip_2 _ _) (λobj=>F.args_object_init_3 obj _ _) F.entry_zip_new (zF x t Dp ys) ⟨LL,?_⟩;have Db:(aQ s.heap x t).objs.size=s.heap.objs.size+1:=LW ..;have Dj:(aR s.heap x t Dp).objs.size=s.heap.objs.size+2:=by rw[LW,Db]
 have Q7:(aS s.heap x t Dp).objs.size=s.heap.objs.size+3:=by rw[LW,Dj]
 have SZ:(aT s.heap x t Dp).objs.size=s.heap.objs.size+4:=by rw[LW,Q7]
 have e9:(Sa s.heap x t Dp).objs.size=s.heap.objs.size+5:=by rw[LW,SZ]
 have Uz:(Sa s.heap x t Dp).get? (aT s.heap x t Dp).objs.size=some _:=FE _ rfl;have g4:(Sa s.heap x t Dp).get? (aS s.heap x t Dp).objs.size=some _:=DM _ (FE _ rfl);have g3:(Sa s.heap x t Dp).get? (aR s.heap x t Dp).objs.size=some _:=DM _ (DM _ (FE _ rfl));have g2:(Sa s.heap x t Dp).get? (aQ s.heap x t).objs.size=some _:=DM _ (DM _ (DM _ (FE _ rfl)));have g1:(Sa s.heap x t Dp).get? s.heap.objs.size=some _:=DM _ (DM _ (DM _ (DM _ (FE _ rfl))));show _/\_;rw[Dj,Q7,SZ]at Uz;rw[Db,Dj]at g3;rw[Q7]at g4;rw[Db]at g2;rw[SZ];exact⟨⟨_,Uz,rfl⟩,h _ Uz g3 g4 ⟨_,g1,rfl,rfl⟩ ⟨_,g2,rfl,rfl⟩ e9 λc o x=>
  DM _ (DM _ (DM _ (DM _ (DM _ x))))⟩
noncomputable def h5(K:Aa)(x:Str)(l:A8):It:=⟨λi H=>i<x.cps.size/\∃ys y,CT K H l ys/\ys[i]?=some y,
 λi H v H'=>∃p c y,x.cps[i]?=some c/\H p=none/\H'=upd H p (.tup [.str ⟨#[c]⟩,y])/\v=.ref p/\∀ys,CT K H l ys->ys[i]?=some y,
 λi H=>∃ys,CT K H l ys/\i=min x.cps.size ys.length⟩
structure iU(z TI CB Bd C1:A8):Prop where
 TIz:TI≠z
 TOz:CB≠z
 TITO:TI≠CB
 TIi1:TI≠Bd
 TIi2:TI≠C1
 TOi1:CB≠Bd
 TOi2:CB≠C1
 i1z:Bd≠z
 i2z:C1≠z
 i12:Bd≠C1
def ae9{P:Bx}{w:Bj}{K:Aa}{elts:List AU}{BY:Nat}{pos:Pos}(x:Str)(t:Tok)(l z TI CB Bd C1:A8)(ap:iU z TI CB Bd C1) :
  Turn P w K (.Tuple elts BY pos) (h5 K x l) [z,TI,CB,Bd,C1] z (λi h=>Ix h z TI CB .none/\Gd h TI (.ref Bd) (.ref C1)/\(∃a b,Gd h CB a b)/\h.IsStrIter Bd (LV x) x t i/\h.IsTupleIter C1 l i) where
 mem:=γ
 obj:=λi h st b A0=>by
  obtain⟨Aq,Ig,⟨a,Jr,J2⟩,⟨D0,A9,BW,d1⟩,D3,AH,Ea,Ct⟩:=st;have A0:b=z\/b=TI\/b=CB\/b=Bd\/b=C1:=(A0:)
  rcases A0 with q|q|q|q|q<;>subst q
  .exact⟨_,Aq,λv z=>by have FY:XT _=Sn v:=z;cases FY⟩
  .exact⟨_,Ig,λv z=>by have FY:Data.seq _ _=Sn v:=z;cases FY⟩
  .exact⟨_,J2,λv z=>by have FY:Data.seq _ _=Sn v:=z;cases FY⟩
  .exact⟨D0,A9,λv z=>by rw[d1]at z;cases z⟩
  .exact⟨D3,AH,λv z=>by rw[Ct]at z;cases z⟩
 keep:=λi h h' st k=>by obtain⟨Aq,Ig,⟨a,Jr,J2⟩,⟨D0,A9,AK⟩,D3,AH,B7⟩:=st;exact⟨k z γ _ Aq,k TI γ _ Ig,⟨a,Jr,k CB γ _ J2⟩,⟨D0,k Bd γ _ A9,AK⟩,D3,k C1 γ _ AH,B7⟩
 item:=by
  intro X DF hw Ap AO i pins s σ H E I hf st A_;subst DF hw Ap;obtain⟨AC,ys,y,AV,Ba⟩:=A_;obtain⟨its,CJ,Aj,wt⟩:=I.tuple AV;obtain⟨Aq,Ig,⟨a,Jr,J2⟩,YN,Fd⟩:=st;have nl:∀b∈[z,TI,CB,Bd,C1],l≠b:=λb A0 q=>by
   subst q;rcases AV with(h|⟨o,h⟩)|⟨o,xO,n,h,_⟩
   .rw[(hf l A0).1]at h;cases h
   .rw[(hf l A0).1]at h;cases h
   .have A6:=I.ok.mod.JQ l o h;rcases(hf l A0).2.2.2.1 with q|q
    .exact I.ok.RO l o A6 q
    .exact absurd (Hx (De (I.ok.bs l o A6).1) q) (K3 _)
  have B4:X.A.in1.handled=none:=I.ok.hd AO;have Hz:=jP (prog:=X.prog) (w:=X.w) (A:=X.A.in1) B4 Bd x t;have Hk:=jQ (prog:=X.prog) (w:=X.w) (A:=X.A.in1) B4 C1 l (nl C1 γ) its.toArray;have hlen:=CJ.length;have TS:i<ys.length:=(List.getElem?_eq_some_iff.mp Ba).1
  have ND:T8 z TI CB Bd C1 [Bd] [C1,l]:=⟨ap.TIz,ap.TOz,ap.TITO,ap.TIi1,ap.TIi2,ap.TOi1,ap.TOi2,ap.i1z,ap.i2z,ap.i12,(ap.i1z.symm:),(ap.TOi1:),(ap.i12.symm:),
   by erw[LX,LN,or_false,not_or];exact⟨ap.i2z.symm,(nl z γ).symm⟩,by erw[LX,LN,or_false,not_or];exact⟨ap.TOi2,(nl CB γ).symm⟩,by erw[LX,LN,or_false,not_or];exact⟨ap.i12,(nl Bd γ).symm⟩⟩
  refine ac_ Hz Hk ND Aq Ig J2 YN ⟨Fd,Aj⟩ AC (by rw[Dy,<-hlen];exact TS) λMp Hj h' C8 EA Cw a1 a2 I3 Ox S2 T9 AE=>?_;obtain⟨c,t1,vK,rfl⟩:=EA;obtain⟨FH,VH,Fp⟩:=CJ.get Ba;have LH:FH=Hj:=by rw[qZ]at Cw;rw[VH]at Cw;exact Ey Cw
  subst LH;refine⟨_,rfl,?_⟩;refine wpAny_letOwnedTupleGo_zip a1 λAA cw TV=>?_;have aeV:∀b∈[z,TI,CB,Bd,C1],b<s.heap.objs.size:=λb A0=>by
   have A0:b=z\/b=TI\/b=CB\/b=Bd\/b=C1:=(A0:)
   obtain⟨D0,A9,_⟩:=YN;obtain⟨D3,AH,_⟩:=Fd;rcases A0 with q|q|q|q|q<;>subst q
   .exact De Aq
   .exact De Ig
   .exact De J2
   .exact De A9
   .exact De AH
  have kW:∀b∈[z,TI,CB,Bd,C1],b≠s.heap.objs.size:=λb A0=>Fl (aeV b A0);have keep:∀b o,b∉[z,CB,Bd,C1]->s.heap.get? b=some o->AA.get? b=some o:=λb o A0 q=>by have A0:¬(b=z\/b=CB\/b=Bd\/b=C1):=λw=>A0 (w:);exact TV.extBut b o (λw=>A0 (.inl w)) (AE b o (λw=>A0 (.inl w)) (λw=>A0 (.inr (.inl w))) (λw=>A0 (.inr (.inr (.inl w)))) (λw=>A0 (.inr (.inr (.inr w)))) q)
  have VG:Wt AA s.heap.objs.size ([.str ⟨#[c]⟩ t1,FH]:List A7).toArray:=⟨_,TV.extBut _ _ (kW z γ).symm S2,rfl,_,rfl⟩;have AQ:H s.heap.objs.size=none:=I.BZ.fresh (CY _);have Bl:Inv X pins σ (upd H s.heap.objs.size (.tup [.str ⟨#[c]⟩,y])) { s with heap:=AA,toks:=C8 }:=I.eC (its:=[.str ⟨#[c]⟩ t1,FH]) (ch:=[z,CB,Bd,C1]) keep (λb A0=>hf b (by
   have A0:b=z\/b=CB\/b=Bd\/b=C1:=(A0:)
   rcases A0 with q|q|q|q<;>simp[q])) (CY _) VG (.cons ⟨t1,rfl⟩ (.cons Fp .nil)) (by show 2<=CD;decide)
  refine⟨.ref s.heap.objs.size,_,Bl,rfl,⟨s.heap.objs.size,c,y,vK,AQ,rfl,rfl,λzs wu=>by rw[I.eB wu AV];exact Ba⟩,?_,λb A0=>?_⟩
  .refine⟨cw,TV.extBut _ _ ap.TIz (AE _ _ ap.TIz ap.TITO ap.TIi1 ap.TIi2 Ig),⟨_,_,TV.extBut _ _ ap.TOz a2⟩,?_,?_⟩
   .obtain⟨D0,A9,AK⟩:=I3;exact⟨D0,TV.extBut _ _ ap.i1z A9,AK⟩
   .obtain⟨⟨D3,AH,B7⟩,_⟩:=Ox;exact⟨D3,TV.extBut _ _ ap.i2z AH,B7⟩
  .rw[Cy (kW b A0)];exact(hf b A0).1
 done:=by
  intro X DF hw Ap AO i pins s σ H E I hf st A_;subst DF hw Ap;obtain⟨ys,AV,AC⟩:=A_;obtain⟨its,CJ,Aj,wt⟩:=I.tuple AV;obtain⟨Aq,Ig,⟨a,Jr,J2⟩,YN,Fd⟩:=st;have nl:∀b∈[z,TI,CB,Bd,C1],l≠b:=λb A0 q=>by
   subst q;rcases AV with(h|⟨o,h⟩)|⟨o,xO,n,h,_⟩
   .rw[(hf l A0).1]at h;cases h
   .rw[(hf l A0).1]at h;cases h
   .have A6:=I.ok.mod.JQ l o h;rcases(hf l A0).2.2.2.1 with q|q
    .exact I.ok.RO l o A6 q
    .exact absurd (Hx (De (I.ok.bs l o A6).1) q) (K3 _)
  have B4:X.A.in1.handled=none:=I.ok.hd AO;have Hz:=jP (prog:=X.prog) (w:=X.w) (A:=X.A.in1) B4 Bd x t;have Hk:=jQ (prog:=X.prog) (w:=X.w) (A:=X.A.in1) B4 C1 l (nl C1 γ) its.toArray;have hlen:=CJ.length
  have ND:T8 z TI CB Bd C1 [Bd] [C1,l]:=⟨ap.TIz,ap.TOz,ap.TITO,ap.TIi1,ap.TIi2,ap.TOi1,ap.TOi2,ap.i1z,ap.i2z,ap.i12,(ap.i1z.symm:),(ap.TOi1:),(ap.i12.symm:),
   by erw[LX,LN,or_false,not_or];exact⟨ap.i2z.symm,(nl z γ).symm⟩,by erw[LX,LN,or_false,not_or];exact⟨ap.TOi2,(nl CB γ).symm⟩,by erw[LX,LN,or_false,not_or];exact⟨ap.i12,(nl Bd γ).symm⟩⟩
  refine acZ Hz Hk ND Aq Ig J2 YN ⟨Fd,Aj⟩ ?_ λh' C8 BY=>⟨rfl,I.Vq (ch:=[z,CB,Bd,C1]) (λb o A0 q=>?_) λb A0=>hf b ?_⟩
  .have A4:its.toArray.size=its.length:=γ
   rw[A4,<-hlen];lia
  .have A0:¬(b=z\/b=CB\/b=Bd\/b=C1):=λw=>A0 (w:);exact BY b o (λw=>A0 (.inl w)) (λw=>A0 (.inr (.inl w))) (λw=>A0 (.inr (.inr (.inl w)))) (λw=>A0 (.inr (.inr (.inr w)))) q
  .have A0:b=z\/b=CB\/b=Bd\/b=C1:=by simpa using A0
   rcases A0 with q|q|q|q<;>simp[q]
 self:=λA i s Q E st h=>wpAny_pyIter_zip st.1 h
section
variable{X:Ac}{elts:List AU}{BY:Nat}{QT:Pos}
def agx(n:Nat):iU (n+4) (n+2) (n+3) n (n+1):=
 ⟨(show n+2≠n+4 from Fl (show(n+2:Nat)<n+4 by lia)),
  (show n+3≠n+4 from Fl (show(n+3:Nat)<n+4 by lia)),
  (show n+2≠n+3 from Fl (show(n+2:Nat)<n+3 by lia)),
  (show n+2≠n from Mw (show(n:Nat)<n+2 by lia)),
  (show n+2≠n+1 from Mw (show(n+1:Nat)<n+2 by lia)),
  (show n+3≠n from Mw (show(n:Nat)<n+3 by lia)),
  (show n+3≠n+1 from Mw (show(n+1:Nat)<n+3 by lia)),
  (show n≠n+4 from Fl (show(n:Nat)<n+4 by lia)),
  (show n+1≠n+4 from Fl (show(n+1:Nat)<n+4 by lia)),
  (show n≠n+1 from Fl (show(n:Nat)<n+1 by lia))⟩
def jY(K:Aa)(C7:Ew):TI:=λσ H R=>C7 σ H λvs H1=>∃x l,vs=[.str x,.ref l]/\(∃ys,CT K H1 l ys)/\R (h5 K x l) H1
def abB{a b:AU}{C7:Ew}{p pos:Pos}(A_:EE X "zip")(hm:X.mg "zip"=none)(AD:GH X [a,b] C7)(AJ:BF [a,b] X.env=[(false,BJ a X.env),(false,BJ b X.env)]:=by rfl)(Fd:BF [b] X.env=[(false,BJ b X.env)]:=by rfl) :
  GI X (.Tuple elts BY QT) (.Call (.Name "zip" p) [a,b] [] pos) (jY X.K C7):=by
 have A0:LY "zip"=some (.type "zip"):=by kernel_rfl
 intro pins s σ H R I h;refine qs (Om I A_ hm A0 (Qm (Bc (AD pos pins s σ H _ I h) λus s1⟨vs,H1,Az,AK,Ak⟩=>?_) (by rw[AJ,Fd]) (by rw[Fd];rfl)));obtain⟨x,l,e,⟨ys,AV⟩,q⟩:=Ak;subst e;obtain⟨u,Hj,rfl,⟨t,rfl⟩,Fp⟩:=vals2 AK;cases Fp;obtain⟨its,CJ,Aj,Aq⟩:=Az.tuple AV;refine sN (show s1.heap.IsTuple l its.toArray from Aj) λh' a1 a2 I3 Ox S2 T9 AE=>?_;have Bl:Inv X pins σ H1 { s1 with heap:=h' }:=Az.kept (t':=s1.toks) AE;refine wpAny_pyIter_zip a1 ?_;refine⟨s1.heap.objs.size+4,[s1.heap.objs.size+4,s1.heap.objs.size+2,s1.heap.objs.size+3,s1.heap.objs.size,s1.heap.objs.size+1],_,_,H1,rfl,Bl,ae9 x t l _ _ _ _ _ (agx s1.heap.objs.size),⟨a1,a2,⟨_,_,I3⟩,Ox,S2⟩,λb A0=>?_,q⟩;have A0:s1.heap.objs.size<=b:=by
  have A0:b=s1.heap.objs.size+4\/b=s1.heap.objs.size+2\/b=s1.heap.objs.size+3\/b=s1.heap.objs.size\/b=s1.heap.objs.size+1:=(A0:)
  rcases A0 with q|q|q|q|q
  .rw[q];exact UK _ _
  .rw[q];exact UK _ _
  .rw[q];exact UK _ _
  .rw[q];exact CY _
  .rw[q];exact UK _ _
 exact Az.OU A0 (Az.BZ.fresh A0)
end
end Bs
namespace CP
open PySem PySem.Spec Bs
section
variable{X:Ac}{F:BA}{e a b c Bw iter elt:AU}{A4:List AU}{pos p:Pos}{m n:Ae}{ma:B1}
noncomputable def GB(c:Nat):D:=.str ⟨#[c]⟩
noncomputable def ea:D->R μ
 |.str x=>.ok (x.cps.toList.map GB)
 |_=>.bad
def xR{K:Aa}{G:AB}(x:Str):MV K (h3 x) (x.cps.toList.map GB) G where
 go:=λi H s AC=>by
  have h:i<x.cps.size:=(AC:)
  exact h
 Jd:=λi H v H' s AC y=>by obtain⟨e,c,AO,rfl⟩:=y;refine⟨GB c,?_,.inl ⟨e,by unfold GB;erw[At]⟩⟩;rw[EC,UC,AO];rfl
 stop:=λH s=>by
  have h:(x.cps.toList.map GB).length=x.cps.size:=γ
  exact h
noncomputable def WS(m:Ae):B1:=λρ=>(m ρ).bind ea
def xj:Oq (L3 F (WS m)) (k1 (Cx F m)):=by
 delta WS r;refine rb h λd As h v H1 Ah AK s1 a=>?_;cases d with
 |str x=>erw[At]at a;exact⟨x,a,h _ H1 Ah AK s1 (xR x)⟩
 |_=>cases h
noncomputable def Q0(ds:μ):μ:=ds.zipIdx.map λp=>.tup [.int (p.2:Int),p.1]
def sw{ds:μ}{i:Nat}{d:D}(e:ds[i]?=some d):(Q0 ds)[i]?=some (.tup [.int (i:Int),d]):=by unfold Q0;rw[EC,List.getElem?_zipIdx,e];simp
noncomputable def TJ:μ->R μ
 |[.lst ds]=>.ok (Q0 ds)
 |[.D1 ds]=>.ok (Q0 ds)
 |_=>.bad
def l7{K:Aa}{G:AB}{l:A8}{ds:μ}{xs:List V}(h:CA K G l xs)(q:AW K G ds xs):MV K (gL K l) (Q0 ds) G where
 go:=λi H s AC=>by
  have AC:i<ds.length:=by simpa[Q0]using AC
  obtain⟨v,e,_⟩:=q.get (Dt AC);exact⟨xs,v,CA.mono s h,e⟩
 Jd:=λi H v H' s AC y=>by obtain⟨p,x,AZ,rfl,rfl,y⟩:=y;have ex:=y xs (CA.mono s h);obtain⟨d,e,a⟩:=q.V2 ex;exact⟨_,sw e,.inr ⟨p,_,_,AZ,rfl,rfl,rfl,λAh s1 _=>.cons (by erw[At]) (.cons (a.mono s1) .nil)⟩⟩
 stop:=λH s=>⟨xs,CA.mono s h,by simp[Q0,q.length]⟩
def WR(m:B1):B1:=λρ=>(m ρ).bind TJ
def wR(Ap:F.K=X.K):Oq (L3 F (WR ma)) (jw X.K (Es F ma)):=by
 delta WR r;refine rb h λds As h vs H1 Ah AK s1 al=>?_;unfold TJ at h
 split at h
 .rename_i ds;obtain⟨v,rfl,a⟩:=al.one;erw[At]at a;obtain⟨q,xs,rfl,AV,F7⟩:=a;have GC:CA X.K Ah q xs:=CA.of AV;rw[<-Ap]at GC;refine⟨q,rfl,⟨xs,by rw[<-Ap];exact CA.mono AK.kp.sub GC⟩,?_⟩;rw[<-Ap];exact h _ H1 Ah AK s1 (l7 GC F7)
 .rename_i ds;obtain⟨v,rfl,a⟩:=al.one;erw[At]at a;obtain⟨q,xs,rfl,AV,F7⟩:=a;refine⟨q,rfl,⟨xs,by rw[<-Ap];exact CA.mono AK.kp.sub AV⟩,?_⟩;rw[<-Ap];exact h _ H1 Ah AK s1 (l7 AV F7)
 .exact h.elim
noncomputable def S_(xs:ι)(ys:μ):μ:=(xs.zip ys).map λp=>.tup [GB p.1,p.2]
noncomputable def qF:μ->R μ
 |[.str x,.Do ys]=>.ok (S_ x.cps.toList ys)
 |_=>.bad
def xS{K:Aa}{G:AB}{x:Str}{l:A8}{ds:μ}{xs:List V}(h:CT K G l xs)(q:AW K G ds xs):MV K (h5 K x l) (S_ x.cps.toList ds) G where
 go:=λi H s AC=>by
  have AC:i<min x.cps.size ds.length:=by simpa[S_]using AC
  have A6:i<ds.length:=δ
  obtain⟨v,e,_⟩:=q.get (Dt A6);exact⟨δ,xs,v,CT.mono s h,e⟩
 Jd:=λi H v H' s AC y=>by
  obtain⟨p,c,SX,AO,AZ,rfl,rfl,y⟩:=y;have ex:=y xs (CT.mono s h);obtain⟨d,e,a⟩:=q.V2 ex;refine⟨.tup [GB c,d],?_,.inr ⟨p,_,_,AZ,rfl,rfl,rfl,λAh s1 _=>.cons (by unfold GB;erw[At]) (.cons (a.mono s1) .nil)⟩⟩;unfold S_;rw[EC];have SG:(x.cps.toList.zip ds)[i]?=some (c,d):=by rw[qj];exact⟨by rw[UC];exact AO,e⟩
  rw[SG];rfl
 stop:=λH s=>⟨xs,CT.mono s h,by simp[S_,q.length]⟩
noncomputable def Zz(m:B1):B1:=λρ=>(m ρ).bind qF
def xq(Ap:F.K=X.K):Oq (L3 F (Zz ma)) (jY X.K (Es F ma)):=by
 delta Zz r;refine rb h λds As h vs H1 Ah AK s1 al=>?_;unfold qF at h
 split at h
 .rename_i x ys;obtain⟨v,w,rfl,BD,Oy⟩:=al.two;erw[At]at BD Oy;subst BD;obtain⟨q,xs,rfl,AV,F7⟩:=Oy;refine⟨x,q,rfl,⟨xs,by rw[<-Ap];exact CT.mono AK.kp.sub AV⟩,?_⟩;rw[<-Ap];exact h _ H1 Ah AK s1 (xS AV F7)
 .exact h.elim
structure GM(X:Ac)(Bw:AU)(set:D->AI->R AI):Prop where
 ex:∃g,KP X Bw g/\∀F:BA,F.K=X.K->Pg F g set
 GL:∀d ρ c,set d ρ≠.exc c
 keeps:Keeps set
def aaN(i:Nat){x:Str}(hN:X.N.Nodup)(AC:X.N[i]?=some x:=by rfl)(AG:Loc X.env.scope x:=by first|exact Dh rfl|exact Cp rfl)(hf:X.fn x=true\/X.env.scope.names.lookup x=some .local:=by first|exact .inl rfl|exact .inr rfl):GM X (.Name x pos) (BK i):=
 ⟨⟨Jx i,ZE hN AC AG hf,λ_ _=>YZ i⟩,aq i,ao i⟩
structure Y9(X:Ac)(aej:List AU)(Ar:List (D->AI->R AI)):Prop where
 ex:∃g,Um X aej g/\∀F:BA,F.K=X.K->Uh F g (IQ Ar)
 GL:∀f∈Ar,∀d ρ c,f d ρ≠.exc c
 keeps:∀f∈Ar,Keeps f
def aaO:Y9 X [] []:=⟨⟨YX,m2,λ_ _=>k8⟩,(λ_ h=>nomatch h),(λ_ h=>nomatch h)⟩
def yx{f:D->AI->R AI}{Ar:List (D->AI->R AI)}(h:GM X e f)(t:Y9 X A4 Ar)(AJ:(LU (e::A4) X.env).map (·.2)=Kf e X.env::(LU A4 X.env).map (·.2):=by rfl):Y9 X (e::A4) (f::Ar):=by obtain⟨⟨g,A6,AA⟩,Ao,BG⟩:=h;obtain⟨⟨gs,t1,DI⟩,t3,ek⟩:=t;exact⟨⟨V0 g gs,dO A6 t1 AJ,λF Lz=>bQ (AA F Lz) (DI F Lz)⟩,λk AE=>by rcases List.mem_cons.mp AE with rfl|AE;exact Ao;exact t3 k AE,λk AE=>by rcases List.mem_cons.mp AE with rfl|AE;exact BG;exact ek k AE⟩
def aaR{k:Nat}{Ar:List (D->AI->R AI)}(AO:X.calm=true)(h:Y9 X A4 Ar)(AQ:(LU A4 X.env).length=Ar.length:=by rfl)(Oe:(LU A4 X.env).findIdx? (·.1)=none:=by rfl):GM X (.Tuple A4 k pos) (FO Ar):=by obtain⟨⟨gs,t1,DI⟩,t3,ek⟩:=h;exact⟨⟨YY X.K Ar.length gs,m1 AO t1 AQ Oe,λF Lz=>by rw[<-Lz];exact k9 rfl (DI F Lz)⟩,nu t3,nt ek⟩
abbrev gK(X:Ac)(scope:E8)(N:List Str)(e:AU)(m:Ae):Prop:=∀cl C s H Al G0 H0,Jg (Fa X scope N cl C s H Al) (Gv X.K G0 H0) e m
abbrev Q5(X:Ac)(scope:E8)(N:List Str)(ifs:List AU)(m:Ck):Prop:=∀cl C s H Al G0 H0,Pk (Fa X scope N cl C s H Al) ifs (HO (Gv X.K G0 H0) m)
abbrev Y5(X:Ac)(scope:E8)(N:List Str)(Bw:AU)(set:D->AI->R AI):Prop:=∃g,(∀cl C s H Al,KP (Fa X scope N cl C s H Al) Bw g)/\(∀G0 H0,Pg (Gv X.K G0 H0) g set)
def i7{scope:E8}{N:List Str}{g:Ib}{set:D->AI->R AI}(h:∀cl C s H Al,KP (Fa X scope N cl C s H Al) Bw g)(k:∀F:BA,F.K=X.K->Pg F g set):Y5 X scope N Bw set:=⟨g,h,λG0 H0=>k (Gv X.K G0 H0) rfl⟩
def FM:Ck:=λ_=>.ok true
def su{scope:E8}{N:List Str}:Q5 X scope N [] FM:=λcl C s H Al G0 H0 pins s' σ H' Q I h=>by obtain⟨G,ρ,r,k⟩:=h;exact acP pins s' σ H' Q I (k H' G r (C3.refl _ _))
def ss{scope:E8}{N:List Str}{mt:Ck}(h:∀cl C s H Al G0 H0,iP (Fa X scope N cl C s H Al) (Gv X.K G0 H0) c mt):Q5 X scope N [c] mt:=λcl C s H Al G0 H0=>acQ (h cl C s H Al G0 H0)
def jC{scope:E8}{N:List Str}{ifs:List AU}{nl:Nat}{caps:ι}{mi:B1}{set:D->AI->R AI}{mt:Ck}{Ge:Ae}(Ap:F.K=X.K)(AC:gH X F Bw iter mi)(A_:Y5 X scope N Bw set)(Aj:Q5 X scope N ifs mt)(he:gK X scope N elt Ge)(AG:∀d ρ c,set d ρ≠.exc c)(AE:Keeps set){Q:TE->Prop}(k:∀g,(∀cl C s H Al,KP (Fa X scope N cl C s H Al) Bw g)->(∀cl C s H Al,Pk (Fa X scope N cl C s H Al) ifs (e6 X.K mt))->(∀cl C s H Al,Av (Fa X scope N cl C s H Al) elt (e5 X.K Ge))->Ej (I8 F (E3 nl caps mi set mt Ge)) (aC (L3 F mi) g (e6 X.K mt) (e5 X.K Ge) nl caps)->Q (I8 F (E3 nl caps mi set mt Ge))):Q (I8 F (E3 nl caps mi set mt Ge)):=by
 obtain⟨g,g1,g2⟩:=A_;refine k g g1 (λcl C s H Al pins s' σ H' RK I h=>?_) (λcl C s H Al pins s' σ H' RK I h=>?_) ?_
 .obtain⟨G0,H0,h⟩:=h;exact Aj cl C s H Al G0 H0 pins s' σ H' RK I h
 .obtain⟨G0,H0,h⟩:=h;exact he cl C s H Al G0 H0 pins s' σ H' RK I h
 .have z:=wL (F:=F) (nl:=nl) (caps:=caps) (mi:=mi) (tst:=mt) (elt:=Ge) (g:=g) (set:=set) (λG0 H0=>by rw[Ap];exact g2 G0 H0) AG AE;rw[Ap]at z;exact z
def aa1{scope:E8}{N:List Str}{ifs:List AU}{nl:Nat}{caps:ι}{mi:B1}{set:D->AI->R AI}{mt:Ck}{Ge:Ae}(S:Ng X.env.scope X.N scope N nl caps)(AC:gH X F Bw iter mi)(A_:Y5 X scope N Bw set)(AG:∀d ρ c,set d ρ≠.exc c)(AE:Keeps set)(Aj:Q5 X scope N ifs mt)(he:gK X scope N elt Ge)(AO:X.calm=true:=by rfl)(Ap:F.K=X.K:=by rfl)(AJ:∀x,PM iter X.env x=pure x:=by intro _;rfl):iA X F (.ListComp elt [⟨Bw,iter,ifs,0⟩] scope pos) (E3 nl caps mi set mt Ge):=
 jC (nl:=nl) (caps:=caps) (Q:=λt=>Av X (.ListComp elt [⟨Bw,iter,ifs,0⟩] scope pos) t) Ap AC A_ Aj he AG AE λg g1 t1 A9 imp=>Av.imp (abY S AO AC g1 t1 A9 AJ) imp
end
section
variable{X:Ac}{F:BA}{e a b c:AU}{A4:List AU}{pos p:Pos}{m n:Ae}{ma:B1}
noncomputable def S4:μ->Option (List Bool)
 |[]=>some []
 |.AR b::r=>(S4 r).map (b::·)
 |_::_=>none
theorem hX{K:Aa}{G:AB}:∀{ds:μ}{xs:List V}{bs:List Bool},AW K G ds xs->S4 ds=some bs->xs=bs.map V.AR
 |[],_,_,q,e=>by erw[AW]at q;subst q;cases e;rfl
 |d::ds,_,bs,q,e=>by
  erw[AW]at q;obtain⟨v,r,rfl,a,Ma⟩:=q;cases d with
  |AR b=>
   erw[At]at a;subst a;erw[S4]at e;cases A9:S4 ds with
   |none=>rw[A9]at e;cases e
   |some cs=>rw[A9]at e;have BS:b::cs=bs:=Ey e;subst BS;rw[hX Ma A9];rfl
  |_=>cases e
theorem q3:∀{bs:List Bool}{us:List A7},Vals (bs.map V.AR) us->us=bs.map Sp
 |[],_,r=>by cases r;rfl
 |b::bs,_,r=>by
  cases r with
  |cons AK B7=>cases AK;rw[q3 B7];rfl
def sE(AO:X.calm=true)(Yi:X.A.handled=none):IW X (.builtin "all") (λxs H Q=>∃(p:A8)(bs:List Bool),xs=[.ref p]/\CA X.K H p (bs.map V.AR)/\Q (.AR (bs.all id)) H):=by
 intro pins s σ H xs us Q I r h;obtain⟨p,bs,rfl,AV,q⟩:=h;obtain⟨u,rfl,Fp⟩:=vals1 r;cases Fp;obtain⟨its,CJ,pl,Aq⟩:=I.list AV;have Fv:=q3 CJ;refine call_all_walk (wpAny_pyIter_list pl.isList ?_);have R_:p≠s.heap.objs.size:=by obtain⟨o,ho,_⟩:=pl.isList;exact Fl (De ho)
 refine⟨s.heap.objs.size,_,_,_,_,_,λi=>(bs[i]?).getD true,rfl,Walks.list (prog:=X.prog) (w:=X.w) (A:=X.A.in1) Yi s.heap.objs.size p R_ its.toArray,⟨⟨_,FE _ rfl,rfl,rfl⟩,pl.isList.push _⟩,?_,λh' C8 BY=>?_⟩
 .intro i v s' RK gB DF az;rw[Fv]at DF;have DF:(bs.map Sp)[i]?=some v:=by simpa using DF
  rw[EC]at DF;cases BS:bs[i]? with
  |none=>rw[BS]at DF;cases DF
  |some b=>rw[BS]at DF;have ev:Sp b=v:=Ey DF;subst ev;dsimp only at az;rw[BS]at az;exact LM az
 .have TP:(EN its.toArray.size).all (λi=>(bs[i]?).getD true)=bs.all id:=by
    have AN:its.toArray.size=bs.length:=by rw[Fv];simp
    rw[AN,JI,PJ,PJ];constructor
    .intro B4 x AG;obtain⟨i,AC,rfl⟩:=List.mem_iff_getElem.mp AG;have:=B4 i (List.mem_range.mpr AC);rw[Dt AC]at this;exact this
    .intro B4 i AC;have AC:=List.mem_range.mp AC;rw[Dt AC];exact B4 _ (MC AC)
  rw[TP];exact⟨.AR _,H,I.kept (t':=C8) λb o AH=>BY b o (by
   intro z;have z:b=s.heap.objs.size:=(z:)
   exact absurd (De AH) (by rw[z];exact K3 _)) (DM _ AH),rfl,q⟩
noncomputable def C6:μ->R D
 |[.lst ds]=>match S4 ds with|some bs=>.ok (.AR (bs.all id))|none=>.bad
 |_=>.bad
def aa6:Q6 F (λxs H Q=>∃(p:A8)(bs:List Bool),xs=[.ref p]/\CA X.K H p (bs.map V.AR)/\Q (.AR (bs.all id)) H) C6:=by
 intro σ ρ G H xs ds Q r al k;unfold C6 at k
 split at k
 .rename_i ds
  split at k
  .rename_i bs BS;obtain⟨v,rfl,BD⟩:=al.one;erw[At]at BD;obtain⟨q,xs,rfl,AV,F7⟩:=BD;have:=hX F7 BS;subst this;exact⟨q,bs,rfl,CA.of (r.kp.sub _ _ AV),k _ H G r (C3.refl _ _) (by erw[At])⟩
  .exact k.elim
 .exact k.elim
end
section
variable{X:Ac}{F:BA}{e a b c:AU}{A4:List AU}{pos p:Pos}{m n:Ae}{ma:B1}
def ownAt(i:Nat)(ρ:AI):R μ:=match ρ[i]? with
 |some (.ob (.lst ds))=>.ok ds
 |_=>.bad
noncomputable def Gz(i:Nat)(m:Ae):B0:=λρ=>(ownAt i ρ).bind λds=>(m ρ).bind λd=>if ds.length<1000000 then .ok (.B6 (ρ.set i (.Bm (ds++[d]))))else .bad
end
abbrev P9(K:Aa)(n:Nat)(BQ:μ->R C5):AX:=QP K n (λ_ _ _=>False) BQ
structure E0(P:Bx)(w:Bj)(K:Aa)(mg:Str->Option A7)(base:BI)(x:Str)(n k:Nat)(BQ:μ->R C5):Prop where
 ex:∃(f:A8)(fd:GF)(Ai:List Str),Ai.length=n/\Gl P w K mg base H6 k f fd Ai (P9 K n BQ)/\mg x=some (.ref f)/\LQ K (.ref f)=true/\Binds K fd Ai []
section
variable{X:Ac}{F:BA}{e:AU}{A4:List AU}{pos p:Pos}{ma:B1}{x:Str}{n k:Nat}{BQ:μ->R C5}
end
structure Dz(K:Aa)(mg:Str->Option A7)(x:Str)(st:Be)(Ai:List Str):Prop where
 ex:∃(f:A8)(fd:GF),Nh K x x st f fd/\mg x=some (.ref f)/\Binds K fd Ai []
def tf{P:Bx}{w:Bj}{K:Aa}{mg:Str->Option A7}{base:BI}{x:Str}{st:Be}{N Ai:List Str}{k:Nat}{m:B0}(d:Dz K mg x st Ai)(S:Cj N Ai (C0 st))(h:∀(f:A8)(CG:A7)(A:CK)(outer:List Env)(s:AP)(H:AB)(E:DT),Cm k (A.deeper (Nw x (C0 st) s.heap.objs.size f CG))->∀G0 H0,rf (Jt H6 P w K mg base N x (C0 st) f CG A outer s H E).Kw (Gv K G0 H0) (GS st) m) :
  E0 P w K mg base x Ai.length (k+1) (DZ N.length m):=by
 obtain⟨f,fd,fn,hm,A0⟩:=d.ex;refine⟨f,fd,Ai,rfl,fn.ok S ee λCG A outer s H vs Q E B5 AJ=>?_,hm,fn.kp,A0⟩;obtain⟨G,Aj⟩:=bW AJ;exact⟨_,h f CG A outer s H E B5 G H,Aj⟩
def tx{K:Aa}{h:BI}{mg:Str->Option A7}{x:Str}{st:Be}{Ai:List Str}{f:A8}{IL:A7}{EL an:Option A8}{N4:Array (Option A7)}{Dm doc pm CG Dn:A7}(X:K.In h)(G:h.Ns FG mg)(a:MF K FG x=some (some (.ref f)))(l:K.lookup f=some ⟨IL,EL,.func (JH x x (LD st) (GS st) (C0 st) .none Dm doc pm an CG Dn),N4⟩)(c:PI K CG x=true)(k:LQ K (.ref f)=true)(b:∀(Dm doc pm:A7)(an:Option A8)(CG Dn:A7)(us:List A7),us.length=Ai.length->Sr (JH x x (LD st) (GS st) (C0 st) .none Dm doc pm an CG Dn) ⟨us,[]⟩=pure (Ai.zip us)):Dz K mg x st Ai:=
 ⟨f,_,RV (st:=st) l c k,Qx X G a,(RV (st:=st) l c k).binds b⟩
def zd{K:Aa}{BQ:μ->R C5}{H:AB}{a:A8}{ns:List Int}(KC:CA K H a (ns.map V.int))(h:BQ [.D1 (ns.map .int)]=.ok (.v (.AR true)))(E:DT):P9 K 1 BQ [.ref a] H (λv _=>v=.AR true) E:=by
 refine⟨H,[.D1 (ns.map .int)],Sub.refl _,.cons ?_ .nil,rfl,?_⟩
 .erw[At];refine⟨a,_,rfl,KC,?_⟩;induction ns with
  |nil=>exact .nil
  |cons n r Bh=>exact .cons (by erw[At]) (Yq r)
 .rw[h];intro v G' H' _ BD;erw[At]at BD;exact BD
where
 Yq {K:Aa} {H:AB}:∀r:List Int,AW K H (r.map .int) (r.map V.int)
  |[]=>.nil
  |n::r=>.cons (by erw[At]) (Yq r)
section
variable{X:Ac}{F:BA}{e a b c Bw iter elt:AU}{A4:List AU}{pos p:Pos}{m n:Ae}{ma:B1}{scope:E8}{N:List Str}
structure Ud(X:Ac)(scope:E8)(N:List Str)(Bw:AU)(set:D->AI->R AI):Prop where
 g:Y5 X scope N Bw set
 B6:∀d ρ c,set d ρ≠.exc c
 kp:Keeps set
def sh(i:Nat){x:Str}(hN:N.Nodup:=by decide+kernel)(AC:N[i]?=some x:=by rfl)(AN:(MI scope X.env).names.lookup x=some .local:=by rfl):Ud X scope N (.Name x pos) (BK i):=
 ⟨i7 (g:=Jx i) (λcl C s H Al=>ZE (X:=Fa X scope N cl C s H Al) hN AC (.inl AN) (.inr AN)) λF _=>YZ i,aq i,ao i⟩
def si(i j:Nat){x y:Str}{Cn py:Pos}{k:Nat}(AO:X.calm=true:=by rfl)(hN:N.Nodup:=by decide+kernel)(AC:N[i]?=some x:=by rfl)(Bi:N[j]?=some y:=by rfl)(AN:(MI scope X.env).names.lookup x=some .local:=by rfl)(hm:(MI scope X.env).names.lookup y=some .local:=by rfl) :
  Ud X scope N (.Tuple [.Name x Cn,.Name y py] k pos) (FO [BK i,BK j]):=by
 refine⟨i7 (g:=YY X.K 2 (V0 (Jx i) (V0 (Jx j) YX))) (λcl C s H Al=>?_) (λF Lz=>?_),nu ?_,nt ?_⟩
 .exact m1 (X:=Fa X scope N cl C s H Al) AO (dO (ZE (X:=Fa X scope N cl C s H Al) hN AC (.inl AN) (.inr AN)) (dO (ZE (X:=Fa X scope N cl C s H Al) hN Bi (.inl hm) (.inr hm)) m2 rfl) rfl) rfl rfl
 .rw[<-Lz];exact k9 rfl (bQ (YZ i) (bQ (YZ j) k8))
 .intro f hf;rcases List.mem_cons.mp hf with rfl|hf
  .exact aq i
  .rw[List.mem_singleton.mp hf];exact aq j
 .intro f hf;rcases List.mem_cons.mp hf with rfl|hf
  .exact ao i
  .rw[List.mem_singleton.mp hf];exact ao j
def aa2(nl:Nat)(caps:ι){ifs:List AU}{mi:B1}{set:D->AI->R AI}{mt:Ck}{Ge:Ae}(S:VX X.env.scope X.N scope N nl caps=true)(AC:gH X F Bw iter mi)(A_:Ud X scope N Bw set)(Aj:Q5 X scope N ifs mt)(he:gK X scope N elt Ge)(AO:X.calm=true:=by rfl)(Ap:F.K=X.K:=by rfl)(AJ:∀x,PM iter X.env x=pure x:=by intro _;rfl):iA X F (.ListComp elt [⟨Bw,iter,ifs,0⟩] scope pos) (E3 nl caps mi set mt Ge):=
 aa1 (.of S) AC A_.g A_.B6 A_.kp Aj he AO Ap AJ
noncomputable def Qe(i:Nat)(a:B1):B0:=λρ=>((EK i a) ρ).bind λf=>match f with
 |.B6 BL=>.ok (.B6 (Jw i BL))
 |f=>.ok f
end
def eA{K:Aa}{c:A8}{D7:Option A8}{its:Array A7}{n:Nat}{C2:Array (Option A7)}{xs:List V}{ds:μ}(l:K.lookup c=some ⟨.type "tuple",D7,.seq its n,C2⟩)(Aq:its.size<=CD)(v:Vals xs its.toList)(a:∀G,AW K G ds xs) :
  ∀G,At K G (.Do ds) (.ref c):=λG=>by
 erw[At];exact⟨c,xs,rfl,.inr ⟨_,its,n,l,rfl,rfl,Aq,v⟩,a G⟩
def W6(i:Int)(t:Tok):RelV (.int i) (.int i t):=⟨t,rfl⟩
def ag(x:Str)(t:Tok):RelV (.str x) (.str x t):=⟨t,rfl⟩
def Up{K:Aa}{G:AB}(i:Int):At K G (.int i) (.int i):=by erw[At]
def Xe{K:Aa}{G:AB}(i:Str):At K G (.str i) (.str i):=by erw[At]
structure B8(X:Ac)(F:BA)(e:AU)(m:Ae):Prop where
 o:Av X e (Cx F m)
structure KR(X:Ac)(F:BA)(e:AU)(m:B1):Prop where
 o:Av X e (I8 F m)
structure Ft(X:Ac)(F:BA)(e:AU)(m:Ck):Prop where
 o:F_ X e (HO F m)
structure S1(X:Ac)(F:BA)(e:AU)(m:Ck):Prop where
 o:Jk X e (HO F m)
structure GJ(X:Ac)(F:BA)(A4:List AU)(m:B1):Prop where
 o:GH X A4 (Es F m)
structure Ep(X:Ac)(F:BA)(st:Be)(m:B0):Prop where
 o:DO X st (Fq F m)
structure KQ(X:Ac)(F:BA)(st:List Be)(m:B0):Prop where
 o:GP X st (Fq F m)
structure M_(X:Ac)(F:BA)(Bw e:AU)(m:B1):Prop where
 o:GI X Bw e (L3 F m)
structure Po(X:Ac)(F:BA)(e:Option AU)(m:MW):Prop where
 o:Un X e (Vl F m)
section
variable{X:Ac}{F:BA}{e a b c Bw iter elt:AU}{A4:List AU}{pos p:Pos}{m n:Ae}{ma:B1}{st:Be}{SQ:List Be}
def agT(i:Nat){x:Str}(hN:X.N[i]?=some x:=by rfl)(BN:Gp X.env.scope x:=by rw?)(hd:ζ:=by decide)(DV:(x==("__classdict__" :Str))=false:=by decide):B8 X F (.Name x pos) (J i):=⟨Av.imp (IM hN BN hd DV) (xo i)⟩
def afD{i:Int}{j}:B8 X F (.Constant (.int i) j pos) (A5 (.int i)):=⟨Av.imp abf (VL λ_=>by erw[At])⟩
def aey{i:Bool}{j}:B8 X F (.Constant (.bool i) j pos) (A5 (.AR i)):=⟨Av.imp abT (VL λ_=>by erw[At])⟩
def agN{i:Str}{j}:B8 X F (.Constant (.str i) j pos) (A5 (.str i)):=⟨Av.imp aaz (VL λ_=>by erw[At])⟩
def aeo{j}:B8 X F (.Constant .none j pos) (A5 .non):=⟨Av.imp aaw (VL λ_=>by erw[At])⟩
def afi:GJ X F [] AF:=⟨GH.imp RS w7⟩
def afh{m:Ae}{r:B1}(h:B8 X F e m)(t:GJ X F A4 r)(AJ:notStar e=true:=by rfl):GJ X F (e::A4) (A1 m r):=⟨have h:=h.1;have t:=t.1;GH.imp (QC h t (acr e A4 X.env AJ)) wM⟩
def agR{k}{m:B1}(h:GJ X F A4 m):B8 X F (.Tuple A4 k pos) (C_ m):=⟨have h:=h.1;Av.imp (ab0 h) xl⟩
def afx{m:B1}(h:GJ X F A4 m):KR X F (.List A4 pos) (CZ m):=⟨have h:=h.1;Av.imp (aau h) w1⟩
def afA{m:B1}(h:KR X F e m):B8 X F e (Bo m):=⟨have h:=h.1;Av.imp h wU⟩
def aez{m:Ae}(h:B8 X F e m):B8 X F e (Ko m):=⟨have h:=h.1;Av.imp h wC⟩
def ah2{m:Ck}(h:Ft X F e m):Ft X F e (EH m):=⟨have h:=h.1;F_.imp h wH⟩
def ahF{m:Ae}(h:B8 X F e m)(he:∀whole,isTrue e X.env whole=(do let v <-whole;N2 e.pos;K6 [v] (truthy v)):=by intro _;rfl):Ft X F e (Ax m):=⟨have h:=h.1;F_.imp (acO h he) YT⟩
def ahI{m:Ck}(h:Ft X F a m):S1 X F (.BoolOp .And [a] pos) m:=⟨have h:=h.1;acW h⟩
def agk{m:Ck}(h:Ft X F a m):S1 X F (.BoolOp .Or [a] pos) m:=⟨have h:=h.1;acY h⟩
def ahH{m n:Ck}(h:Ft X F a m)(k:S1 X F (.BoolOp .And (b::A4) pos) n):S1 X F (.BoolOp .And (a::b::A4) pos) (IH m n):=⟨have h:=h.1;have k:=k.1;Jk.imp (acV h k) wA⟩
def agj{m n:Ck}(h:Ft X F a m)(k:S1 X F (.BoolOp .Or (b::A4) pos) n):S1 X F (.BoolOp .Or (a::b::A4) pos) (II m n):=⟨have h:=h.1;have k:=k.1;Jk.imp (acX h k) xX⟩
def ahG{m:Ck}(h:S1 X F e m):Ft X F e m:=⟨have h:=h.1;Jk.pt h⟩
def ahC{m:Ck}(h:Ft X F a m):Ft X F (.UnaryOp .Not a pos) (Ec m):=⟨have h:=h.1;F_.imp (acN h) wY⟩
def aeq{op}{m:Ae}(h:B8 X F a m):B8 X F (.BoolOp op [a] pos) m:=⟨have h:=h.1;aay h⟩
def aex{m n:Ae}(h:B8 X F a m)(k:B8 X F (.BoolOp .And (b::A4) pos) n):B8 X F (.BoolOp .And (a::b::A4) pos) (OD m n):=⟨have h:=h.1;have k:=k.1;Av.imp (abS h k) wB⟩
def aep{m:Ae}(h:B8 X F a m):B8 X F (.UnaryOp .Not a pos) (a3 m):=⟨have h:=h.1;Av.imp (aax h) xV⟩
def afB{k:Ck}{m n:Ae}(h:Ft X F c k)(AD:B8 X F a m)(A0:B8 X F b n):B8 X F (.IfExp c a b pos) (MO k m n):=⟨have h:=h.1;have AD:=AD.1;have A0:=A0.1;Av.imp (abe h AD A0) wW⟩
def agG:KQ X F [] CU:=⟨GP.imp lX w6⟩
def ag8{m n:B0}(h:Ep X F st m)(k:KQ X F SQ n):KQ X F (st::SQ) (AS m n):=⟨have h:=h.1;have k:=k.1;GP.imp (lW h k) xc⟩
def agH{m:B0}(h:Ep X F st m):KQ X F [st] m:=⟨have h:=h.1;dS h⟩
def agJ{m:Ae}(h:B8 X F e m):Ep X F (.Return (some e) pos) (CV m):=⟨have h:=h.1;DO.imp (W3 h) x_⟩
def agK{m:B1}(h:KR X F e m):Ep X F (.Return (some e) pos) (Fn m):=⟨have h:=h.1;DO.imp (W3 h) xa⟩
def afm(i:Nat){x:Str}{p:Pos}(hN:X.N[i]?=some x:=by rfl)(BN:Gp X.env.scope x:=by rw?)(hd:ζ:=by decide)(DV:(x==("__classdict__" :Str))=false:=by decide):Ep X F (.Return (some (.Name x p)) pos) (Fn (J5 i)):=⟨DO.imp (W3 (IM hN BN hd DV)) (xb i)⟩
def agF{k:Ck}{m n:B0}{xs ys:List Be}(h:Ft X F c k)(AD:KQ X F xs m)(A0:KQ X F ys n):Ep X F (.If c xs ys pos) (C9 k m n):=⟨have h:=h.1;have AD:=AD.1;have A0:=A0.1;DO.imp (lU h AD A0) wX⟩
def agE{m:B0}(i:Nat)(h:Ep X F st m):Ep X F st (OF i m):=⟨have h:=h.1;DO.imp h wT⟩
def afp(i:Nat){x:Str}{p:Pos}{m:Ae}(hN:X.N.Nodup)(he:B8 X F e m)(AC:X.N[i]?=some x:=by rfl)(AG:Loc X.env.scope x:=by first|exact Dh rfl|exact Cp rfl)(AJ:Oz e=true:=by rfl)(hf:X.fn x=true\/X.env.scope.names.lookup x=some .local:=by first|exact .inl rfl|exact .inr rfl):Ep X F (.Assign [.Name x p] e pos) (BU i m):=⟨have he:=he.1;DO.imp (RT hN AC AG he (Lv _ _ _ _ AJ) hf) xd⟩
def agz(i:Nat){x:Str}{p:Pos}{m:B1}(hN:X.N.Nodup)(he:KR X F e m)(AC:X.N[i]?=some x:=by rfl)(AG:Loc X.env.scope x:=by first|exact Dh rfl|exact Cp rfl)(AJ:Oz e=true:=by rfl)(hf:X.fn x=true\/X.env.scope.names.lookup x=some .local:=by first|exact .inl rfl|exact .inr rfl):Ep X F (.Assign [.Name x p] e pos) (EK i m):=⟨have he:=he.1;DO.imp (RT hN AC AG he (Lv _ _ _ _ AJ) hf) cz⟩
def agP(AD:B8 X F a m)(A0:B8 X F b n):B8 X F (.BinOp a .Sub b pos) (A3 SR m n):=⟨have AD:=AD.1;have A0:=A0.1;Pz abJ (Ze λ_ _ _=>by erw[At]) AD A0⟩
def ael(AD:B8 X F a m)(A0:B8 X F b n):B8 X F (.BinOp a .Mult b pos) (A3 Ks m n):=⟨have AD:=AD.1;have A0:=A0.1;Pz zr (U3 λ_ _ _=>by erw[At]) AD A0⟩
def af9(AD:B8 X F a m)(A0:B8 X F b n):B8 X F (.BinOp a .FloorDiv b pos) (A3 Eb m n):=⟨have AD:=AD.1;have A0:=A0.1;Pz zm (U3 λ_ _ _=>by erw[At]) AD A0⟩
def afK(AD:B8 X F a m)(A0:B8 X F b n):B8 X F (.BinOp a .Mod b pos) (A3 D5 m n):=⟨have AD:=AD.1;have A0:=A0.1;Pz zq (U3 λ_ _ _=>by erw[At]) AD A0⟩
def aes(AD:B8 X F a m)(A0:B8 X F b n):B8 X F (.BinOp a .Pow b pos) (A3 P2 m n):=⟨have AD:=AD.1;have A0:=A0.1;Pz zv (U3 λ_ _ _=>by erw[At]) AD A0⟩
def ahA(AD:B8 X F a m)(A0:B8 X F b n):Ft X F (.Compare a [.Lt] [b] pos) (Ax (A3 Rj m n)):=⟨have AD:=AD.1;have A0:=A0.1;QR zp (Ze λ_ _ _=>by erw[At]) AD A0 (Q8 _)⟩
def ah7(AD:B8 X F a m)(A0:B8 X F b n):Ft X F (.Compare a [.Gt] [b] pos) (Ax (A3 Yb m n)):=⟨have AD:=AD.1;have A0:=A0.1;QR zn (Ze λ_ _ _=>by erw[At]) AD A0 (Q8 _)⟩
def aen(AD:B8 X F a m):B8 X F (.UnaryOp .USub a pos) (C4 EW m):=⟨have AD:=AD.1;tM aeF (λσ ρ G H x Ag Q r Bn k=>by
 unfold EW at k
 split at k
 .rename_i i;erw[At]at Bn;exact⟨i,Bn,k _ H G r (C3.refl _ _) (by erw[At])⟩
 .exact k.elim) AD⟩
def aev(AD:B8 X F a m)(A0:B8 X F b n):B8 X F (.BinOp a .Add b pos) (A3 DP m n):=⟨have AD:=AD.1;have A0:=A0.1;Pz (aaI.or (aaJ.or e3)) aa5 AD A0⟩
def ah6(BM:X.A.units+64<DS)(AD:B8 X F a m)(A0:B8 X F b n)(Ap:F.K=X.K:=by rfl):Ft X F (.Compare a [.Eq] [b] pos) (Ax (A3 (BP true) m n)):=⟨have AD:=AD.1;have A0:=A0.1;QR (lg Ap BM) (Zd true) AD A0 (Q8 _)⟩
def ahB(BM:X.A.units+64<DS)(AD:B8 X F a m)(A0:B8 X F b n)(Ap:F.K=X.K:=by rfl):Ft X F (.Compare a [.NotEq] [b] pos) (Ax (A3 (BP false) m n)):=⟨have AD:=AD.1;have A0:=A0.1;QR (lj Ap BM) (Zd false) AD A0 (Q8 _)⟩
def af8(BM:X.A.units+64<DS)(AD:B8 X F a m)(A0:B8 X F b n)(Ap:F.K=X.K:=by rfl):B8 X F (.Compare a [.Eq] [b] pos) (A3 (BP true) m n):=⟨have AD:=AD.1;have A0:=A0.1;br (lg Ap BM) (Zd true) AD A0 (Q8 _)⟩
def aem(BM:X.A.units+64<DS)(AD:B8 X F a m)(A0:B8 X F b n)(Ap:F.K=X.K:=by rfl):B8 X F (.Compare a [.NotEq] [b] pos) (A3 (BP false) m n):=⟨have AD:=AD.1;have A0:=A0.1;br (lj Ap BM) (Zd false) AD A0 (Q8 _)⟩
def ah8(BM:X.A.units+64<DS)(AD:B8 X F a m)(A0:B8 X F b n)(Ap:F.K=X.K:=by rfl)(hm:Ir .In b=false:=by with_unfolding_all rfl):Ft X F (.Compare a [.In] [b] pos) (Ax (A3 (inD true) m n)):=⟨have AD:=AD.1;have A0:=A0.1;QR (lh Ap BM) (dx true) AD A0 hm⟩
def ahD(BM:X.A.units+64<DS)(AD:B8 X F a m)(A0:B8 X F b n)(Ap:F.K=X.K:=by rfl)(hm:Ir .NotIn b=false:=by with_unfolding_all rfl):Ft X F (.Compare a [.NotIn] [b] pos) (Ax (A3 (inD false) m n)):=⟨have AD:=AD.1;have A0:=A0.1;QR (zt Ap BM) (dx false) AD A0 hm⟩
def afC(BM:X.A.units+64<DS)(AD:B8 X F a m)(A0:B8 X F b n)(Ap:F.K=X.K:=by rfl)(hm:Ir .In b=false:=by with_unfolding_all rfl):B8 X F (.Compare a [.In] [b] pos) (A3 (inD true) m n):=⟨have AD:=AD.1;have A0:=A0.1;br (lh Ap BM) (dx true) AD A0 hm⟩
def ah9(AD:B8 X F a m)(A0:B8 X F b n):Ft X F (.Compare a [.Is] [b] pos) (Ax (A3 (GW true) m n)):=⟨have AD:=AD.1;have A0:=A0.1;QR zo (λσ ρ G H x y Ag Gs Q r Bn Cq k=>by
 unfold GW at k
 split at k
 .erw[At]at Cq;rw[l4 Bn]at k;exact⟨Cq,k _ H G r (C3.refl _ _) (by erw[At];rfl)⟩
 .exact k.elim) AD A0 (Q8 _)⟩
def ahE(AD:B8 X F a m)(A0:B8 X F b n):Ft X F (.Compare a [.IsNot] [b] pos) (Ax (A3 (GW false) m n)):=⟨have AD:=AD.1;have A0:=A0.1;QR zu (λσ ρ G H x y Ag Gs Q r Bn Cq k=>by
 unfold GW at k
 split at k
 .erw[At]at Cq;rw[l4 Bn]at k;exact⟨Cq,k _ H G r (C3.refl _ _) (by erw[At];rfl)⟩
 .exact k.elim) AD A0 (Q8 _)⟩
def af4{op JZ:Ki}{r BO:Ek}{f g:D->D->R D}{l:Ae}(ho:E5 X (GE op) r)(EF:E5 X (GE JZ) BO)(hf:Hl F r f)(A_:Hl F BO g)(AD:B8 X F a m)(A0:B8 X F b n)(AO:B8 X F c l)(hm:lastMarks [op,JZ] [b,c]=false:=by with_unfolding_all rfl):B8 X F (.Compare a [op,JZ] [b,c] pos) (OE f g m n l):=⟨have AD:=AD.1;have A0:=A0.1;have AO:=AO.1;Av.imp (abV ho EF AD A0 AO hm) (ja hf A_)⟩
def ah3{op JZ:Ki}{r BO:Ek}{f g:D->D->R D}{l:Ae}(ho:E5 X (GE op) r)(EF:E5 X (GE JZ) BO)(hf:Hl F r f)(A_:Hl F BO g)(AD:B8 X F a m)(A0:B8 X F b n)(AO:B8 X F c l)(hm:lastMarks [op,JZ] [b,c]=false:=by with_unfolding_all rfl):Ft X F (.Compare a [op,JZ] [b,c] pos) (Ax (OE f g m n l)):=⟨have AD:=AD.1;have A0:=A0.1;have AO:=AO.1;F_.imp (acL ho EF AD A0 AO hm) λσ H Q h=>by obtain⟨G,ρ,r,k⟩:=jZ (F:=F) (m:=OE f g m n l) σ H Q h;exact ja hf A_ σ H _ ⟨G,ρ,r,k⟩⟩
def afF(hm:X.mg "len"=none)(AD:GJ X F [e] ma)(Ap:F.K=X.K:=by rfl)(A_:EE X "len":=by rfl)(he:BF [e] X.env=(false,BJ e X.env)::BF [] X.env:=by rfl)(Dx:(D4 pos (BF [] X.env)).any (·.1)=false:=by rfl):B8 X F (.Call (.Name "len" p) [e] [] pos) (Bz CE ma):=⟨have AD:=AD.1;jW sI (aa9 Ap) hm PySem.boot_len AD A_ ε ε he Dx⟩
def Wk{U:Str}{T:String}{Cw:Pos}(tt:S0 X.K T)(hm:X.mg "isinstance"=none)(v6:X.mg U=none)(vB:LY U=some (.type T))(AD:B8 X F a m)(Ap:F.K=X.K:=by rfl)(A_:EE X "isinstance":=by rfl)(vV:EE X U:=by rfl)(wa:U≠"__name__":=by decide)(vM:(U==("__debug__" :Str))=false:=by decide)(Fd:BF [.Name U Cw] X.env=(false,BJ (.Name U Cw) X.env)::BF [] X.env:=by rfl)(he:BF [a,.Name U Cw] X.env=(false,BJ a X.env)::BF [.Name U Cw] X.env:=by rfl)(Dx:(D4 pos (BF [.Name U Cw] X.env)).any (·.1)=false:=by rfl):B8 X F (.Call (.Name "isinstance" p) [a,.Name U Cw] [] pos) (C4 (Ih T) m):=⟨by
 have AD:=AD.1;have A0:LY "isinstance"=some (.builtin "isinstance"):=by kernel_rfl
 refine Av.imp (dJ (sH Ap tt) A_ hm A0 (QC AD (QC (abU vV v6 vB (v:=.ty T) rfl wa vM) RS Fd) he) ε ε he Dx) ?_;delta C4 r;refine rb h λd As h x H1 Ah AK s1 Bn=>?_;unfold Ih at h;cases e:WI d with
 |none=>rw[e]at h;cases h
 |some rQ=>rw[e]at h;exact⟨Ah,d,x,rQ,AK.kp.sub,rfl,Bn,e,h _ H1 Ah AK s1 (by erw[At])⟩⟩
def afE(AD:B8 X F a m)(A0:B8 X F b n)(AJ:hE b)(Ap:F.K=X.K:=by rfl):B8 X F (.Subscript a b pos) (A3 AM m n):=⟨have AD:=AD.1;have A0:=A0.1;Av.imp (abg x7 AD A0 AJ) (YU (aa8 Ap))⟩
def afz:Po X F none G9:=⟨λpins s σ H Q I h=>by obtain⟨G,ρ,r,k⟩:=h;exact aap pins s σ H Q I (k H G r (C3.refl _ _))⟩
def ag0(h:B8 X F e m):Po X F (some e) (Ef m):=⟨have h:=h.1;λpins s σ H Q I hw=>by
 obtain⟨G,ρ,r,k⟩:=hw;refine aaq h pins s σ H Q I ⟨G,ρ,r,?_⟩;unfold Ef at k;refine rb k λd As k x H1 Ah AK s1 Bn=>?_;cases d with
 |int i=>erw[At]at Bn;exact⟨i,Bn,k H1 Ah AK s1⟩
 |_=>exact k.elim⟩
def aeu{lo AC:Option AU}{Cw:Pos}{MQ Qj:MW}(AD:B8 X F a m)(AN:Po X F lo MQ)(B4:Po X F AC Qj)(Ap:F.K=X.K:=by rfl):B8 X F (.Subscript a (.Slice lo AC none Cw) pos) (EV IR m MQ Qj):=⟨have AD:=AD.1;have AN:=AN.1;have B4:=B4.1;Av.imp (dM (ad5.or ad7) AD AN B4) (xh Ap)⟩
def agO(hm:X.mg "str"=none)(AD:GJ X F [e] ma)(A_:EE X "str":=by rfl)(he:BF [e] X.env=(false,BJ e X.env)::BF [] X.env:=by rfl)(Dx:(D4 pos (BF [] X.env)).any (·.1)=false:=by rfl):B8 X F (.Call (.Name "str" p) [e] [] pos) (Bz Te ma):=⟨have AD:=AD.1;bq sL aaD hm (by kernel_rfl) AD A_ ε ε he Dx⟩
def ahL(h:B8 X F e m)(Ap:F.K=X.K:=by rfl):M_ X F Bw e (H2 m):=⟨have h:=h.1;GI.imp (ab6 h) (by rw[<-Ap];exact vz)⟩
def ago(h:B8 X F e m)(Ap:F.K=X.K:=by rfl):M_ X F Bw e (Qc m):=⟨have h:=h.1;GI.imp (abA h) (by rw[<-Ap];exact xm)⟩
def agn(h:B8 X F e m):M_ X F Bw e (WS m):=⟨have h:=h.1;GI.imp (ab9 h) xj⟩
def agl(hm:X.mg "range"=none)(AD:GJ X F [a] ma)(A_:EE X "range":=by rfl)(AJ:BF [a] X.env=[(false,BJ a X.env)]:=by rfl):M_ X F Bw (.Call (.Name "range" p) [a] [] pos) (FL ma):=⟨have AD:=AD.1;GI.imp (ab7 A_ hm AD AJ) xY⟩
def agm(hm:X.mg "range"=none)(AD:GJ X F [a,b] ma)(A_:EE X "range":=by rfl)(AJ:BF [a,b] X.env=[(false,BJ a X.env),(false,BJ b X.env)]:=by rfl)(Fd:BF [b] X.env=[(false,BJ b X.env)]:=by rfl):M_ X F Bw (.Call (.Name "range" p) [a,b] [] pos) (OI ma):=⟨have AD:=AD.1;GI.imp (ab8 A_ hm AD AJ Fd) xZ⟩
def ahJ{elts:List AU}{k:Nat}{Vp:Pos}(hm:X.mg "enumerate"=none)(AD:GJ X F [a] ma)(Ap:F.K=X.K:=by rfl)(A_:EE X "enumerate":=by rfl)(AJ:BF [a] X.env=[(false,BJ a X.env)]:=by rfl):M_ X F (.Tuple elts k Vp) (.Call (.Name "enumerate" p) [a] [] pos) (WR ma):=⟨have AD:=AD.1;GI.imp (ab4 A_ hm AD AJ) (wR Ap)⟩
def agp{elts:List AU}{k:Nat}{Vp:Pos}(hm:X.mg "zip"=none)(AD:GJ X F [a,b] ma)(Ap:F.K=X.K:=by rfl)(A_:EE X "zip":=by rfl)(AJ:BF [a,b] X.env=[(false,BJ a X.env),(false,BJ b X.env)]:=by rfl)(Fd:BF [b] X.env=[(false,BJ b X.env)]:=by rfl):M_ X F (.Tuple elts k Vp) (.Call (.Name "zip" p) [a,b] [] pos) (Zz ma):=⟨have AD:=AD.1;GI.imp (abB A_ hm AD AJ Fd) (xq Ap)⟩
def agD{body:List Be}{mi:B1}{set:D->AI->R AI}{HK:B0}(AZ:PassesOwn (B2 X.prog X.w) X.A X.env X.xe)(AC:M_ X F Bw iter mi)(A_:GM X Bw set)(A0:KQ X F body HK)(AO:X.calm=true:=by rfl)(Ap:F.K=X.K:=by rfl)(AJ:∀x,PM iter X.env x=pure x:=by intro _;rfl):Ep X F (.For Bw iter body [] pos) (Dq mi set HK):=⟨by
 have AC:=AC.1;have A0:=A0.1;obtain⟨⟨g,A6,AA⟩,Ao,_⟩:=A_;exact DO.imp (acI AZ AO AC A6 A0 AJ) (wS (AA F Ap) Ao)⟩
def afu{st:Be}{i:Nat}{a:B1}(h:Ep X F st (EK i a)):Ep X F st (Qe i a):=⟨have h:=h.1;DO.imp h λCC σ H⟨G,ρ,r,k⟩=>by
 refine⟨G,ρ,r,?_⟩;unfold Qe at k;refine rb k λf e k=>?_;cases f with
 |B6 BL=>intro σ' G' H' BO s';obtain⟨CL,B7,s2⟩:=BO.Jw i;exact k σ' CL H' B7 (s'.trans s2)
 |EP d=>exact k
 |Ja d=>exact k
 |Lq d=>exact k
 |rs d _=>exact k
 |Fu d=>exact k
 |Dn d=>exact k⟩
def aew{k:Nat}(B5:Cm k X.A)(hm:X.mg "all"=none)(AD:GJ X F [e] ma)(AO:X.calm=true:=by rfl)(A_:EE X "all":=by rfl)(he:BF [e] X.env=(false,BJ e X.env)::BF [] X.env:=by rfl)(Dx:(D4 pos (BF [] X.env)).any (·.1)=false:=by rfl):B8 X F (.Call (.Name "all" p) [e] [] pos) (Bz C6 ma):=⟨have AD:=AD.1;jW (sE AO B5.hd) aa6 hm (by kernel_rfl) AD A_ ε ε he Dx⟩
def ag4 (i:Nat) {x:Str} {Cn:Pos} {apos:Pos} {Bv:Pos} (he:B8 X F e m) (hN:X.N[i]?=some x:=by rfl) (BN:Gp X.env.scope x:=by rw?) (hd:ζ:=by decide) (DV:(x==("__classdict__" :Str))=false:=by decide) (Mf:Hw (.Name x Cn) "append" X.env (BJ (.Name x Cn) X.env)=BJ (.Name x Cn) X.env:=by rfl) (Mi:(apos.endLine==Bv.line)=true:=by rfl) (Mh:((D4 Bv (BF [e] X.env)).all (λx=>!x.1)&&(H5 Bv (H3 [] X.env)).all (λx=>x.1.isSome)
   &&decide (([e]:List AU).length+([]:List FP).length+(if([]:List FP).isEmpty then 0 else 1)<30))=true:=by rfl) (AJ:BF [e] X.env=(false,BJ e X.env)::BF [] X.env:=by rfl) (MJ:(D4 Bv (BF [] X.env)).any (·.1)=false:=by rfl) (Ap:F.K=X.K:=by rfl):Ep X F (.Expr (.Call (.Attribute (.Name x Cn) "append" apos) [e] [] Bv) pos) (Gz i m):=⟨by
 have he:=he.1;refine DO.imp (aV (W1 U9 ql qm dh (IM hN BN hd DV) (QC he RS AJ) Mf Mh Mi AJ MJ) (Lv _ _ _ _ rfl)) ?_;rintro CC σ H ⟨G,ρ,r,h⟩;unfold Gz ownAt at h;cases CR:ρ[i]? with
 |none=>rw[CR]at h;cases h
 |some s=>
  rw[CR]at h;cases s with
  |un=>cases h
  |A2 _=>cases h
  |Eg _=>cases h
  |Bg _ _=>cases h
  |ob ob=>
   cases ob with
   |An _ _=>cases h
   |ins _ _ _=>cases h
   |lst ds=>
    obtain⟨q,xs,A9,A6,AA,Ao,BG⟩:=r.own CR;have h:Fe F G CC ((m ρ).bind λd=>if ds.length<1000000 then .ok (.B6 (ρ.set i (.Bm (ds++[d]))))else .bad):=h;refine⟨.ref q,A9,.inl ⟨rfl,xs,CA.of A6⟩,G,ρ,r,?_⟩;refine rb h λd As h v H1 Ah AK s1 BD=>?_;obtain⟨Gf,Gj,Ee,J0,OX,Q2,HI⟩:=AK.own CR;rw[A9]at Ee;cases Ee;by_cases AN:ds.length<1000000
    .rw[if_pos AN]at h;refine⟨q,Gj,v,rfl,rfl,J0,by rw[<-HI.length];exact LZ AN ε,?_⟩;exact h σ Ah _ (AK.mut CR A9 (HI.snoc BD)) s1.g
    .rw[if_neg AN]at h;exact h.elim⟩
def af2{x:Str}{n k:Nat}{BQ:μ->R C5}(c:E0 X.prog X.w X.K X.mg X.base x n k BQ)(B5:Cm k X.A)(AD:GJ X F (e::A4) ma)(KA:F.EX=λ_ _=>False:=by rfl)(Ap:F.K=X.K:=by rfl)(A_:EE X x:=by rfl)(GV:ζ:=by decide)(he:BF (e::A4) X.env=(false,BJ e X.env)::BF A4 X.env:=by rfl)(Dx:(D4 pos (BF A4 X.env)).any (·.1)=false:=by rfl):B8 X F (.Call (.Name x p) (e::A4) [] pos) (Br n BQ ma):=⟨by
 have AD:=AD.1;obtain⟨f,fd,Ai,AQ,Gu,hm,AE,A0⟩:=c.ex;refine Av.imp (dI Gu B5 A_ hm AE A0 .nil QD AD GV he Dx) ?_;rw[<-Ap];exact wI (xe:=λ_ _ _=>False) (E:=Ue) KA⟩
def agf{x:Str}{n k:Nat}{BQ:μ->R C5}(c:E0 X.prog X.w X.K X.mg X.base x n k BQ)(B5:Cm k X.A)(AD:GJ X F (e::A4) ma)(KA:F.EX=λ_ _=>False:=by rfl)(Ap:F.K=X.K:=by rfl)(A_:EE X x:=by rfl)(GV:ζ:=by decide)(he:BF (e::A4) X.env=(false,BJ e X.env)::BF A4 X.env:=by rfl)(Dx:(D4 pos (BF A4 X.env)).any (·.1)=false:=by rfl):KR X F (.Call (.Name x p) (e::A4) [] pos) (Fg n BQ ma):=⟨by
 have AD:=AD.1;obtain⟨f,fd,Ai,AQ,Gu,hm,AE,A0⟩:=c.ex;refine Av.imp (dI Gu B5 A_ hm AE A0 .nil QD AD GV he Dx) ?_;rw[<-Ap];exact wJ (xe:=λ_ _ _=>False) (E:=Ue) KA⟩
variable{scope:E8}{N:List Str}
abbrev hT(X:Ac)(scope:E8)(N:List Str)(e:AU)(m:Ae):Prop:=∀cl C s H Al G0 H0,B8 (Fa X scope N cl C s H Al) (Gv X.K G0 H0) e m
def afj{mt:Ck}(h:∀cl C s H Al G0 H0,Ft (Fa X scope N cl C s H Al) (Gv X.K G0 H0) c mt):Q5 X scope N [c] mt:=CP.ss λcl C s H Al G0 H0=>(h cl C s H Al G0 H0).1
noncomputable def Le(sc:E8)(Nm:List Str)(nl:Nat)(caps:ι):List Str:=((sc.names.drop 1).take nl).map (·.1)++caps.map λj=>Nm.getD j ""
def agi(nl:Nat)(caps:ι){ifs:List AU}{mi:B1}{set:D->AI->R AI}{mt:Ck}{Ge:Ae}(S:VX X.env.scope X.N scope (Le scope X.N nl caps) nl caps=true)(AC:M_ X F Bw iter mi)(A_:Ud X scope (Le scope X.N nl caps) Bw set)(Aj:Q5 X scope (Le scope X.N nl caps) ifs mt)(he:hT X scope (Le scope X.N nl caps) elt Ge)(AO:X.calm=true:=by rfl)(Ap:F.K=X.K:=by rfl)(AJ:∀x,PM iter X.env x=pure x:=by intro _;rfl):KR X F (.ListComp elt [⟨Bw,iter,ifs,0⟩] scope pos) (E3 nl caps mi set mt Ge):=
 ⟨CP.aa2 nl caps S AC.1 A_ Aj (λcl C s H Al G0 H0=>(he cl C s H Al G0 H0).1) AO Ap AJ⟩
end
def EM{P:Bx}{w:Bj}{K:Aa}{mg:Str->Option A7}{base:BI}{x:Str}{st:Be}{N Ai:List Str}{k:Nat}{m:B0}(d:Dz K mg x st Ai)(S:Cj N Ai (C0 st))(h:∀(f:A8)(CG:A7)(A:CK)(outer:List Env)(s:AP)(H:AB)(E:DT),Cm k (A.deeper (Nw x (C0 st) s.heap.objs.size f CG))->∀G0 H0,KQ (Jt H6 P w K mg base N x (C0 st) f CG A outer s H E).Kw (Gv K G0 H0) (GS st) m) :
  E0 P w K mg base x Ai.length (k+1) (DZ N.length m):=CP.tf d S λf CG A outer s H E B5 G0 H0=>(h f CG A outer s H E B5 G0 H0).1
structure Lm(K:Aa)(mg:Str->Option A7)(x:Str)(d:D):Prop where
 ex:∃(v:V)(u:A7),mg x=some u/\RelV v u/\∀G,At K G d v
def Wj{X:Ac}{F:BA}{x:Str}{d:D}{pos:Pos}(c:Lm X.K X.mg x d)(Ap:F.K=X.K:=by rfl)(A_:EE X x:=by rfl)(hd:ζ:=by decide):B8 X F (.Name x pos) (A5 d):=by obtain⟨v,u,A6,AA,Ao⟩:=c.ex;exact⟨CP.tL A6 AA (by rw[Ap];exact Ao) A_ hd⟩
end CP
namespace Bs
open PySem PySem.Spec PyProof.Rows
section
variable{X:Ac}{Bw:AU}
def i9(a b c:Int):Prop:=c≠0/\Builtin.Range.small a b c=true/\0<=fD a b c/\Builtin.divisionGoesByPylong (b-a) c=false
noncomputable instance(a b c:Int):Decidable (i9 a b c):=by unfold i9;infer_instance
end
section
variable{X:Ac}{a e:AU}{C7:Ew}{pos p pos' MB:Pos}
theorem q6:∀{xs:List V}{us:List A7},xs.length=us.length->(∀(i:Nat) x y,xs[i]?=some x->us[i]?=some y->RelV x y)->Vals xs us
 |[],[],_,_=>.nil
 |[],_::_,h,_=>by simp at h
 |_::_,[],h,_=>by simp at h
 |x::xs,u::us,h,f=>.cons (f 0 x u γ γ) (q6 (h:) λi a b A9 AH=>f (i+1) a b (A9:) (AH:))
def yy{pins:List (A8×Obj)}{σ :St}{H1:AB}{s2:AP}{Q:Cd}{r:A8}{j:Int}{t u v:Tok}(Bl:Inv X pins σ H1 s2)(AO:X.calm=true)(B5:IsRange s2.heap r 0 j 1 t u v)(Ak: -(2^62)<=j)(BC:j<=1000000)(q:∀l,H1 l=none->Q (.ref l) (upd H1 l (.lst ((EN j.toNat).map λi=>.int (i:Nat))))):Ad (B2 X.prog X.w) X.A (call (.type "list") [.ref r]) (G_ X pins σ Q) X.xe s2:=by
 have AQ:fD 0 j 1=(j.toNat:Nat):=by rw[rangeSize_one];split<;>lia
 refine call_list_range (Bl.ok.hd AO) B5 (small_one δ δ δ δ) AQ δ λh' C8 Xf Em kp e it=>?_;obtain⟨acc,rfl⟩:∃l:List A7,Xf=l.toArray:=⟨Xf.toList,γ⟩;have BN:Vals ((EN j.toNat).map λi=>V.int ((i:Nat):Int)) acc:=by
  have AN:acc.length=j.toNat:=(it.1:)
  refine q6 ?_ ?_
  .simp[AN]
  .intro i x y A9 AH;rw[EC]at A9;have AC:i<j.toNat:=by rw[<-AN];exact(List.getElem?_eq_some_iff.mp AH).1
   rw[UO AC]at A9;cases A9;obtain⟨tt,rfl⟩:=it.2 i y (AH:);exact⟨tt,γ⟩
 exact⟨.ref _,_,Bl.laid (t':=C8) kp (CY _) (show FS X.prog X.w X.K _ h' _ (.lst _)from⟨FF (m:=1000000) (by simp;lia) ε,acc,Em,BN,e⟩),rfl,q _ (Bl.BZ.fresh (CY _))⟩
def aec(C7:Ew):TE:=λσ H Q=>C7 σ H λvs H1=>∃j:Int,vs=[.int j]/\-(2^62)<=j/\j<=1000000/\∀l,H1 l=none->Q (.ref l) (upd H1 l (.lst ((EN j.toNat).map λi=>.int (i:Nat))))
def abh(A_:EE X "list")(hm:X.mg "list"=none)(cY:EE X "range")(NP:X.mg "range"=none)(AO:X.calm=true)(AD:GH X [a] C7)(AJ:BF [a] X.env=[(false,BJ a X.env)]:=by rfl)(Fd:BF [.Call (.Name "range" MB) [a] [] pos'] X.env=[(false,BJ (.Call (.Name "range" MB) [a] [] pos') X.env)]:=by rfl) :
  Av X (.Call (.Name "list" p) [.Call (.Name "range" MB) [a] [] pos'] [] pos) (aec C7):=by
 intro pins s σ H Q I h;refine UP (Om (u:=.type "list") I A_ hm (by kernel_rfl) ?_);refine Qm ?_ Fd rfl;rw[Fd];refine Sb ?_;refine Call_ (Om I cY NP boot_range (Qm (Bc (AD pos' pins s σ H _ I h) λus s1⟨vs,H1,Az,AK,Ak⟩=>?_) AJ rfl));obtain⟨j,e,Ak,BC,q⟩:=Ak;subst e;cases AK with
 |cons r IN=>cases IN;obtain⟨t,rfl⟩:=r;refine call_range_1 (UH ?_);exact yy (Az.kept λb o e=>DM _ e) AO (IsRange.new ..) Ak BC q
end
end Bs
namespace CP
open PySem PySem.Spec Bs
abbrev HQ:=AI->R (D×AI)
def lP(F:BA)(G:AB)(σ :St)(Q:Cd):R (D×AI)->Prop
 |.ok (d,BL)=>∀v H' G',Rel F G' H' σ BL->Sub G G'->At F.K G' d v->Q v H'
 |.exc c=>NS F c
 |.bad=>False
def aD(F:BA)(m:HQ):TE:=λσ H Q=>∃G ρ,Rel F G H σ ρ/\lP F G σ Q (m ρ)
section
variable{F:BA}
noncomputable def NY(i:Nat)(a:HQ):B0:=λρ=>(a ρ).bind λx=>(BK i x.1 x.2).bind λBL=>.ok (.B6 BL)
def xf{i:Nat}{a:HQ}:I0 (Fq F (NY i a)) (NB (aD F a) (Jx i)):=by
 rintro CC σ H ⟨G,ρ,r,h⟩;unfold NY BK at h;refine⟨G,ρ,r,?_⟩;cases As:a ρ with
 |bad=>rw[As]at h;cases h
 |exc c=>rw[As]at h;exact h
 |ok x=>
  obtain⟨d,ER⟩:=x;rw[As,R.EU]at h;intro v H1 Ah AK s1 BD;by_cases AC:i<ER.length
  .erw[if_pos AC]at h;exact h _ Ah H1 (AK.set AC BD) s1
  .erw[if_neg AC]at h;cases h
noncomputable def QZ(a:HQ):B0:=λρ=>(a ρ).bind λx=>.ok (.B6 x.2)
def wQ{a:HQ}:I0 (Fq F (QZ a)) (p4 (aD F a)):=by
 delta QZ;refine⟨G,ρ,r,?_⟩;cases As:a ρ with
 |bad=>rw[As]at h;cases h
 |exc c=>rw[As]at h;exact h
 |ok x=>obtain⟨d,ER⟩:=x;rw[As]at h;exact λv H' G' BO s' _=>h σ G' H' BO s'
end
section
variable{F:BA}
noncomputable def del(H:AB)(a:A8):AB:=λb=>if b=a then none else H b
def tk{H:AB}{a:A8}:del H a a=none:=by simp[del]
def tj{H:AB}{a b:A8}(h:b≠a):del H a b=H b:=by simp[del,h]
def jL(H:AB)(a:A8):Sub (del H a) H:=λb o e=>by
 unfold del at e
 split at e
 .cases e
 .exact e
end
section
variable{F:BA}
end
end CP
namespace CP
open PySem PySem.Spec Bs PyProof.Rows
def AW.erase{K:Aa}{G:AB}{ds:μ}{xs:List V}(n:Nat)(q:AW K G ds xs):AW K G (ds.eraseIdx n) (xs.eraseIdx n):=by rw[qV,qV];exact(q.take n).append (q.drop (n+1))
section
variable{X:Ac}{F:BA}{e a b c:AU}{A4:List AU}{pos p:Pos}{m n:Ae}{ma:B1}
noncomputable def OH(i:Nat)(m:Ae):HQ:=λρ=>(ownAt i ρ).bind λds=>(m ρ).bind λd=>match d with
 |.int k=>if-(2^63)<=k/\k<2^63 then match So k ds.length with
  |some j=>match ds[j]? with
   |some y=>.ok (y,ρ.set i (.Bm (ds.eraseIdx j)))
   |none=>.bad
  |none=>.bad
  else .bad
 |_=>.bad
noncomputable def Zy(i:Nat)(m:HQ):B0:=λρ=>(ownAt i ρ).bind λ_=>(m ρ).bind λx=>(ownAt i x.2).bind λds=>if ds.length<1000000 then .ok (.B6 (x.2.set i (.Bm (ds++[x.1]))))else .bad
noncomputable def Zs:μ->R μ
 |[.lst xs]=>.ok xs
 |[.D1 xs]=>.ok xs
 |[.tup xs]=>.ok xs
 |_=>.bad
def OG(m:B1):B1:=λρ=>(m ρ).bind Zs
def w0(Ap:F.K=X.K):Ej (I8 F (OG ma)) (aB (λxs H Q=>∃p ys,xs=[.ref p]/\(CA X.K H p ys\/CT X.K H p ys)/\∀l,H l=none->Q (.ref l) (upd H l (.lst ys))) (Es F ma)):=by
 delta OG r;refine rb h λds As h vs H1 Ah AK s1 a=>?_;unfold Zs at h
 split at h
 .obtain⟨v,rfl,BD⟩:=a.one;erw[At]at BD;obtain⟨q,xs,rfl,AV,F7⟩:=BD;refine⟨q,xs,rfl,.inl (CA.of (AK.kp.sub _ _ AV)),λl AN=>?_⟩;exact h l xs _ Ah (AK.lay0 AN) (s1.trans (C3.lay0 AN)) (s1.h.gone AN) Da (AK.kp.sub.gone AN) F7
 .obtain⟨v,rfl,BD⟩:=a.one;erw[At]at BD;obtain⟨q,xs,rfl,AV,F7⟩:=BD;refine⟨q,xs,rfl,.inl (by rw[<-Ap];exact CA.mono AK.kp.sub AV),λl AN=>?_⟩;exact h l xs _ Ah (AK.lay0 AN) (s1.trans (C3.lay0 AN)) (s1.h.gone AN) Da (AK.kp.sub.gone AN) F7
 .obtain⟨v,rfl,BD⟩:=a.one;erw[At]at BD;obtain⟨q,xs,rfl,AV,F7⟩:=BD;refine⟨q,xs,rfl,.inr (CT.of (AK.kp.sub _ _ AV)),λl AN=>?_⟩;exact h l xs _ Ah (AK.lay0 AN) (s1.trans (C3.lay0 AN)) (s1.h.gone AN) Da (AK.kp.sub.gone AN) F7
 .exact h.elim
noncomputable def WM:μ->R μ
 |[.int j]=>if-(2^62)<=j/\j<=1000000 then .ok (Fh 0 j.toNat)else .bad
 |_=>.bad
def WT(m:B1):B1:=λρ=>(m ρ).bind WM
theorem ht{K:Aa}{G:AB}:∀(l:ι),AW K G (l.map λi=>.int (0+((i:Nat):Int))) (l.map λi=>V.int ((i:Nat):Int))
 |[]=>.nil
 |i::l=>.cons (by simp[At]) (ht l)
noncomputable def Vo:μ->R D
 |[.int i]=>.ok (.int i)
 |[.AR k]=>.ok (.int (if k then 1 else 0))
 |[.str x]=>if x.length<=640 then match intText? x with|some i=>.ok (.int i)|none=>.bad else .bad
 |_=>.bad
def aaE:Q6 F (λxs H Q=>((∃i,xs=[.int i]/\Q (.int i) H)\/∃k,xs=[.AR k]/\Q (.int (if k then 1 else 0)) H)\/((∃i,xs=[.int i]/\Q (.int i) H)\/∃x i,xs=[.str x]/\x.length<=640/\intText? x=some i/\Q (.int i) H)) Vo:=by
 intro σ ρ G H xs ds Q r al k;unfold Vo at k
 split at k
 .rename_i i;exact .inl (.inl ⟨i,al.ints1,k _ H G r (C3.refl _ _) (by erw[At])⟩)
 .rename_i c;obtain⟨v,rfl,BD⟩:=al.one;erw[At]at BD;subst BD;exact .inl (.inr ⟨c,rfl,k _ H G r (C3.refl _ _) (by erw[At])⟩)
 .rename_i x
  split at k
  .rename_i AN
   split at k
   .rename_i i AC;obtain⟨v,rfl,BD⟩:=al.one;erw[At]at BD;subst BD;exact .inr (.inr ⟨x,i,rfl,AN,AC,k _ H G r (C3.refl _ _) (by erw[At])⟩)
   .exact k.elim
  .exact k.elim
 .exact k.elim
noncomputable def M7(set:D->AI->R AI)(m:Ae):B0:=λρ=>(m ρ).bind λd=>(set d ρ).bind λBL=>.ok (.B6 BL)
def pX{n:Nat}{BQ:μ->R C5}{xe:DT->Str->AB->Prop}{E:DT}{Ah H1:AB}{σ :Bs.St}{ρ:AI}{ds:μ}{vs:List V}{Q:Cd}(AG:F.EX=xe E)(AK:Rel F Ah H1 σ ρ)(a:AW F.K Ah ds vs)(AQ:ds.length=n)(h:JP F Ah H1 σ ρ Q ((BQ ds).bind P4)):QP F.K n xe BQ vs H1 Q E:=by
 refine⟨Ah,ds,AK.kp.sub,a,AQ,?_⟩;cases e:BQ ds with
 |bad=>rw[e]at h;cases h
 |exc c=>rw[e]at h;intro G' H' k;have z:=h G' H' (FR.of AK k).kp;rw[AG]at z;exact z
 |ok t=>
  rw[e,R.EU]at h;cases t with
  |v d=>exact λv G' H' k BD=>h v H' G' (FR.of AK k) ⟨k.EJ,k.B4,k.new⟩ BD
  |o A4=>intro p xs G' H' k A6 AA Ao BG;have AA:H1 p=none:=AA;have BO:=FR.of AK k;have no:¬Cc H' σ ρ p:=Cc.fresh AK k.B4 AA;refine h (.ref p) H' _ (BO.take Ao A6 (AK.kp.B4.gone AA) no) (C3.put ⟨k.EJ,k.B4,k.new⟩ AA A6) ?_;erw[At];exact⟨p,xs,rfl,Da,BG.mono (Sub.upd A6)⟩
  |t t=>intro v G' H' k q;obtain⟨a1,a2,I3⟩:=(FR.of AK k).ez (F':=⟨F.K,Ah,H1,xe E,IK⟩) rfl q ⟨k.EJ,k.B4,k.new⟩ λb A0=>⟨(q.own b A0).2,AK.kp.B4.gone (q.own b A0).2,Cc.fresh AK k.B4 (q.own b A0).2⟩;exact h v H' _ a1 a2 I3
end
section
variable{X:Ac}{F:BA}{e a b c:AU}{A4:List AU}{pos p:Pos}{m n:Ae}{ma:B1}
end
end CP
namespace CP
open PySem PySem.Spec Bs
structure Pn(X:Ac)(F:BA)(e:AU)(m:HQ):Prop where
 o:Av X e (aD F m)
section
variable{X:Ac}{F:BA}{e a b c Bw iter elt:AU}{A4:List AU}{pos p:Pos}{m n:Ae}{ma:B1}{st:Be}{SQ:List Be}
def aer (i:Nat) {x:Str} {Cn:Pos} {apos:Pos} {Bv:Pos} (he:B8 X F e m) (hN:X.N[i]?=some x:=by rfl) (BN:Gp X.env.scope x:=by rw?) (hd:ζ:=by decide) (DV:(x==("__classdict__" :Str))=false:=by decide) (Mf:Hw (.Name x Cn) "pop" X.env (BJ (.Name x Cn) X.env)=BJ (.Name x Cn) X.env:=by rfl) (Mi:(apos.endLine==Bv.line)=true:=by rfl) (Mh:((D4 Bv (BF [e] X.env)).all (λx=>!x.1)&&(H5 Bv (H3 [] X.env)).all (λx=>x.1.isSome)
   &&decide (([e]:List AU).length+([]:List FP).length+(if([]:List FP).isEmpty then 0 else 1)<30))=true:=by rfl) (AJ:BF [e] X.env=(false,BJ e X.env)::BF [] X.env:=by rfl) (MJ:(D4 Bv (BF [] X.env)).any (·.1)=false:=by rfl):Pn X F (.Call (.Attribute (.Name x Cn) "pop" apos) [e] [] Bv) (OH i m):=⟨by
 have he:=he.1;refine Av.imp (W1 U9 PySem.F.slot_list_pop PySem.F.type_list_pop yu (IM hN BN hd DV) (QC he RS AJ) Mf Mh Mi AJ MJ) ?_;rintro σ H Q ⟨G,ρ,r,h⟩;unfold OH ownAt at h;cases CR:ρ[i]? with
 |none=>rw[CR]at h;cases h
 |some s=>
  rw[CR]at h;cases s with
  |un=>cases h
  |A2 _=>cases h
  |Eg _=>cases h
  |Bg _ _=>cases h
  |ob ob=>
   cases ob with
   |An _ _=>cases h
   |ins _ _ _=>cases h
   |lst ds=>
    obtain⟨q,xs,A9,A6,AA,Ao,BG⟩:=r.own CR;rw[R.EU]at h;refine⟨.ref q,A9,.inl ⟨rfl,xs,CA.of A6⟩,G,ρ,r,?_⟩;refine rb h λd As h v H1 Ah AK s1 BD=>?_;obtain⟨Gf,Gj,Ee,J0,OX,Q2,HI⟩:=AK.own CR;rw[A9]at Ee;cases Ee;cases d with
    |int k=>
     erw[At]at BD;subst BD;simp only at h
     split at h
     .rename_i AE
      split at h
      .rename_i j KU
       split at h
       .rename_i y DK;obtain⟨w,IA,Oy⟩:=HI.get DK;refine⟨q,Gj,k,j,w,rfl,rfl,J0,AE.1,AE.2,by rw[<-HI.length];exact KU,IA,?_⟩;exact h w _ Ah (AK.mut CR A9 (HI.erase j)) s1.g Oy
       .exact h.elim
      .exact h.elim
     .exact h.elim
    |_=>exact h.elim⟩
def ag5 (i:Nat) {x:Str} {Cn:Pos} {apos:Pos} {Bv:Pos} {m:HQ} (he:Pn X F e m) (hN:X.N[i]?=some x:=by rfl) (BN:Gp X.env.scope x:=by rw?) (hd:ζ:=by decide) (DV:(x==("__classdict__" :Str))=false:=by decide) (Mf:Hw (.Name x Cn) "append" X.env (BJ (.Name x Cn) X.env)=BJ (.Name x Cn) X.env:=by rfl) (Mi:(apos.endLine==Bv.line)=true:=by rfl) (Mh:((D4 Bv (BF [e] X.env)).all (λx=>!x.1)&&(H5 Bv (H3 [] X.env)).all (λx=>x.1.isSome)
   &&decide (([e]:List AU).length+([]:List FP).length+(if([]:List FP).isEmpty then 0 else 1)<30))=true:=by rfl) (AJ:BF [e] X.env=(false,BJ e X.env)::BF [] X.env:=by rfl) (MJ:(D4 Bv (BF [] X.env)).any (·.1)=false:=by rfl):Ep X F (.Expr (.Call (.Attribute (.Name x Cn) "append" apos) [e] [] Bv) pos) (Zy i m):=⟨by
 have he:=he.1;refine DO.imp (aV (W1 U9 ql qm dh (IM hN BN hd DV) (QC he RS AJ) Mf Mh Mi AJ MJ) (Lv _ _ _ _ rfl)) ?_;rintro CC σ H ⟨G,ρ,r,h⟩;unfold Zy ownAt at h;cases CR:ρ[i]? with
 |none=>rw[CR]at h;cases h
 |some s=>
  rw[CR]at h;cases s with
  |un=>cases h
  |A2 _=>cases h
  |Eg _=>cases h
  |Bg _ _=>cases h
  |ob ob=>
   cases ob with
   |An _ _=>cases h
   |ins _ _ _=>cases h
   |lst ahR=>
    obtain⟨q,xs,A9,A6,AA,Ao,BG⟩:=r.own CR;rw[R.EU]at h;refine⟨.ref q,A9,.inl ⟨rfl,xs,CA.of A6⟩,G,ρ,r,?_⟩;cases As:m ρ with
    |bad=>rw[As]at h;cases h
    |exc c=>rw[As]at h;exact h
    |ok y=>
     obtain⟨d,ER⟩:=y;rw[As,R.EU]at h;intro v H1 Ah AK s1 BD;simp only at h;cases OT:ER[i]? with
     |none=>rw[OT]at h;cases h
     |some s=>
      rw[OT]at h;cases s with
      |un=>cases h
      |A2 _=>cases h
      |Eg _=>cases h
      |Bg _ _=>cases h
      |ob ob=>
       cases ob with
       |An _ _=>cases h
       |ins _ _ _=>cases h
       |lst ds=>
        rw[R.EU]at h;obtain⟨Gf,Gj,Ee,J0,OX,Q2,HI⟩:=AK.own OT;rw[A9]at Ee;cases Ee;by_cases AN:ds.length<1000000
        .rw[if_pos AN]at h;refine⟨q,Gj,v,rfl,rfl,J0,by rw[<-HI.length];exact LZ AN ε,?_⟩;exact h σ Ah _ (AK.mut OT A9 (HI.snoc BD)) s1
        .rw[if_neg AN]at h;exact h.elim⟩
def afv(hm:X.mg "list"=none)(AD:GJ X F [e] ma)(Ap:F.K=X.K:=by rfl)(A_:EE X "list":=by rfl)(he:BF [e] X.env=(false,BJ e X.env)::BF [] X.env:=by rfl)(Dx:(D4 pos (BF [] X.env)).any (·.1)=false:=by rfl):KR X F (.Call (.Name "list" p) [e] [] pos) (OG ma):=⟨have AD:=AD.1;Av.imp (lq sJ A_ hm (by kernel_rfl) AD ε ε he Dx) (w0 Ap)⟩
def afw{MB pos':Pos}(hm:X.mg "list"=none)(NP:X.mg "range"=none)(AD:GJ X F [a] ma)(AO:X.calm=true:=by rfl)(A_:EE X "list":=by rfl)(cY:EE X "range":=by rfl)(AJ:BF [a] X.env=[(false,BJ a X.env)]:=by rfl)(Fd:BF [.Call (.Name "range" MB) [a] [] pos'] X.env=[(false,BJ (.Call (.Name "range" MB) [a] [] pos') X.env)]:=by rfl):KR X F (.Call (.Name "list" p) [.Call (.Name "range" MB) [a] [] pos'] [] pos) (WT ma):=⟨by
 have AD:=AD.1;refine Av.imp (abh A_ hm cY NP AO AD AJ Fd) ?_;delta WT r;refine rb h λds As h vs H1 Ah AK s1 a=>?_;unfold WM at h
 split at h
 .rename_i j
  split at h
  .rename_i Bi;refine⟨j,a.ints1,Bi.1,Bi.2,λl AN=>?_⟩;exact h l _ _ Ah (AK.lay0 AN) (s1.trans (C3.lay0 AN)) (s1.h.gone AN) Da (AK.kp.sub.gone AN) (ht _)
  .exact h.elim
 .exact h.elim⟩
def agQ(hm:X.mg "int"=none)(AD:GJ X F [e] ma)(A_:EE X "int":=by rfl)(he:BF [e] X.env=(false,BJ e X.env)::BF [] X.env:=by rfl)(Dx:(D4 pos (BF [] X.env)).any (·.1)=false:=by rfl):B8 X F (.Call (.Name "int" p) [e] [] pos) (Bz Vo ma):=⟨have AD:=AD.1;bq (sF.or sG) aaE hm (by kernel_rfl) AD A_ ε ε he Dx⟩
def ah0{Bw:AU}{set:D->AI->R AI}(he:B8 X F e m)(A_:GM X Bw set)(Ap:F.K=X.K:=by rfl)(AJ:swapsWithSole [Bw] e pos.line X.env=pure false:=by rfl)(hw:swappedStores [Bw] e X.env=pure none:=by rfl)(A6:(LU [Bw] X.env).map (·.2)=[Kf Bw X.env]:=by rfl):Ep X F (.Assign [Bw] e pos) (M7 set m):=⟨by
 have he:=he.1;obtain⟨⟨g,g1,g2⟩,g3,_⟩:=A_;refine DO.imp (m9 he g1 AJ hw A6) ?_;delta M7;refine⟨G,ρ,r,?_⟩;refine rb h λd As h v H1 Ah AK s1 BD=>?_;cases A4:set d ρ with
 |bad=>rw[A4]at h;cases h
 |exc c=>exact absurd A4 (g3 d ρ c)
 |ok BL=>rw[A4]at h;exact g2 F Ap σ ρ Ah H1 v d _ BL AK BD A4 λσ' BO=>h σ' Ah H1 BO s1.g⟩
def aft(i:Nat){x:Str}{p:Pos}{m:HQ}(hN:X.N.Nodup)(he:Pn X F e m)(AC:X.N[i]?=some x:=by rfl)(AG:Loc X.env.scope x:=by first|exact Dh rfl|exact Cp rfl)(AJ:Oz e=true:=by rfl)(hf:X.fn x=true\/X.env.scope.names.lookup x=some .local:=by first|exact .inl rfl|exact .inr rfl):Ep X F (.Assign [.Name x p] e pos) (NY i m):=⟨have he:=he.1;DO.imp (RT hN AC AG he (Lv _ _ _ _ AJ) hf) xf⟩
def agA{m:HQ}(h:Pn X F e m)(AJ:Oz e=true:=by rfl):Ep X F (.Expr e pos) (QZ m):=⟨have h:=h.1;DO.imp (aV h (Lv _ _ _ _ AJ)) wQ⟩
end
def G1.inj{K:Aa}{c:Str}{C KL:A8}(h:G1 K c C)(h':G1 K c KL):C=KL:=by unfold G1 at h h';rw[h]at h';cases h';rfl
theorem kn{K:Aa}{G:AB}{f:Str}{d:D}:∀{xs:List (Str×V)}{ds:μ},AW K G ds (xs.map (·.2))->((xs.map (·.1)).zip ds).lookup f=some d->∃v,xs.lookup f=some v/\At K G d v
 |[],_,_,e=>by simp at e
 |(k,v)::xs,[],h,_=>by have:=h.length;simp at this
 |(k,v)::xs,e::ds,h,l=>by
  erw[Du,AW]at h;obtain⟨Nt,r,A9,a,t⟩:=h;cases A9;erw[Du,K5,UJ]at l |-;cases AE:f==k with
  |true=>rw[AE]at l;cases l;exact⟨v,rfl,a⟩
  |false=>rw[AE]at l;exact kn t l
theorem Zt{f:Str}:∀{xs:List (Str×V)},(xs.map (·.1)).all (λk=>!(f==k))=true->xs.lookup f=none
 |[],_=>rfl
 |(k,v)::xs,h=>by erw[Du,PP,Fj,fj]at h;rw[UJ,h.1];exact Zt (h.2:)
structure Nd(K:Aa)(c:Str)(Ar:List Str):Prop where
 ex:∃C,G1 K c C/\Jf K C/\∀f∈Ar,RH K C f
noncomputable def Dw(c f:Str):D->R D
 |.ins Em ns ds=>if Em=c then match(ns.zip ds).lookup f with
  |some d=>.ok d
  |none=>.bad
  else .bad
 |_=>.bad
section
variable{X:Ac}{F:BA}{e a b c o:AU}{A4:List AU}{pos p:Pos}{m n:Ae}{ma:B1}
structure Pj(P:Bx)(w:Bj)(K:Aa)(mg:Str->Option A7)(base:BI)(Af mt:Str)(n k:Nat)(BQ:μ->R C5):Prop where
 ex:∃(C f:A8)(fd:GF)(Ai:List Str),G1 K Af C/\Jf K C/\Meth K C mt f/\Gl P w K mg base H6 k f fd Ai (P9 K (n+1) BQ)/\Binds K fd Ai []
noncomputable def QJ(Af mt:Str):D->R D
 |.ins Em ns ds=>if Em=Af/\ns.all (λk=>!(mt==k))=true then .ok (.ins Em ns ds)else .bad
 |_=>.bad
def Il(Af mt:Str)(n:Nat)(BQ:μ->R C5)(o:Ae)(ma:B1):Ae:=λρ=>(o ρ).bind λd=>(QJ Af mt d).bind λd=>(ma ρ).bind λds=>if ds.length=n then(BQ (d::ds)).bind P4 else .bad
def w4{Af mt:Str}{n:Nat}{BQ:μ->R C5}{C:A8}{E:DT}(AG:F.EX=λ_ _=>False)(HJ:G1 F.K Af C):Ej (Cx F (Il Af mt n BQ m ma)) (Vj C mt (P9 F.K (n+1) BQ) [] E (Cx F m) (Es F ma)):=by
 delta Il r;refine rb h λd As h x H1 Ah AK s1 Bn=>?_;cases d with
 |ins Em ns ds=>
  erw[QJ]at h
  split at h
  .rename_i AO;obtain⟨Jz,F2⟩:=AO;subst Jz;have Uc:=Bn;erw[At]at Bn;obtain⟨q,Ag,xs,rfl,⟨KL,BW,g1⟩,rfl,al⟩:=Bn;have:=BW.inj HJ;subst this;refine⟨q,Ag,xs,rfl,AK.kp.sub _ _ g1,Zt F2,Ah,ρ,AK,?_⟩;rw[R.EU]at h;refine rb h λA4 BS h vs Am CL B7 s2 BD=>?_;by_cases AQ:A4.length=n
   .rw[if_pos AQ]at h;rw[LO];exact pX (xe:=λ_ _ _=>False) AG B7 (.cons (Uc.mono s2.g) BD) (by simp[AQ]) (h.mono (s1.trans s2))
   .rw[if_neg AQ]at h;cases h
  .exact h.elim
 |_=>cases h
def cI:D->Option Key
 |.int i=>some (.inl i)
 |.str x=>some (.inr x)
 |_=>none
noncomputable def Zq:μ->Option (List Key)
 |[]=>some []
 |d::ds=>match cI d,Zq ds with
  |some k,some ks=>some (k::ks)
  |_,_=>none
noncomputable def dp:D->Option JB
 |.tup ds=>(Zq ds).map .inr
 |d=>(cI d).map .inl
noncomputable def Zb:μ->Option Bf
 |[]=>some []
 |d::ds=>match dp d,Zb ds with
  |some k,some ks=>some (k::ks)
  |_,_=>none
noncomputable def Ik:D->Option Bf
 |.tup ds=>Zb ds
 |_=>none
def kY{K:Aa}{G:AB}{d:D}{v:V}{k:Key}(e:cI d=some k)(a:At K G d v):v=Dm k:=by
 cases d<;>first
  |(cases e;done)
  |(cases e;erw[At]at a;exact a)
theorem kZ{K:Aa}{G:AB}:∀{ds:μ}{vs:List V}{ks:List Key},Zq ds=some ks->AW K G ds vs->vs=ks.map Dm
 |[],_,_,e,a=>by erw[AW]at a;subst a;cases e;rfl
 |d::ds,_,_,e,a=>by
  erw[AW]at a;obtain⟨v,r,rfl,BD,Ma⟩:=a;unfold Zq at e
  split at e
  .rename_i k ks A9 AH;cases e;rw[kY A9 BD,kZ AH Ma];rfl
  .cases e
def aae{K:Aa}{G:AB}{d:D}{v:V}{k:JB}(e:dp d=some k)(a:At K G d v):Nl G k v:=by
 unfold dp at e
 split at e
 .obtain⟨ks,A9,rfl⟩:=Option.map_eq_some_iff.mp e;erw[At]at a;obtain⟨b,xs,rfl,A0,al⟩:=a;exact⟨b,rfl,by rw[A0,kZ A9 al]⟩
 .obtain⟨k,A9,rfl⟩:=Option.map_eq_some_iff.mp e;exact kY A9 a
theorem mF{K:Aa}{G:AB}:∀{ds:μ}{vs:List V}{ks:Bf},Zb ds=some ks->AW K G ds vs->Paired (Nl G) ks vs
 |[],_,_,e,a=>by erw[AW]at a;subst a;cases e;exact .nil
 |d::ds,_,_,e,a=>by
  erw[AW]at a;obtain⟨v,r,rfl,BD,Ma⟩:=a;unfold Zb at e
  split at e
  .rename_i k ks A9 AH;cases e;exact .cons (aae A9 BD) (mF AH Ma)
  .cases e
def Oj{K:Aa}{G:AB}{d:D}{v:V}{ks:Bf}(e:Ik d=some ks)(a:At K G d v):∃b,v=.ref b/\Jo G ks b:=by
 cases d with
 |tup ds=>erw[At]at a;obtain⟨b,xs,rfl,A0,al⟩:=a;exact⟨b,rfl,xs,A0,mF e al⟩
 |_=>cases e
def No{G H:AB}{k:Bf}{a:A8}(h:Jo G k a)(s:Sub G H):Jo H k a:=h.mono λb xs e=>s b _ e
theorem Wg{κ:Type}[DecidableEq κ](k:κ):∀Ab:List (κ×V),(F5 Ab k).isSome=(Ab.map (·.1)).any (λx=>decide (x=k))
 |[]=>rfl
 |(x,v)::Ab=>by
  have Bh:=Wg k Ab;unfold F5 at Bh |-;rw[IV,Du,Ny];by_cases h:x=k
  .simp[h]
  .erw[h,decide_false,Bool.false_or];exact Bh
noncomputable def Fb(b:Bool)(k d:D):R D:=match d with
 |.An ks _=>match Ik k with
  |some BY=>.ok (.AR (if b then ks.any (λx=>decide (x=BY))else !ks.any (λx=>decide (x=BY))))
  |none=>.bad
 |_=>.bad
def jM{b:Bool}{σ :St}{ρ:AI}{G H:AB}{y x:V}{Lg D7:D}{Q:Cd}(r:Rel F G H σ ρ)(Cq:At F.K G Lg y)(Bn:At F.K G D7 x)(h:JP F G H σ ρ Q (Fb b Lg D7)) :
  ∃a o,x=.ref a/\J8 H a y o/\Q (.AR (if b then o.isSome else !o.isSome)) H:=by
 unfold Fb at h
 split at h
 .rename_i ks ds
  split at h
  .rename_i BY DD;erw[At]at Bn;obtain⟨a,xs,rfl,A_,rfl,al⟩:=Bn;obtain⟨q,rfl,AV⟩:=Oj DD Cq;refine⟨a,F5 xs BY,rfl,J8.t (r.kp.sub _ _ A_) (No AV r.kp.sub),?_⟩;rw[Wg];exact h _ H G r (C3.refl _ _) (by erw[At])
  .exact h.elim
 .exact h.elim
def jb:Ej (Cx F (A3 (Fb true) m n)) (p2 (Cx F m) (Cx F n)):=by delta A3 r;refine rb h λLg As h y H1 Ah AK s1 Cq=>?_;refine⟨Ah,ρ,AK,?_⟩;refine rb h λD7 BS h x Am CL B7 s2 Bn=>?_;exact jM (b:=true) B7 (Cq.mono s2.g) Bn (h.mono (s1.trans s2))
def wP:Ej (Cx F (A3 (Fb false) m n)) (p3 (Cx F m) (Cx F n)):=by delta A3 r;refine rb h λLg As h y H1 Ah AK s1 Cq=>?_;refine⟨Ah,ρ,AK,?_⟩;refine rb h λD7 BS h x Am CL B7 s2 Bn=>?_;exact jM (b:=false) B7 (Cq.mono s2.g) Bn (h.mono (s1.trans s2))
noncomputable def Kq(i:Nat):B0:=λρ=>if i<ρ.length then .ok (.B6 (ρ.set i (.ob (.An [] []))))else .bad
noncomputable def SK:List Bf->μ->Bf->D->μ
 |k::ks,d::ds,BY,v=>(if k=BY then v else d)::SK ks ds BY v
 |_,_,_,_=>[]
noncomputable def putD(ks:List Bf)(ds:μ)(BY:Bf)(d:D):R L7:=if ks.any (λx=>decide (x=BY))=false/\ks.length<1000000 then .ok (.An (ks++[BY]) (ds++[d]))else if ks.any (λx=>decide (x=BY))=true/\ks.length<1000000 then .ok (.An ks (SK ks ds BY d))else .bad
noncomputable def Ht(i:Nat)(mk mv:Ae):B0:=λρ=>(mv ρ).bind λv=>match ρ[i]? with
 |some (.ob (.An ks ds))=>(mk ρ).bind λk=>match Ik k with
  |some BY=>(putD ks ds BY v).bind λo=>.ok (.B6 (ρ.set i (.ob o)))
  |none=>.bad
 |_=>.bad
def JR(m:Ae):B0:=λρ=>(m (DG ρ)).bind λd=>.ok (.EP d)
def c2:B0:=λ_=>.bad
end
mutual
noncomputable def Ku:D->Bool
 |.ins _ _ _=>false
 |.tup ds=>MA ds
 |.lst ds=>MA ds
 |.D1 ds=>MA ds
 |.Df _ ds=>MA ds
 |.An _ ds=>MA ds
 |.Do ds=>MA ds
 |_=>true
noncomputable def MA:μ->Bool
 |[]=>true
 |d::ds=>Ku d&&MA ds
end
noncomputable def Us:DN->Bool
 |.ins _ _ _=>true
 |_=>false
section
variable{K:Aa}{G G':AB}
def Eo.off(h:∀b o,G b=some o->Us o=false->G' b=some o){a:A8}{u:DN}(BM:Us u=false)(r:Eo G a u):Eo G' a u:=by
 rcases r with r|⟨o,r⟩
 .exact .inl (h _ _ r BM)
 .exact .inr ⟨o,h _ _ r rfl⟩
mutual
theorem At.off(h:∀b o,G b=some o->Us o=false->G' b=some o):∀{d:D}{v:V},Ku d=true->At K G d v->At K G' d v
 |.non,_,_,q=>by simpa only[At]using q
 |.AR _,_,_,q=>by simpa only[At]using q
 |.int _,_,_,q=>by simpa only[At]using q
 |.str _,_,_,q=>by simpa only[At]using q
 |.tup _,_,n,q=>by erw[At,Ku]at q n |-;obtain⟨a,xs,e,g,r⟩:=q;exact⟨a,xs,e,h _ _ g rfl,AW.off h n r⟩
 |.lst _,_,n,q=>by erw[At,Ku]at q n |-;obtain⟨a,xs,e,g,r⟩:=q;exact⟨a,xs,e,h _ _ g rfl,AW.off h n r⟩
 |.D1 _,_,n,q=>by
  erw[At,Ku]at q n |-;obtain⟨a,xs,e,g,r⟩:=q;refine⟨a,xs,e,?_,AW.off h n r⟩;rcases g with g|g
  .exact .inl (Eo.off h rfl g)
  .exact .inr g
 |.Do _,_,n,q=>by
  erw[At,Ku]at q n |-;obtain⟨a,xs,e,g,r⟩:=q;refine⟨a,xs,e,?_,AW.off h n r⟩;rcases g with g|g
  .exact .inl (Eo.off h rfl g)
  .exact .inr g
 |.Df _ _,_,n,q=>by erw[At,Ku]at q n |-;obtain⟨a,xs,e,g,k,r⟩:=q;exact⟨a,xs,e,h _ _ g rfl,k,AW.off h n r⟩
 |.An _ _,_,n,q=>by erw[At,Ku]at q n |-;obtain⟨a,xs,e,g,k,r⟩:=q;exact⟨a,xs,e,h _ _ g rfl,k,AW.off h n r⟩
 |.ins _ _ _,_,n,_=>by erw[Ku]at n;cases n
 |.Md _,_,n,q=>by erw[At]at q |-;obtain⟨a,xs,e,⟨C,BW,g⟩,r⟩:=q;exact⟨a,xs,e,⟨C,BW,h _ _ g rfl⟩,r⟩
theorem AW.off(h:∀b o,G b=some o->Us o=false->G' b=some o):∀{ds:μ}{vs:List V},MA ds=true->AW K G ds vs->AW K G' ds vs
 |[],_,_,q=>by simpa only[AW]using q
 |_::_,_,n,q=>by erw[AW,MA,Fj]at q n |-;obtain⟨v,r,e,a,t⟩:=q;exact⟨v,r,e,At.off h n.1 a,AW.off h n.2 t⟩
end
end
noncomputable def ad4:Bb->Bool
 |.ob (.ins _ _ _)=>true
 |.ob _=>false
 |.Eg _=>false
 |.Bg _ _=>false
 |_=>true
noncomputable def e1(ρ:AI):Bool:=ρ.all ad4
def Rk(m:Ae):Ae:=λρ=>(m (DG ρ)).bind λd=>if Ku d=true/\e1 ρ=true then .ok d else .bad
section
variable{F:BA}
open Classical in
noncomputable def HH(H:AB)(σ :St)(ρ:AI)(G:AB):AB:=λb=>if Cc H σ ρ b then none else G b
def wD{m:Ae}:Ej (Cx F (Rk m)) (Cx F m):=by
 rintro σ H Q ⟨G,ρ,r,h⟩;refine⟨IC σ ρ G H,DG ρ,r.plus,?_⟩;unfold Rk at h;refine rb h λd As h v H' G' BO s' a=>?_;by_cases hd:Ku d=true/\e1 ρ=true
 .rw[if_pos hd]at h;have QA:∀b,Cc H σ ρ b->G b=none:=λb z=>(r.foot z).2.1;have Q9:∀b,Cc H σ ρ b->F.H0 b=none:=λb z=>(r.foot z).2.2;have dH:∀b,Cc H σ ρ b->∃ho,H b=some ho/\Us ho=true:=λb⟨i,s,o,A9,AH,f⟩=>by
   have AC:=List.all_eq_true.mp hd.2 _ (Hd A9);cases s with
   |un=>cases f
   |A2 _=>cases f
   |Eg _=>cases AC
   |Bg _ _=>cases AC
   |ob ob=>
    have f:o=some (.ref b):=f;obtain⟨c,ho,Au,A6,_,_,BG⟩:=r.obj A9;rw[AH,f]at Au;cases Au;cases ob with
    |lst _=>cases AC
    |An _ _=>cases AC
    |ins _ _ _=>obtain⟨C,Ag,xs,_,rfl,_⟩:=BG;exact⟨_,A6,rfl⟩
  have off:∀b,¬Cc H σ ρ b->HH H σ ρ G' b=G' b:=λb n=>by unfold HH;rw[if_neg n]
  have on:∀b,Cc H σ ρ b->HH H σ ρ G' b=none:=λb n=>by unfold HH;rw[if_pos n]
  have BH:Sub G (HH H σ ρ G'):=λb o e=>by
   have n:¬Cc H σ ρ b:=λz=>by rw[QA b z]at e;cases e
   rw[off b n];exact s'.g b o (V1 r b o e)
  have cE:∀b,Cc H σ ρ b->∀o,H b=some o->H' b=some o:=λb z o e=>BO.kp.sub _ _ (s'.g _ _ (by rw[OW z];exact e));have rel:Rel F (HH H σ ρ G') H' σ ρ:=by
   refine r.over rfl ⟨λb o e=>?_,r.kp.EJ.trans BH,BO.kp.B4,λb A0=>?_⟩ BH λb Bm=>?_
   .by_cases n:Cc H σ ρ b
    .rw[on b n]at e;cases e
    .rw[off b n]at e;exact BO.kp.sub b o e
   .have n:¬Cc H σ ρ b:=λz=>A0.1 (Q9 b z);rw[off b n];exact BO.kp.new b A0
   .refine⟨?_,on b Bm,Q9 b Bm⟩;cases BS:H b with
    |none=>exact absurd BS (r.foot Bm).1
    |some o=>exact cE b Bm o BS
  refine h v H' _ rel ⟨BH,s'.h,λb A0=>?_⟩ (At.off (λb o e AC=>?_) hd.1 a)
  .by_cases n:Cc H σ ρ b
   .rw[on b n,QA b n]
   .rw[off b n,s'.n b A0];unfold IC;rw[if_neg n]
  .have n:¬Cc H σ ρ b:=λz=>by
     obtain⟨ho,A9,AH⟩:=dH b z;have:=s'.g b ho (by rw[OW z];exact A9);rw[e]at this;cases this;rw[AC]at AH;cases AH
   rw[off b n];exact e
 .rw[if_neg hd]at h;cases h
abbrev Ji:=AI->R AI
def yV(F:BA)(σ :St)(CC:Ends):R AI->Prop
 |.ok BL=>∀G' H',Rel F G' H' σ BL->CC.B6 σ H'
 |.exc c=>NS F c
 |.bad=>False
def PB(F:BA)(m:Ji):FT:=λCC σ H=>∃G ρ,Rel F G H σ ρ/\yV F σ CC (m ρ)
noncomputable def NZ(a b:Ji):Ji:=λρ=>(a ρ).bind b
def xk{a b:Ji}:I0 (PB F (NZ a b)) (eu (PB F a) (PB F b)):=by
 delta NZ;refine⟨G,ρ,r,?_⟩;cases As:a ρ with
 |bad=>rw[As]at h;cases h
 |exc c=>rw[As]at h;exact h
 |ok ER=>rw[As,R.EU]at h;exact λG' H' BO=>⟨G',ER,BO,h⟩
noncomputable def Qb(c:Ck):Ji:=λρ=>(c ρ).bind λk=>if k=true then .bad else .ok ρ
def wV{c:Ck}:I0 (PB F (Qb c)) (er (HO F c) p9 et):=by
 delta Qb;refine⟨G,ρ,r,?_⟩;refine rb h λk As h H1 Ah AK s1=>?_;cases k with
 |true=>cases h
 |false=>exact h Ah H1 AK
theorem aW{f:Str}{v:V}:∀{Ar:List (Str×V)},(Ar.map (·.1)).all (λk=>!(f==k))=true->HM f v Ar=Ar++[(f,v)]
 |[],_=>rfl
 |(g,x)::Ar,h=>by
  erw[Du,PP,Fj,fj]at h;have ne:g≠f:=λz=>by subst z;simp at h
  rw[HM,if_neg ne,aW (h.2:)];rfl
noncomputable def Kp(Af f:Str)(m:Ae):Ji:=λρ=>(m ρ).bind λd=>match(ρ[0]? :Option Bb)with
 |some (.ob (.ins Em ns ds))=>if Em=Af/\ns.all (λk=>!(f==k))=true/\ns.length<1000 then .ok (ρ.set 0 (.ob (.ins Af (ns++[f]) (ds++[d]))))else .bad
 |_=>.bad
end
section
variable{X:Ac}{F:BA}{e o:AU}{pos:Pos}{m:Ae}
def abp{Af f x:Str}{Ar:List Str}{Cn pos':Pos}(k:Nd X.K Af Ar)(he:Jg X F e m)(hf:f∈Ar:=by decide+kernel)(hN:X.N[0]?=some x:=by rfl)(BN:Gp X.env.scope x:=by rw?)(hd:ζ:=by decide)(DV:(x==("__classdict__" :Str))=false:=by decide)(AJ:Oz e=true:=by rfl)(Ap:F.K=X.K:=by rfl) :
  DO X (.Assign [.Attribute (.Name x Cn) f pos'] e pos) (PB F (Kp Af f m)):=by
 refine DO.imp (dR (IM hN BN hd DV) he (Lv _ _ _ _ AJ)) ?_;delta Kp;refine⟨G,ρ,r,?_⟩;refine rb h λd As h v H1 Ah AK s1 BD=>?_
 split at h
 .rename_i Em ns ds CR
  split at h
  .rename_i AO;obtain⟨rfl,F2,TQ⟩:=AO;obtain⟨q,ho,A9,A6,AA,Ao,C,Ag,xs,BW,rfl,rfl,al⟩:=AK.obj CR;obtain⟨KL,Cg,By,Fm⟩:=k.ex;rw[Ap]at BW;have:=BW.inj Cg;subst this;refine⟨.ref q,A9,q,C,Ag,xs,rfl,A6,By,Fm f hf,(TQ:),?_⟩;refine h Ah _ (AK.Tz CR A9 ⟨C,Ag,HM f v xs,by rw[Ap];exact BW,rfl,?_,?_⟩)
   .rw[aW F2];simp
   .rw[aW F2,Hy];exact al.snoc BD
  .exact h.elim
 .exact h.elim
end
noncomputable def lL(F:BA)(x C:A8)(Q:Cd):R (List Str×μ)->Prop
 |.ok (ns,ds)=>∀Ag xs G' H',FR F G' H'->G' x=none->H' x=some (.ins C Ag xs)->xs.map (·.1)=ns->AW F.K G' ds (xs.map (·.2))->Q .non H'
 |.exc _=>False
 |.bad=>False
noncomputable def WE(K:Aa)(Af:Str)(n:Nat)(BQ:μ->R (List Str×μ)):AX:=λvs H Q E=>∃G x C Ag A4 ws,vs=.ref x::ws/\G1 K Af C/\H x=some (.ins C Ag [])/\G x=none/\Sub G H/\AW K G A4 ws/\A4.length=n/\lL ⟨K,G,del H x,λ_ _=>False,IK⟩ x C Q (BQ A4)
noncomputable def Tl(Af:Str)(n:Nat)(BQ:μ->R (List Str×μ))(ma:B1):Ae:=λρ=>(ma ρ).bind λds=>if ds.length=n then(GL (BQ ds)).bind λx=>.ok (.ins Af x.1 x.2)else .bad
section
variable{X:Ac}{F:BA}{e:AU}{A4:List AU}{pos p:Pos}{ma:B1}
def w2{Af:Str}{n:Nat}{BQ:μ->R (List Str×μ)}{C:A8}{E:DT}(HJ:G1 F.K Af C):Ej (Cx F (Tl Af n BQ ma)) (es C (WE F.K Af n BQ) [] E (Es F ma)):=by
 delta Tl r;refine rb h λds As h vs H1 Ah AK s1 BD x Ag AG b4 ne=>?_;by_cases AQ:ds.length=n
 .rw[if_pos AQ]at h;rw[LO];have QH:Sub H1 (del (upd (upd H1 Ag (.own x)) x (.ins C Ag [])) x):=λb o e=>by
   have Cv:b≠x:=λz=>by rw[z,AG]at e;cases e
   have D8:b≠Ag:=λz=>by rw[z,b4]at e;cases e
   rw[tj Cv,Cy Cv,Cy D8];exact e
  have d6:Sub Ah (upd (upd H1 Ag (.own x)) x (.ins C Ag [])):=AK.kp.sub.trans (QH.trans (jL _ _));refine⟨Ah,x,C,Ag,ds,vs,rfl,HJ,Da,AK.kp.sub.gone AG,d6,BD,AQ,?_⟩;cases em:BQ ds with
  |bad=>rw[em]at h;cases h
  |exc c=>rw[em]at h;cases h
  |ok y=>obtain⟨ns,Vd⟩:=y;rw[em]at h;intro V_ xs G' H' k g1 g2 g3 g4;refine⟨rfl,?_⟩;have B4:Sub H1 H':=QH.trans k.B4;have nw:∀b,H8 H1 b->G' b=Ah b:=λb A0=>k.new b (QH.JC A0);have B7:Rel F G' H' σ ρ:=AK.grow k.EJ k.sub B4 nw;have no:¬Cc H' σ ρ x:=Cc.fresh AK B4 AG;refine h (.ref x) H' _ (B7.take g2 g1 (AK.kp.B4.gone AG) no) ((s1.trans ⟨k.EJ,B4,nw⟩).put (s1.h.gone AG) g1) ?_;erw[At];exact⟨x,V_,xs,rfl,⟨C,HJ,Da⟩,g3,g4.mono (Sub.upd g1)⟩
 .rw[if_neg AQ]at h;cases h
structure h8(P:Bx)(w:Bj)(K:Aa)(mg:Str->Option A7)(base:BI)(Af:Str)(n k:Nat)(BQ:μ->R (List Str×μ)):Prop where
 ex:∃(C f:A8)(fd:GF)(Ai:List Str),G1 K Af C/\Uk K C f/\Gl P w K mg base H6 k f fd Ai (WE K Af n BQ)/\mg Af=some (.ref C)/\Binds K fd Ai []
end
noncomputable def Kl(Af:Str)(A4:μ):AI:=.ob (.ins Af [] [])::A4.map .A2
noncomputable def outI(Af:Str):R AI->R (List Str×μ)
 |.ok (.ob (.ins c ns ds)::_)=>if c=Af then .ok (ns,ds)else .bad
 |_=>.bad
def ac5{K:Aa}{G H:AB}{EX:Str->AB->Prop}{Af:Str}{C Ag x:A8}{A4:μ}{ws:List V}(HJ:G1 K Af C)(A6:H x=some (.ins C Ag []))(AA:G x=none)(s:Sub G H)(BD:AW K G A4 ws) :
  Rel ⟨K,G,del H x,EX,IK⟩ G H (some (.ref x)::ws.map some) (Kl Af A4):=by
 refine⟨⟨s,Sub.refl _,jL H x,λ_ _=>rfl⟩,by simp[Kl,BD.length],λi t e=>?_,λi j b Ar k4 o o' Db Dj _ _ f t7=>?_⟩
 .cases i with
  |zero=>simp[Kl]at e;subst e;exact⟨some (.ref x),γ,x,_,rfl,A6,AA,tk,C,Ag,[],HJ,rfl,rfl,.nil⟩
  |succ i=>
   erw[Kl,MD]at e |-;rw[EC]at e;cases GK:A4[i]? with
   |none=>rw[GK]at e;cases e
   |some d=>rw[GK]at e;cases e;obtain⟨v,A9,a⟩:=BD.get GK;exact⟨some v,by rw[EC,A9];rfl,v,rfl,a⟩
 .have one:∀{i:Nat}{Ar:Bb}{o:Option V},(Kl Af A4)[i]?=some Ar->Ez H Ar o b->i=0:=λ{i Ar o} e f=>by
    cases i with
    |zero=>rfl
    |succ i=>
     erw[Kl,MD,EC]at e;cases GK:A4[i]? with
     |none=>rw[GK]at e;cases e
     |some d=>rw[GK]at e;cases e;cases f
  rw[one Db f,one Dj t7]
def xC{K:Aa}{Af:Str}{n:Nat}{m:Ji}{vs:List V}{H:AB}{Q:Cd}{E:DT}(h:WE K Af n (λA4=>outI Af (m (Kl Af A4))) vs H Q E) :
  ∃G H0,PB (Gv K G H0) m { B6:=λ_ H'=>Q .non H',EP:=Q } (vs.map some) H:=by
 obtain⟨G,x,C,Ag,A4,ws,rfl,HJ,A6,AA,s,BD,l,k⟩:=h;refine⟨G,del H x,G,Kl Af A4,ac5 HJ A6 AA s BD,?_⟩;replace k:lL ⟨K,G,del H x,λ_ _=>False,IK⟩ x C Q (outI Af (m (Kl Af A4))):=k;cases em:m (Kl Af A4)with
 |bad=>rw[em]at k;cases k
 |exc c=>rw[em]at k;cases k
 |ok BL=>
  rw[em]at k;intro G' H' r;unfold outI at k
  split at k
  .rename_i ahP ns ds Ex heq;cases heq;obtain⟨a,ho,A9,g1,g2,g3,KL,V_,xs,BW,rfl,AH,al⟩:=r.obj (i:=0) rfl;have A9:some (some (V.ref x))=some (some (V.ref a)):=A9;cases A9
   split at k
   .rename_i AO;subst AO;have:=BW.inj HJ;subst this;exact k V_ xs G' H' r.kp g2 g1 AH al
   .exact k.elim
  .exact k.elim
end CP
namespace CP
open PySem PySem.Spec Bs PyProof.Rows
def pV{K:Aa}{Af:Str}{n:Nat}{BQ:μ->R (List Str×μ)}:∀vs H Q E,WE K Af n BQ vs H Q E->vs.length=n+1:=λvs H Q E h=>by obtain⟨G,x,C,Ag,A4,ws,rfl,_,_,_,_,q,l,_⟩:=h;rw[H4,<-q.length,l]
def acs{N:List Str}{vs:List V}(h:vs.length=N.length):Bs.start N vs=vs.map some:=by unfold Bs.start;simp[h]
def xW{P:Bx}{w:Bj}{K:Aa}{mg:Str->Option A7}{base:BI}{x qual Af FN:Str}{st:Be}{Ai:List Str}{k:Nat}{m:Ji}{f:A8}{fd:GF}(fn:Nh K x qual st f fd)(S:Cj (FN::Ai) (FN::Ai) (C0 st))(h:∀(f:A8)(CG:A7)(A:CK)(outer:List Env)(s:AP)(H:AB)(E:DT),Cm k (A.deeper (Nw qual (C0 st) s.heap.objs.size f CG))->∀G0 H0,GP (Jt H6 P w K mg base (FN::Ai) qual (C0 st) f CG A outer s H E).Kw (GS st) (PB (Gv K G0 H0) m)) :
  Gl P w K mg base H6 (k+1) f fd (FN::Ai) (WE K Af Ai.length λA4=>outI Af (m (Kl Af A4))):=fn.ok S pV λCG A outer s H vs Q E B5 AJ=>by
 have AN:=pV vs H Q E AJ;obtain⟨G,H0,Aj⟩:=xC AJ;refine⟨_,h f CG A outer s H E B5 G H0,?_⟩;rw[acs (AN:)];exact Aj
def zA{P:Bx}{w:Bj}{K:Aa}{mg:Str->Option A7}{base:BI}{x qual Af FN:Str}{st:Be}{N Ai:List Str}{k:Nat}{m:B0}{C f:A8}{fd:GF}(fn:Nh K x qual st f fd)(HJ:G1 K Af C)(AO:Jf K C)(hm:Meth K C x f)(A0:Binds K fd (FN::Ai) [])(S:Cj N (FN::Ai) (C0 st))(h:∀(f:A8)(CG:A7)(A:CK)(outer:List Env)(s:AP)(H:AB)(E:DT),Cm k (A.deeper (Nw qual (C0 st) s.heap.objs.size f CG))->∀G0 H0,KQ (Jt H6 P w K mg base N qual (C0 st) f CG A outer s H E).Kw (Gv K G0 H0) (GS st) m) :
  Pj P w K mg base Af x Ai.length (k+1) (DZ N.length m):=by
 refine⟨C,f,fd,FN::Ai,HJ,AO,hm,fn.ok S ee λCG A outer s H vs Q E B5 AJ=>?_,A0⟩;obtain⟨G,Aj⟩:=bW AJ;exact⟨_,(h f CG A outer s H E B5 G H).1,Aj⟩
section
variable{X:Ac}{F:BA}{e a b c:AU}{A4:List AU}{pos p:Pos}{m n:Ae}{ma:B1}
noncomputable def SU:μ->R D
 |[.lst xs]=>.ok (.tup xs)
 |[.D1 xs]=>.ok (.tup xs)
 |[.tup xs]=>.ok (.tup xs)
 |_=>.bad
def aaF(Ap:F.K=X.K):Q6 F (λxs H Q=>∃p ys,xs=[.ref p]/\((CA X.K H p ys/\∀l,H l=none->Q (.ref l) (upd H l (.tup ys)))\/(CT X.K H p ys/\Q (.ref p) H))) SU:=by
 intro σ ρ G H xs ds Q r al k;unfold SU at k
 split at k
 .obtain⟨v,rfl,BD⟩:=al.one;erw[At]at BD;obtain⟨q,ys,rfl,AV,F7⟩:=BD;refine⟨q,ys,rfl,.inl ⟨CA.of (r.kp.sub _ _ AV),λl AN=>?_⟩⟩;refine k (.ref l) _ _ (r.lay AN) (C3.lay r.kp.sub AN) ?_;erw[At];exact⟨l,ys,rfl,Da,F7.mono (Sub.upd (r.kp.sub.gone AN))⟩
 .obtain⟨v,rfl,BD⟩:=al.one;erw[At]at BD;obtain⟨q,ys,rfl,AV,F7⟩:=BD;refine⟨q,ys,rfl,.inl ⟨by rw[<-Ap];exact CA.mono r.kp.sub AV,λl AN=>?_⟩⟩;refine k (.ref l) _ _ (r.lay AN) (C3.lay r.kp.sub AN) ?_;erw[At];exact⟨l,ys,rfl,Da,F7.mono (Sub.upd (r.kp.sub.gone AN))⟩
 .obtain⟨v,rfl,BD⟩:=al.one;have s_:=BD;erw[At]at BD;obtain⟨q,ys,rfl,AV,F7⟩:=BD;exact⟨q,ys,rfl,.inr ⟨CT.of (r.kp.sub _ _ AV),k _ H G r (C3.refl _ _) s_⟩⟩
 .exact k.elim
end
end CP
namespace DX
open PySem PyProof.Rows
section
variable{prog:Bx}{w:Bj}{A:CK}{E:A7->AP->Prop}{s:AP}
def sQ{t b:A8}{ws:List A7}{Q:A7->AP->Prop}(Aj:IsTup s.heap t ([]:List A7).toArray)(A0:IsTup s.heap b ws.toArray)(h:Q (.ref b) s):Ad (B2 prog w) A (JM .Add (.ref t) (.ref b)) Q E s:=by
 obtain⟨⟨cls,D7,data,C2⟩,ho,AO,n,hd⟩:=id Aj;obtain⟨⟨rl,Yw,data2,au⟩,Ra,F2,D8,hd2⟩:=id A0;simp only at AO hd F2 hd2;subst AO hd F2 hd2
 exact concat_meets ⟨_,ho,rfl⟩ ⟨_,Ra,rfl⟩ fZ seq_tuple_add f7 fE (fC _ _)
  (tuple_addW0 t b ([]:List A7).toArray ws.toArray n D8 D7 Yw C2 au γ) ⟨ho,Ra,h⟩
end
end DX
namespace Bs
open PySem PySem.Spec PyProof.Rows
variable{X:Ac}
def nF(K:Aa):Ek:=λx y H Q=>∃a b ys,x=.ref a/\y=.ref b/\CT K H a []/\CT K H b ys/\Q (.ref b) H
def zl:E5 X (JM .Add) (nF X.K):=by intro pins s σ H x y v u Q I BR Bt h;obtain⟨a,b,ys,rfl,rfl,AD,A0,q⟩:=h;cases BR;cases Bt;obtain⟨its,AK,EA,_⟩:=I.tuple AD;cases AK;obtain⟨IE,B7,Cw,_⟩:=I.tuple A0;exact DX.sQ EA Cw ⟨.ref b,H,I,rfl,q⟩
end Bs
namespace CP
open PySem PySem.Spec Bs PyProof.Rows
section
variable{X:Ac}{F:BA}{e a b c:AU}{A4:List AU}{pos p:Pos}{m n:Ae}{ma:B1}
noncomputable def VW:D->D->R D
 |.tup xs,.tup ys=>if xs.length+ys.length<=1000000 then .ok (.tup (xs++ys))else .bad
 |_,_=>.bad
def aa7(Ap:F.K=X.K):Hl F (λx y H Q=>nE X.K x y H Q\/nF X.K x y H Q) VW:=by
 intro σ ρ G H x y Ag Gs Q r Bn Cq k;unfold VW at k
 split at k
 .rename_i ds A4;have Uc:=Bn;have sa:=Cq;erw[At]at Bn Cq
  split at k
  .rename_i AN;obtain⟨p,xs,rfl,A6,Ak⟩:=Bn;obtain⟨Cw,ys,rfl,AA,BC⟩:=Cq;by_cases AG:xs=[]
   .subst AG;refine .inr ⟨p,Cw,ys,rfl,rfl,CT.of (r.kp.sub _ _ A6),CT.of (r.kp.sub _ _ AA),?_⟩;have e:ds=[]:=qM (by rw[Ak.length];rfl);subst e;exact k _ H G r (C3.refl _ _) sa
   .refine .inl ⟨p,Cw,xs,ys,rfl,rfl,CT.of (r.kp.sub _ _ A6),CT.of (r.kp.sub _ _ AA),AG,by rw[<-Ak.length,<-BC.length];exact FF AN ε,λBa=>?_,λ_ l AQ=>?_⟩
    .subst Ba;have e:A4=[]:=qM (by rw[BC.length];rfl);subst e;rw[LO]at k;exact k _ H G r (C3.refl _ _) Uc
    .refine k (.ref l) _ _ (r.lay AQ) (C3.lay r.kp.sub AQ) ?_;erw[At];exact⟨l,xs++ys,rfl,Da,(Ak.append BC).mono (Sub.upd (r.kp.sub.gone AQ))⟩
  .exact k.elim
 .exact k.elim
noncomputable def I7(d:D)(l h:Option Int):R D:=match d with
 |.tup xs=>if DX.Ca xs.length 0 l=0/\DX.Ca xs.length xs.length h=xs.length then .bad else .ok (.tup (Ed xs l h))
 |_=>.bad
def xi(Ap:F.K=X.K){lo AC:MW}:Ej (Cx F (EV I7 m lo AC)) (ew (nN X.K) (Cx F m) (Vl F lo) (Vl F AC)):=by
 delta EV r;refine rb h λd As h x H1 Ah AK s1 Bn=>?_;refine⟨Ah,ρ,AK,?_⟩;refine rb h λl el h Am CL B7 s2=>?_;refine⟨CL,ρ,B7,?_⟩;refine rb h λu OR h Cb Ga DW s3=>?_;have up:=(s1.trans s2).trans s3;have KS:=(Bn.mono s2.g).mono s3.g;cases d with
 |tup ds=>
  erw[I7]at h
  split at h
  .exact h.elim
  .rename_i hw;erw[At]at KS;obtain⟨q,xs,rfl,AV,F7⟩:=KS;rw[F7.length]at hw;refine⟨q,xs,rfl,CT.of (DW.kp.sub _ _ AV),hw,λKD AQ=>?_⟩;refine h (.ref KD) _ _ (DW.lay AQ) (up.trans (C3.lay DW.kp.sub AQ)) ?_;erw[At];exact⟨KD,_,rfl,Da,(F7.cut l u).mono (Sub.upd (DW.kp.sub.gone AQ))⟩
 |_=>cases h
noncomputable instance(i j:Int):Decidable (IntMulOk i j):=by unfold IntMulOk;infer_instance
end
section
variable{X:Ac}{F:BA}{e a b c:AU}{A4:List AU}{pos p:Pos}{m n:Ae}{ma:B1}
noncomputable def T1(i:Nat)(m:Ae):B1:=λρ=>(ownAt i ρ).bind λds=>(m ρ).bind λd=>match d with
 |.lst A4=>if ds.length+A4.length<=1000000 then .ok (ds++A4)else .bad
 |_=>.bad
end
end CP
namespace CP
open PySem PySem.Spec Bs
section
variable{X:Ac}{F:BA}{e a b c o Bw iter elt:AU}{A4:List AU}{pos p:Pos}{m n:Ae}{ma:B1}{st:Be}{SQ:List Be}
def qB{Af f:Str}{Ar:List Str}(k:Nd X.K Af Ar)(he:B8 X F o m)(hf:f∈Ar:=by decide+kernel)(Ap:F.K=X.K:=by rfl)(A0:Hw o f X.env (BJ o X.env)=BJ o X.env:=by rfl):B8 X F (.Attribute o f pos) (C4 (Dw Af f) m):=⟨by
 have he:=he.1;refine Av.imp (dK he A0) ?_;delta C4 r
 revert h;refine λg=>rb g λd As h x H1 Ah AK s1 Bn=>?_
 cases d with
 |ins Em ns ds=>
  erw[Dw]at h
  split at h
  .rename_i AO;subst AO
   split at h
   .rename_i d' AN;erw[At]at Bn;obtain⟨q,Ag,xs,rfl,⟨C,BW,g1⟩,rfl,al⟩:=Bn;obtain⟨v,BN,BD⟩:=kn al AN;obtain⟨KL,Cg,By,Fm⟩:=k.ex;rw[Ap]at BW;have:=BW.inj Cg;subst this;exact⟨q,C,Ag,xs,v,rfl,AK.kp.sub _ _ g1,By,Fm f hf,BN,h v H1 Ah AK s1 BD⟩
   .exact h.elim
  .exact h.elim
 |_=>exact h.elim⟩
def afI {Af mt:Str} {n k:Nat} {BQ:μ->R C5} {pl:Sem Bool} {apos:Pos} (c:Pj X.prog X.w X.K X.mg X.base Af mt n k BQ) (B5:Cm k X.A) (he:B8 X F o m) (AD:GJ X F (e::A4) ma) (KA:F.EX=λ_ _=>False:=by rfl) (Ap:F.K=X.K:=by rfl) (Oe:BF (e::A4) X.env=(false,BJ e X.env)::BF A4 X.env:=by rfl) (Dx:(D4 pos (BF A4 X.env)).any (·.1)=false:=by rfl) (Aj:BJ (.Call (.Attribute o mt apos) (e::A4) [] pos) X.env=(do
   let D6 <-BJ o X.env
   N2 apos.atName
   let(f,first) <-K6 [D6] (PS D6 mt pl)
   R7 pos f first (D4 pos (BF (e::A4) X.env)) (H5 pos (H3 [] X.env))):=by rfl):B8 X F (.Call (.Attribute o mt apos) (e::A4) [] pos) (Il Af mt n BQ m ma):=⟨by
 have he:=he.1;have AD:=AD.1;obtain⟨C,f,fd,Ai,BW,Ea,HA,Gu,A0⟩:=c.ex;refine Av.imp (lz (pl:=pl) he Ea HA Gu B5 A0 .nil QD AD Oe Dx Aj) ?_;rw[<-Ap];exact w4 KA (by rw[Ap];exact BW)⟩
def aij(BM:X.A.units+64<DS)(AD:B8 X F a m)(A0:B8 X F b n)(A6:Ir .In b=false:=by with_unfolding_all rfl):B8 X F (.Compare a [.In] [b] pos) (A3 (Fb true) m n):=⟨have AD:=AD.1;have A0:=A0.1;Av.imp (abW (lp δ AD A0) A6) jb⟩
def ah4(BM:X.A.units+64<DS)(AD:B8 X F a m)(A0:B8 X F b n)(A6:Ir .In b=false:=by with_unfolding_all rfl):Ft X F (.Compare a [.In] [b] pos) (Ax (A3 (Fb true) m n)):=⟨by
 have AD:=AD.1;have A0:=A0.1;refine F_.imp (lY (lp δ AD A0) A6) λσ H Q h=>?_;obtain⟨G,ρ,r,k⟩:=YT σ H Q h;exact jb σ H _ ⟨G,ρ,r,k⟩⟩
def ah5(BM:X.A.units+64<DS)(AD:B8 X F a m)(A0:B8 X F b n)(A6:Ir .NotIn b=false:=by with_unfolding_all rfl):Ft X F (.Compare a [.NotIn] [b] pos) (Ax (A3 (Fb false) m n)):=⟨by
 have AD:=AD.1;have A0:=A0.1;refine F_.imp (lY (abQ δ AD A0) A6) λσ H Q h=>?_;obtain⟨G,ρ,r,k⟩:=YT σ H Q h;exact wP σ H _ ⟨G,ρ,r,k⟩⟩
def afr(i:Nat){x:Str}{p q:Pos}(hN:X.N.Nodup)(AC:X.N[i]?=some x:=by rfl)(AG:Loc X.env.scope x:=by first|exact Dh rfl|exact Cp rfl)(hf:X.fn x=true\/X.env.scope.names.lookup x=some .local:=by first|exact .inl rfl|exact .inr rfl):Ep X F (.Assign [.Name x p] (.Dict [] [] q) pos) (Kq i):=⟨by
 refine DO.imp (RT hN AC AG lu (Lv _ _ _ _ rfl) hf) ?_;delta Kq;intro a AD
 split at h
 .rename_i AN;refine h _ G _ ((r.lay0 AD).setB AN Da (r.kp.sub.gone AD) (r.kp.B4.gone AD) ⟨[],rfl,rfl,.nil⟩ λj A4 o _ A9 AH f=>Cc.fresh r (Sub.upd AD) AD ⟨j,A4,o,A9,AH,f⟩) (Sub.refl _)
 .exact h.elim⟩
def pj(e a b:AU)(p:Pos)(l:Nat)(env:Env):O6 e (some (.Subscript a b p)) l env=pure false:=by cases e<;>rfl
theorem aa{K:Aa}{G:AB}{BY:Bf}{d:D}{v:V}(BD:At K G d v):∀{xs:List (Bf×V)}{ds:μ},AW K G ds (xs.map (·.2))->AW K G (SK (xs.map (·.1)) ds BY d) ((xs.map λD2=>if D2.1=BY then(D2.1,v)else D2).map (·.2))
 |[],ds,h=>by cases ds<;>exact .nil
 |(k,u)::xs,[],h=>by simp[AW]at h
 |(k,u)::xs,e::ds,h=>by
  erw[Du,AW,PK]at h;obtain⟨_,_,⟨rfl,rfl⟩,A6,AA⟩:=h;erw[Du,SK];by_cases q:k=BY
  .rw[if_pos q,if_pos q];exact .cons BD (aa BD AA)
  .rw[if_neg q,if_neg q];exact .cons A6 (aa BD AA)
def ag9(i:Nat){x:Str}{Cn pos':Pos}{k v:AU}{mk mv:Ae}(BM:X.A.units+64<DS)(AE:B8 X F k mk)(BN:B8 X F v mv)(hN:X.N[i]?=some x:=by rfl)(Re:Gp X.env.scope x:=by rw?)(hd:ζ:=by decide)(DV:(x==("__classdict__" :Str))=false:=by decide):Ep X F (.Assign [.Subscript (.Name x Cn) k pos'] v pos) (Ht i mk mv):=⟨by
 have AE:=AE.1;have BN:=BN.1;refine DO.imp (mA δ (IM hN Re hd DV) AE BN (pj _ _ _ _ _ _)) ?_;delta Ht;refine⟨G,ρ,r,?_⟩;refine rb h λPw As h v H1 Ah AK s1 BD=>?_
 split at h
 .rename_i ks ds CR;obtain⟨q,ho,A9,_⟩:=AK.obj CR;refine⟨.ref q,A9,Ah,ρ,AK,?_⟩;refine rb h λLg BS h y Am CL B7 s2 Cq=>?_;obtain⟨Gf,EF,Ee,A6,AA,Ao,xs,rfl,rfl,al⟩:=B7.obj CR;rw[A9]at Ee;cases Ee
  split at h
  .rename_i BY DD;unfold putD at h
   split at h
   .rename_i AO;obtain⟨Jz,F2⟩:=AO;obtain⟨S3,rfl,V7⟩:=Oj DD Cq;have AQ:F5 xs BY=none:=by
     have:=Wg BY xs;rw[Jz]at this;exact Option.not_isSome_iff_eq_none.mp (by rw[this];exact Fy)
    refine⟨q,_,rfl,Pe.t A6 (No V7 B7.kp.sub) (LZ (F2:) ε),?_⟩;rw[dT _ AQ];refine h σ CL _ (B7.Tz CR A9 ⟨xs++[(BY,v)],rfl,γ,?_⟩) (s1.g.trans s2.g);rw[Hy];exact al.snoc (BD.mono s2.g)
   .split at h
    .rename_i AO;obtain⟨Jz,F2⟩:=AO;obtain⟨S3,rfl,V7⟩:=Oj DD Cq;refine⟨q,_,rfl,Pe.t A6 (No V7 B7.kp.sub) (LZ (F2:) ε),?_⟩;have BV:putK xs BY v=xs.map (λD2=>if D2.1=BY then(D2.1,v)else D2):=by
      unfold putK;rw[PQ]at Jz;exact if_pos Jz
     rw[BV];refine h σ CL _ (B7.Tz CR A9 ⟨_,rfl,?_,aa (BD.mono s2.g) al⟩) (s1.g.trans s2.g);rw[IU];refine List.map_congr_left λD2 _=>?_;show(if D2.1=BY then(D2.1,v)else D2).1=D2.1
     split<;>rfl
    .exact h.elim
  .exact h.elim
 .exact h.elim⟩
def afn(h:B8 X F e m):Ep X F (.Return (some e) pos) (JR m):=⟨by
 have h:=h.1;refine DO.imp (W3 h) ?_;delta JR;refine⟨_,_,r.plus,?_⟩;cases As:m (DG ρ)with
 |bad=>rw[As]at h;cases h
 |exc c=>rw[As]at h;exact h
 |ok d=>rw[As,R.EU]at h;exact λv H' G' BO s' a=>h v G' H' BO.kp a⟩
def ag6{st:Be}:Ep X F st c2:=⟨DO.imp lV λCC σ H⟨G,ρ,r,h⟩=>h.elim⟩
def af0(h:B8 X F e m):B8 X F e (Rk m):=⟨have h:=h.1;Av.imp h wD⟩
def afG{Af:Str}{n k:Nat}{BQ:μ->R (List Str×μ)}(c:h8 X.prog X.w X.K X.mg X.base Af n k BQ)(B5:Cm (k+1) X.A)(AD:GJ X F (e::A4) ma)(Ap:F.K=X.K:=by rfl)(A_:EE X Af:=by rfl)(GV:(Af==("__debug__" :Str))=false:=by decide)(he:BF (e::A4) X.env=(false,BJ e X.env)::BF A4 X.env:=by rfl)(Dx:(D4 pos (BF A4 X.env)).any (·.1)=false:=by rfl):B8 X F (.Call (.Name Af p) (e::A4) [] pos) (Tl Af n BQ ma):=⟨by
 have AD:=AD.1;obtain⟨C,f,fd,Ai,BW,Ea,Gu,hm,A0⟩:=c.ex;refine Av.imp (ly Ea Gu B5 A_ hm A0 .nil QD AD GV he Dx) ?_;rw[<-Ap];exact w2 (by rw[Ap];exact BW)⟩
def agS(hm:X.mg "tuple"=none)(AD:GJ X F [e] ma)(Ap:F.K=X.K:=by rfl)(A_:EE X "tuple":=by rfl)(he:BF [e] X.env=(false,BJ e X.env)::BF [] X.env:=by rfl)(Dx:(D4 pos (BF [] X.env)).any (·.1)=false:=by rfl):B8 X F (.Call (.Name "tuple" p) [e] [] pos) (Bz SU ma):=⟨have AD:=AD.1;bq sM (aaF Ap) hm (by kernel_rfl) AD A_ ε ε he Dx⟩
def af3(AD:B8 X F a m)(A0:B8 X F b n)(Ap:F.K=X.K:=by rfl):B8 X F (.BinOp a .Add b pos) (A3 VW m n):=⟨have AD:=AD.1;have A0:=A0.1;Pz (aaK.or zl) (aa7 Ap) AD A0⟩
def agM{lo AC:Option AU}{Cw:Pos}{MQ Qj:MW}(AD:B8 X F a m)(AN:Po X F lo MQ)(B4:Po X F AC Qj)(Ap:F.K=X.K:=by rfl):B8 X F (.Subscript a (.Slice lo AC none Cw) pos) (EV I7 m MQ Qj):=⟨have AD:=AD.1;have AN:=AN.1;have B4:=B4.1;Av.imp (dM pR AD AN B4) (xi Ap)⟩
def agh(i:Nat){x:Str}{Cn:Pos}(A0:B8 X F b m)(hN:X.N[i]?=some x:=by rfl)(BN:Gp X.env.scope x:=by rw?)(hd:ζ:=by decide)(DV:(x==("__classdict__" :Str))=false:=by decide):KR X F (.BinOp (.Name x Cn) .Add b pos) (T1 i m):=⟨by
 have A0:=A0.1;refine Av.imp (dL e3 (IM hN BN hd DV) A0) ?_;rintro σ H Q ⟨G,ρ,r,h⟩;unfold T1 ownAt at h;cases CR:ρ[i]? with
 |none=>rw[CR]at h;cases h
 |some s=>
  rw[CR]at h;cases s with
  |un=>cases h
  |A2 _=>cases h
  |Eg _=>cases h
  |Bg _ _=>cases h
  |ob ob=>
   cases ob with
   |An _ _=>cases h
   |ins _ _ _=>cases h
   |lst ds=>
    obtain⟨q,xs,A9,A6,AA,Ao,BG⟩:=r.own CR;rw[R.EU]at h;refine⟨.ref q,A9,G,ρ,r,?_⟩;refine rb h λd As h v H1 Ah AK s1 BD=>?_;obtain⟨Gf,Gj,Ee,J0,OX,Q2,HI⟩:=AK.own CR;rw[A9]at Ee;cases Ee;cases d with
    |lst A4=>
     simp only at h
     split at h
     .rename_i AN;erw[At]at BD;obtain⟨Cw,ys,rfl,g2,BC⟩:=BD;refine⟨q,Cw,Gj,ys,rfl,rfl,J0,AK.kp.sub _ _ g2,by rw[<-HI.length,<-BC.length];exact FF AN ε,λl AQ=>?_⟩;exact h l (Gj++ys) _ Ah (AK.lay0 AQ) (s1.trans (C3.lay0 AQ)) (s1.h.gone AQ) Da (AK.kp.sub.gone AQ) (HI.append BC)
     .exact h.elim
    |_=>exact h.elim⟩
structure Xd(X:Ac)(F:BA)(st:Be)(m:Ji):Prop where
 o:DO X st (PB F m)
structure YK(X:Ac)(F:BA)(st:List Be)(m:Ji):Prop where
 o:GP X st (PB F m)
def agd{m:Ji}(h:Xd X F st m):YK X F [st] m:=⟨dS h.1⟩
def aga{a b:Ji}(h:Xd X F st a)(k:YK X F SQ b):YK X F (st::SQ) (NZ a b):=⟨GP.imp (lW h.1 k.1) xk⟩
def agc{c:AU}{r:Be}{k:Ck}(h:Ft X F c k):Xd X F (.If c [r] [] pos) (Qb k):=⟨DO.imp (lU h.1 (dS lV) lX) wV⟩
def agb{Af f x:Str}{Ar:List Str}{Cn pos':Pos}(k:Nd X.K Af Ar)(he:B8 X F e m)(hf:f∈Ar:=by decide+kernel)(hN:X.N[0]?=some x:=by rfl)(BN:Gp X.env.scope x:=by rw?)(hd:ζ:=by decide)(DV:(x==("__classdict__" :Str))=false:=by decide)(AJ:Oz e=true:=by rfl)(Ap:F.K=X.K:=by rfl) :
  Xd X F (.Assign [.Attribute (.Name x Cn) f pos'] e pos) (Kp Af f m):=⟨CP.abp k he.1 hf hN BN hd DV AJ Ap⟩
end
structure Ou(K:Aa)(Af x qual:Str)(st:Be)(Ai:List Str):Prop where
 ex:∃(C f:A8)(fd:GF),G1 K Af C/\Jf K C/\Meth K C x f/\Nh K x qual st f fd/\Binds K fd Ai []
structure InK(K:Aa)(mg:Str->Option A7)(Af qual:Str)(st:Be)(Ai:List Str):Prop where
 ex:∃(C f:A8)(fd:GF),G1 K Af C/\Uk K C f/\Nh K "__init__" qual st f fd/\mg Af=some (.ref C)/\Binds K fd Ai []
def aP{P:Bx}{w:Bj}{K:Aa}{mg:Str->Option A7}{base:BI}{x qual Af FN:Str}{st:Be}{N Ai:List Str}{k:Nat}{m:B0}(d:Ou K Af x qual st (FN::Ai))(S:Cj N (FN::Ai) (C0 st))(h:∀(f:A8)(CG:A7)(A:CK)(outer:List Env)(s:AP)(H:AB)(E:DT),Cm k (A.deeper (Nw qual (C0 st) s.heap.objs.size f CG))->∀G0 H0,KQ (Jt H6 P w K mg base N qual (C0 st) f CG A outer s H E).Kw (Gv K G0 H0) (GS st) m) :
  Pj P w K mg base Af x Ai.length (k+1) (DZ N.length m):=by
 obtain⟨C,f,fd,A6,AA,Ao,BG,Er⟩:=d.ex;exact zA BG A6 AA Ao Er S h
def agX{P:Bx}{w:Bj}{K:Aa}{mg:Str->Option A7}{base:BI}{qual Af FN:Str}{st:Be}{Ai:List Str}{k:Nat}{m:Ji}(d:InK K mg Af qual st (FN::Ai))(S:Cj (FN::Ai) (FN::Ai) (C0 st))(h:∀(f:A8)(CG:A7)(A:CK)(outer:List Env)(s:AP)(H:AB)(E:DT),Cm k (A.deeper (Nw qual (C0 st) s.heap.objs.size f CG))->∀G0 H0,YK (Jt H6 P w K mg base (FN::Ai) qual (C0 st) f CG A outer s H E).Kw (Gv K G0 H0) (GS st) m) :
  h8 P w K mg base Af Ai.length (k+1) (λA4=>outI Af (m (Kl Af A4))):=by
 obtain⟨C,f,fd,A6,AA,Ao,BG,Er⟩:=d.ex;exact⟨C,f,fd,FN::Ai,A6,AA,xW Ao S λf CG A outer s H E B5 G0 H0=>(h f CG A outer s H E B5 G0 H0).1,BG,Er⟩
end CP
namespace CP
open PySem PySem.Spec Bs PyProof.Rows
section
variable{K:Aa}{G G' H H':AB}
def Bu.nil:Bu K G H [] []:=by erw[Bu]
def Bu.cons{t:T}{Aw:List T}{v:V}{vs:List V}(h:Ch K G H t v)(k:Bu K G H Aw vs):Bu K G H (t::Aw) (v::vs):=by erw[Bu];exact⟨v,vs,rfl,h,k⟩
theorem Bu.length:∀{Aw:List T}{vs:List V},Bu K G H Aw vs->Aw.length=vs.length
 |[],_,h=>by erw[Bu]at h;subst h;rfl
 |_::_,_,h=>by erw[Bu]at h;obtain⟨v,r,rfl,_,t⟩:=h;simp[Bu.length t]
theorem pM:∀{Aw:List T}{vs:List V}{i:Nat}{t:T},Bu K G H Aw vs->Aw[i]?=some t->∃v,vs[i]?=some v/\Ch K G H t v
 |[],_,_,_,_,e=>by simp at e
 |_::_,_,0,_,h,e=>by erw[Bu]at h;obtain⟨v,r,rfl,q,t⟩:=h;simp at e;subst e;exact⟨v,γ,q⟩
 |_::_,_,i+1,d,h,e=>by erw[Bu]at h;obtain⟨v,r,rfl,q,t⟩:=h;obtain⟨u,A6,AA⟩:=pM (i:=i) (t:=d) t (e:);exact⟨u,(A6:),AA⟩
theorem Bu.append:∀{Aw us:List T}{vs ws:List V},Bu K G H Aw vs->Bu K G H us ws->Bu K G H (Aw++us) (vs++ws)/\E6 H (Aw++us) (vs++ws)=E6 H Aw vs++E6 H us ws
 |[],_,_,_,h,t=>by erw[Bu]at h;subst h;exact⟨t,by rw[TM];rfl⟩
 |_::_,_,_,_,h,t=>by erw[Bu]at h;obtain⟨v,r,rfl,q,s⟩:=h;obtain⟨A6,AA⟩:=Bu.append s t;exact⟨.cons q A6,by rw[List.cons_append,List.cons_append,Ho,Ho,AA,O1]⟩
theorem bL:∀{Aw:List T}{xs:List V}{k:Nat}{t:T}{v:V}{b:A8},Aw[k]?=some t->xs[k]?=some v->b∈Al H t v->b∈E6 H Aw xs
 |[],_,_,_,_,_,e,_,_=>by simp at e
 |_::_,[],_,_,_,_,_,e,_=>by simp at e
 |_::_,_::_,0,_,_,_,A9,AH,h=>by simp at A9 AH;subst A9 AH;rw[Ho];exact FZ _ h
 |_::_,_::_,k+1,_,_,_,A9,AH,h=>by rw[Ho];exact Fz _ (bL (A9:) (AH:) h)
end
section
variable{F:BA}{G H:AB}{σ :Bs.St}{ρ:AI}
end
section
variable{X:Ac}{F:BA}{e a b c Bw iter elt:AU}{A4:List AU}{pos p:Pos}{m n:Ae}{ma:B1}
end
end CP
namespace CP
open PySem PySem.Spec Bs
section
variable{F:BA}
end
section
variable{X:Ac}{F:BA}{e a b c Bw iter elt:AU}{A4:List AU}{pos p:Pos}{m n:Ae}{ma:B1}{scope:E8}{N:List Str}
end
noncomputable def QV(c:Ck)(b:B0):Nat->AI->R FQ
 |0,_=>.bad
 |n+1,ρ=>(c ρ).bind λk=>if k=true then(b ρ).bind λf=>match f with
  |.B6 BL=>QV c b n BL
  |.Dn BL=>QV c b n BL
  |.Fu BL=>.ok (.B6 BL)
  |f=>.ok f
  else .ok (.B6 ρ)
def JS(c:Ck)(b:B0):B0:=QV c b 1000
section
variable{F:BA}
def xp{c:Ck}{b:B0}:I0 (Fq F (JS c b)) (pF (HO F c) (Fq F b)):=by
 rintro CC σ H ⟨G,ρ,r,h⟩;refine⟨λm σ2 Am=>∃CL Eu,Rel F CL Am σ2 Eu/\Sub G CL/\Fe F CL CC (QV c b m Eu),⟨1000,G,ρ,r,Sub.refl _,h⟩,?_⟩;rintro m σ2 Am ⟨CL,Eu,B7,s2,By⟩;refine⟨CL,Eu,B7,?_⟩;cases m with
 |zero=>cases By
 |succ n=>
  erw[QV]at By;refine rb By λk ec By Cb Ga DW Nq=>?_;cases k with
  |false=>rw[if_neg Fy]at By |-;exact By σ2 Ga Cb DW Nq.g
  |true=>
   rw[if_pos rfl]at By |-;refine⟨λσ4 Hc=>∃Ug Je,Rel F Ug Hc σ4 Je/\Sub G Ug/\Fe F Ug CC (QV c b n Je),λσ4 Hc q=>⟨n,fY _,q⟩,Ga,Eu,DW,?_⟩;refine rb By λf BS By=>?_;cases f with
   |B6 PE=>exact λσ7 MU Gn J_ Ce=>⟨MU,PE,J_,s2.trans (Nq.g.trans Ce),Fe.mono (Nq.g.trans Ce) By⟩
   |Dn PE=>exact λσ7 MU Gn J_ Ce=>⟨MU,PE,J_,s2.trans (Nq.g.trans Ce),Fe.mono (Nq.g.trans Ce) By⟩
   |Fu PE=>exact λσ7 MU Gn J_ Ce=>By σ7 MU Gn J_ (Nq.g.trans Ce)
   |EP d=>exact By
   |Ja ds=>exact By
   |Lq t=>exact By
   |rs t _=>exact By
end
section
variable{X:Ac}{F:BA}{e a b c o:AU}{A4:List AU}{pos p:Pos}{m n:Ae}{ma:B1}
def ah1{body:List Be}{ZO:Ck}{HK:B0}(AZ:PassesOwn (B2 X.prog X.w) X.A X.env X.xe)(AO:Ft X F c ZO)(A0:KQ X F body HK):Ep X F (.While c body [] pos) (JS ZO HK):=⟨DO.imp (acJ AZ AO.1 A0.1) xp⟩
noncomputable def findD(ks:List Bf)(ds:μ)(BY:Bf):Option D:=((ks.zip ds).find? λp=>decide (p.1=BY)).map (·.2)
theorem Vh{K:Aa}{G:AB}(BY:Bf):∀{ds:μ}{xs:List (Bf×V)},AW K G ds (xs.map (·.2))->match findD (xs.map (·.1)) ds BY with
  |some d=>∃v,F5 xs BY=some v/\At K G d v
  |none=>F5 xs BY=none
 |[],xs,h=>by
  erw[AW]at h;have:xs=[]:=(h:)
  subst this;rfl
 |d::ds,[],h=>by erw[AW,O5]at h;obtain⟨v,r,e,_⟩:=h;cases e
 |d::ds,(k,v)::xs,h=>by
  erw[AW,Du]at h;obtain⟨Nt,r,e,a,t⟩:=h;cases e;have Bh:=Vh (K:=K) (G:=G) BY (ds:=ds) (xs:=xs) t;unfold findD F5 at Bh |-;erw[Du,K5,IV];by_cases AE:k=BY
  .erw[AE,decide_true,fU];exact⟨v,rfl,a⟩
  .erw[AE,decide_false];exact Bh
noncomputable def WP(m n:Ae):Ae:=λρ=>(m ρ).bind λd=>match d with
 |.An ks ds=>(n ρ).bind λk=>match Ik k with
  |some BY=>.ok ((findD ks ds BY).getD .non)
  |none=>.bad
 |_=>.bad
def wN:Ej (Cx F (WP m n)) (p1 (Cx F m) (Cx F n)):=by
 delta WP r;refine rb h λD7 As h x H1 Ah AK s1 Bn=>?_;cases D7 with
 |An ks ds=>
  simp only at h;erw[At]at Bn;obtain⟨a,xs,rfl,A_,rfl,al⟩:=Bn;refine⟨a,rfl,.inr ⟨xs,.inl (AK.kp.sub _ _ A_)⟩,Ah,ρ,AK,?_⟩;refine rb h λLg BS h y Am CL B7 s2 Cq=>?_;cases DD:Ik Lg with
  |none=>rw[DD]at h;cases h
  |some BY=>
   rw[DD]at h;simp only at h;obtain⟨q,rfl,AV⟩:=Oj DD Cq;refine⟨F5 xs BY,J8.t (B7.kp.sub _ _ (s2.g _ _ A_)) (No AV B7.kp.sub),?_⟩;have f:=Vh (K:=F.K) (G:=Ah) BY al;cases Cr:findD (xs.map (·.1)) ds BY with
   |none=>rw[Cr]at f h;rw[show F5 xs BY=none from f];exact h .non Am CL B7 (s1.trans s2) (by erw[X5,At])
   |some d=>rw[Cr]at f h;obtain⟨v,ev,BD⟩:=f;rw[ev];exact h v Am CL B7 (s1.trans s2) (BD.mono s2.g)
 |_=>cases h
def af5 {apos Bv:Pos} (BM:X.A.units+64<DS) (ho:B8 X F o m) (he:B8 X F e n) (A6:Hw o "get" X.env (BJ o X.env)=BJ o X.env:=by rfl)(AA:((D4 Bv (BF [e] X.env)).all (λx=>!x.1)&&(H5 Bv (H3 [] X.env)).all (λx=>x.1.isSome)
  &&decide (([e]:List AU).length+([]:List FP).length+(if([]:List FP).isEmpty then 0 else 1)<30))=true:=by rfl) (Ao:(apos.endLine==Bv.line)=true:=by rfl) (BG:D4 Bv (BF [e] X.env)=[(false,BJ e X.env)]:=by rfl) :
  B8 X F (.Call (.Attribute o "get" apos) [e] [] Bv) (WP m n):=⟨Av.imp (ab_ δ ho.1 he.1 ⟨A6,AA,Ao,BG⟩) wN⟩
noncomputable def Gq(d k:D):R D:=match d with
 |.An ks ds=>match Ik k with
  |some BY=>match findD ks ds BY with
   |some v=>.ok v
   |none=>.bad
  |none=>.bad
 |_=>.bad
def wO:Ej (Cx F (A3 Gq m n)) (p0 (Cx F m) (Cx F n)):=by
 delta A3 r;refine rb h λD7 As h x H1 Ah AK s1 Bn=>?_;refine⟨Ah,ρ,AK,?_⟩;refine rb h λLg BS h y Am CL B7 s2 Cq=>?_;unfold Gq at h
 split at h
 .rename_i ks ds
  split at h
  .rename_i BY DD;erw[At]at Bn;obtain⟨a,xs,rfl,A_,rfl,al⟩:=Bn;obtain⟨q,rfl,AV⟩:=Oj DD Cq;have f:=Vh (K:=F.K) (G:=Ah) BY al
   split at h
   .rename_i d Cr;rw[Cr]at f;obtain⟨v,ev,BD⟩:=f;refine⟨a,v,rfl,?_,h v Am CL B7 (s1.trans s2) (BD.mono s2.g)⟩;rw[<-ev];exact J8.t (B7.kp.sub _ _ (s2.g _ _ A_)) (No AV B7.kp.sub)
   .exact h.elim
  .exact h.elim
 .exact h.elim
def af7(BM:X.A.units+64<DS)(ho:B8 X F o m)(he:B8 X F e n)(AJ:YD e):B8 X F (.Subscript o e pos) (A3 Gq m n):=⟨Av.imp (lr δ ho.1 he.1 AJ) wO⟩
end
section
variable{K:Aa}{G0 H0:AB}{E:DT}
end
section
variable{X:Ac}{e c:AU}{A4:List AU}{st:Be}{pos p:Pos}{K:Aa}{G0 H0:AB}{E:DT}{mt:Ck}{ms:B0}{ma:B1}
end
section
variable{P:Bx}{w:Bj}{K:Aa}{mg:Str->Option A7}{base:BI}{N:List Str}{qual:Str}{scope:E8}{f:A8}{cd:A7}{A:CK}{outer:List Env}{s0:AP}{T4:AB}{E:DT}{G0 H0:AB}
end
section
variable{X:Ac}{F:BA}{e:AU}{A4:List AU}{pos p:Pos}{ma:B1}
end
end CP
namespace Bs
open PySem PySem.Spec PySem.Calls PyProof.Rows PySem.W PySem.Builtin PySem.Builtin.ObjectAttr PySem.Builtin.Getset_descriptor
section
variable{prog:Bx}{w:Bj}{A:CK}{E:A7->AP->Prop}{s:AP}{K:Frag}{a D:A8}
end
end Bs
namespace CP
open PySem PySem.Spec Bs
section
variable{X:Ac}{F:BA}{a:AU}{pos p:Pos}{m:Ae}
end
noncomputable def QF:D->D->R D
 |.lst xs,.int k=>if 0<=k/\k<=1000/\xs.length<=100 then .ok (.lst (ES k.toNat xs).flatten)else .bad
 |_,_=>.bad
theorem AW.rep{K:Aa}{G:AB}{ds:μ}{xs:List V}(q:AW K G ds xs):∀n:Nat,AW K G (ES n ds).flatten (ES n xs).flatten
 |0=>(AW.nil:)
 |n+1=>by rw[Qu,Qu,Qp,Qp];exact q.append (AW.rep q n)
section
variable{X:Ac}{F:BA}{a b:AU}{pos p:Pos}{m n:Ae}
def aaC:Hl F nK QF:=by
 intro σ ρ G H x y Ag Gs Q r Bn Cq k;unfold QF at k
 split at k
 .rename_i xs j
  split at k
  .rename_i AO;erw[At]at Bn Cq;obtain⟨l,vs,rfl,AN,al⟩:=Bn;refine⟨l,j,vs,rfl,Cq,r.kp.sub _ _ AN,δ,δ,?_,λq AV=>?_⟩
   .rw[<-al.length];have A6:j.toNat<=1000:=δ
    exact FF (Nat.mul_le_mul AO.2.2 A6) ε
   .refine k (.ref q) _ _ (r.lay AV) (C3.lay r.kp.sub AV) ?_;erw[At];exact⟨q,_,rfl,Da,(al.mono (Sub.upd (r.kp.sub.gone AV))).rep j.toNat⟩
  .exact k.elim
 .exact k.elim
def aet(AD:B8 X F a m)(A0:B8 X F b n):B8 X F (.BinOp a .Mult b pos) (A3 QF m n):=⟨Pz aaL aaC AD.1 A0.1⟩
def abM{i:Nat}{ρ:AI}{ds:μ}(h:ownAt i ρ=.ok ds):ρ[i]?=some (.Bm ds):=by
 unfold ownAt at h
 split at h
 .rename_i e;cases h;exact e
 .cases h
def abL{i:Nat}{ρ:AI}{c:Str}(h:ownAt i ρ=.exc c):False:=by
 unfold ownAt at h
 split at h<;>cases h
end
end CP
namespace XY
open PySem PySem.SetTable
structure Tab(t:SetTable)(n:Nat):Prop where
 ahS:t.dummies= #[]
 ail:t.place.size=n
 ac8:t.place.toList.Pairwise (· <·)
 le:∀j∈t.place.toList,j<=t.mask
section
variable{α:Type}
def Uf(t:SetTable)(A4:Array (Int×α))(j:Nat)(e:Int×α):Prop:=∃i:Nat,t.place.toList[i]?=some j/\A4.toList[i]?=some e
def aal{t:SetTable}{n:Nat}(T:Tab t n){i k j:Nat}(a:t.place.toList[i]?=some j)(b:t.place.toList[k]?=some j):i=k:=by
 obtain⟨a1,a2⟩:=List.getElem?_eq_some_iff.mp a;obtain⟨FU,G3⟩:=List.getElem?_eq_some_iff.mp b;have r:=List.pairwise_iff_getElem.mp T.ac8;rcases Nat.lt_trichotomy i k with h|h|h
 .have:=r i k a1 FU h;lia
 .exact h
 .have:=r k i FU a1 h;lia
def Uf.inj{t:SetTable}{A4:Array (Int×α)}{n:Nat}(T:Tab t n){j:Nat}{e CQ:Int×α}(a:Uf t A4 j e)(b:Uf t A4 j CQ):e=CQ:=by obtain⟨i,a1,a2⟩:=a;obtain⟨k,FU,G3⟩:=b;have:=aal T a1 FU;subst this;rw[a2]at G3;exact Ey G3
end
section
variable{α:Type}
end
section
variable{prog:Bx}{w:Bj}{A:CK}{E:A7->AP->Prop}{s:AP}{K:Type}[DecidableEq K]{knd:KeyKind prog w K}
end
section
variable{prog:Bx}{w:Bj}{A:CK}{E:A7->AP->Prop}{s:AP}{K:Type}[DecidableEq K]{knd:KeyKind prog w K}
theorem Uf.place{t:SetTable}{A4:Array (Int×A7)}{j:Nat}{e:Int×A7}(q:Uf t A4 j e):j∈t.place.toList:=by obtain⟨i,q,_⟩:=q;exact Hd q
end
section
variable{prog:Bx}{w:Bj}{A:CK}{E:A7->AP->Prop}{s:AP}{K:Type}[DecidableEq K]{knd:KeyKind prog w K}
end
end XY
namespace XY
open PySem PySem.Spec PyProof.Rows
section
variable{prog:Bx}{w:Bj}{K:Type}[DecidableEq K]{knd:g7 prog w K}
noncomputable def th(S:List (List K))(ks:List K):List (List K):=if ks∈S then S else S++[ks]
noncomputable def ti(keys:List (List K)):List (List K):=keys.foldl th []
section
variable{A:CK}{R:Result->AP->Prop}{I:A8}{Al wr:List A8}{G:Array GenState->Array GenState->Prop}{n:Nat}{P:Nat->A7->Prop}{St:Nat->AP->Prop}
end
end
section
variable{prog:Bx}{w:Bj}{A:CK}{E:A7->AP->Prop}{s:AP}{K:Type}[DecidableEq K]{knd:g7 prog w K}
end
end XY
namespace LT
open PySem PyProof.Rows
structure Fs(kd:L_)(CF:Array K7)(st:GO):Prop where
 k:JO st=kd
 p:(Bq st).Perm CF
 n:O7 st= #[]
 f:Sq st=none
def Fs.Lw{kd:L_}{CF:Array K7}{st:GO}(b:Fs kd CF st):(Bq st).size=CF.size:=b.p.size_eq
def Fs.to{kd:L_}{CF:Array K7}{st:GO}(b:Fs kd CF st){xs:Array K7}(q:xs.Perm (Bq st)):Fs kd CF (setArr st xs):=⟨b.k,q.trans b.p,b.n,b.f⟩
structure Nf(prog:Bx)(w:Bj)(A:CK)(s:AP)(kd:L_)(κ:KeyKind)(CF:Array K7):Prop where
 lt:∀(E:A7->AP->Prop)(x y:K7){Q:Bool->AP->Prop},x∈CF.toList->y∈CF.toList->Q (κ.blt ((κ.keyOf x.1).getD κ.dflt) ((κ.keyOf y.1).getD κ.dflt)) s->Ad (B2 prog w) A (keyLt' kd x.1 y.1) Q E s
section
variable{prog:Bx}{w:Bj}{A:CK}{E:A7->AP->Prop}{s:AP}{CF:Array K7}{κ:KeyKind}{kd:L_}
def Fs.at{st:GO}(b:Fs kd CF st){i:Nat}(AC:i<CF.size):∃x,(Bq st)[i]?=some x/\x∈CF.toList/\KK κ (Bq st) i=(κ.keyOf x.1).getD κ.dflt:=by
 have g:i<(Bq st).size:=by rw[b.Lw];exact AC
 have e:=getElem?_pos (Bq st) i g;refine⟨_,e,(Array.perm_iff_toList_perm.mp b.p).mem_iff.mp γ,?_⟩;unfold KK;rw[e]
def WN(C:Nf prog w A s kd κ CF){st:GO}(b:Fs kd CF st){i j:Nat}{Q:Option Bool->GO->Prop}(AC:i<CF.size)(Bi:j<CF.size)(h:Q (some (κ.blt (KK κ (Bq st) i) (KK κ (Bq st) j))) st):wpS (B2 prog w) A E s (ltAt' i j) Q st:=by obtain⟨x,FX,FD,GZ⟩:=b.at (κ:=κ) AC;obtain⟨y,I9,Iq,SY⟩:=b.at (κ:=κ) Bi;rw[GZ,SY]at h;rw[ltAt'_eq];refine Ev (wpS_get ?_);show wpS _ _ _ _ (elem' (Bq st) i>>=λx=>elem' (Bq st) j>>=λy=>lt' x y) Q st;rw[elem'_eq,FX,elem'_eq,I9];refine Ev (Gc (Ev (Gc ?_)));rw[lt'_eq];refine Ev (wpS_get (Ev (wpS_lift (Qw ?_))));rw[b.k];exact C.lt _ x y FD Iq ⟨rfl,Gc h⟩
def ox{xs:Array K7}:Gb κ xs 1:=λi j a c=>by
 have:i=j:=δ
 subst this;exact R0 _
def aeG{xs:Array K7}{n:Nat}(h:Gb κ xs n)(q:κ.kle (KK κ xs (n-1)) (KK κ xs n)):Gb κ xs (n+1):=λi j a c=>by
 by_cases e:j<n
 .exact h i j a e
 have e:j=n:=δ
 subst e;by_cases g:i=j
 .subst g;exact R0 _
 .exact X7 (h i (j-1) δ δ) q
def Yx{xs:Array K7}{n:Nat}(h:NonIncK κ xs n)(q:κ.kle (KK κ xs n) (KK κ xs (n-1))):NonIncK κ xs (n+1):=λi j a c=>by
 by_cases e:j<n
 .exact h i j a e
 have e:j=n:=δ
 subst e;by_cases g:i=j
 .subst g;exact R0 _
 .exact X7 q (h i (j-1) δ δ)
def NonIncK.same{xs ys:Array K7}{n:Nat}(h:NonIncK κ xs n)(e:∀k,KK κ ys k=KK κ xs k):NonIncK κ ys n:=λi j a c=>by rw[e,e];exact h i j a c
def hs(C:Nf prog w A s kd κ CF){st:GO}{a EY:Nat}{Q:AscSt->GO->Prop}(AQ:EY<=CF.size)(AD:1<=a)(an:a<=EY)(b:Fs kd CF st)(AJ:Gb κ (Bq st) a)(h:∀n,a<=n->n<=EY->Gb κ (Bq st) n->(n<EY->κ.klt (KK κ (Bq st) n) (KK κ (Bq st) (n-1)))->Q (none,n) st):wpS (B2 prog w) A E s (ascLoop a EY) Q st:=by
 unfold ascLoop;refine Sm (I:=λx c t=>t=st/\c=(none,x)/\Gb κ (Bq st) x) ?_ ?_ ⟨rfl,rfl,AJ⟩
 .rintro x c t g1 g2 ⟨rfl,rfl,g3⟩;dsimp only;refine Ev (WN C b δ δ ?_);cases e:κ.blt (KK κ (Bq t) x) (KK κ (Bq t) (x-1))with
  |true=>exact Gc (h x g1 δ g3 λ_=>e)
  |false=>exact Gc ⟨rfl,rfl,aeG g3 e⟩
 .rintro c t ⟨rfl,rfl,g⟩;have em:max a EY=EY:=δ
  rw[em]at g |-;exact h EY an (CY _) g λz=>absurd z (K3 _)
def pG(C:Nf prog w A s kd κ CF){st:GO}{n EY:Nat}{Q:Option Nat->GO->Prop}(AQ:EY<=CF.size)(A6:1<=n)(nn:n<=EY)(b:Fs kd CF st)(AJ:NonIncK κ (Bq st) n)(h:∀m t,Fs kd CF t->m<=EY->Gb κ (Bq t) m->Q (some m) t):wpS (B2 prog w) A E s (tail3 n EY) Q st:=by
 have Aq:n<=(Bq st).size:=by rw[b.Lw];lia
 have Jr:Fs kd CF (setArr st (mirror (Bq st) 0 n ((n-0)/2))):=b.to (XW _ _ _ _);unfold tail3;refine Ev (XX (Ev (hs C AQ A6 nn Jr (λi j g1 g2=>?_) λm Hr HZ Zx _=>Gc (h m _ Jr HZ Zx))));show κ.kle (KK κ (mirror (Bq st) 0 n ((n-0)/2)) i) (KK κ (mirror (Bq st) 0 n ((n-0)/2)) j);rw[KK_mirror Aq,KK_mirror Aq,if_pos ⟨IT _,δ⟩,if_pos ⟨IT _,g2⟩];exact AJ _ _ δ δ
def Flat(κ:KeyKind)(xs:Array K7)(m q:Nat):Prop:=q+1<=m/\∀i,m-(q+1)<=i->i<m->KK κ xs i=KK κ xs (m-1)
def bJ{xs:Array K7}{m:Nat}(h:1<=m):Flat κ xs m 0:=⟨h,λi a c=>by
 have:i=m-1:=δ
 rw[this]⟩
def tl(C:Nf prog w A s kd κ CF){st:GO}{n EY:Nat}{Q:DescSt->GO->Prop}(AQ:EY<=CF.size)(A6:1<=n)(nn:n<=EY)(b:Fs kd CF st)(AJ:NonIncK κ (Bq st) n)(h:∀m q t,Fs kd CF t->n<=m->m<=EY->NonIncK κ (Bq t) m->Flat κ (Bq t) m q->Q (none,m,q) t):wpS (B2 prog w) A E s (descLoop n EY) Q st:=by
 unfold descLoop;refine Sm (I:=λx c t=>∃q,c=(none,x,q)/\Fs kd CF t/\NonIncK κ (Bq t) x/\Flat κ (Bq t) x q) ?_ ?_ ⟨0,rfl,b,AJ,bJ A6⟩
 .rintro x c t g1 g2 ⟨q,rfl,b,g3,g4⟩;dsimp only;have Aq:x<=(Bq t).size:=by rw[b.Lw];lia
  refine Ev (WN C b δ δ ?_);cases e:κ.blt (KK κ (Bq t) x) (KK κ (Bq t) (x-1))with
  |true=>
   have up:=Yx g3 (XE e);dsimp only;rw[if_pos rfl];by_cases z:q>0
   .rw[if_pos z];exact Ev (XX (Gc ⟨0,rfl,b.to (XW _ _ _ _),NonIncK.same up (fV Aq g4.2),bJ δ⟩))
   .rw[if_neg z];exact Gc ⟨0,rfl,b,up,bJ δ⟩
  |false=>
   dsimp only;rw[if_neg γ];refine Ev (WN C b δ δ ?_);cases CQ:κ.blt (KK κ (Bq t) (x-1)) (KK κ (Bq t) x)with
   |true=>exact Gc (h x q t b g1 δ g3 g4)
   |false=>
    have bt:KK κ (Bq t) x=KK κ (Bq t) (x-1):=r0 CQ e;refine Gc ⟨q+1,rfl,b,Yx g3 CQ,by have:=g4.1;lia,λi a c=>?_⟩;rw[show x+1-1=x by lia];by_cases w:i=x
    .rw[w]
    .rw[bt];exact g4.2 i δ δ
 .rintro c t ⟨q,rfl,b,g3,g4⟩;have em:max n EY=EY:=δ
  rw[em]at g3 g4 |-;exact h EY q t b nn (CY _) g3 g4
def jO(C:Nf prog w A s kd κ CF){st:GO}{n EY:Nat}{Q:Option Nat->GO->Prop}(AQ:EY<=CF.size)(nn:n+1<=EY)(b:Fs kd CF st)(AJ:NonIncK κ (Bq st) (n+1))(h:∀m t,Fs kd CF t->m<=EY->Gb κ (Bq t) m->Q (some m) t):wpS (B2 prog w) A E s (descPart n EY) Q st:=by
 unfold descPart;refine Ev (wpS_lift (Kb ⟨rfl,Ev (tl C AQ δ nn b AJ λm q t Jr Hr HZ g1 g2=>?_)⟩));dsimp only;have Aq:m<=(Bq t).size:=by rw[Jr.Lw];lia
 by_cases z:q>0
 .rw[if_pos z];exact Ev (XX (pG C AQ δ HZ (Jr.to (XW _ _ _ _)) (NonIncK.same g1 (fV Aq g2.2)) h))
 .rw[if_neg z];exact pG C AQ δ HZ Jr g1 h
def acF(C:Nf prog w A s kd κ CF){st:GO}{EY:Nat}{Q:Option Nat->GO->Prop}(AQ:EY<=CF.size)(A6:1<=EY)(b:Fs kd CF st)(h:∀m t,Fs kd CF t->m<=EY->Gb κ (Bq t) m->Q (some m) t) :
  wpS (B2 prog w) A E s (countRun' 0 EY) Q st:=by
 rw[countRun0_eq];refine Ev (hs C AQ (CY 1) A6 b ox λn Cv D8 g1 g2=>?_);dsimp only;by_cases e:n=EY
 .rw[if_pos (e:)];exact Gc (h n st b D8 g1)
 rw[if_neg (e:)];have g2:=g2 δ;have Aq:n<=(Bq st).size:=by rw[b.Lw];lia
 by_cases z:n>1
 .rw[if_pos z];refine Ev (WN C b δ δ ?_);cases CQ:κ.blt (KK κ (Bq st) 0) (KK κ (Bq st) (n-1))with
  |true=>exact Gc (h n st b D8 g1)
  |false=>
   dsimp only;rw[if_neg γ];have HV:∀k,0<=k->k<n->KK κ (Bq st) k=KK κ (Bq st) (n-1):=λk _ AE=>
    r0 (g1 k (n-1) δ δ) (X7 CQ (g1 0 k (IT _) AE))
   have S9:NonIncK κ (Bq st) n:=λi j a c=>by rw[HV i (IT _) δ,HV j (IT _) c];exact R0 _
   exact Ev (XX (jO C AQ δ (b.to (XW _ _ _ _)) (NonIncK.same (Yx S9 (XE g2)) (fV Aq HV)) h))
 .rw[if_neg z];have A9:n=1:=δ
  subst A9;exact jO C AQ δ b (Yx (λi j a c=>by
   have:i=j:=δ
   subst this;exact R0 _) (XE g2)) h
def sr(C:Nf prog w A s kd κ CF){st:GO}{n ok:Nat}{Q:Bool->GO->Prop}(AQ:n<=CF.size)(AE:ok<=n)(b:Fs kd CF st)(AJ:Gb κ (Bq st) ok)(h:∀t,Fs kd CF t->Gb κ (Bq t) n->Q true t):wpS (B2 prog w) A E s (binarySort' 0 n ok) Q st:=by
 rw[binarySort'_eq];erw[XH];refine Ev (wpS_mono (Sm (I:=λk c t=>c=(none,())/\Fs kd CF t/\Gb κ (Bq t) (min k n)) (Q:=λc t=>c=(none,())/\Fs kd CF t/\Gb κ (Bq t) n) ?_ ?_ ?_) ?_)
 .rintro k c t Cg By ⟨rfl,b,g⟩;have DD:min k n=k:=δ
  rw[DD]at g;have Aq:k<(Bq t).size:=by rw[b.Lw];lia
  refine Ev (wpS_mono (Sm (I:=λx c u=>u=t/\∃l r,c=(none,l,r)/\l<=r/\r<=k/\r-l<=k-x/\(∀i,i<l->κ.kle (KK κ (Bq t) i) (KK κ (Bq t) k))/\∀i,r<=i->i<k->κ.klt (KK κ (Bq t) k) (KK κ (Bq t) i))
   (Q:=λc u=>u=t/\∃l r,c=(none,l,r)/\l<=k/\(∀i,i<l->κ.kle (KK κ (Bq t) i) (KK κ (Bq t) k))/\∀i,l<=i->i<k->κ.klt (KK κ (Bq t) k) (KK κ (Bq t) i)) ?_ ?_ ⟨rfl,0,k,rfl,δ,δ,δ,λi z=>δ,λi z FY=>δ⟩) ?_)
  .rintro x c u _ FD ⟨rfl,l,r,rfl,G8,Dp,WJ,lo,AC⟩;dsimp only;by_cases z:l≥r
   .rw[if_pos z];have e:l=r:=δ
    subst e;exact Gc ⟨rfl,l,l,rfl,Dp,lo,AC⟩
   rw[if_neg z];refine Ev (WN C b δ δ ?_);cases e:κ.blt (KK κ (Bq u) k) (KK κ (Bq u) ((l+r)/2))with
   |true=>exact Gc ⟨rfl,l,(l+r)/2,rfl,δ,δ,δ,lo,λi a c=>KeyOrd.klt_of_klt_of_kle e (g _ _ a c)⟩
   |false=>exact Gc ⟨rfl,(l+r)/2+1,r,rfl,δ,δ,δ,λi a=>X7 (g i ((l+r)/2) δ δ) (show κ.kle _ _ from e),AC⟩
  .rintro c u ⟨rfl,l,r,rfl,G8,Dp,WJ,lo,AC⟩;have e:l=r:=δ
   subst e;exact⟨rfl,l,l,rfl,Dp,lo,AC⟩
  .rintro c u ⟨rfl,l,r,rfl,G8,lo,AC⟩;show wpS _ _ _ _ (moveDown' k l>>=λ_=>pure (O3 (none,()))) _ _;rw[moveDown'_eq];refine Ev (wpS_modify (Gc ⟨rfl,b.to (bubble_perm _ _ _),?_⟩));rw[show min (k+1) n=k+1 by lia];intro i j aht cC;show κ.kle (KK κ (bubble (Bq u) k (k-l)) i) (KK κ (bubble (Bq u) k (k-l)) j);rw[KK_bubble Aq δ,KK_bubble Aq δ,show k-(k-l)=l by lia]
   repeat' split
   all_goals first|lia|exact R0 _|exact lo _ δ|exact XE (AC _ δ δ)|exact g _ _ δ δ
 .rintro c t ⟨rfl,b,g⟩;rw[show min (max (max ok 1) n) n=n by lia]at g;exact⟨rfl,b,g⟩
 .refine⟨rfl,b,?_⟩;by_cases z:ok=0
  .subst z;intro i j a c;exact ox i j a δ
  .rw[show min (max ok 1) n=ok by lia];exact AJ
 .rintro c t ⟨rfl,b,g⟩;exact Gc (h t b g)
def acG(C:Nf prog w A s kd κ CF){st:GO}{Q:Unit->GO->Prop}(b:Fs kd CF st)(AA:2<=CF.size)(Yc:CF.size<64)(h:∀t,(Bq t).Perm CF->Sq t=none->Gb κ (Bq t) CF.size->Q () t):wpS (B2 prog w) A E s sortRuns' Q st:=by
 rw[sortRuns'_eq];refine Ev (wpS_get ?_);dsimp only;have ZS:minRun' CF.size CF.size 0=CF.size:=by
  obtain⟨f,hf⟩:∃f,CF.size=f+1:=⟨CF.size-1,δ⟩;have:minRun' (f+1) CF.size 0=CF.size:=by rw[minRun'_succ,if_pos Yc,Nat.add_zero]
  rwa [<-hf]at this
 erw[b.Lw,ZS]
 refine Ev (wpS_mono (Sm (I:=λx c t=>(x=0/\c=(none,0)/\Fs kd CF t)\/(1<=x/\c=(none,CF.size)/\(Bq t).Perm CF/\Sq t=none/\O7 t= #[(0,CF.size,0)]/\Gb κ (Bq t) CF.size))
  (Q:=λc t=>c=(none,CF.size)/\(Bq t).Perm CF/\Sq t=none/\O7 t= #[(0,CF.size,0)]/\Gb κ (Bq t) CF.size) ?_ ?_ (.inl ⟨rfl,rfl,b⟩)) ?_)
 .have last:∀t,Fs kd CF t->Gb κ (Bq t) CF.size->(Bq (setPending t ((O7 t).push (0,CF.size,0)))).Perm CF/\Sq (setPending t ((O7 t).push (0,CF.size,0)))=none/\O7 (setPending t ((O7 t).push (0,CF.size,0)))= #[(0,CF.size,0)]/\Gb κ (Bq (setPending t ((O7 t).push (0,CF.size,0)))) CF.size:=
    λt b g=>⟨b.p,b.f,by show(O7 t).push _=_;rw[b.n];rfl,g⟩
  rintro x c t _ FD (⟨rfl,rfl,b⟩|⟨FX,rfl,g⟩)
  .dsimp only;rw[if_neg δ];erw[XI,Nat.min_self,XH];refine Ev (acF C (CY _) δ b λm t b Hr g=>?_);dsimp only;by_cases z:m<CF.size
   .rw[if_pos z];refine Ev (wpS_lift (Kb ⟨rfl,Ev (sr C (CY _) Hr b g λu b g=>?_)⟩));erw[PO,Hg,if_false];refine Ev (wpS_get ?_);rw[b.n];exact Ev (wpS_modify (Gc (.inr ⟨δ,rfl,last u b g⟩)))
   .rw[if_neg z];have e:m=CF.size:=δ
    subst e;refine Ev (wpS_get ?_);rw[b.n];exact Ev (wpS_modify (Gc (.inr ⟨δ,rfl,last t b g⟩)))
  .dsimp only;rw[if_pos (CY _)];exact Gc ⟨rfl,g⟩
 .rintro c t (⟨z,_,_⟩|⟨_,e,g⟩)
  .lia
  .exact⟨e,g⟩
 .rintro c t ⟨rfl,g1,g2,g3,g4⟩;dsimp only;refine Ev (wpS_mono (Sm (I:=λ_ c u=>u=t/\c=(none,())) (Q:=λc u=>u=t/\c=(none,())) ?_ (λ_ _ z=>z) ⟨rfl,rfl⟩) ?_)
  .rintro x c u _ _ ⟨rfl,rfl⟩;refine Ev (wpS_get ?_);rw[if_pos (by rw[g3];exact CY 1)];exact Gc ⟨rfl,rfl⟩
  .rintro c u ⟨rfl,rfl⟩;exact Gc (h _ g1 g2 g4)
end
noncomputable def ltI:List Int->List Int->Bool
 |[],[]=>false
 |[],_::_=>true
 |_::_,[]=>false
 |a::x,b::y=>if a=b then ltI x y else decide (a<b)
theorem c1:∀a,ltI a a=false
 |[]=>rfl
 |_::x=>by simp[ltI,c1 x]
theorem Zv:∀a b c,ltI a b=true->ltI b c=true->ltI a c=true
 |[],[],_,h,_=>by cases h
 |[],_::_,[],_,h=>by cases h
 |[],_::_,_::_,_,_=>rfl
 |_::_,[],_,h,_=>by cases h
 |_::_,_::_,[],_,h=>by cases h
 |a::x,b::y,c::z,A6,AA=>by
  erw[ltI]at A6 AA |-;by_cases A9:a=b
  .subst A9;rw[if_pos rfl]at A6;by_cases AH:a=c
   .subst AH;rw[if_pos rfl]at AA |-;exact Zv x y z A6 AA
   .rw[if_neg AH]at AA |-;exact AA
  .rw[if_neg A9]at A6;have A6:=of_decide_eq_true A6;by_cases AH:b=c
   .subst AH;rw[if_neg A9];exact decide_eq_true A6
   .rw[if_neg AH]at AA;have AA:=of_decide_eq_true AA;rw[if_neg δ];exact decide_eq_true δ
theorem Zu:∀a b,ltI a b=false->ltI b a=false->a=b
 |[],[],_,_=>rfl
 |[],_::_,h,_=>by cases h
 |_::_,[],_,h=>by cases h
 |a::x,b::y,A6,AA=>by
  erw[ltI]at A6 AA;by_cases e:a=b
  .subst e;rw[if_pos rfl]at A6 AA;rw[Zu x y A6 AA]
  .rw[if_neg e]at A6;rw[if_neg (λz=>e z.symm)]at AA;have A6:=of_decide_eq_false A6;have AA:=of_decide_eq_false AA;exact absurd δ e
def kv(a b c:List Int)(h:ltI a c=true):ltI a b=true\/ltI b c=true:=by
 cases A9:ltI a b with
 |true=>exact .inl rfl
 |false=>
  cases AH:ltI b c with
  |true=>exact .inr rfl
  |false=>
   exfalso;cases Au:ltI b a with
   |true=>rw[Zv b a c Au h]at AH;cases AH
   |false=>rw[Zu a b A9 Au,AH]at h;cases h
section
variable{prog:Bx}{w:Bj}{A:CK}{E:A7->AP->Prop}{s:AP}
def nQ{a b:Int}{t u:Tok}{Q:A7->AP->Prop}(h:Q (.bool (decide (a<b))) s):Ad (B2 prog w) A (richCompare .Lt (.int a t) (.int b u)) Q E s:=
 wpAny_richCompare_same (op:=.Lt) (UV s a t) (UV s b u) slot_int_lt (call_int_lt ⟨(λe=>nomatch e),h⟩)
structure h6(prog:Bx)(w:Bj)(h:BI)(v:A7)(k:Int×Int×Int):Prop where
 ex:∃a o m b t,v=.ref a/\h.get? a=some o/\o.cls=.type "tuple"/\o.data=.seq #[.int k.1 t,.ref b] m/\IsTupleKey (intKind prog w) h [k.2.1,k.2.2] b
noncomputable def HF(k:Int×Int×Int):List Int:=[k.1,k.2.1,k.2.2]
theorem h6.inj{h:BI}{v:A7}{k k':Int×Int×Int}(x:h6 prog w h v k)(y:h6 prog w h v k'):k=k':=by obtain⟨a,o,m,b,t,rfl,ho,AO,hd,A0⟩:=x.ex;obtain⟨Jq,o',Dg,Jr,t',e,EF,M0,Fw,V6⟩:=y.ex;cases e;rw[ho]at EF;cases EF;rw[hd]at Fw;simp at Fw;obtain⟨⟨⟨A9,_⟩,rfl⟩,_⟩:=Fw;have AH:=A0.inj V6;simp at AH;obtain⟨Cg,By,Fm⟩:=k;obtain⟨xU,yP,yQ⟩:=k';simp at A9 AH |-;exact⟨A9,AH⟩
def cH(b:Bool)(x y:A7):keyLt' (RA b) x y=(do
  let xs <-qf x;let ys <-qf y
  for ((p,q),i) in(xs.toList.zip ys.toList).zipIdx do
   if !(<-eqBool p q)then return <-oneLt' (b&&i==0) p q
  return xs.size<ys.size):=rfl
def mV{x y:A7}{Q:Bool->AP->Prop}(h:Ad (B2 prog w) A (richCompare .Lt x y) (λv s'=>∃c,v=.bool c/\Q c s') E s):Ad (B2 prog w) A (oneLt' false x y) Q E s:=by rw[oneLt'_eq];erw[Hg,if_false];refine AL (Iv h (λv s'⟨c,e,q⟩=>?_) λ_ _ e=>e);subst e;exact LM q
noncomputable def dE:KeyOrd:=⟨List Int,ltI,c1,Zv,kv,Zu⟩
theorem c4{β:Type}{f:A7->Sem β}{g:A7->β}:∀{vs:List A7}{Q:List β->AP->Prop},(∀v∈vs,∀(R:β->AP->Prop),R (g v) s->Ad (B2 prog w) A (f v) R E s)->Q (vs.map g) s->Ad (B2 prog w) A (vs.mapM f) Q E s
 |[],Q,_,h=>by rw[List.mapM_nil];exact Ay h
 |v::vs,Q,hf,h=>by rw[List.mapM_cons];refine AL (hf v γ _ (AL (c4 (λu BM=>hf u (by simp[BM])) (Ay h))))
def y4{vs:List A7}{g:A7->A7}{T:String}{Q:L_->AP->Prop}(AQ:vs≠[])(A6:∀v∈vs,∃a o m r,v=.ref a/\s.heap.get? a=some o/\o.cls=.type "tuple"/\o.data=.seq (g v::r).toArray m)(AA:∀v∈vs,s.TypeIs (g v) T)(h:Q (RA (O4 T !=.type "tuple")) s) :
  Ad (B2 prog w) A (keyKind' vs.toArray) Q E s:=by
 rw[keyKind'_eq,List.mapM_toArray];rw[map_eq_pure_bind];refine AL (AL (c4 (g:=λv=>some (g v)) (λv BN R KB=>?_) (Ay ?_)))
 .obtain⟨a,o,m,r,rfl,ho,AO,hd⟩:=A6 v BN;show Ad _ _ (typeOf (.ref a)>>=_) R E s;refine AL (UT ⟨o,ho,AO⟩ ?_);rw[if_neg γ];refine AL (PR ho hd (Ay ?_));simpa using KB
 .rw[if_pos γ];refine AL (Kb ?_);have e:Array.filterMap id (vs.map λv=>some (g v)).toArray=(vs.map g).toArray:=γ
  rw[e,oneTypeOnly'_eq,List.mapM_toArray,map_eq_pure_bind];refine AL (AL (AL (c4 (g:=λ_=>.type T) (λv BN R KB=>?_) (Ay ?_))))
  .obtain⟨u,BM,rfl⟩:=List.mem_map.mp BN;exact UT (AA u BM) KB
  .obtain⟨v,r,rfl⟩:=List.exists_cons_of_ne_nil AQ;have DJ:(List.map (λ_=>O4 T) (List.map g (v::r))).toArray[0]?=some (.type T):=γ
   rw[DJ];dsimp only;rw[if_pos γ];exact Ay (Ay h)
end
section
variable{prog:Bx}{w:Bj}{A:CK}{E:A7->AP->Prop}{s:AP}
def adD{a:A8}{vs:List A7}{n:Nat}{κ:KeyKind}{kd:L_}{P:Fin->AP->Prop}(ho:s.heap.get? a=some (Iw "list" vs.toArray n))(Yc:vs.length<64)(AE:∀h':BI,(∀b o,b≠a->s.heap.get? b=some o->h'.get? b=some o)->vs≠[]->(∀R:L_->AP->Prop,R kd { s with heap:=h' }->Ad (B2 prog w) A (keyKind' vs.toArray) R E { s with heap:=h' })/\Nf prog w A { s with heap:=h' } kd κ (pairsOf vs))(h:∀t:GO,(Bq t).Perm (pairsOf vs)->Gb κ (Bq t) (pairsOf vs).size->P (.done (.ret .none)) { s with heap:=sortedHeap s.heap a vs ((Bq t).map (·.2)) }) :
  Ad (B2 prog w) A (MH.«list.sort» ⟨[.ref a],[]⟩) P E s:=by
 rw[list_sort_plain];have AD:a<s.heap.objs.size:=De ho;obtain⟨A9,g1⟩:∃A9,(s.heap.update a (Kd λ_=> #[])).get? a=some (Iw "list" #[] A9):=⟨_,get?_update_seq ho (λ_=> #[])⟩;refine AL (PR ho rfl (AL (listUpdate_at ho rfl (AL (seqEpoch_at g1 rfl (AL (g0 (AL (wpAny_newList (K2 ?_))))))))));have keep:∀b o,b≠a->s.heap.get? b=some o->(((s.heap.update a (Kd λ_=> #[])).push (Iw "tuple" vs.toArray 0)).push (Iw "list" #[] 0)).get? b=some o:=λb o nb e=>
  DM _ (DM _ (by rw[Heap.get?_update_ne _ _ _ _ nb];exact e))
 have OV:(((s.heap.update a (Kd λ_=> #[])).push (Iw "tuple" vs.toArray 0)).push (Iw "list" #[] 0)).get? a=some (Iw "list" #[] A9):=DM _ (DM _ g1);show Ad (B2 prog w) A _ P E { s with heap:=((s.heap.update a (Kd λ_=> #[])).push (Iw "tuple" vs.toArray 0)).push (Iw "list" #[] 0) };dsimp only;by_cases z:vs.toArray.size<2
 .rw[if_pos z,if_pos z];refine AL (Ay ?_);rw[StateT.run_pure];refine AL (Ay (AL (seqEpoch_at OV rfl (AL (listUpdate_at OV rfl ?_ (hsz2:=by rw[Array.size_map];show(pairsOf vs).size<=_;rw[UY,ME];lia))))));erw[bne_self_eq_false,Hg,if_false];refine Ay (h (SortSt.mk' general' (vs.toArray.zip vs.toArray) #[] 7 none) (qy _) λi j c d=>?_);have z:vs.length<2:=by simpa using z
  have:i=j:=by rw[UY]at d;lia
  subst this;exact R0 _
 .rw[if_neg z,if_neg z];have z:¬vs.length<2:=by simpa using z
  obtain⟨Cg,By⟩:=AE _ keep (by intro e;subst e;simp at z)
  refine AL (Cg _ (AL (Iv (acG (κ:=κ) By (st:=SortSt.mk' kd (vs.toArray.zip vs.toArray) #[] 7 none) (Q:=λ_ t=>(Bq t).Perm (pairsOf vs)/\Sq t=none/\Gb κ (Bq t) (pairsOf vs).size)
   ⟨rfl,qy _,rfl,rfl⟩ (by rw[UY];lia) (by rw[UY];exact Yc) λt a1 a2 I3=>⟨a1,a2,I3⟩) ?_ λ_ _ e=>e)))
  rintro⟨⟨⟩,t⟩ s' ⟨rfl,AZ,hf,AJ⟩;dsimp only;refine AL (seqEpoch_at OV rfl (AL (listUpdate_at OV rfl ?_ (hsz2:=by refine FF (fq ((Array.size_map ..).trans (AZ.size_eq.trans (UY _)))) ?_;rw[ME];lia))));rw[hf];erw[bne_self_eq_false,Hg,if_false];exact Ay (h t AZ AJ)
end
noncomputable def MN(a b:Int×Int×Int):Bool:=!ltI (HF b) (HF a)
noncomputable def Io(ks:List (Int×Int×Int)):List (Int×Int×Int):=ks.mergeSort MN
def Tc(ks:List (Int×Int×Int)):(Io ks).Perm ks:=List.mergeSort_perm _ _
def va{a b:Int×Int×Int}(h:HF a=HF b):a=b:=by obtain⟨a1,a2,I3⟩:=a;obtain⟨FU,G3,Xn⟩:=b;erw[HF,PK,and_true]at h;erw[g8];exact h
def kj(a b c:Int×Int×Int)(A6:MN a b=true)(AA:MN b c=true):MN a c=true:=by
 unfold MN at*;cases e:ltI (HF c) (HF a)with
 |false=>rfl
 |true=>
  rcases kv _ (HF b) _ e with z|z
  .rw[z]at AA;cases AA
  .rw[z]at A6;cases A6
def ki(a b:Int×Int×Int):(MN a b||MN b a)=true:=by
 unfold MN;cases e:ltI (HF b) (HF a)with
 |false=>rfl
 |true=>
  cases AH:ltI (HF a) (HF b)with
  |false=>rfl
  |true=>have:=Zv _ _ _ e AH;rw[c1]at this;cases this
def pZ{ks l:List (Int×Int×Int)}(p:l.Perm ks)(h:l.Pairwise λa b=>MN a b=true):l=Io ks:=
 List.Perm.eq_of_pairwise (le:=λa b=>MN a b=true) (λa b _ _ A6 AA=>by unfold MN at A6 AA;exact va (Zu _ _ (AA:) (A6:))) h (qa kj ki ks) (p.trans (Tc ks).symm)
def m4{κ:Type}(d:κ){R:A7->κ->Prop}{us:List A7}(h:∀v∈us,∃k,R v k):∃NU:A7->κ,∀v∈us,R v (NU v):=by
 classical
 exact⟨λv=>if q:∃k,R v k then qx q else d,λv BN=>by erw[dif_pos (h v BN)];exact fR (h v BN)⟩
def abG{κ:Type}(d:κ){R:A7->κ->Prop}{us:List A7}{ks:List κ}(inj:∀v k k',R v k->R v k'->k=k')(AQ:us.length=ks.length)(AE:∀(i:Nat) v k,us[i]?=some v->ks[i]?=some k->R v k):∃NU:A7->κ,(∀v∈us,R v (NU v))/\ks=us.map NU:=by
 obtain⟨NU,NO⟩:=m4 d (R:=R) (us:=us) λv BN=>by obtain⟨i,AC,rfl⟩:=Qv BN;exact⟨_,AE i _ _ (Dt AC) (Dt δ)⟩
 refine⟨NU,NO,fh λi=>?_⟩;rw[EC];cases e:us[i]? with
 |none=>rw[List.getElem?_eq_none_iff]at e;simp;lia
 |some v=>have AH:ks[i]?=some (ks[i]'(by have:=(List.getElem?_eq_some_iff.mp e).1;lia)):=Dt _;rw[AH,inj _ _ _ (AE i v _ e AH) (NO v (Hd e))];rfl
def acj{f:A7->Option (List Int)}{g:A7->List Int}{vs us:List A7}{u:GO}(pu:vs.Perm us)(A_:∀v∈us,f v=some (g v))(AZ:(Bq u).Perm (pairsOf vs))(AJ:Gb { dE with keyOf:=f,dflt:=[] } (Bq u) (pairsOf vs).size):∃Th:List A7,(Bq u).map (·.2)=Th.toArray/\Th.Perm us/\Th.Pairwise λa b=>(!ltI (g b) (g a))=true:=by
 have ku:(Bq u).toList.Perm (pairsOf vs).toList:=Array.perm_iff_toList_perm.mp AZ;have tF:∀p∈(Bq u).toList,p.1=p.2/\p.1∈us:=λp AZ=>by have AZ:=ku.mem_iff.mp AZ;rw[g6]at AZ;have:=mem_zip_self AZ;exact⟨this.1,pu.mem_iff.mp this.2⟩
 refine⟨(Bq u).toList.map (·.2),by apply Array.ext';simp,?_,?_⟩
 .have:=ku.map (·.2);rw[g6]at this;have e:∀l:List A7,(l.zip l).map (·.2)=l:=λl=>by induction l with
   |nil=>rfl
   |cons a l Bh=>simp[Bh]
  rw[e]at this;exact this.trans pu
 .rw[List.pairwise_map,List.pairwise_iff_getElem];intro i j AC Bi VC;have q:=AJ i j (Qy VC) (by rw[<-AZ.size_eq];simpa using Bi);have BY:∀n(AQ:n<(Bq u).size),KK { dE with keyOf:=f,dflt:=[] } (Bq u) n=g (Bq u)[n].2:=λn AQ=>by
   have m:=tF (Bq u)[n] γ;unfold KK;rw[UE AQ];show(f (Bq u)[n].1).getD _=_;rw[A_ _ m.2,m.1];rfl
  rw[BY i (AC:),BY j (Bi:)]at q;have q:ltI (g (Bq u)[j].2) (g (Bq u)[i].2)=false:=q;erw[Array.getElem_toList];rw[q];rfl
section
variable{prog:Bx}{w:Bj}{A:CK}{E:A7->AP->Prop}{s:AP}
end
end LT
namespace Bs
open PySem PySem.Spec PyProof.Rows
section
variable{X:Ac}
def h7(H:AB)(y:V)(k:Int×Int×Int):Prop:=∃a b,y=.ref a/\H a=some (.tup [.int k.1,.ref b])/\H b=some (.tup [.int k.2.1,.int k.2.2])
def h7.inj{H:AB}{y:V}{k k':Int×Int×Int}(x:h7 H y k)(z:h7 H y k'):k=k':=by obtain⟨a,b,rfl,AD,A0⟩:=x;obtain⟨Jq,Jr,e,OY,V6⟩:=z;cases e;rw[AD]at OY;erw[qw,DN.tup.injEq,PK,V.int.injEq,V.ref.injEq,and_true]at OY;obtain⟨A9,rfl⟩:=OY;rw[A0]at V6;erw[qw,DN.tup.injEq,PK,V.int.injEq,and_true]at V6;obtain⟨Cg,By,Fm⟩:=k;obtain⟨xU,yP,yQ⟩:=k';erw[g8];exact⟨A9,V6⟩
theorem q4{κ:Type}{R:V->κ->Prop}:∀{vs:List A7}{ks:List κ},vs.length=ks.length->(∀(i:Nat) v k,vs[i]?=some v->ks[i]?=some k->∃z,RelV z v/\R z k)->∃zs,Vals zs vs/\zs.length=vs.length/\∀(i:Nat) z k,zs[i]?=some z->ks[i]?=some k->R z k
 |[],_,_,_=>⟨[],.nil,rfl,λi z k e=>by simp at e⟩
 |v::vs,[],h,_=>by simp at h
 |v::vs,k::ks,h,g=>by
  obtain⟨z,Db,Dj⟩:=g 0 v k rfl rfl;obtain⟨zs,FC,Et,Jc⟩:=q4 (vs:=vs) (ks:=ks) (h:) λi v k A9 AH=>g (i+1) v k (A9:) (AH:);refine⟨z::zs,.cons Db FC,by simp[Et],λi FY k' A9 AH=>?_⟩;cases i with
  |zero=>simp at A9 AH;subst A9 AH;exact Dj
  |succ i=>exact Jc i FY k' (A9:) (AH:)
end
end Bs
namespace CP
open PySem PySem.Spec Bs PyProof.Rows
section
variable{X:Ac}{F:BA}{e a b c:AU}{A4:List AU}{pos p:Pos}{m n:Ae}{ma:B1}
noncomputable def yd:D->Option Key
 |.int i=>some (.inl i)
 |.str x=>some (.inr x)
 |_=>none
noncomputable def keysOf:μ->Option (List Key)
 |[]=>some []
 |d::ds=>match yd d,keysOf ds with
  |some k,some ks=>some (k::ks)
  |_,_=>none
noncomputable def ae2:D->Option (List Key)
 |.tup ds=>keysOf ds
 |_=>none
noncomputable def ot:μ->Option (List (List Key))
 |[]=>some []
 |d::ds=>match ae2 d,ot ds with
  |some k,some ks=>some (k::ks)
  |_,_=>none
noncomputable def ai3:μ->R D
 |[.lst ds]=>if ds.length<77 then match ot ds with
  |some ks=>.ok (.int (XY.ti ks).length)
  |none=>.bad
  else .bad
 |_=>.bad
noncomputable def WQ(i:Nat)(m:Ae):HQ:=λρ=>(ownAt i ρ).bind λds=>(m ρ).bind λd=>match d with
 |.lst A4=>if ds.length+A4.length<=1000000 then .ok (.non,ρ.set i (.Bm (ds++A4)))else .bad
 |_=>.bad
def aik (i:Nat) {x:Str} {Cn:Pos} {apos:Pos} {Bv:Pos} (he:B8 X F e m) (hN:X.N[i]?=some x:=by rfl) (BN:Gp X.env.scope x:=by rw?) (hd:ζ:=by decide) (DV:(x==("__classdict__" :Str))=false:=by decide)(Mf:Hw (.Name x Cn) "extend" X.env (BJ (.Name x Cn) X.env)=BJ (.Name x Cn) X.env:=by rfl) (Mi:(apos.endLine==Bv.line)=true:=by rfl)(Mh:((D4 Bv (BF [e] X.env)).all (λx=>!x.1)&&(H5 Bv (H3 [] X.env)).all (λx=>x.1.isSome)
    &&decide (([e]:List AU).length+([]:List FP).length+(if([]:List FP).isEmpty then 0 else 1)<30))=true:=by rfl)
  (AJ:BF [e] X.env=(false,BJ e X.env)::BF [] X.env:=by rfl) (MJ:(D4 Bv (BF [] X.env)).any (·.1)=false:=by rfl) :
  Pn X F (.Call (.Attribute (.Name x Cn) "extend" apos) [e] [] Bv) (WQ i m):=by
 refine⟨Av.imp (W1 U9 qo qp kV (IM hN BN hd DV) (QC he.1 RS AJ) Mf Mh Mi AJ MJ) ?_⟩;rintro σ H Q ⟨G,ρ,r,h⟩;unfold WQ ownAt at h;cases CR:ρ[i]? with
 |none=>rw[CR]at h;cases h
 |some s=>
  rw[CR]at h;cases s with
  |un=>cases h
  |A2 _=>cases h
  |Eg _=>cases h
  |Bg _ _=>cases h
  |ob ob=>
   cases ob with
   |An _ _=>cases h
   |ins _ _ _=>cases h
   |lst ds=>
    obtain⟨q,xs,A9,A6,AA,Ao,BG⟩:=r.own CR;rw[R.EU]at h;refine⟨.ref q,A9,.inl ⟨rfl,xs,CA.of A6⟩,G,ρ,r,?_⟩;refine rb h λd As h v H1 Ah AK s1 BD=>?_;obtain⟨Gf,Gj,Ee,J0,OX,Q2,HI⟩:=AK.own CR;rw[A9]at Ee;cases Ee;cases d with
    |lst A4=>
     simp only at h
     split at h
     .rename_i AN;erw[At]at BD;obtain⟨Cw,ys,rfl,g2,BC⟩:=BD;refine⟨q,Cw,Gj,ys,rfl,rfl,J0,AK.kp.sub _ _ g2,by rw[<-HI.length,<-BC.length,ME];lia,?_⟩;exact h .non _ Ah (AK.mut CR A9 (HI.append BC)) s1.g (by erw[At])
     .exact h.elim
    |_=>cases h
noncomputable def KG(m n:Ae):B1:=λρ=>(m ρ).bind λc=>(n ρ).bind λd=>match c,d with
 |.lst ds,.lst A4=>if ds.length+A4.length<=1000000 then .ok (ds++A4)else .bad
 |_,_=>.bad
def agg(AD:B8 X F a m)(A0:B8 X F b n):KR X F (.BinOp a .Add b pos) (KG m n):=by
 refine⟨Av.imp (dL e3 AD.1 A0.1) ?_⟩;delta KG r;refine rb h λc As h u H1 Ah AK s1 LB=>?_;refine⟨Ah,ρ,AK,?_⟩;refine rb h λd BS h v Am CL B7 s2 BD=>?_
 split at h
 .split at h
  .rename_i AN;erw[At]at LB BD;obtain⟨EA,xs,rfl,g1,Ak⟩:=LB;obtain⟨Cw,ys,rfl,g2,BC⟩:=BD;refine⟨EA,Cw,xs,ys,rfl,rfl,s2.h _ _ (AK.kp.sub _ _ g1),B7.kp.sub _ _ g2,by rw[<-Ak.length,<-BC.length,ME];lia,λKD AQ=>?_⟩;exact h KD (xs++ys) _ CL (B7.lay0 AQ) ((s1.trans s2).trans (C3.lay0 AQ)) ((s1.trans s2).h.gone AQ) Da (B7.kp.sub.gone AQ) ((Ak.mono s2.g).append BC)
  .exact h.elim
 .exact h.elim
noncomputable def Yr(k:Int×Int×Int):D:=.tup [.int k.1,.tup [.int k.2.1,.int k.2.2]]
theorem hu{K:Aa}{G:AB}:∀{ds:μ}{xs:List V},xs.length=ds.length->(∀(i:Nat) x d,xs[i]?=some x->ds[i]?=some d->At K G d x)->AW K G ds xs
 |[],[],_,_=>.nil
 |[],_::_,h,_=>by simp at h
 |_::_,[],h,_=>by simp at h
 |d::ds,x::xs,h,g=>.cons (g 0 x d rfl rfl) (hu (h:) λi x d A9 AH=>g (i+1) x d (A9:) (AH:))
end
section
variable{X:Ac}{F:BA}{e a b c:AU}{A4:List AU}{pos p:Pos}{m n:Ae}{ma:B1}
theorem AW.ni{K:Aa}{G:AB}:∀{ds:μ}{xs:List V}{j:Nat}{d:D}{v:V},AW K G ds xs->At K G d v->AW K G (ds.set j d) (xs.set j v)
 |[],_,_,_,_,h,_=>by erw[AW]at h;subst h;simp[AW]
 |_::_,_,0,_,_,h,a=>by erw[AW]at h;obtain⟨v,r,rfl,q,t⟩:=h;exact .cons a t
 |_::_,_,j+1,_,_,h,a=>by erw[AW]at h;obtain⟨v,r,rfl,q,t⟩:=h;exact .cons q (AW.ni t a)
noncomputable def putN(i:Nat)(ρ:AI)(ds:μ)(v:D):Option Nat->R FQ
 |some j=>.ok (.B6 (ρ.set i (.Bm (ds.set j v))))
 |none=>.bad
noncomputable def putK(i:Nat)(ρ:AI)(ds:μ)(v:D):D->R FQ
 |.int j=>putN i ρ ds v (Ii ds.length j)
 |_=>.bad
noncomputable def a4(i:Nat)(mk mv:Ae):B0:=λρ=>(mv ρ).bind λv=>(ownAt i ρ).bind λds=>(mk ρ).bind λk=>putK i ρ ds v k
def agI (i:Nat) {x:Str} {Cn pos':Pos} {k v:AU} {mk mv:Ae} (AE:B8 X F k mk) (BN:B8 X F v mv) (hN:X.N[i]?=some x:=by rfl) (Re:Gp X.env.scope x:=by rw?) (hd:ζ:=by decide) (DV:(x==("__classdict__" :Str))=false:=by decide)(AJ:swapsWithSole [.Subscript (.Name x Cn) k pos'] v pos.line X.env=pure false:=by rfl) (hw:swappedStores [.Subscript (.Name x Cn) k pos'] v X.env=pure none:=by rfl)(A6:(LU [.Subscript (.Name x Cn) k pos'] X.env).map (·.2)=[Kf (.Subscript (.Name x Cn) k pos') X.env]:=by rfl)(AD:∀u,Kf (.Subscript (.Name x Cn) k pos') X.env u=(do
    let D6 <-K6 [u] (BJ (.Name x Cn) X.env)
    let Fx <-K6 [u,D6] (BJ k X.env)
    N2 pos'
    K6 [u,D6,Fx] (setItem D6 Fx u)
    release [u,D6,Fx] []):=by intro _;rfl) :
  Ep X F (.Assign [.Subscript (.Name x Cn) k pos'] v pos) (a4 i mk mv):=by
 refine⟨DO.imp (m9 BN.1 (ab3 (IM hN Re hd DV) AE.1 set_list AD) AJ hw A6) ?_⟩;delta a4;refine⟨G,ρ,r,?_⟩;refine rb h λd ev h u H1 Ah AK s1 LB=>?_;cases CR:ownAt i ρ with
 |bad=>rw[CR]at h;cases h
 |exc c=>exact(abL CR).elim
 |ok ds=>
  rw[CR,R.EU]at h;have DJ:=abM CR;obtain⟨q,xs,A9,A6,AA,Ao,BG⟩:=AK.own DJ;refine⟨.ref q,A9,Ah,ρ,AK,?_⟩;refine rb h λkd DD h w Am CL B7 s2 Oy=>?_;obtain⟨Gf,Gj,Ee,J0,OX,Q2,HI⟩:=B7.own DJ;rw[A9]at Ee;cases Ee;cases kd with
  |int j=>
   erw[putK]at h;erw[At]at Oy;cases FI:Ii ds.length j with
   |none=>rw[FI]at h;cases h
   |some n=>rw[FI]at h;erw[putN]at h;refine⟨q,Gj,j,n,rfl,Oy,J0,by rw[<-HI.length];exact FI,?_⟩;exact h _ CL _ (B7.mut DJ A9 (HI.ni (LB.mono s2.g))) (s1.trans s2).g
  |_=>cases h
def afq(i:Nat){x:Str}{p:Pos}(hN:X.N.Nodup)(he:KR X F e ma)(AC:X.N[i]?=some x:=by rfl)(AG:Loc X.env.scope x:=by first|exact Dh rfl|exact Cp rfl)(AJ:O6 e (some (.Name x p)) pos.line X.env=pure false:=by rfl)(hf:X.fn x=true\/X.env.scope.names.lookup x=some .local:=by first|exact .inl rfl|exact .inr rfl):Ep X F (.Assign [.Name x p] e pos) (EK i ma):=⟨DO.imp (RT hN AC AG he.1 AJ hf) cz⟩
end
section
variable{P:Bx}{w:Bj}{K:Aa}{mg:Str->Option A7}{base:BI}{N:List Str}{qual:Str}{scope:E8}{f:A8}{cd:A7}{A:CK}{outer:List Env}{s0:AP}{T4:AB}{E:DT}{G0 H0:AB}
end
section
variable{X:Ac}{F:BA}{e:AU}{A4:List AU}{pos p:Pos}{ma:B1}
end
section
variable{X:Ac}{F:BA}{e:AU}{pos p:Pos}{m n:Ae}{ma:B1}
end
end CP
namespace Bs
open PySem PySem.Spec PyProof.Rows
section
variable{X:Ac}{i j:Nat}{x n y:Str}{W:A8}{e:AU}{E4:TE}{E:DT}{rz:Be}{aeR:List Be}{Aw:FT}{abR np AZ pos py:Pos}
end
end Bs
namespace CP
open PySem PySem.Spec Bs PyProof.Rows
section
variable{X:Ac}{F:BA}{pos:Pos}
end
section
variable{X:Ac}{F:BA}{a b:AU}{pos p:Pos}{m n:Ae}{ma:B1}
end
end CP
namespace Bs
open PySem PySem.Spec PyProof.Rows
section
variable{prog:Bx}{w:Bj}{A:CK}{E:A7->AP->Prop}{s:AP}
end
section
variable{X:Ac}{pos:Pos}
end
end Bs
namespace CP
open PySem PySem.Spec Bs PyProof.Rows
section
variable{X:Ac}{F:BA}{e:AU}{A4:List AU}{pos p:Pos}{m n:Ae}{ma:B1}
def w5{Af mt:Str}{BQ:μ->R C5}{C:A8}{E:DT}(AG:F.EX=λ_ _=>False)(HJ:G1 F.K Af C):Ej (Cx F (Il Af mt 0 BQ m AF)) (Vj C mt (P9 F.K (0+1) BQ) [] E (Cx F m) aE):=by
 delta Il r;refine rb h λd As h x H1 Ah AK s1 Bn=>?_;cases d with
 |ins Em ns ds=>
  erw[QJ]at h
  split at h
  .rename_i AO;obtain⟨Jz,F2⟩:=AO;subst Jz;have Uc:=Bn;erw[At]at Bn;obtain⟨q,Ag,xs,rfl,⟨KL,BW,g1⟩,rfl,al⟩:=Bn;have:=BW.inj HJ;subst this;refine⟨q,Ag,xs,rfl,AK.kp.sub _ _ g1,Zt F2,?_⟩;rw[R.EU]at h;have h:JP F G H σ ρ Q ((BQ [.ins Em (xs.map (·.1)) ds]).bind P4):=h;show P9 F.K (0+1) BQ ([V.ref q]++[]) H1 Q E;rw[LO];exact pX (xe:=λ_ _ _=>False) AG AK (.cons Uc .nil) γ (h.mono s1)
  .exact h.elim
 |_=>cases h
def afJ {o:AU} {Af mt:Str} {k:Nat} {BQ:μ->R C5} {pl:Sem Bool} {apos:Pos} (c:Pj X.prog X.w X.K X.mg X.base Af mt 0 k BQ) (B5:Cm k X.A) (he:B8 X F o m) (KA:F.EX=λ_ _=>False:=by rfl) (Ap:F.K=X.K:=by rfl)(Aj:BJ (.Call (.Attribute o mt apos) [] [] pos) X.env=(do
    let D6 <-BJ o X.env
    N2 apos.atName
    let(f,first) <-K6 [D6] (PS D6 mt pl)
    R7 pos f first (D4 pos (BF [] X.env)) (H5 pos (H3 [] X.env))):=by rfl) :
  B8 X F (.Call (.Attribute o mt apos) [] [] pos) (Il Af mt 0 BQ m AF):=by
 obtain⟨C,f,fd,Ai,BW,Ea,HA,Gu,A0⟩:=c.ex;refine⟨Av.imp (aav (pl:=pl) he.1 Ea HA Gu B5 A0 .nil QD Aj) ?_⟩;rw[<-Ap];exact w5 KA (by rw[Ap];exact BW)
end
end CP
namespace Bs
open PySem PySem.Spec PyProof.Rows
section
variable{X:Ac}{elts:List AU}{BY:Nat}{QT:Pos}
end
end Bs
namespace CP
open PySem PySem.Spec Bs PyProof.Rows
section
variable{X:Ac}{F:BA}{a b:AU}{pos p:Pos}{ma:B1}
end
end CP
namespace CP
open PySem PySem.Spec Bs
mutual
noncomputable def Ml:D->Bool
 |.lst _=>false
 |.D1 _=>false
 |.tup ds=>Kv ds
 |.ins _ _ ds=>Kv ds
 |.Df _ ds=>Kv ds
 |.An _ ds=>Kv ds
 |.Do ds=>Kv ds
 |_=>true
noncomputable def Kv:μ->Bool
 |[]=>true
 |d::ds=>Ml d&&Kv ds
end
noncomputable def Ut:DN->Bool
 |.lst _=>true
 |_=>false
section
variable{K:Aa}{G G':AB}
def Eo.dt(h:∀b o,G b=some o->Ut o=false->G' b=some o){a:A8}{u:DN}(BM:Ut u=false)(r:Eo G a u):Eo G' a u:=by
 rcases r with r|⟨o,r⟩
 .exact .inl (h _ _ r BM)
 .exact .inr ⟨o,h _ _ r rfl⟩
mutual
theorem At.dt(h:∀b o,G b=some o->Ut o=false->G' b=some o):∀{d:D}{v:V},Ml d=true->At K G d v->At K G' d v
 |.non,_,_,q=>by simpa only[At]using q
 |.AR _,_,_,q=>by simpa only[At]using q
 |.int _,_,_,q=>by simpa only[At]using q
 |.str _,_,_,q=>by simpa only[At]using q
 |.tup _,_,n,q=>by erw[At,Ml]at q n |-;obtain⟨a,xs,e,g,r⟩:=q;exact⟨a,xs,e,h _ _ g rfl,AW.RP h n r⟩
 |.lst _,_,n,_=>by erw[Ml]at n;cases n
 |.D1 _,_,n,_=>by erw[Ml]at n;cases n
 |.Do _,_,n,q=>by
  erw[At,Ml]at q n |-;obtain⟨a,xs,e,g,r⟩:=q;refine⟨a,xs,e,?_,AW.RP h n r⟩;rcases g with g|g
  .exact .inl (Eo.dt h rfl g)
  .exact .inr g
 |.Df _ _,_,n,q=>by erw[At,Ml]at q n |-;obtain⟨a,xs,e,g,k,r⟩:=q;exact⟨a,xs,e,h _ _ g rfl,k,AW.RP h n r⟩
 |.An _ _,_,n,q=>by erw[At,Ml]at q n |-;obtain⟨a,xs,e,g,k,r⟩:=q;exact⟨a,xs,e,h _ _ g rfl,k,AW.RP h n r⟩
 |.ins _ _ _,_,n,q=>by erw[At,Ml]at q n |-;obtain⟨a,Ag,xs,e,⟨C,BW,g⟩,k,r⟩:=q;exact⟨a,Ag,xs,e,⟨C,BW,h _ _ g rfl⟩,k,AW.RP h n r⟩
 |.Md _,_,n,q=>by erw[At]at q |-;obtain⟨a,xs,e,⟨C,BW,g⟩,r⟩:=q;exact⟨a,xs,e,⟨C,BW,h _ _ g rfl⟩,r⟩
theorem AW.RP(h:∀b o,G b=some o->Ut o=false->G' b=some o):∀{ds:μ}{vs:List V},Kv ds=true->AW K G ds vs->AW K G' ds vs
 |[],_,_,q=>by simpa only[AW]using q
 |_::_,_,n,q=>by erw[AW,Kv,Fj]at q n |-;obtain⟨v,r,e,a,t⟩:=q;exact⟨v,r,e,At.dt h n.1 a,AW.RP h n.2 t⟩
end
end
mutual
noncomputable def Pr:T->Bool
 |.A2 _=>true
 |.lst Aw=>Xi Aw
 |_=>false
noncomputable def Xi:List T->Bool
 |[]=>true
 |t::Aw=>Pr t&&Xi Aw
end
mutual
theorem hP{K:Aa}{G H:AB}:∀{t:T}{v:V},Pr t=true->Ch K G H t v->∀b∈Al H t v,∃xs,H b=some (.lst xs)
 |.A2 _,_,_,_,b,A0=>by erw[Al]at A0;cases A0
 |.lst _,_,n,h,b,A0=>by
  erw[Ch,Pr]at h n;obtain⟨a,xs,rfl,q,r⟩:=h;rw[SI q]at A0;rcases List.mem_cons.mp A0 with rfl|A0
  .exact⟨xs,q⟩
  .exact hl n r b A0
 |.Df _ _,_,n,_,_,_=>by erw[Pr]at n;cases n
 |.An _ _,_,n,_,_,_=>by erw[Pr]at n;cases n
 |.ins _ _ _,_,n,_,_,_=>by erw[Pr]at n;cases n
theorem hl{K:Aa}{G H:AB}:∀{Aw:List T}{vs:List V},Xi Aw=true->Bu K G H Aw vs->∀b∈E6 H Aw vs,∃xs,H b=some (.lst xs)
 |[],_,_,_,b,A0=>by rw[TM]at A0;cases A0
 |_::_,_,n,h,b,A0=>by
  erw[Bu,Xi,Fj]at h n;obtain⟨v,r,rfl,q,t⟩:=h;rw[Ho]at A0;rcases List.mem_append.mp A0 with A0|A0
  .exact hP n.1 q b A0
  .exact hl n.2 t b A0
end
def P8:Bb->Bool
 |.ob (.lst _)=>true
 |.ob _=>false
 |.Eg t=>Pr t
 |.Bg _ t=>Pr t
 |_=>true
def Vy(ρ:AI):Bool:=ρ.all P8
section
variable{F:BA}
end
section
variable{X:Ac}{F:BA}{e:AU}
end
section
variable{K:Aa}{G0 H0:AB}{E:DT}
end
section
variable{X:Ac}{e:AU}{K:Aa}{G0 H0:AB}{E:DT}{m:Ae}
end
section
variable{F:BA}
end
section
variable{X:Ac}{F:BA}{e o:AU}{A4:List AU}{pos:Pos}{ma:B1}{m n:Ae}
end
noncomputable def Nr:List T->Option μ
 |[]=>some []
 |.A2 d::Aw=>(Nr Aw).map (d::·)
 |_=>none
theorem ow:∀{Aw:List T}{ds:μ},Nr Aw=some ds->Aw=ds.map .A2
 |[],ds,h=>by erw[Nr]at h;cases h;rfl
 |t::Aw,ds,h=>by
  cases t with
  |A2 d=>erw[Nr]at h;obtain⟨r,e,rfl⟩:=Option.map_eq_some_iff.mp h;rw[ow e];rfl
  |_=>simp[Nr]at h
theorem Wd:∀ds:μ,Nr (ds.map .A2)=some ds
 |[]=>rfl
 |d::ds=>by erw[Du,Nr,Wd ds];rfl
section
variable{K:Aa}{G H:AB}
theorem pK:∀{ds:μ}{xs:List V},AW K G ds xs->Bu K G H (ds.map .A2) xs
 |[],xs,h=>by erw[AW]at h;subst h;exact Bu.nil
 |d::ds,xs,h=>by erw[AW]at h;obtain⟨v,r,rfl,a,t⟩:=h;exact Bu.cons (by erw[Ch];exact a) (pK t)
theorem pL:∀{ds:μ}{xs:List V},Bu K G H (ds.map .A2) xs->AW K G ds xs
 |[],xs,h=>by erw[O5,Bu]at h;subst h;exact AW.nil
 |d::ds,xs,h=>by erw[Du,Bu]at h;obtain⟨v,r,rfl,a,t⟩:=h;erw[Ch]at a;exact AW.cons a (pL t)
theorem bM:∀(ds:μ)(xs:List V),E6 H (ds.map .A2) xs=[]
 |[],xs=>TM
 |d::ds,[]=>by erw[Du,E6]
 |d::ds,x::xs=>by rw[Du,Ho,bM ds xs];erw[Al,UM]
end
section
variable{F:BA}{G H:AB}{σ :Bs.St}{ρ:AI}
end
section
variable{X:Ac}{F:BA}{e:AU}{pos:Pos}{m:Ae}{Ge:HQ}
noncomputable def Qd(m:Ae):B0:=λρ=>(m ρ).bind λd=>.ok (.rs d ρ)
def afl(h:B8 X F e m):Ep X F (.Return (some e) pos) (Qd m):=⟨DO.imp (W3 h.1) λCC σ H⟨G,ρ,r,k⟩=>by
 unfold Qd at k;refine⟨G,ρ,r,?_⟩;cases As:m ρ with
 |bad=>rw[As]at k;cases k
 |exc c=>rw[As]at k;exact k
 |ok d=>rw[As,R.EU]at k;exact λv H' G' BO u a=>k v σ G' H' BO a⟩
end
section
variable{F:BA}{G H:AB}{σ :Bs.St}{ρ:AI}
end
section
variable{X:Ac}{F:BA}{e c:AU}{pos:Pos}{m:Ae}
end
section
variable{X:Ac}{F:BA}{e c:AU}{pos:Pos}{m:Ae}
end
inductive gE where
 |B6 (ρ:AI)|EP (d:D) (ρ:AI)
abbrev rM:=AI->R gE
def SH(b:rM):gE->R gE
 |.B6 ρ=>b ρ
 |.EP d ρ=>.ok (.EP d ρ)
section
variable{F:BA}
end
section
variable{X:Ac}{F:BA}{k:AU}{pos:Pos}{mk:Ae}
end
open Classical in
noncomputable def HC(H:AB)(l:List A8):AB:=λb=>if b∈l then none else H b
def jF{H:AB}{l:List A8}{b:A8}(h:b∈l):HC H l b=none:=by unfold HC;rw[if_pos h]
def TF{H:AB}{l:List A8}{b:A8}(h:b∉l):HC H l b=H b:=by unfold HC;rw[if_neg h]
def jJ(H:AB)(l:List A8):Sub (HC H l) H:=λb o e=>by
 by_cases h:b∈l
 .rw[jF h]at e;cases e
 .rw[TF h]at e;exact e
def jI{H:AB}{l:List A8}{b:A8}(h:HC H l b=none):b∈l\/H b=none:=by
 by_cases A0:b∈l
 .exact .inl A0
 .rw[TF A0]at h;exact .inr h
section
variable{X:Ac}{F:BA}{A4:List AU}{pos:Pos}{ma:B1}
end
def Q4(m:B1):B1:=λρ=>(m (DG ρ)).bind λds=>if Kv ds=true/\Vy ρ=true then .ok ds else .bad
section
variable{F:BA}
def wE{m:B1}:Ej (I8 F (Q4 m)) (I8 F m):=by
 rintro σ H Q ⟨G,ρ,r,h⟩;refine⟨IC σ ρ G H,DG ρ,r.plus,?_⟩;unfold Q4 at h;refine rb h λds As h p xs H' G' BO s' AQ AD A_ q=>?_;by_cases hd:Kv ds=true/\Vy ρ=true
 .rw[if_pos hd]at h;have QA:∀b,Cc H σ ρ b->G b=none:=λb z=>(r.foot z).2.1;have Q9:∀b,Cc H σ ρ b->F.H0 b=none:=λb z=>(r.foot z).2.2;have dH:∀b,Cc H σ ρ b->∃ho,H b=some ho/\Ut ho=true:=λb⟨i,s,o,A9,AH,f⟩=>by
   have AC:=List.all_eq_true.mp hd.2 _ (Hd A9);cases s with
   |un=>cases f
   |A2 _=>cases f
   |Eg t=>obtain⟨v,rfl,LI⟩:=f;obtain⟨o',Au,Nt,CH,ok⟩:=r.C2 i _ A9;rw[AH]at Au;cases Au;cases CH;obtain⟨xs,e⟩:=hP AC ok.at_ b LI;exact⟨_,e,rfl⟩
   |Bg n t=>obtain⟨v,rfl,LI⟩:=f;obtain⟨o',Au,Nt,CH,ok,_⟩:=r.C2 i _ A9;rw[AH]at Au;cases Au;cases CH;obtain⟨xs,e⟩:=hP AC ok.at_ b LI;exact⟨_,e,rfl⟩
   |ob ob=>
    have f:o=some (.ref b):=f;obtain⟨c,ho,Au,A6,_,_,BG⟩:=r.obj A9;rw[AH,f]at Au;cases Au;cases ob with
    |lst _=>obtain⟨xs,rfl,_⟩:=BG;exact⟨_,A6,rfl⟩
    |An _ _=>cases AC
    |ins _ _ _=>cases AC
  have off:∀b,¬Cc H σ ρ b->HH H σ ρ G' b=G' b:=λb n=>by unfold HH;rw[if_neg n]
  have on:∀b,Cc H σ ρ b->HH H σ ρ G' b=none:=λb n=>by unfold HH;rw[if_pos n]
  have BH:Sub G (HH H σ ρ G'):=λb o e=>by
   have n:¬Cc H σ ρ b:=λz=>by rw[QA b z]at e;cases e
   rw[off b n];exact s'.g b o (V1 r b o e)
  have cE:∀b,Cc H σ ρ b->∀o,H b=some o->H' b=some o:=λb z o e=>BO.kp.sub _ _ (s'.g _ _ (by rw[OW z];exact e));have rel:Rel F (HH H σ ρ G') H' σ ρ:=by
   refine r.over rfl ⟨λb o e=>?_,r.kp.EJ.trans BH,BO.kp.B4,λb A0=>?_⟩ BH λb Bm=>?_
   .by_cases n:Cc H σ ρ b
    .rw[on b n]at e;cases e
    .rw[off b n]at e;exact BO.kp.sub b o e
   .have n:¬Cc H σ ρ b:=λz=>A0.1 (Q9 b z);rw[off b n];exact BO.kp.new b A0
   .refine⟨?_,on b Bm,Q9 b Bm⟩;cases BS:H b with
    |none=>exact absurd BS (r.foot Bm).1
    |some o=>exact cE b Bm o BS
  refine h p xs H' _ rel ⟨BH,s'.h,λb A0=>?_⟩ AQ AD (by rw[off p (λz=>(r.foot z).1 AQ)];exact A_) (AW.RP (λb o e AC=>?_) hd.1 q)
  .by_cases n:Cc H σ ρ b
   .rw[on b n,QA b n]
   .rw[off b n,s'.n b A0];unfold IC;rw[if_neg n]
  .have n:¬Cc H σ ρ b:=λz=>by
     obtain⟨ho,A9,AH⟩:=dH b z;have:=s'.g b ho (by rw[OW z];exact A9);rw[e]at this;cases this;rw[AC]at AH;cases AH
   rw[off b n];exact e
 .rw[if_neg hd]at h;cases h
end
section
variable{X:Ac}{F:BA}{e:AU}{pos:Pos}
def age{m:B1}(h:KR X F e m):KR X F e (Q4 m):=⟨Av.imp h.1 wE⟩
end
section
variable{X:Ac}{F:BA}{e:AU}{pos:Pos}
end
section
variable{X:Ac}{F:BA}{e:AU}{A4:List AU}{pos p:Pos}{m:Ae}{ma:B1}
end
def Di{N P:List Str}{sc:E8}(a:sc.kind=.function:=by rfl)(b:sc.isCoroutine=false:=by rfl)(c:sc.isGenerator=false:=by rfl)(d:N.Nodup:=by decide+kernel)(e:N.take P.length=P:=by rfl)(f:∀x∈P,sc.names.lookup x=some .local\/sc.names.lookup x=some .cell:=by decide+kernel)(g:∀y∈sc.names,y.2≠.free:=by decide+kernel):Cj N P sc:=⟨a,b,c,d,e,f,g⟩
end CP
namespace CP
open PySem PySem.Spec Bs PyProof.Rows
section
variable{X:Ac}{F:BA}{e:AU}{A4:List AU}{pos p:Pos}{ma:B1}
end
end CP
namespace CP
open PySem PySem.Spec Bs
mutual
noncomputable def QN:D->Bool
 |.non=>true
 |.AR _=>true
 |.int _=>true
 |.str _=>true
 |.tup ds=>QO ds
 |_=>false
noncomputable def QO:μ->Bool
 |[]=>true
 |d::ds=>QN d&&QO ds
end
mutual
theorem At.mS{K:Aa}{G G':AB}(h:∀b xs,G b=some (.tup xs)->G' b=some (.tup xs)):∀{d:D}{v:V},QN d=true->At K G d v->At K G' d v
 |.non,_,_,q=>by simpa only[At]using q
 |.AR _,_,_,q=>by simpa only[At]using q
 |.int _,_,_,q=>by simpa only[At]using q
 |.str _,_,_,q=>by simpa only[At]using q
 |.tup _,_,n,q=>by erw[At,QN]at q n |-;obtain⟨a,xs,e,g,r⟩:=q;exact⟨a,xs,e,h _ _ g,AW.du h n r⟩
 |.lst _,_,n,_=>by cases n
 |.D1 _,_,n,_=>by cases n
 |.Do _,_,n,_=>by cases n
 |.Df _ _,_,n,_=>by cases n
 |.An _ _,_,n,_=>by cases n
 |.ins _ _ _,_,n,_=>by cases n
 |.Md _,_,n,_=>by cases n
theorem AW.du{K:Aa}{G G':AB}(h:∀b xs,G b=some (.tup xs)->G' b=some (.tup xs)):∀{ds:μ}{vs:List V},QO ds=true->AW K G ds vs->AW K G' ds vs
 |[],_,_,q=>by simpa only[AW]using q
 |_::_,_,n,q=>by erw[AW,QO,Fj]at q n |-;obtain⟨v,r,e,a,t⟩:=q;exact⟨v,r,e,At.mS h n.1 a,AW.du h n.2 t⟩
end
section
variable{F:BA}{G H G' H':AB}{σ :Bs.St}{ρ:AI}
def Rel.kq(r:Rel F G H σ ρ)(BO:Rel F G' H' σ (DG ρ))(s':C3 (IC σ ρ G H) H G' H'):Rel F (HH H σ ρ G') H' σ ρ/\C3 G H (HH H σ ρ G') H'/\∀b xs,G' b=some (.tup xs)->HH H σ ρ G' b=some (.tup xs):=by
 have QA:∀b,Cc H σ ρ b->G b=none:=λb z=>(r.foot z).2.1;have Q9:∀b,Cc H σ ρ b->F.H0 b=none:=λb z=>(r.foot z).2.2;have off:∀b,¬Cc H σ ρ b->HH H σ ρ G' b=G' b:=λb n=>by unfold HH;rw[if_neg n]
 have on:∀b,Cc H σ ρ b->HH H σ ρ G' b=none:=λb n=>by unfold HH;rw[if_pos n]
 have BH:Sub G (HH H σ ρ G'):=λb o e=>by
  have n:¬Cc H σ ρ b:=λz=>by rw[QA b z]at e;cases e
  rw[off b n];exact s'.g b o (V1 r b o e)
 have lT:∀b,Cc H σ ρ b->∀o,H b=some o->G' b=some o:=λb z o e=>s'.g _ _ (by rw[OW z];exact e);refine⟨r.over rfl ⟨λb o e=>?_,r.kp.EJ.trans BH,BO.kp.B4,λb A0=>?_⟩ BH λb Bm=>?_,⟨BH,s'.h,λb A0=>?_⟩,λb xs e=>?_⟩
 .by_cases n:Cc H σ ρ b
  .rw[on b n]at e;cases e
  .rw[off b n]at e;exact BO.kp.sub b o e
 .have n:¬Cc H σ ρ b:=λz=>A0.1 (Q9 b z);rw[off b n];exact BO.kp.new b A0
 .refine⟨?_,on b Bm,Q9 b Bm⟩;cases BS:H b with
  |none=>exact absurd BS (r.foot Bm).1
  |some o=>exact BO.kp.sub _ _ (lT b Bm o BS)
 .by_cases n:Cc H σ ρ b
  .rw[on b n,QA b n]
  .rw[off b n,s'.n b A0];unfold IC;rw[if_neg n]
 .have n:¬Cc H σ ρ b:=λz=>by
    obtain⟨Cv,D8⟩:=r.Vi z;cases OR:H b with
    |none=>exact Cv OR
    |some o=>have:=lT b z o OR;rw[e]at this;cases this;exact D8 xs OR
  rw[off b n];exact e
end
def Hs(m:Ae):Ae:=λρ=>(m (DG ρ)).bind λd=>if QN d=true then .ok d else .bad
def Rl(m:B1):B1:=λρ=>(m (DG ρ)).bind λds=>if QO ds=true then .ok ds else .bad
section
variable{F:BA}
def wF{m:Ae}:Ej (Cx F (Hs m)) (Cx F m):=by
 rintro σ H Q ⟨G,ρ,r,h⟩;refine⟨IC σ ρ G H,DG ρ,r.plus,?_⟩;unfold Hs at h;refine rb h λd As h v H' G' BO s' a=>?_
 split at h
 .rename_i hd;obtain⟨rel,up,off⟩:=r.kq BO s';exact h v H' _ rel up (a.mS off hd)
 .exact h.elim
def wG{m:B1}:Ej (I8 F (Rl m)) (I8 F m):=by
 rintro σ H Q ⟨G,ρ,r,h⟩;refine⟨IC σ ρ G H,DG ρ,r.plus,?_⟩;unfold Rl at h;refine rb h λds As h p xs H' G' BO s' AQ AD A_ q=>?_
 split at h
 .rename_i hd;obtain⟨rel,up,off⟩:=r.kq BO s';have no:¬Cc H σ ρ p:=λz=>(r.foot z).1 AQ;exact h p xs H' _ rel up AQ AD (by unfold HH;rw[if_neg no];exact A_) (q.du off hd)
 .exact h.elim
end
section
variable{X:Ac}{F:BA}{e:AU}{m:Ae}{ma:B1}
def af1(h:B8 X F e m):B8 X F e (Hs m):=⟨Av.imp h.1 wF⟩
end
noncomputable def KZ:Bb->Option T
 |.Eg t=>some t
 |.Bg _ t=>some t
 |_=>none
noncomputable def P3(s:Bb)(t:T):Bb:=match s with
 |.Bg k _=>.Bg k t
 |_=>.Eg t
def ai{F:BA}{G H:AB}{s:Bb}{t:T}{o:Option V}(e:KZ s=some t)(h:Ia F G H o s):∃v,o=some v/\MY F G H t v:=by
 cases s with
 |Eg u=>cases e;exact h
 |Bg k u=>cases e;obtain⟨v,z,q,_⟩:=h;exact⟨v,z,q⟩
 |_=>cases e
def W9{H:AB}{s:Bb}{t:T}{v:V}{b:A8}(e:KZ s=some t):Ez H s (some v) b↔b∈Al H t v:=by
 cases s with
 |Eg u=>cases e;exact⟨λ⟨w,z,h⟩=>by cases z;exact h,λh=>⟨v,rfl,h⟩⟩
 |Bg k u=>cases e;exact⟨λ⟨w,z,h⟩=>by cases z;exact h,λh=>⟨v,rfl,h⟩⟩
 |_=>cases e
def nV{s:Bb}{t t':T}(e:KZ s=some t):KZ (P3 s t')=some t':=by cases s<;>first|rfl|cases e
def nU{F:BA}{G H G' H':AB}{s:Bb}{t t':T}{v:V}(e:KZ s=some t)(h:Ia F G H (some v) s)(q:MY F G' H' t' v):Ia F G' H' (some v) (P3 s t'):=by
 cases s with
 |Eg u=>exact⟨v,rfl,q⟩
 |Bg k u=>obtain⟨w,z,_,p⟩:=h;cases z;exact⟨v,rfl,q,p⟩
 |_=>cases e
def Rel.aaG{F:BA}{G H G' H':AB}{σ :Bs.St}{ρ:AI}{EX:Str->AB->Prop}(r:Rel F G H σ ρ){x:Nat}{s:Bb}{t t':T}{v:V}(ex:ρ[x]?=some s)(A4:KZ s=some t)(AG: σ[x]?=some (some v))(k:FR ⟨F.K,G,HC H (Al H t v),EX,IK⟩ G' H')(QB:MY ⟨F.K,G,HC H (Al H t v),EX,IK⟩ G' H' t' v):Rel F G' H' σ (ρ.set x (P3 s t')):=by
 have Zw:x<ρ.length:=(List.getElem?_eq_some_iff.mp ex).1;have bO:∀b∈Al H t v,Ez H s (some v) b:=λb A0=>(W9 A4).mpr A0;have Bm:∀b∈Al H t v,Cc H σ ρ b:=λb A0=>⟨x,_,_,ex,AG,bO b A0⟩;have h0:∀b,HC H (Al H t v) b=none->F.H0 b=none:=λb z=>by
  rcases jI z with z|z
  .exact(r.foot (Bm b z)).2.2
  .exact r.kp.B4.gone z
 have kp:FR F G' H':=by
  refine⟨k.sub,r.kp.EJ.trans k.EJ,λb o e=>?_,λb A0=>?_⟩
  .refine k.B4 b o ?_;have n:b∉Al H t v:=λz=>by rw[(r.foot (Bm b z)).2.2]at e;cases e
   show HC H _ b=some o;rw[TF n];exact r.kp.B4 b o e
  .have Na:b∉Al H t v:=λz=>A0.1 (r.foot (Bm b z)).2.2;have n:H8 (HC H (Al H t v)) b:=by unfold H8;rw[TF Na];exact r.kp.B4.JC A0
   rw[show G' b=G b from k.new b n];exact r.kp.new b A0
 have JD:∀(i:Nat)(q:Bb),i≠x->ρ[i]?=some q->∃o,σ[i]?=some o/\Ia F G' H' o q/\(∀a,Ez H' q o a->Ez H q o a):=λi q Cv e=>by
  obtain⟨o,A9,w⟩:=r.C2 i q e;obtain⟨Ak,BC⟩:=w.keep (H':=H') k.EJ λa f=>by
   have na:a∉Al H t v:=λz=>Cv (r.LF i x a _ _ _ _ e ex A9 AG f (bO a z));obtain⟨g1,g2,_⟩:=w.foot f;have c:HC H (Al H t v) a=H a:=TF na;refine⟨?_,?_⟩
   .cases OR:H a with
    |none=>exact absurd OR g1
    |some u=>exact k.B4 a u (c.trans OR)
   .rw[show G' a=G a from k.new a (by show H8 (HC H _) a;unfold H8;rw[c];exact w.Vi f)];exact g2
  exact⟨o,A9,Ak,BC⟩
 have jD:∀(i:Nat)(q:Bb)(o:Option V)(a:A8),i≠x->ρ[i]?=some q-> σ[i]?=some o->Ez H q o a->HC H (Al H t v) a≠none:=λi q o a Cv e A9 f z=>by
  rcases jI z with z|z
  .exact Cv (r.LF i x a _ _ _ _ e ex A9 AG f (bO a z))
  .exact(r.foot ⟨i,q,o,e,A9,f⟩).1 z
 have aeU:Ia F G H (some v) s:=by obtain⟨o,A9,q⟩:=r.C2 x s ex;rw[AG]at A9;cases A9;exact q
 have cl:∀(i:Nat)(q:Bb)(o:Option V)(a:A8),(ρ.set x (P3 s t'))[i]?=some q-> σ[i]?=some o->Ez H' q o a->(i=x/\a∈Al H' t' v)\/(i≠x/\ρ[i]?=some q/\Ez H q o a):=λi q o a e A9 f=>by
  rcases get_set e with⟨rfl,rfl⟩|⟨Cv,e⟩
  .rw[AG]at A9;cases A9;exact .inl ⟨rfl,(W9 (nV A4)).mp f⟩
  .obtain⟨o',FC,_,Et⟩:=JD i q (Hi Cv) e;rw[A9]at FC;cases FC;exact .inr ⟨Hi Cv,e,Et a f⟩
 refine⟨kp,by simp[r.len],λi q e=>?_,λi j a s1 s2 D0 D3 A9 AH Au CH f1 f2=>?_⟩
 .rcases get_set e with⟨rfl,rfl⟩|⟨Cv,e⟩
  .exact⟨some v,AG,nU A4 aeU ⟨QB.at_,QB.Cs,λb A0=>⟨(QB.own b A0).1,h0 b (QB.own b A0).2⟩⟩⟩
  .obtain⟨o,FC,Et,_⟩:=JD i q (Hi Cv) e;exact⟨o,FC,Et⟩
 .rcases cl i s1 D0 a A9 Au f1 with⟨Bd,Hr⟩|⟨Bd,VK,cy⟩<;>rcases cl j s2 D3 a AH CH f2 with⟨Og,HZ⟩|⟨Og,lG,lH⟩
  .rw[Bd,Og]
  .exact absurd (QB.own a Hr).2 (jD j s2 D3 a Og lG CH lH)
  .exact absurd (QB.own a HZ).2 (jD i s1 D0 a Bd VK Au cy)
  .exact r.LF i j a s1 s2 D0 D3 VK lG Au CH cy lH
def lM(F:BA)(v:V)(Q:Cd):R (D×T)->Prop
 |.ok (d,t)=>∀u G' H',FR F G' H'->At F.K G' d u->MY F G' H' t v->Q u H'
 |_=>False
noncomputable def WF(K:Aa)(n:Nat)(BQ:T->μ->R (D×T)):AX:=λvs H Q E=>∃G t v A4 ws,vs=v::ws/\Sub G H/\Ch K G H t v/\(Al H t v).Nodup/\(∀b∈Al H t v,G b=none)/\AW K G A4 ws/\A4.length=n/\
 lM ⟨K,G,HC H (Al H t v),λ_ _=>False,IK⟩ v Q (BQ t A4)
def pW{K:Aa}{n:Nat}{BQ:T->μ->R (D×T)}:∀vs H Q E,WF K n BQ vs H Q E->vs.length=n+1:=λvs H Q E h=>by obtain⟨G,t,v,A4,ws,rfl,_,_,_,_,a,l,_⟩:=h;simp[<-a.length,l]
noncomputable def abH(v:V):Nat->Option V:=λk=>if k=0 then some v else none
noncomputable def Uy(K:Aa)(G H:AB)(v:V):BA:=⟨K,G,H,λ_ _=>False,abH v⟩
noncomputable def d2(N:Nat)(t:T)(A4:μ):AI:=.Bg 0 t::HX (N-1) A4
noncomputable def ZC(d:D)(ρ:AI):R (D×T):=match(ρ[0]? :Option Bb)with
 |some (.Bg 0 t)=>.ok (d,t)
 |_=>.bad
noncomputable def U4:FQ->R (D×T)
 |.B6 ρ=>ZC .non ρ
 |.rs d ρ=>ZC d ρ
 |_=>.bad
noncomputable def QY(N:Nat)(m:B0)(t:T)(A4:μ):R (D×T):=(m (d2 N t A4)).bind U4
def ac6{K:Aa}{G H:AB}{N:Nat}{t:T}{v:V}{A4:μ}{ws:List V}(s:Sub G H)(a1:Ch K G H t v)(Cs:(Al H t v).Nodup)(no:∀b∈Al H t v,G b=none)(a:AW K G A4 ws) :
  Rel (Uy K G (HC H (Al H t v)) v) G H (NA (N+1) (v::ws)) (d2 (N+1) t A4):=by
 have lb:=nW (EX:=λ_ _=>False) (N:=N) s a;have st:NA (N+1) (v::ws)=some v::NA N ws:=by unfold NA;simp
 rw[st];show Rel _ G H (some v::NA N ws) (.Bg 0 t::HX N A4);have A2:∀(i:Nat)(q:Bb),(HX N A4)[i]?=some q->(q=.un\/∃d,q=.A2 d):=λi q e=>by
  unfold HX at e;rcases List.mem_append.mp (Hd e)with m|m
  .obtain⟨d,_,rfl⟩:=List.mem_map.mp m;exact .inr ⟨d,rfl⟩
  .obtain⟨_,rfl⟩:=List.mem_replicate.mp m;exact .inl rfl
 have Kt:∀(i:Nat)(q:Bb)(o:Option V)(b:A8),(Bb.Bg 0 t::HX N A4)[i]?=some q->Ez H q o b->i=0:=λi q o b e f=>by
  cases i with
  |zero=>rfl
  |succ i=>rcases A2 i q (e:)with rfl|⟨d,rfl⟩<;>cases f
 refine⟨⟨s,Sub.refl _,jJ _ _,λ_ _=>rfl⟩,by simp[lb.len],λi q e=>?_,λi j b s1 s2 D0 D3 A9 AH _ _ f1 f2=>by rw[Kt i s1 D0 b A9 f1,Kt j s2 D3 b AH f2]⟩;cases i with
 |zero=>cases e;exact⟨some v,rfl,v,rfl,⟨a1,Cs,λb A0=>⟨no b A0,jF A0⟩⟩,rfl⟩
 |succ i=>
  have e:(HX N A4)[i]?=some q:=(e:)
  obtain⟨o,A9,w⟩:=lb.C2 i q e;refine⟨o,(A9:),?_⟩;rcases A2 i q e with rfl|⟨d,rfl⟩
  .trivial
  .exact w
def hV{K:Aa}{n N:Nat}{m:B0}{vs:List V}{H:AB}{Q:Cd}{E:DT}(h:WF K n (QY (N+1) m) vs H Q E) :
  ∃G H0 v,Fq (Uy K G H0 v) m { B6:=λ_ H'=>Q .non H',EP:=Q } (NA (N+1) vs) H:=by
 obtain⟨G,t,v,A4,ws,rfl,s,a1,Cs,no,a,l,k⟩:=h;refine⟨G,HC H (Al H t v),v,G,_,ac6 s a1 Cs no a,?_⟩;unfold QY at k;have fin:∀(d:D)(BL:AI)(σ' :Bs.St)(G' H':AB)(u:V),lM ⟨K,G,HC H (Al H t v),λ_ _=>False,IK⟩ v Q (ZC d BL)->Rel (Uy K G (HC H (Al H t v)) v) G' H' σ' BL->At K G' d u->Q u H':=λd BL σ' G' H' u k r LB=>by
  unfold ZC at k
  split at k
  .rename_i t' DJ;obtain⟨o,A9,w,rfl,⟨FC,Et,Jc⟩,Wh⟩:=r.C2 0 _ DJ;have Wh:some v=some w:=Wh;cases Wh;exact k u G' H' ⟨r.kp.sub,r.kp.EJ,r.kp.B4,r.kp.new⟩ LB ⟨FC,Et,Jc⟩
  .exact k.elim
 cases e:m (d2 (N+1) t A4)with
 |bad=>rw[e]at k;cases k
 |exc c=>rw[e]at k;cases k
 |ok f=>
  rw[e,R.EU]at k;cases f with
  |B6 BL=>exact λσ' G' H' r s'=>fin .non BL σ' G' H' .non k r (by erw[At])
  |rs d BL=>exact λu σ' G' H' r LB=>fin d BL σ' G' H' u k r LB
  |_=>cases k
structure YB(P:Bx)(w:Bj)(K:Aa)(mg:Str->Option A7)(base:BI)(Af mt:Str)(n k:Nat)(BQ:T->μ->R (D×T)):Prop where
 ex:∃(C f:A8)(fd:GF)(Ai:List Str),G1 K Af C/\Jf K C/\Meth K C mt f/\Gl P w K mg base H6 k f fd Ai (WF K n BQ)/\Binds K fd Ai []
def qC{P:Bx}{w:Bj}{K:Aa}{mg:Str->Option A7}{base:BI}{x qual Af FN JT:Str}{st:Be}{N Ai:List Str}{k:Nat}{m:B0}(d:Ou K Af x qual st (FN::Ai))(S:Cj (JT::N) (FN::Ai) (C0 st))(h:∀(f:A8)(CG:A7)(A:CK)(outer:List Env)(s:AP)(H:AB)(E:DT),Cm k (A.deeper (Nw qual (C0 st) s.heap.objs.size f CG))->∀G0 H0 v,KQ (Jt H6 P w K mg base (JT::N) qual (C0 st) f CG A outer s H E).Kw (Uy K G0 H0 v) (GS st) m) :
  YB P w K mg base Af x Ai.length (k+1) (QY (N.length+1) m):=by
 obtain⟨C,f,fd,A6,AA,Ao,BG,Er⟩:=d.ex;refine⟨C,f,fd,FN::Ai,A6,AA,Ao,BG.ok S pW λCG A outer s H vs Q E B5 AJ=>?_,Er⟩;obtain⟨G,H0,v,Aj⟩:=hV AJ;exact⟨_,(h f CG A outer s H E B5 G H0 v).1,Aj⟩
noncomputable def VY(i n:Nat)(Af mt:Str)(BQ:T->μ->R (D×T))(ρ:AI)(s:Bb)(A4:μ):Option T->R (D×AI)
 |some (.ins c ns Aw)=>if c=Af/\ns.all (λk=>!(mt==k))=true/\A4.length=n then(GL (BQ (.ins c ns Aw) A4)).bind λx=>.ok (x.1,ρ.set i (P3 s x.2))else .bad
 |_=>.bad
def KF(i:Nat)(Af mt:Str)(n:Nat)(BQ:T->μ->R (D×T))(ma:B1):HQ:=λρ=>match ρ[i]? with
 |some s=>(GL (ma ρ)).bind λA4=>VY i n Af mt BQ ρ s A4 (KZ s)
 |none=>.bad
section
variable{X:Ac}{F:BA}{e:AU}{A4:List AU}{pos:Pos}{ma:B1}
def wK{i n:Nat}{Af mt:Str}{BQ:T->μ->R (D×T)}{C:A8}{E:DT}(HJ:G1 F.K Af C):Ej (aD F (KF i Af mt n BQ ma)) (Vj C mt (WF F.K n BQ) [] E (Vm i) (Es F ma)):=by
 rintro σ H Q ⟨G,ρ,r,h⟩;unfold KF at h
 split at h
 .rename_i s A4;cases As:ma ρ with
  |bad=>rw[As]at h;cases h
  |exc c=>rw[As]at h;cases h
  |ok ds=>
   rw[As]at h;replace h:lP F G σ Q (VY i n Af mt BQ ρ s ds (KZ s)):=h;unfold VY at h
   split at h
   .rename_i c ns Aw NI
    split at h
    .rename_i AO;obtain⟨rfl,F2,AN⟩:=AO;obtain⟨o,A9,q⟩:=r.C2 i s A4;obtain⟨v,rfl,ok⟩:=ai NI q;have HS:=ok.at_;erw[Ch]at HS;obtain⟨a,Ag,xs,rfl,⟨KL,BW,A6⟩,rfl,Ex⟩:=HS;have:=BW.inj HJ;subst this;refine⟨.ref a,A9,a,Ag,xs,rfl,A6,Zt F2,G,ρ,r,?_⟩;rw[As];intro vs H1 Ah AK s1 BD;obtain⟨D3,AH,BC⟩:=AK.C2 i s A4;rw[A9]at AH;cases AH;obtain⟨_,Au,P0⟩:=ai NI BC;cases Au;rw[LO];refine⟨Ah,_,.ref a,ds,vs,rfl,AK.kp.sub,P0.at_,P0.Cs,λb A0=>(P0.own b A0).1,BD,AN,?_⟩;cases em:BQ (.ins c (xs.map (·.1)) Aw) ds with
     |bad=>rw[em]at h;cases h
     |exc c=>rw[em]at h;cases h
     |ok y=>obtain⟨d,t'⟩:=y;rw[em]at h;intro u G' H' k' LB QB;exact h u H' G' (AK.aaG A4 NI A9 k' QB) (s1.g.trans k'.EJ) LB
    .exact h.elim
   .exact h.elim
 .exact h.elim
def agU (i:Nat) {x Af mt:Str} {Cn apos:Pos} {n k:Nat} {BQ:T->μ->R (D×T)} {pl:Sem Bool} (c:YB X.prog X.w X.K X.mg X.base Af mt n k BQ) (B5:Cm k X.A) (AD:GJ X F (e::A4) ma) (Ap:F.K=X.K:=by rfl)(hN:X.N[i]?=some x:=by rfl) (BN:Gp X.env.scope x:=by rw?) (hd:ζ:=by decide) (DV:(x==("__classdict__" :Str))=false:=by decide)(Oe:BF (e::A4) X.env=(false,BJ e X.env)::BF A4 X.env:=by rfl) (Dx:(D4 pos (BF A4 X.env)).any (·.1)=false:=by rfl) (Aj:BJ (.Call (.Attribute (.Name x Cn) mt apos) (e::A4) [] pos) X.env=(do
    let D6 <-BJ (.Name x Cn) X.env
    N2 apos.atName
    let(f,first) <-K6 [D6] (PS D6 mt pl)
    R7 pos f first (D4 pos (BF (e::A4) X.env)) (H5 pos (H3 [] X.env))):=by rfl):Pn X F (.Call (.Attribute (.Name x Cn) mt apos) (e::A4) [] pos) (KF i Af mt n BQ ma):=⟨by
 obtain⟨C,f,fd,Ai,BW,Ea,HA,Gu,A0⟩:=c.ex;refine Av.imp (lz (pl:=pl) (IM hN BN hd DV) Ea HA Gu B5 A0 .nil QD AD.1 Oe Dx Aj) ?_;rw[<-Ap];exact wK (by rw[Ap];exact BW)⟩
end
theorem ko{f:Str}:∀{xs:List (Str×V)}{j:Nat},(xs.map (·.1)).findIdx? (λk=>f==k)=some j->∃p,xs[j]?=some p/\xs.lookup f=some p.2
 |[],_,h=>by simp at h
 |(k,v)::xs,j,h=>by
  rw[Du,List.findIdx?_cons]at h;rw[UJ];cases e:f==k with
  |true=>erw[e,if_true]at h;cases h;exact⟨(k,v),rfl,rfl⟩
  |false=>erw[e,Hg,if_false]at h;obtain⟨ahx,A6,rfl⟩:=Option.map_eq_some_iff.mp h;obtain⟨p,EA,Cw⟩:=ko A6;exact⟨p,(EA:),Cw⟩
section
variable{K:Aa}{G H:AB}
theorem oj{q:A8}{ks ks':List Bf}{ds ds':μ}{ys Hb:List (Bf×V)}(AV:H q=some (.An ys))(AE:Hb.map (·.1)=ks')(n:AW K G ds' (Hb.map (·.2))):∀{Aw:List T}{vs:List V}{k:Nat},Bu K G H Aw vs->(E6 H Aw vs).Nodup->Aw[k]?=some (.An ks (ds.map .A2))->vs[k]?=some (.ref q)->
  Bu K G (upd H q (.An Hb)) (Aw.set k (.An ks' (ds'.map .A2))) vs/\E6 (upd H q (.An Hb)) (Aw.set k (.An ks' (ds'.map .A2))) vs=E6 H Aw vs
 |[],_,_,_,_,e,_=>by simp at e
 |t::Aw,_,0,h,Cs,e,ev=>by
  erw[Bu]at h;obtain⟨v,r,rfl,A6,AA⟩:=h;simp at e ev;subst e ev;rw[Ho]at Cs;have f1:Al H (.An ks (ds.map .A2)) (.ref q)=[q]:=by rw[Me AV,bM]
  have f2:Al (upd H q (.An Hb)) (.An ks' (ds'.map .A2)) (.ref q)=[q]:=by rw[Me Da,bM]
  rw[f1]at Cs;obtain⟨Cg,By⟩:=AA.keep (H':=upd H q (.An Hb)) λb A0=>Cy λz=>(List.nodup_append.mp Cs).2.2 q γ b A0 z.symm;rw[List.set_cons_zero,Ho,Ho,f1,f2,By];refine⟨.cons ?_ Cg,rfl⟩;erw[Ch];exact⟨q,Hb,rfl,Da,AE,pK n⟩
 |t::Aw,_,k+1,h,Cs,e,ev=>by erw[Bu]at h;obtain⟨v,r,rfl,A6,AA⟩:=h;simp at e ev;rw[Ho]at Cs;obtain⟨Cv,D8,JU⟩:=List.nodup_append.mp Cs;have ZR:q∈E6 H Aw r:=bL e ev (by rw[Me AV];simp);obtain⟨Cg,By⟩:=A6.keep (H':=upd H q (.An Hb)) λb A0=>Cy λz=>JU b A0 q ZR z;obtain⟨EA,Cw⟩:=oj AV AE n (k:=k) AA D8 e ev;rw[List.set_cons_succ,Ho,Ho,By,Cw];exact⟨.cons Cg EA,rfl⟩
end
structure Pf where
 s:Bb
 ns:List Str
 Aw:List T
 j:Nat
 ks:List Bf
 ds:μ
noncomputable def Vg(Af g:Str)(s:Bb)(ns:List Str)(Aw:List T)(j:Nat):Option T->R Pf
 |some (.An ks us)=>match Nr us with
  |some ds=>.ok ⟨s,ns,Aw,j,ks,ds⟩
  |none=>.bad
 |_=>.bad
noncomputable def Vf(Af g:Str)(s:Bb):Option T->R Pf
 |some (.ins c ns Aw)=>if c=Af then match ns.findIdx? (λk=>g==k)with
  |some j=>Vg Af g s ns Aw j Aw[j]?
  |none=>.bad
  else .bad
 |_=>.bad
noncomputable def KV(i:Nat)(Af g:Str)(ρ:AI):R Pf:=match ρ[i]? with
 |some s=>Vf Af g s (KZ s)
 |none=>.bad
def j8{i:Nat}{Af g:Str}{ρ:AI}{x:Pf}(h:KV i Af g ρ=.ok x):ρ[i]?=some x.s/\KZ x.s=some (.ins Af x.ns x.Aw)/\x.ns.findIdx? (λk=>g==k)=some x.j/\x.Aw[x.j]?=some (.An x.ks (x.ds.map .A2)):=by
 unfold KV at h
 split at h
 .rename_i s A4;unfold Vf at h
  split at h
  .rename_i c ns Aw NI
   split at h
   .rename_i AO;subst AO
    split at h
    .rename_i j KU;unfold Vg at h
     split at h
     .rename_i ks us DD
      split at h
      .rename_i ds LH;cases h;rw[ow LH]at DD;exact⟨A4,NI,KU,DD⟩
      .cases h
     .cases h
    .cases h
   .cases h
  .cases h
 .cases h
def j7{i:Nat}{Af g c:Str}{ρ:AI}(h:KV i Af g ρ=.exc c):False:=by
 unfold KV Vf Vg at h
 repeat' split at h
 all_goals cases h
def Rel.fd{F:BA}{G H:AB}{σ :Bs.St}{ρ:AI}{i:Nat}{Af g:Str}{x:Pf}(r:Rel F G H σ ρ)(h:KV i Af g ρ=.ok x):∃a C Ag xs q ys,σ[i]?=some (some (.ref a))/\G1 F.K Af C/\H a=some (.ins C Ag xs)/\xs.map (·.1)=x.ns/\Bu F.K G H x.Aw (xs.map (·.2))/\xs.lookup g=some (.ref q)/\(xs.map (·.2))[x.j]?=some (.ref q)/\H q=some (.An ys)/\ys.map (·.1)=x.ks/\AW F.K G x.ds (ys.map (·.2))/\(a::E6 H x.Aw (xs.map (·.2))).Nodup/\MY F G H (.ins Af x.ns x.Aw) (.ref a):=by
 obtain⟨A6,AA,Ao,BG⟩:=j8 h;obtain⟨o,A9,w⟩:=r.C2 i _ A6;obtain⟨v,rfl,ok⟩:=ai AA w;have HS:=ok.at_;erw[Ch]at HS;obtain⟨a,Ag,xs,rfl,⟨C,BW,AD⟩,FI,Ex⟩:=HS;rw[<-FI]at Ao;obtain⟨p,EA,Cw⟩:=ko Ao;obtain⟨u,Mp,Hj⟩:=pM Ex BG;have LH:u=p.2:=by rw[EC,EA]at Mp;exact(Ey Mp).symm
 subst LH;erw[Ch]at Hj;obtain⟨q,ys,eq,AV,DD,adw⟩:=Hj;have Cs:=ok.Cs;rw[Lh AD]at Cs;exact⟨a,C,Ag,xs,q,ys,A9,BW,AD,FI,Ex,by rw[Cw,eq],by rw[Mp,eq],AV,DD,pL adw,Cs,ok⟩
noncomputable def Q_(i:Nat)(Af g:Str)(mk:Ae):Ae:=λρ=>(KV i Af g ρ).bind λx=>(mk ρ).bind λk=>Gq (.An x.ks x.ds) k
noncomputable def bK(i:Nat)(Af:Str)(ρ:AI)(x:Pf):L7->R FQ
 |.An ks ds=>.ok (.B6 (ρ.set i (P3 x.s (.ins Af x.ns (x.Aw.set x.j (.An ks (ds.map .A2)))))))
 |_=>.bad
def Z7(i:Nat)(Af:Str)(ρ:AI)(x:Pf)(v:D):Option Bf->R FQ
 |some BY=>(putD x.ks x.ds BY v).bind (bK i Af ρ x)
 |none=>.bad
def NW(i:Nat)(Af g:Str)(mk mv:Ae):B0:=λρ=>(mv ρ).bind λv=>(KV i Af g ρ).bind λx=>(mk ρ).bind λk=>Z7 i Af ρ x v (Ik k)
section
variable{X:Ac}{F:BA}{e:AU}{pos:Pos}{m n:Ae}
def afk(i:Nat){x Af g:Str}{Ar:List Str}{Cn apos:Pos}(k:Nd X.K Af Ar)(BM:X.A.units+64<DS)(he:B8 X F e n)(AJ:YD e)(hf:g∈Ar:=by decide+kernel)(Ap:F.K=X.K:=by rfl)(hN:X.N[i]?=some x:=by rfl)(BN:Gp X.env.scope x:=by rw?)(hd:ζ:=by decide)(DV:(x==("__classdict__" :Str))=false:=by decide)(A0:Hw (.Name x Cn) g X.env (BJ (.Name x Cn) X.env)=BJ (.Name x Cn) X.env:=by rfl):B8 X F (.Subscript (.Attribute (.Name x Cn) g apos) e pos) (Q_ i Af g n):=⟨by
 refine Av.imp (lr δ (dK (IM hN BN hd DV) A0) he.1 AJ) ?_;rintro σ H Q ⟨G,ρ,r,h⟩;unfold Q_ at h;cases Cr:KV i Af g ρ with
 |bad=>rw[Cr]at h;cases h
 |exc c=>exact(j7 Cr).elim
 |ok y=>
  rw[Cr,R.EU]at h;obtain⟨a,C,Ag,xs,q,ys,A9,BW,AD,FI,Ex,lk,lv,AV,DD,al,_⟩:=r.fd Cr;obtain⟨KL,Cg,By,Fm⟩:=k.ex;rw[Ap]at BW;have:=BW.inj Cg;subst this;refine⟨.ref a,A9,a,C,Ag,xs,.ref q,rfl,AD,By,Fm g hf,lk,G,ρ,r,?_⟩;refine rb h λLg BS h z Am CL B7 s2 Cq=>?_;erw[Gq]at h
  split at h
  .rename_i BY bu;obtain⟨b,rfl,A0⟩:=Oj bu Cq;have f:=Vh (K:=F.K) (G:=G) BY al;rw[DD]at f
   split at h
   .rename_i d Cr;rw[Cr]at f;obtain⟨v,ev,BD⟩:=f;refine⟨q,v,rfl,?_,h v Am CL B7 s2 (BD.mono s2.g)⟩;rw[<-ev];exact J8.t (s2.h _ _ AV) (No A0 B7.kp.sub)
   .exact h.elim
  .exact h.elim⟩
def Rel.iY{G H:AB}{σ :Bs.St}{ρ:AI}{i:Nat}{Af g:Str}{x:Pf}(r:Rel F G H σ ρ)(h:KV i Af g ρ=.ok x){q:A8}{Hb:List (Bf×V)}{ks':List Bf}{ds':μ}{a C Ag:A8}{xs:List (Str×V)}{ys:List (Bf×V)}(A9: σ[i]?=some (some (.ref a)))(AD:H a=some (.ins C Ag xs))(lv:(xs.map (·.2))[x.j]?=some (.ref q))(AV:H q=some (.An ys))(AE:Hb.map (·.1)=ks')(n:AW F.K G ds' (Hb.map (·.2))) :
  Rel F G (upd H q (.An Hb)) σ (ρ.set i (P3 x.s (.ins Af x.ns (x.Aw.set x.j (.An ks' (ds'.map .A2)))))):=by
 obtain⟨A6,AA,Ao,BG⟩:=j8 h;obtain⟨o,AH,w⟩:=r.C2 i _ A6;rw[A9]at AH;cases AH;obtain⟨_,Au,ok⟩:=ai AA w;cases Au;have HS:=ok.at_;erw[Ch]at HS;obtain⟨Jq,V_,Gj,As,⟨KL,BW,OY⟩,FI,Ex⟩:=HS;cases As;rw[AD]at OY;cases OY;have Cs:=ok.Cs;have Bm:=ok.own;have Cr:Al H (.ins Af x.ns x.Aw) (.ref a)=a::E6 H x.Aw (xs.map (·.2)):=Lh AD;rw[Cr]at Cs Bm;obtain⟨na,dj⟩:=List.nodup_cons.mp Cs;have ZR:q∈E6 H x.Aw (xs.map (·.2)):=bL BG lv (by rw[Me AV];simp);obtain⟨EA,Cw⟩:=oj AV AE n Ex dj BG lv;have aaS:a≠q:=λz=>na (by rw[z];exact ZR);have V4:upd H q (.An Hb) a=some (.ins C Ag xs):=by rw[Cy aaS];exact AD
 have SC:Al (upd H q (.An Hb)) (.ins Af x.ns (x.Aw.set x.j (.An ks' (ds'.map .A2)))) (.ref a)=a::E6 H x.Aw (xs.map (·.2)):=by rw[Lh V4,Cw]
 refine r.di A6 A9 ((W9 AA).mpr (by rw[Cr];exact Fk _ ZR)) (nU AA w ⟨?_,by rw[SC];exact Cs,by rw[SC];exact Bm⟩) λb LI=>.inl ?_
 .erw[Ch];exact⟨a,Ag,xs,rfl,⟨C,BW,V4⟩,FI,EA⟩
 .have:=(W9 (nV AA)).mp LI;rw[SC,<-Cr]at this;exact(W9 AA).mpr this
def ag3(i:Nat){x Af g:Str}{Ar:List Str}{Cn apos pos':Pos}{k v:AU}{mk mv:Ae}(kc:Nd X.K Af Ar)(BM:X.A.units+64<DS)(AE:B8 X F k mk)(BN:B8 X F v mv)(hf:g∈Ar:=by decide+kernel)(Ap:F.K=X.K:=by rfl)(hN:X.N[i]?=some x:=by rfl)(Re:Gp X.env.scope x:=by rw?)(hd:ζ:=by decide)(DV:(x==("__classdict__" :Str))=false:=by decide)(A0:Hw (.Name x Cn) g X.env (BJ (.Name x Cn) X.env)=BJ (.Name x Cn) X.env:=by rfl):Ep X F (.Assign [.Subscript (.Attribute (.Name x Cn) g apos) k pos'] v pos) (NW i Af g mk mv):=⟨by
 refine DO.imp (mA δ (dK (IM hN Re hd DV) A0) AE.1 BN.1 (pj _ _ _ _ _ _)) ?_;delta NW;refine⟨G,ρ,r,?_⟩;refine rb h λPw As h v H1 Ah AK s1 BD=>?_;cases Cr:KV i Af g ρ with
 |bad=>rw[Cr]at h;cases h
 |exc c=>exact(j7 Cr).elim
 |ok y=>
  rw[Cr,R.EU]at h;obtain⟨a,C,Ag,xs,q,ys,A9,BW,AD,FI,Ex,lk,lv,AV,DD,al,_⟩:=AK.fd Cr;obtain⟨KL,Cg,By,Fm⟩:=kc.ex;rw[Ap]at BW;have:=BW.inj Cg;subst this;refine⟨.ref a,A9,a,C,Ag,xs,.ref q,rfl,AD,By,Fm g hf,lk,Ah,ρ,AK,?_⟩;refine rb h λLg BS h z Am CL B7 s2 Cq=>?_;have V4:=s2.h _ _ AD;have Rd:=s2.h _ _ AV;unfold Z7 at h
  split at h
  .rename_i BY bu;obtain⟨b,rfl,A0⟩:=Oj bu Cq;have Xh:=al.mono s2.g;unfold putD at h
   split at h
   .rename_i AO;obtain⟨Jz,F2⟩:=AO;rw[<-DD]at Jz F2;have AQ:F5 ys BY=none:=by
     have:=Wg BY ys;rw[Jz]at this;exact Option.not_isSome_iff_eq_none.mp (by rw[this];exact Fy)
    refine⟨q,_,rfl,Pe.t Rd (No A0 B7.kp.sub) (LZ (F2:) ε),?_⟩;rw[dT _ AQ];refine h σ CL _ (B7.iY Cr (ks':=y.ks++[BY]) (ds':=y.ds++[Pw]) A9 V4 lv Rd (by rw[<-DD];simp) ?_) (s1.g.trans s2.g);rw[Hy];exact Xh.snoc (BD.mono s2.g)
   .split at h
    .rename_i AO;obtain⟨Jz,F2⟩:=AO;rw[<-DD]at Jz F2;refine⟨q,_,rfl,Pe.t Rd (No A0 B7.kp.sub) (LZ (F2:) ε),?_⟩;have BV:Bs.putK ys BY v=ys.map (λD2=>if D2.1=BY then(D2.1,v)else D2):=by
      unfold Bs.putK;rw[PQ]at Jz;exact if_pos Jz
     rw[BV];refine h σ CL _ (B7.iY Cr (ks':=y.ks) (ds':=SK y.ks y.ds BY Pw) A9 V4 lv Rd ?_ ?_) (s1.g.trans s2.g)
     .rw[<-DD,IU];refine List.map_congr_left λD2 _=>?_;show(if D2.1=BY then(D2.1,v)else D2).1=D2.1
      split<;>rfl
     .rw[<-DD];exact aa (BD.mono s2.g) Xh
    .exact h.elim
  .exact h.elim⟩
end
noncomputable def TL(Af f:Str)(t:T)(ρ:AI):Option Bb->R FQ
 |some (.Bg k (.ins c ns Aw))=>if c=Af/\ns.all (λk=>!(f==k))=true/\ns.length<1000 then .ok (.B6 (ρ.set 0 (.Bg k (.ins Af (ns++[f]) (Aw++[t])))))else .bad
 |_=>.bad
def Qa(Af f:Str)(m:Ae):B0:=λρ=>(m ρ).bind λd=>TL Af f (.A2 d) ρ (ρ[0]? :Option Bb)
def TX(Af f:Str):B0:=λρ=>TL Af f (.An [] []) ρ (ρ[0]? :Option Bb)
section
variable{F:BA}{G H:AB}{σ :Bs.St}{ρ:AI}
def Rel.ib(r:Rel F G H σ ρ){k:Nat}{Af f:Str}{ns:List Str}{Aw:List T}{t:T}{a C Ag:A8}{xs:List (Str×V)}{v:V}(e:ρ[0]?=some (.Bg k (.ins Af ns Aw)))(As: σ[0]?=some (some (.ref a)))(AD:H a=some (.ins C Ag xs))(AQ:ns.all (λk=>!(f==k))=true)(at_:Ch F.K G H t v)(Cs:(Al H t v).Nodup)(no:∀b∈Al H t v,G b=none/\F.H0 b=none/\¬Cc H σ ρ b) :
  Rel F G (upd H a (.ins C Ag (HM f v xs))) σ (ρ.set 0 (.Bg k (.ins Af (ns++[f]) (Aw++[t])))):=by
 obtain⟨o,A9,v0,rfl,ok,AZ⟩:=r.C2 0 _ e;rw[As]at A9;cases A9;have HS:=ok.at_;erw[Ch]at HS;obtain⟨Jq,V_,Gj,z,⟨KL,BW,OY⟩,FI,Ex⟩:=HS;cases z;rw[AD]at OY;cases OY;have kX:=ok.Cs;have dF:=ok.own;have Cr:Al H (.ins Af ns Aw) (.ref a)=a::E6 H Aw (xs.map (·.2)):=Lh AD;rw[Cr]at kX dF;obtain⟨na,dj⟩:=List.nodup_cons.mp kX;have own:∀b∈a::E6 H Aw (xs.map (·.2)),Cc H σ ρ b:=λb A0=>⟨0,_,_,e,As,.ref a,rfl,by rw[Cr];exact A0⟩;have nat:a∉Al H t v:=λz=>(no a z).2.2 (own a γ);have BV:HM f v xs=xs++[(f,v)]:=aW (by rw[FI];exact AQ);rw[BV];obtain⟨Cg,By⟩:=Ex.keep (H':=upd H a (.ins C Ag (xs++[(f,v)]))) λb A0=>Cy λz=>na (by rw[<-z];exact A0);obtain⟨Fm,Oh⟩:=at_.keep (H':=upd H a (.ins C Ag (xs++[(f,v)]))) λb A0=>Cy λz=>nat (by rw[<-z];exact A0);obtain⟨EA,Cw⟩:=Bu.append Cg (Bu.cons Fm Bu.nil);have em:(xs++[(f,v)]).map (·.2)=xs.map (·.2)++[v]:=γ
 have SC:Al (upd H a (.ins C Ag (xs++[(f,v)]))) (.ins Af (ns++[f]) (Aw++[t])) (.ref a)=a::(E6 H Aw (xs.map (·.2))++Al H t v):=by rw[Lh Da,em,Cw,By,Ho,Oh,TM,LO]
 refine r.di e As ⟨.ref a,rfl,by rw[Cr];simp⟩ ⟨.ref a,rfl,⟨?_,?_,?_⟩,AZ⟩ λb LI=>?_
 .erw[Ch];exact⟨a,Ag,_,rfl,⟨C,BW,Da⟩,by simp[FI],by rw[em];exact EA⟩
 .rw[SC];refine List.nodup_cons.mpr ⟨λz=>?_,List.nodup_append.mpr ⟨dj,Cs,λb A0 c AO z=>(no c AO).2.2 (own c (by rw[<-z];exact Fk _ A0))⟩⟩;rcases List.mem_append.mp z with z|z
  .exact na z
  .exact nat z
 .rw[SC];intro b A0;rcases List.mem_cons.mp A0 with rfl|A0
  .exact dF b γ
  .rcases List.mem_append.mp A0 with A0|A0
   .exact dF b (Fk _ A0)
   .exact⟨(no b A0).1,(no b A0).2.1⟩
 .obtain⟨u,LH,A0⟩:=LI;cases LH;rw[SC]at A0;rcases List.mem_cons.mp A0 with rfl|A0
  .exact .inl ⟨.ref b,rfl,by rw[Cr];simp⟩
  .rcases List.mem_append.mp A0 with A0|A0
   .exact .inl ⟨.ref a,rfl,by rw[Cr];exact Fk _ A0⟩
   .exact .inr (no b A0).2.2
end
section
variable{X:Ac}{F:BA}{e:AU}{pos:Pos}{m:Ae}
def agB{Af f x:Str}{Ar:List Str}{Cn pos':Pos}(k:Nd X.K Af Ar)(he:B8 X F e m)(hf:f∈Ar:=by decide+kernel)(hN:X.N[0]?=some x:=by rfl)(BN:Gp X.env.scope x:=by rw?)(hd:ζ:=by decide)(DV:(x==("__classdict__" :Str))=false:=by decide)(AJ:Oz e=true:=by rfl)(Ap:F.K=X.K:=by rfl) :
  Ep X F (.Assign [.Attribute (.Name x Cn) f pos'] e pos) (Qa Af f m):=⟨by
 refine DO.imp (dR (IM hN BN hd DV) he.1 (Lv _ _ _ _ AJ)) ?_;delta Qa;refine⟨G,ρ,r,?_⟩;refine rb h λd As h v H1 Ah AK s1 BD=>?_;unfold TL at h
 split at h
 .rename_i BY c ns Aw CR
  split at h
  .rename_i AO;obtain⟨rfl,F2,TQ⟩:=AO;obtain⟨o,A9,v0,rfl,ok,AZ⟩:=AK.C2 0 _ CR;have HS:=ok.at_;erw[Ch]at HS;obtain⟨a,Ag,xs,rfl,⟨C,BW,AD⟩,FI,Ex⟩:=HS;obtain⟨KL,Cg,By,Fm⟩:=k.ex;rw[Ap]at BW;have:=BW.inj Cg;subst this;refine⟨.ref a,A9,a,C,Ag,xs,rfl,AD,By,Fm f hf,by have:=congrArg R4 FI;simp at this;lia,?_⟩;exact h σ Ah _ (AK.ib CR A9 AD F2 (t:=.A2 d) (by erw[Ch];exact BD) (by simp[Al]) (by simp[Al])) s1.g
  .exact h.elim
 .exact h.elim⟩
def agC{Af f x:Str}{Ar:List Str}{Cn pos' q:Pos}(k:Nd X.K Af Ar)(hf:f∈Ar:=by decide+kernel)(hN:X.N[0]?=some x:=by rfl)(BN:Gp X.env.scope x:=by rw?)(hd:ζ:=by decide)(DV:(x==("__classdict__" :Str))=false:=by decide)(Ap:F.K=X.K:=by rfl) :
  Ep X F (.Assign [.Attribute (.Name x Cn) f pos'] (.Dict [] [] q) pos) (TX Af f):=⟨by
 refine DO.imp (dR (IM hN BN hd DV) lu (Lv _ _ _ _ rfl)) ?_;rintro CC σ H ⟨G,ρ,r,h⟩;unfold TX TL at h;intro p VF
 split at h
 .rename_i BY c ns Aw CR
  split at h
  .rename_i AO;obtain⟨rfl,F2,TQ⟩:=AO;have AK:=r.lay0 (o:=.An []) VF;obtain⟨o,A9,v0,rfl,ok,AZ⟩:=AK.C2 0 _ CR;have HS:=ok.at_;erw[Ch]at HS;obtain⟨a,Ag,xs,rfl,⟨C,BW,AD⟩,FI,Ex⟩:=HS;obtain⟨KL,Cg,By,Fm⟩:=k.ex;rw[Ap]at BW;have:=BW.inj Cg;subst this;refine⟨.ref a,A9,a,C,Ag,xs,rfl,AD,By,Fm f hf,by have:=congrArg R4 FI;simp at this;lia,?_⟩;have ie:Al (upd H p (.An [])) (.An [] []) (.ref p)=[p]:=by rw[Me Da,TM]
   exact h σ G _ (AK.ib CR A9 AD F2 (t:=.An [] []) (v:=.ref p) (by erw[Ch];exact⟨p,[],rfl,Da,rfl,Bu.nil⟩) (by rw[ie];simp) (by rw[ie];intro b A0;rw[List.mem_singleton.mp A0];exact⟨r.kp.sub.gone VF,r.kp.B4.gone VF,Cc.fresh r (Sub.upd VF) VF⟩)) (Sub.refl _)
  .exact h.elim
 .exact h.elim⟩
end
def yT(F:BA)(x:A8)(Q:Cd):R T->Prop
 |.ok t=>∀G' H',FR F G' H'->MY F G' H' t (.ref x)->Q .non H'
 |_=>False
noncomputable def ed(K:Aa)(Af:Str)(n:Nat)(BQ:μ->R T):AX:=λvs H Q E=>∃G x C Ag A4 ws,vs=.ref x::ws/\G1 K Af C/\H x=some (.ins C Ag [])/\G x=none/\Sub G H/\AW K G A4 ws/\A4.length=n/\yT ⟨K,G,HC H [x],λ_ _=>False,IK⟩ x Q (BQ A4)
noncomputable def l6:D×T->R T
 |(.non,t)=>.ok t
 |_=>.bad
noncomputable def a0(Af:Str)(N:Nat)(m:B0)(A4:μ):R T:=(QY N m (.ins Af [] []) A4).bind l6
def adG{K:Aa}{Af:Str}{n N:Nat}{m:B0}:∀vs H Q E,ed K Af n (a0 Af N m) vs H Q E->WF K n (QY N m) vs H Q E:=λvs H Q E h=>by
 obtain⟨G,x,C,Ag,A4,ws,rfl,HJ,A6,AA,s,BD,l,k⟩:=h;have Cr:Al H (.ins Af [] []) (.ref x)=[x]:=by rw[Lh A6,TM]
 refine⟨G,.ins Af [] [],.ref x,A4,ws,rfl,s,?_,by rw[Cr];simp,by rw[Cr];intro b A0;rw[List.mem_singleton.mp A0];exact AA,BD,l,?_⟩
 .erw[Ch];exact⟨x,Ag,[],rfl,⟨C,HJ,A6⟩,rfl,Bu.nil⟩
 .rw[Cr];unfold a0 at k;cases e:QY N m (.ins Af [] []) A4 with
  |bad=>rw[e]at k;cases k
  |exc c=>rw[e]at k;cases k
  |ok y=>
   rw[e,R.EU]at k;obtain⟨d,t⟩:=y;cases d with
   |non=>intro u G' H' kp LB ok;erw[At]at LB;subst LB;exact k G' H' kp ok
   |_=>cases k
structure h9(P:Bx)(w:Bj)(K:Aa)(mg:Str->Option A7)(base:BI)(Af:Str)(n k:Nat)(BQ:μ->R T):Prop where
 ex:∃(C f:A8)(fd:GF)(Ai:List Str),G1 K Af C/\Uk K C f/\Gl P w K mg base H6 k f fd Ai (ed K Af n BQ)/\mg Af=some (.ref C)/\Binds K fd Ai []
def agW{P:Bx}{w:Bj}{K:Aa}{mg:Str->Option A7}{base:BI}{qual Af FN JT:Str}{st:Be}{N Ai:List Str}{k:Nat}{m:B0}(d:InK K mg Af qual st (FN::Ai))(S:Cj (JT::N) (FN::Ai) (C0 st))(h:∀(f:A8)(CG:A7)(A:CK)(outer:List Env)(s:AP)(H:AB)(E:DT),Cm k (A.deeper (Nw qual (C0 st) s.heap.objs.size f CG))->∀G0 H0 v,KQ (Jt H6 P w K mg base (JT::N) qual (C0 st) f CG A outer s H E).Kw (Uy K G0 H0 v) (GS st) m) :
  h9 P w K mg base Af Ai.length (k+1) (a0 Af (N.length+1) m):=by
 obtain⟨C,f,fd,A6,AA,Ao,BG,Er⟩:=d.ex;refine⟨C,f,fd,FN::Ai,A6,AA,Gl.imp (Ao.ok S pW λCG A outer s H vs Q E B5 AJ=>?_) adG,BG,Er⟩;obtain⟨G,H0,v,Aj⟩:=hV AJ;exact⟨_,(h f CG A outer s H E B5 G H0 v).1,Aj⟩
def Tn(n:Nat)(BQ:μ->R T)(ma:B1):Ae:=λρ=>(ma ρ).bind λds=>if ds.length=n then(GL (BQ ds)).bind λt=>.ok (toD t)else .bad
section
variable{X:Ac}{F:BA}{e:AU}{A4:List AU}{pos p:Pos}{ma:B1}
def w3{Af:Str}{n:Nat}{BQ:μ->R T}{C:A8}{E:DT}(HJ:G1 F.K Af C):Ej (Cx F (Tn n BQ ma)) (es C (ed F.K Af n BQ) [] E (Es F ma)):=by
 delta Tn r;refine rb h λds As h vs H1 Ah AK s1 BD x Ag AG b4 ne=>?_;by_cases AQ:ds.length=n
 .rw[if_pos AQ]at h;rw[LO];have QH:Sub H1 (HC (upd (upd H1 Ag (.own x)) x (.ins C Ag [])) [x]):=λb o e=>by
   have Cv:b≠x:=λz=>by rw[z,AG]at e;cases e
   have D8:b≠Ag:=λz=>by rw[z,b4]at e;cases e
   rw[TF (Cv:),Cy Cv,Cy D8];exact e
  have d6:Sub Ah (upd (upd H1 Ag (.own x)) x (.ins C Ag [])):=AK.kp.sub.trans (QH.trans (jJ _ _));refine⟨Ah,x,C,Ag,ds,vs,rfl,HJ,Da,AK.kp.sub.gone AG,d6,BD,AQ,?_⟩;cases em:BQ ds with
  |bad=>rw[em]at h;cases h
  |exc c=>rw[em]at h;cases h
  |ok t=>rw[em]at h;intro G' H' k ok;refine⟨rfl,?_⟩;have B4:Sub H1 H':=QH.trans k.B4;have nw:∀b,H8 H1 b->G' b=Ah b:=λb A0=>k.new b (QH.JC A0);have B7:Rel F G' H' σ ρ:=AK.grow k.EJ k.sub B4 nw;have fr:∀b∈Al H' t (.ref x),H1 b=none:=λb A0=>QH.gone (ok.own b A0).2;obtain⟨t1,DI,t3⟩:=B7.ez (G0:=G) (H0:=H) (by rfl) ok (s1.trans ⟨k.EJ,B4,nw⟩) λb A0=>⟨s1.h.gone (fr b A0),AK.kp.B4.gone (fr b A0),Cc.fresh AK B4 (fr b A0)⟩;exact h (.ref x) H' _ t1 DI t3
 .rw[if_neg AQ]at h;cases h
def afH{Af:Str}{n k:Nat}{BQ:μ->R T}(c:h9 X.prog X.w X.K X.mg X.base Af n k BQ)(B5:Cm (k+1) X.A)(AD:GJ X F (e::A4) ma)(Ap:F.K=X.K:=by rfl)(A_:EE X Af:=by rfl)(GV:(Af==("__debug__" :Str))=false:=by decide)(he:BF (e::A4) X.env=(false,BJ e X.env)::BF A4 X.env:=by rfl)(Dx:(D4 pos (BF A4 X.env)).any (·.1)=false:=by rfl):B8 X F (.Call (.Name Af p) (e::A4) [] pos) (Tn n BQ ma):=⟨by
 have AD:=AD.1;obtain⟨C,f,fd,Ai,BW,Ea,Gu,hm,A0⟩:=c.ex;refine Av.imp (ly Ea Gu B5 A_ hm A0 .nil QD AD GV he Dx) ?_;rw[<-Ap];exact w3 (by rw[Ap];exact BW)⟩
end
noncomputable def T2(i:Nat)(m:HQ):HQ:=λρ=>(ownAt i ρ).bind λ_=>(m ρ).bind λx=>WQ i (λ_=>.ok x.1) x.2
section
variable{X:Ac}{F:BA}{e:AU}{A4:List AU}{pos p:Pos}{m:Ae}{ma:B1}
def agV (i:Nat) {x:Str} {Cn:Pos} {apos:Pos} {Bv:Pos} {m:HQ} (he:Pn X F e m) (hN:X.N[i]?=some x:=by rfl) (BN:Gp X.env.scope x:=by rw?) (hd:ζ:=by decide) (DV:(x==("__classdict__" :Str))=false:=by decide) (Mf:Hw (.Name x Cn) "extend" X.env (BJ (.Name x Cn) X.env)=BJ (.Name x Cn) X.env:=by rfl) (Mi:(apos.endLine==Bv.line)=true:=by rfl) (Mh:((D4 Bv (BF [e] X.env)).all (λx=>!x.1)&&(H5 Bv (H3 [] X.env)).all (λx=>x.1.isSome)
   &&decide (([e]:List AU).length+([]:List FP).length+(if([]:List FP).isEmpty then 0 else 1)<30))=true:=by rfl) (AJ:BF [e] X.env=(false,BJ e X.env)::BF [] X.env:=by rfl) (MJ:(D4 Bv (BF [] X.env)).any (·.1)=false:=by rfl):Pn X F (.Call (.Attribute (.Name x Cn) "extend" apos) [e] [] Bv) (T2 i m):=⟨by
 have he:=he.1;refine Av.imp (W1 U9 qo qp kV (IM hN BN hd DV) (QC he RS AJ) Mf Mh Mi AJ MJ) ?_;rintro σ H Q ⟨G,ρ,r,h⟩;unfold T2 ownAt at h;cases CR:ρ[i]? with
 |none=>rw[CR]at h;cases h
 |some s=>
  rw[CR]at h;cases s with
  |un=>cases h
  |A2 _=>cases h
  |Eg _=>cases h
  |Bg _ _=>cases h
  |ob ob=>
   cases ob with
   |An _ _=>cases h
   |ins _ _ _=>cases h
   |lst ds=>
    obtain⟨q,xs,A9,A6,AA,Ao,BG⟩:=r.own CR;rw[R.EU]at h;refine⟨.ref q,A9,.inl ⟨rfl,xs,CA.of A6⟩,G,ρ,r,?_⟩;cases As:m ρ with
    |bad=>rw[As]at h;cases h
    |exc c=>rw[As]at h;exact h
    |ok y=>
     obtain⟨d,ER⟩:=y;rw[As,R.EU]at h;intro v H1 Ah AK s1 BD;erw[WQ,ownAt]at h;cases OT:ER[i]? with
     |none=>rw[OT]at h;cases h
     |some abl=>
      rw[OT]at h;cases abl with
      |un=>cases h
      |A2 _=>cases h
      |Eg _=>cases h
      |Bg _ _=>cases h
      |ob ob=>
       cases ob with
       |An _ _=>cases h
       |ins _ _ _=>cases h
       |lst Gr=>
        rw[R.EU,R.EU]at h;obtain⟨Gf,Gj,Ee,J0,OX,Q2,HI⟩:=AK.own OT;rw[A9]at Ee;cases Ee;cases d with
        |lst A4=>
         simp only at h
         split at h
         .rename_i AN;erw[At]at BD;obtain⟨Cw,ys,rfl,g2,BC⟩:=BD;refine⟨q,Cw,Gj,ys,rfl,rfl,J0,AK.kp.sub _ _ g2,by rw[<-HI.length,<-BC.length,ME];lia,?_⟩;exact h .non _ Ah (AK.mut OT A9 (HI.append BC)) s1 (by erw[At])
         .exact h.elim
        |_=>exact h.elim⟩
end
section
variable{X:Ac}{F:BA}{e:AU}{pos:Pos}{m n:Ae}
end
end CP
namespace LE
open PySem
def Rv(h:BI)(d:A8)(A4:Array MG):Prop:=∃o,h.get? d=some o/\o.ExactDict/\o.data=.dict A4 A4.size
def Rv.typeIs{s:AP}{d:A8}{A4:Array MG}(x:Rv s.heap d A4):s.TypeIs (.ref d) "dict":=let⟨o,ho,c,_⟩:=x;⟨o,ho,c.1⟩
section
variable{prog:Bx}{w:Bj}{A:CK}{E:A7->AP->Prop}{s:AP}{A4:Array MG}
def WC{a:A8}{c:A7}{vs:Array A7}{i:Nat}{x:A7}{Q:Unit->AP->Prop}(ho:s.heap.get? a=some { cls:=c,data:=.fields vs })(AC:i<vs.size)(DU:∀h',h'.get? a=some { cls:=c,data:=.fields (vs.setIfInBounds i x) }->h'.objs.size=s.heap.objs.size->(∀b o,b≠a->s.heap.get? b=some o->h'.get? b=some o)->Q () { s with heap:=h' }) :
  Ad (B2 prog w) A (setField (.ref a) i x) Q E s:=by
 refine Sh ho rfl AC (DU _ ?_ ?_ λb o A0 e=>(LS ..).2 b A0|>.trans e)
 .rw[PH _ ho (fS (UQ rfl _))];rfl
 .exact(LS ..).1
def wy {it d:A8} {i:Nat} {ok D6:A7} {Q:Option A7->AP->Prop} (hit:IsItemIter s.heap it d i A4.size A4.size ok D6) (hm:Rv s.heap d A4) (cj:i<A4.size)(DU:∀h',IsItemIterOut h' it d (i+1) A4.size A4.size A4[i].key A4[i].val s.heap.objs.size->h'.get? s.heap.objs.size=some { cls:=.type "tuple",data:=.seq #[A4[i].key,A4[i].val] }->h'.objs.size=s.heap.objs.size+1->
    (∀b o,b≠it->s.heap.get? b=some o->h'.get? b=some o)->Q (some (.ref s.heap.objs.size)) { s with heap:=h' }) :
  Ad (B2 prog w) A (JN (.ref it)) Q E s:=by
 have CM:s.TypeIs (.ref it) "dict_itemiterator":=⟨_,hit,rfl⟩;obtain⟨EL,Mj,DV,Mg⟩:=id hm;unfold JN
 refine AL (Qw (Mv (name:=En "__next__") CM Wn
  (Iu Wn CM qX ?_ (qW _))))
 refine AL (Ay ?_);refine AL ?_;refine AL ?_;refine AL (Ws CM (Ay ?_));refine AL (XO hit rfl ?_);have Oc:UD "dict_itemiterator"=true:=ε
 erw[Oc,if_true];show Ad _ _ (if(DR d==GD)=true then _ else _) _ _ s;rw[if_neg (show¬((DR d==GD)=true)from Fy)];refine AL (Ay ?_);refine AL (Qo Mj Mg ?_);rw[if_neg γ];refine AL (Ay ?_);refine AL (Sg Mj Mg ?_);rw[if_neg γ];refine Ay ?_;erw[show¬((i:Int)<0)from δ,if_false,Mr,UE cj];refine AL ?_;refine AL (Ws CM (Ay ?_));refine AL (f9 CM ?_);show Ad _ _ (setField (.ref it) 3 (Kg ((i:Int)+1))>>=_) _ _ s;refine AL (WC hit γ λA6 g1 Db Cg=>?_);have kJ:Shared.TypeIs { s with heap:=A6 } (.ref it) "dict_itemiterator":=⟨_,g1,rfl⟩;refine AL (K2 ?_);refine AL (f9 kJ ?_);show Ad _ _ (Builtin.Dict_items.isOneOf _ _>>=_) _ _ _;refine AL (f9 kJ ?_);show Ad _ _ (qH (.ref it) 6 A4[i].key A4[i].val) _ _ _;unfold qH;refine AL (g0 ?_);have g2:(A6.push { cls:=.type "tuple",data:=.seq #[A4[i].key,A4[i].val] }).get? it=_:=DM _ g1;have DI:(A6.push { cls:=.type "tuple",data:=.seq #[A4[i].key,A4[i].val] }).get? s.heap.objs.size=some { cls:=.type "tuple",data:=.seq #[A4[i].key,A4[i].val] }:=by rw[<-Db];exact FE _ rfl
 have Dj:(A6.push { cls:=.type "tuple",data:=.seq #[A4[i].key,A4[i].val] }).objs.size=s.heap.objs.size+1:=by rw[<-Db];simp[Heap.push]
 have By:∀b o,b≠it->s.heap.get? b=some o->(A6.push { cls:=.type "tuple",data:=.seq #[A4[i].key,A4[i].val] }).get? b=some o:=λb o A0 e=>DM _ (Cg b o A0 e);have ne:s.heap.objs.size≠it:=λz=>by exact absurd z (Mw (De hit))
 generalize A6.push { cls:=.type "tuple",data:=.seq #[A4[i].key,A4[i].val] }=AA at g2 DI Dj By |-;rw[Db];unfold Builtin.Dict_items.ownedTupleIsFree;refine AL (AL (Hf g2 rfl (x:=.none) γ (Ay ?_)));refine AL (Hf g2 rfl (x:=ok) γ ?_);refine AL (Hf g2 rfl (x:=D6) γ ?_);refine AL (WC g2 γ λAo g3 Q7 Fm=>?_);refine AL (WC g3 γ λBG g4 SZ Oh=>?_);refine AL (WC g4 γ λEr Uz e9 lJ=>?_);refine AL (WC Uz γ λDE OV agu lK=>?_);refine AL (XV (Ay (Ay ⟨_,rfl,Ay (DU DE ?_ ?_ ?_ λb o A0 e=>?_)⟩)))
 .show DE.get? it=_;rw[OV];simp[Kg]
 .exact lK _ _ ne (lJ _ _ ne (Oh _ _ ne (Fm _ _ ne DI)))
 .exact(agu.trans (e9.trans (SZ.trans Q7))).trans Dj
 .exact lK _ _ A0 (lJ _ _ A0 (Oh _ _ A0 (Fm _ _ A0 (By _ _ A0 e))))
def xT{it d:A8}{ok D6:A7}{Q:Option A7->AP->Prop}(B4:A.handled=none)(hit:IsItemIter s.heap it d A4.size A4.size A4.size ok D6)(hm:Rv s.heap d A4)(DU:∀h',Heap.ExtBut it s.heap h'->Q none { s with heap:=h' }):Ad (B2 prog w) A (JN (.ref it)) Q E s:=by
 have CM:s.TypeIs (.ref it) "dict_itemiterator":=⟨_,hit,rfl⟩;obtain⟨EL,Mj,DV,Mg⟩:=id hm;unfold JN
 refine AL (Qw (Mv (name:=En "__next__") CM Wn
  (Iu Wn CM qX ?_ (qW _))))
 refine AL (Ay ?_);refine AL ?_;refine AL ?_;refine AL (Ws CM (Ay ?_));refine AL (XO hit rfl ?_);have Oc:UD "dict_itemiterator"=true:=ε
 erw[Oc,if_true];show Ad _ _ (if(DR d==GD)=true then _ else _) _ _ s;rw[if_neg (show¬((DR d==GD)=true)from Fy)];refine AL (Ay ?_);refine AL (Qo Mj Mg ?_);rw[if_neg γ];refine AL (Ay ?_);refine AL (Sg Mj Mg ?_);rw[if_neg γ];refine Ay ?_;erw[show¬((A4.size:Int)<0)from δ,if_false,Mr,qg (CY A4.size)];refine AL ?_;refine AL (Ws CM (Ay ?_));show Ad _ _ (setField (.ref it) 2 .none>>=_) _ _ s;refine AL (Sh hit rfl γ ?_);show Ad _ _ (newExc (.type "StopIteration") []>>=_) _ _ _;refine AL ?_;erw[newExc,newTuple];refine AL (JL ?_ (by size_fits));refine AL (m:=Si _ _) (wpAny_of_eq (a:=GD) (by first|rfl|(erw[Si];rfl)) ?_);refine JL ?_ (by size_fits);erw[raiseNew];refine AL (wpAny_handled ?_);rw[show A.in1.handled=none from B4];refine AL (Ay (wpAny_throw ?_));refine AL (Qr (T:="StopIteration") (b:=true) ⟨_,FE _ rfl,rfl⟩ g5 ?_);exact Ay (DU _ (((LS ..).extBut.push _).push _))
theorem x2{d:A8}{Q:A7->AP->Prop}(hd:(d==He)=false)(hm:Rv s.heap d A4)(DU:Q (.ref s.heap.objs.size) { s with heap:=s.heap.push { cls:=.type "dict_items",data:=.fields #[.ref d] } }) :
  Ad (B2 prog w) A (call (.builtin "dict.items") [.ref d]) Q E s:=by
 have CM:s.TypeIs (.ref d) "dict":=hm.typeIs;refine UR F.slot_dict_items CM F.entry_dict_items (F.args_dict_items_1 _) (S:=λA R s=>s.TypeIs (.ref d) "dict"/\R (.ok (.ret (.ref s.heap.objs.size))) { s with heap:=s.heap.push { cls:=.type "dict_items",data:=.fields #[.ref d] } }) (MeetsIn.of_wp λA R s⟨CM,h⟩=>?_) ⟨CM,DU⟩;unfold MH.«dict.items» Builtin.Dict.noArgs;refine AL (AL (X3 CM ?_));show Ad _ _ (pure _) _ _ _;refine Ay ?_;unfold fT;rw[if_neg (by rw[hd];exact Fy)];refine AL (Ay ?_);exact AL (JL (Ay ⟨_,rfl,h⟩))
theorem wz{v d:A8}{Q:A7->AP->Prop}(BN:s.heap.IsItemsView v d)(hm:Rv s.heap d A4)(DU:Q (.ref s.heap.objs.size) { s with heap:=s.heap.push { cls:=.type "dict_itemiterator",data:=.fields #[.none,.bool false,.ref d,.int 0 0,.int A4.size 0,.int A4.size 0,.none,.none] } }) :
  Ad (B2 prog w) A (pyIter (.ref v)) Q E s:=by
 obtain⟨o,ho,AO,V9⟩:=hm;obtain⟨D6,wi,aiX,vO⟩:=id BN;refine fk BN.typeIs F.slot_dict_items_iter (Iu F.slot_dict_items_iter BN.typeIs F.entry_dict_items_iter ?_ (F.args_dict_items_iter_1 _));unfold MH.«dict_items.__iter__»;refine AL ?_;show Ad _ _ (pure (DR v)) _ _ s;refine Ay ?_;refine AL ?_;unfold Builtin.Dict_items.dictOf;refine AL (Hf wi vO (x:=.ref d) γ (Ay ?_));unfold Builtin.Dict_items.newIterator;refine AL (AL (Qo ho V9 ?_));refine AL (Sg ho V9 ?_);have Oc:UD "dict_itemiterator"=true:=ε
 erw[Oc,if_true,Builtin.Dict_items.ownedTupleFields,newFields];refine JL (Ay ⟨_,rfl,"dict_itemiterator",_,⟨_,FE _ rfl,rfl⟩,F.slot_dict_itemiterator_next.lookup,?_⟩) (by show _<=_;simp;decide);exact DU
end
end LE
namespace Bs
open PySem PySem.Spec
theorem dQ{α β:Type}{R:α->β->Prop}:∀{l:List α}{m:List β},Paired R l m->∀(i:Nat) a b,l[i]?=some a->m[i]?=some b->R a b
 |_,_,.nil,i,a,b,e,_=>by simp at e
 |_,_,.cons h t,0,a,b,A9,AH=>by simp at A9 AH;subst A9 AH;exact h
 |_,_,.cons h t,i+1,a,b,A9,AH=>dQ t i a b (A9:) (AH:)
noncomputable def h1(d:A8)(n:Nat):It:=⟨λi H=>∃Ab,H d=some (.An Ab)/\Ab.length=n/\i<n,
 λi H v H'=>∃p b k y,H p=none/\H'=upd H p (.tup [.ref b,y])/\v=.ref p/\(k.length≠1->Jo H k b)/\∀Ab,H d=some (.An Ab)->Ab[i]?=some (k,y),λi H=>∃Ab,H d=some (.An Ab)/\Ab.length=n/\n=i⟩
def aY{X:Ac}{pins:List (A8×Obj)}{σ :St}{H:AB}{s:AP}{d:A8}{Ab:List (Bf×V)}(I:θ)(hd:H d=some (.An Ab)) :
  ∃xs A4,KT X.K H Ab xs/\LE.Rv s.heap d A4/\A4.toList=xs.map (PN (KJ X.prog X.w))/\A4.size=Ab.length/\(d==He)=false:=by
 obtain⟨_,Ba,xs,kt,o,A4,BV,A6,AA,Ao,BG,_,_,Er⟩:=TG I.BZ I.E9 (.inl hd);subst Er;refine⟨xs,A4,kt,⟨o,A6,AA,Ao⟩,BG,?_,Ba⟩;rw[<-UN,BG,GN];exact(Paired.length kt).symm
theorem ae4{P:Bx}{w:Bj}{K:Aa}{elts:List AU}{BY:Nat}{pos:Pos}(it d:A8)(n:Nat) :
  Turn P w K (.Tuple elts BY pos) (h1 d n) [it] it (λi h=>∃ok D6,IsItemIter h it d i n n ok D6) where
 mem:=γ
 obj:=λi h st b A0=>by
  obtain⟨ok,D6,e⟩:=st;obtain rfl:b=it:=(A0:)
  exact⟨_,e,λv z=>by have FY:XT _=Sn v:=z;cases FY⟩
 keep:=λi h h' st k=>by obtain⟨ok,D6,e⟩:=st;exact⟨ok,D6,k it γ _ e⟩
 item:=by
  intro X DF hw Ap AO i pins s σ H E I hf st A_;subst DF hw Ap;obtain⟨Ab,AV,AQ,AC⟩:=A_;obtain⟨ok,D6,hit⟩:=st;obtain⟨xs,A4,kt,E7,he,Aq,Ba⟩:=aY I AV;rw[AQ]at Aq;subst Aq;refine LE.wy hit E7 AC λh' ho Aj AJ AE=>?_;refine⟨_,rfl,wpAny_letOwnedTupleGo_items ho λAA vW Fd=>?_⟩;have CM:s.heap.objs.size∉[it]:=λz=>by
   obtain rfl:s.heap.objs.size=it:=(z:)
   exact absurd (De hit) (K3 _)
  have keep:∀b o,b∉[it]->s.heap.get? b=some o->AA.get? b=some o:=λb o A0 q=>(Fd.2 b (A0:)).trans (AE b o (A0:) q);obtain⟨D2,Vb⟩:∃D2,Ab[i]?=some D2:=⟨_,Dt δ⟩;obtain⟨q,eq,AK,B7,DW⟩:∃q,xs[i]?=some q/\D2.1=q.1/\I1 X.K H D2.1 q.2.1/\RelV D2.2 q.2.2:=by
   have AN:=Paired.length kt;have Zw:i<xs.length:=δ
   exact⟨xs[i],Dt Zw,dQ kt i _ _ Vb (Dt Zw)⟩
  have bt:A4[i]=PN (KJ X.prog X.w) q:=by
   have:A4.toList[i]?=some (PN (KJ X.prog X.w) q):=by rw[he,EC,eq];rfl
   rw[UC,UE AC]at this;exact Ey this
  have VG:Wt AA s.heap.objs.size (#[.ref q.2.1,q.2.2]:Array A7):=by have:=(Fd.2 _ (CM:)).trans Aj;rw[bt]at this;exact⟨_,this,rfl,_,rfl⟩
  have w_:H s.heap.objs.size=none:=I.BZ.fresh (CY _);have Bl:Inv X pins σ (upd H s.heap.objs.size (.tup [.ref q.2.1,D2.2])) { s with heap:=AA }:=I.eC (its:=[.ref q.2.1,q.2.2]) (ch:=[it]) (t':=s.toks) keep hf (CY _) VG (.cons rfl (.cons DW .nil)) (by show 2<=CD;decide);refine⟨.ref s.heap.objs.size,_,Bl,rfl,⟨s.heap.objs.size,q.2.1,D2.1,D2.2,w_,rfl,rfl,λz=>B7.elim id λ⟨x,_,_,_,Au,_⟩=>absurd (by rw[Au];rfl) z,λks AE=>by rw[AV]at AE;cases AE;exact Vb⟩,⟨_,_,vW⟩,λb A0=>?_⟩;have nb:b≠s.heap.objs.size:=λz=>CM (z▸A0);rw[Cy nb];exact(hf b A0).1
 done:=by
  intro X DF hw Ap AO i pins s σ H E I hf st A_;subst DF hw Ap;obtain⟨Ab,AV,AQ,AC⟩:=A_;obtain⟨ok,D6,hit⟩:=st;obtain⟨xs,A4,kt,E7,he,Aq,Ba⟩:=aY I AV;have A9:n=A4.size:=δ
  subst A9 AC;refine LE.xT (I.ok.hd AO) hit E7 λh' AE=>⟨rfl,I.Vq (ch:=[it]) (t':=s.toks) (λb o A0 q=>AE b o (A0:) q) hf⟩
 self:=λA i s Q E st h=>by obtain⟨ok,D6,hit⟩:=st;have CM:s.TypeIs (.ref it) "dict_itemiterator":=⟨_,hit,rfl⟩;refine fk CM qN (Iu qN CM (show entryFor table "dict_itemiterator.__iter__"=some MH.«dict_keyiterator.__iter__» by kernel_rfl) ?_ (F.args_dict_itemiterator_iter_1 _));show Ad _ _ (pure _) _ _ _;exact Ay ⟨_,rfl,"dict_itemiterator",_,CM,F.slot_dict_itemiterator_next.lookup,h⟩
section
variable{X:Ac}{elts:List AU}{BY:Nat}{QT:Pos}
def jx(E_:TE):TI:=λσ H R=>E_ σ H λv H1=>∃d Ab,v=.ref d/\H1 d=some (.An Ab)/\R (h1 d Ab.length) H1
def ab5{o:AU}{E_:TE}{apos Bv:Pos}(ho:Av X o E_)(A0:Hw o "items" X.env (BJ o X.env)=BJ o X.env)(AN:(apos.endLine==Bv.line)=true)(hf:((D4 Bv (BF [] X.env)).all (λx=>!x.1)&&(H5 Bv (H3 [] X.env)).all (λx=>x.1.isSome)&&decide (([]:List AU).length+([]:List FP).length+(if([]:List FP).isEmpty then 0 else 1)<30))=true:=by rfl)(Aj:D4 Bv (BF [] X.env)=[]:=by rfl) :
  GI X (.Tuple elts BY QT) (.Call (.Attribute o "items" apos) [] [] Bv) (jx E_):=by
 intro pins s σ H R I h;refine XD A0 hf AN Wz PySem.F.slot_dict_items PySem.F.type_dict_items (Bc (ho pins s σ H _ I h) λu s1⟨x,H1,Az,BR,d,Ab,ex,hd,q⟩=>?_);subst ex;obtain rfl:u=DR d:=BR;obtain⟨t1,DI,_⟩:=Zi Az (.inr ⟨Ab,.inl hd⟩);refine⟨t1,DI,?_⟩;rw[Aj];obtain⟨xs,A4,kt,E7,he,Aq,Ba⟩:=aY Az hd;refine UA rfl (PySem.evalArgs_none ?_);refine LE.x2 Ba E7 ?_;have Bl:Inv X pins σ H1 { s1 with heap:=s1.heap.push { cls:=.type "dict_items",data:=.fields #[.ref d] } }:=Az.kept (t':=s1.toks) λb o e=>DM _ e;obtain⟨PD,ahf,ai0,ac3,aiY,cw,_⟩:=aY Bl hd;refine LE.wz ⟨_,FE _ rfl,rfl,rfl⟩ ac3 ?_;refine⟨_,[_],_,_,H1,rfl,Bl.kept (t':=s1.toks) λb o e=>DM _ e,ae4 _ d Ab.length,⟨_,_,by rw[<-cw];exact FE _ rfl⟩,λb A0=>?_,q⟩;obtain rfl:=List.mem_singleton.mp A0;exact Bl.OU (CY _) (Bl.BZ.fresh (CY _))
end
end Bs
namespace CP
open PySem PySem.Spec Bs
noncomputable def Ij:Key->D
 |.inl i=>.int i
 |.inr x=>.str x
noncomputable def Vw:JB->D
 |.inl k=>Ij k
 |.inr ks=>.tup (ks.map Ij)
def lN{K:Aa}{G:AB}(k:Key):At K G (Ij k) (Dm k):=by cases k<;>erw[Ij,At]<;>rfl
theorem lO{K:Aa}{G:AB}:∀ks:List Key,AW K G (ks.map Ij) (ks.map Dm)
 |[]=>.nil
 |k::ks=>.cons (lN k) (lO ks)
theorem Za{K:Aa}{G H:AB}(t:∀b ys,H b=some (.tup ys)->G b=some (.tup ys)):∀{k:Bf}{vs:List V},Paired (Nl H) k vs->AW K G (k.map Vw) vs
 |_,_,.nil=>.nil
 |.inl k::_,_,.cons h r=>.cons (by have h:_=Dm k:=h;rw[h];exact lN k) (Za t r)
 |.inr ks::_,_,.cons h r=>.cons (by obtain⟨b,rfl,e⟩:=h;erw[Vw,At];exact⟨b,_,rfl,t _ _ e,lO ks⟩) (Za t r)
noncomputable def Ss(ks:List Bf)(ds:μ):μ:=(ks.zip ds).map λp=>.tup [.tup (p.1.map Vw),p.2]
noncomputable def Zl:D->R μ
 |.An ks ds=>if ks.all (λk=>k.length !=1)=true then .ok (Ss ks ds)else .bad
 |_=>.bad
def xP{K:Aa}{G:AB}{d:A8}{ds:μ}{Ab:List (Bf×V)}(h:G d=some (.An Ab))(AE:(Ab.map (·.1)).all (λk=>k.length !=1)=true)(q:AW K G ds (Ab.map (·.2))):MV K (h1 d Ab.length) (Ss (Ab.map (·.1)) ds) G where
 go:=λi H s AC=>by
  have AC:i<min Ab.length ds.length:=by simpa[Ss]using AC
  exact⟨Ab,s _ _ h,rfl,δ⟩
 Jd:=λi H v H' s AC y=>by
  obtain⟨p,b,k,y,AZ,rfl,rfl,C8,SX⟩:=y;have ex:=SX Ab (s _ _ h);have AH:(Ab.map (·.2))[i]?=some y:=by rw[EC,ex];rfl
  have A9:(Ab.map (·.1))[i]?=some k:=by rw[EC,ex];rfl
  obtain⟨d',e,a⟩:=q.V2 AH;have aad:k.length≠1:=(List.all_eq_true.mp AE k (Hd A9):)
  refine⟨.tup [.tup (k.map Vw),d'],?_,.inr ⟨p,_,_,AZ,rfl,rfl,rfl,λAh s1 t1=>.cons ?_ (.cons (a.mono s1) .nil)⟩⟩
  .unfold Ss;rw[EC];have SG:((Ab.map (·.1)).zip ds)[i]?=some (k,d'):=by
    rw[qj];exact⟨A9,e⟩
   rw[SG];rfl
  .obtain⟨vs,ev,N5⟩:=C8 aad;erw[At];exact⟨b,vs,rfl,t1 _ _ ev,Za t1 N5⟩
 stop:=λH s=>⟨Ab,s _ _ h,rfl,by simp[Ss,q.length]⟩
def Rm(m:Ae):B1:=λρ=>(m ρ).bind Zl
section
variable{X:Ac}{F:BA}{e:AU}{m:Ae}
def vy:Oq (L3 F (Rm m)) (jx (Cx F m)):=by
 delta Rm r;refine rb h λd As h v H1 Ah AK s1 a=>?_;unfold Zl at h
 split at h
 .split at h
  .rename_i AE;erw[At]at a;obtain⟨q,xs,rfl,AV,rfl,F7⟩:=a;exact⟨q,xs,rfl,AK.kp.sub _ _ AV,h _ H1 Ah AK s1 (xP AV AE F7)⟩
  .exact h.elim
 .exact h.elim
def ahK{elts:List AU}{k:Nat}{Vp apos Bv:Pos}(he:B8 X F e m)(A0:Hw e "items" X.env (BJ e X.env)=BJ e X.env:=by rfl)(AN:(apos.endLine==Bv.line)=true:=by rfl)(hf:((D4 Bv (BF [] X.env)).all (λx=>!x.1)&&(H5 Bv (H3 [] X.env)).all (λx=>x.1.isSome)&&decide (([]:List AU).length+([]:List FP).length+(if([]:List FP).isEmpty then 0 else 1)<30))=true:=by rfl)(Aj:D4 Bv (BF [] X.env)=[]:=by rfl) :
  M_ X F (.Tuple elts k Vp) (.Call (.Attribute e "items" apos) [] [] Bv) (Rm m):=⟨GI.imp (ab5 he.1 A0 AN hf Aj) vy⟩
end
end CP
namespace Bs
open PySem PySem.Spec
noncomputable def ae_(K:Aa)(E_ ty Vr:TE):TE:=λσ H Q=>E_ σ H λx H1=>∃a,x=.ref a/\YA H1 a/\ty σ H1 λy Am=>Vr σ Am λz Cb=>∃Ab k b,Cb a=some (.An Ab)/\y=.ref b/\I1 K Cb k b/\Ab.length<CD/\
 (∀v,F5 Ab k=some v->Q v Cb)/\(F5 Ab k=none->Q z (upd Cb a (.An (putK Ab k z))))
section
variable{X:Ac}{o e f:AU}{apos Bv:Pos}{E_ ty Vr:TE}
def abb(BM:X.A.units+16<DS)(ho:Av X o E_)(he:Av X e ty)(hf:Av X f Vr)(m:M2 X o "setdefault" apos e f Bv):Av X (.Call (.Attribute o "setdefault" apos) [e,f] [] Bv) (ae_ X.K E_ ty Vr):=by
 intro pins s σ H Q I h;refine XD m.base m.few m.line Wz PySem.F.slot_dict_setdefault PySem.F.type_dict_setdefault (Bc (ho pins s σ H _ I h) λu s1⟨x,H1,Az,BR,a,ex,d,Ak⟩=>?_);subst ex;obtain rfl:u=DR a:=BR;obtain⟨t1,DI,_⟩:=Zi Az d;refine⟨t1,DI,?_⟩;rw[m.trees];refine UA rfl (Wv (Sb (Bc (he pins s1 σ H1 _ Az Ak) λFx s2⟨y,Am,Bl,Bt,BC⟩=>
  Sb (Bc (hf pins s2 σ Am _ Bl BC) λaiS s3⟨z,Cb,Dk,ah,Ab,k,b,As,DK,HY,AN,EB,RU⟩=>UH ?_))))
 subst DK;cases(show Fx=DR b from Bt);obtain⟨Aq,hd,xs,rel,D7⟩:=TG Dk.BZ Dk.E9 (.inl As);have AG:xs.length<=CD:=by rw[<-Paired.length rel];exact Aq
 have L4:=rel.val k;refine LE.ad0 (nest_room BM) hd (Zp Dk.BZ Dk.E9 HY) D7 (λp AZ=>?_) (λAQ h' Pv AJ=>?_) AG
 .rw[AZ]at L4;cases ev:F5 Ab k with
  |none=>rw[ev]at L4;cases L4
  |some v=>rw[ev]at L4;exact⟨v,Cb,Dk.tok _,L4,EB v ev⟩
 .have ev:F5 Ab k=none:=by
    rw[AQ]at L4;cases ev:F5 Ab k with
    |none=>rfl
    |some v=>rw[ev]at L4;cases L4
  have LL:(putK Ab k z).length<=CD:=by have:=cU Ab k z;lia
  obtain⟨q,A4,BV,AV,AA,Ao,BG,_,Er⟩:=Pv;refine⟨z,_,Yu (ob:=.An (putK Ab k z)) Dk (by rw[As];exact La) AJ ⟨q,AV⟩ ⟨LL,hd,_,(rel.put k HY ah).keeps λc ys ec=>?_,q,A4,BV,AV,AA,Ao,BG,Er⟩,ah,RU ev⟩;rw[Cy (dk ec As (λz=>nomatch z))];exact ec
end
end Bs
namespace CP
open PySem PySem.Spec Bs
abbrev Ot:=AI->R Bf
def lQ(F:BA)(G H:AB)(σ :Bs.St)(ρ:AI)(Q:Cd):R Bf->Prop
 |.ok k=>∀b H' G',Rel F G' H' σ ρ->C3 G H G' H'->I1 F.K H' k b->Q (.ref b) H'
 |_=>False
def aeb(F:BA)(m:Ot):TE:=λσ H Q=>∃G ρ,Rel F G H σ ρ/\lQ F G H σ ρ Q (m ρ)
structure YJ(X:Ac)(F:BA)(e:AU)(m:Ot):Prop where
 ex:∃t,Av X e t/\∀ σ H Q,aeb F m σ H Q->t σ H Q
noncomputable def dw:Option Bf->R Bf
 |some k=>.ok k
 |none=>.bad
noncomputable def M6(m:Ae):Ot:=λρ=>(GL (m ρ)).bind λd=>dw (Ik d)
noncomputable def c3(x:Str):Ot:=λ_=>.ok [.inl (.inr x)]
noncomputable def bi(i:Nat)(ρ:AI):R (List Bf×μ):=match ρ[i]? with
 |some (.ob (.An ks ds))=>.ok (ks,ds)
 |_=>.bad
noncomputable def NX(i:Nat)(mk:Ot)(mv:Ae):B0:=λρ=>(bi i ρ).bind λx=>(GL (mk ρ)).bind λk=>(GL (mv ρ)).bind λv=>if x.1.any (λy=>decide (y=k))=true then(if x.1.length<1000000 then .ok (.B6 ρ)else .bad)else(putD x.1 x.2 k v).bind λo=>.ok (.B6 (ρ.set i (.ob o)))
section
variable{X:Ac}{F:BA}{e f:AU}{pos Cn apos Bv:Pos}{m:Ae}
def agZ(he:B8 X F e m):YJ X F e (M6 m):=⟨_,he.1,by
 rintro σ H Q ⟨G,ρ,r,h⟩;refine⟨G,ρ,r,?_⟩;unfold M6 at h;cases As:m ρ with
 |bad=>rw[As]at h;cases h
 |exc c=>rw[As]at h;cases h
 |ok d=>
  rw[As]at h;intro v H1 Ah AK s1 a;replace h:lQ F G H σ ρ Q (dw (Ik d)):=h;cases DD:Ik d with
  |none=>rw[DD]at h;cases h
  |some k=>rw[DD]at h;obtain⟨b,rfl,A0⟩:=Oj DD a;exact h b H1 Ah AK s1 (.inl (No A0 AK.kp.sub))⟩
def agY{nm x:Str}(c:Lm X.K X.mg nm (.Do [.str x]))(Ap:F.K=X.K:=by rfl)(A_:EE X nm:=by rfl)(hd:(nm==("__debug__" :Str))=false:=by decide):YJ X F (.Name nm pos) (c3 x):=by
 obtain⟨v,u,hm,CJ,at'⟩:=c.ex;refine⟨_,lx A_ hm CJ hd,?_⟩;rintro σ H Q ⟨G,ρ,r,h⟩;have a:=at' λ_=>none;erw[At,AW]at a;obtain⟨b,xs,rfl,GC,w,BO,rfl,rfl,rfl⟩:=a;refine h b H G r (C3.refl _ _) (.inr ?_);rcases GC with(GC|⟨o,GC⟩)|⟨o,its,n,AE,AO,hd,_,vs⟩
 .cases GC
 .cases GC
 .refine⟨x,o,n,?_⟩;generalize el:its.toList=l at vs;cases vs with
  |cons p q=>
   cases q;obtain⟨t,rfl⟩:=p;have:its= #[.str x t]:=by apply Array.ext';rw[el]
   exact⟨t,rfl,by rw[Ap];exact AE,AO,by rw[hd,this]⟩
def afo(i:Nat){x:Str}{mk:Ot}{mv:Ae}(BM:X.A.units+64<DS)(AE:YJ X F e mk)(BN:B8 X F f mv)(Ap:F.K=X.K:=by rfl)(hN:X.N[i]?=some x:=by rfl)(Re:Gp X.env.scope x:=by rw?)(hd:ζ:=by decide)(DV:(x==("__classdict__" :Str))=false:=by decide)(A0:Hw (.Name x Cn) "setdefault" X.env (BJ (.Name x Cn) X.env)=BJ (.Name x Cn) X.env:=by rfl)(hf:((D4 Bv (BF [e,f] X.env)).all (λx=>!x.1)&&(H5 Bv (H3 [] X.env)).all (λx=>x.1.isSome)&&decide (([e,f]:List AU).length+([]:List FP).length+(if([]:List FP).isEmpty then 0 else 1)<30))=true:=by rfl)(AN:(apos.endLine==Bv.line)=true:=by rfl)(Aj:D4 Bv (BF [e,f] X.env)=[(false,BJ e X.env),(false,BJ f X.env)]:=by rfl) :
  Ep X F (.Expr (.Call (.Attribute (.Name x Cn) "setdefault" apos) [e,f] [] Bv) pos) (NX i mk mv):=⟨by
 obtain⟨C8,P1,VN⟩:=AE.ex;refine DO.imp (aV (abb δ (IM hN Re hd DV) P1 BN.1 ⟨A0,hf,AN,Aj⟩)) ?_;rintro CC σ H ⟨G,ρ,r,h⟩;unfold NX bi at h
 split at h
 .rename_i ks ds CR;obtain⟨q,ho,A9,h0,_,_,ag2,rfl,_⟩:=r.obj CR;refine⟨.ref q,A9,q,rfl,.inr ⟨ag2,.inl h0⟩,VN σ H _ ⟨G,ρ,r,?_⟩⟩;rw[R.EU]at h;cases DD:mk ρ with
  |bad=>rw[DD]at h;cases h
  |exc c=>rw[DD]at h;cases h
  |ok k=>
   rw[DD]at h;intro b H1 Ah AK s1 HY;refine⟨Ah,ρ,AK,?_⟩;cases ev:mv ρ with
   |bad=>rw[ev]at h;cases h
   |exc c=>rw[ev]at h;cases h
   |ok Pw=>
    rw[ev]at h;intro z Am CL B7 s2 ND;obtain⟨Gf,EF,Ee,A6,AA,Ao,xs,rfl,rfl,al⟩:=B7.obj CR;rw[A9]at Ee;cases Ee;replace h:Fe F G CC (if(xs.map (·.1)).any (λy=>decide (y=k))=true then(if(xs.map (·.1)).length<1000000 then .ok (.B6 ρ)else .bad)else(putD (xs.map (·.1)) ds k Pw).bind λo=>.ok (.B6 (ρ.set i (.ob o)))):=h;have vs:=Wg k xs;have kb2:I1 X.K Am k b:=by rw[<-Ap];exact HY.mono λb ys e=>s2.h _ _ e
    split at h
    .rename_i AO;rw[AO]at vs
     split at h
     .rename_i LL;exact⟨xs,k,b,A6,rfl,kb2,LZ (LL:) ε,λv _=>h σ CL Am B7 (s1.g.trans s2.g),λz=>by rw[z]at vs;cases vs⟩
     .exact h.elim
    .rename_i AO;have AO:(xs.map (·.1)).any (λy=>decide (y=k))=false:=Bool.eq_false_iff.mpr AO;have AQ:F5 xs k=none:=by
      rw[AO]at vs;exact Option.not_isSome_iff_eq_none.mp (by rw[vs];exact Fy)
     unfold putD at h
     split at h
     .rename_i F2;refine⟨xs,k,b,A6,rfl,kb2,LZ (F2.2:) ε,λv ev=>(by rw[AQ]at ev;cases ev),λ_=>?_⟩;rw[dT _ AQ];refine h σ CL _ (B7.Tz CR A9 ⟨xs++[(k,z)],rfl,γ,?_⟩) (s1.g.trans s2.g);rw[Hy];exact al.snoc ND
     .rename_i F2
      split at h
      .rename_i TQ;rw[AO]at TQ;cases TQ.1
      .exact h.elim
 .exact h.elim⟩
end
end CP
namespace Bs
open PySem PySem.Spec
def hA(K:Aa)(H:AB)(k:Bf)(b:A8):Prop:=Jo H k b\/∃x,k=[.inl (.inr x)]/\CT K H b [.str x]
def yf{X:Ac}{pins:List (A8×Obj)}{σ :St}{H:AB}{s:AP}{k:Bf}{b:A8}(I:θ)(e:hA X.K H k b):(KJ X.prog X.w).is s.heap k b:=by
 rcases e with e|⟨x,rfl,GC⟩
 .exact Rg I.BZ e
 .obtain⟨its,vs,⟨o,ho,AO,n,hd⟩,_⟩:=I.tuple GC;cases vs with
  |cons p q=>cases q;obtain⟨t,rfl⟩:=p;exact⟨o,_,n,ho,AO,hd,(GG.cons (k:=.inl (.inr x)) (cF x t) .nil:)⟩
def aeY(K:Aa)(E_ ty:TE):TE:=λσ H Q=>E_ σ H λx H1=>∃a,x=.ref a/\YA H1 a/\ty σ H1 λy Am=>∃Ab k b,Eo Am a (.An Ab)/\y=.ref b/\hA K Am k b/\Q ((F5 Ab k).getD .non) Am
def aba{X:Ac}{o e:AU}{apos Bv:Pos}{E_ ty:TE}(BM:X.A.units+16<DS)(ho:Av X o E_)(he:Av X e ty)(m:iI X o "get" apos e Bv):Av X (.Call (.Attribute o "get" apos) [e] [] Bv) (aeY X.K E_ ty):=by intro pins s σ H Q I h;refine XD m.base m.few m.line Wz U8 qi (Bc (ho pins s σ H _ I h) λu s1⟨x,H1,Az,BR,a,ex,d,Ak⟩=>?_);subst ex;obtain rfl:u=DR a:=BR;obtain⟨t1,DI,_⟩:=Zi Az d;refine⟨t1,DI,?_⟩;rw[m.trees];refine UA rfl (Wv (Sb (Bc (he pins s1 σ H1 _ Az Ak) λFx s2⟨y,Am,Bl,Bt,Ab,k,b,e,DK,HY,BC⟩=>UH ?_)));subst DK;cases(show Fx=DR b from Bt);obtain⟨z,hd,xs,rel,D7⟩:=SA Bl.BZ Bl.E9 e;exact UR U8 D7.typeIs f8 (f6 _ _) (meetsH_dict_get (KJ X.prog X.w) a b hd) ⟨nest_room BM,k,xs,yf Bl HY,D7,⟨(F5 Ab k).getD .non,Am,Bl.tok _,(rel.val k).getD rfl,BC⟩⟩
end Bs
namespace CP
open PySem PySem.Spec Bs
section
variable{X:Ac}{F:BA}{e o elt iter Bw:AU}{pos:Pos}{scope:E8}{m n:Ae}
def ag7(i:Nat)(nl:Nat)(caps:ι){y:Str}{py:Pos}{ifs:List AU}{mi:B1}{set:D->AI->R AI}{mt:Ck}{Ge:Ae}{Bv:Pos}(hN:X.N.Nodup)(S:VX X.env.scope X.N scope (Le scope X.N nl caps) nl caps=true)(AC:M_ X F Bw iter mi)(A_:Ud X scope (Le scope X.N nl caps) Bw set)(Aj:Q5 X scope (Le scope X.N nl caps) ifs mt)(he:hT X scope (Le scope X.N nl caps) elt Ge)(Ba:X.N[i]?=some y:=by rfl)(AN:X.env.kindOf y=some .local:=by rfl)(cq:O6 (.ListComp elt [⟨Bw,iter,ifs,0⟩] scope Bv) (some (.Name y py)) pos.line X.env=pure true:=by rfl)(AO:X.calm=true:=by rfl)(Ap:F.K=X.K:=by rfl)(AJ:∀x,PM iter X.env x=pure x:=by intro _;rfl) :
  Ep X F (.Assign [.Name y py] (.ListComp elt [⟨Bw,iter,ifs,0⟩] scope Bv) pos) (EK i (Rl (E3 nl caps mi set mt Ge))):=by
 refine⟨DO.imp (t:=NB (I8 F (Rl (E3 nl caps mi set mt Ge))) (Jx i)) ?_ cz⟩;refine DO.imp (t:=NB (I8 F (E3 nl caps mi set mt Ge)) (Jx i)) ?_ λCC σ H h=>wG σ H _ h;refine jC (nl:=nl) (caps:=caps) (Q:=λt=>DO X (.Assign [.Name y py] (.ListComp elt [⟨Bw,iter,ifs,0⟩] scope Bv) pos) (NB t (Jx i))) Ap AC.1 A_.g Aj (λcl C s H Al G0 H0=>(he cl C s H Al G0 H0).1) A_.B6 A_.kp λg g1 t1 A9 imp=>?_;exact DO.imp (abI (.of S) AO hN Ba AN AC.1 g1 t1 A9 cq AJ) λCC σ H h=>imp σ H _ h
noncomputable def QM(d:D)(l h:Option Int):R D:=match d with
 |.Do xs=>if DX.Ca xs.length 0 l=0/\DX.Ca xs.length xs.length h=xs.length then .bad else .ok (.tup (Ed xs l h))
 |d=>I7 d l h
noncomputable def Sx:D->Option Bf
 |.Do [.str x]=>some [.inl (.inr x)]
 |d=>Ik d
noncomputable def WO(m n:Ae):Ae:=λρ=>(m ρ).bind λd=>match d with
 |.An ks ds=>(n ρ).bind λk=>match Sx k with
  |some BY=>.ok ((findD ks ds BY).getD .non)
  |none=>.bad
 |_=>.bad
def yZ{K:Aa}{G H:AB}{d:D}{v:V}{k:Bf}(e:Sx d=some k)(s:Sub G H)(a:At K G d v):∃b,v=.ref b/\hA K H k b:=by
 unfold Sx at e
 split at e
 .rename_i x;cases e;erw[At,AW]at a;obtain⟨b,xs,rfl,GC,u,r,rfl,rfl,rfl⟩:=a;exact⟨b,rfl,.inr ⟨x,rfl,CT.mono s GC⟩⟩
 .obtain⟨b,rfl,A0⟩:=Oj e a;exact⟨b,rfl,.inl (No A0 s)⟩
def afL{a:AU}{lo AC:Option AU}{Cw:Pos}{MQ Qj:MW}(AD:B8 X F a m)(AN:Po X F lo MQ)(B4:Po X F AC Qj)(Ap:F.K=X.K:=by rfl):B8 X F (.Subscript a (.Slice lo AC none Cw) pos) (EV QM m MQ Qj):=⟨by
 refine Av.imp (dM pR AD.1 AN.1 B4.1) ?_;delta EV r;refine rb h λd As h x H1 Ah AK s1 Bn=>?_;refine⟨Ah,ρ,AK,?_⟩;refine rb h λl el h Am CL B7 s2=>?_;refine⟨CL,ρ,B7,?_⟩;refine rb h λu OR h Cb Ga DW s3=>?_;have up:=(s1.trans s2).trans s3;have KS:=(Bn.mono s2.g).mono s3.g;cases d with
 |tup ds=>
  erw[QM,I7]at h
  split at h
  .exact h.elim
  .rename_i hw;erw[At]at KS;obtain⟨q,xs,rfl,AV,F7⟩:=KS;rw[F7.length]at hw;refine⟨q,xs,rfl,CT.of (DW.kp.sub _ _ AV),hw,λKD AQ=>?_⟩;refine h (.ref KD) _ _ (DW.lay AQ) (up.trans (C3.lay DW.kp.sub AQ)) ?_;erw[At];exact⟨KD,_,rfl,Da,(F7.cut l u).mono (Sub.upd (DW.kp.sub.gone AQ))⟩
 |Do ds=>
  erw[QM]at h
  split at h
  .exact h.elim
  .rename_i hw;erw[At]at KS;obtain⟨q,xs,rfl,AV,F7⟩:=KS;rw[F7.length]at hw;refine⟨q,xs,rfl,by rw[<-Ap];exact CT.mono DW.kp.sub AV,hw,λKD AQ=>?_⟩;refine h (.ref KD) _ _ (DW.lay AQ) (up.trans (C3.lay DW.kp.sub AQ)) ?_;erw[At];exact⟨KD,_,rfl,Da,(F7.cut l u).mono (Sub.upd (DW.kp.sub.gone AQ))⟩
 |_=>exact h.elim⟩
def af6 {apos Bv:Pos} (BM:X.A.units+64<DS) (ho:B8 X F o m) (he:B8 X F e n) (Ap:F.K=X.K:=by rfl) (A6:Hw o "get" X.env (BJ o X.env)=BJ o X.env:=by rfl)(AA:((D4 Bv (BF [e] X.env)).all (λx=>!x.1)&&(H5 Bv (H3 [] X.env)).all (λx=>x.1.isSome)
  &&decide (([e]:List AU).length+([]:List FP).length+(if([]:List FP).isEmpty then 0 else 1)<30))=true:=by rfl) (Ao:(apos.endLine==Bv.line)=true:=by rfl) (BG:D4 Bv (BF [e] X.env)=[(false,BJ e X.env)]:=by rfl) :
  B8 X F (.Call (.Attribute o "get" apos) [e] [] Bv) (WO m n):=⟨by
 refine Av.imp (aba δ ho.1 he.1 ⟨A6,AA,Ao,BG⟩) ?_;delta WO r;refine rb h λD7 As h x H1 Ah AK s1 Bn=>?_;cases D7 with
 |An ks ds=>
  simp only at h;erw[At]at Bn;obtain⟨a,xs,rfl,A_,rfl,al⟩:=Bn;refine⟨a,rfl,.inr ⟨xs,.inl (AK.kp.sub _ _ A_)⟩,Ah,ρ,AK,?_⟩;refine rb h λLg BS h y Am CL B7 s2 Cq=>?_;cases DD:Sx Lg with
  |none=>rw[DD]at h;cases h
  |some BY=>
   rw[DD]at h;simp only at h;obtain⟨b,rfl,A0⟩:=yZ DD B7.kp.sub Cq;rw[Ap]at A0;refine⟨xs,BY,b,.inl (B7.kp.sub _ _ (s2.g _ _ A_)),rfl,A0,?_⟩;have f:=Vh (K:=F.K) (G:=Ah) BY al;cases Cr:findD (xs.map (·.1)) ds BY with
   |none=>rw[Cr]at f h;rw[show F5 xs BY=none from f];exact h .non Am CL B7 (s1.trans s2) (by erw[X5,At])
   |some d=>rw[Cr]at f h;obtain⟨v,ev,BD⟩:=f;rw[ev];exact h v Am CL B7 (s1.trans s2) (BD.mono s2.g)
 |_=>exact h.elim⟩
end
end CP
namespace LT
open PySem PyProof.Rows
section
variable{prog:Bx}{w:Bj}{A:CK}{E:A7->AP->Prop}{s:AP}{CF:Array K7}{κ:KeyKind}{kd:L_}
end
def KN(h:BI)(d:A8)(A4:Array MG)(BV:Nat):Prop:=∃o,h.get? d=some o/\o.ExactDict/\o.data=.dict A4 BV
def KN.at{h h':BI}{d:A8}{A4:Array MG}{BV:Nat}(x:KN h d A4 BV)(e:∀o,h.get? d=some o->h'.get? d=some o):KN h' d A4 BV:=let⟨o,ho,r⟩:=x;⟨o,e _ ho,r⟩
def KN.typeIs{s:AP}{d:A8}{A4:Array MG}{BV:Nat}(x:KN s.heap d A4 BV):s.TypeIs (.ref d) "dict":=let⟨o,ho,c,_⟩:=x;⟨o,ho,c.1⟩
section
variable{prog:Bx}{w:Bj}{A:CK}{E:A7->AP->Prop}{s:AP}{A4:Array MG}
theorem ac1{d:A8}{BV:Nat}{Q:A7->AP->Prop}(hd:(d==He)=false)(hm:KN s.heap d A4 BV)(DU:Q (.ref s.heap.objs.size) { s with heap:=s.heap.push { cls:=.type "dict_keyiterator",data:=.fields #[.ref d,.int 0 0,.int A4.size 0,.int BV 0] } }) :
  Ad (B2 prog w) A (pyIter (.ref d)) Q E s:=by
 have CM:s.TypeIs (.ref d) "dict":=hm.typeIs;obtain⟨o,ho,AO,V9⟩:=hm;refine fk CM F.slot_dict_iter (Iu F.slot_dict_iter CM F.entry_dict_iter ?_ (F.args_dict_iter_1 _));unfold MH.«dict.__iter__»;refine AL ?_;unfold Builtin.Dict.dictSlotNone;refine AL (X3 CM ?_);show Ad _ _ (pure (DR d)) _ _ s;refine Ay ?_;show Ad _ _ (fT d>>=_) _ _ s;unfold fT;rw[if_neg (by rw[hd];exact Fy)];refine AL (Ay ?_);refine AL (Qo ho V9 ?_);refine AL (Sg ho V9 ?_);refine AL (JL (Ay ⟨_,rfl,"dict_keyiterator",_,⟨_,FE _ rfl,rfl⟩,F.slot_dict_keyiterator_next.lookup,?_⟩));simpa[Kg]using DU
def ac0{it d:A8}{i BV:Nat}{Q:Option A7->AP->Prop}(hit:s.heap.IsKeyIter it d i A4.size BV)(hm:KN s.heap d A4 BV)(cj:i<A4.size)(DU:∀h',h'.IsKeyIter it d (i+1) A4.size BV->JG it s.heap h'->Q (some A4[i].key) { s with heap:=h' }) :
  Ad (B2 prog w) A (JN (.ref it)) Q E s:=by
 obtain⟨o,ho,AO,hd⟩:=id hit;obtain⟨EL,Mj,DV,Mg⟩:=id hm;unfold JN
 refine AL (Qw (Mv (name:=En "__next__") hit.typeIs Wp
  (Iu Wp hit.typeIs qO ?_ (qY _))))
 refine AL (Ay ?_);refine AL ?_;refine AL ?_
 first|refine AL (Wo hit.typeIs (Ay ?_))|refine AL (Wy hit.typeIs (Ay ?_))
 refine AL (XO ho hd ?_);have Oc:UD "dict_keyiterator"=false:=ε
 erw[Oc,Hg,if_false];show Ad _ _ (if(DR d==GD)=true then _ else _) _ _ s;rw[if_neg (show¬((DR d==GD)=true)from Fy)];refine AL (Ay ?_);refine AL (Qo Mj Mg ?_);rw[if_neg γ];refine AL (Ay ?_);refine AL (Sg Mj Mg ?_);rw[if_neg γ];refine Ay ?_;erw[show¬((i:Int)<0)from δ,if_false,Mr,UE cj];refine AL ?_
 first|refine AL (Wo hit.typeIs (Ay ?_))|refine AL (Wy hit.typeIs (Ay ?_))
 refine AL (wpAny_isOneOf_keyiter hit.typeIs ?_);show Ad _ _ (setField (.ref it) 1 (Kg ((i:Int)+1))>>=_) _ _ s;refine AL (Sh ho hd γ ?_);have TU:(s.heap.update it (Obj.mapFields (·.setIfInBounds 1 (Kg ((i:Int)+1))))).IsKeyIter it d (i+1) A4.size BV:=
  ⟨_,PH _ ho (fS (UQ hd _)),(Obj.cls_mapFields ..).trans AO,by rw[UQ hd];simp[Kg]⟩
 refine AL (K2 ?_);refine AL (wpAny_isOneOf_keyiter (s:={ s with heap:=s.heap.update it (Obj.mapFields (·.setIfInBounds 1 (Kg ((i:Int)+1)))) }) TU.typeIs ?_);show Ad _ _ (pure A4[i].key) _ _ _;exact Ay (Ay ⟨_,rfl,Ay (DU _ TU (LS ..))⟩)
def abz{it d:A8}{BV:Nat}{Q:Option A7->AP->Prop}(B4:A.handled=none)(hit:s.heap.IsKeyIter it d A4.size A4.size BV)(hm:KN s.heap d A4 BV)(DU:∀h',Heap.ExtBut it s.heap h'->Q none { s with heap:=h' }):Ad (B2 prog w) A (JN (.ref it)) Q E s:=by
 obtain⟨o,ho,AO,hd⟩:=id hit;obtain⟨EL,Mj,DV,Mg⟩:=id hm;unfold JN
 refine AL (Qw (Mv (name:=En "__next__") hit.typeIs Wp
  (Iu Wp hit.typeIs qO ?_ (qY _))))
 refine AL (Ay ?_);refine AL ?_;refine AL ?_
 first|refine AL (Wo hit.typeIs (Ay ?_))|refine AL (Wy hit.typeIs (Ay ?_))
 refine AL (XO ho hd ?_);have Oc:UD "dict_keyiterator"=false:=ε
 erw[Oc,Hg,if_false];show Ad _ _ (if(DR d==GD)=true then _ else _) _ _ s;rw[if_neg (show¬((DR d==GD)=true)from Fy)];refine AL (Ay ?_);refine AL (Qo Mj Mg ?_);rw[if_neg γ];refine AL (Ay ?_);refine AL (Sg Mj Mg ?_);rw[if_neg γ];refine Ay ?_;erw[show¬((A4.size:Int)<0)from δ,if_false,Mr,qg (CY A4.size)];refine AL ?_
 first|refine AL (Wo hit.typeIs (Ay ?_))|refine AL (Wy hit.typeIs (Ay ?_))
 show Ad _ _ (setField (.ref it) 0 .none>>=_) _ _ s;refine AL (Sh ho hd γ ?_);show Ad _ _ (newExc (.type "StopIteration") []>>=_) _ _ _;refine AL ?_;erw[newExc,newTuple];refine AL (JL ?_ (by size_fits));refine AL (m:=Si _ _) (wpAny_of_eq (a:=GD) (by first|rfl|(erw[Si];rfl)) ?_);refine JL ?_ (by size_fits);erw[raiseNew];refine AL (wpAny_handled ?_);rw[show A.in1.handled=none from B4];refine AL (Ay (wpAny_throw ?_));refine AL (Qr (T:="StopIteration") (b:=true) ⟨_,FE _ rfl,rfl⟩ g5 ?_);exact Ay (DU _ (((LS ..).extBut.push _).push _))
def ac2(B4:A.handled=none)(I d:A8)(R_:d≠I)(A4:Array MG)(BV:Nat) :
  Walks prog w A I [I,d] [I] A4.size (λi v=>A4[i]?.map (·.key)=some v) (λi h=>h.IsKeyIter I d i A4.size BV/\KN h d A4 BV) where
 sub:=λb A0=>by simp at A0;simp[A0]
 frame:=λ_ _ _ st AE=>⟨st.1.at λo e=>AE I γ o e,st.2.at λo e=>AE d γ o e⟩
 item:=λi s Q E AC st DU=>ac0 st.1 st.2 AC λh' TU Gw=>
  DU _ h' s.toks (by rw[UE AC];rfl) ⟨TU,st.2.at λo e=>Gw.extBut d o R_ e⟩ λb o A0 e=>Gw.extBut b o (λh=>A0 (by simp[h])) e
 done:=λs Q E st DU=>abz B4 st.1 st.2 λh' vP=>DU h' s.toks λb o A0 e=>vP b o (λh=>A0 (by simp[h])) e
 self:=λ_ _ _ _ st DU=>wpAny_pyIter_keyiter st.1 DU
def tn:typeLookup (.type "dict") "__len__"=pure (some (.builtin "dict.__len__")):=by rw[typeLookup_type,builtinLookup_eq_fast];kernel_rfl
def y3{acc:Array A7}{A4:Array MG}(h:ItemsOf (λi v=>A4[i]?.map (·.key)=some v) acc A4.size):acc.toList=A4.toList.map (·.key):=by
 apply fh;intro i;have A9:acc.toList[i]?=acc[i]?:=γ
 rw[EC,A9];cases e:acc[i]? with
 |none=>
  have:acc.size<=i:=(e:)
  rw[h.1]at this;have AH:A4.toList[i]?=none:=List.getElem?_eq_none (this:);rw[AH];rfl
 |some v=>have:=h.2 i v e;rw[<-this];simp
theorem rn{d:A8}{BV:Nat}{Q:List A7->AP->Prop}(B4:A.handled=none)(hd:(d==He)=false)(hm:KN s.heap d A4 BV)(AQ:A4.size<=CD)(DU:∀h' C8,(∀b o,s.heap.get? b=some o->h'.get? b=some o)->s.heap.objs.size<h'.objs.size->Q (A4.toList.map (·.key)) { s with heap:=h',toks:=C8 }):Ad (B2 prog w) A (collect (.ref d)) Q E s:=by
 have ID:d<s.heap.objs.size:=by obtain⟨o,ho,_⟩:=hm;exact De ho
 have kH:s.heap.objs.size≠d:=λe=>K3 _ (e▸ID);unfold collect;refine AL (wpAny_runValue (codeAny_builtin F.entry_proto_collect ?_));rw[qz F.plain_proto_collect _];show Ad _ A.in1 (newList []>>=λl=>again (.builtin "list.__iadd__" ⟨[l,.ref d],[]⟩)) _ _ s;refine AL (JL ?_);refine Ay ⟨plainId_quiet F.plain_list_iadd _,codeAny_builtin F.entry_list_iadd ?_⟩;rw[qz F.plain_list_iadd _];have Yp:KN (s.heap.push { cls:=.type "list",data:=.seq ([]:List A7).toArray }) d A4 BV:=hm.at λo e=>DM _ e;have kF:(s.heap.push { cls:=.type "list",data:=.seq ([]:List A7).toArray }).get? s.heap.objs.size=some { cls:=.type "list",data:=.seq ([]:List A7).toArray }:=FE _ rfl;show Ad _ A.in1 (qS (.ref s.heap.objs.size) (.ref d) (.ref s.heap.objs.size)) _ _ { s with heap:=s.heap.push { cls:=.type "list",data:=.seq ([]:List A7).toArray } };generalize Cr:s.heap.push { cls:=.type "list",data:=.seq ([]:List A7).toArray }=f1 at Yp kF |-;unfold qS;refine AL (UT (s:={ s with heap:=f1 }) (Yp.typeIs (s:={ s with heap:=f1 })) ?_);have A6:qq (.ref s.heap.objs.size) (.ref d)=false:=by simp[qq,kH]
 rw[if_neg (by rw[A6];decide)];refine AL (ac1 (s:={ s with heap:=f1 }) hd Yp ?_);dsimp only;have HW:(f1.push { cls:=.type "dict_keyiterator",data:=.fields #[.ref d,.int 0 0,.int A4.size 0,.int BV 0] }).IsKeyIter f1.objs.size d 0 A4.size BV:=⟨_,FE _ rfl,rfl,rfl⟩;have NP:KN (f1.push { cls:=.type "dict_keyiterator",data:=.fields #[.ref d,.int 0 0,.int A4.size 0,.int BV 0] }) d A4 BV:=Yp.at λo e=>DM _ e;have b0:(f1.push { cls:=.type "dict_keyiterator",data:=.fields #[.ref d,.int 0 0,.int A4.size 0,.int BV 0] }).get? s.heap.objs.size=some { cls:=.type "list",data:=.seq ([]:List A7).toArray }:=DM _ kF;have Oa:∀b o,s.heap.get? b=some o->(f1.push { cls:=.type "dict_keyiterator",data:=.fields #[.ref d,.int 0 0,.int A4.size 0,.int BV 0] }).get? b=some o:=λb o e=>DM _ (by rw[<-Cr];exact DM _ e);have Aq:f1.objs.size=s.heap.objs.size+1:=by rw[<-Cr];exact size_push' _ _
 generalize f1.push { cls:=.type "dict_keyiterator",data:=.fields #[.ref d,.int 0 0,.int A4.size 0,.int BV 0] }=f2 at HW NP b0 Oa |-;have Qk:d≠f1.objs.size:=Fl (by rw[Aq];exact Nat.lt_succ_of_lt ID);have W:=(ac2 (prog:=prog) (w:=w) (A:=A.in1) B4 f1.objs.size d Qk A4 BV).toS;have kI:s.heap.objs.size∉[f1.objs.size,d]:=λh=>by
  rcases List.mem_cons.mp h with e|h
  .lia
  .exact kH (List.mem_singleton.mp h)
 refine AL (K2 ?_);unfold Builtin.List.listLengthHint;refine AL (Sk (s:={ s with heap:=f2 }) (NP.typeIs (s:={ s with heap:=f2 })) tn ?_)
 (generalize c_:("dict.__len__" :String)=jc;(fail_if_success (clear c_ jc));wp_delta;rw[show splitId jc=some ("dict","__len__")from by subst c_;decide+kernel];subst c_)
 refine AL (Qr (b:=true) (NP.typeIs (s:={ s with heap:=f2 })) (by rw[isSubtype_type];kernel_rfl) ?_);rw[if_neg γ];dsimp only;rw[if_pos (by decide+kernel)];refine AL (UT (NP.typeIs (s:={ s with heap:=f2 })) ?_);refine Ay ?_;rw[if_pos (by decide+kernel)];refine AL (Kb (AL ?_));show Ad _ A.in1 (updateSeq s.heap.objs.size (·.push .none)>>=λ_=>updateSeq s.heap.objs.size (·.pop)) _ _ { s with heap:=f2 };refine AL (wpAny_updateSeq (s:={ s with heap:=f2 }) b0 rfl ?_);have kG:=PH (Kd (·.push GD)) b0 rfl;refine wpAny_updateSeq kG rfl ?_;have v7:=PH (Kd (·.pop)) kG rfl
 have JD:∀b o,b≠s.heap.objs.size->f2.get? b=some o->
   ((f2.update s.heap.objs.size (Kd (·.push GD))).update s.heap.objs.size (Kd (·.pop))).get? b=some o:=
  λb o A0 e=>(X1 _ _ (Hi A0)).trans ((X1 _ _ (Hi A0)).trans e)
 refine Ay ⟨plainId_quiet F.plain_extend_loop _,codeAny_extend_loopS W AQ _ kI _ A4.size 0 _ _ _ δ (IT _)
  (W.frame 0 ({ s with heap:=f2 }:AP) _ s.toks ⟨HW,NP⟩ (CY _) λb A0 o e=>JD b o (λh=>kI (h▸A0)) e) v7 (ItemsOf.nil _) λs' Xf Em vX kE kO=>?_⟩
 show Ad _ A (load s.heap.objs.size>>=_) _ _ s';refine AL (wpAny_load kE ?_);refine Ay ?_;show Q Xf.toList s';rw[y3 kO];obtain⟨Hr,HZ,Zx,kz,aiB⟩:=vX;have GU:=De kE;obtain⟨a1,a2,I3,Ox,S2⟩:=s';dsimp only at Hr HZ Zx kz GU;subst HZ Zx kz;refine DU a1 Ox (λb o e=>?_) GU;have A0:=De e;exact Hr b o (λz=>by
  rcases List.mem_cons.mp z with e|z
  .rw[e]at A0;exact K3 _ A0
  .rw[List.mem_singleton.mp z,Aq]at A0;exact absurd A0 (Nat.not_lt.mpr (U_ _))) (JD b o (λz=>by rw[z]at A0;exact K3 _ A0) (Oa b o e))
end
inductive KM(h:BI)(v:A7):Int×Int×Int->Prop
 |at_ (a:A8) (o:Obj) (m:Nat) (t u:Tok) (x:Int):v=.ref a->h.get? a=some o->o.cls=.type "tuple"->o.data=.seq #[.str (En "at") t,.int x u] m->KM h v (0,x,0)
 |VZ (a:A8) (o:Obj) (m:Nat) (t u:Tok) (x:Int):v=.ref a->h.get? a=some o->o.cls=.type "tuple"->o.data=.seq #[.str (En "drop") t,.int x u] m->KM h v (1,x,0)
 |W0 (a:A8) (o:Obj) (m:Nat) (t u FH:Tok) (x y:Int):v=.ref a->h.get? a=some o->o.cls=.type "tuple"->o.data=.seq #[.str (En "out") t,.int x u,.int y FH] m->KM h v (2,x,y)
 |N9 (a:A8) (o:Obj) (m:Nat) (t:Tok):v=.ref a->h.get? a=some o->o.cls=.type "tuple"->o.data=.seq #[.str (En "ring") t] m->KM h v (3,0,0)
theorem KM.data{h:BI}{v:A7}{k:Int×Int×Int}(x:KM h v k):∃a o m its,v=.ref a/\h.get? a=some o/\o.data=.seq its m/\
  ((∃t u,k=(0,k.2.1,0)/\its= #[.str (En "at") t,.int k.2.1 u])\/(∃t u,k=(1,k.2.1,0)/\its= #[.str (En "drop") t,.int k.2.1 u])\/(∃t u FH,k=(2,k.2.1,k.2.2)/\its= #[.str (En "out") t,.int k.2.1 u,.int k.2.2 FH])\/∃t,k=(3,0,0)/\its= #[.str (En "ring") t]):=by
 cases x with
 |at_ a o n t u x A9 AH Au CH=>exact⟨a,o,n,_,A9,AH,CH,.inl ⟨t,u,rfl,rfl⟩⟩
 |VZ a o n t u x A9 AH Au CH=>exact⟨a,o,n,_,A9,AH,CH,.inr (.inl ⟨t,u,rfl,rfl⟩)⟩
 |W0 a o n t u FH x y A9 AH Au CH=>exact⟨a,o,n,_,A9,AH,CH,.inr (.inr (.inl ⟨t,u,FH,rfl,rfl⟩))⟩
 |N9 a o n t A9 AH Au CH=>exact⟨a,o,n,_,A9,AH,CH,.inr (.inr (.inr ⟨t,rfl,rfl⟩))⟩
def KM.inj{h:BI}{v:A7}{k k':Int×Int×Int}(x:KM h v k)(y:KM h v k'):k=k':=by obtain⟨a,o,m,its,rfl,ho,hd,x⟩:=x.data;obtain⟨Jq,o',Dg,its',e,EF,Fw,y⟩:=y.data;cases e;rw[ho]at EF;cases EF;rw[hd]at Fw;injection Fw with Fw _;subst Fw;rcases x with⟨t,u,e,f⟩|⟨t,u,e,f⟩|⟨t,u,FH,e,f⟩|⟨t,e,f⟩<;>rcases y with⟨DI,Hj,AH,f2⟩|⟨DI,Hj,AH,f2⟩|⟨DI,Hj,aeD,AH,f2⟩|⟨DI,AH,f2⟩<;>(rw[f]at f2;simp at f2)<;>first|(exact absurd f2.1.1 ε)|(exact absurd f2.1 ε)|(rw[e,AH];try simp[f2])
def KM.first{h:BI}{v:A7}{k:Int×Int×Int}(x:KM h v k)(s:AP):∃u,(∃a o m r,v=DR a/\h.get? a=some o/\o.cls=.type "tuple"/\o.data=.seq (u::r).toArray m)/\Shared.TypeIs s u "str":=by
 cases x with
 |at_ a o n t u x A9 AH Au CH=>exact⟨_,⟨a,o,n,_,A9,AH,Au,CH⟩,R2 _ _ _⟩
 |VZ a o n t u x A9 AH Au CH=>exact⟨_,⟨a,o,n,_,A9,AH,Au,CH⟩,R2 _ _ _⟩
 |W0 a o n t u FH x y A9 AH Au CH=>exact⟨_,⟨a,o,n,_,A9,AH,Au,CH⟩,R2 _ _ _⟩
 |N9 a o n t A9 AH Au CH=>exact⟨_,⟨a,o,n,_,A9,AH,Au,CH⟩,R2 _ _ _⟩
def KM.mono{h h':BI}{v:A7}{k:Int×Int×Int}(m:∀b o,h.get? b=some o->h'.get? b=some o)(x:KM h v k):KM h' v k:=by
 cases x with
 |at_ a o n t u x A9 AH Au CH=>exact .at_ a o n t u x A9 (m _ _ AH) Au CH
 |VZ a o n t u x A9 AH Au CH=>exact .VZ a o n t u x A9 (m _ _ AH) Au CH
 |W0 a o n t u FH x y A9 AH Au CH=>exact .W0 a o n t u FH x y A9 (m _ _ AH) Au CH
 |N9 a o n t A9 AH Au CH=>exact .N9 a o n t A9 (m _ _ AH) Au CH
section
variable{prog:Bx}{w:Bj}{A:CK}{E:A7->AP->Prop}{s:AP}{A4:Array MG}
def adF{d:A8}{BV:Nat}{κ:KeyKind}{kd:L_}{vs:List A7}{Q:A7->AP->Prop}(B4:A.handled=none)(hd:(d==He)=false)(hm:KN s.heap d A4 BV)(ev:A4.toList.map (·.key)=vs)(AQ:vs.length<64)(AE:∀(h':BI)(C8:Nat)(Y4:CK)(gB:A7->AP->Prop),Y4.units<=A.units+8->(∀b o,s.heap.get? b=some o->h'.get? b=some o)->vs≠[]->(∀R:L_->AP->Prop,R kd { s with heap:=h',toks:=C8 }->Ad (B2 prog w) Y4 (keyKind' vs.toArray) R gB { s with heap:=h',toks:=C8 })/\Nf prog w Y4 { s with heap:=h',toks:=C8 } kd κ (pairsOf vs))(h:∀(u:GO)(l:A8)(h':BI) C8 e,(Bq u).Perm (pairsOf vs)->Gb κ (Bq u) (pairsOf vs).size->s.heap.objs.size<=l->(∀b o,s.heap.get? b=some o->h'.get? b=some o)->h'.get? l=some (Iw "list" ((Bq u).map (·.2)) e)->Q (.ref l) { s with heap:=h',toks:=C8 }) :
  Ad (B2 prog w) A (call (.builtin "sorted") [.ref d]) Q E s:=by
 refine Calls.call_function_entry kind_sorted plain_sorted entry_sorted (args_sorted1 _) ?_;unfold MH.«sorted»;have Aq:A4.size<=CD:=by have:=congrArg R4 ev;rw[GN,UN]at this;rw[ME];lia
 refine AL (m:=checkCount "sorted" 1 1 _) (Ay (AL (rn (A:=A.in1) B4 hd hm Aq λf C8 kp Aq=>?_)));rw[ev];refine AL (wpAny_newList ?_);have g:(f.push (Iw "list" vs.toArray 0)).get? f.objs.size=some (Iw "list" vs.toArray 0):=FE _ rfl;have keep:∀b o,s.heap.get? b=some o->(f.push (Iw "list" vs.toArray 0)).get? b=some o:=λb o e=>DM _ (kp b o e);have Aq:=Qy Aq;show Ad _ _ _ _ _ { s with heap:=f.push (Iw "list" vs.toArray 0),toks:=C8 };refine AL (K2 (Iu slot_list_sort ⟨_,g,rfl⟩ entry_list_sort (adD (s:={ s with heap:=f.push (Iw "list" vs.toArray 0),toks:=C8 }) (κ:=κ) (kd:=kd) g AQ (λh' k ne=>AE h' C8 _ _ (by erw[Around.in1_units];lia) (λb o e=>k b o (λz=>absurd (z▸De e) (Nat.not_lt.mpr Aq)) (keep b o e)) ne) λu AZ AJ=>⟨_,rfl,?_⟩) (args_list_sort _)));obtain⟨e,ge⟩:=sortedHeap_at (out:=(Bq u).map (·.2)) g;refine Ay ⟨_,rfl,h u _ _ C8 e AZ AJ Aq (λb o q=>?_) ge⟩;have la:=keep b o q;exact(sortedHeap_old (λz:b=f.objs.size=>absurd (z▸De q) (Nat.not_lt.mpr Aq)) (De la)).trans la
def z8{a Jq:A8}{o o':Obj}{m Dg:Nat}{x y:Str}{t u:Tok}{r BO:List A7}{Q:Bool->AP->Prop}(ho:s.heap.get? a=some o)(hd:o.data=.seq (.str x t::r).toArray m)(EF:s.heap.get? Jq=some o')(Fw:o'.data=.seq (.str y u::BO).toArray Dg)(ne:x≠y)(h:Q (decide (x.cps.toList<y.cps.toList)) s):Ad (B2 prog w) A (keyLt' (RA true) (.ref a) (.ref Jq)) Q E s:=by rw[cH];refine AL (PR ho hd (AL (PR EF Fw ?_)));erw[K5,Qs,Qz];refine AL (AL (AL (XF ?_)));rw[if_pos (ne:)];exact AL (oneLt_str (Ay (Ay (Ay h))))
def kx{a Jq:A8}{o o':Obj}{m Dg:Nat}{x:Str}{t u t1 Mp:Tok}{i j:Int}{r BO:List A7}{Q:Bool->AP->Prop}(ho:s.heap.get? a=some o)(hd:o.data=.seq (.str x t::.int i t1::r).toArray m)(EF:s.heap.get? Jq=some o')(Fw:o'.data=.seq (.str x u::.int j Mp::BO).toArray Dg)(A6:i≠j->Q (decide (i<j)) s)(AA:i=j->(r=[]/\BO=[]/\Q false s)\/∃p q DI Hj,r=[.int p DI]/\BO=[.int q Hj]/\Q (decide (p<q)) s):Ad (B2 prog w) A (keyLt' (RA true) (.ref a) (.ref Jq)) Q E s:=by
 rw[cH];refine AL (PR ho hd (AL (PR EF Fw ?_)));erw[K5,Qs,Qz];refine AL (AL (AL (XF ?_)));rw[if_neg γ];refine Ay ?_;dsimp only;refine AL (AL (fX ?_));by_cases e:i=j
 .rw[if_neg (by simp[e])];refine Ay ?_;dsimp only;rcases AA e with⟨rfl,rfl,h⟩|⟨p,q,DI,Hj,rfl,rfl,h⟩
  .erw[fl,UF,UU];exact Ay (Ay h)
  .erw[K5,fl,Qs,UF,Qz,UU];refine AL (AL (fX ?_));by_cases Au:p=q
   .rw[if_neg (by simp[Au])];rw[Au]at h;exact Ay (Ay (Ay (h:)))
   .rw[if_pos (Au:)];exact AL (mV (nQ ⟨_,rfl,Ay (Ay (Ay h))⟩))
 .rw[if_pos (e:)];exact AL (mV (nQ ⟨_,rfl,Ay (Ay (Ay (A6 e)))⟩))
def z6{x y:A7}{k k':Int×Int×Int}{Q:Bool->AP->Prop}(AG:KM s.heap x k)(Ba:KM s.heap y k')(h:Q (ltI (HF k) (HF k')) s):Ad (B2 prog w) A (keyLt' (RA true) x y) Q E s:=by
 obtain⟨a,o,m,its,rfl,ho,hd,AG⟩:=AG.data;obtain⟨Jq,o',Dg,its',rfl,EF,Fw,Ba⟩:=Ba.data
 rcases AG with⟨t,u,e,f⟩|⟨t,u,e,f⟩|⟨t,u,FH,e,f⟩|⟨t,e,f⟩<;>rcases Ba with⟨DI,Hj,AH,f2⟩|⟨DI,Hj,AH,f2⟩|⟨DI,Hj,aeD,AH,f2⟩|⟨DI,AH,f2⟩<;>rw[e,AH]at h<;>rw[f]at hd<;>rw[f2]at Fw<;>first
  |(refine z8 ho hd EF Fw ε (Eq.mp (congrArg (λz=>Q z s) ?_) h);kernel_rfl)
  |(refine kx ho hd EF Fw (λne=>?_) (λeq=>.inl ⟨rfl,rfl,?_⟩)<;>erw[HF,ltI,if_true]at h<;>first|(rw[if_neg ne]at h;exact h)|(rw[if_pos eq]at h;exact h))
  |(refine kx ho hd EF Fw (λne=>?_) (λeq=>.inr ⟨_,_,_,_,rfl,rfl,?_⟩)<;>erw[HF,ltI,if_true]at h<;>first|(rw[if_neg ne]at h;exact h)|(rw[if_pos eq]at h;by_cases bm:k.2.2=k'.2.2<;>first|(rw[if_pos bm]at h;rw[bm];simpa using h)|(rw[if_neg bm]at h;exact h)))
  |(rw[cH]
    refine AL (PR ho hd (AL (PR EF Fw ?_)));erw[K5,fl,Qs,UF,Qz,UU];refine AL (AL (AL (XF ?_)));rw[if_neg γ];exact Ay (Ay (Ay (by simpa[HF,ltI]using h))))
def ym{vs:List A7}{R:L_->AP->Prop}(ne:vs≠[])(BN:∀v∈vs,∃k,KM s.heap v k)(KB:R (RA true) s):Ad (B2 prog w) A (keyKind' vs.toArray) R E s:=by obtain⟨vn,jk⟩:=m4 GD λv h=>(let⟨_,x⟩:=BN v h;x.first s);exact y4 (g:=vn) (T:="str") ne (λv BN=>(jk v BN).1) (λv BN=>(jk v BN).2) KB
open Classical in
noncomputable def cK(h:BI):KeyKind:={ dE with keyOf:=λv=>if q:∃k,KM h v k then some (HF (choose q))else none,dflt:=[] }
def cL{h:BI}{v:A7}{k:Int×Int×Int}(x:KM h v k):(cK h).keyOf v=some (HF k):=by have q:∃k,KM h v k:=⟨k,x⟩;exact(dif_pos q).trans (congrArg (λz=>some (HF z)) ((fR q).inj x))
def adE{d:A8}{BV:Nat}{us:List A7}{ks:List (Int×Int×Int)}{Q:A7->AP->Prop}(B4:A.handled=none)(hd:(d==He)=false)(hm:KN s.heap d A4 BV)(LH:A4.toList.map (·.key)=us)(AQ:us.length<64)(AN:us.length=ks.length)(AE:∀(i:Nat) v k,us[i]?=some v->ks[i]?=some k->KM s.heap v k)(h:∀(vs:List A7)(l:A8)(h':BI) C8 e,vs.length=us.length->(∀(i:Nat) v k,vs[i]?=some v->(Io ks)[i]?=some k->v∈us/\KM s.heap v k)->s.heap.objs.size<=l->(∀b o,s.heap.get? b=some o->h'.get? b=some o)->h'.get? l=some (Iw "list" vs.toArray e)->Q (.ref l) { s with heap:=h',toks:=C8 }) :
  Ad (B2 prog w) A (call (.builtin "sorted") [.ref d]) Q E s:=by
 obtain⟨NU,NO,tR⟩:=abG default (R:=KM s.heap) (λ_ _ _ x y=>x.inj y) AN AE;obtain⟨vs,ev⟩:∃vs,A4.toList.map (·.key)=vs:=⟨_,rfl⟩;have pu:vs.Perm us:=by rw[<-ev,<-LH]
 have pm:∀p∈(pairsOf vs).toList,p.1=p.2/\p.1∈us:=λp AZ=>by rw[g6]at AZ;have:=mem_zip_self AZ;exact⟨this.1,pu.mem_iff.mp this.2⟩
 refine adF (κ:=cK s.heap) (kd:=RA true) B4 hd hm ev (by rw[pu.length_eq];exact AQ) (λh' C8 Y4 gB K9 kp ne=>⟨λR KB=>?_,⟨λahW x y ah_ AG Ba DU=>?_⟩⟩) λu l h' C8 e AZ AJ Q3 kp g=>?_
 .exact ym ne (λv BN=>⟨_,(NO v (pu.mem_iff.mp BN)).mono kp⟩) KB
 .obtain⟨_,FD⟩:=pm x AG;obtain⟨_,Iq⟩:=pm y Ba;rw[cL (NO _ FD),cL (NO _ Iq)]at DU;exact z6 (s:={ s with heap:=h',toks:=C8 }) ((NO _ FD).mono kp) ((NO _ Iq).mono kp) DU
 .obtain⟨Th,Mc,N5,adJ⟩:=acj (f:=(cK s.heap).keyOf) (g:=λv=>HF (NU v)) pu (λv BN=>cL (NO v BN)) AZ AJ;have A4:Th.map NU=Io ks:=pZ (by rw[tR];exact N5.map NU) (List.pairwise_map.mpr adJ);rw[Mc]at g;refine h Th l h' C8 e N5.length_eq (λi v k A9 AH=>?_) Q3 kp g;have mv:v∈us:=N5.mem_iff.mp (Hd A9);rw[<-A4,EC,A9]at AH;simp at AH;exact⟨mv,by rw[<-AH];exact NO v mv⟩
end
end LT
namespace Bs
open PySem PySem.Spec PyProof.Rows
noncomputable def E1(k:Int×Int×Int):Bf:=if k.1=0 then[.inl (.inr (En "at")),.inl (.inl k.2.1)]else if k.1=1 then[.inl (.inr (En "drop")),.inl (.inl k.2.1)]else if k.1=2 then[.inl (.inr (En "out")),.inl (.inl k.2.1),.inl (.inl k.2.2)]else[.inl (.inr (En "ring"))]
def Op(k:Int×Int×Int):Prop:=k=(0,k.2.1,0)\/k=(1,k.2.1,0)\/k=(2,k.2.1,k.2.2)\/k=(3,0,0)
def xI{i:Int}{v:A7}(h:Oi (.inl i) v=true):∃t,v=.int i t:=by
 rcases Km h with⟨j,t,e,rfl⟩|⟨x,t,e,rfl⟩<;>cases e
 exact⟨t,rfl⟩
def xJ{x:Str}{v:A7}(h:Oi (.inr x) v=true):∃t,v=.str x t:=by
 rcases Km h with⟨j,t,e,rfl⟩|⟨y,t,e,rfl⟩<;>cases e
 exact⟨t,rfl⟩
def aac{P:Bx}{w:Bj}{h:BI}{x:Str}{ks:Bf}{l:List A7}(n:GG P w h (.inl (.inr x)::ks) l):∃t r,l=.str x t::r/\GG P w h ks r:=by
 cases n with
 |cons a b=>obtain⟨t,rfl⟩:=xJ a;exact⟨t,_,rfl,b⟩
def ZY{P:Bx}{w:Bj}{h:BI}{x:Int}{ks:Bf}{l:List A7}(n:GG P w h (.inl (.inl x)::ks) l):∃t r,l=.int x t::r/\GG P w h ks r:=by
 cases n with
 |cons a b=>obtain⟨t,rfl⟩:=xI a;exact⟨t,_,rfl,b⟩
def ZZ{P:Bx}{w:Bj}{h:BI}{l:List A7}(n:GG P w h [] l):l=[]:=by cases n;rfl
def k_{P:Bx}{w:Bj}{K:Aa}{H:AB}{h:BI}{b:A8}{k:Int×Int×Int}(ok:Ei P w K H h)(JQ:K.In h)(g:Op k)(e:I1 K H (E1 k) b):LT.KM h (.ref b) k:=by
 obtain⟨o,its,n,ho,AO,hd,JW⟩:=(show JA P w h (E1 k) b from Zp ok JQ e);generalize el:its.toList=l at JW;have As:its=l.toArray:=by rw[<-el]
 subst As;rcases g with g|g|g|g<;>rw[g]at JW |-<;>obtain⟨t,r,rfl,Cv⟩:=aac JW
 .obtain⟨u,B7,rfl,D8⟩:=ZY Cv;rw[ZZ D8]at hd;exact .at_ b o n t u _ rfl ho AO hd
 .obtain⟨u,B7,rfl,D8⟩:=ZY Cv;rw[ZZ D8]at hd;exact .VZ b o n t u _ rfl ho AO hd
 .obtain⟨u,B7,rfl,D8⟩:=ZY Cv;obtain⟨FH,DW,rfl,JU⟩:=ZY D8;rw[ZZ JU]at hd;exact .W0 b o n t u FH _ _ rfl ho AO hd
 .rw[ZZ Cv]at hd;exact .N9 b o n t rfl ho AO hd
section
variable{X:Ac}
noncomputable def abw(K:Aa):List V->AB->Cd->Prop:=λxs H Q=>∃p Ab ks,xs=[.ref p]/\Eo H p (.An Ab)/\Ab.length<64/\Ab.map (·.1)=ks.map E1/\(∀k∈ks,Op k)/\
 ∀l zs,H l=none->zs.length=ks.length->(∀(i:Nat) z k,zs[i]?=some z->(LT.Io ks)[i]?=some k->∃b,z=.ref b/\I1 K H (E1 k) b)->Q (.ref l) (upd H l (.lst zs))
def sK(B4:X.A.handled=none):IW X (.builtin "sorted") (abw X.K):=by
 intro pins s σ H xs us Q I r h;obtain⟨p,Ab,ks,rfl,AV,Yc,AE,A_,q⟩:=h;obtain⟨u,rfl,BR⟩:=vals1 r;cases BR;obtain⟨Aq,Ba,xs,kt,o,A4,BV,A6,AA,Ao,BG,Er,DE,_⟩:=TG I.BZ I.E9 AV;have Zw:Ab.length=xs.length:=Paired.length kt;have lk:Ab.length=ks.length:=(congrArg R4 AE:)
 have DD:A4.toList.map (·.key)=(xs.map (·.2.1)).map DR:=by rw[BG,IU,IU];rfl
 have all:∀(i:Nat) v k,((xs.map (·.2.1)).map DR)[i]?=some v->ks[i]?=some k->∃b,v=.ref b/\I1 X.K H (E1 k) b:=λi v k A9 AH=>by
  rw[IU,EC]at A9;obtain⟨x,ex,rfl⟩:=Option.map_eq_some_iff.mp A9;have AC:=(List.getElem?_eq_some_iff.mp ex).1;have Vb:Ab[i]?=some Ab[i]:=Dt δ;have pp:=dQ kt i _ _ Vb ex;have:(Ab.map (·.1))[i]?=(ks.map E1)[i]?:=by rw[AE]
  rw[EC,EC,Vb,AH]at this;have this:Ab[i].1=E1 k:=(this:)
  exact⟨x.2.1,rfl,by rw[<-this];exact pp.2.1⟩
 have lv:((xs.map (·.2.1)).map DR).length=ks.length:=by simp;lia
 refine LT.adE (ks:=ks) B4 Ba ⟨o,A6,AA,Ao⟩ DD δ lv (λi v k A9 AH=>?_) λvs l h' C8 e G8 g AZ kp gl=>?_
 .obtain⟨b,rfl,HY⟩:=all i v k A9 AH;exact k_ I.BZ I.E9 (A_ k (Hd AH)) HY
 .obtain⟨zs,FC,Et,Jc⟩:=q4 (R:=λz k=>∃b,z=V.ref b/\I1 X.K H (E1 k) b) (vs:=vs) (ks:=LT.Io ks) (by rw[G8,(LT.Tc ks).length_eq];exact lv) λi v k A9 AH=>by
    obtain⟨g1,g2⟩:=g i v k A9 AH;obtain⟨j,Bi,KU⟩:=Qv g1;obtain⟨b,BS,HY⟩:=all j v (ks[j]' δ) (by rw[Dt Bi,KU]) (Dt δ);subst BS;have:=(k_ I.BZ I.E9 (A_ _ (MC _)) HY).inj g2;rw[this]at HY;exact⟨.ref b,rfl,b,rfl,HY⟩
  refine⟨.ref l,_,I.laid (a:=l) (t':=C8) kp AZ (show FS X.prog X.w X.K _ _ _ (.lst zs)from⟨by rw[Et,G8,ME];lia,vs,e,FC,gl⟩),rfl,q l zs (I.BZ.fresh AZ) δ Jc⟩
end
end Bs
namespace CP
open PySem PySem.Spec Bs PyProof.Rows
noncomputable def ZQ:Bf->Option (Int×Int×Int)
 |[.inl (.inr x),.inl (.inl h)]=>if x=En "at" then some (0,h,0)else if x=En "drop" then some (1,h,0)else none
 |[.inl (.inr x),.inl (.inl h),.inl (.inl d)]=>if x=En "out" then some (2,h,d)else none
 |[.inl (.inr x)]=>if x=En "ring" then some (3,0,0)else none
 |_=>none
def RM:List Bf->Option (List (Int×Int×Int))
 |[]=>some []
 |d::ds=>match ZQ d,RM ds with
  |some k,some ks=>some (k::ks)
  |_,_=>none
def I6(k:Int×Int×Int):D:=if k.1=3 then .Do [.str (En "ring")]else .tup ((E1 k).map Vw)
def zL{n:Bf}{k:Int×Int×Int}(h:ZQ n=some k):n=E1 k/\Op k:=by
 unfold ZQ at h
 split at h
 .split at h
  .rename_i e;cases h;rw[e];exact⟨rfl,.inl rfl⟩
  .split at h
   .rename_i e;cases h;rw[e];exact⟨rfl,.inr (.inl rfl)⟩
   .cases h
 .split at h
  .rename_i e;cases h;rw[e];exact⟨rfl,.inr (.inr (.inl rfl))⟩
  .cases h
 .split at h
  .rename_i e;cases h;rw[e];exact⟨rfl,.inr (.inr (.inr rfl))⟩
  .cases h
 .cases h
theorem kT:∀{ns:List Bf}{ks:List (Int×Int×Int)},RM ns=some ks->ns=ks.map E1/\∀k∈ks,Op k
 |[],ks,h=>by erw[RM]at h;cases h;exact⟨rfl,λk AE=>nomatch AE⟩
 |d::ds,ks,h=>by
  erw[RM]at h
  split at h
  .rename_i k ks' A9 AH;cases h;obtain⟨rfl,g1⟩:=zL A9;obtain⟨rfl,g2⟩:=kT AH;refine⟨rfl,λk AE=>?_⟩;rcases List.mem_cons.mp AE with rfl|AE
   .exact g1
   .exact g2 k AE
  .cases h
def a6:μ->R μ
 |[.An ns _]=>match RM ns with
  |some ks=>if ns.length<64 then .ok ((LT.Io ks).map I6)else .bad
  |none=>.bad
 |_=>.bad
def Tp(m:B1):B1:=λρ=>(m ρ).bind a6
def tZ{K:Aa}{G H:AB}{b:A8}{k:Int×Int×Int}(g:Op k)(e:I1 K H (E1 k) b):At K (I4 G H) (I6 k) (.ref b):=by
 have tt:∀b ys,H b=some (.tup ys)->I4 G H b=some (.tup ys):=λ_ _ e=>hp e;by_cases Ao:k.1=3
 .have DJ:E1 k=[.inl (.inr (En "ring"))]:=by unfold E1;rw[Ao];rfl
  rw[DJ]at e;unfold I6;rw[if_pos Ao];erw[At];rcases e with⟨vs,ev,N5⟩|⟨x,o,n,t,A9,AE,AO,hd⟩
  .cases N5 with
   |cons a r=>cases r;have a:_=Dm _:=a;subst a;exact⟨b,_,rfl,CT.of (tt _ _ ev),.cons (by erw[At];rfl) .nil⟩
  .obtain rfl:x=En "ring":=by simpa using A9.symm
   exact⟨b,[.str (En "ring")],rfl,.inr ⟨o,_,n,AE,AO,hd,by show 1<=CD;decide,.cons ⟨t,rfl⟩ .nil⟩,.cons (by erw[At]) .nil⟩
 .unfold I6;rw[if_neg Ao];have C8:Jo H (E1 k) b:=e.elim id λ⟨x,_,_,_,A9,_⟩=>by
   rcases g with g|g|g|g
   .rw[g]at A9;cases A9
   .rw[g]at A9;cases A9
   .rw[g]at A9;cases A9
   .exact absurd (by rw[g]) Ao
  obtain⟨vs,ev,N5⟩:=C8;erw[At];exact⟨b,vs,rfl,tt _ _ ev,Za tt N5⟩
section
variable{X:Ac}{F:BA}{e:AU}{pos p:Pos}{ma:B1}
def afy(B4:X.A.handled=none)(hm:X.mg "sorted"=none)(AD:GJ X F [e] ma)(Ap:F.K=X.K:=by rfl)(A_:EE X "sorted":=by rfl)(he:BF [e] X.env=(false,BJ e X.env)::BF [] X.env:=by rfl)(Dx:(D4 pos (BF [] X.env)).any (·.1)=false:=by rfl) :
  KR X F (.Call (.Name "sorted" p) [e] [] pos) (Tp ma):=by
 refine⟨Av.imp (dJ (sK B4) A_ hm (by kernel_rfl) AD.1 ε ε he Dx) ?_⟩;delta Tp r;refine rb h λds As h vs H1 Ah AK s1 a=>?_;unfold a6 at h
 split at h
 .split at h
  .rename_i ks DD
   split at h
   .rename_i AJ;obtain⟨v,rfl,BD⟩:=a.one;erw[At]at BD;obtain⟨q,xs,rfl,AV,AG,F7⟩:=BD;obtain⟨A9,RW⟩:=kT DD;refine⟨q,xs,ks,rfl,.inl (AK.kp.sub _ _ AV),by have:=congrArg R4 AG;simp at this;lia,by rw[AG,A9],RW,λl zs AN z9 Aq=>?_⟩;have B7:=AK.I4;refine h l _ _ _ (B7.lay0 AN) ((s1.trans (C3.I4 AK.kp.sub)).trans (C3.lay0 AN)) (s1.h.gone AN) Da (B7.kp.sub.gone AN) (hu (by rw[GN,z9,(LT.Tc ks).length_eq]) λi x d A9 AH=>?_);rw[EC]at AH;obtain⟨k,TH,rfl⟩:=Option.map_eq_some_iff.mp AH;obtain⟨b,rfl,HY⟩:=Aq i x k A9 TH;rw[<-Ap]at HY;exact tZ (RW k ((LT.Tc ks).mem_iff.mp (Hd TH))) HY
   .exact h.elim
  .exact h.elim
 .exact h.elim
end
end CP
namespace Bs
open PySem PySem.Spec
def aeX(K:Aa)(C8 K_:TE):TE:=λσ H Q=>∀p,H p=none->C8 σ (upd H p (.An [])) λy H1=>K_ σ H1 λz Am=>Am p=some (.An [])/\∃k b,y=.ref b/\I1 K Am k b/\Q (.ref p) (upd Am p (.An [(k,z)]))
def abZ{X:Ac}{pos:Pos}{e f:AU}{C8 K_:TE}(BM:X.A.units+16<DS)(he:Av X e C8)(hf:Av X f K_):Av X (.Dict [some e] [f] pos) (aeX X.K C8 K_):=by
 intro pins s σ H Q I q;have AQ:=I.BZ.fresh (CY s.heap.objs.size);have Az:=I.laid (a:=s.heap.objs.size) (o:=.An []) (h':=s.heap.push { cls:=.type "dict",data:=.dict #[] }) (t':=s.toks) (λ_ _ q=>DM _ q) (CY _) (jS s.heap I.big);refine wpAny_Dict_any rfl rfl γ γ (pairTrees_cons_walk (Bc (he pins _ σ _ _ Az (q _ AQ)) λu s1⟨y,H1,Az,Bt,Ak⟩=>Bc (hf pins s1 σ H1 _ Az Ak) λEt s2⟨z,Am,Bl,ah,AH,k,b,DK,HY,BC⟩=>
  pairTrees_nil_walk ?_))
 subst DK;cases(show u=DR b from Bt);obtain⟨Aq,hd,xs,rel,D7⟩:=TG Bl.BZ Bl.E9 (.inl AH);have acA:(KJ X.prog X.w).room X.A:=show X.A.units+8<DS by lia
 have AG:xs.length<=CD:=by rw[<-Paired.length rel];exact Aq
 refine AL (AL (LE.jR acA (Zp Bl.BZ Bl.E9 HY) D7 (λh' Pv AJ=>?_) AG));refine Ay (Ay ?_);obtain⟨Gf,A4,BV,AV,AA,Ao,BG,_,Er⟩:=Pv;refine⟨.ref s.heap.objs.size,_,Yu (ob:=.An (putK [] k z)) Bl (by rw[AH];exact La) AJ ⟨Gf,AV⟩ ⟨by show 1<=CD;decide,hd,_,(rel.put k HY ah).keeps λc ys ec=>?_,Gf,A4,BV,AV,AA,Ao,BG,Er⟩,rfl,BC⟩;rw[Cy (dk ec AH (λz=>nomatch z))];exact ec
end Bs
namespace CP
open PySem PySem.Spec Bs
noncomputable def WU(i:Nat)(mk:Ot)(mv:Ae):B0:=λρ=>(GL (mk ρ)).bind λk=>(GL (mv ρ)).bind λv=>if i<ρ.length then .ok (.B6 (ρ.set i (.ob (.An [k] [v]))))else .bad
section
variable{X:Ac}{F:BA}{e f:AU}{pos:Pos}
def afs(i:Nat){x:Str}{p q:Pos}{mk:Ot}{mv:Ae}(hN:X.N.Nodup)(BM:X.A.units+64<DS)(AE:YJ X F e mk)(BN:B8 X F f mv)(Ap:F.K=X.K:=by rfl)(AC:X.N[i]?=some x:=by rfl)(AG:Loc X.env.scope x:=by first|exact Dh rfl|exact Cp rfl)(hf:X.fn x=true\/X.env.scope.names.lookup x=some .local:=by first|exact .inl rfl|exact .inr rfl) :
  Ep X F (.Assign [.Name x p] (.Dict [some e] [f] q) pos) (WU i mk mv):=⟨by
 obtain⟨C8,P1,VN⟩:=AE.ex;refine DO.imp (RT hN AC AG (abZ δ P1 BN.1) (Lv _ _ _ _ rfl) hf) ?_;delta WU;intro a AD;refine VN σ _ _ ⟨G,ρ,r.lay0 AD,?_⟩;cases DD:mk ρ with
 |bad=>rw[DD]at h;cases h
 |exc c=>rw[DD]at h;cases h
 |ok k=>
  rw[DD]at h;intro b H1 Ah AK s1 HY;refine⟨Ah,ρ,AK,?_⟩;cases ev:mv ρ with
  |bad=>rw[ev]at h;cases h
  |exc c=>rw[ev]at h;cases h
  |ok Pw=>
   rw[ev]at h;intro z Am CL B7 s2 ND;replace h:Fe F G CC (if i<ρ.length then .ok (.B6 (ρ.set i (.ob (.An [k] [Pw]))))else .bad):=h
   split at h
   .rename_i AN;have a1:H1 a=some (.An []):=s1.h _ _ Da;have a2:Am a=some (.An []):=s2.h _ _ a1;have g1:Ah a=none:=by rw[s1.n a ⟨by rw[Da];simp,λxs z=>by rw[Da]at z;cases z⟩];exact r.kp.sub.gone AD
    have g2:CL a=none:=by rw[s2.n a ⟨by rw[a1];simp,λxs z=>by rw[a1]at z;cases z⟩];exact g1
    have kb2:I1 X.K Am k b:=by rw[<-Ap];exact HY.mono λb ys e=>s2.h _ _ e
    have DW:=B7.setB AN a2 g2 (r.kp.B4.gone AD) (ob:=.An [] []) ⟨[],rfl,rfl,.nil⟩ λj A4 o _ A9 AH f=>Cc.fresh r (((Sub.upd AD).trans s1.h).trans s2.h) AD ⟨j,A4,o,A9,AH,f⟩;refine⟨a2,k,b,rfl,kb2,?_⟩;have CR:(ρ.set i (.ob (.An [] [])))[i]?=some (.ob (.An [] [])):=by simp[AN]
    have LL:i< σ.length:=by rw[B7.len];exact AN
    have N7:=DW.Tz (a:=a) CR (by simp[LL]) (o':=.An [k] [Pw]) (ho:=.An [(k,z)]) ⟨[(k,z)],rfl,rfl,.cons ND .nil⟩;rw[List.set_set]at N7;exact h _ _ _ N7 (s1.g.trans s2.g)
   .exact h.elim⟩
end
@[simp] theorem BX{α β:Type}(a:α)(k:α->R β):(R.ok a).bind k=k a:=(rfl)
noncomputable def SO(b:B0):FQ->R FQ
 |.B6 ρ=>b ρ
 |f=>.ok f
@[simp] theorem ED(a b:B0)(ρ:AI):AS a b ρ=(a ρ).bind (SO b):=by unfold AS;congr 1
@[simp] theorem F4(b:B0)(ρ:AI):SO b (.B6 ρ)=b ρ:=(rfl)
@[simp] theorem aio(b:B0)(d:D):SO b (.EP d)=.ok (.EP d):=(rfl)
@[simp] theorem ain(b:B0)(d:μ):SO b (.Ja d)=.ok (.Ja d):=(rfl)
noncomputable def a_:Option Bb->R D
 |some (.A2 d)=>.ok d
 |_=>.bad
@[simp] theorem v_var(i:Nat)(ρ:AI):J i ρ=a_ ρ[i]?:=by unfold J a_;rfl
@[simp] theorem Kx(d:D):a_ (some (.A2 d))=.ok d:=(rfl)
@[simp] theorem oy(d:D)(ρ:AI):A5 d ρ=.ok d:=(rfl)
@[simp] theorem aL(f:D->D->R D)(a b:Ae)(ρ:AI):A3 f a b ρ=(a ρ).bind λx=>(b ρ).bind λy=>f x y:=(rfl)
@[simp] theorem eO(f:D->R D)(a:Ae)(ρ:AI):C4 f a ρ=(a ρ).bind f:=(rfl)
@[simp] theorem Ka(ρ:AI):AF ρ=.ok []:=(rfl)
@[simp] theorem Gi(a:Ae)(r:B1)(ρ:AI):A1 a r ρ=(a ρ).bind λx=>(r ρ).bind λxs=>.ok (x::xs):=(rfl)
noncomputable def f3(xs:μ):R D:=if xs.length<=1000000 then .ok (.tup xs)else .bad
@[simp] theorem aN(m:B1)(ρ:AI):C_ m ρ=(m ρ).bind f3:=(rfl)
@[simp] theorem air{xs:μ}(h:xs.length<=1000000):f3 xs=.ok (.tup xs):=if_pos h
@[simp] theorem Wf(m:B1)(ρ:AI):Bo m ρ=(m ρ).bind λxs=>.ok (.lst xs):=(rfl)
@[simp] theorem q0(m:B1)(ρ:AI):CZ m ρ=(m ρ).bind lim:=(rfl)
@[simp] theorem eI(m:Ae)(ρ:AI):Ax m ρ=(m ρ).bind NC:=(rfl)
@[simp] theorem sV(b:Bool):NC (.AR b)=.ok b:=(rfl)
@[simp] theorem v_and(a b:Ck)(ρ:AI):IH a b ρ=(a ρ).bind λc=>if c=true then b ρ else .ok false:=(rfl)
@[simp] theorem v_or(a b:Ck)(ρ:AI):II a b ρ=(a ρ).bind λc=>if c=true then .ok true else b ρ:=(rfl)
@[simp] theorem v_not(a:Ck)(ρ:AI):Ec a ρ=(a ρ).bind λc=>.ok (!c):=(rfl)
@[simp] theorem ait(a b:Ae)(ρ:AI):OD a b ρ=(a ρ).bind λx=>(NC x).bind λc=>if c=true then b ρ else .ok (.AR false):=(rfl)
@[simp] theorem pz(c:Ck)(a b:B0)(ρ:AI):C9 c a b ρ=(c ρ).bind λk=>if k=true then a ρ else b ρ:=(rfl)
@[simp] theorem aj6(ρ:AI):CU ρ=.ok (.B6 ρ):=(rfl)
@[simp] theorem q1(a:Ae)(ρ:AI):CV a ρ=(a ρ).bind λd=>.ok (.EP d):=(rfl)
@[simp] theorem adq(a:B1)(ρ:AI):Fn a ρ=(a ρ).bind λd=>.ok (.Ja d):=(rfl)
@[simp] theorem adv(i:Nat)(d:D)(ρ:AI):BK i d ρ=if i<ρ.length then .ok (ρ.set i (.A2 d))else .bad:=(rfl)
@[simp] theorem aif(i:Nat)(a:Ae)(ρ:AI):BU i a ρ=(a ρ).bind λd=>(BK i d ρ).bind λBL=>.ok (.B6 BL):=(rfl)
@[simp] theorem adu(i:Nat)(a:B1)(ρ:AI):EK i a ρ=(a ρ).bind λds=>if i<ρ.length then .ok (.B6 (ρ.set i (.Bm ds)))else .bad:=(rfl)
@[simp] theorem ads(i:Nat)(a:HQ)(ρ:AI):NY i a ρ=(a ρ).bind λx=>(BK i x.1 x.2).bind λBL=>.ok (.B6 BL):=(rfl)
@[simp] theorem pw(a:HQ)(ρ:AI):QZ a ρ=(a ρ).bind λx=>.ok (.B6 x.2):=(rfl)
@[simp] theorem eJ(f:μ->R D)(m:B1)(ρ:AI):Bz f m ρ=(m ρ).bind f:=(rfl)
@[simp] theorem aM(n:Nat)(BQ:μ->R C5)(m:B1)(ρ:AI):Br n BQ m ρ=(m ρ).bind λds=>if ds.length=n then(BQ ds).bind P4 else .bad:=(rfl)
@[simp] theorem aeK(n:Nat)(BQ:μ->R C5)(m:B1)(ρ:AI):Fg n BQ m ρ=(m ρ).bind λds=>if ds.length=n then(BQ ds).bind af else .bad:=(rfl)
def px(mi:B1)(set:D->AI->R AI)(body:B0)(ρ:AI):Dq mi set body ρ=(mi ρ).bind λds=>Jv set body ds ρ:=(rfl)
@[simp] theorem ajA(m:B1)(ρ:AI):FL m ρ=(m ρ).bind SL:=(rfl)
@[simp] theorem aj0(m:Ae)(ρ:AI):H2 m ρ=(m ρ).bind P7:=(rfl)
@[simp] theorem v_bor(m:Ae)(ρ:AI):Ko m ρ=(m (DG ρ)).bind Vz:=(rfl)
@[simp] theorem pN(m:Ck)(ρ:AI):EH m ρ=m (DG ρ):=(rfl)
def pv(nl:Nat)(caps:ι)(mi:B1)(set:D->AI->R AI)(tst:Ck)(elt:Ae)(ρ:AI):E3 nl caps mi set tst elt ρ=(mi ρ).bind λds=>GL (I5 set tst elt ds (NE nl caps ρ) []):=(rfl)
@[simp] theorem ahe(i j:Int):DP (.int i) (.int j)=.ok (.int (i+j)):=(rfl)
@[simp] theorem aip(i j:Int):SR (.int i) (.int j)=.ok (.int (i-j)):=(rfl)
@[simp] theorem aiE{i j:Int}(A6: -18446744073709551616<i)(AA:i<18446744073709551616):Ks (.int i) (.int j)=.ok (.int (i*j)):=if_pos (Dh ⟨A6,AA⟩)
@[simp] theorem mul_r{i j:Int}(A6: -18446744073709551616<j)(AA:j<18446744073709551616):Ks (.int i) (.int j)=.ok (.int (i*j)):=if_pos (Cp ⟨A6,AA⟩)
@[simp] theorem aiL{i j:Int}(A6:0<j)(AA:j<1073741824):Eb (.int i) (.int j)=.ok (.int (i/j)):=if_pos ⟨A6,AA⟩
@[simp] theorem aiD{i j:Int}(h:0<j):D5 (.int i) (.int j)=.ok (.int (i%j)):=if_pos h
def aat:P2 (.int 10) (.int 30)=.ok (.int 1000000000000000000000000000000):=(rfl)
@[simp] theorem z7(i j:Int):Rj (.int i) (.int j)=.ok (.AR (decide (i<j))):=(rfl)
@[simp] theorem ai2(i j:Int):Pd (.int i) (.int j)=.ok (.AR (decide (i<=j))):=(rfl)
@[simp] theorem aiU(i j:Int):Yb (.int i) (.int j)=.ok (.AR (decide (j<i))):=(rfl)
@[simp] theorem ahV(i j:Int):BP true (.int i) (.int j)=.ok (.AR (i==j)):=(rfl)
@[simp] theorem aiF(i j:Int):BP false (.int i) (.int j)=.ok (.AR (!(i==j))):=(rfl)
@[simp] theorem ai4(xs:μ):CE [.lst xs]=.ok (.int xs.length):=(rfl)
@[simp] theorem ai6(xs:μ):CE [.tup xs]=.ok (.int xs.length):=(rfl)
@[simp] theorem ai5(xs:μ):CE [.D1 xs]=.ok (.int xs.length):=(rfl)
@[simp] theorem aho(d:D):P4 (.v d)=.ok d:=(rfl)
@[simp] theorem ahn(ds:μ):af (.o ds)=.ok ds:=(rfl)
@[simp] theorem ahk(d:D):outD (.EP d)=.ok (.v d):=(rfl)
@[simp] theorem ahj(d:μ):outD (.Ja d)=.ok (.o d):=(rfl)
@[simp] theorem eK(N:Nat)(m:B0)(ds:μ):DZ N m ds=(m (HX N ds)).bind outD:=(rfl)
noncomputable def dG:Option Bb->R μ
 |some (.Bm ds)=>.ok ds
 |_=>.bad
@[simp] theorem aj7(i:Nat)(ρ:AI):ownAt i ρ=dG ρ[i]?:=by unfold ownAt dG;rfl
@[simp] theorem ahl(ds:μ):dG (some (.Bm ds))=.ok ds:=(rfl)
@[simp] theorem aiM(set:D->AI->R AI)(body:B0)(ρ:AI):Jv set body [] ρ=.ok (.B6 ρ):=(rfl)
theorem ic{set:D->AI->R AI}{body:B0}(I:Nat->AI->Prop):∀(ds:μ)(i:Nat)(ρ:AI),(∀(j:Nat) d ρ,ds[j]?=some d->I (i+j) ρ->∃ER BL,set d ρ=.ok ER/\body ER=.ok (.B6 BL)/\I (i+j+1) BL)->I i ρ->∃BL,Jv set body ds ρ=.ok (.B6 BL)/\I (i+ds.length) BL
 |[],i,ρ,_,h=>⟨ρ,rfl,h⟩
 |d::ds,i,ρ,st,h=>by
  obtain⟨ER,Eu,A9,AH,AA⟩:=st 0 d ρ rfl h;obtain⟨BL,Au,Ao⟩:=ic I ds (i+1) Eu (λj d ρ e AC=>by obtain⟨a,b,BW,Ea,HA⟩:=st (j+1) d ρ (e:) (by rw[show i+(j+1)=i+1+j by lia];exact AC);exact⟨a,b,BW,Ea,by rw[show i+1+j+1=i+(j+1)+1 by lia];exact HA⟩) (AA:)
  refine⟨BL,?_,by rw[H4,show i+(ds.length+1)=i+1+ds.length by lia];exact Ao⟩;rw[Jv,A9,BX,AH,BX];exact Au
def vc{mi:B1}{set:D->AI->R AI}{body:B0}{ds:μ}{ρ:AI}(I:Nat->AI->Prop)(AC:mi ρ=.ok ds)(st:∀(j:Nat) d ρ,ds[j]?=some d->I j ρ->∃ER BL,set d ρ=.ok ER/\body ER=.ok (.B6 BL)/\I (j+1) BL)(h:I 0 ρ):∃BL,Dq mi set body ρ=.ok (.B6 BL)/\I ds.length BL:=by obtain⟨BL,e,h'⟩:=ic I ds 0 ρ (λj d ρ e Bi=>by rw[XH]at Bi |-;exact st j d ρ e Bi) h;rw[XH]at h';exact⟨BL,by rw[px,AC,BX,e],h'⟩
@[simp] theorem ba(d:D):HT (.A2 d)=.A2 d:=(rfl)
noncomputable def Xl(i:Nat)(ρ:AI)(ds:μ)(d:D):R FQ:=if ds.length<1000000 then .ok (.B6 (ρ.set i (.Bm (ds++[d]))))else .bad
@[simp] theorem ahM{i:Nat}{ρ:AI}{ds:μ}{d:D}(h:ds.length<1000000):Xl i ρ ds d=.ok (.B6 (ρ.set i (.Bm (ds++[d])))):=if_pos h
@[simp] theorem aeH(i:Nat)(m:Ae)(ρ:AI):Gz i m ρ=(ownAt i ρ).bind λds=>(m ρ).bind λd=>Xl i ρ ds d:=(rfl)
@[simp] theorem aiu(i:Nat)(m:HQ)(ρ:AI):Zy i m ρ=(ownAt i ρ).bind λ_=>(m ρ).bind λx=>(ownAt i x.2).bind λds=>Xl i x.2 ds x.1:=(rfl)
noncomputable def aiJ(i:Nat)(ds:μ)(ρ:AI):D->R (D×AI)
 |.lst A4=>if ds.length+A4.length<=1000000 then .ok (.non,ρ.set i (.Bm (ds++A4)))else .bad
 |_=>.bad
noncomputable def ZH(i:Nat)(ds:μ)(ρ:AI):D->R (D×AI)
 |.int k=>if-(2^63)<=k/\k<2^63 then match So k ds.length with
  |some j=>match ds[j]? with
   |some y=>.ok (y,ρ.set i (.Bm (ds.eraseIdx j)))
   |none=>.bad
  |none=>.bad
  else .bad
 |_=>.bad
@[simp] theorem aj8(i:Nat)(m:Ae)(ρ:AI):OH i m ρ=(ownAt i ρ).bind λds=>(m ρ).bind λd=>ZH i ds ρ d:=by unfold OH;congr 1
def aao{i:Nat}{ds:μ}{ρ:AI}{k:Nat}(h:k<ds.length)(AN:ds.length<1000000):ZH i ds ρ (.int (k:Int))=.ok (ds[k],ρ.set i (.Bm (ds.eraseIdx k))):=by
 have FU: -(2^63)<=(k:Int):=Int.le_trans ε (Int.natCast_nonneg k);have G3:(k:Int)<2^63:=Int.lt_trans (b:=1000000) δ ε;have s:So (k:Int) ds.length=some k:=by rw[PySem.seqIndex_of δ δ];simp
 erw[ZH,if_pos (And.intro FU G3),s,Dt h]
@[simp] theorem aj3(m:B1)(ρ:AI):WT m ρ=(m ρ).bind WM:=(rfl)
@[simp] theorem aj2(m:B1)(ρ:AI):OG m ρ=(m ρ).bind Zs:=(rfl)
@[simp] theorem aj1(m:Ae)(ρ:AI):Qc m ρ=(m ρ).bind f5:=(rfl)
@[simp] theorem aeL(set:D->AI->R AI)(m:Ae)(ρ:AI):M7 set m ρ=(m ρ).bind λd=>(set d ρ).bind λBL=>.ok (.B6 BL):=(rfl)
@[simp] theorem aie(m:Ae)(ρ:AI):JR m ρ=(m (DG ρ)).bind λd=>.ok (.EP d):=(rfl)
@[simp] theorem ahp(ds:μ):P7 (.lst ds)=.ok ds:=(rfl)
@[simp] theorem ai8(ds:μ):Zs [.lst ds]=.ok ds:=(rfl)
@[simp] theorem ai7{xs:μ}(h:xs.length<=1000000):lim xs=.ok xs:=if_pos h
@[simp] theorem aiR:DG []=[]:=(rfl)
@[simp] theorem aiQ(s:Bb)(ρ:AI):DG (s::ρ)=IB s::DG ρ:=(rfl)
@[simp] theorem vg(d:D):IB (.A2 d)=.A2 d:=(rfl)
@[simp] theorem vh:IB .un=.un:=(rfl)
@[simp] theorem aiP(ds:μ):IB (.ob (.lst ds))=.A2 (.lst ds):=(rfl)
@[simp] theorem ahi(i:Int):Vz (.int i)=.ok (.int i):=(rfl)
@[simp] theorem U1{α:Type}(a:α):GL (R.ok a)=.ok a:=(rfl)
def eS:Option Bb->R μ
 |some (.ob (.lst ds))=>.ok ds
 |_=>.bad
@[simp] theorem aih(i:Nat)(ρ:AI):J5 i ρ=eS ρ[i]?:=by unfold J5 eS;rfl
@[simp] theorem aii(ds:μ):eS (some (.Bm ds))=.ok ds:=(rfl)
@[simp] theorem aix(f g:D->D->R D)(a b c:Ae)(ρ:AI):OE f g a b c ρ=(a ρ).bind λx=>(b ρ).bind λy=>(f x y).bind λz=>(NC z).bind λk=>if k=true then(c ρ).bind λw=>g y w else .ok (.AR false):=(rfl)
@[simp] theorem ahu(N:Nat)(ds:μ):HX N ds=ds.map .A2++ES (N-ds.length) .un:=(rfl)
def IF{xs:μ}{k:Nat}{d:D}(h:xs[k]?=some d):AM (.lst xs) (.int (k:Int))=.ok d:=by
 have AE:=(List.getElem?_eq_some_iff.mp h).1;have e:G2 xs (k:Int)=some d:=by unfold G2 Ii;rw[if_pos δ,if_pos δ];simpa using h
 erw[AM,e]
def x6{xs:μ}{k:Nat}{d:D}(h:xs[k]?=some d):AM (.D1 xs) (.int (k:Int))=.ok d:=by
 have AE:=(List.getElem?_eq_some_iff.mp h).1;have e:G2 xs (k:Int)=some d:=by unfold G2 Ii;rw[if_pos δ,if_pos δ];simpa using h
 erw[AM,e]
def cB{xs:μ}{k:Nat}{d:D}(h:xs[k]?=some d):AM (.tup xs) (.int (k:Int))=.ok d:=by
 have AE:=(List.getElem?_eq_some_iff.mp h).1;have e:G2 xs (k:Int)=some d:=by unfold G2 Ii;rw[if_pos δ,if_pos δ];simpa using h
 erw[AM,e]
def JV(x:Int){n:Nat}(h:0<n):∃k:Nat,k<n/\x%(n:Int)=(k:Int):=by have h0:0<=x%(n:Int):=fW _ δ;have A6:x%(n:Int)<(n:Int):=fe _ δ;obtain⟨k,e⟩:=Int.eq_ofNat_of_zero_le h0;exact⟨k,δ,e⟩
@[simp] theorem SM(n:Nat)(h:n<1000000):SL [.int (n:Int)]=.ok (Fh 0 n):=by have: -(2^62)<=(n:Int)/\(n:Int)<2^62:=⟨δ,δ⟩;erw[SL,if_pos this,Mr]
def abx{n j:Nat}{d:D}(h:(Fh 0 n)[j]?=some d):j<n/\d=.int (j:Int):=by
 unfold Fh at h;rw[EC]at h;cases e:(EN n)[j]? with
 |none=>rw[e]at h;cases h
 |some k=>
  rw[e]at h;have Bi:j<n:=by have:=(List.getElem?_eq_some_iff.mp e).1;simpa using this
  rw[UO Bi]at e;cases e;simp at h;exact⟨Bi,h.symm⟩
@[simp] theorem aby(a:Int)(n:Nat):(Fh a n).length=n:=by simp[Fh]
@[simp] theorem SV{α β agy:Type}(r:R α)(f:α->R β)(g:β->R agy):(r.bind f).bind g=r.bind λx=>(f x).bind g:=by cases r<;>rfl
def Ends{β:Type}(r:R β)(T:β->Prop):Prop:=∃b,r=.ok b/\T b
@[simp] theorem ahT{β:Type}(b:β)(T:β->Prop):Ends (.ok b) T=T b:=propext ⟨λ⟨c,e,h⟩=>by cases e;exact h,λh=>⟨b,rfl,h⟩⟩
theorem Ends.bind{α β:Type}{r:R α}{k:α->R β}{S:α->Prop}{T:β->Prop}(h:Ends r S)(f:∀b,S b->Ends (k b) T):Ends (r.bind k) T:=by obtain⟨b,rfl,A0⟩:=h;exact f b A0
def Ends.mono{β:Type}{r:R β}{S T:β->Prop}(h:Ends r S)(f:∀b,S b->T b):Ends r T:=by obtain⟨b,e,A0⟩:=h;exact⟨b,e,f b A0⟩
def IZ(I:AI->Prop)(f:FQ):Prop:=∃ρ,f=.B6 ρ/\I ρ
@[simp] theorem ahZ(I:AI->Prop)(ρ:AI):IZ I (.B6 ρ)=I ρ:=propext ⟨λ⟨r,e,h⟩=>by cases e;exact h,λh=>⟨ρ,rfl,h⟩⟩
def io{β:Type}{mi:B1}{set:D->AI->R AI}{body:B0}{ds:μ}{ρ:AI}{k:FQ->R β}{T:β->Prop}(I:Nat->AI->Prop)(AC:mi ρ=.ok ds)(h0:I 0 ρ)(st:∀(j:Nat) d ρ,ds[j]?=some d->I j ρ->Ends ((set d ρ).bind body) (IZ (I (j+1))))(fin:∀BL,I ds.length BL->Ends (k (.B6 BL)) T):Ends ((Dq mi set body ρ).bind k) T:=by
 obtain⟨BL,e,h⟩:=vc (body:=body) (set:=set) (mi:=mi) I AC (λj d ρ hd HW=>by
  obtain⟨b,e,BL,rfl,h⟩:=st j d ρ hd HW;cases A4:set d ρ with
  |bad=>rw[A4]at e;cases e
  |exc c=>rw[A4]at e;cases e
  |ok ER=>rw[A4,BX]at e;exact⟨ER,BL,rfl,e,h⟩) h0
 rw[e,BX];exact fin BL h
noncomputable def pb(i:Nat):FQ->R FQ
 |.B6 BL=>.ok (.B6 (Jw i BL))
 |f=>.ok f
@[simp] theorem adt(i:Nat)(a:B1)(ρ:AI):Qe i a ρ=(EK i a ρ).bind (pb i):=by unfold Qe;congr 1
@[simp] theorem acp(i:Nat)(ρ:AI):pb i (.B6 ρ)=.ok (.B6 (Jw i ρ)):=(rfl)
noncomputable def bZ(ds:μ):D->R μ
 |.lst A4=>if ds.length+A4.length<=1000000 then .ok (ds++A4)else .bad
 |_=>.bad
@[simp] theorem ahO{ds A4:μ}(h:ds.length+A4.length<=1000000):bZ ds (.lst A4)=.ok (ds++A4):=if_pos h
noncomputable def bX:D->D->R μ
 |.lst ds,.lst A4=>if ds.length+A4.length<=1000000 then .ok (ds++A4)else .bad
 |_,_=>.bad
@[simp] theorem bY{ds A4:μ}(h:ds.length+A4.length<=1000000):bX (.lst ds) (.lst A4)=.ok (ds++A4):=if_pos h
@[simp] theorem adl(m n:Ae)(ρ:AI):KG m n ρ=(m ρ).bind λc=>(n ρ).bind λd=>bX c d:=by unfold KG;congr 1
@[simp] theorem aiw(i:Nat)(m:Ae)(ρ:AI):T1 i m ρ=(ownAt i ρ).bind λds=>(m ρ).bind λd=>bZ ds d:=by unfold T1;congr 1
@[simp] theorem eN(f:D->Option Int->Option Int->R D)(m:Ae)(lo AC:MW)(ρ:AI):EV f m lo AC ρ=(m ρ).bind λd=>(lo ρ).bind λl=>(AC ρ).bind λh=>f d l h:=(rfl)
noncomputable def bN(i:Nat)(ρ:AI):Option Bb->AI
 |some (.ob o)=>ρ.set i (.A2 (JX o))
 |_=>ρ
@[simp] theorem aiO(i:Nat)(ρ:AI):Jw i ρ=bN i ρ ρ[i]?:=by unfold Jw bN;rfl
@[simp] theorem aiN(i:Nat)(ρ:AI)(ds:μ):bN i ρ (some (.Bm ds))=ρ.set i (.A2 (.lst ds)):=(rfl)
@[simp] theorem eL(ρ:AI):G9 ρ=.ok none:=(rfl)
@[simp] theorem eM(m:Ae)(ρ:AI):Ef m ρ=(m ρ).bind intD:=(rfl)
@[simp] theorem je(i:Int):intD (.int i)=.ok (some i):=(rfl)
def b6{β α:Type}{mi:B1}{elt:Ae}{tst:Ck}{caps:ι}{ρ:AI}{k:μ->R β}{T:β->Prop}(g:α->D)(xs:List α)(p:α->Bool)(f:α->D)(AC:mi ρ=.ok (xs.map g))(AN:xs.length<=1000)(Aj:∀a∈xs,tst (.A2 (g a)::caps.map λj=>HT (ρ.getD j .un))=.ok (p a))(h:∀a∈xs,p a=true->elt (.A2 (g a)::caps.map λj=>HT (ρ.getD j .un))=.ok (f a))(fin:Ends (k ((xs.filter p).map f)) T):Ends ((E3 1 caps mi (BK 0) tst elt ρ).bind k) T:=by
 have go:∀(xs:List α)(ws:μ)(s0:Bb),ws.length+xs.length<=1000000->(∀a∈xs,tst (.A2 (g a)::caps.map λj=>HT (ρ.getD j .un))=.ok (p a))->(∀a∈xs,p a=true->elt (.A2 (g a)::caps.map λj=>HT (ρ.getD j .un))=.ok (f a))->I5 (BK 0) tst elt (xs.map g) (s0::caps.map λj=>HT (ρ.getD j .un)) ws=.ok (ws++(xs.filter p).map f):=by
  intro xs;induction xs with
  |nil=>intro ws s0 _ _ _;simp[I5]
  |cons a xs Bh=>
   intro ws s0 AN Aj h;erw[H4]at AN;have DJ:BK 0 (g a) (s0::caps.map λj=>HT (ρ.getD j .un))=.ok (.A2 (g a)::caps.map λj=>HT (ρ.getD j .un)):=γ
   rw[Du,I5,DJ,BX,Aj a γ,BX];cases e:p a with
   |true=>erw[if_true,h a γ e,BX,if_pos (show ws.length<1000000 by lia)];rw[Bh (ws++[f a]) _ (by simp;lia) (λx AG=>Aj x (by simp[AG])) λx AG=>h x (by simp[AG])];simp[e]
   |false=>erw[Hg,if_false];rw[Bh ws _ δ (λx AG=>Aj x (by simp[AG])) λx AG=>h x (by simp[AG])];simp[e]
 rw[pv,AC,BX];have e:=go xs [] .un (by simp;lia) Aj h;have:GL (I5 (BK 0) tst elt (xs.map g) (NE 1 caps ρ) [])=.ok ((xs.filter p).map f):=by show GL (I5 (BK 0) tst elt (xs.map g) (.un::caps.map λj=>HT (ρ.getD j .un)) [])=_;rw[e];rfl
 rw[this,BX];exact fin
def SE{β α:Type}{mi:B1}{elt:Ae}{caps:ι}{ρ:AI}{k:μ->R β}{T:β->Prop}(g:α->D)(xs:List α)(f:α->D)(AC:mi ρ=.ok (xs.map g))(AN:xs.length<=1000)(h:∀a∈xs,elt (.A2 (g a)::caps.map λj=>HT (ρ.getD j .un))=.ok (f a))(fin:Ends (k (xs.map f)) T):Ends ((E3 1 caps mi (BK 0) FM elt ρ).bind k) T:=
 b6 g xs (λ_=>true) f AC AN (λ_ _=>rfl) (λa AD _=>h a AD) (by rw[List.filter_eq_self.mpr λ_ _=>rfl];exact fin)
def Ta(n:Nat):Fh 0 n=(EN n).map λ(i:Nat)=>.int (i:Int):=by simp[Fh]
def SF{β:Type}{mi:B1}{elt:Ae}{caps:ι}{ρ:AI}{k:μ->R β}{T:β->Prop}(n:Nat)(f:Nat->D)(AC:mi ρ=.ok (Fh 0 n))(AN:n<=1000)(h:∀a,a<n->elt (.A2 (.int (a:Int))::caps.map λj=>HT (ρ.getD j .un))=.ok (f a))(fin:Ends (k ((EN n).map f)) T):Ends ((E3 1 caps mi (BK 0) FM elt ρ).bind k) T:=
 SE (λ(i:Nat)=>.int (i:Int)) (EN n) f (by rw[AC,Ta]) (AN:) (λa AD=>h a (AD:)) fin
def NH{β α:Type}{mi:B1}{set:D->AI->R AI}{body:B0}{ρ:AI}{k:FQ->R β}{T:β->Prop}(g:α->D)(xs:List α)(I:Nat->AI->Prop)(AC:mi ρ=.ok (xs.map g))(h0:I 0 ρ)(st:∀(j:Nat) a ρ,xs[j]?=some a->I j ρ->Ends ((set (g a) ρ).bind body) (IZ (I (j+1))))(fin:∀BL,I xs.length BL->Ends (k (.B6 BL)) T):Ends ((Dq mi set body ρ).bind k) T:=
 io I AC h0 (λj d ρ hd HW=>by
  rw[EC]at hd;cases e:xs[j]? with
  |none=>rw[e]at hd;cases hd
  |some a=>rw[e]at hd;cases hd;exact st j a ρ e HW) (by rw[GN];exact fin)
def OS{β:Type}{mi:B1}{set:D->AI->R AI}{body:B0}{ρ:AI}{k:FQ->R β}{T:β->Prop}(n:Nat)(I:Nat->AI->Prop)(AC:mi ρ=.ok (Fh 0 n))(h0:I 0 ρ)(st:∀(j:Nat) ρ,j<n->I j ρ->Ends ((set (.int (j:Int)) ρ).bind body) (IZ (I (j+1))))(fin:∀BL,I n BL->Ends (k (.B6 BL)) T):Ends ((Dq mi set body ρ).bind k) T:=
 io I AC h0 (λj d ρ hd HW=>by obtain⟨Bi,rfl⟩:=abx hd;exact st j ρ Bi HW) (by rw[aby];exact fin)
theorem l1{α β:Type}(f:α->β):∀(l:List α)(i:Nat),(l.map f).eraseIdx i=(l.eraseIdx i).map f
 |[],_=>rfl
 |x::l,0=>rfl
 |x::l,i+1=>by erw[qb,Du,l1 f l i]
def dP{α:Type}(g:α->D){l:List α}{i:Nat}{k:Nat}(h:k<l.length)(AN:l.length<1000000)(ρ:AI):ZH i (l.map g) ρ (.int (k:Int))=.ok (g l[k],ρ.set i (.Bm ((l.eraseIdx k).map g))):=by rw[aao (h:) (AN:),l1];simp
@[simp] theorem aiA(n:Nat)(h:n<=1000000):WM [.int (n:Int)]=.ok (Fh 0 n):=by have: -(2^62)<=(n:Int)/\(n:Int)<=1000000:=⟨δ,δ⟩;erw[WM,if_pos this,Mr]
@[simp] theorem pO(xs:μ)(l h:Option Int):IR (.lst xs) l h=.ok (.lst (Ed xs l h)):=(rfl)
@[simp] theorem aim(xs:μ)(l h:Option Int):IR (.D1 xs) l h=.ok (.lst (Ed xs l h)):=(rfl)
def tY{α:Type}(xs:List α)(k:Nat):Ed xs none (some (k:Int))=xs.take k:=by
 unfold Ed;rw[DX.d8,DX.nd,fz,XI];by_cases h:k<=xs.length
 .rw[Nat.min_eq_left h]
 .rw[Nat.min_eq_right δ,f_,X2 δ]
def sT{α:Type}(xs:List α)(k:Nat):Ed xs (some (k:Int)) none=xs.drop k:=by
 unfold Ed;rw[DX.d8,DX.nd];by_cases h:k<=xs.length
 .rw[Nat.min_eq_left h,<-X4,f_]
 .rw[Nat.min_eq_right δ,List.drop_length,qh δ];simp
def Y3{α β:Type}(g:α->β)(xs:List α)(l h:Option Int):Ed (xs.map g) l h=(Ed xs l h).map g:=by unfold Ed;simp[XJ,List.map_drop]
@[simp] theorem acv(Ar:List (D->AI->R AI))(ds:μ)(ρ:AI):FO Ar (.tup ds) ρ=IQ Ar ds ρ:=(rfl)
@[simp] theorem acu(ρ:AI):IQ [] [] ρ=.ok ρ:=(rfl)
@[simp] theorem adk(f:D->AI->R AI)(Ar:List (D->AI->R AI))(d:D)(ds:μ)(ρ:AI):IQ (f::Ar) (d::ds) ρ=(f d ρ).bind λBL=>IQ Ar ds BL:=(rfl)
@[simp] theorem aj4(Af:Str)(n:Nat)(BQ:μ->R (List Str×μ))(ma:B1)(ρ:AI):Tl Af n BQ ma ρ=(ma ρ).bind λds=>if ds.length=n then(GL (BQ ds)).bind λx=>.ok (.ins Af x.1 x.2)else .bad:=(rfl)
@[simp] theorem ahg(i:Int):EW (.int i)=.ok (.int (-i)):=(rfl)
@[simp] theorem adn(m:B1)(ρ:AI):WR m ρ=(m ρ).bind TJ:=(rfl)
@[simp] theorem v_is(m:Ae)(ρ:AI):WS m ρ=(m ρ).bind ea:=(rfl)
@[simp] theorem aj5(i:Nat)(m:B0)(ρ:AI):OF i m ρ=m (Jw i ρ):=(rfl)
@[simp] theorem aiz(c:Ck)(a b:Ae)(ρ:AI):MO c a b ρ=(c ρ).bind λk=>if k=true then a ρ else b ρ:=(rfl)
@[simp] theorem ado(Af mt:Str)(n:Nat)(BQ:μ->R C5)(o:Ae)(ma:B1)(ρ:AI):Il Af mt n BQ o ma ρ=(o ρ).bind λd=>(QJ Af mt d).bind λd=>(ma ρ).bind λds=>if ds.length=n then(BQ (d::ds)).bind P4 else .bad:=(rfl)
@[simp] theorem aj9(i:Nat)(mk mv:Ae)(ρ:AI):a4 i mk mv ρ=(mv ρ).bind λv=>(ownAt i ρ).bind λds=>(mk ρ).bind λk=>putK i ρ ds v k:=(rfl)
def acR{i:Nat}{ρ:AI}{ds:μ}{v:D}{k:Nat}(h:k<ds.length):putK i ρ ds v (.int (k:Int))=.ok (.B6 (ρ.set i (.Bm (ds.set k v)))):=by
 have e:Ii ds.length (k:Int)=some k:=by unfold Ii;rw[if_pos δ,if_pos δ];simp
 erw[putK,e,putN]
@[simp] theorem oo(k:Bool):Vo [.AR k]=.ok (.int (if k then 1 else 0)):=(rfl)
@[simp] theorem ahw(x:D):GW true x .non=.ok (.AR (K1 x)):=(rfl)
@[simp] theorem aiG(x:Str):ea (.str x)=.ok (x.cps.toList.map GB):=(rfl)
def sx{α:Type}(g:α->D)(xs:List α):TJ [.lst (xs.map g)]=.ok (xs.zipIdx.map λp=>.tup [.int (p.2:Int),g p.1]):=by
 erw[TJ,Q0]
 congr 1
 rw[List.zipIdx_map,IU];rfl
def tS{β α:Type}{mi:B1}{elt:Ae}{caps:ι}{ρ:AI}{k:μ->R β}{iS:β->Prop}(g1 g2:α->D)(xs:List α)(f:α->D)(AC:mi ρ=.ok (xs.map λa=>.tup [g1 a,g2 a]))(AN:xs.length<=1000)(h:∀a∈xs,elt (.A2 (g1 a)::.A2 (g2 a)::caps.map λj=>HT (ρ.getD j .un))=.ok (f a))(fin:Ends (k (xs.map f)) iS):Ends ((E3 2 caps mi (FO [BK 0,BK 1]) FM elt ρ).bind k) iS:=by
 have go:∀(xs:List α)(ws:μ)(s0 s1:Bb),ws.length+xs.length<=1000000->(∀a∈xs,elt (.A2 (g1 a)::.A2 (g2 a)::caps.map λj=>HT (ρ.getD j .un))=.ok (f a))->I5 (FO [BK 0,BK 1]) FM elt (xs.map λa=>.tup [g1 a,g2 a]) (s0::s1::caps.map λj=>HT (ρ.getD j .un)) ws=.ok (ws++xs.map f):=by
  intro xs;induction xs with
  |nil=>intro ws s0 s1 _ _;simp[I5]
  |cons a xs Bh=>
   intro ws s0 s1 AN h;erw[H4]at AN;have DJ:FO [BK 0,BK 1] (.tup [g1 a,g2 a]) (s0::s1::caps.map λj=>HT (ρ.getD j .un))=.ok (.A2 (g1 a)::.A2 (g2 a)::caps.map λj=>HT (ρ.getD j .un)):=γ
   rw[Du,I5,DJ,BX];erw[FM,BX,if_true,h a γ,if_pos (show ws.length<1000000 by lia)];rw[Bh (ws++[f a]) _ _ (by simp;lia) λx AG=>h x (by simp[AG])];simp
 rw[pv,AC,BX];have e:=go xs [] .un .un (by simp;lia) h;have:GL (I5 (FO [BK 0,BK 1]) FM elt (xs.map λa=>.tup [g1 a,g2 a]) (NE 2 caps ρ) [])=.ok (xs.map f):=by show GL (I5 (FO [BK 0,BK 1]) FM elt (xs.map λa=>.tup [g1 a,g2 a]) (.un::.un::caps.map λj=>HT (ρ.getD j .un)) [])=_;rw[e];rfl
 rw[this,BX];exact fin
def Ends.done{β:Type}{r:R β}{b:β}(h:Ends r (· =b)):r=.ok b:=by obtain⟨c,e,rfl⟩:=h;exact e
end CP
namespace Bs
open PySem PySem.Spec PyProof.Rows
section
variable{X:Ac}{pins:List (A8×Obj)}{σ :St}{H:AB}{s:AP}{r:A8}
def Inv.swap(I:θ){o o':DN}(e:H r=some o)(ok:FS X.prog X.w X.K (upd H r o') s.heap r o')(Cv:∀xs,o≠.tup xs)(D8:∀x,o≠.own x)(JU:∀Ai,o≠.QS Ai)(MR:∀ob u,X.RE r≠some (.GT ob u)):Inv X pins σ (upd H r o') s:=by
 have ne:∀{b:A8},H b=none->b≠r:=λz q=>by subst q;rw[e]at z;cases z
 have kp:∀{b:A8}{u:DN},H b=some u->u≠o->upd H r o' b=some u:=λ{b u} z q=>by
  by_cases A0:b=r
  .subst A0;rw[e]at z;cases z;exact absurd rfl q
  .rw[Cy A0];exact z
 refine⟨I.ok,I.os,I.bare,⟨I.base.keep,I.base.slot,λb ob A6 AA Ao=>?_,I.base.there,λb xs q=>kp (I.base.Np b xs q) λz=>Cv xs z.symm,λb ob u q=>?_,λb Ai q=>?_⟩,I.loc,I.cell,?_,λx c q=>?_,λp AZ=>?_,λa u q=>?_,I.len⟩
 .have:=I.base.free b ob A6 AA Ao;rw[Cy (ne this)];exact this
 .by_cases A0:b=r
  .subst A0;exact absurd q (MR ob u)
  .rw[Cy A0];exact I.base.Lo b ob u q
 .obtain⟨more,q⟩:=I.base.Nb b Ai q;exact⟨more,kp q λz=>JU _ z.symm⟩
 .rw[Cy (ne I.free)];exact I.free
 .rw[Cy (ne (I.Li x c q))];exact I.Li x c q
 .obtain⟨A6,AA,Ao⟩:=I.pin p AZ;exact⟨A6,by rw[Cy (ne AA)];exact AA,Ao⟩
 .by_cases AD:a=r
  .subst AD;rw[Da]at q;cases q;exact ok
  .rw[Cy AD]at q;exact(I.BZ a u q).PA (λ_ _ _ z=>z) (λb z=>kp z λy=>D8 _ y.symm) λb xs z=>kp z λy=>Cv _ y.symm
def p6(i:Nat)(t:TE):TE:=λσ H Q=>t σ H Q\/∃r xs,σ[i]?=some (some (.ref r))/\H r=some (.lst xs)/\∀o,t σ (upd H r (.GT o (.lst xs))) λv H'=>H' r=some (.GT o (.lst xs))/\Q v (upd H' r (.lst xs))
def abd{e:AU}{t:TE}(i:Nat)(h:Av X e t):Av X e (p6 i t):=by
 intro pins s σ H Q I k;rcases k with k|⟨r,xs,A9,AH,k⟩
 .exact h pins s σ H Q I k
 .have ok:=I.BZ r _ AH;obtain⟨z,its,n,CJ,Mc⟩:=ok;have MR:∀ob u,X.RE r≠some (.GT ob u):=λob u q=>by
   have:=I.base.Lo r ob u q;rw[AH]at this;cases this
  have Az:=I.swap (o':=.GT _ (.lst xs)) AH ⟨Mc,z,its,n,CJ,Mc⟩ (λ_ q=>nomatch q) (λ_ q=>nomatch q) (λ_ q=>nomatch q) MR;refine Bc (h pins s σ _ _ Az (k _)) λv s1⟨y,H1,Bl,AK,Ak,BC⟩=>?_;obtain⟨_,FY,its',Na,abi,sy⟩:=Bl.BZ r _ Ak;exact⟨y,_,Bl.swap (o':=.lst xs) Ak ⟨FY,its',Na,abi,sy⟩ (λ_ q=>nomatch q) (λ_ q=>nomatch q) (λ_ q=>nomatch q) MR,AK,BC⟩
end
end Bs
namespace CP
open PySem PySem.Spec Bs
def We:V->Bool
 |.int _=>true
 |_=>false
def Lf:D->Bool
 |.int _=>true
 |_=>false
noncomputable def J7:DN->Bool
 |.lst xs=>!xs.isEmpty&&xs.all We
 |_=>false
noncomputable def J6(ds:μ):Bool:=!ds.isEmpty&&ds.all Lf
mutual
noncomputable def FA:D->Bool
 |.lst ds=>!J6 ds&&Fo ds
 |.D1 _=>false
 |.Md _=>false
 |.tup ds=>Fo ds
 |.ins _ _ ds=>Fo ds
 |.Df _ ds=>Fo ds
 |.An _ ds=>Fo ds
 |.Do ds=>Fo ds
 |_=>true
noncomputable def Fo:μ->Bool
 |[]=>true
 |d::ds=>FA d&&Fo ds
end
section
variable{K:Aa}{G G':AB}
theorem At.We:∀{d:D}{v:V},At K G d v->CP.We v=Lf d:=λ{d v} h=>by
 cases d<;>erw[At]at h<;>first
  |(subst h;rfl)
  |(obtain⟨a,xs,rfl,_⟩:=h;rfl)
  |(obtain⟨a,Ag,xs,rfl,_⟩:=h;rfl)
theorem AW.J6:∀{ds:μ}{xs:List V},AW K G ds xs->xs.all CP.We=ds.all Lf/\xs.isEmpty=ds.isEmpty
 |[],_,h=>by erw[AW]at h;subst h;exact⟨rfl,rfl⟩
 |d::ds,_,h=>by erw[AW]at h;obtain⟨v,r,rfl,a,t⟩:=h;simp[a.We,(AW.J6 t).1]
mutual
theorem At.mR(h:∀b o,G b=some o->J7 o=false->G' b=some o):∀{d:D}{v:V},FA d=true->At K G d v->At K G' d v
 |.non,_,_,q=>by simpa only[At]using q
 |.AR _,_,_,q=>by simpa only[At]using q
 |.int _,_,_,q=>by simpa only[At]using q
 |.str _,_,_,q=>by simpa only[At]using q
 |.tup _,_,n,q=>by erw[At,FA]at q n |-;obtain⟨a,xs,e,g,r⟩:=q;exact⟨a,xs,e,h _ _ g rfl,AW.RQ h n r⟩
 |.lst _,_,n,q=>by erw[At,FA,Fj,fj]at q n |-;obtain⟨a,xs,e,g,r⟩:=q;refine⟨a,xs,e,h _ _ g ?_,AW.RQ h n.2 r⟩;obtain⟨A6,AA⟩:=AW.J6 r;erw[J7,A6,AA];exact n.1
 |.D1 _,_,n,_=>by erw[FA]at n;cases n
 |.Md _,_,n,_=>by erw[FA]at n;cases n
 |.Do _,_,n,q=>by
  erw[At,FA]at q n |-;obtain⟨a,xs,e,g,r⟩:=q;refine⟨a,xs,e,?_,AW.RQ h n r⟩;rcases g with(g|⟨o,g⟩)|g
  .exact .inl (.inl (h _ _ g rfl))
  .exact .inl (.inr ⟨o,h _ _ g rfl⟩)
  .exact .inr g
 |.Df _ _,_,n,q=>by erw[At,FA]at q n |-;obtain⟨a,xs,e,g,k,r⟩:=q;exact⟨a,xs,e,h _ _ g rfl,k,AW.RQ h n r⟩
 |.An _ _,_,n,q=>by erw[At,FA]at q n |-;obtain⟨a,xs,e,g,k,r⟩:=q;exact⟨a,xs,e,h _ _ g rfl,k,AW.RQ h n r⟩
 |.ins _ _ _,_,n,q=>by erw[At,FA]at q n |-;obtain⟨a,Ag,xs,e,⟨C,c,g⟩,k,r⟩:=q;exact⟨a,Ag,xs,e,⟨C,c,h _ _ g rfl⟩,k,AW.RQ h n r⟩
theorem AW.RQ(h:∀b o,G b=some o->J7 o=false->G' b=some o):∀{ds:μ}{vs:List V},Fo ds=true->AW K G ds vs->AW K G' ds vs
 |[],_,_,q=>by simpa only[AW]using q
 |_::_,_,n,q=>by erw[AW,Fo,Fj]at q n |-;obtain⟨v,r,e,a,t⟩:=q;exact⟨v,r,e,At.mR h n.1 a,AW.RQ h n.2 t⟩
end
end
def ZW:Bb->Bb
 |.A2 d=>if FA d=true then .A2 d else .un
 |_=>.un
noncomputable def E2(xs:μ):D:=if xs.isEmpty=true then .lst []else .D1 xs
def Mk(ρ:AI)(i:Nat)(xs:μ):AI:=(ρ.map ZW).set i (.A2 (E2 xs))
noncomputable def LJ(x:Nat)(ρ:AI):C5->R FQ
 |.v (.lst A4)=>if J6 A4=true/\x<ρ.length then .ok (.B6 (ρ.set x (.Bm A4)))else .bad
 |.v .non=>if x<ρ.length then .ok (.B6 (ρ.set x (.A2 .non)))else .bad
 |_=>.bad
noncomputable def YV(x i n:Nat)(BQ:μ->R C5)(ma:B1)(ρ:AI):Option Bb->R FQ
 |some (.A2 (.lst xs))=>if xs.all Lf=true then(GL (ma (Mk ρ i xs))).bind λds=>if ds.length=n then(GL (BQ ds)).bind (LJ x ρ)else .bad else .bad
 |_=>.bad
def Qf(x i n:Nat)(BQ:μ->R C5)(ma:B1):B0:=λρ=>YV x i n BQ ma ρ ρ[i]?
def en(K:Aa)(ma:B1):Ew:=λσ H Q=>∃F:BA,F.K=K/\Es F ma σ H Q
section
variable{F:BA}{G H:AB}{σ :Bs.St}{ρ:AI}
def Rel.more(r:Rel F G H σ ρ){Cb:AB}(B4:Sub H Cb):Rel F G Cb σ ρ:=
 r.over rfl ⟨r.kp.sub.trans B4,r.kp.EJ,r.kp.B4.trans B4,r.kp.new⟩ (Sub.refl _) λa Bm=>by
   obtain⟨A6,AA,Ao⟩:=r.foot Bm;refine⟨?_,AA,Ao⟩;cases e:H a with
   |none=>exact absurd e A6
   |some o=>exact B4 a o e
theorem c7{K:Aa}{G G':AB}:∀{A4:μ}{Ai:List V},A4.all Lf=true->AW K G A4 Ai->AW K G' A4 Ai
 |[],_,_,h=>by simpa only[AW]using h
 |d::A4,_,n,h=>by
  erw[AW,PP,Fj]at h n |-;obtain⟨v,r,e,a,t⟩:=h;refine⟨v,r,e,?_,c7 n.2 t⟩;cases d with
  |int i=>erw[At]at a |-;exact a
  |_=>cases n.1
noncomputable def HG(G:AB)(r:A8)(u:Option DN):AB:=λb=>if b=r then u else match G b with
 |some o=>if J7 o=true then none else some o
 |none=>none
def k6{r:A8}{u:Option DN}{b:A8}{o:DN}(A0:b≠r)(e:G b=some o)(n:J7 o=false):HG G r u b=some o:=by simp[HG,A0,e,n]
def YW{r:A8}{u:Option DN}{b:A8}{o:DN}(A0:b≠r)(e:HG G r u b=some o):G b=some o/\J7 o=false:=by
 erw[HG,if_neg A0]at e
 split at e
 .split at e
  .cases e
  .rename_i o' Mc n;cases e;exact⟨Mc,(n:)⟩
 .cases e
def j9{CC:Bs.Ends}{x:Nat}{Cb CL:AB}{v:V}(r:Rel F G H σ ρ)(B4:Sub H Cb):∀{t:C5},(∀d,t=.v d->At F.K CL d v)->(∀p Ai,v=.ref p->CL p=some (.lst Ai)->J7 (.lst Ai)=true->H p=none/\Cb p=some (.lst Ai))->Fe F G CC (LJ x ρ t)->(∃d,t=.v d)->CC.B6 (σ.set x (some v)) Cb
 |.v (.lst A4),a,fr,k,_=>by
  have k:Fe F G CC (if J6 A4=true/\x<ρ.length then .ok (.B6 (ρ.set x (.Bm A4)))else .bad):=k;by_cases AQ:J6 A4=true/\x<ρ.length
  .rw[if_pos AQ]at k;have a:=a _ rfl;erw[At]at a;obtain⟨p,Ai,rfl,g,al⟩:=a;obtain⟨A6,AA⟩:=AW.J6 al;have JW:J7 (.lst Ai)=true:=by erw[J7,A6,AA];exact AQ.1
   obtain⟨AZ,Ao⟩:=fr p Ai rfl g JW;have AC:A4.all Lf=true:=by have:=AQ.1;erw[J6,Fj]at this;exact this.2
   exact k _ G Cb ((r.more B4).nr AQ.2 Ao (r.kp.sub.gone AZ) (r.kp.B4.gone AZ) (c7 AC al) λj s o _ A9 AH f=>Cc.fresh r B4 AZ ⟨j,s,o,A9,AH,f⟩) (Sub.refl _)
  .rw[if_neg AQ]at k;cases k
 |.v .non,a,_,k,_=>by
  have k:Fe F G CC (if x<ρ.length then .ok (.B6 (ρ.set x (.A2 .non)))else .bad):=k;by_cases AQ:x<ρ.length
  .rw[if_pos AQ]at k;have a:=a _ rfl;erw[At]at a;exact k _ G Cb ((r.more B4).set AQ (by erw[At];exact a)) (Sub.refl _)
  .rw[if_neg AQ]at k;cases k
 |.v (.AR _),_,_,k,_=>k.elim
 |.v (.int _),_,_,k,_=>k.elim
 |.v (.str _),_,_,k,_=>k.elim
 |.v (.tup _),_,_,k,_=>k.elim
 |.v (.Do _),_,_,k,_=>k.elim
 |.v (.D1 _),_,_,k,_=>k.elim
 |.v (.Df _ _),_,_,k,_=>k.elim
 |.v (.An _ _),_,_,k,_=>k.elim
 |.v (.ins _ _ _),_,_,k,_=>k.elim
 |.v (.Md _),_,_,k,_=>k.elim
 |.o _,_,_,k,_=>k.elim
 |.t _,_,_,k,_=>k.elim
def ih{n x:Nat}{BQ:μ->R C5}{ma:B1}{Q:Cd}{CC:Bs.Ends}{RD:AB}{ra:A8}{u:Option DN}{xs:μ}{i:Nat}(r:Rel F G H σ ρ)(sub:Sub (HG G ra u) RD)(row:∃v,σ[i]?=some (some v)/\At F.K (HG G ra u) (E2 xs) v)(JD:∀b o,G b=some o->J7 o=false->HG G ra u b=some o)(k:Fe F G CC ((GL (ma (Mk ρ i xs))).bind λds=>if ds.length=n then(GL (BQ ds)).bind (LJ x ρ)else .bad))(fin:∀v CL Am t,(∃d,t=.v d/\At F.K CL d v)->Sub RD Am->Sub CL Am->(∀b,H8 RD b->CL b=HG G ra u b)->Fe F G CC (LJ x ρ t)->Q v Am) :
  WH (QP F.K n (λ_ _ _=>False) BQ) [] Ue (en F.K ma) σ RD Q:=by
 have AC:i<ρ.length:=by obtain⟨v,e,_⟩:=row;rw[<-r.len];exact(List.getElem?_eq_some_iff.mp e).1
 have IN:Rel ⟨F.K,HG G ra u,RD,λ_ _=>False,IK⟩ (HG G ra u) RD σ (Mk ρ i xs):=by
  have un:∀(j:Nat)(s:Bb),(Mk ρ i xs)[j]?=some s->s=.un\/∃d,s=.A2 d:=λj s e=>by
   unfold Mk at e;rcases get_set e with⟨rfl,rfl⟩|⟨_,e⟩
   .exact .inr ⟨_,rfl⟩
   .rw[EC]at e;cases AH:ρ[j]? with
    |none=>rw[AH]at e;cases e
    |some q=>
     rw[AH]at e;cases e;cases q with
     |A2 d=>erw[ZW];split<;>simp
     |_=>exact .inl rfl
  refine⟨⟨sub,Sub.refl _,Sub.refl _,λ_ _=>rfl⟩,by simp[Mk,r.len],λj s e=>?_,λa b c s s' o o' A9 AH Au CH f1 f2=>?_⟩
  .unfold Mk at e;rcases get_set e with⟨rfl,rfl⟩|⟨_,e⟩
   .obtain⟨v,A9,a⟩:=row;exact⟨some v,A9,v,rfl,a⟩
   .rw[EC]at e;cases AH:ρ[j]? with
    |none=>rw[AH]at e;cases e
    |some q=>
     rw[AH]at e;cases e;obtain⟨w,Au,ok⟩:=r.C2 j q AH;cases q with
     |A2 d=>
      erw[ZW]
      split
      .rename_i hd;obtain⟨v,rfl,a⟩:=ok;exact⟨_,Au,v,rfl,At.mR JD hd a⟩
      .exact⟨w,Au,trivial⟩
     |_=>exact⟨w,Au,trivial⟩
  .rcases un a s A9 with rfl|⟨d,rfl⟩<;>cases f1
 refine⟨⟨F.K,HG G ra u,RD,λ_ _=>False,IK⟩,rfl,HG G ra u,Mk ρ i xs,IN,?_⟩;cases em:ma (Mk ρ i xs)with
 |bad=>rw[em]at k;cases k
 |exc c=>rw[em]at k;cases k
 |ok ds=>
  rw[em]at k;replace k:Fe F G CC (if ds.length=n then(GL (BQ ds)).bind (LJ x ρ)else .bad):=k;intro vs H1 Ah AK s1 BD;by_cases AQ:ds.length=n
  .rw[if_pos AQ]at k;rw[LO];refine⟨Ah,ds,AK.kp.sub,BD,AQ,?_⟩;cases AH:BQ ds with
   |bad=>rw[AH]at k;cases k
   |exc c=>rw[AH]at k;cases k
   |ok t=>
    rw[AH]at k;replace k:Fe F G CC (LJ x ρ t):=k;cases t with
    |v d=>intro w CL Am kp a;exact fin w CL Am _ ⟨d,rfl,a⟩ (AK.kp.B4.trans kp.B4) kp.sub (λb A0=>(kp.new b (AK.kp.B4.JC A0)).trans (AK.kp.new b A0)) k
    |o _=>cases k
    |t _=>cases k
  .rw[if_neg AQ]at k;cases k
def xg{n x i:Nat}{BQ:μ->R C5}{ma:B1}:I0 (Fq F (Qf x i n BQ ma)) (NB (p6 i (WH (QP F.K n (λ_ _ _=>False) BQ) [] Ue (en F.K ma))) (Jx x)):=by
 rintro CC σ H ⟨G,ρ,r,h⟩;unfold Qf YV at h
 split at h
 .rename_i xs e;obtain⟨w,A9,v0,rfl,Pq⟩:=r.C2 i _ e;have ahd:=Pq;erw[At]at Pq;obtain⟨ra,ys,rfl,bP,al⟩:=Pq;have h0:H ra=some (.lst ys):=r.kp.sub _ _ bP;obtain⟨vC,Ym⟩:=AW.J6 al;have HW:xs.all Lf=true:=by
   by_cases q:xs.all Lf=true
   .exact q
   .rw[if_neg q]at h;cases h
  rw[if_pos HW]at h;by_cases AG:xs.isEmpty=true
  .have JT:J7 (.lst ys)=false:=by erw[J7,Ym,AG];rfl
   have ag_:xs=[]:=List.isEmpty_iff.mp AG;have JD:∀b o,G b=some o->J7 o=false->HG G ra (some (.lst ys)) b=some o:=λb o BS n=>by
    by_cases A0:b=ra
    .subst A0;rw[bP]at BS;cases BS;simp[HG]
    .exact k6 A0 BS n
   have L0:Sub (HG G ra (some (.lst ys))) H:=λb o BS=>by
    by_cases A0:b=ra
    .subst A0;simp[HG]at BS;subst BS;exact h0
    .exact r.kp.sub _ _ (YW A0 BS).1
   refine .inl (ih (ra:=ra) (u:=some (.lst ys)) (xs:=xs) r L0 ⟨.ref ra,A9,?_⟩ JD h ?_)
   .subst ag_;have:ys=[]:=by simpa using Ym
    subst this;erw[E2,List.isEmpty_nil,if_true,At,AW];exact⟨ra,[],rfl,by simp[HG],rfl⟩
   .rintro v CL Am t ⟨d,rfl,a⟩ B4 BH nw k;refine j9 r B4 (λ_ z=>by cases z;exact a) (λp Ai ev RX JW=>?_) k ⟨d,rfl⟩;have Od:Am p=some (.lst Ai):=BH _ _ RX;refine⟨?_,Od⟩;cases BV:H p with
    |none=>rfl
    |some u=>
     have:=B4 _ _ BV;rw[Od]at this;cases this;have z:=nw p (H8.of BV λ_ q=>nomatch q);rw[RX]at z;by_cases A0:p=ra
     .subst A0;rw[h0]at BV;cases BV;rw[JT]at JW;cases JW
     .rw[(YW A0 z.symm).2]at JW;cases JW
  .refine .inr ⟨ra,ys,A9,h0,λo=>?_⟩;have Cv:¬ys.isEmpty=true:=by rw[Ym];exact AG
   have aaY:J7 (.lst ys)=true:=by erw[J7,vC,Ym,HW,Sf];simpa using AG
   have JD:∀b u,G b=some u->J7 u=false->HG G ra (some (.GT o (.lst ys))) b=some u:=λb u BS n=>by
    by_cases A0:b=ra
    .subst A0;rw[bP]at BS;cases BS;rw[aaY]at n;cases n
    .exact k6 A0 BS n
   have L0:Sub (HG G ra (some (.GT o (.lst ys)))) (Bs.upd H ra (.GT o (.lst ys))):=λb u BS=>by
    by_cases A0:b=ra
    .subst A0;simp[HG]at BS;subst BS;exact Da
    .rw[Cy A0];exact r.kp.sub _ _ (YW A0 BS).1
   refine ih (ra:=ra) (u:=some (.GT o (.lst ys))) (xs:=xs) r L0 ⟨.ref ra,A9,?_⟩ JD h ?_
   .erw[E2,if_neg AG,At];exact⟨ra,ys,rfl,.inl (.inr ⟨o,by simp[HG]⟩),c7 HW al⟩
   .rintro v CL Am t ⟨d,rfl,a⟩ B4 BH nw k;have AA:Am ra=some (.GT o (.lst ys)):=B4 _ _ Da;have AJ:Sub H (Bs.upd Am ra (.lst ys)):=λb u BS=>by
     by_cases A0:b=ra
     .subst A0;rw[h0]at BS;cases BS;exact Da
     .rw[Cy A0];exact B4 _ _ (by rw[Cy A0];exact BS)
    refine⟨AA,j9 r AJ (λ_ z=>by cases z;exact a) (λp Ai ev RX JW=>?_) k ⟨d,rfl⟩⟩;have Od:Am p=some (.lst Ai):=BH _ _ RX;have A0:p≠ra:=λz=>by subst z;rw[AA]at Od;cases Od
    refine⟨?_,by rw[Cy A0];exact Od⟩;cases BV:H p with
    |none=>rfl
    |some u=>
     have CR:Bs.upd H ra (.GT o (.lst ys)) p=some u:=by rw[Cy A0];exact BV
     have:=B4 _ _ CR;rw[Od]at this;cases this;have z:=nw p (H8.of CR λ_ q=>nomatch q);rw[RX]at z;rw[(YW A0 z.symm).2]at JW;cases JW
 .exact h.elim
end
section
variable{X:Ac}{F:BA}{e:AU}{A4:List AU}{ma:B1}{pos p q aar:Pos}
def agL(x i:Nat){y f:Str}{n k:Nat}{BQ:μ->R C5}(hN:X.N.Nodup)(c:E0 X.prog X.w X.K X.mg X.base f n k BQ)(B5:Cm k X.A)(AD:∀F':BA,F'.K=X.K->GJ X F' (e::A4) ma)(Ap:F.K=X.K:=by rfl)(AC:X.N[x]?=some y:=by rfl)(AG:Loc X.env.scope y:=by first|exact Dh rfl|exact Cp rfl)(A_:EE X f:=by rfl)(GV:(f==("__debug__" :Str))=false:=by decide)(he:BF (e::A4) X.env=(false,BJ e X.env)::BF A4 X.env:=by rfl)(Dx:(D4 pos (BF A4 X.env)).any (·.1)=false:=by rfl)(AJ:Oz (.Call (.Name f p) (e::A4) [] pos)=true:=by rfl)(hf:X.fn y=true\/X.env.scope.names.lookup y=some .local:=by first|exact .inl rfl|exact .inr rfl):Ep X F (.Assign [.Name y q] (.Call (.Name f p) (e::A4) [] pos) aar) (Qf x i n BQ ma):=⟨by
 obtain⟨G6,fd,Ai,AQ,Gu,hm,AE,A0⟩:=c.ex;have RR:GH X (e::A4) (en X.K ma):=λpos pins s σ H Q I⟨F',Lz,t⟩=>(AD F' Lz).1 pos pins s σ H Q I t;refine DO.imp (RT hN AC AG (abd i (dI Gu B5 A_ hm AE A0 .nil QD RR GV he Dx)) (Lv _ _ _ _ AJ) hf) ?_;rw[<-Ap];exact xg⟩
end
end CP
namespace K8
open PySem PySem.Spec Bs CP
noncomputable def top(i:Nat):Be:=PySem.Challenge.pw_nohalfway_k38_leadings_walked.main.body.getD i (.Pass ⟨0,0,0,0⟩)
abbrev n9:Be:=top 36
abbrev m_:Be:=top 37
abbrev nA:Be:=top 38
abbrev nB:Be:=top 39
abbrev oK:Be:=top 40
abbrev mW:Be:=top 44
abbrev nD:Be:=top 43
abbrev n7:Be:=top 45
abbrev n8:Be:=top 46
abbrev n5:Be:=top 54
abbrev n6:Be:=top 41
abbrev mc:Be:=top 42
abbrev oJ:Be:=top 50
abbrev oI:Be:=top 51
abbrev n2:Be:=top 2
abbrev n3:Be:=top 3
abbrev mu:Be:=top 29
abbrev n0:Be:=top 30
abbrev mz:Be:=top 31
abbrev n4:Be:=top 32
abbrev mw:Be:=top 33
abbrev mh:Be:=inClass (top 34) 0
abbrev nC:Be:=top 47
abbrev mb:Be:=top 48
abbrev mf:Be:=top 49
abbrev md:Be:=top 52
abbrev mZ:Be:=top 53
abbrev mX:Be:=top 57
abbrev mj:Be:=inClass (top 22) 3
noncomputable abbrev mq:Be:=inClass (top 22) 4
abbrev mn:Be:=inClass (top 22) 5
abbrev ml:Be:=inClass (top 22) 2
abbrev n1:Be:=top 9
abbrev my:Be:=top 8
abbrev mx:Be:=top 10
abbrev oQ:Be:=top 15
abbrev nf:Be:=inClass (top 34) 3
abbrev oO:Be:=top 17
abbrev mr:Be:=inClass (top 22) 1
abbrev mm:Be:=inClass (top 22) 0
abbrev oN:Be:=top 19
abbrev oP:Be:=top 23
abbrev oM:Be:=top 24
abbrev oL:Be:=top 25
abbrev me:Be:=top 55
abbrev mY:Be:=top 56
abbrev P5:Be:=top 58
noncomputable def VR:D:=.int 15
def VS:D:=.int 4
def VT:D:=.int 6
noncomputable def Y0:D:=.Do [.str (B_ "ring")]
noncomputable def TC:D:=.Do [.str (B_ "0"),.str (B_ "1"),.str (B_ "x")]
noncomputable def S5:D:=.Do [.int 8,.int 4,.int 2,.int 1]
structure EI(K:Aa)(mg:Str->Option A7):Prop where
 u5:Dz K mg "_law_cell_at" n9 ["_law_script","_law_k"]
 uE:Dz K mg "_law_mixed" m_ ["_law_cell","_law_k"]
 u6:Dz K mg "_law_counts" nA ["_law_cell"]
 u7:Dz K mg "_law_doors" nB ["_law_counts_here"]
 uN:Dz K mg "_law_wires" oK ["_law_cell","_law_counts_here"]
 uA:Dz K mg "_law_free_book" mW ["_law_number","_law_count"]
 uK:Dz K mg "_law_row" nD ["_law_cell","_law_k","_law_count"]
 uu:Dz K mg "_law_books" n7 ["_law_cells","_law_counts_here","_law_shift"]
 uv:Dz K mg "_law_both" n8 ["_law_script","_law_counts_here"]
 ur:Dz K mg "_law_all" n5 ["_law_script"]
 ut:Dz K mg "_law_beyond" n6 ["_law_wires_here","_law_door"]
 uG:Dz K mg "_law_outer" mc ["_law_counts_here","_law_wires_here"]
 uM:Dz K mg "_law_some" oJ ["_law_cell","_law_many"]
 uL:Dz K mg "_law_shelves" oI ["_law_old","_law_new","_law_some_here"]
 um:Dz K mg "is_whole" n2 ["thing"]
 uo:Dz K mg "is_whole_within" n3 ["thing","least","greatest"]
 ue:Dz K mg "are_counts" mu ["thing"]
 uj:Dz K mg "is_pair" n0 ["thing"]
 ui:Dz K mg "is_door_among" mz ["counts","thing"]
 uq:Dz K mg "is_wire_among" n4 ["counts","thing"]
 uf:Dz K mg "far_doors" mw ["counts","wires"]
 uX:InK K mg "Net" "Net.__init__" mh ["self","counts","wires"]
 u9:Dz K mg "_law_fits" nC ["_law_pattern","_law_address"]
 uF:Dz K mg "_law_next" mb ["_law_wires_here","_law_book","_law_door","_law_address"]
 uJ:Dz K mg "_law_road" mf ["_law_wires_here","_law_books_here","_law_door","_law_address"]
 uH:Dz K mg "_law_rings" md ["_law_wires_here","_law_books_here","_law_door","_law_address"]
 uD:Dz K mg "_law_met" mZ ["_law_wires_here","_law_shelves_here","_law_door","_law_address"]
 uB:Dz K mg "_law_goals" mX ["_law_counts_here"]
 uY:Ou K "Weaver" "behind" "Weaver.behind" mj ["self","spot"]
 ub:Ou K "Weaver" "round_from" "Weaver.round_from" mq ["self","spot"]
 ua:Ou K "Weaver" "met" "Weaver.met" mn ["self"]
 uZ:Ou K "Weaver" "entered" "Weaver.entered" ml ["self","door","ahead"]
 uk:Dz K mg "is_pattern" n1 ["thing"]
 uh:Dz K mg "is_address" my ["thing"]
 ug:Dz K mg "fits" mx ["pattern","address"]
 uU:Dz K mg "taken" oQ ["book","door","address"]
 uW:Ou K "Net" "beyond" "Net.beyond" nf ["self","door"]
 uS:Dz K mg "onward" oO ["net","book","door","address"]
 uc:Ou K "Weaver" "weave" "Weaver.weave" mr ["self","door"]
 u_:InK K mg "Weaver" "Weaver.__init__" mm ["self","net","stages","door","address","shunned"]
 uQ:Dz K mg "mixed" oN ["old","new","houses"]
 uT:Dz K mg "stages_of" oP ["old","new","row"]
 uP:Dz K mg "met_with_leadings" oM ["net","old","new","row","door","address"]
 uO:Dz K mg "leading" oL ["net","old","new","row","door","address","goal"]
 uI:Dz K mg "_law_rising" me ["_law_numbers","_law_most"]
 uC:Dz K mg "_law_leads" mY ["_law_wires_here","_law_shelves_here","_law_door","_law_address","_law_numbers","_law_goal"]
 aiK:Dz K mg "law" P5 ["_law_script"]
 lR:Nd K "Net" ["many","counts","joined","far"]
 Ux:Nd K "Weaver" ["net","stages","address","shunned","woven","told"]
 sd:mg "all"=none
 se:mg "bool"=none
 sf:mg "enumerate"=none
 hv:mg "int"=none
 VQ:mg "isinstance"=none
 sg:mg "len"=none
 gT:mg "list"=none
 gV:mg "range"=none
 sj:mg "sorted"=none
 hz:mg "str"=none
 i0:mg "tuple"=none
 sk:mg "zip"=none
 VR:Lm K mg "GREATEST_ADDRESS" VR
 VS:Lm K mg "MOST_DOORS" VS
 VT:Lm K mg "MOST_HOUSES" VT
 Y0:Lm K mg "RING" Y0
 TC:Lm K mg "SIGNS" TC
 S5:Lm K mg "WORTHS" S5
def adZ:Cj ["_law_script","_law_k"] ["_law_script","_law_k"] (C0 n9):=Di
def Xt:B0:=
    AS (C9 (Ax (A3 Rj (J 1) (Bz CE (A1 (J 0) (AF))))) (CV (A3 AM (J 0) (J 1))) (CU))
    (CV (A5 (.int 0)))
def M8:μ->R C5:=DZ 2 Xt
def o0:Cj ["_law_cell","_law_k","_law_factor","_law_prime"] ["_law_cell","_law_k"] (C0 m_):=Di
noncomputable def gx:B0:=
    AS (BU 2 (A3 AM (Bo (CZ (A1 (A5 (.int 48271)) (A1 (A5 (.int 69621)) (A1 (A5 (.int 16807)) (A1 (A5 (.int 39373)) (A1 (A5 (.int 40692)) (A1 (A5 (.int 742938285)) (A1 (A5 (.int 950706376)) (A1 (A5 (.int 1343714438)) (AF))))))))))) (A3 D5 (J 1) (A5 (.int 8)))))
    (AS (BU 3 (A3 AM (Bo (CZ (A1 (A5 (.int 2147483647)) (A1 (A5 (.int 2147483629)) (A1 (A5 (.int 2147483587)) (A1 (A5 (.int 2147483579)) (A1 (A5 (.int 2147483563)) (AF)))))))) (A3 D5 (J 1) (A5 (.int 5)))))
    (CV (A3 Eb (A3 D5 (A3 Ks (A3 DP (A3 DP (A3 D5 (J 0) (A3 P2 (A5 (.int 10)) (A5 (.int 30)))) (A3 Ks (A5 (.int 31)) (J 1))) (A5 (.int 7))) (J 2)) (J 3)) (A5 (.int 7)))))
def FV:μ->R C5:=DZ 4 gx
def oe:Cj ["_law_cell","_law_number","_law_most","_law_many"] ["_law_cell"] (C0 nA):=Di
noncomputable def Xu:B0:=
    AS (C9 (Ax (A3 (BP true) (A3 D5 (J 0) (A5 (.int 2))) (A5 (.int 1)))) (AS (BU 1 (A3 D5 (A3 Eb (J 0) (A5 (.int 2))) (A3 P2 (A5 (.int 10)) (A5 (.int 60)))))
    (AS (BU 2 (A3 AM (Bo (CZ (A1 (A5 (.int 4)) (A1 (A5 (.int 4)) (A1 (A5 (.int 4)) (A1 (A5 (.int 3)) (A1 (A5 (.int 2)) (A1 (A5 (.int 2)) (AF))))))))) (A3 D5 (J 1) (A5 (.int 6)))))
    (Fn (E3 1 [2,1] (FL (A1 (A3 DP (A5 (.int 1)) (A3 D5 (J 1) (A5 (.int 6)))) (AF))) (BK 0) (FM) (A3 DP (A5 (.int 1)) (A3 D5 (A3 D5 (A3 Eb (A3 Eb (J 2) (A5 (.int 6))) (A3 AM (Bo (CZ (A1 (A5 (.int 1)) (A1 (A5 (.int 4)) (A1 (A5 (.int 16)) (A1 (A5 (.int 64)) (A1 (A5 (.int 256)) (A1 (A5 (.int 1024)) (AF))))))))) (J 0))) (A5 (.int 4))) (J 1))))))) (CU))
    (AS (BU 3 (A3 DP (A5 (.int 1)) (A3 D5 (Br 2 FV (A1 (J 0) (A1 (A5 (.int 0)) (AF)))) (A5 (.int 6)))))
    (Fn (E3 1 [0,3] (FL (A1 (J 3) (AF))) (BK 0) (FM) (A3 DP (A5 (.int 1)) (A3 D5 (Br 2 FV (A1 (J 1) (A1 (A3 DP (A5 (.int 1)) (J 0)) (AF)))) (A3 AM (Bo (CZ (A1 (A5 (.int 4)) (A1 (A5 (.int 4)) (A1 (A5 (.int 4)) (A1 (A5 (.int 3)) (A1 (A5 (.int 2)) (A1 (A5 (.int 2)) (AF))))))))) (A3 SR (J 2) (A5 (.int 1)))))))))
def Tv:μ->R C5:=DZ 4 Xu
def og:Cj ["_law_counts_here","_law_doors_here","_law_house"] ["_law_counts_here"] (C0 nB):=Di
noncomputable def gr:B0:=
    AS (EK 1 (CZ (AF)))
    (AS (Dq (FL (A1 (Bz CE (A1 (J 0) (AF))) (AF))) (BK 2) (EK 1 (T1 1 (Bo (E3 1 [2] (FL (A1 (A3 AM (J 0) (J 2)) (AF))) (BK 0) (FM) (C_ (A1 (J 1) (A1 (J 0) (AF)))))))))
    (Fn (J5 1)))
def Rq:μ->R C5:=DZ 3 gr
def o8:Cj ["_law_cell","_law_counts_here","_law_doors_here","_law_wires_here","_law_number","_law_keep","_law_k","_law_picks","_law_one","_law_other"] ["_law_cell","_law_counts_here"] (C0 oK):=Di
noncomputable def gS:B0:=
    AS (EK 2 (Fg 1 Rq (A1 (J 1) (AF))))
    (AS (EK 3 (CZ (AF)))
    (AS (BU 4 (A3 Eb (A3 D5 (A3 Eb (J 0) (A5 (.int 2))) (A3 P2 (A5 (.int 10)) (A5 (.int 60)))) (A5 (.int 24576))))
    (AS (BU 5 (A3 DP (A5 (.int 1)) (A3 D5 (Br 2 FV (A1 (J 0) (A1 (A5 (.int 8)) (AF)))) (A5 (.int 3)))))
    (AS (C9 (Ax (A3 (BP true) (A3 D5 (J 0) (A5 (.int 2))) (A5 (.int 1)))) (AS (BU 5 (A3 DP (A5 (.int 1)) (A3 D5 (J 4) (A5 (.int 24)))))
    (BU 4 (A3 Eb (J 4) (A5 (.int 24))))) (CU))
    (AS (BU 6 (A5 (.int 9)))
    (AS (JS (EH (Ax (A3 Yb (Bz CE (A1 (J 2) (AF))) (A3 DP (J 5) (A5 (.int 1)))))) (AS (BU 7 (Bo (Q4 (CZ (A1 (Br 2 FV (A1 (J 0) (A1 (J 6) (AF)))) (A1 (Br 2 FV (A1 (J 0) (A1 (A3 DP (J 6) (A5 (.int 1))) (AF)))) (AF)))))))
    (AS (C9 (Ax (A3 (BP true) (A3 D5 (J 0) (A5 (.int 2))) (A5 (.int 1)))) (AS (BU 7 (Bo (Q4 (CZ (A1 (J 4) (A1 (A3 Eb (J 4) (Bz CE (A1 (J 2) (AF)))) (AF)))))))
    (BU 4 (Ko (A3 Eb (A3 Eb (J 4) (Bz CE (A1 (J 2) (AF)))) (A3 SR (Bz CE (A1 (J 2) (AF))) (A5 (.int 1))))))) (CU))
    (AS (NY 8 (OH 2 (Ko (A3 D5 (A3 AM (J 7) (A5 (.int 0))) (Bz CE (A1 (J 2) (AF)))))))
    (AS (NY 9 (OH 2 (Ko (A3 D5 (A3 AM (J 7) (A5 (.int 1))) (Bz CE (A1 (J 2) (AF)))))))
    (AS (Gz 3 (C_ (A1 (J 8) (A1 (J 9) (AF)))))
    (BU 6 (A3 DP (J 6) (A5 (.int 2))))))))))
    (Fn (J5 3))))))))
def RL:μ->R C5:=DZ 10 gS
def oi:Cj ["_law_number","_law_count","_law_book","_law_many","_law_choices","_law_k","_law_pattern","_law_j"] ["_law_number","_law_count"] (C0 mW):=Di
noncomputable def gu:B0:=
    AS (EK 2 (CZ (AF)))
    (AS (BU 3 (A3 D5 (J 0) (A5 (.int 13))))
    (AS (BU 0 (A3 Eb (J 0) (A5 (.int 13))))
    (AS (BU 4 (Bo (KG (Bo (CZ (A1 (A5 .non) (AF)))) (Bo (WT (A1 (J 1) (AF)))))))
    (AS (Dq (FL (A1 (J 3) (AF))) (BK 5) (AS (BU 6 (A5 (.str (B_ ""))))
    (AS (Dq (FL (A1 (A5 (.int 4)) (AF))) (BK 7) (AS (BU 6 (A3 DP (J 6) (A3 AM (A5 (.str (B_ "01x"))) (A3 D5 (J 0) (A5 (.int 3))))))
    (BU 0 (A3 Eb (J 0) (A5 (.int 3))))))
    (AS (Gz 2 (C_ (A1 (J 6) (A1 (A3 AM (J 4) (A3 D5 (J 0) (A3 DP (J 1) (A5 (.int 1))))) (A1 (A3 AM (J 4) (A3 D5 (A3 Eb (J 0) (A3 DP (J 1) (A5 (.int 1)))) (A3 DP (J 1) (A5 (.int 1))))) (AF))))))
    (BU 0 (A3 Eb (A3 Eb (J 0) (A3 DP (J 1) (A5 (.int 1)))) (A3 DP (J 1) (A5 (.int 1)))))))))
    (Fn (J5 2))))))
def Rr:μ->R C5:=DZ 8 gu
def o5:Cj ["_law_cell","_law_k","_law_count","_law_number","_law_pattern","_law_j","_law_door","_law_out"] ["_law_cell","_law_k","_law_count"] (C0 nD):=Di
noncomputable def gP:B0:=
    AS (BU 3 (Br 2 FV (A1 (J 0) (A1 (J 1) (AF)))))
    (AS (BU 4 (A5 (.str (B_ ""))))
    (AS (Dq (FL (A1 (A5 (.int 4)) (AF))) (BK 5) (AS (BU 4 (A3 DP (J 4) (A3 AM (Bo (CZ (A1 (A5 (.str (B_ "x"))) (A1 (A5 (.str (B_ "x"))) (A1 (A5 (.str (B_ "0"))) (A1 (A5 (.str (B_ "1"))) (A1 (A5 (.str (B_ "x"))) (AF)))))))) (A3 D5 (J 3) (A5 (.int 5))))))
    (BU 3 (A3 Eb (J 3) (A5 (.int 5))))))
    (AS (BU 6 (A5 .non))
    (AS (C9 (Ax (A3 (BP true) (A3 D5 (J 3) (A5 (.int 3))) (A5 (.int 0)))) (BU 6 (A3 D5 (A3 Eb (J 3) (A5 (.int 3))) (J 2))) (CU))
    (AS (BU 7 (A3 D5 (A3 Eb (J 3) (A5 (.int 20))) (J 2)))
    (AS (C9 (Ax (A3 (BP true) (A3 D5 (A3 Eb (J 3) (A5 (.int 100))) (A5 (.int 9))) (A5 (.int 0)))) (BU 7 (A5 .non)) (CU))
    (CV (C_ (A1 (J 4) (A1 (J 6) (A1 (J 7) (AF))))))))))))
def OK:μ->R C5:=DZ 8 gP
def oc:Cj ["_law_cells","_law_counts_here","_law_shift","_law_books_here","_law_house","_law_cell","_law_many"] ["_law_cells","_law_counts_here","_law_shift"] (C0 n7):=Di
noncomputable def gp:B0:=
    AS (EK 3 (CZ (AF)))
    (AS (Dq (FL (A1 (Bz CE (A1 (J 1) (AF))) (AF))) (BK 4) (AS (BU 5 (A3 DP (A3 DP (A5 (.int 17)) (A3 Ks (A5 (.int 5)) (J 4))) (J 2)))
    (AS (C9 (Ax (A3 (BP false) (J 0) (Bo (CZ (AF))))) (BU 5 (A3 AM (J 0) (A3 D5 (A3 DP (J 4) (J 2)) (Bz CE (A1 (J 0) (AF)))))) (CU))
    (C9 (IH (Ax (A3 (BP false) (J 0) (Bo (CZ (AF))))) (Ax (A3 (BP true) (A3 D5 (J 5) (A5 (.int 2))) (A5 (.int 1))))) (Gz 3 (Bo (Fg 2 Rr (A1 (A3 D5 (A3 Eb (J 5) (A5 (.int 2))) (A3 P2 (A5 (.int 10)) (A5 (.int 60)))) (A1 (A3 AM (J 1) (J 4)) (AF)))))) (AS (BU 5 (A3 DP (J 5) (A3 Ks (A5 (.int 3)) (J 4))))
    (AS (BU 6 (A3 AM (Bo (CZ (A1 (A5 (.int 1)) (A1 (A5 (.int 2)) (A1 (A5 (.int 3)) (A1 (A5 (.int 0)) (A1 (A5 (.int 2)) (A1 (A5 (.int 4)) (A1 (A5 (.int 12)) (AF)))))))))) (A3 D5 (Br 2 FV (A1 (J 5) (A1 (A5 (.int 3)) (AF)))) (A5 (.int 7)))))
    (Gz 3 (Bo (E3 1 [5,1,4,2] (FL (A1 (J 6) (AF))) (BK 0) (FM) (Br 3 OK (A1 (J 1) (A1 (A3 DP (A3 DP (A5 (.int 4)) (J 4)) (A3 Ks (A5 (.int 3)) (J 0))) (A1 (A3 AM (J 2) (J 3)) (AF))))))))))))))
    (Fn (J5 3)))
def Qh:μ->R C5:=DZ 7 gp
def od:Cj ["_law_script","_law_counts_here","_law_old","_law_new","_law_house"] ["_law_script","_law_counts_here"] (C0 n8):=Di
noncomputable def gq:B0:=
    AS (BU 2 (Bo (Fg 3 Qh (A1 (EV IR (J 0) (Ef (A5 (.int 2))) (Ef (A5 (.int 9)))) (A1 (J 1) (A1 (A5 (.int 0)) (AF)))))))
    (AS (EK 3 (Fg 3 Qh (A1 (EV IR (J 0) (Ef (A5 (.int 9))) (Ef (A5 (.int 16)))) (A1 (J 1) (A1 (A5 (.int 1)) (AF))))))
    (AS (Dq (FL (A1 (Bz CE (A1 (J 1) (AF))) (AF))) (BK 4) (C9 (Ax (A3 (BP true) (A3 D5 (Br 2 FV (A1 (Br 2 M8 (A1 (J 0) (A1 (A5 (.int 1)) (AF)))) (A1 (J 4) (AF)))) (A5 (.int 4))) (A5 (.int 0)))) (a4 3 (J 4) (Bo (OG (A1 (A3 AM (J 2) (J 4)) (AF))))) (CU)))
    (JR (C_ (A1 (J 2) (A1 (J 3) (AF)))))))
def Tu:μ->R C5:=DZ 5 gq
def o_:Cj ["_law_script","_law_cell","_law_counts_here","_law_wires_here","_law_old","_law_new"] ["_law_script"] (C0 n5):=Di
noncomputable def gm:B0:=
    AS (BU 1 (Br 2 M8 (A1 (J 0) (A1 (A5 (.int 0)) (AF)))))
    (AS (BU 2 (Bo (Fg 1 Tv (A1 (J 1) (AF)))))
    (AS (BU 3 (Bo (Fg 2 RL (A1 (J 1) (A1 (J 2) (AF))))))
    (AS (M7 (FO [BK 4,BK 5]) (Br 2 Tu (A1 (J 0) (A1 (J 2) (AF)))))
    (CV (C_ (A1 (J 2) (A1 (J 3) (A1 (J 4) (A1 (J 5) (AF))))))))))
def Tt:μ->R C5:=DZ 6 gm
def oa:Cj ["_law_wires_here","_law_door","_law_one","_law_other"] ["_law_wires_here","_law_door"] (C0 n6):=Di
def gn:B0:=
    AS (Dq (H2 (J 0)) (FO [BK 2,BK 3]) (AS (C9 (Ax (A3 (BP true) (J 2) (J 1))) (CV (J 3)) (CU))
    (C9 (Ax (A3 (BP true) (J 3) (J 1))) (CV (J 2)) (CU))))
    (CV (A5 .non))
def Wa:μ->R C5:=DZ 4 gn
def ad_:Cj ["_law_counts_here","_law_wires_here"] ["_law_counts_here","_law_wires_here"] (C0 mc):=Di
def gM:B0:=
    Fn (E3 1 [1] (H2 (Bo (Fg 1 Rq (A1 (J 0) (AF))))) (BK 0) (Ax (A3 (GW true) (Br 2 Wa (A1 (J 1) (A1 (J 0) (AF)))) (A5 .non))) (J 0))
def Wc:μ->R C5:=DZ 2 gM
def o7:Cj ["_law_cell","_law_many","_law_houses","_law_some_here","_law_k"] ["_law_cell","_law_many"] (C0 oJ):=Di
noncomputable def gR:B0:=
    AS (EK 2 (WT (A1 (J 1) (AF))))
    (AS (EK 3 (CZ (AF)))
    (AS (Dq (FL (A1 (A3 D5 (Br 2 FV (A1 (J 0) (A1 (A5 (.int 3)) (AF)))) (A3 DP (J 1) (A5 (.int 1)))) (AF))) (BK 4) (Zy 3 (OH 2 (Ko (A3 D5 (Br 2 FV (A1 (J 0) (A1 (A3 DP (A5 (.int 4)) (J 4)) (AF)))) (Bz CE (A1 (J 2) (AF))))))))
    (Fn (J5 3))))
def Tx:μ->R C5:=DZ 5 gR
def o6:Cj ["_law_old","_law_new","_law_some_here","_law_shelves_here","_law_count"] ["_law_old","_law_new","_law_some_here"] (C0 oI):=Di
noncomputable def gQ:B0:=
    AS (EK 3 (CZ (AF)))
    (AS (Dq (FL (A1 (A3 DP (Bz CE (A1 (J 2) (AF))) (A5 (.int 1))) (AF))) (BK 4) (Gz 3 (Bo (E3 1 [0,1,2,4] (FL (A1 (Bz CE (A1 (J 0) (AF))) (AF))) (BK 0) (FM) (A3 AM (A3 AM (Bo (CZ (A1 (J 1) (A1 (J 2) (AF))))) (Bz Vo (A1 (A3 (inD true) (J 0) (EV IR (J 3) (G9) (Ef (J 4)))) (AF)))) (J 0))))))
    (Fn (J5 3)))
def Vt:μ->R C5:=DZ 5 gQ
def adX:Cj ["thing"] ["thing"] (C0 n2):=Di
def hy:B0:=
    CV (OD (C4 (Ih "int") (J 0)) (a3 (C4 (Ih "bool") (J 0))))
def Ro:μ->R C5:=DZ 1 hy
def adY:Cj ["thing","least","greatest"] ["thing","least","greatest"] (C0 n3):=Di
def gi:B0:=
    CV (OD (Br 1 Ro (A1 (J 0) (AF))) (OE Pd Pd (J 1) (J 0) (J 2)))
def Rp:μ->R C5:=DZ 3 gi
def adR:Cj ["thing"] ["thing"] (C0 mu):=Di
noncomputable def gb:B0:=
    AS (C9 (II (Ec (Ax (C4 (Ih "list") (J 0)))) (Ec (Ax (OE Pd Pd (A5 (.int 1)) (Bz CE (A1 (J 0) (AF))) (A5 VT))))) (CV (A5 (.AR false))) (CU))
    (CV (Bz C6 (A1 (Bo (E3 1 [] (H2 (J 0)) (BK 0) (FM) (Br 3 Rp (A1 (J 0) (A1 (A5 (.int 1)) (A1 (A5 VS) (AF))))))) (AF))))
def Tr:μ->R C5:=DZ 1 gb
def adV:Cj ["thing"] ["thing"] (C0 n0):=Di
def hx:B0:=
    CV (OD (C4 (Ih "tuple") (J 0)) (A3 (BP true) (Bz CE (A1 (J 0) (AF))) (A5 (.int 2))))
def WZ:μ->R C5:=DZ 1 hx
def adU:Cj ["counts","thing"] ["counts","thing"] (C0 mz):=Di
noncomputable def gg:B0:=
    AS (C9 (II (Ec (Ax (Br 1 WZ (A1 (J 1) (AF))))) (Ec (Ax (Br 3 Rp (A1 (A3 AM (J 1) (A5 (.int 0))) (A1 (A5 (.int 0)) (A1 (A3 SR (Bz CE (A1 (J 0) (AF))) (A5 (.int 1))) (AF)))))))) (CV (A5 (.AR false))) (CU))
    (CV (Br 3 Rp (A1 (A3 AM (J 1) (A5 (.int 1))) (A1 (A5 (.int 0)) (A1 (A3 SR (A3 AM (J 0) (A3 AM (J 1) (A5 (.int 0)))) (A5 (.int 1))) (AF))))))
def WY:μ->R C5:=DZ 2 gg
def oY:Cj ["counts","thing","both"] ["counts","thing"] (C0 n4):=Di
noncomputable def gj:B0:=
    AS (C9 (Ec (Ax (Br 1 WZ (A1 (J 1) (AF))))) (CV (A5 (.AR false))) (CU))
    (AS (BU 2 (OD (Br 2 WY (A1 (J 0) (A1 (A3 AM (J 1) (A5 (.int 0))) (AF)))) (Br 2 WY (A1 (J 0) (A1 (A3 AM (J 1) (A5 (.int 1))) (AF))))))
    (CV (OD (J 2) (A3 (BP false) (A3 AM (J 1) (A5 (.int 0))) (A3 AM (J 1) (A5 (.int 1)))))))
def ZL:μ->R C5:=DZ 3 gj
def oX:Cj ["counts","wires","far","wire"] ["counts","wires"] (C0 mw):=Di
noncomputable def gc:B0:=
    AS (Kq 2)
    (AS (Dq (Qc (J 1)) (BK 3) (AS (C9 (Ec (Ax (Br 2 ZL (A1 (J 0) (A1 (J 3) (AF)))))) (c2) (CU))
    (AS (C9 (EH (II (Ax (A3 (Fb true) (A3 AM (J 3) (A5 (.int 0))) (J 2))) (Ax (A3 (Fb true) (A3 AM (J 3) (A5 (.int 1))) (J 2))))) (c2) (CU))
    (AS (Ht 2 (A3 AM (J 3) (A5 (.int 0))) (A3 AM (J 3) (A5 (.int 1))))
    (Ht 2 (A3 AM (J 3) (A5 (.int 1))) (A3 AM (J 3) (A5 (.int 0))))))))
    (JR (J 2)))
def Rn:μ->R C5:=DZ 4 gc
def adP:Cj ["self","counts","wires"] ["self","counts","wires"] (C0 mh):=Di
noncomputable def Xo:Ji:=
    NZ (Qb (Ec (Ax (Br 1 Tr (A1 (J 1) (AF))))))
    (NZ (Qb (Ec (Ax (C4 (Ih "list") (J 2)))))
    (NZ (Kp "Net" "many" (Bz CE (A1 (J 1) (AF))))
    (NZ (Kp "Net" "counts" (Bz SU (A1 (J 1) (AF))))
    (NZ (Kp "Net" "joined" (Bz SU (A1 (J 2) (AF))))
    (Kp "Net" "far" (Rk (Br 2 Rn (A1 (C4 (Dw "Net" "counts") (J 0)) (A1 (C4 (Dw "Net" "joined") (J 0)) (AF))))))))))
def a5:μ->R (List Str×μ):=λA4=>outI "Net" (Xo (Kl "Net" A4))
def oh:Cj ["_law_pattern","_law_address","_law_k","_law_figure"] ["_law_pattern","_law_address"] (C0 nC):=Di
noncomputable def gt:B0:=
    AS (Dq (FL (A1 (A5 (.int 4)) (AF))) (BK 2) (AS (BU 3 (A3 D5 (A3 Eb (J 1) (A3 AM (Bo (CZ (A1 (A5 (.int 8)) (A1 (A5 (.int 4)) (A1 (A5 (.int 2)) (A1 (A5 (.int 1)) (AF))))))) (J 2))) (A5 (.int 2))))
    (C9 (IH (Ax (A3 (BP false) (A3 AM (J 0) (J 2)) (A5 (.str (B_ "x"))))) (Ax (A3 (BP false) (A3 AM (J 0) (J 2)) (A3 AM (A5 (.str (B_ "01"))) (J 3))))) (CV (A5 (.AR false))) (CU))))
    (CV (A5 (.AR true)))
def Wb:μ->R C5:=DZ 4 gt
def o1:Cj ["_law_wires_here","_law_book","_law_door","_law_address","_law_pattern","_law_inward","_law_out","_law_behind"] ["_law_wires_here","_law_book","_law_door","_law_address"] (C0 mb):=Di
noncomputable def gy:B0:=
    AS (Dq (H2 (J 1)) (FO [BK 4,BK 5,BK 6]) (C9 (IH (Ax (Br 2 Wb (A1 (J 4) (A1 (J 3) (AF))))) (II (Ax (A3 (GW true) (J 5) (A5 .non))) (Ax (A3 (BP true) (J 5) (A3 AM (J 2) (A5 (.int 1))))))) (AS (C9 (Ax (A3 (GW true) (J 6) (A5 .non))) (CV (C_ (A1 (A5 (.str (B_ "drop"))) (A1 (A3 AM (J 2) (A5 (.int 0))) (AF))))) (CU))
    (AS (BU 7 (Br 2 Wa (A1 (J 0) (A1 (C_ (A1 (A3 AM (J 2) (A5 (.int 0))) (A1 (J 6) (AF)))) (AF)))))
    (AS (C9 (Ax (A3 (GW true) (J 7) (A5 .non))) (CV (C_ (A1 (A5 (.str (B_ "out"))) (A1 (A3 AM (J 2) (A5 (.int 0))) (A1 (J 6) (AF)))))) (CU))
    (CV (A3 VW (C_ (A1 (A5 (.str (B_ "at"))) (AF))) (J 7)))))) (CU)))
    (CV (C_ (A1 (A5 (.str (B_ "drop"))) (A1 (A3 AM (J 2) (A5 (.int 0))) (AF)))))
def Im:μ->R C5:=DZ 8 gy
def o4:Cj ["_law_wires_here","_law_books_here","_law_door","_law_address","_law_road_here","_law_told"] ["_law_wires_here","_law_books_here","_law_door","_law_address"] (C0 mf):=Di
noncomputable def Xw:B0:=
    AS (EK 4 (CZ (A1 (J 2) (AF))))
    (AS (BU 5 (Hs (Br 4 Im (A1 (J 0) (A1 (A3 AM (J 1) (A3 AM (J 2) (A5 (.int 0)))) (A1 (J 2) (A1 (J 3) (AF))))))))
    (AS (JS (EH (IH (Ax (A3 (BP true) (A3 AM (J 5) (A5 (.int 0))) (A5 (.str (B_ "at"))))) (Ax (A3 (inD false) (EV I7 (J 5) (Ef (A5 (.int 1))) (G9)) (J 4))))) (AS (Gz 4 (EV I7 (J 5) (Ef (A5 (.int 1))) (G9)))
    (BU 5 (Hs (Br 4 Im (A1 (J 0) (A1 (A3 AM (J 1) (A3 AM (A3 AM (J 4) (C4 EW (A5 (.int 1)))) (A5 (.int 0)))) (A1 (A3 AM (J 4) (C4 EW (A5 (.int 1)))) (A1 (J 3) (AF))))))))))
    (JR (C_ (A1 (J 4) (A1 (J 5) (AF)))))))
def Vs:μ->R C5:=DZ 6 Xw
def o2:Cj ["_law_wires_here","_law_books_here","_law_door","_law_address","_law_road_here","_law_told"] ["_law_wires_here","_law_books_here","_law_door","_law_address"] (C0 md):=Di
def gN:B0:=
    AS (M7 (FO [BK 4,BK 5]) (Br 4 Vs (A1 (J 0) (A1 (J 1) (A1 (J 2) (A1 (J 3) (AF)))))))
    (CV (A3 (BP true) (A3 AM (J 5) (A5 (.int 0))) (A5 (.str (B_ "at")))))
def Rt:μ->R C5:=DZ 6 gN
def nz:Cj ["_law_wires_here","_law_shelves_here","_law_door","_law_address","_law_found","_law_states","_law_seen","_law_rounds","_law_at","_law_here","_law_low","_law_count","_law_told"] ["_law_wires_here","_law_shelves_here","_law_door","_law_address"] (C0 mZ):=Di
noncomputable def Xv:B0:=
    AS (Kq 4)
    (AS (EK 5 (CZ (A1 (C_ (A1 (J 2) (A1 (A5 (.int 0)) (AF)))) (AF))))
    (AS (WU 6 (M6 (C_ (A1 (J 2) (A1 (A5 (.int 0)) (AF))))) (A5 (.AR true)))
    (AS (Kq 7)
    (AS (BU 8 (A5 (.int 0)))
    (AS (JS (EH (Ax (A3 Rj (J 8) (Bz CE (A1 (J 5) (AF)))))) (AS (M7 (FO [BK 9,BK 10]) (Hs (A3 AM (J 5) (J 8))))
    (AS (BU 8 (A3 DP (J 8) (A5 (.int 1))))
    (AS (Ht 4 (C_ (A1 (A5 (.str (B_ "at"))) (A1 (A3 AM (J 9) (A5 (.int 0))) (AF)))) (A5 (.AR true)))
    (Dq (OI (A1 (J 10) (A1 (Bz CE (A1 (J 1) (AF))) (AF)))) (BK 11) (AS (BU 12 (Br 4 Im (A1 (J 0) (A1 (A3 AM (A3 AM (J 1) (J 11)) (A3 AM (J 9) (A5 (.int 0)))) (A1 (J 9) (A1 (J 3) (AF)))))))
    (AS (C9 (EH (Ax (A3 (Fb false) (C_ (A1 (J 9) (A1 (J 11) (AF)))) (J 7)))) (Ht 7 (C_ (A1 (J 9) (A1 (J 11) (AF)))) (Br 4 Rt (A1 (J 0) (A1 (A3 AM (J 1) (J 11)) (A1 (J 9) (A1 (J 3) (AF))))))) (CU))
    (AS (C9 (EH (Ax (A3 Gq (J 7) (C_ (A1 (J 9) (A1 (J 11) (AF))))))) (Ht 4 (C_ (A1 (A5 (.str (B_ "ring"))) (AF))) (A5 (.AR true))) (CU))
    (C9 (Ax (A3 (BP false) (A3 AM (J 12) (A5 (.int 0))) (A5 (.str (B_ "at"))))) (Ht 4 (J 12) (A5 (.AR true))) (C9 (EH (Ax (A3 (Fb false) (C_ (A1 (EV I7 (J 12) (Ef (A5 (.int 1))) (G9)) (A1 (J 11) (AF)))) (J 6)))) (AS (Ht 6 (C_ (A1 (EV I7 (J 12) (Ef (A5 (.int 1))) (G9)) (A1 (J 11) (AF)))) (A5 (.AR true)))
    (Gz 5 (C_ (A1 (EV I7 (J 12) (Ef (A5 (.int 1))) (G9)) (A1 (J 11) (AF)))))) (CU)))))))))))
    (OF 4 (Fn (Tp (A1 (J 4) (AF))))))))))
def Rs:μ->R C5:=DZ 13 Xv
def nx:Cj ["_law_counts_here","_law_goals_here","_law_house","_law_door"] ["_law_counts_here"] (C0 mX):=Di
noncomputable def gv:B0:=
    AS (EK 1 (CZ (A1 (C_ (A1 (A5 (.str (B_ "ring"))) (AF))) (A1 (C_ (A1 (A5 (.str (B_ "lost"))) (A1 (A5 (.int 0)) (AF)))) (A1 (C_ (A1 (A5 (.str (B_ "at"))) (AF))) (A1 (C_ (A1 (A5 (.str (B_ "out"))) (A1 (A5 (.int 9)) (A1 (A5 (.int 9)) (AF))))) (A1 (C_ (A1 (A5 (.str (B_ "at"))) (A1 (Bz CE (A1 (J 0) (AF))) (AF)))) (A1 (C_ (A1 (A5 (.str (B_ "drop"))) (A1 (C4 EW (A5 (.int 1))) (AF)))) (AF)))))))))
    (AS (Dq (H2 (Bo (Fg 1 Rq (A1 (J 0) (AF))))) (FO [BK 2,BK 3]) (Gz 1 (C_ (A1 (A5 (.str (B_ "out"))) (A1 (J 2) (A1 (J 3) (AF)))))))
    (AS (Dq (FL (A1 (Bz CE (A1 (J 0) (AF))) (AF))) (BK 2) (EK 1 (T1 1 (Bo (CZ (A1 (C_ (A1 (A5 (.str (B_ "at"))) (A1 (J 2) (AF)))) (A1 (C_ (A1 (A5 (.str (B_ "drop"))) (A1 (J 2) (AF)))) (AF))))))))
    (Fn (J5 1))))
def Tw:μ->R C5:=DZ 4 gv
def oS:Cj ["self","spot","told"] ["self","spot"] (C0 mj):=Di
noncomputable def Uq:B0:=
    AS (BU 2 (A3 Gq (C4 (Dw "Weaver" "told") (J 0)) (J 1)))
    (AS (C9 (II (Ax (A3 (BP false) (A3 AM (J 2) (A5 (.int 0))) (A5 (.str (B_ "at"))))) (Ax (A3 (BP true) (A3 AM (J 2) (A5 (.int 1))) (C4 (Dw "Weaver" "shunned") (J 0))))) (CV (A5 .non)) (CU))
    (CV (C_ (A1 (C_ (A1 (A3 AM (J 2) (A5 (.int 1))) (A1 (A3 AM (J 2) (A5 (.int 2))) (AF)))) (A1 (A3 AM (J 1) (A5 (.int 1))) (AF))))))
def N_:μ->R C5:=DZ 3 Uq
def oV:Cj ["self","spot","gone","further"] ["self","spot"] (C0 mq):=Di
noncomputable def Xr:B0:=
    AS (EK 2 (CZ (A1 (J 1) (AF))))
    (AS (BU 3 (Il "Weaver" "behind" 1 N_ (J 0) (A1 (J 1) (AF))))
    (AS (JS (EH (IH (Ax (A3 (GW false) (J 3) (A5 .non))) (Ax (A3 (inD false) (J 3) (J 2))))) (AS (Gz 2 (J 3))
    (BU 3 (Il "Weaver" "behind" 1 N_ (J 0) (A1 (J 3) (AF))))))
    (OF 2 (CV (MO (Ax (A3 (BP true) (J 3) (J 1))) (J 2) (Bo (CZ (AF))))))))
def Tq:μ->R C5:=DZ 4 Xr
def oU:Cj ["self","found","spot","numbers","ring"] ["self"] (C0 mn):=Di
noncomputable def Xq:B0:=
    AS (Kq 1)
    (AS (Dq (Rm (C4 (Dw "Weaver" "woven") (J 0))) (FO [BK 2,BK 3]) (AS (NX 1 (M6 (C_ (A1 (A5 (.str (B_ "at"))) (A1 (A3 AM (A3 AM (J 2) (A5 (.int 0))) (A5 (.int 0))) (AF))))) (J 3))
    (AS (C9 (Ax (A3 (BP false) (A3 AM (A3 Gq (C4 (Dw "Weaver" "told") (J 0)) (J 2)) (A5 (.int 0))) (A5 (.str (B_ "at"))))) (NX 1 (M6 (A3 Gq (C4 (Dw "Weaver" "told") (J 0)) (J 2))) (J 3)) (CU))
    (AS (BU 4 (Il "Weaver" "round_from" 1 Tq (J 0) (A1 (J 2) (AF))))
    (C9 (Ax (A3 (BP false) (J 4) (Bo (CZ (AF))))) (NX 1 (c3 (B_ "ring")) (Bo (KG (EV IR (J 3) (G9) (Ef (C4 EW (A5 (.int 1))))) (A3 QF (Bo (CZ (A1 (A3 AM (J 2) (A5 (.int 1))) (AF)))) (Bz CE (A1 (J 4) (AF))))))) (CU))))))
    (JR (J 1)))
def ZI:μ->R C5:=DZ 5 Xq
def oT:Cj ["self","door","ahead","least","spots","spot"] ["self","door","ahead"] (C0 ml):=Di
noncomputable def Xp:B0:=
    AS (C9 (EH (Ax (A3 (BP true) (A3 AM (J 1) (A5 (.int 0))) (C4 (Dw "Weaver" "shunned") (J 0))))) (Qd (Bo (CZ (AF)))) (CU))
    (AS (BU 3 (MO (Ax (A3 (BP false) (J 2) (Bo (CZ (AF))))) (A3 AM (J 2) (C4 EW (A5 (.int 1)))) (A5 (.int 0))))
    (AS (Qe 4 (Rl (E3 1 [1,0] (OI (A1 (J 3) (A1 (Bz CE (A1 (C4 (Dw "Weaver" "stages") (J 0)) (AF))) (AF)))) (BK 0) (Ax (A3 (Fb false) (C_ (A1 (J 1) (A1 (J 0) (AF)))) (C4 (Dw "Weaver" "woven") (J 2)))) (C_ (A1 (J 1) (A1 (J 0) (AF)))))))
    (AS (Dq (H2 (J 4)) (BK 5) (NW 0 "Weaver" "woven" (J 5) (Bo (KG (J 2) (Bo (CZ (A1 (A3 AM (J 5) (A5 (.int 1))) (AF))))))))
    (Qd (J 4)))))
def Qg:T->μ->R (D×T):=QY 6 Xp
def adW:Cj ["thing"] ["thing"] (C0 n1):=Di
noncomputable def gh:B0:=
    AS (C9 (II (Ec (Ax (C4 (Ih "str") (J 0)))) (Ax (A3 (BP false) (Bz CE (A1 (J 0) (AF))) (Bz CE (A1 (A5 S5) (AF)))))) (CV (A5 (.AR false))) (CU))
    (CV (Bz C6 (A1 (Bo (E3 1 [] (WS (J 0)) (BK 0) (FM) (A3 (inD true) (J 0) (A5 TC)))) (AF))))
def ZK:μ->R C5:=DZ 1 gh
def adT:Cj ["thing"] ["thing"] (C0 my):=Di
def gf:B0:=
    CV (Br 3 Rp (A1 (J 0) (A1 (A5 (.int 0)) (A1 (A5 VR) (AF)))))
def ZJ:μ->R C5:=DZ 1 gf
def adS:Cj ["pattern","address"] ["pattern","address"] (C0 mx):=Di
noncomputable def gd:B0:=
    AS (C9 (II (Ec (Ax (Br 1 ZK (A1 (J 0) (AF))))) (Ec (Ax (Br 1 ZJ (A1 (J 1) (AF)))))) (CV (A5 (.AR false))) (CU))
    (CV (Bz C6 (A1 (Bo (E3 2 [1] (Zz (A1 (J 0) (A1 (A5 S5) (AF)))) (FO [BK 0,BK 1]) (FM) (A3 (inD true) (J 0) (C_ (A1 (A5 (.str (B_ "x"))) (A1 (Bz Te (A1 (A3 D5 (A3 Eb (J 2) (J 1)) (A5 (.int 2))) (AF))) (AF))))))) (AF))))
def Ts:μ->R C5:=DZ 2 gd
def oA:Cj ["book","door","address","number","row"] ["book","door","address"] (C0 oQ):=Di
noncomputable def bU:B0:=
    AS (Dq (WR (A1 (J 0) (AF))) (FO [BK 3,BK 4]) (C9 (IH (II (Ax (A3 (GW true) (A3 AM (J 4) (A5 (.int 1))) (A5 .non))) (Ax (A3 (BP true) (A3 AM (J 4) (A5 (.int 1))) (J 1)))) (Ax (Br 2 Ts (A1 (A3 AM (J 4) (A5 (.int 0))) (A1 (J 2) (AF)))))) (CV (J 3)) (CU)))
    (CV (A5 .non))
def ZN:μ->R C5:=DZ 5 bU
def adO:Cj ["self","door"] ["self","door"] (C0 nf):=Di
noncomputable def ga:B0:=
    CV (WP (C4 (Dw "Net" "far") (J 0)) (J 1))
noncomputable def WV:μ->R C5:=DZ 2 ga
def o9:Cj ["net","book","door","address","number","out","far"] ["net","book","door","address"] (C0 oO):=Di
noncomputable def TB:B0:=
    AS (BU 4 (Br 3 ZN (A1 (J 1) (A1 (A3 AM (J 2) (A5 (.int 1))) (A1 (J 3) (AF))))))
    (AS (BU 5 (MO (Ax (A3 (GW true) (J 4) (A5 .non))) (A5 .non) (A3 AM (A3 AM (J 1) (J 4)) (A5 (.int 2)))))
    (AS (C9 (Ax (A3 (GW true) (J 5) (A5 .non))) (CV (C_ (A1 (A5 (.str (B_ "drop"))) (A1 (A3 AM (J 2) (A5 (.int 0))) (AF))))) (CU))
    (AS (BU 6 (Il "Net" "beyond" 1 WV (J 0) (A1 (C_ (A1 (A3 AM (J 2) (A5 (.int 0))) (A1 (J 5) (AF)))) (AF))))
    (AS (C9 (Ax (A3 (GW true) (J 6) (A5 .non))) (CV (C_ (A1 (A5 (.str (B_ "out"))) (A1 (A3 AM (J 2) (A5 (.int 0))) (A1 (J 5) (AF)))))) (CU))
    (CV (C_ (A1 (A5 (.str (B_ "at"))) (A1 (A3 AM (J 6) (A5 (.int 0))) (A1 (A3 AM (J 6) (A5 (.int 1))) (AF))))))))))
def OM:μ->R C5:=DZ 7 TB
def oW:Cj ["self","door","waiting","further","spot","told"] ["self","door"] (C0 mr):=Di
noncomputable def Xs:B0:=
    AS (NY 2 (KF 0 "Weaver" "entered" 2 Qg (A1 (J 1) (A1 (Bo (CZ (AF))) (AF)))))
    (JS (Ax (A3 (BP false) (J 2) (Bo (CZ (AF))))) (AS (EK 3 (CZ (AF)))
    (AS (Dq (H2 (J 2)) (BK 4) (AS (BU 5 (Hs (Br 4 OM (A1 (C4 (Dw "Weaver" "net") (J 0)) (A1 (A3 AM (A3 AM (C4 (Dw "Weaver" "stages") (J 0)) (A3 AM (J 4) (A5 (.int 1)))) (A3 AM (A3 AM (J 4) (A5 (.int 0))) (A5 (.int 0)))) (A1 (A3 AM (J 4) (A5 (.int 0))) (A1 (C4 (Dw "Weaver" "address") (J 0)) (AF))))))))
    (AS (NW 0 "Weaver" "told" (J 4) (J 5))
    (C9 (Ax (A3 (BP true) (A3 AM (J 5) (A5 (.int 0))) (A5 (.str (B_ "at"))))) (QZ (T2 3 (KF 0 "Weaver" "entered" 2 Qg (A1 (C_ (A1 (A3 AM (J 5) (A5 (.int 1))) (A1 (A3 AM (J 5) (A5 (.int 2))) (AF)))) (A1 (Q_ 0 "Weaver" "woven" (J 4)) (AF)))))) (CU)))))
    (OF 3 (BU 2 (J 3))))))
def WX:T->μ->R (D×T):=QY 6 Xs
def adQ:Cj ["self","net","stages","door","address","shunned"] ["self","net","stages","door","address","shunned"] (C0 mm):=Di
noncomputable def VP:B0:=
    AS (Qa "Weaver" "net" (J 1))
    (AS (Qa "Weaver" "stages" (J 2))
    (AS (Qa "Weaver" "address" (J 4))
    (AS (Qa "Weaver" "shunned" (J 5))
    (AS (TX "Weaver" "woven")
    (AS (TX "Weaver" "told")
    (QZ (KF 0 "Weaver" "weave" 1 WX (A1 (J 3) (AF)))))))))
def WW:μ->R T:=a0 "Weaver" 6 VP
def ade:Cj ["old","new","houses"] ["old","new","houses"] (C0 oN):=Di
def gU:B0:=
    Fn (E3 1 [2,1,0] (FL (A1 (Bz CE (A1 (J 0) (AF))) (AF))) (BK 0) (FM) (Bo (OG (A1 (MO (Ax (A3 (inD true) (J 0) (J 1))) (A3 AM (J 2) (J 0)) (A3 AM (J 3) (J 0))) (AF)))))
def ZM:μ->R C5:=DZ 3 gU
def adf:Cj ["old","new","row"] ["old","new","row"] (C0 oP):=Di
def gz:B0:=
    Fn (E3 1 [0,1,2] (FL (A1 (A3 DP (Bz CE (A1 (J 2) (AF))) (A5 (.int 1))) (AF))) (BK 0) (FM) (Bo (Fg 3 ZM (A1 (J 1) (A1 (J 2) (A1 (EV IR (J 3) (G9) (Ef (J 0))) (AF)))))))
def Vu:μ->R C5:=DZ 3 gz
def adb:Cj ["net","old","new","row","door","address"] ["net","old","new","row","door","address"] (C0 oM):=Di
def Xy:B0:=
    CV (Il "Weaver" "met" 0 ZI (Tn 5 WW (A1 (J 0) (A1 (Bo (Fg 3 Vu (A1 (J 1) (A1 (J 2) (A1 (J 3) (AF)))))) (A1 (J 4) (A1 (J 5) (A1 (A5 .non) (AF))))))) AF)
def OL:μ->R C5:=DZ 6 Xy
def ada:Cj ["net","old","new","row","door","address","goal"] ["net","old","new","row","door","address","goal"] (C0 oL):=Di
noncomputable def Xx:B0:=
    AS (C9 (Ec (Ax (Bz C6 (A1 (Bo (E3 1 [] (Qc (EV QM (J 6) (Ef (A5 (.int 1))) (G9))) (BK 0) (FM) (Br 1 Ro (A1 (J 0) (AF))))) (AF))))) (CV (A5 .non)) (CU))
    (CV (WO (Br 6 OL (A1 (J 0) (A1 (J 1) (A1 (J 2) (A1 (J 3) (A1 (J 4) (A1 (J 5) (AF)))))))) (J 6)))
def Qi:μ->R C5:=DZ 7 Xx
def o3:Cj ["_law_numbers","_law_most","_law_last","_law_number"] ["_law_numbers","_law_most"] (C0 me):=Di
noncomputable def gO:B0:=
    AS (C9 (II (Ec (Ax (C4 (Ih "list") (J 0)))) (Ax (A3 (BP true) (J 0) (Bo (CZ (AF)))))) (CV (A5 (.AR false))) (CU))
    (AS (BU 2 (A5 (.int 0)))
    (AS (Dq (H2 (J 0)) (BK 3) (AS (C9 (II (Ec (Ax (C4 (Ih "int") (J 3)))) (II (Ax (C4 (Ih "bool") (J 3))) (Ec (Ax (OE Pd Pd (J 2) (J 3) (J 1)))))) (CV (A5 (.AR false))) (CU))
    (BU 2 (J 3))))
    (CV (A5 (.AR true)))))
def OJ:μ->R C5:=DZ 4 gO
def ny:Cj ["_law_wires_here","_law_shelves_here","_law_door","_law_address","_law_numbers","_law_goal","_law_road_here","_law_number","_law_told","_law_k"] ["_law_wires_here","_law_shelves_here","_law_door","_law_address","_law_numbers","_law_goal"] (C0 mY):=Di
noncomputable def gw:B0:=
    AS (EK 6 (CZ (A1 (J 2) (AF))))
    (AS (Dq (H2 (EV IR (J 4) (G9) (Ef (C4 EW (A5 (.int 1)))))) (BK 7) (AS (BU 8 (Hs (Br 4 Im (A1 (J 0) (A1 (A3 AM (A3 AM (J 1) (J 7)) (A3 AM (A3 AM (J 6) (C4 EW (A5 (.int 1)))) (A5 (.int 0)))) (A1 (A3 AM (J 6) (C4 EW (A5 (.int 1)))) (A1 (J 3) (AF))))))))
    (AS (C9 (Ax (A3 (BP false) (A3 AM (J 8) (A5 (.int 0))) (A5 (.str (B_ "at"))))) (CV (A5 (.AR false))) (CU))
    (Gz 6 (EV I7 (J 8) (Ef (A5 (.int 1))) (G9))))))
    (AS (C9 (Ax (A3 (BP true) (A3 AM (J 5) (A5 (.int 0))) (A5 (.str (B_ "at"))))) (JR (A3 (BP true) (A3 AM (A3 AM (J 6) (C4 EW (A5 (.int 1)))) (A5 (.int 0))) (A3 AM (J 5) (A5 (.int 1))))) (CU))
    (AS (BU 8 (Hs (Br 4 Im (A1 (J 0) (A1 (A3 AM (A3 AM (J 1) (A3 AM (J 4) (C4 EW (A5 (.int 1))))) (A3 AM (A3 AM (J 6) (C4 EW (A5 (.int 1)))) (A5 (.int 0)))) (A1 (A3 AM (J 6) (C4 EW (A5 (.int 1)))) (A1 (J 3) (AF))))))))
    (AS (C9 (Ax (A3 (BP false) (J 5) (C_ (A1 (A5 (.str (B_ "ring"))) (AF))))) (CV (A3 (BP true) (J 8) (J 5))) (CU))
    (AS (C9 (Ax (A3 (BP false) (A3 AM (J 8) (A5 (.int 0))) (A5 (.str (B_ "at"))))) (CV (A5 (.AR false))) (CU))
    (AS (Dq (FL (A1 (Ko (Bz CE (A1 (J 6) (AF)))) (AF))) (BK 9) (C9 (EH (IH (Ax (A3 (BP true) (A3 AM (J 6) (J 9)) (EV I7 (J 8) (Ef (A5 (.int 1))) (G9)))) (Ax (Bz C6 (A1 (Bo (E3 1 [4] (H2 (EV IR (J 4) (Ef (J 9)) (G9))) (BK 0) (FM) (A3 (BP true) (J 0) (A3 AM (J 1) (C4 EW (A5 (.int 1))))))) (AF)))))) (CV (A5 (.AR true))) (CU)))
    (CV (A5 (.AR false)))))))))
def Kr:μ->R C5:=DZ 10 gw
def oZ:Cj ["_law_script","_law_counts_here","_law_wires_here","_law_old","_law_new","_law_outer_here","_law_some_here","_law_shelves_here","_law_net","_law_cell","_law_number","_law_door","_law_address","_law_met_here","_law_goals_here","_law_start","_law_goal","_law_numbers","_law_again"] ["_law_script"] (C0 P5):=Di
noncomputable def gk:B0:=
    AS (M7 (FO [BK 1,BK 2,BK 3,BK 4]) (Br 1 Tt (A1 (J 0) (AF))))
    (AS (BU 5 (Bo (Fg 2 Wc (A1 (J 1) (A1 (J 2) (AF))))))
    (AS (BU 6 (Bo (Fg 2 Tx (A1 (Br 2 M8 (A1 (J 0) (A1 (A5 (.int 1)) (AF)))) (A1 (Bz CE (A1 (J 1) (AF))) (AF))))))
    (AS (BU 7 (Bo (Fg 3 Vt (A1 (J 3) (A1 (J 4) (A1 (J 6) (AF)))))))
    (AS (BU 8 (Tl "Net" 2 a5 (A1 (J 1) (A1 (J 2) (AF)))))
    (AS (Dq (H2 (Bo (KG (Bo (CZ (A1 (A5 (.int 4)) (AF)))) (EV IR (J 0) (Ef (A5 (.int 16))) (Ef (A5 (.int 17))))))) (BK 9) (AS (BU 10 (Br 2 FV (A1 (J 9) (A1 (A5 (.int 2)) (AF)))))
    (AS (BU 11 (A3 AM (J 5) (A3 D5 (J 10) (Bz CE (A1 (J 5) (AF))))))
    (AS (BU 12 (A3 D5 (A3 Eb (J 10) (A5 (.int 50))) (A5 (.int 16))))
    (AS (BU 13 (Bo (Fg 4 Rs (A1 (J 2) (A1 (J 7) (A1 (J 11) (A1 (J 12) (AF))))))))
    (AS (BU 14 (Bo (Fg 1 Tw (A1 (J 1) (AF)))))
    (AS (BU 15 (A3 Eb (J 10) (A5 (.int 800))))
    (AS (Qe 14 (E3 1 [14,15] (FL (A1 (A5 (.int 2)) (AF))) (BK 0) (FM) (A3 AM (J 1) (A3 D5 (A3 DP (J 2) (A3 Ks (A5 (.int 7)) (J 0))) (Bz CE (A1 (J 1) (AF)))))))
    (AS (BU 14 (Bo (KG (J 14) (Bo (E3 1 [13,15] (FL (A1 (A5 (.int 4)) (AF))) (BK 0) (FM) (A3 AM (J 1) (A3 D5 (A3 DP (J 2) (J 0)) (Bz CE (A1 (J 1) (AF))))))))))
    (Dq (H2 (J 14)) (BK 16) (AS (Qf 17 6 7 Qi (A1 (J 8) (A1 (J 3) (A1 (J 4) (A1 (J 6) (A1 (J 11) (A1 (J 12) (A1 (J 16) (AF)))))))))
    (C9 (Ax (A3 (inD false) (J 16) (J 13))) (C9 (EH (Ax (A3 (GW false) (J 17) (A5 .non)))) (CV (A5 (.AR false))) (CU)) (AS (C9 (EH (Ec (Ax (Br 2 OJ (A1 (J 17) (A1 (Bz CE (A1 (J 6) (AF))) (AF))))))) (CV (A5 (.AR false))) (CU))
    (AS (C9 (EH (Ec (Ax (Br 6 Kr (A1 (J 2) (A1 (J 7) (A1 (J 11) (A1 (J 12) (A1 (J 17) (A1 (J 16) (AF))))))))))) (CV (A5 (.AR false))) (CU))
    (AS (Gz 17 (A5 (.int 0)))
    (AS (Qf 18 6 7 Qi (A1 (J 8) (A1 (J 3) (A1 (J 4) (A1 (J 6) (A1 (J 11) (A1 (J 12) (A1 (J 16) (AF)))))))))
    (AS (C9 (EH (Ec (Ax (Br 2 OJ (A1 (J 18) (A1 (Bz CE (A1 (J 6) (AF))) (AF))))))) (CV (A5 (.AR false))) (CU))
    (C9 (EH (Ec (Ax (Br 6 Kr (A1 (J 2) (A1 (J 7) (A1 (J 11) (A1 (J 12) (A1 (J 18) (A1 (J 16) (AF))))))))))) (CV (A5 (.AR false))) (CU)))))))))))))))))))
    (CV (A5 (.AR true))))))))
def W_:μ->R C5:=DZ 19 gk
def LC{α β:Type}(a:α)(k:α->R β):(R.ok a).bind k=k a:=rfl
def sD{f:μ->R C5}{a:Ae}{ρ:AI}{x y:D}(AD:a ρ=.ok x)(h:f [x]=.ok (.v y)):Br 1 f (A1 a AF) ρ=.ok y:=by erw[Br,A1,AF,AD,LC,H4,LP,if_true,h,P4]
def call2{f:μ->R C5}{a b:Ae}{ρ:AI}{x z y:D}(AD:a ρ=.ok x)(A0:b ρ=.ok z)(h:f [x,z]=.ok (.v y)):Br 2 f (A1 a (A1 b AF)) ρ=.ok y:=by erw[Br,A1,AF,AD,A0,LC,H4,LP,if_true,h,P4]
def H9{f:D->D->R D}{a b:Ae}{ρ:AI}{x y z:D}(AD:a ρ=.ok x)(A0:b ρ=.ok y)(h:f x y=.ok z):A3 f a b ρ=.ok z:=by erw[A3,AD,A0,LC,h]
def Kn{a:Ae}{ρ:AI}{c:Bool}(AD:a ρ=.ok (.AR c)):Ax a ρ=.ok c:=by erw[Ax,AD,LC,NC]
def l0{a:Ck}{ρ:AI}{c:Bool}(AD:a ρ=.ok c):Ec a ρ=.ok (!c):=by erw[Ec,AD,LC]
def acy{i:Nat}{a:Ae}{ρ BL:AI}{d:D}(AD:a ρ=.ok d)(AJ:BK i d ρ=.ok BL):BU i a ρ=.ok (.B6 BL):=by erw[BU,AD,LC,AJ]
def NR{c:Ck}{a b:B0}{ρ:AI}{k:Bool}(AO:c ρ=.ok k):C9 c a b ρ=if k=true then a ρ else b ρ:=by erw[C9,AO,LC]
def ak{c:Ck}{a b:B0}{ρ:AI}(AO:c ρ=.ok false):AS (C9 c a CU) b ρ=b ρ:=by erw[AS,C9,AO,LC,CU];rfl
def Zr{a:Ae}{ρ:AI}{xs:μ}(AD:a ρ=.ok (.lst xs)):Bz CE (A1 a AF) ρ=.ok (.int (xs.length:Nat)):=by erw[Bz,A1,AF,AD,LC,CE]
noncomputable def CN(cs:ι):μ:=cs.map λ(c:Nat)=>D.int (c:Int)
abbrev AT:=Nat×Nat
noncomputable def AY(d:AT):D:=.tup [.int (d.1:Nat),.int (d.2:Nat)]
noncomputable def CO(w:AT×AT):D:=.tup [AY w.1,AY w.2]
noncomputable def ends(ws:List (AT×AT)):List AT:=(ws.map λw=>[w.1,w.2]).flatten
theorem bD{α:Type}:∀(l:List α)(i:Nat)(h:i<l.length),List.Perm (l[i]::l.eraseIdx i) l
 |x::l,0,_=>List.Perm.refl _
 |x::l,i+1,h=>by have Bh:=bD l i (h:);erw[List.getElem_cons_succ,qb];exact(List.Perm.swap x _ _).trans (Bh.cons x)
noncomputable def OP(cs:ι)(h:Nat):List AT:=(EN (cs.getD h 0)).map λk=>(h,k)
noncomputable def C6(cs:ι)(n:Nat):List AT:=(EN n).flatMap (OP cs)
def hO(cs:ι)(n:Nat):C6 cs (n+1)=C6 cs n++OP cs n:=by unfold C6;rw[List.range_succ,List.flatMap_append];simp
def cW{cs:ι}{h:Nat}{d:AT}:d∈OP cs h↔d.1=h/\d.2<cs.getD h 0:=by
 unfold OP;rw[UZ];constructor
 .rintro⟨k,AE,rfl⟩;exact⟨rfl,List.mem_range.mp AE⟩
 .rintro⟨rfl,AA⟩;exact⟨d.2,List.mem_range.mpr AA,rfl⟩
def M9{cs:ι}{n:Nat}{d:AT}:d∈C6 cs n↔d.1<n/\d.2<cs.getD d.1 0:=by
 unfold C6;rw[List.mem_flatMap];constructor
 .rintro⟨h,B4,hd⟩;obtain⟨rfl,AA⟩:=cW.mp hd;exact⟨List.mem_range.mp B4,AA⟩
 .rintro⟨A6,AA⟩;exact⟨d.1,List.mem_range.mpr A6,cW.mpr ⟨rfl,AA⟩⟩
def tA(cs:ι)(h:Nat):(OP cs h).Nodup:=by unfold OP;rw[List.nodup_iff_pairwise_ne,List.pairwise_map];exact List.nodup_range.imp λV5 z=>V5 (Prod.mk.inj z).2
theorem hk(cs:ι):∀n,(C6 cs n).Nodup
 |0=>List.nodup_nil
 |n+1=>by rw[hO];refine List.nodup_append.mpr ⟨hk cs n,tA cs n,λa AD b A0 z=>?_⟩;subst z;have A6:=(M9.mp AD).1;have AA:=(cW.mp A0).1;lia
def bR{cs:ι}(h:∀c∈cs,c<=4)(k:Nat):cs.getD k 0<=4:=by
 rw[JF];cases e:cs[k]? with
 |none=>simp
 |some c=>simpa using h c (Hd e)
def t9{cs:ι}(h:∀c∈cs,1<=c/\c<=4)(k:Nat):(OP cs k).length<=4:=by unfold OP;rw[GN,List.length_range];exact bR (λc AO=>(h c AO).2) k
theorem Nn{cs:ι}(h:∀c∈cs,1<=c/\c<=4):∀n,(C6 cs n).length<=4*n
 |0=>by simp[C6]
 |n+1=>by rw[hO,JK];have:=Nn h n;have:=t9 h n;lia
def Xc{cs:ι}{h:Nat}(B4:h<cs.length):(CN cs)[h]?=some (.int (cs.getD h 0:Nat)):=by simp[CN,Dt B4,JF]
structure Lb(cs:ι)(ws:List (AT×AT)):Prop where
 A6:1<=cs.length
 DE:cs.length<=6
 c:∀c∈cs,1<=c/\c<=4
 Cs:(ends ws).Nodup
 sub:∀d∈ends ws,d∈C6 cs cs.length
 few:ws.length<100
def head_mem{cs:ι}(A6:1<=cs.length)(c:∀c∈cs,1<=c/\c<=4):((0,0):AT)∈C6 cs cs.length:=by
 refine M9.mpr ⟨A6,?_⟩;cases cs with
 |nil=>simp at A6
 |cons x r=>exact(c x (Mt ..)).1
noncomputable def IG(d:AT):Bf:=[.inl (.inl (d.1:Nat)),.inl (.inl (d.2:Nat))]
def cG{a b:AT}(h:IG a=IG b):a=b:=by
 obtain⟨a1,a2⟩:=a;obtain⟨FU,G3⟩:=b;erw[IG,PK,fm,and_true]at h;have A6:a1=FU:=δ
 have AA:a2=G3:=δ
 rw[A6,AA]
def VO(d:AT):Ik (AY d)=some (IG d):=rfl
noncomputable def F9(ws:List (AT×AT)):List Bf:=(ends ws).map IG
noncomputable def FB(ws:List (AT×AT)):μ:=(ws.map λw=>[AY w.2,AY w.1]).flatten
def ks_any(ws:List (AT×AT))(d:AT):(F9 ws).any (λx=>decide (x=IG d))=decide (d∈ends ws):=by
 unfold F9;rw[PQ];by_cases h:d∈ends ws
 .rw[decide_eq_true h,UL];exact⟨d,h,γ⟩
 .rw[decide_eq_false h,List.any_eq_false];intro x AG;erw[fo,decide_eq_true_eq];exact λz=>h (cG z▸AG)
def Z2(ws:List (AT×AT)):(ends ws).length=2*ws.length:=by
 induction ws with
 |nil=>rfl
 |cons w r Bh=>erw[ends,Du,Qp,JK,H4,LP]at Bh |-;lia
def Z0{i:Nat}{mk mv:Ae}{ρ:AI}{ks:List Bf}{ds:μ}{k v:D}{BY:Bf}(AJ:ρ[i]?=some (.ob (.An ks ds)))(AE:mk ρ=.ok k)(BN:mv ρ=.ok v)(DD:Ik k=some BY)(AQ:ks.any (λx=>decide (x=BY))=false)(AN:ks.length<1000000) :
  Ht i mk mv ρ=.ok (.B6 (ρ.set i (.ob (.An (ks++[BY]) (ds++[v]))))):=by
 erw[Ht,BN,AJ,AE,LC,DD,putD,if_pos (And.intro AQ AN)]
def rd{ks:List Bf}{a b:Bf}(h:ks.any (λx=>decide (x=b))=false)(ne:a≠b):(ks++[a]).any (λx=>decide (x=b))=false:=by rw[List.any_append,h];simp[ne]
def zX(ws:List (AT×AT))(w:AT×AT):F9 (ws++[w])=F9 ws++[IG w.1]++[IG w.2]:=by simp[F9,ends]
def afN(ws:List (AT×AT))(w:AT×AT):FB (ws++[w])=FB ws++[AY w.2]++[AY w.1]:=by simp[FB]
def aaX{P:List (AT×AT)}{w:AT×AT}{r:List (AT×AT)}(Cs:(ends (P++w::r)).Nodup):w.1∉ends P/\w.2∉ends P/\w.1≠w.2:=by
 have e:ends (P++w::r)=ends P++(w.1::w.2::ends r):=by simp[ends]
 rw[e]at Cs;obtain⟨_,D8,JU⟩:=List.nodup_append.mp Cs;refine⟨λz=>JU _ z w.1 γ rfl,λz=>JU _ z w.2 γ rfl,λz=>?_⟩;rw[List.nodup_cons]at D8;exact D8.1 (by rw[z];simp)
def eU(i lo AC:Int):Rp [.int i,.int lo,.int AC]=.ok (.v (.AR (decide (lo<=i)&&decide (i<=AC)))):=by have w:Ro [.int i]=.ok (.v (.AR true)):=rfl;simp[Rp,gi,w];by_cases h:lo<=i<;>simp[h]
def jK{cs:ι}{d:AT}(h:d∈C6 cs cs.length):WY [.tup (CN cs),AY d]=.ok (.v (.AR true)):=by
 obtain⟨A6,AA⟩:=M9.mp h;have p:WZ [AY d]=.ok (.v (.AR true)):=rfl;have DJ:AM (AY d) (.int 0)=.ok (.int d.1):=rfl;have A9:AM (AY d) (.int 1)=.ok (.int d.2):=rfl;have AH:AM (.tup (CN cs)) (.int (d.1:Nat))=.ok (.int (cs.getD d.1 0:Nat)):=cB (Xc A6);have l:(CN cs).length=cs.length:=by simp[CN]
 erw[JF]at AA AH;simp[WY,gg,p,DJ,A9,AH,l,eU,show¬((cs.length:Int)-1<(d.1:Nat))by lia];lia
def tu{a b:AT}(h:a≠b):BP false (AY a) (AY b)=.ok (.AR true):=by
 show R.ok (D.AR (!(((a.1:Nat):Int)==((b.1:Nat):Int)&&(((a.2:Nat):Int)==((b.2:Nat):Int)&&true))))=_;by_cases A6:a.1=b.1
 .by_cases AA:a.2=b.2
  .exact absurd (N0 A6 AA) h
  .rw[beq_eq_false_iff_ne.mpr (show((a.2:Nat):Int)≠((b.2:Nat):Int)by lia)];simp
 .rw[beq_eq_false_iff_ne.mpr (show((a.1:Nat):Int)≠((b.1:Nat):Int)by lia)];simp
def afY{cs:ι}{w:AT×AT}(A6:w.1∈C6 cs cs.length)(AA:w.2∈C6 cs cs.length)(ne:w.1≠w.2):ZL [.tup (CN cs),CO w]=.ok (.v (.AR true)):=by have p:WZ [CO w]=.ok (.v (.AR true)):=rfl;have DJ:AM (CO w) (.int 0)=.ok (AY w.1):=rfl;have A9:AM (CO w) (.int 1)=.ok (AY w.2):=rfl;simp[ZL,gj,p,DJ,A9,jK A6,jK AA,tu ne]
def xM(l:μ):Ih "list" (.lst l)=.ok (.AR true):=rfl
theorem hY{α:Type}(f:α->Bool):∀l:List α,S4 (l.map λa=>D.AR (f a))=some (l.map f)
 |[]=>rfl
 |a::l=>by simp[S4,hY f l]
def Ub{α:Type}(f:α->Bool)(l:List α):CP.C6 [.lst (l.map λa=>D.AR (f a))]=.ok (.AR (l.all f)):=by simp[CP.C6,hY,Qq]
theorem tw(cs:ι)(ws:List (AT×AT))(h:Lb cs ws):Rn [.tup (CN cs),.tup (ws.map CO)]=.ok (.v (.An (F9 ws) (FB ws))):=by
 apply Ends.done;have few:=h.few;simp[Rn,gc,Kq];refine NH CO ws (λj ρ=>∃s3,ρ=[.A2 (.tup (CN cs)),.A2 (.tup (ws.map CO)),.ob (.An (F9 (ws.take j)) (FB (ws.take j))),s3]) rfl ⟨.un,by simp[F9,FB,ends]⟩ ?_ ?_
 .rintro j w _ hw ⟨s3,rfl⟩;obtain⟨Bi,IA⟩:=List.getElem?_eq_some_iff.mp hw;have adH:ws=ws.take j++w::ws.drop (j+1):=by rw[<-IA];simp
  obtain⟨Cv,D8,JU⟩:=aaX (P:=ws.take j) (w:=w) (r:=ws.drop (j+1)) (by rw[<-adH];exact h.Cs);have C8:ws.take (j+1)=ws.take j++[w]:=by rw[List.take_succ,hw];rfl
  have J4:(F9 (ws.take j)).length<1000:=by simp[F9,Z2];lia
  have EZ:∀x,x=w.1\/x=w.2->x∈C6 cs cs.length:=λx AG=>h.sub x (List.mem_flatten.mpr ⟨[w.1,w.2],List.mem_map.mpr ⟨w,Hd hw,rfl⟩,(AG:)⟩);have Lx:=afY (EZ _ (.inl rfl)) (EZ _ (.inr rfl)) JU;generalize DF:ws.take j=P at*;have DJ:AM (CO w) (.int 0)=.ok (AY w.1):=rfl;have A9:AM (CO w) (.int 1)=.ok (AY w.2):=rfl;have Cg:Fb true (AY w.1) (.An (F9 P) (FB P))=.ok (.AR false):=by simp[Fb,VO,ks_any,Cv]
  have By:Fb true (AY w.2) (.An (F9 P) (FB P))=.ok (.AR false):=by simp[Fb,VO,ks_any,D8]
  have EA:=Z0 (i:=2) (mk:=A3 AM (J 3) (A5 (.int 0))) (mv:=A3 AM (J 3) (A5 (.int 1))) (ρ:=[.A2 (.tup (CN cs)),.A2 (.tup (ws.map CO)),.ob (.An (F9 P) (FB P)),.A2 (CO w)]) rfl rfl rfl (VO w.1) (by rw[ks_any];simp[Cv]) δ;have Cw:=Z0 (i:=2) (mk:=A3 AM (J 3) (A5 (.int 1))) (mv:=A3 AM (J 3) (A5 (.int 0))) (ρ:=[.A2 (.tup (CN cs)),.A2 (.tup (ws.map CO)),.ob (.An (F9 P++[IG w.1]) (FB P++[AY w.2])),.A2 (CO w)]) rfl rfl rfl (VO w.2) (rd (by rw[ks_any];simp[D8]) λz=>JU (cG z)) (by simp;lia);have Gu:IB (.ob (.An (F9 P) (FB P)))=.A2 (.An (F9 P) (FB P)):=rfl;simp at EA Cw;simp[Lx,DG,Gu,DJ,A9,Cg,By,EA,Cw,C8,zX,afN]
 .rintro _ ⟨s3,rfl⟩;have Gu:IB (.ob (.An (F9 ws) (FB ws)))=.A2 (.An (F9 ws) (FB ws)):=rfl;simp[JR,DG,Gu]
def rp(cs:ι)(A6:1<=cs.length)(DE:cs.length<=6)(h:∀c∈cs,1<=c/\c<=4):Tr [.lst (CN cs)]=.ok (.v (.AR true)):=by
 apply Ends.done;have lcs:(CN cs).length=cs.length:=by simp[CN]
 simp[Tr,gb,xM,lcs,VT,show(1:Int)<=cs.length by lia,show(cs.length:Int)<=6 by lia];refine SE (λc:Nat=>D.int (c:Int)) cs (λ_=>.AR true) (by simp[CN]) δ (λc AO=>by have:=h c AO;simp[eU,VS];lia) ?_;have a:=Ub (λ_:Nat=>true) cs;erw[a];simp
def Vn{a b:Ji}{ρ ER:AI}(h:a ρ=.ok ER):NZ a b ρ=b ER:=by erw[NZ,h,LC]
theorem q7:∀ws:List (AT×AT),MA (FB ws)=true
 |[]=>rfl
 |w::ws=>by show MA (AY w.2::AY w.1::FB ws)=true;erw[MA,q7 ws];rfl
def xB(cs:ι)(ws:List (AT×AT))(h:Lb cs ws):a5 [.lst (CN cs),.lst (ws.map CO)]=.ok (["many","counts","joined","far"],[.int (cs.length:Nat),.tup (CN cs),.tup (ws.map CO),.An (F9 ws) (FB ws)]):=by
 let r (ns:List Str) (ds:μ):AI:=[.ob (.ins "Net" ns ds),.A2 (.lst (CN cs)),.A2 (.lst (ws.map CO))]
 have g1:Qb (Ec (Ax (Br 1 Tr (A1 (J 1) (AF))))) (r [] [])=.ok (r [] []):=by have z:Ec (Ax (Br 1 Tr (A1 (J 1) (AF)))) (r [] [])=.ok false:=l0 (c:=true) (Kn (sD rfl (rp cs h.A6 h.DE h.c)));erw[Qb,z,LC,Hg,if_false]
 have g2:Qb (Ec (Ax (C4 (Ih "list") (J 2)))) (r [] [])=.ok (r [] []):=rfl;have f1:Kp "Net" "many" (Bz CE (A1 (J 1) (AF))) (r [] [])=.ok (r ["many"] [.int (cs.length:Nat)]):=by
  have J4:Bz CE (A1 (J 1) AF) (r [] [])=.ok (.int (cs.length:Nat)):=by rw[Zr (xs:=CN cs) rfl];simp[CN]
  rw[Kp,J4];rfl
 have f2:Kp "Net" "counts" (Bz SU (A1 (J 1) (AF))) (r ["many"] [.int (cs.length:Nat)])=.ok (r ["many","counts"] [.int (cs.length:Nat),.tup (CN cs)]):=rfl;have Fc:Kp "Net" "joined" (Bz SU (A1 (J 2) (AF))) (r ["many","counts"] [.int (cs.length:Nat),.tup (CN cs)])=.ok (r ["many","counts","joined"] [.int (cs.length:Nat),.tup (CN cs),.tup (ws.map CO)]):=rfl;have f4:Kp "Net" "far" (Rk (Br 2 Rn (A1 (C4 (Dw "Net" "counts") (J 0)) (A1 (C4 (Dw "Net" "joined") (J 0)) (AF))))) (r ["many","counts","joined"] [.int (cs.length:Nat),.tup (CN cs),.tup (ws.map CO)])=.ok (r ["many","counts","joined","far"] [.int (cs.length:Nat),.tup (CN cs),.tup (ws.map CO),.An (F9 ws) (FB ws)]):=by
  have z:Rk (Br 2 Rn (A1 (C4 (Dw "Net" "counts") (J 0)) (A1 (C4 (Dw "Net" "joined") (J 0)) (AF)))) (r ["many","counts","joined"] [.int (cs.length:Nat),.tup (CN cs),.tup (ws.map CO)])=.ok (.An (F9 ws) (FB ws)):=by have y:Br 2 Rn (A1 (C4 (Dw "Net" "counts") (J 0)) (A1 (C4 (Dw "Net" "joined") (J 0)) (AF))) (DG (r ["many","counts","joined"] [.int (cs.length:Nat),.tup (CN cs),.tup (ws.map CO)]))=.ok (.An (F9 ws) (FB ws)):=call2 (x:=.tup (CN cs)) (z:=.tup (ws.map CO)) rfl rfl (tw cs ws h);have n:Ku (.An (F9 ws) (FB ws))=true/\e1 (r ["many","counts","joined"] [.int (cs.length:Nat),.tup (CN cs),.tup (ws.map CO)])=true:=⟨by erw[Ku];exact q7 ws,rfl⟩;erw[Rk,y,LC,if_pos n]
  rw[Kp,z];rfl
 show outI "Net" (Xo (r [] []))=_;unfold Xo;rw[Vn g1,Vn g2,Vn f1,Vn f2,Vn Fc,f4];rfl
theorem ip{β:Type}{c:Ck}{b:B0}{k:FQ->R β}{T:β->Prop}(I:Nat->AI->Prop)(st:∀n ρ,I n ρ->∃t,c ρ=.ok t/\(t=true->Ends (b ρ) (IZ λBL=>∃m,m<n/\I m BL))/\(t=false->Ends (k (.B6 ρ)) T)):∀(f n:Nat)(ρ:AI),I n ρ->n<f->Ends ((QV c b f ρ).bind k) T
 |0,n,ρ,h,hf=>δ
 |f+1,n,ρ,h,hf=>by
  obtain⟨t,e,A6,AA⟩:=st n ρ h;erw[QV,e,BX];cases t with
  |false=>simpa using AA rfl
  |true=>obtain⟨x,ex,BL,rfl,m,hm,HW⟩:=A6 rfl;erw[if_true,ex,BX];exact ip I st f m BL HW δ
def Vc{β:Type}{c:Ck}{b:B0}{k:FQ->R β}{T:β->Prop}(I:Nat->AI->Prop){n:Nat}{ρ:AI}(h:I n ρ)(AQ:n<1000)(st:∀n ρ,I n ρ->∃t,c ρ=.ok t/\(t=true->Ends (b ρ) (IZ λBL=>∃m,m<n/\I m BL))/\(t=false->Ends (k (.B6 ρ)) T)):Ends ((JS c b ρ).bind k) T:=ip I st 1000 n ρ h AQ
def Xa(ns:List Int)(k:Nat):∃c:Int,M8 [.D1 (ns.map D.int),.int k]=.ok (.v (.int c)):=by
 by_cases h:k<ns.length
 .refine⟨ns[k],?_⟩;have e:AM (.D1 (ns.map D.int)) (.int (k:Int))=.ok (.int ns[k]):=x6 (by simp[h]);simp[M8,Xt,h,e]
 .exact⟨0,by simp[M8,Xt,h]⟩
def Zg:P2 (.int 10) (.int 60)=.ok (.int η):=(rfl)
def ZF(l:List Int)(x:Int){n:Nat}(AQ:l.length=n)(h:0<n):∃f∈l,AM (.lst (l.map D.int)) (.int (x%(n:Int)))=.ok (.int f):=by obtain⟨j,Bi,e⟩:=JV x h;rw[e];exact⟨l[j],MC _,IF (by simp[AQ,Bi])⟩
def MP(c:Int)(k:Nat)(AE:k<1000):∃y:Int,FV [.int c,.int k]=.ok (.v (.int y)):=by obtain⟨f,hf,Cr⟩:=ZF [48271,69621,16807,39373,40692,742938285,950706376,1343714438] k (n:=8) rfl ε;obtain⟨p,AZ,BV⟩:=ZF [2147483647,2147483629,2147483587,2147483579,2147483563] k (n:=5) rfl ε;have f0:0<f/\f<18446744073709551616:=(by decide:∀f∈([48271,69621,16807,39373,40692,742938285,950706376,1343714438]:List Int),0<f/\f<18446744073709551616) f hf;have FN:0<p:=(by decide:∀p∈([2147483647,2147483629,2147483587,2147483579,2147483563]:List Int),0<p) p AZ;have Cr:AM (.lst [.int 48271,.int 69621,.int 16807,.int 39373,.int 40692,.int 742938285,.int 950706376,.int 1343714438]) (.int ((k:Int)%8))=.ok (.int f):=Cr;have BV:AM (.lst [.int 2147483647,.int 2147483629,.int 2147483587,.int 2147483579,.int 2147483563]) (.int ((k:Int)%5))=.ok (.int p):=BV;simp![FV,gx,aat,lim,Cr,BV]
def m3(x:Int)(l:List Int)(AN:l.length=6)(h:∀c∈l,1<=c/\c<=4):∃b:Int,(1<=b/\b<=4)/\AM (.lst (l.map D.int)) (.int (x%6))=.ok (.int b):=by obtain⟨f,hf,e⟩:=ZF l x (n:=6) AN ε;exact⟨f,h f hf,e⟩
def ro(cell:Int):∃cs:ι,(1<=cs.length/\cs.length<=6)/\(∀c∈cs,1<=c/\c<=4)/\Tv [.int cell]=.ok (.o (CN cs)):=by
 suffices h:Ends (Tv [.int cell]) λb=>∃cs:ι,(1<=cs.length/\cs.length<=6)/\(∀c∈cs,1<=c/\c<=4)/\b=.o (CN cs)by
  obtain⟨b,e,cs,A6,AA,rfl⟩:=h;exact⟨cs,A6,AA,e⟩
 have AN:([4,4,4,3,2,2]:List Int).length=6:=rfl;have A0:∀c∈([4,4,4,3,2,2]:List Int),1<=c/\c<=4:=ε
 by_cases ho:cell%2=1
 .obtain⟨m,hm,em⟩:=JV (cell/2%η) (n:=6) ε;obtain⟨b,vE,BS⟩:=m3 (cell/2%η) _ AN A0;have BS:AM (.lst [.int 4,.int 4,.int 4,.int 3,.int 2,.int 2]) (.int (cell/2%η%6))=.ok (.int b):=BS;have SD:(1:Int)+cell/2%η%6=((m+1:Nat):Int):=by have:cell/2%η%6=(m:Int):=em;lia
  have ex:∀k:Nat,∃c:Nat,(1<=c/\c<=4)/\(k<6->∃g:Int,0<g/\g<1073741824/\AM (.lst [.int 1,.int 4,.int 16,.int 64,.int 256,.int 1024]) (.int (k:Int))=.ok (.int g)/\1+cell/2%η/6/g%4%b=(c:Int)):=λk=>by
   by_cases AE:k<6
   .have A_:∃g:Int,0<g/\g<1073741824/\AM (.lst [.int 1,.int 4,.int 16,.int 64,.int 256,.int 1024]) (.int (k:Int))=.ok (.int g):=by
      rcases(by lia:k=0\/k=1\/k=2\/k=3\/k=4\/k=5)with rfl|rfl|rfl|rfl|rfl|rfl
      .exact⟨1,ε,ε,rfl⟩
      .exact⟨4,ε,ε,rfl⟩
      .exact⟨16,ε,ε,rfl⟩
      .exact⟨64,ε,ε,rfl⟩
      .exact⟨256,ε,ε,rfl⟩
      .exact⟨1024,ε,ε,rfl⟩
    obtain⟨g,g1,g2,g3⟩:=A_;have L5:=fW (cell/2%η/6/g%4) (show b≠0 by lia);have Db:=fe (cell/2%η/6/g%4) (show 0<b by lia);exact⟨(1+cell/2%η/6/g%4%b).toNat,δ,λ_=>⟨g,g1,g2,g3,δ⟩⟩
   .exact⟨1,δ,λh=>absurd h AE⟩
  let Mb:Nat->Nat:=λk=>(ex k).choose
  have bf:∀k,1<=Mb k/\Mb k<=4:=λk=>(ex k).choose_spec.1;have bg:∀k:Nat,k<6->∃g:Int,0<g/\g<1073741824/\AM (.lst [.int 1,.int 4,.int 16,.int 64,.int 256,.int 1024]) (.int (k:Int))=.ok (.int g)/\1+cell/2%η/6/g%4%b=(Mb k:Int):=λk=>(ex k).choose_spec.2;simp![Tv,Xu,ho,Zg,BS,SD,lim,-R1,-Du];refine SF (m+1) (λk=>.int (Mb k:Int)) (by simp[SD,show m+1<1000000 by lia,-R1]) δ (λk AE=>?_) ?_
  .obtain⟨g,g1,g2,g3,g4⟩:=bg k δ;simp![g3,g4,lim]
  .simp;refine⟨(EN (m+1)).map Mb,⟨γ,by simp;lia⟩,λc AO=>?_,by simp[CN]⟩;obtain⟨k,_,rfl⟩:=List.mem_map.mp AO;exact bf k
 .obtain⟨y,DK⟩:=MP cell 0 ε;have TK:FV [.int cell,.int 0]=.ok (.v (.int y)):=DK;obtain⟨m,hm,em⟩:=JV y (n:=6) ε;have SD:(1:Int)+y%6=((m+1:Nat):Int):=by have:y%6=(m:Int):=em;lia
  obtain⟨b,vE,BS⟩:=m3 y _ AN A0;have tN:AM (.lst [.int 4,.int 4,.int 4,.int 3,.int 2,.int 2]) (.int (m:Int))=.ok (.int b):=by rw[<-BS];congr 2;have:y%6=(m:Int):=em;lia
  have ex:∀k:Nat,∃c:Nat,(1<=c/\c<=4)/\(k<10->∃z:Int,FV [.int cell,.int (1+(k:Int))]=.ok (.v (.int z))/\1+z%b=(c:Int)):=λk=>by
   by_cases AE:k<10
   .obtain⟨z,SG⟩:=MP cell (1+k) δ;have L5:=fW z (show b≠0 by lia);have Db:=fe z (show 0<b by lia);exact⟨(1+z%b).toNat,δ,λ_=>⟨z,by rw[<-SG];simp,δ⟩⟩
   .exact⟨1,δ,λh=>absurd h AE⟩
  let Mb:Nat->Nat:=λk=>(ex k).choose
  have bf:∀k,1<=Mb k/\Mb k<=4:=λk=>(ex k).choose_spec.1;have bg:∀k:Nat,k<10->∃z:Int,FV [.int cell,.int (1+(k:Int))]=.ok (.v (.int z))/\1+z%b=(Mb k:Int):=λk=>(ex k).choose_spec.2;have L0:((m+1:Nat):Int)-1=(m:Int):=δ
  simp![Tv,Xu,ho,TK,SD,-R1];refine SF (m+1) (λk=>.int (Mb k:Int)) (by simp[show m+1<1000000 by lia,-R1]) δ (λk AE=>?_) ?_
  .obtain⟨z,AH,Au⟩:=bg k δ;simp![AH,Au,L0,tN,lim,-R1]
  .simp;refine⟨(EN (m+1)).map Mb,⟨γ,by simp;lia⟩,λc AO=>?_,by simp[CN]⟩;obtain⟨k,_,rfl⟩:=List.mem_map.mp AO;exact bf k
def bk{cs:ι}(DE:cs.length<=6)(HB:∀c∈cs,1<=c/\c<=4):Rq [.lst (CN cs)]=.ok (.o ((C6 cs cs.length).map AY)):=by
 apply Ends.done;have lcs:(CN cs).length=cs.length:=by simp[CN]
 simp![Rq,gr,lim];refine OS cs.length (λj ρ=>∃s2,ρ=[.A2 (.lst (CN cs)),.Bm ((C6 cs j).map AY),s2]) (by simp[lcs,show cs.length<1000000 by lia]) ⟨.un,by simp[C6]⟩ ?_ ?_
 .rintro j _ Bi ⟨s5,rfl⟩;have Au:AM (.lst (CN cs)) (.int (j:Int))=.ok (.int (cs.getD j 0:Nat)):=IF (Xc Bi);have kg:=bR (λc h=>(HB c h).2) j;simp;refine SF (cs.getD j 0) (λk=>AY (j,k)) (by erw[JF]at Au kg;simp[Au,show cs[j]?.getD 0<1000000 by lia]) δ (λk AE=>by simp[AY]) ?_;have J4:=Nn HB j;erw[JF]at kg |-;simp[show(C6 cs j).length+cs[j]?.getD 0<=1000000 by lia];rw[hO];simp[OP]
 .rintro _ ⟨s5,rfl⟩;simp
@[simp] theorem aiv(m:B1)(ρ:AI):Q4 m ρ=(m (DG ρ)).bind λds=>if Kv ds=true/\Vy ρ=true then .ok ds else .bad:=(rfl)
def tU(ws:List (AT×AT))(w:AT×AT):ends (ws++[w])=ends ws++[w.1,w.2]:=by simp[ends]
def pP(d:D):P8 (.A2 d)=true:=(rfl)
def pQ(d:μ):P8 (.Bm d)=true:=(rfl)
noncomputable def eT:B0:=AS (NY 8 (OH 2 (Ko (A3 D5 (A3 AM (J 7) (A5 (.int 0))) (Bz CE (A1 (J 2) (AF)))))))
    (AS (NY 9 (OH 2 (Ko (A3 D5 (A3 AM (J 7) (A5 (.int 1))) (Bz CE (A1 (J 2) (AF)))))))
    (AS (Gz 3 (C_ (A1 (J 8) (A1 (J 9) (AF)))))
    (BU 6 (A3 DP (J 6) (A5 (.int 2))))))
noncomputable def Ti:B0:=AS (BU 7 (Bo (Q4 (CZ (A1 (Br 2 FV (A1 (J 0) (A1 (J 6) (AF)))) (A1 (Br 2 FV (A1 (J 0) (A1 (A3 DP (J 6) (A5 (.int 1))) (AF)))) (AF)))))))
    (AS (C9 (Ax (A3 (BP true) (A3 D5 (J 0) (A5 (.int 2))) (A5 (.int 1)))) (AS (BU 7 (Bo (Q4 (CZ (A1 (J 4) (A1 (A3 Eb (J 4) (Bz CE (A1 (J 2) (AF)))) (AF)))))))
    (BU 4 (Ko (A3 Eb (A3 Eb (J 4) (Bz CE (A1 (J 2) (AF)))) (A3 SR (Bz CE (A1 (J 2) (AF))) (A5 (.int 1))))))) (CU))
    eT)
def aO:Ck:=EH (Ax (A3 Yb (Bz CE (A1 (J 2) (AF))) (A3 DP (J 5) (A5 (.int 1)))))
noncomputable def MZ(cell:Int)(X:D)(R:List AT)(ws:List (AT×AT))(nm kp:Int)(Ce s8 s9:Bb):AI:=[.A2 (.int cell),.A2 X,.Bm (R.map AY),.Bm (ws.map CO),.A2 (.int nm),.A2 (.int kp),.A2 (.int ((9+2*ws.length:Nat):Int)),Ce,s8,s9]
noncomputable def hH(cell:Int)(X:D)(al:List AT)(kp:Int)(n:Nat)(ρ:AI):Prop:=∃(ws:List (AT×AT))(R:List AT)(nm:Int)(Ce s8 s9:Bb),(ends ws++R).Perm al/\1<=R.length/\n=R.length/\(P8 Ce=true/\P8 s8=true/\P8 s9=true)/\ρ=MZ cell X R ws nm kp Ce s8 s9
def q9{cell:Int}{X:D}{al R:List AT}{ws:List (AT×AT)}{nm kp:Int}{s8 s9:Bb}(pm:(ends ws++R).Perm al)(WJ:3<=R.length)(NV:al.length<=100)(Ak BC:Int) :
  Ends (eT (MZ cell X R ws nm kp (.A2 (.lst [.int Ak,.int BC])) s8 s9)) (IZ λBL=>∃m,m<R.length/\hH cell X al kp m BL):=by
 have J4:(ends ws).length+R.length=al.length:=by have:=pm.length_eq;simpa using this
 rw[Z2]at J4;obtain⟨Cg,cf,tP⟩:=JV Ak (n:=R.length) δ;have ai9:(R.eraseIdx Cg).length=R.length-1:=fA cf;obtain⟨By,Oa,tQ⟩:=JV BC (n:=(R.eraseIdx Cg).length) δ;have z4:((R.eraseIdx Cg).eraseIdx By).length=R.length-2:=by rw[fA Oa];lia
 have DH:AM (.lst [.int Ak,.int BC]) (.int 0)=.ok (.int Ak):=rfl;have Bd:AM (.lst [.int Ak,.int BC]) (.int 1)=.ok (.int BC):=rfl;have g1:=dP AY (i:=2) cf δ;have g2:=dP AY (i:=2) Oa δ;unfold MZ eT;simp![DH,Bd,tP,g1];rw[tQ];simp![g2];refine⟨R.length-2,δ,ws++[(R[Cg],(R.eraseIdx Cg)[By])],(R.eraseIdx Cg).eraseIdx By,nm,_,_,_,?_,δ,z4.symm,⟨rfl,rfl,rfl⟩,by simp[MZ,CO];exact⟨δ,rfl,rfl,rfl⟩⟩;rw[tU,O1];refine List.Perm.trans (List.Perm.append_left _ ?_) pm;exact((bD (R.eraseIdx Cg) By Oa).cons _).trans (bD R Cg cf)
def afV{cell:Int}{X:D}{al R:List AT}{ws:List (AT×AT)}{nm kp:Int}{Ce s8 s9:Bb}(pm:(ends ws++R).Perm al)(WJ:3<=R.length)(NV:al.length<=100)(AJ:P8 Ce=true/\P8 s8=true/\P8 s9=true) :
  Ends (Ti (MZ cell X R ws nm kp Ce s8 s9)) (IZ λBL=>∃m,m<R.length/\hH cell X al kp m BL):=by
 have J4:(ends ws).length+R.length=al.length:=by have:=pm.length_eq;simpa using this
 rw[Z2]at J4;obtain⟨I9,f1⟩:=MP cell (9+2*ws.length) δ;obtain⟨Iq,f2⟩:=MP cell (9+2*ws.length+1) δ;have j3:FV [.int cell,.int (((9+2*ws.length:Nat):Int)+1)]=.ok (.v (.int Iq)):=f2;by_cases ho:cell%2=1
 .have:=q9 (cell:=cell) (X:=X) (nm:=nm/R.length/((R.length:Int)-1)) (kp:=kp) (s8:=s8) (s9:=s9) pm WJ NV nm (nm/R.length);unfold Ti;unfold MZ at this |-;simp![ho,f1,j3,lim,Kv,Ml,Vy,pP,pQ,AJ.1,AJ.2.1,AJ.2.2,-R1];exact this
 .have:=q9 (cell:=cell) (X:=X) (nm:=nm) (kp:=kp) (s8:=s8) (s9:=s9) pm WJ NV I9 Iq;unfold Ti;unfold MZ at this |-;simp![ho,f1,j3,lim,Kv,Ml,Vy,pP,pQ,AJ.1,AJ.2.1,AJ.2.2,-R1];exact this
def afZ(cell:Int)(cs:ι)(A6:1<=cs.length)(DE:cs.length<=6)(HB:∀c∈cs,1<=c/\c<=4):∃ws,Lb cs ws/\(∃d∈C6 cs cs.length,d∉ends ws)/\RL [.int cell,.lst (CN cs)]=.ok (.o (ws.map CO)):=by
 suffices h:Ends (RL [.int cell,.lst (CN cs)]) λb=>∃ws,Lb cs ws/\(∃d∈C6 cs cs.length,d∉ends ws)/\b=.o (ws.map CO)by
  obtain⟨b,e,ws,h,h',rfl⟩:=h;exact⟨ws,h,h',e⟩
 have rL:1<=(C6 cs cs.length).length:=UB (head_mem A6 HB);have ahY:=Nn HB cs.length;have aaT:=hk cs cs.length;have out:=bk DE HB;obtain⟨qE,tG⟩:=MP cell 8 ε;have jT:FV [.int cell,.int 8]=.ok (.v (.int qE)):=tG;have fin:∀(nm kp:Int),1<=kp->Ends ((JS aO Ti (MZ cell (.lst (CN cs)) (C6 cs cs.length) [] nm kp .un .un .un)).bind λf=>(SO (Fn (J5 3)) f).bind outD) λb=>∃ws,Lb cs ws/\(∃d∈C6 cs cs.length,d∉ends ws)/\b=.o (ws.map CO):=λnm kp aiZ=>by
  refine Vc (n:=(C6 cs cs.length).length) (hH cell (.lst (CN cs)) (C6 cs cs.length) kp) ⟨[],_,nm,.un,.un,.un,.refl _,rL,rfl,⟨rfl,rfl,rfl⟩,rfl⟩ δ ?_;rintro n _ ⟨ws,R,nm,Ce,s8,s9,pm,G8,rfl,AJ,rfl⟩;refine⟨decide (kp+1<(R.length:Int)),by simp[aO,MZ],λAj=>afV pm (by have:=of_decide_eq_true Aj;lia) δ AJ,λhf=>?_⟩;simp[MZ];have J4:(ends ws).length+R.length=(C6 cs cs.length).length:=by have:=pm.length_eq;simpa using this
  rw[Z2]at J4;have Cs:(ends ws++R).Nodup:=pm.nodup_iff.mpr aaT;have KB:R[0]∈R:=MC _;exact⟨ws,⟨A6,DE,HB,(List.nodup_append.mp Cs).1,λd hd=>pm.mem_iff.mp (FZ _ hd),δ⟩,⟨R[0].1,R[0].2,pm.mem_iff.mp (Fz _ KB),λz=>(List.nodup_append.mp Cs).2.2 _ z _ KB rfl⟩,rfl⟩
 have ev:∀x:Int,1<=1+x%3/\1<=1+x%24:=λx=>δ
 have BS:gS=AS (EK 2 (Fg 1 Rq (A1 (J 1) (AF))))
  (AS (EK 3 (CZ (AF)))
  (AS (BU 4 (A3 Eb (A3 D5 (A3 Eb (J 0) (A5 (.int 2))) (A3 P2 (A5 (.int 10)) (A5 (.int 60)))) (A5 (.int 24576))))
  (AS (BU 5 (A3 DP (A5 (.int 1)) (A3 D5 (Br 2 FV (A1 (J 0) (A1 (A5 (.int 8)) (AF)))) (A5 (.int 3)))))
  (AS (C9 (Ax (A3 (BP true) (A3 D5 (J 0) (A5 (.int 2))) (A5 (.int 1)))) (AS (BU 5 (A3 DP (A5 (.int 1)) (A3 D5 (J 4) (A5 (.int 24)))))
  (BU 4 (A3 Eb (J 4) (A5 (.int 24))))) (CU))
  (AS (BU 6 (A5 (.int 9)))
  (AS (JS aO Ti) (Fn (J5 3)))))))):=rfl
 have key:∀T:C5->Prop,(∀nm kp:Int,1<=kp->Ends ((JS aO Ti (MZ cell (.lst (CN cs)) (C6 cs cs.length) [] nm kp .un .un .un)).bind λf=>(SO (Fn (J5 3)) f).bind outD) T)->Ends (RL [.int cell,.lst (CN cs)]) T:=λT h=>by
  by_cases ho:cell%2=1
  .have:=h (cell/2%η/24576/24) (1+cell/2%η/24576%24) (ev _).2;simp![RL,BS,out,lim,Zg,jT,ho];exact this
  .have:=h (cell/2%η/24576) (1+qE%3) (ev _).1;simp![RL,BS,out,lim,Zg,jT,ho];exact this
 exact key _ fin
def Nj(c:Nat):Prop:=c=48\/c=49\/c=120
structure MX(x:Str):Prop where
 l:x.cps.toList.length=4
 s:∀c∈x.cps.toList,Nj c
def ad2{c:Nat}(h:Nj c):inD true (GB c) TC=.ok (.AR true):=by rcases h with h|h|h<;>subst h<;>rfl
def len_str(x:Str)(h:x.cps.toList.length<=1000):CE [.str x]=.ok (.int (x.cps.toList.length:Int)):=by
 have e:x.length=x.cps.toList.length:=rfl;have AH:x.length<=1000000:=δ
 rw[<-e];erw[CE,if_pos AH]
def xN(x:Str):Ih "str" (.str x)=.ok (.AR true):=rfl
def af_:CE [S5]=.ok (.int 4):=rfl
def abO{x:Str}(h:MX x):ZK [.str x]=.ok (.v (.AR true)):=by apply Ends.done;have l:=h.l;simp[ZK,gh,xN,len_str x δ,af_,l];refine SE GB x.cps.toList (λ_=>.AR true) γ δ (λc AO=>by simp[ad2 (h.s c AO)]) ?_;have a:=Ub (λ_:Nat=>true) x.cps.toList;erw[a];simp
def r4{x y:Str}(h:x.length+y.length<=1000000):DP (.str x) (.str y)=.ok (.str (x++y)):=if_pos h
def rq(x:Str)(c:Nat):(x++(⟨#[c]⟩:Str)).cps.toList=x.cps.toList++[c]:=by show(x.cps++ #[c]).toList=_;simp
structure Cz where
 p:Str
 a:Option Nat
 b:Option Nat
noncomputable def GA:Option Nat->D
 |none=>.non
 |some k=>.int (k:Int)
noncomputable def E2(r:Cz):D:=.tup [.str r.p,GA r.a,GA r.b]
structure Ry(c:Nat)(r:Cz):Prop where
 p:MX r.p
 b:∀k,r.b=some k->k<c
noncomputable def DB(b:List Cz):D:=.lst (b.map E2)
def MT(c:Nat)(b:List Cz):Prop:=b.length<=12/\∀r∈b,Ry c r
def kB{cs:ι}(h:∀c∈cs,1<=c/\c<=4){k:Nat}(AE:k<cs.length):1<=cs.getD k 0/\cs.getD k 0<=4:=by have:=h (cs[k]) (MC _);simpa[AE]using this
def oH{I:AI->Prop}{x:Str}{c j:Nat}(AN:x.cps.toList.length=j)(AJ:∀c∈x.cps.toList,Nj c)(AO:Nj c)(Bi:j<4):DP (.str x) (.str ⟨#[c]⟩)=.ok (.str (x++(⟨#[c]⟩:Str)))/\(x++(⟨#[c]⟩:Str)).cps.toList.length=j+1/\∀d∈(x++(⟨#[c]⟩:Str)).cps.toList,Nj d:=by
 have za:x.length+(⟨#[c]⟩:Str).length<=1000000:=by
  have A6:x.length=x.cps.toList.length:=rfl;have AA:(⟨#[c]⟩:Str).length=1:=rfl
  lia
 have ca:=rq x c;refine⟨r4 za,by rw[ca];erw[JK,AN,H4,LP],λd hd=>?_⟩;rw[ca]at hd;rcases List.mem_append.mp hd with h|h
 .exact AJ d h
 .rw[List.mem_singleton.mp h];exact AO
def abD(y:Int):∃c,Nj c/\AM (.lst [.str (B_ "x"),.str (B_ "x"),.str (B_ "0"),.str (B_ "1"),.str (B_ "x")]) (.int (y%5))=.ok (.str ⟨#[c]⟩):=by
 have h:y%5=0\/y%5=1\/y%5=2\/y%5=3\/y%5=4:=δ
 rcases h with h|h|h|h|h<;>rw[h]
 .exact⟨120,.inr (.inr rfl),rfl⟩
 .exact⟨120,.inr (.inr rfl),rfl⟩
 .exact⟨48,.inl rfl,rfl⟩
 .exact⟨49,.inr (.inl rfl),rfl⟩
 .exact⟨120,.inr (.inr rfl),rfl⟩
def abC(y:Int):∃c,Nj c/\AM (.str (B_ "01x")) (.int (y%3))=.ok (.str ⟨#[c]⟩):=by
 have h:y%3=0\/y%3=1\/y%3=2:=δ
 rcases h with h|h|h<;>rw[h]
 .exact⟨48,.inl rfl,rfl⟩
 .exact⟨49,.inr (.inl rfl),rfl⟩
 .exact⟨120,.inr (.inr rfl),rfl⟩
def Z_:(B_ "").cps.toList.length=0/\∀c∈(B_ "").cps.toList,Nj c:=⟨ε,λc h=>nomatch (show c∈([]:ι)from h)⟩
def acD(cell:Int)(k:Nat)(AE:k<900)(c:Nat)(AO:1<=c)(vG:c<=4):∃r,Ry c r/\OK [.int cell,.int k,.int (c:Int)]=.ok (.v (E2 r)):=by
 suffices h:Ends (OK [.int cell,.int k,.int (c:Int)]) λb=>∃r,Ry c r/\b=.v (E2 r)by
  obtain⟨b,e,p,h,rfl⟩:=h;exact⟨p,h,e⟩
 obtain⟨y,DK⟩:=MP cell k δ;have key:∀T:C5->Prop,(∀(r:Cz),Ry c r->T (.v (E2 r)))->Ends (OK [.int cell,.int k,.int (c:Int)]) T:=λT CM=>by
  simp![OK,gP,DK];refine OS 4 (λj ρ=>∃(z:Int)(x:Str)(s5:Bb),x.cps.toList.length=j/\(∀c∈x.cps.toList,Nj c)/\ρ=[.A2 (.int cell),.A2 (.int k),.A2 (.int c),.A2 (.int z),.A2 (.str x),s5,.un,.un]) (by simp;exact SM 4 ε) ⟨y,B_ "",.un,Z_.1,Z_.2,rfl⟩ ?_ ?_
  .rintro j _ Bi ⟨z,x,s2,AN,AJ,rfl⟩;obtain⟨d,hd,e⟩:=abD z;obtain⟨A9,AH,Au⟩:=oH (I:=λ_=>True) AN AJ hd Bi;simp![e,A9,lim];exact⟨_,_,(AH:),(Au:),rfl,rfl⟩
  .rintro _ ⟨z,x,s5,AN,AJ,rfl⟩;obtain⟨Ak,aic,eq1⟩:=JV (z/3) (n:=c) δ;obtain⟨BC,Rd,eq2⟩:=JV (z/20) (n:=c) δ;by_cases Ao:z%3=0<;>by_cases vv:z/100%9=0<;>simp![Ao,vv,eq1,eq2]
   .exact CM ⟨x,some Ak,none⟩ ⟨⟨AN,AJ⟩,λ_ h=>nomatch h⟩
   .exact CM ⟨x,some Ak,some BC⟩ ⟨⟨AN,AJ⟩,λk h=>by cases h;exact Rd⟩
   .exact CM ⟨x,none,none⟩ ⟨⟨AN,AJ⟩,λ_ h=>nomatch h⟩
   .exact CM ⟨x,none,some BC⟩ ⟨⟨AN,AJ⟩,λk h=>by cases h;exact Rd⟩
 exact key _ λr B5=>⟨r,B5,rfl⟩
def choice(c:Nat)(y:Int):∃o:Option Nat,(∀k,o=some k->k<c)/\AM (.lst (D.non::Fh 0 c)) (.int (y%((c:Int)+1)))=.ok (GA o):=by
 obtain⟨k,AE,e⟩:=JV y (n:=c+1) δ;have e:y%((c:Int)+1)=(k:Int):=by rw[<-e];simp
 rw[e];cases k with
 |zero=>exact⟨none,(λ_ h=>nomatch h),IF rfl⟩
 |succ k=>exact⟨some k,(λj h=>by cases h;lia),IF (by simp[Fh,GA,UO (show k<c by lia)])⟩
def ve(y:Int)(c:Nat)(AO:1<=c)(vG:c<=4):∃b,MT c b/\Rr [.int y,.int (c:Int)]=.ok (.o (b.map E2)):=by
 suffices h:Ends (Rr [.int y,.int (c:Int)]) λt=>∃b,MT c b/\t=.o (b.map E2)by
  obtain⟨t,e,p,h,rfl⟩:=h;exact⟨p,h,e⟩
 have key:∀T:C5->Prop,(∀b,MT c b->T (.o (b.map E2)))->Ends (Rr [.int y,.int (c:Int)]) T:=λT CM=>by
  obtain⟨m,hm,em⟩:=JV y (n:=13) ε;have em:y%13=(m:Int):=em;simp![Rr,gu,lim,em];refine OS m (λj ρ=>∃(z:Int)(b:List Cz)(s5 Gg Ce:Bb),b.length=j/\(∀r∈b,Ry c r)/\ρ=[.A2 (.int z),.A2 (.int c),.Bm (b.map E2),.A2 (.int m),.A2 (.lst (D.non::Fh 0 c)),s5,Gg,Ce]) (by simp;exact SM m δ) ⟨y/13,[],.un,.un,.un,rfl,(λ_ h=>nomatch h),rfl⟩ ?_ ?_
  .rintro j _ Bi ⟨z,b,s5,Gg,Ce,AN,A0,rfl⟩;simp;refine OS 4 (λj ρ=>∃(z:Int)(x:Str)(s5 Ce:Bb),x.cps.toList.length=j/\(∀c∈x.cps.toList,Nj c)/\ρ=[.A2 (.int z),.A2 (.int c),.Bm (b.map E2),.A2 (.int m),.A2 (.lst (D.non::Fh 0 c)),s5,.A2 (.str x),Ce]) (by simp;exact SM 4 ε) ⟨z,B_ "",_,_,Z_.1,Z_.2,rfl⟩ ?_ ?_
   .rintro j _ Bi ⟨z,x,s5,Ce,AN,AJ,rfl⟩;obtain⟨d,hd,e⟩:=abC z;obtain⟨A9,AH,Au⟩:=oH (I:=λ_=>True) AN AJ hd Bi;simp![e,A9];exact⟨_,_,(AH:),(Au:),rfl,rfl⟩
   .rintro _ ⟨z,x,s5,Ce,LL,AJ,rfl⟩;obtain⟨D0,A6,Bd⟩:=choice c z;obtain⟨D3,AA,C1⟩:=choice c (z/((c:Int)+1));simp![Bd,C1];refine⟨_,b++[⟨x,D0,D3⟩],by simp[AN],λr B5=>?_,rfl,by simp[E2]⟩;rcases List.mem_append.mp B5 with h|h
    .exact A0 r h
    .rw[List.mem_singleton.mp h];exact⟨⟨LL,AJ⟩,AA⟩
  .rintro _ ⟨z,b,s5,Gg,Ce,AN,A0,rfl⟩;simp;exact CM b ⟨δ,A0⟩
 exact key _ λb A0=>⟨b,A0,rfl⟩
def ne_nil{l:μ}(h:l.all (okN 7)=true):BP false (.lst l) (.lst [])=.ok (.AR (!l.isEmpty)):=by unfold BP;have:okN 8 (.lst l)=true:=h;cases l<;>simp_all[okN,Ci,Dv]
def U3(zs:List Int):(zs.map D.int).all (okN 7)=true:=by simp[okN]
structure Gk(cs:ι)(bs:List (List Cz)):Prop where
 l:bs.length=cs.length
 b:∀(i:Nat) b,bs[i]?=some b->MT (cs.getD i 0) b
noncomputable def g_:B0:=AS (BU 5 (A3 DP (J 5) (A3 Ks (A5 (.int 3)) (J 4))))
    (AS (BU 6 (A3 AM (Bo (CZ (A1 (A5 (.int 1)) (A1 (A5 (.int 2)) (A1 (A5 (.int 3)) (A1 (A5 (.int 0)) (A1 (A5 (.int 2)) (A1 (A5 (.int 4)) (A1 (A5 (.int 12)) (AF)))))))))) (A3 D5 (Br 2 FV (A1 (J 5) (A1 (A5 (.int 3)) (AF)))) (A5 (.int 7)))))
    (Gz 3 (Bo (E3 1 [5,1,4,2] (FL (A1 (J 6) (AF))) (BK 0) (FM) (Br 3 OK (A1 (J 1) (A1 (A3 DP (A3 DP (A5 (.int 4)) (J 4)) (A3 Ks (A5 (.int 3)) (J 0))) (A1 (A3 AM (J 2) (J 3)) (AF)))))))))
noncomputable def RB(Z:D)(cs:ι)(Hv:Nat)(bs:List (List Cz))(s4 s5 Gg:Bb):AI:=[.A2 Z,.A2 (.lst (CN cs)),.A2 (.int (Hv:Int)),.Bm (bs.map DB),s4,s5,Gg]
def hU(Z:D)(cs:ι)(Hv:Nat)(j:Nat)(ρ:AI):Prop:=∃(bs:List (List Cz))(s4 s5 Gg:Bb),bs.length=j/\(∀(i:Nat) b,bs[i]?=some b->MT (cs.getD i 0) b)/\ρ=RB Z cs Hv bs s4 s5 Gg
def lZ{cs:ι}{bs:List (List Cz)}{b:List Cz}(A0:∀(i:Nat) b,bs[i]?=some b->MT (cs.getD i 0) b)(b2:MT (cs.getD bs.length 0) b):∀(i:Nat) x,(bs++[b])[i]?=some x->MT (cs.getD i 0) x:=λi x e=>by
 by_cases AC:i<bs.length
 .rw[IS AC]at e;exact A0 i x e
 .rw[Nx δ]at e;have z:i-bs.length=0:=by
   have:=(List.getElem?_eq_some_iff.mp e).1;simpa using this
  rw[z]at e;simp at e;subst e;rw[show i=bs.length by lia];exact b2
def ry{Z:D}{cs:ι}(HB:∀c∈cs,1<=c/\c<=4)(DE:cs.length<=6){Hv:Nat}(YO:Hv<=1){bs:List (List Cz)}(Bi:bs.length<cs.length)(A0:∀(i:Nat) b,bs[i]?=some b->MT (cs.getD i 0) b)(cell:Int)(Gg:Bb):Ends (g_ (RB Z cs Hv bs (.A2 (.int (bs.length:Int))) (.A2 (.int cell)) Gg)) (IZ (hU Z cs Hv (bs.length+1))):=by
 have Au:AM (.lst (CN cs)) (.int (bs.length:Int))=.ok (.int (cs.getD bs.length 0:Nat)):=IF (Xc Bi);obtain⟨BW,Js⟩:=kB HB Bi;have put:=λb=>lZ (cs:=cs) (bs:=bs) (b:=b) A0;generalize cs.getD bs.length 0=c at Au BW Js put;obtain⟨y,DK⟩:=MP (cell+3*(bs.length:Int)) 3 ε;have TK:FV [.int (cell+3*(bs.length:Int)),.int 3]=.ok (.v (.int y)):=DK;obtain⟨m,hm,em⟩:∃m:Nat,m<=12/\AM (.lst [.int 1,.int 2,.int 3,.int 0,.int 2,.int 4,.int 12]) (.int (y%7))=.ok (.int (m:Int)):=by obtain⟨f,hf,Cr⟩:=ZF [1,2,3,0,2,4,12] y (n:=7) rfl ε;have f0:=(by decide:∀f∈([1,2,3,0,2,4,12]:List Int),0<=f/\f<=12) f hf;exact⟨f.toNat,δ,by rw[show((f.toNat:Nat):Int)=f by lia];exact Cr⟩
 have ex:∀k:Nat,∃r:Cz,k<13->Ry (c) r/\OK [.int (cell+3*(bs.length:Int)),.int (4+(Hv:Int)+3*(k:Int)),.int (c:Nat)]=.ok (.v (E2 r)):=λk=>by
  by_cases AE:k<13
  .obtain⟨r,B5,CR⟩:=acD (cell+3*(bs.length:Int)) (4+Hv+3*k) δ (c) BW Js;exact⟨r,λ_=>⟨B5,by rw[<-CR];simp⟩⟩
  .exact⟨⟨B_ "",none,none⟩,λh=>absurd h AE⟩
 let ab:Nat->Cz:=λk=>(ex k).choose
 have nY:∀k,k<13->Ry (c) (ab k)/\OK [.int (cell+3*(bs.length:Int)),.int (4+(Hv:Int)+3*(k:Int)),.int (c:Nat)]=.ok (.v (E2 (ab k))):=λk=>(ex k).choose_spec;unfold g_ RB;simp![lim,TK,em];refine SF m (λk=>E2 (ab k)) (by simp[show m<1000000 by lia]) δ (λk AE=>?_) ?_
 .have:=(nY k δ).2;simp![Au,this]
 .simp(disch:=first|lia|(simp;done)|(simp;lia));exact⟨bs++[(EN m).map ab],_,_,_,γ,put _ ⟨by simp;lia,λr B5=>by obtain⟨k,AE,rfl⟩:=List.mem_map.mp B5;exact(nY k (by have:=List.mem_range.mp AE;lia)).1⟩,by simp[RB,DB];exact⟨rfl,rfl,rfl⟩⟩
def hW(zs:List Int)(Hv:Nat)(YO:Hv<=1)(cs:ι)(A6:1<=cs.length)(DE:cs.length<=6)(HB:∀c∈cs,1<=c/\c<=4):∃bs,Gk cs bs/\Qh [.lst (zs.map D.int),.lst (CN cs),.int (Hv:Int)]=.ok (.o (bs.map DB)):=by
 suffices h:Ends (Qh [.lst (zs.map D.int),.lst (CN cs),.int (Hv:Int)]) λb=>∃bs,Gk cs bs/\b=.o (bs.map DB)by
  obtain⟨b,e,bs,h,rfl⟩:=h;exact⟨bs,h,e⟩
 have lcs:(CN cs).length=cs.length:=by simp[CN]
 have ne:=ne_nil (U3 zs)
 have BS:gp=AS (EK 3 (CZ (AF)))
  (AS (Dq (FL (A1 (Bz CE (A1 (J 1) (AF))) (AF))) (BK 4) (AS (BU 5 (A3 DP (A3 DP (A5 (.int 17)) (A3 Ks (A5 (.int 5)) (J 4))) (J 2)))
  (AS (C9 (Ax (A3 (BP false) (J 0) (Bo (CZ (AF))))) (BU 5 (A3 AM (J 0) (A3 D5 (A3 DP (J 4) (J 2)) (Bz CE (A1 (J 0) (AF)))))) (CU))
  (C9 (IH (Ax (A3 (BP false) (J 0) (Bo (CZ (AF))))) (Ax (A3 (BP true) (A3 D5 (J 5) (A5 (.int 2))) (A5 (.int 1))))) (Gz 3 (Bo (Fg 2 Rr (A1 (A3 D5 (A3 Eb (J 5) (A5 (.int 2))) (A3 P2 (A5 (.int 10)) (A5 (.int 60)))) (A1 (A3 AM (J 1) (J 4)) (AF)))))) g_))))
  (Fn (J5 3))):=rfl
 erw[Qh,BS];simp[lim];refine OS cs.length (hU (.lst (zs.map D.int)) cs Hv) (by simp[lcs,show cs.length<1000000 by lia]) ⟨[],.un,.un,.un,rfl,(λi b e=>by simp at e),rfl⟩ ?_ ?_
 .rintro j _ Bi ⟨bs,s4,s5,Gg,rfl,A0,rfl⟩;have Au:AM (.lst (CN cs)) (.int (bs.length:Int))=.ok (.int (cs.getD bs.length 0:Nat)):=IF (Xc Bi);obtain⟨BW,Js⟩:=kB HB Bi;have put:=λb=>lZ (cs:=cs) (bs:=bs) (b:=b) A0;have tail:=λcell=>ry (Z:=.lst (zs.map D.int)) HB DE YO Bi A0 cell Gg;generalize cs.getD bs.length 0=c at Au BW Js put;unfold RB at tail |-;cases zs with
  |nil=>erw[O5]at ne tail |-;have ne:BP false (.lst []) (.lst [])=.ok (.AR false):=ne;simp![lim,ne];exact tail _
  |cons z zs=>
   have ne:BP false (.lst ((z::zs).map D.int)) (.lst [])=.ok (.AR true):=ne;obtain⟨k,AE,DD⟩:=JV ((bs.length:Int)+(Hv:Int)) (n:=(z::zs).length) γ;have TH:((bs.length:Int)+(Hv:Int))%(((z::zs).map D.int).length:Int)=(k:Int):=by rw[GN];exact DD
   have M5:AM (.lst ((z::zs).map D.int)) (.int (k:Int))=.ok (.int (z::zs)[k]):=IF (by rw[EC,Dt AE];rfl);generalize(z::zs)[k]=cell at M5;generalize(z::zs).map D.int=Z at ne TH M5 tail;have ahc:0<(Z.length:Int):=by
    cases Z with
    |nil=>cases ne
    |cons _ _=>simp
   by_cases ho:cell%2=1
   .obtain⟨b,b2,Cr⟩:=ve (cell/2%η) c BW Js;simp![lim,ne,TH,M5,ho,Zg,Au,Cr];exact⟨bs++[b],_,_,_,γ,put _ b2,by simp[RB,DB];exact⟨rfl,rfl,rfl⟩⟩
   .simp![lim,ne,TH,M5,ho];exact tail _
 .rintro _ ⟨bs,s4,s5,Gg,AN,A0,rfl⟩;simp[RB];exact⟨bs,⟨AN,A0⟩,rfl⟩
def rx(ns:List Int)(cs:ι)(A6:1<=cs.length)(DE:cs.length<=6)(HB:∀c∈cs,1<=c/\c<=4):∃os nw,Gk cs os/\Gk cs nw/\Tu [.D1 (ns.map D.int),.lst (CN cs)]=.ok (.v (.tup [.lst (os.map DB),.lst (nw.map DB)])):=by
 suffices h:Ends (Tu [.D1 (ns.map D.int),.lst (CN cs)]) λb=>∃os nw,Gk cs os/\Gk cs nw/\b=.v (.tup [.lst (os.map DB),.lst (nw.map DB)])by
  obtain⟨b,e,os,nw,h,h',rfl⟩:=h;exact⟨os,nw,h,h',e⟩
 have lcs:(CN cs).length=cs.length:=by simp[CN]
 obtain⟨os,P0,A9⟩:=hW (Ed ns (some 2) (some 9)) 0 ε cs A6 DE HB;obtain⟨nw,dv,AH⟩:=hW (Ed ns (some 9) (some 16)) 1 ε cs A6 DE HB;have Ee:Qh [.lst (Ed (ns.map D.int) (some 2) (some 9)),.lst (CN cs),.int 0]=.ok (.o (os.map DB)):=by rw[Y3];exact A9
 have LG:Qh [.lst (Ed (ns.map D.int) (some 9) (some 16)),.lst (CN cs),.int 1]=.ok (.o (nw.map DB)):=by rw[Y3];exact AH
 obtain⟨BW,tO⟩:=Xa ns 1;have ij:M8 [.D1 (ns.map D.int),.int 1]=.ok (.v (.int BW)):=tO;have key:∀T:C5->Prop,(∀nw,Gk cs nw->T (.v (.tup [.lst (os.map DB),.lst (nw.map DB)])))->Ends (Tu [.D1 (ns.map D.int),.lst (CN cs)]) T:=λT CM=>by
  simp![Tu,gq,Ee,LG];refine OS cs.length (λj ρ=>∃(nw:List (List Cz))(s4:Bb),Gk cs nw/\ρ=[.A2 (.D1 (ns.map D.int)),.A2 (.lst (CN cs)),.A2 (.lst (os.map DB)),.Bm (nw.map DB),s4]) (by simp[lcs,show cs.length<1000000 by lia]) ⟨nw,.un,dv,rfl⟩ ?_ ?_
  .rintro j _ Bi ⟨nw,s4,ok,rfl⟩;obtain⟨y,DK⟩:=MP BW j δ;have lo:=P0.l;have ln:=ok.l;have M5:AM (.lst (os.map DB)) (.int (j:Int))=.ok (DB os[j]):=IF (by simp[show j<os.length by lia]);by_cases BG:y%4=0
   .simp![ij,DK,BG,M5,OG,DB];rw[acR (by simp;lia)];simp;refine⟨nw.set j os[j],⟨by simp[ln],λi b e=>?_⟩,by simp[List.map_set,DB]⟩;rw[fi]at e
    split at e
    .rename_i VC;subst VC;rw[if_pos δ]at e;cases e;exact P0.b j _ (Dt _)
    .exact ok.b i b e
   .simp![ij,DK,BG];exact⟨nw,ok,rfl⟩
  .rintro _ ⟨nw,s4,ok,rfl⟩;simp![JR];exact CM nw ok
 exact key _ λnw h=>⟨os,nw,P0,h,rfl⟩
def r9(ns:List Int):∃cs ws os nw,Lb cs ws/\(∃d∈C6 cs cs.length,d∉ends ws)/\Gk cs os/\Gk cs nw/\Tt [.D1 (ns.map D.int)]=.ok (.v (.tup [.lst (CN cs),.lst (ws.map CO),.lst (os.map DB),.lst (nw.map DB)])):=by obtain⟨OO,DJ⟩:=Xa ns 0;obtain⟨BW,A9⟩:=Xa ns 1;have tD:M8 [.D1 (ns.map D.int),.int 0]=.ok (.v (.int OO)):=DJ;have Ee:M8 [.D1 (ns.map D.int),.int 1]=.ok (.v (.int BW)):=A9;obtain⟨cs,⟨A6,DE⟩,HB,ec⟩:=ro OO;obtain⟨ws,EO,ex,IA⟩:=afZ OO cs A6 DE HB;obtain⟨os,nw,P0,dv,BS⟩:=rx ns cs A6 DE HB;refine⟨cs,ws,os,nw,EO,ex,P0,dv,?_⟩;simp![Tt,gm,tD,ec,IA,BS,M7]
@[simp] theorem aiy(m n:Ae)(ρ:AI):WP m n ρ=(m ρ).bind λd=>match d with
  |.An ks ds=>(n ρ).bind λk=>match Ik k with
   |some BY=>.ok ((findD ks ds BY).getD .non)
   |none=>.bad
  |_=>.bad:=(rfl)
def r5(i:Int):ZJ [.int i]=.ok (.v (.AR (decide (0<=i)&&decide (i<=15)))):=by simp[ZJ,gf,eU,VR]
noncomputable def ON(a w:Nat):Nat:=48+a/w%2
noncomputable def NJ(p:Str)(a:Nat):Bool:=(p.cps.toList.zip [8,4,2,1]).all λq=>decide (q.1=120\/q.1=ON a q.2)
def aeN(b:Nat)(h:b=0\/b=1):Te [.int (b:Int)]=.ok (.str ⟨#[48+b]⟩):=by rcases h with rfl|rfl<;>rfl
def sign_eq(c d:Nat):Ci (.str ⟨#[d]⟩) (GB c)=decide (c=d):=by show Ci (.str ⟨#[d]⟩) (.str ⟨#[c]⟩)=_;erw[Ci];rw[JI,beq_iff_eq,decide_eq_true_iff];simp;exact eq_comm
def aeO:B_ "x"=⟨#[120]⟩:=ε
def xr(c d:Nat):inD true (GB c) (.tup [.str (B_ "x"),.str ⟨#[d]⟩])=.ok (.AR (decide (c=120\/c=d))):=by have o:okN 7 (GB c)=true:=rfl;have D0:okN 7 (.str (B_ "x"))=true:=rfl;have D3:okN 7 (.str ⟨#[d]⟩)=true:=rfl;have s:QK (.tup [.str (B_ "x"),.str ⟨#[d]⟩])=some [.str (B_ "x"),.str ⟨#[d]⟩]:=rfl;erw[inD,s,o,D0,D3,PP,List.all_nil,Sf,and_self,if_true,Ny,List.any_nil,Bool.or_false];rw[aeO,sign_eq,sign_eq];simp
def vZ{p:Str}(AZ:MX p){a:Nat}(AD:a<16):Ts [.str p,.int (a:Int)]=.ok (.v (.AR (NJ p a))):=by
 apply Ends.done;have l:=AZ.l;simp[Ts,gd,abO AZ,r5,show(a:Int)<=15 by lia];refine tS (λq:Nat×Nat=>GB q.1) (λq=>.int (q.2:Int)) (p.cps.toList.zip [8,4,2,1]) (λq=>.AR (decide (q.1=120\/q.1=ON a q.2))) ?_ (by simp;lia) (λq AV=>?_) ?_
 .show R.ok (S_ p.cps.toList [.int 8,.int 4,.int 2,.int 1])=_;unfold S_;rw[show([.int 8,.int 4,.int 2,.int 1]:μ)=([8,4,2,1]:ι).map λ(n:Nat)=>D.int (n:Int)from rfl,List.zip_map_right,IU];rfl
 .have hw:q.2=8\/q.2=4\/q.2=2\/q.2=1:=by
    have:=(XA (show(q.1,q.2)∈_ from AV)).2;simpa using this
  have L0:Te [.int ((a:Int)/(q.2:Int)%2)]=.ok (.str ⟨#[48+a/q.2%2]⟩):=by have:=aeN (a/q.2%2) δ;rw[<-this];simp
  simp![L0,xr,ON];rw[JI];simp;exact decide_eq_true_iff.symm
 .have al:=Ub (λq:Nat×Nat=>decide (q.1=120\/q.1=ON a q.2)) (p.cps.toList.zip [8,4,2,1]);erw[al];simp[NJ]
noncomputable def mt(d a:Nat)(r:Cz):Bool:=(r.a.isNone||r.a==some d)&&NJ r.p a
def l5(o:Option Nat):K1 (GA o)=o.isNone:=by cases o<;>rfl
def iz(o:Option Nat)(d:Nat):BP true (GA o) (.int (d:Int))=.ok (.AR (o==some d)):=by
 cases o with
 |none=>rfl
 |some k=>
  show R.ok (D.AR ((k:Int)==(d:Int)))=_
  congr 2
  rw[JI];simp
  lia
def adm(mi:B1)(set:D->AI->R AI)(body:B0)(ρ:AI):Dq mi set body ρ=(mi ρ).bind λds=>Jv set body ds ρ:=(rfl)
noncomputable def Jb(d a:Nat):Nat->List Cz->Option Nat
 |_,[]=>none
 |i,r::rs=>if mt d a r=true then some i else Jb d a (i+1) rs
theorem pJ{d a:Nat}(AD:a<16):∀(rs:List Cz)(i:Nat)(s0 s3 s4:Bb),(∀r∈rs,MX r.p)->
  Ends ((Jv (FO [BK 3,BK 4]) (C9 (IH (II (Ax (A3 (GW true) (A3 AM (J 4) (A5 (.int 1))) (A5 .non))) (Ax (A3 (BP true) (A3 AM (J 4) (A5 (.int 1))) (J 1)))) (Ax (Br 2 Ts (A1 (A3 AM (J 4) (A5 (.int 0))) (A1 (J 2) (AF)))))) (CV (J 3)) (CU)) ((rs.zipIdx i).map λp=>.tup [.int (p.2:Int),E2 p.1]) [s0,.A2 (.int (d:Int)),.A2 (.int (a:Int)),s3,s4]).bind (SO (CV (A5 .non)))) (· =.EP (GA (Jb d a i rs)))
 |[],i,s0,s3,s4,_=>by simp[Jb,GA]
 |r::rs,i,s0,s3,s4,h=>by
  have DH:AM (E2 r) (.int 0)=.ok (.str r.p):=rfl;have Bd:AM (E2 r) (.int 1)=.ok (GA r.a):=rfl;have Bh:=pJ (d:=d) AD rs (i+1) s0 (.A2 (.int (i:Int))) (.A2 (E2 r)) λx AG=>h x (Fk _ AG);have f:=vZ (h r Mt) AD;have bd:(C9 (IH (II (Ax (A3 (GW true) (A3 AM (J 4) (A5 (.int 1))) (A5 .non))) (Ax (A3 (BP true) (A3 AM (J 4) (A5 (.int 1))) (J 1)))) (Ax (Br 2 Ts (A1 (A3 AM (J 4) (A5 (.int 0))) (A1 (J 2) (AF)))))) (CV (J 3)) (CU)) [s0,.A2 (.int (d:Int)),.A2 (.int (a:Int)),.A2 (.int (i:Int)),.A2 (E2 r)]=if mt d a r=true then .ok (.EP (.int (i:Int)))else .ok (.B6 [s0,.A2 (.int (d:Int)),.A2 (.int (a:Int)),.A2 (.int (i:Int)),.A2 (E2 r)]):=by unfold mt;have Ak:=l5 r.a;have BC:=iz r.a d;generalize r.a.isNone=FU at Ak |-;generalize(r.a==some d)=G3 at BC |-;generalize NJ r.p a=Xn at f |-;cases FU<;>cases G3<;>cases Xn<;>simp[DH,Bd,Ak,BC,f]
  rw[Qs,Du,Jv];erw[acv,adk,acu,adv,H4,LP,BX];erw[show(3:Nat)<0+1+1+1+1+1 by decide,if_true,BX,List.set_cons_succ,List.set_cons_zero,H4,LP,show(4:Nat)<0+1+1+1+1+1 by decide,bd];cases hm:mt d a r with
  |true=>simp[Jb,hm,GA]
  |false=>erw[Hg,if_false,BX,Jb,hm];exact Bh
def aeh{b:List Cz}(A0:∀r∈b,MX r.p)(d a:Nat)(AD:a<16):ZN [DB b,.int (d:Int),.int (a:Int)]=.ok (.v (GA (Jb d a 0 b))):=by apply Ends.done;have e:TJ [DB b]=.ok (b.zipIdx.map λp=>.tup [.int (p.2:Int),E2 p.1]):=sx E2 b;have k:=pJ (d:=d) AD b 0 (.A2 (DB b)) .un .un A0;obtain⟨f,hf,rfl⟩:=k;erw[ZN,eK,bU,ED,adm,adn,Gi,v_var,Ka];have z:a_ (HX 5 [DB b,.int (d:Int),.int (a:Int)])[0]?=.ok (DB b):=rfl;erw[z,BX,e];have Dj:HX 5 [DB b,.int (d:Int),.int (a:Int)]=[.A2 (DB b),.A2 (.int (d:Int)),.A2 (.int (a:Int)),.un,.un]:=rfl;rw[Dj,hf];simp
noncomputable def D_(cs:ι)(ws:List (AT×AT)):D:=.ins "Net" ["many","counts","joined","far"] [.int (cs.length:Nat),.tup (CN cs),.tup (ws.map CO),.An (F9 ws) (FB ws)]
def st(s:String):D:=.str (B_ s)
inductive On where
 |drop|out (o:Nat)|to (e:AT)
noncomputable def pairsOf(ws:List (AT×AT)):List (AT×AT):=ws.flatMap λw=>[(w.1,w.2),(w.2,w.1)]
noncomputable def Ic(ws:List (AT×AT))(d:AT):Option AT:=((pairsOf ws).find? λp=>decide (p.1=d)).map (·.2)
theorem qG:∀ws:List (AT×AT),(F9 ws).zip (FB ws)=(pairsOf ws).map λp=>(IG p.1,AY p.2)
 |[]=>rfl
 |w::ws=>by
  have Bh:=qG ws;have A9:F9 (w::ws)=IG w.1::IG w.2::F9 ws:=by simp[F9,ends]
  have AH:FB (w::ws)=AY w.2::AY w.1::FB ws:=by simp[FB]
  have Au:pairsOf (w::ws)=(w.1,w.2)::(w.2,w.1)::pairsOf ws:=by simp[pairsOf]
  rw[A9,AH,Au,K5,K5,Bh];rfl
def u3(Ai:List (AT×AT))(d:AT):((Ai.map λp=>(IG p.1,AY p.2)).find? λp=>decide (p.1=IG d))=(Ai.find? λp=>decide (p.1=d)).map λp=>(IG p.1,AY p.2):=by
 induction Ai with
 |nil=>rfl
 |cons p Ai Bh=>
  rw[Du,IV,IV];by_cases h:p.1=d
  .simp[h]
  .have:IG p.1≠IG d:=λz=>h (cG z);simp[h,this,Bh]
def u1(ws:List (AT×AT))(d:AT):findD (F9 ws) (FB ws) (IG d)=(Ic ws d).map AY:=by unfold findD Ic;rw[qG,u3,Option.map_map,Option.map_map];rfl
def sm{ws:List (AT×AT)}{d e:AT}(h:Ic ws d=some e):e∈ends ws:=by
 unfold Ic at h;obtain⟨p,AZ,rfl⟩:=Option.map_eq_some_iff.mp h;have hm:=qk AZ;unfold pairsOf at hm;obtain⟨w,hw,Aq⟩:=List.mem_flatMap.mp hm;have VB:∀x,x=w.1\/x=w.2->x∈ends ws:=λx AG=>List.mem_flatten.mpr ⟨[w.1,w.2],List.mem_map.mpr ⟨w,hw,rfl⟩,(AG:)⟩;erw[LX,LN,or_false]at Aq;rcases Aq with rfl|rfl
 .exact VB _ (.inr rfl)
 .exact VB _ (.inl rfl)
noncomputable def CI(h:Nat):On->D
 |.drop=>.tup [st "drop",.int (h:Int)]
 |.out o=>.tup [st "out",.int (h:Int),.int (o:Int)]
 |.to e=>.tup [st "at",.int (e.1:Int),.int (e.2:Int)]
noncomputable def B6(ws:List (AT×AT))(b:List Cz)(h d a:Nat):On:=match Jb d a 0 b with
 |none=>.drop
 |some i=>match(b[i]?).bind (·.b)with
  |none=>.drop
  |some o=>match Ic ws (h,o)with
   |none=>.out o
   |some e=>.to e
theorem pH{d a:Nat}:∀(rs:List Cz)(i k:Nat),Jb d a i rs=some k->i<=k/\k<i+rs.length
 |[],_,_,h=>by simp[Jb]at h
 |r::rs,i,k,h=>by
  erw[Jb]at h
  split at h
  .cases h;simp
  .have:=pH rs (i+1) k h;simp;lia
def tv(cs:ι)(ws:List (AT×AT)):Dw "Net" "far" (D_ cs ws)=.ok (.An (F9 ws) (FB ws)):=rfl
def ng(cs:ι)(ws:List (AT×AT)):QJ "Net" "beyond" (D_ cs ws)=.ok (D_ cs ws):=rfl
def sq(cs:ι)(ws:List (AT×AT))(d:AT):WV [D_ cs ws,AY d]=.ok (.v (((Ic ws d).map AY).getD .non)):=by simp[WV,ga,tv,VO,u1]
def xK(o:Option AT):K1 ((o.map AY).getD .non)=o.isNone:=by cases o<;>rfl
def aaH{cs:ι}{ws:List (AT×AT)}{b:List Cz}(A0:∀r∈b,MX r.p)(h d a:Nat)(AD:a<16):OM [D_ cs ws,DB b,AY (h,d),.int (a:Int)]=.ok (.v (CI h (B6 ws b h d a))):=by
 have DH:AM (AY (h,d)) (.int 0)=.ok (.int (h:Int)):=rfl;have Bd:AM (AY (h,d)) (.int 1)=.ok (.int (d:Int)):=rfl;have C8:=aeh A0 d a AD;have G4:∀o:Nat,WV [D_ cs ws,.tup [.int (h:Int),.int (o:Int)]]=.ok (.v (((Ic ws (h,o)).map AY).getD .non)):=λo=>sq cs ws (h,o);have JT:K1 .non=true:=rfl;have Cv:∀i,K1 (.int i)=false:=λ_=>rfl;unfold B6;cases e:Jb d a 0 b with
 |none=>simp[OM,TB,DH,Bd,C8,e,GA,JT,Cv,CI,st]
 |some i=>
  have AC:=pH b 0 i e;have Yo:i<b.length:=δ
  have VM:AM (DB b) (.int (i:Int))=.ok (E2 b[i]):=IF (by simp[Yo]);have C1:AM (E2 b[i]) (.int 2)=.ok (GA b[i].b):=rfl;erw[Dt Yo,Mx];cases BS:b[i].b with
  |none=>simp[OM,TB,DH,Bd,C8,e,GA,JT,Cv,CI,st,VM,C1,BS]
  |some o=>
   have Xz:=G4 o;cases DK:Ic ws (h,o)with
   |none=>rw[DK]at Xz;simp[OM,TB,DH,Bd,C8,e,GA,JT,Cv,CI,st,VM,C1,BS,ng,Xz,DK]
   |some f=>rw[DK]at Xz;have f0:AM (AY f) (.int 0)=.ok (.int (f.1:Int)):=rfl;have f1:AM (AY f) (.int 1)=.ok (.int (f.2:Int)):=rfl;have Kt:K1 (AY f)=false:=rfl;simp[OM,TB,DH,Bd,C8,e,GA,JT,Cv,CI,st,VM,C1,BS,ng,Xz,DK,f0,f1,Kt]
def Z1(a b:AT):Ci (AY a) (AY b)=decide (a=b):=by
 show(((a.1:Int)==(b.1:Int))&&(((a.2:Int)==(b.2:Int))&&true))=_;rw[Sf,JI,Fj,beq_iff_eq,beq_iff_eq,decide_eq_true_iff];constructor
 .intro⟨A6,AA⟩;exact N0 δ δ
 .rintro rfl;exact⟨rfl,rfl⟩
def t8(ds:List AT):(ds.map AY).all (okN 7)=true:=by rw[Sl,PJ];intro d _;rfl
def rB(ds:List AT)(d:AT):((ds.map AY).any λy=>Ci y (AY d))=decide (d∈ds):=by
 rw[PQ,JI,UL,decide_eq_true_iff];constructor
 .rintro⟨x,AG,h⟩;have:=(Z1 x d).symm.trans h;rw[decide_eq_true_iff]at this;rw[<-this];exact AG
 .intro h;exact⟨d,h,by show Ci (AY d) (AY d)=true;rw[Z1];simp⟩
def zw{Hr HZ:Ae}{ρ:AI}{ds:List AT}{d:AT}(A6:Hr ρ=.ok (AY d))(AA:HZ ρ=.ok (.lst (ds.map AY))):Ax (A3 (inD false) Hr HZ) ρ=.ok (!decide (d∈ds)):=by refine Kn (H9 A6 AA ?_);have s:QK (.lst (ds.map AY))=some (ds.map AY):=rfl;have o:okN 7 (AY d)=true:=rfl;erw[inD,s,t8,o,and_self,if_true,rB];rfl
def T6(I:AI->Prop)(o:Option D)(f:FQ):Prop:=match o with
 |some d=>f=.EP d
 |none=>IZ I f
@[simp] theorem aha(I:AI->Prop):T6 I none=IZ I:=(rfl)
@[simp] theorem ahb(I:AI->Prop)(d:D):T6 I (some d)=(· =.EP d):=(rfl)
theorem oG{α:Type}{set:D->AI->R AI}{body:B0}(g:α->D)(I:AI->Prop)(f:α->Option D):∀(xs:List α)(ρ:AI),(∀a ρ,a∈xs->I ρ->Ends ((set (g a) ρ).bind body) (T6 I (f a)))->I ρ->Ends (Jv set body (xs.map g) ρ) (T6 I (xs.findSome? f))
 |[],ρ,_,h=>by simpa[T6,IZ]using h
 |a::xs,ρ,st,h=>by
  obtain⟨HV,e,hf⟩:=st a ρ γ h;rw[Du,Jv];cases A4:set (g a) ρ with
  |bad=>rw[A4]at e;cases e
  |exc c=>rw[A4]at e;cases e
  |ok ER=>
   rw[A4,BX]at e;rw[BX,e,BX,fN];cases Cr:f a with
   |some d=>rw[Cr]at hf;have hf:HV=.EP d:=hf;subst hf;exact⟨_,rfl,rfl⟩
   |none=>rw[Cr]at hf;obtain⟨Eu,rfl,AA⟩:=hf;exact oG g I f xs Eu (λb ρ A0=>st b ρ (by simp[A0])) AA
def Z3{β α:Type}{mi:B1}{set:D->AI->R AI}{body:B0}{ρ:AI}{k:FQ->R β}{T:β->Prop}(g:α->D)(xs:List α)(I:AI->Prop)(f:α->Option D)(AC:mi ρ=.ok (xs.map g))(h0:I ρ)(st:∀a ρ,a∈xs->I ρ->Ends ((set (g a) ρ).bind body) (T6 I (f a)))(f1:∀d,xs.findSome? f=some d->Ends (k (.EP d)) T)(f2:∀BL,xs.findSome? f=none->I BL->Ends (k (.B6 BL)) T):Ends ((Dq mi set body ρ).bind k) T:=by
 obtain⟨HV,e,h⟩:=oG (set:=set) (body:=body) g I f xs ρ st h0;rw[px,AC,BX,e,BX];cases Cr:xs.findSome? f with
 |some d=>rw[Cr]at h;have h:HV=.EP d:=h;rw[h];exact f1 d Cr
 |none=>rw[Cr]at h;obtain⟨Eu,rfl,AA⟩:=h;exact f2 Eu Cr AA
def bC(a b:AT):BP true (AY a) (AY b)=.ok (.AR (decide (a=b))):=by have o:∀d,okN 8 (AY d)=true:=λ_=>rfl;simp[BP,o,Z1]
def kh(ws:List (AT×AT))(d:AT):Wa [.lst (ws.map CO),AY d]=.ok (.v (((Ic ws d).map AY).getD .non)):=by
 apply Ends.done;simp[Wa,gn];have iZ:∀ws:List (AT×AT),ws.findSome? (λw=>if w.1=d then some (AY w.2)else if w.2=d then some (AY w.1)else none)=(Ic ws d).map AY:=λws=>by
  induction ws with
  |nil=>rfl
  |cons w ws Bh=>
   rw[fN];unfold Ic pairsOf;rw[List.flatMap_cons,List.find?_append];by_cases A6:w.1=d
   .simp[A6]
   .by_cases AA:w.2=d
    .simp[A6,AA]
    .erw[A6,AA,if_false,IV,List.find?_nil,decide_false,Option.none_or];exact Bh
 refine Z3 CO ws (λρ=>∃s2 s3,ρ=[.A2 (.lst (ws.map CO)),.A2 (AY d),s2,s3]) (λw=>if w.1=d then some (AY w.2)else if w.2=d then some (AY w.1)else none) γ ⟨.un,.un,rfl⟩ ?_ ?_ ?_
 .rintro w _ hw ⟨s2,s3,rfl⟩;have Ak:=bC w.1 d;have BC:=bC w.2 d;by_cases A6:w.1=d
  .rw[decide_eq_true A6]at Ak;rw[if_pos A6];simp[CO,Ak]
  .rw[decide_eq_false A6]at Ak;rw[if_neg A6];by_cases AA:w.2=d
   .rw[decide_eq_true AA]at BC;rw[if_pos AA];simp[CO,Ak,BC]
   .rw[decide_eq_false AA]at BC;rw[if_neg AA];simp[CO,Ak,BC]
 .intro x AG;rw[iZ]at AG;rw[AG];simp
 .rintro _ AQ ⟨s2,s3,rfl⟩;rw[iZ]at AQ;rw[AQ];simp
noncomputable def outs(cs:ι)(ws:List (AT×AT)):List AT:=(C6 cs cs.length).filter λd=>(Ic ws d).isNone
def z2{cs:ι}{ws:List (AT×AT)}(EO:Lb cs ws):Wc [.lst (CN cs),.lst (ws.map CO)]=.ok (.o ((outs cs ws).map AY)):=by
 apply Ends.done;have NV:=Nn EO.c cs.length;have DE:=EO.DE;simp[Wc,gM];refine b6 AY (C6 cs cs.length) (λd=>(Ic ws d).isNone) AY (by simp[bk DE EO.c]) δ (λd hd=>?_) (λd hd=>γ) ?_
 .simp[kh,xK]
 .simp[outs]
def x3{l k:Nat}(h:k<l):Ii l (k:Int)=some k:=by unfold Ii;rw[if_pos δ,if_pos δ];simp
def abE(b:Nat)(h:b<2):AM (.str (B_ "01")) (.int (b:Int))=.ok (GB (48+b)):=by
 have:b=0\/b=1:=δ
 rcases this with h|h<;>subst h<;>rfl
def mD(c d:Nat):BP false (GB c) (GB d)=.ok (.AR (!decide (c=d))):=by
 have:=sign_eq d c;have e:(.str ⟨#[d]⟩:D)=GB d:=rfl;have o:∀c,okN 8 (GB c)=true:=λ_=>rfl;have q:Ci (GB c) (GB d)=decide (c=d):=by rw[show(GB c)=.str ⟨#[c]⟩from rfl,sign_eq d c];exact decide_eq_decide.mpr ⟨Eq.symm,Eq.symm⟩
 simp[BP,o,q]
def abN{p:Str}(h:MX p):∃OO BW Ea HA,p.cps.toList=[OO,BW,Ea,HA]:=by
 have l:=h.l
 match e:p.cps.toList,l with
 |[a,b,c,d],_=>exact⟨a,b,c,d,rfl⟩
def cA{p:Str}(AZ:MX p){k:Nat}{c:Nat}(h:p.cps.toList[k]?=some c):AM (.str p) (.int (k:Int))=.ok (GB c):=by
 have AE:=(List.getElem?_eq_some_iff.mp h).1;have l:p.length<=1000000:=by have:p.length=p.cps.toList.length:=rfl;have:=AZ.l;lia
 have e:G2 p.cps.toList (k:Int)=some c:=by unfold G2;rw[x3 AE];exact h
 erw[AM,if_pos l,e];rfl
def zk{p:Str}(AZ:MX p){a:Nat}(AD:a<16):Wb [.str p,.int (a:Int)]=.ok (.v (.AR (NJ p a))):=by
 apply Ends.done;have f:NJ p a=decide (∀k,k<4->∀c,p.cps.toList[k]?=some c->c=120\/c=ON a (2^(3-k))):=by
  obtain⟨OO,BW,Ea,HA,e⟩:=abN AZ;unfold NJ;rw[e,JI];erw[K5,List.zip_nil_right,PP,List.all_nil,Sf,Fj,decide_eq_true_iff];constructor
  .rintro⟨h0,A6,AA,Ao⟩ k AE c AO;have:k=0\/k=1\/k=2\/k=3:=δ
   rcases this with q|q|q|q<;>subst q<;>cases AO
   .exact h0
   .exact A6
   .exact AA
   .exact Ao
  .intro h;exact⟨h 0 ε OO rfl,h 1 ε BW rfl,h 2 ε Ea rfl,h 3 ε HA rfl⟩
 simp[Wb,gt];refine Z3 (λk:Nat=>D.int (k:Int)) (EN 4) (λρ=>∃s2 s3,ρ=[.A2 (.str p),.A2 (.int (a:Int)),s2,s3]) (λk=>match p.cps.toList[k]? with
  |some c=>if c=120\/c=ON a (2^(3-k))then none else some (.AR false)
  |none=>none) (by simp;exact(SM 4 ε).trans (by rw[Ta])) ⟨.un,.un,rfl⟩ ?_ ?_ ?_
 .rintro k _ AE ⟨s2,s3,rfl⟩;have AE:k<4:=by simpa using AE
  have AN:k<p.cps.toList.length:=by rw[AZ.l];exact AE
  obtain⟨c,ec⟩:∃c,p.cps.toList[k]?=some c:=⟨_,Dt AN⟩;have A9:=cA AZ ec;have AH:=mD c 120;have LG:BP false (GB c) (.str (B_ "x"))=.ok (.AR (!decide (c=120))):=AH;obtain⟨w,FC,Et,Au⟩:∃w:Nat,w=2^(3-k)/\(0<w/\w<=8)/\AM (.lst [.int 8,.int 4,.int 2,.int 1]) (.int (k:Int))=.ok (.int (w:Int)):=by
   have:k=0\/k=1\/k=2\/k=3:=δ
   rcases this with h|h|h|h<;>subst h
   .exact⟨8,rfl,ε,rfl⟩
   .exact⟨4,rfl,ε,rfl⟩
   .exact⟨2,rfl,ε,rfl⟩
   .exact⟨1,rfl,ε,rfl⟩
  have Px:(a:Int)/(w:Int)%2=((a/w%2:Nat):Int):=γ
  have CH:=abE (a/w%2) δ;have F1:=mD c (ON a w);unfold ON at F1;erw[ec];rw[<-FC];unfold ON;generalize a/w%2=b at Px CH F1 |-;by_cases Ak:c=120
  .rw[decide_eq_true Ak]at LG;rw[if_pos (.inl Ak)];simp![A9,LG,lim,Au,Px]
  .rw[decide_eq_false Ak]at LG;by_cases BC:c=48+b
   .rw[decide_eq_true BC]at F1;rw[if_pos (.inr BC)];simp![A9,LG,Au,Px,CH,F1,lim]
   .rw[decide_eq_false BC]at F1;rw[if_neg λz=>z.elim Ak BC];simp![A9,LG,Au,Px,CH,F1,lim]
 .intro d hd;obtain⟨k,AE,e⟩:=qI hd;simp at AE;cases ec:p.cps.toList[k]? with
  |none=>rw[ec]at e;cases e
  |some c=>
   rw[ec]at e;simp only at e
   split at e
   .cases e
   .rename_i q;cases e;have:NJ p a=false:=by
     rw[f];exact decide_eq_false λz=>q (z k AE c ec)
    simp[this]
 .rintro _ AQ ⟨s2,s3,rfl⟩;have:NJ p a=true:=by
   rw[f];refine decide_eq_true λk AE c ec=>?_;have:=List.findSome?_eq_none_iff.mp AQ k (AE:);rw[ec]at this;simp only at this
   split at this
   .assumption
   .cases this
  simp[this]
noncomputable def ZD(b:List Cz)(d a:Nat):Option Nat:=(b.find? (mt d a)).bind (·.b)
theorem pI{d a:Nat}:∀(rs:List Cz)(i:Nat),match Jb d a i rs with
  |some k=>∃r,rs[k-i]?=some r/\i<=k/\rs.find? (mt d a)=some r
  |none=>rs.find? (mt d a)=none
 |[],i=>rfl
 |r::rs,i=>by
  have Bh:=pI (d:=d) (a:=a) rs (i+1);erw[Jb];rw[IV];cases hm:mt d a r with
  |true=>simp
  |false=>
   erw[Hg,if_false];cases e:Jb d a (i+1) rs with
   |none=>rw[e]at Bh;exact Bh
   |some k=>rw[e]at Bh;obtain⟨x,A6,AA,Ao⟩:=Bh;refine⟨x,?_,δ,Ao⟩;rw[show k-i=(k-(i+1))+1 by lia];simpa using A6
noncomputable def lead(ws:List (AT×AT))(h:Nat):Option Nat->On
 |none=>.drop
 |some o=>match Ic ws (h,o)with
  |none=>.out o
  |some e=>.to e
def zy(ws:List (AT×AT))(b:List Cz)(h d a:Nat):B6 ws b h d a=lead ws h (ZD b d a):=by
 have k:=pI (d:=d) (a:=a) b 0;unfold B6 ZD;cases e:Jb d a 0 b with
 |none=>rw[e]at k;simp only at k;rw[k];rfl
 |some i=>rw[e]at k;obtain⟨r,A6,_,Ao⟩:=k;rw[Ao];erw[XI]at A6;erw[A6,Mx];cases r.b<;>rfl
theorem find_some{α β:Type}(p:α->Bool)(g:α->β):∀xs:List α,xs.findSome? (λa=>if p a=true then some (g a)else none)=(xs.find? p).map g
 |[]=>rfl
 |a::xs=>by
  rw[fN,IV];cases e:p a with
  |true=>simp
  |false=>simpa using find_some p g xs
def z0{ws:List (AT×AT)}{b:List Cz}(abP:∀r∈b,MX r.p)(d:AT){a:Nat}(AD:a<16):Im [.lst (ws.map CO),DB b,AY d,.int (a:Int)]=.ok (.v (CI d.1 (B6 ws b d.1 d.2 a))):=by
 apply Ends.done;rw[zy];have JT:K1 .non=true:=rfl;have Cv:∀i,K1 (.int i)=false:=λ_=>rfl;have DH:AM (AY d) (.int 0)=.ok (.int (d.1:Int)):=rfl;have Bd:AM (AY d) (.int 1)=.ok (.int (d.2:Int)):=rfl;simp[Im,gy];refine Z3 E2 b (λρ=>∃s4 s5 Gg Ce,ρ=[.A2 (.lst (ws.map CO)),.A2 (DB b),.A2 (AY d),.A2 (.int (a:Int)),s4,s5,Gg,Ce]) (λr=>if mt d.2 a r=true then some (CI d.1 (lead ws d.1 r.b))else none) (by simp[DB]) ⟨.un,.un,.un,.un,rfl⟩ ?_ ?_ ?_
 .rintro r _ B5 ⟨s4,s5,Gg,Ce,rfl⟩;have Gu:=zk (abP r B5) AD;have q:IH (Ax (Br 2 Wb (A1 (J 4) (A1 (J 3) (AF))))) (II (Ax (A3 (GW true) (J 5) (A5 .non))) (Ax (A3 (BP true) (J 5) (A3 AM (J 2) (A5 (.int 1)))))) [.A2 (.lst (ws.map CO)),.A2 (DB b),.A2 (AY d),.A2 (.int (a:Int)),.A2 (.str r.p),.A2 (GA r.a),.A2 (GA r.b),Ce]=.ok (mt d.2 a r):=by
   unfold mt;have A9:=l5 r.a;have AH:=iz r.a d.2;generalize r.a.isNone=FU at A9 |-;generalize(r.a==some d.2)=G3 at AH |-;generalize NJ r.p a=Xn at Gu |-;cases FU<;>cases G3<;>cases Xn<;>simp[A9,AH,Gu,Bd]
  have s0:FO [BK 4,BK 5,BK 6] (E2 r) [.A2 (.lst (ws.map CO)),.A2 (DB b),.A2 (AY d),.A2 (.int (a:Int)),s4,s5,Gg,Ce]=.ok [.A2 (.lst (ws.map CO)),.A2 (DB b),.A2 (AY d),.A2 (.int (a:Int)),.A2 (.str r.p),.A2 (GA r.a),.A2 (GA r.b),Ce]:=by simp[E2]
  rw[s0,BX,pz,q,BX];cases mt d.2 a r with
  |false=>simp
  |true=>
   cases BS:r.b with
   |none=>simp[GA,JT,CI,lead,st,DH]
   |some o=>
    have WK:=kh ws (d.1,o);erw[AY]at WK;cases DK:Ic ws (d.1,o)with
    |none=>rw[DK]at WK;simp[GA,Cv,JT,WK,DK,CI,lead,st,DH]
    |some e=>rw[DK]at WK;have Kt:K1 (AY e)=false:=rfl;have Dn:VW (.tup [.str (B_ "at")]) (AY e)=.ok (.tup [.str (B_ "at"),.int (e.1:Int),.int (e.2:Int)]):=rfl;simp[GA,Cv,WK,DK,CI,lead,DH,Kt,Dn,st]
 .intro x AG;rw[find_some]at AG;unfold ZD;cases Cr:b.find? (mt d.2 a)with
  |none=>rw[Cr]at AG;cases AG
  |some r=>rw[Cr]at AG;cases AG;simp
 .rintro _ AQ ⟨s4,s5,Gg,Ce,rfl⟩;rw[find_some]at AQ;have:b.find? (mt d.2 a)=none:=by simpa using AQ
  simp[ZD,this,lead,CI,st,DH]
def BE(k:Nat):D:=.int (k:Int)
def adC(cell:Int)(n:Nat)(AQ:n<=6):∃row:ι,row.length<=6/\Tx [.int cell,.int (n:Int)]=.ok (.o (row.map BE)):=by
 suffices h:Ends (Tx [.int cell,.int (n:Int)]) λb=>∃row:ι,row.length<=6/\b=.o (row.map BE)by
  obtain⟨b,e,row,h,rfl⟩:=h;exact⟨row,h,e⟩
 obtain⟨y,DK⟩:=MP cell 3 ε;have TK:FV [.int cell,.int 3]=.ok (.v (.int y)):=DK;obtain⟨m,hm,em⟩:=JV y (n:=n+1) δ;have SD:y%((n:Int)+1)=(m:Int):=by rw[<-em];simp
 have QG:Fh 0 n=(EN n).map BE:=by rw[Ta];rfl
 simp![Tx,gR,lim,TK,SD];refine OS m (λj ρ=>∃(R row:ι)(s4:Bb),R.length+j=n/\row.length=j/\ρ=[.A2 (.int cell),.A2 (.int (n:Int)),.Bm (R.map BE),.Bm (row.map BE),s4]) (by simp[TK,SD];exact SM m δ) ⟨EN n,[],.un,γ,rfl,by rw[QG];rfl⟩ ?_ ?_
 .rintro j _ Bi ⟨R,row,s4,A6,AA,rfl⟩;obtain⟨z,SG⟩:=MP cell (4+j) δ;have t6:FV [.int cell,.int (4+(j:Int))]=.ok (.v (.int z)):=by rw[<-SG];simp
  obtain⟨k,AE,DD⟩:=JV z (n:=R.length) δ;have g:=dP BE (i:=2) AE δ;simp![t6,DD,g];exact⟨R.eraseIdx k,by rw[fA AE];lia,row++[R[k]],by simp[AA],γ⟩
 .rintro _ ⟨R,row,s4,A6,AA,rfl⟩;simp;exact⟨row,δ,rfl⟩
noncomputable def DC(bs:List (List Cz)):D:=.lst (bs.map DB)
noncomputable def F3(os nw:List (List Cz))(row:ι)(k:Nat):List (List Cz):=(EN os.length).map λh=>if h∈row.take k then nw.getD h []else os.getD h []
def jd(l:ι)(h:Nat):inD true (.int (h:Int)) (.lst (l.map BE))=.ok (.AR (decide (h∈l))):=by
 have o:(l.map BE).all (okN 7)=true:=by simp[BE,okN]
 have a:((l.map BE).any λy=>Ci y (.int (h:Int)))=decide (h∈l):=by
  rw[PQ];induction l with
  |nil=>rfl
  |cons x l Bh=>
   have:Ci (BE x) (.int (h:Int))=decide (x=h):=by
    show((x:Int)==(h:Int))=_;by_cases q:x=h
    .subst q;simp
    .have:¬(x:Int)=(h:Int):=λz=>q δ;simp[q,this]
   have Yq:=Bh (by simp[BE,okN]);rw[Ny,Yq];erw[fo,this];by_cases q:x=h
   .subst q;simp
   .simp[q,Hi q]
 unfold inD;erw[QK];rw[if_pos ⟨rfl,o⟩];erw[if_true,a]
def bh(l:ι)(k:Nat):Ed (l.map BE) none (some (k:Int))=(l.take k).map BE:=by rw[tY,XJ]
def Pc{bs:List (List Cz)}{h:Nat}(B4:h<bs.length):AM (DC bs) (.int (h:Int))=.ok (DB (bs.getD h [])):=IF (by simp[B4])
def ad1{os nw:List (List Cz)}{row:ι}(AN:os.length<=6)(AQ:nw.length=os.length)(B5:row.length<=6):Vt [DC os,DC nw,.lst (row.map BE)]=.ok (.o ((EN (row.length+1)).map λk=>DC (F3 os nw row k))):=by
 apply Ends.done;simp[Vt,gQ,lim];refine OS (row.length+1) (λj ρ=>∃s4,ρ=[.A2 (DC os),.A2 (DC nw),.A2 (.lst (row.map BE)),.Bm ((EN j).map λk=>DC (F3 os nw row k)),s4]) (by have:=SM (row.length+1) δ;simp at this |-;exact this) ⟨.un,rfl⟩ ?_ ?_
 .rintro j _ Bi ⟨s4,rfl⟩;have lo:CE [DC os]=.ok (.int (os.length:Int)):=by simp[DC]
  simp;refine SF os.length (λh=>DB (if h∈row.take j then nw.getD h []else os.getD h [])) (by simp[lo,show os.length<1000000 by lia]) δ (λh B4=>?_) ?_
  .have Bd:=Pc B4;have C1:=Pc (bs:=nw) (h:=h) δ;have q:=jd (row.take j) h;have FN:AM (.lst [DC os,DC nw]) (.int 0)=.ok (DC os):=rfl;have EA:AM (.lst [DC os,DC nw]) (.int 1)=.ok (DC nw):=rfl;erw[JF]at Bd C1 |-;by_cases hm:h∈row.take j
   .rw[decide_eq_true hm]at q;simp(disch:=first|lia|(simp;done)|(simp;lia)) only[aL,Wf,q0,Gi,v_var,Ka,eJ,eN,eL,eM,ba,Du,O5,JF,LR,MD,X6,Kx,BX,je,pO,bh,q,oo,lim,if_true,EA,C1,hm];simp[lim,EA,C1]
   .rw[decide_eq_false hm]at q;simp(disch:=first|lia|(simp;done)|(simp;lia)) only[aL,Wf,q0,Gi,v_var,Ka,eJ,eN,eL,eM,ba,Du,O5,JF,LR,MD,X6,Kx,BX,je,pO,bh,q,oo,lim,if_true,FN,Bd,hm];simp[lim,FN,Bd]
  .simp(disch:=first|lia|(simp;done)|(simp;lia));rw[List.range_succ,Hy];simp[DC,F3,Qq]
 .rintro _ ⟨s4,rfl⟩;simp
def zK{os nw:List (List Cz)}{row:ι}{k:Nat}(AN:os.length<=6)(AQ:nw.length=os.length):ZM [DC os,DC nw,.lst ((row.take k).map BE)]=.ok (.o ((F3 os nw row k).map DB)):=by
 apply Ends.done;have lo:CE [DC os]=.ok (.int (os.length:Int)):=by simp[DC]
 simp[ZM,gU];refine SF os.length (λh=>DB (if h∈row.take k then nw.getD h []else os.getD h [])) (by simp[lo,show os.length<1000000 by lia]) δ (λh B4=>?_) ?_
 .have Bd:=Pc B4;have C1:=Pc (bs:=nw) (h:=h) δ;have q:=jd (row.take k) h;rw[XJ]at q;erw[JF]at Bd C1 |-;by_cases hm:h∈row.take k
  .rw[decide_eq_true hm]at q;simp[q,C1,hm,OG,DB]
  .rw[decide_eq_false hm]at q;simp[q,Bd,hm,OG,DB]
 .simp[F3,Qq]
def zj(xs:μ):CE [CP.E2 xs]=.ok (.int xs.length):=by
 unfold CP.E2
 split
 .rename_i h;rw[List.isEmpty_iff.mp h];rfl
 .rfl
def ad6(xs:μ)(l h:Option Int):IR (CP.E2 xs) l h=.ok (.lst (Ed xs l h)):=by
 unfold CP.E2
 split
 .rename_i h;rw[List.isEmpty_iff.mp h];rfl
 .rfl
def acq{os nw:List (List Cz)}{row:ι}(AN:os.length<=6)(AQ:nw.length=os.length)(B5:row.length<=6):Vu [DC os,DC nw,CP.E2 (row.map BE)]=.ok (.o ((EN (row.length+1)).map λk=>DC (F3 os nw row k))):=by
 apply Ends.done;simp[Vu,gz];refine SF (row.length+1) (λk=>DC (F3 os nw row k)) (by have:=SM (row.length+1) δ;simp[zj]at this |-;exact this) δ (λk AE=>?_) ?_
 .have mo:=zK (os:=os) (nw:=nw) (row:=row) (k:=k) AN AQ;simp[bh,mo,ad6,-XJ];rfl
 .simp
abbrev AX:=AT×Nat
noncomputable def BB(s:AX):D:=.tup [AY s.1,BE s.2]
noncomputable def Dr(s:AX):Bf:=[.inr [.inl (s.1.1:Int),.inl (s.1.2:Int)],.inl (.inl (s.2:Int))]
def a7{a b:AX}(h:Dr a=Dr b):a=b:=by erw[Dr,PK,Sum.inr.injEq,fm,and_true]at h;obtain⟨⟨A6,AA⟩,Ao⟩:=h;exact N0 (N0 δ δ) δ
def NT(s:AX):Ik (BB s)=some (Dr s):=rfl
def Xk(l:List AX)(s:AX):(l.map Dr).any (λx=>decide (x=Dr s))=decide (s∈l):=by
 rw[PQ];induction l with
 |nil=>rfl
 |cons x l Bh=>
  rw[Ny,Bh];erw[fo];by_cases q:x=s
  .subst q;simp
  .have:¬Dr x=Dr s:=λz=>q (a7 z);simp[q,this,Hi q]
theorem Wd:∀ds:μ,Nr (ds.map .A2)=some ds
 |[]=>rfl
 |d::ds=>by rw[Du,Nr,Wd ds];rfl
theorem om:∀ds:μ,Mo (ds.map .A2)=ds
 |[]=>rfl
 |d::ds=>by rw[Du,Mo,om ds];rfl
noncomputable def CS(l:ι):D:=.lst (l.map BE)
abbrev F0:=List (AX×ι)
abbrev To:=List (AX×On)
noncomputable def QW:List Str:=["net","stages","address","shunned","woven","told"]
noncomputable def D9(X Y:D)(a:Nat)(W:F0)(U:To):T:=.ins "Weaver" QW [.A2 X,.A2 Y,.A2 (.int (a:Int)),.A2 .non,.An ((W.map (·.1)).map Dr) ((W.map λp=>CS p.2).map .A2),.An ((U.map (·.1)).map Dr) ((U.map λp=>CI p.1.1.1 p.2).map .A2)]
noncomputable def Ds(X Y:D)(a:Nat)(W:F0)(U:To):D:=.ins "Weaver" QW [X,Y,.int (a:Int),.non,.An ((W.map (·.1)).map Dr) (W.map λp=>CS p.2),.An ((U.map (·.1)).map Dr) (U.map λp=>CI p.1.1.1 p.2)]
def Tf(X Y:D)(a:Nat)(W:F0)(U:To):toD (D9 X Y a W U)=Ds X Y a W U:=by erw[D9,toD,Mo,om,Ds]
@[simp] theorem vi(k:Nat)(t:T):IB (.Bg k t)=.A2 (toD t):=(rfl)
section
variable{X Y:D}{a:Nat}{W:F0}{U:To}
def uR:Dw "Weaver" "net" (Ds X Y a W U)=.ok X:=rfl
def j5:Dw "Weaver" "stages" (Ds X Y a W U)=.ok Y:=rfl
def ud:Dw "Weaver" "address" (Ds X Y a W U)=.ok (.int (a:Int)):=rfl
def bI:Dw "Weaver" "shunned" (Ds X Y a W U)=.ok .non:=rfl
def j6:Dw "Weaver" "woven" (Ds X Y a W U)=.ok (.An ((W.map (·.1)).map Dr) (W.map λp=>CS p.2)):=rfl
def Z5:Dw "Weaver" "told" (Ds X Y a W U)=.ok (.An ((U.map (·.1)).map Dr) (U.map λp=>CI p.1.1.1 p.2)):=rfl
def iX(r:AI):KV 0 "Weaver" "woven" (.Bg 0 (D9 X Y a W U)::r)=.ok ⟨.Bg 0 (D9 X Y a W U),QW,[.A2 X,.A2 Y,.A2 (.int (a:Int)),.A2 .non,.An ((W.map (·.1)).map Dr) ((W.map λp=>CS p.2).map .A2),.An ((U.map (·.1)).map Dr) ((U.map λp=>CI p.1.1.1 p.2).map .A2)],4,(W.map (·.1)).map Dr,W.map λp=>CS p.2⟩:=by
 have e:QW.findIdx? (λk=>("woven" :Str)==k)=some 4:=ε
 erw[KV,LR,KZ,D9,Vf,if_true,e,Vg,Wd,MD]
def u0(r:AI):KV 0 "Weaver" "told" (.Bg 0 (D9 X Y a W U)::r)=.ok ⟨.Bg 0 (D9 X Y a W U),QW,[.A2 X,.A2 Y,.A2 (.int (a:Int)),.A2 .non,.An ((W.map (·.1)).map Dr) ((W.map λp=>CS p.2).map .A2),.An ((U.map (·.1)).map Dr) ((U.map λp=>CI p.1.1.1 p.2).map .A2)],5,(U.map (·.1)).map Dr,U.map λp=>CI p.1.1.1 p.2⟩:=by
 have e:QW.findIdx? (λk=>("told" :Str)==k)=some 5:=ε
 erw[KV,LR,KZ,D9,Vf,if_true,e,Vg,Wd,MD]
def acU{r:AI}{mk mv:Ae}{s:AX}{l:ι}(AE:mk (.Bg 0 (D9 X Y a W U)::r)=.ok (BB s))(BN:mv (.Bg 0 (D9 X Y a W U)::r)=.ok (CS l))(AQ:s∉W.map (·.1))(AN:W.length<1000) :
  NW 0 "Weaver" "woven" mk mv (.Bg 0 (D9 X Y a W U)::r)=.ok (.B6 (.Bg 0 (D9 X Y a (W++[(s,l)]) U)::r)):=by
 unfold NW;rw[BN,BX,iX,BX,AE,BX,NT];erw[Z7,putD];have:=Xk (W.map (·.1)) s;rw[decide_eq_false AQ]at this;rw[if_pos ⟨this,by simp;lia⟩];simp[bK,P3,D9]
def acT{r:AI}{mk mv:Ae}{s:AX}{o:On}(AE:mk (.Bg 0 (D9 X Y a W U)::r)=.ok (BB s))(BN:mv (.Bg 0 (D9 X Y a W U)::r)=.ok (CI s.1.1 o))(AQ:s∉U.map (·.1))(AN:U.length<1000) :
  NW 0 "Weaver" "told" mk mv (.Bg 0 (D9 X Y a W U)::r)=.ok (.B6 (.Bg 0 (D9 X Y a W (U++[(s,o)]))::r)):=by
 unfold NW;rw[BN,BX,u0,BX,AE,BX,NT];erw[Z7,putD];have:=Xk (U.map (·.1)) s;rw[decide_eq_false AQ]at this;rw[if_pos ⟨this,by simp;lia⟩];simp[bK,P3,D9]
noncomputable def FW(W:F0)(d:AT)(l n:Nat):List AX:=(((R6 l (n-l)).map λk=>((d,k):AX))).filter λs=>!decide (s∈W.map (·.1))
noncomputable def Ff(l:ι):Nat:=l.getLast?.getD 0
def x4(l:ι)(h:l≠[]):AM (CS l) (.int (-1))=.ok (BE (Ff l)):=by
 have AN:0<l.length:=List.length_pos_iff.mpr h;have e:G2 (l.map BE) (-1)=some (BE (Ff l)):=by unfold G2 Ii;rw[if_neg ε,if_pos (by simp;lia)];erw[Mx,GN];rw[show((-1:Int)+(l.length:Int)).toNat=l.length-1 by lia,EC];unfold Ff;rw[List.getLast?_eq_getElem?];rw[Dt (show l.length-1<l.length by lia)];rfl
 erw[CS,AM,e]
def ZV(W:F0)(d:AT)(l n:Nat):(FW W d l n).Nodup:=by exact List.Pairwise.filter _ (List.pairwise_map.mpr ((List.nodup_range' (s:=l) (n:=n-l) (step:=1)).imp λh z=>h (Prod.ext_iff.mp z).2))
def Oo{W:F0}{d:AT}{l n:Nat}{s:AX}:s∈FW W d l n↔s.1=d/\l<=s.2/\s.2<n/\s∉W.map (·.1):=by
 unfold FW;rw[List.mem_filter,UZ];constructor
 .rintro⟨⟨k,AE,rfl⟩,h⟩;rw[List.mem_range'_1]at AE;exact⟨rfl,AE.1,by show k<n;lia,(h:)⟩
 .rintro⟨A6,AA,Ao,BG⟩;exact⟨⟨s.2,List.mem_range'_1.mpr ⟨AA,δ⟩,N0 A6.symm rfl⟩,(BG:)⟩
def n_{l n:Nat}(A6:l<=1000)(AA:n<=1000):W5 [.int (l:Int),.int (n:Int)]=.ok ((R6 l (n-l)).map BE):=by erw[W5];rw[if_pos (by refine⟨?_,?_,?_,?_⟩<;>lia),show((n:Int)-(l:Int)).toNat=n-l by lia];simp[Fh,List.range'_eq_map_range,BE]
@[simp] theorem adp(m:B1)(ρ:AI):OI m ρ=(m ρ).bind W5:=(rfl)
@[simp] theorem aeJ(m:B1)(ρ:AI):Rl m ρ=(m (DG ρ)).bind λds=>if QO ds=true then .ok ds else .bad:=(rfl)
@[simp] theorem aeI(m:Ae)(ρ:AI):Hs m ρ=(m (DG ρ)).bind λd=>if QN d=true then .ok d else .bad:=(rfl)
@[simp] theorem aid(m:Ae)(ρ:AI):Qd m ρ=(m ρ).bind λd=>.ok (.rs d ρ):=(rfl)
theorem pT:∀l:List AX,QO (l.map BB)=true
 |[]=>rfl
 |s::l=>by simp[QO,QN,BB,AY,BE,pT l]
def aaA(l:ι):(l.map BE).all (okN 7)=true:=by simp[BE,okN]
def iq:B0:=NW 0 "Weaver" "woven" (J 5) (Bo (KG (J 2) (Bo (CZ (A1 (A3 AM (J 5) (A5 (.int 1))) (AF))))))
def b7:B0:=AS (Dq (H2 (J 4)) (BK 5) iq) (Qd (J 4))
def tW{Z:D}{N:List AX}(Yh:W.length+N.length<=1000)(Cs:N.Nodup)(AQ:∀s∈N,s∉W.map (·.1))(d:AT)(DY:ι)(AN:DY.length<=1000)(s3:Bb) :
  Ends (b7 [.Bg 0 (D9 X Z a W U),.A2 (AY d),.A2 (CS DY),s3,.A2 (.lst (N.map BB)),.un]) λf=>∃r,f=.rs (.lst (N.map BB)) (.Bg 0 (D9 X Z a (W++N.map λs=>(s,DY++[s.2])) U)::r):=by
 unfold b7;rw[ED];refine NH BB N (λj ρ=>∃s5,ρ=[.Bg 0 (D9 X Z a (W++(N.take j).map λs=>(s,DY++[s.2])) U),.A2 (AY d),.A2 (CS DY),s3,.A2 (.lst (N.map BB)),s5]) γ ⟨.un,γ⟩ ?_ ?_
 .rintro j s _ Bi ⟨s5,rfl⟩;obtain⟨cc,A4⟩:=List.getElem?_eq_some_iff.mp Bi;have AJ:s∈N:=A4▸MC _;have nm:s∉(W++(N.take j).map λs=>(s,DY++[s.2])).map (·.1):=by
   rw[Hy,IU,List.mem_append];rintro(z|z)
   .exact AQ s AJ z
   .have z:s∈N.take j:=by simpa[Qq]using z
    obtain⟨i,AC,Fv⟩:=Qv z;rw[UI]at AC;rw[List.getElem_take]at Fv;exact absurd (Fv.trans A4.symm) (List.pairwise_iff_getElem.mp Cs i j δ cc δ)
  have KX:=acU (X:=X) (Y:=Z) (a:=a) (U:=U) (r:=[.A2 (AY d),.A2 (CS DY),s3,.A2 (.lst (N.map BB)),.A2 (BB s)]) (mk:=J 5) (mv:=Bo (KG (J 2) (Bo (CZ (A1 (A3 AM (J 5) (A5 (.int 1))) (AF)))))) (l:=DY++[s.2]) γ (by have Bd:AM (BB s) (.int 1)=.ok (BE s.2):=rfl;simp![Bd,lim,CS]) nm (by simp;lia)
  have L1:BK 5 (BB s) [.Bg 0 (D9 X Z a (W++(N.take j).map λs=>(s,DY++[s.2])) U),.A2 (AY d),.A2 (CS DY),s3,.A2 (.lst (N.map BB)),s5]=.ok [.Bg 0 (D9 X Z a (W++(N.take j).map λs=>(s,DY++[s.2])) U),.A2 (AY d),.A2 (CS DY),s3,.A2 (.lst (N.map BB)),.A2 (BB s)]:=rfl;rw[L1,BX,iq,KX];exact⟨_,rfl,_,rfl,_,by rw[O2,Bi,Hy,<-O1];rfl⟩
 .rintro _ ⟨s5,rfl⟩;simp
noncomputable def ir:B0:=Qe 4 (Rl (E3 1 [1,0] (OI (A1 (J 3) (A1 (Bz CE (A1 (C4 (Dw "Weaver" "stages") (J 0)) (AF))) (AF)))) (BK 0) (Ax (A3 (Fb false) (C_ (A1 (J 1) (A1 (J 0) (AF)))) (C4 (Dw "Weaver" "woven") (J 2)))) (C_ (A1 (J 1) (A1 (J 0) (AF))))))
def tV{Z:D}(iN:B0)(d:AT)(DY:ι):AS (C9 (EH (Ax (A3 (BP true) (A3 AM (J 1) (A5 (.int 0))) (C4 (Dw "Weaver" "shunned") (J 0))))) (Qd (Bo (CZ (AF)))) (CU))
  (AS (BU 3 (MO (Ax (A3 (BP false) (J 2) (Bo (CZ (AF))))) (A3 AM (J 2) (C4 EW (A5 (.int 1)))) (A5 (.int 0)))) iN) [.Bg 0 (D9 X Z a W U),.A2 (AY d),.A2 (CS DY),.un,.un,.un]=iN [.Bg 0 (D9 X Z a W U),.A2 (AY d),.A2 (CS DY),.A2 (BE (Ff DY)),.un,.un]:=by
 have DH:AM (AY d) (.int 0)=.ok (.int (d.1:Int)):=rfl;have DJ:BP true (.int (d.1:Int)) .non=.ok (.AR false):=rfl;have ne:BP false (CS DY) (.lst [])=.ok (.AR (!(DY.map BE).isEmpty)):=ne_nil (aaA DY);by_cases h:DY=[]
 .subst h;have ne:BP false (CS []) (.lst [])=.ok (.AR false):=ne;simp[Tf,DH,bI,DJ,ne,lim];rfl
 .have Ur:=x4 DY h;have:(DY.map BE).isEmpty=false:=by cases DY<;>simp_all
  rw[this]at ne;simp[Tf,DH,bI,DJ,ne,lim,Ur]
def sv{Ys:μ}(AQ:Ys.length<=7)(Yh:W.length+7<=1000)(d:AT)(DY:ι)(AN:DY.length<=1000)(VD:Ff DY<=1000) :
  Qg (D9 X (.lst Ys) a W U) [AY d,CS DY]=.ok (.lst ((FW W d (Ff DY) Ys.length).map BB),D9 X (.lst Ys) a (W++(FW W d (Ff DY) Ys.length).map λs=>(s,DY++[s.2])) U):=by
 apply Ends.done;have ln:(FW W d (Ff DY) Ys.length).length<=7:=by unfold FW;refine FF (q_ _ _) ?_;simp;lia
 have BS:Xp=AS (C9 (EH (Ax (A3 (BP true) (A3 AM (J 1) (A5 (.int 0))) (C4 (Dw "Weaver" "shunned") (J 0))))) (Qd (Bo (CZ (AF)))) (CU))
  (AS (BU 3 (MO (Ax (A3 (BP false) (J 2) (Bo (CZ (AF))))) (A3 AM (J 2) (C4 EW (A5 (.int 1)))) (A5 (.int 0))))
  (AS ir b7)):=rfl
 show Ends ((Xp [.Bg 0 (D9 X (.lst Ys) a W U),.A2 (AY d),.A2 (CS DY),.un,.un,.un]).bind U4) _;rw[BS,tV,ED,SV,ir,adt,adu,aeJ];erw[SV];have QG:=n_ (l:=Ff DY) (n:=Ys.length) VD δ;refine b6 BE (R6 (Ff DY) (Ys.length-Ff DY)) (λk=>!decide (((d,k):AX)∈W.map (·.1))) (λk=>BB (d,k)) (by simp[Tf,j5,BE]at QG |-;exact QG) (by simp;lia) (λk AE=>?_) (λk AE _=>by simp[BB,BE]) ?_
 .have:Fb false (BB (d,k)) (.An ((W.map (·.1)).map Dr) (W.map λp=>CS p.2))=.ok (.AR (!decide (((d,k):AX)∈W.map (·.1)))):=by
    erw[Fb,NT,Xk];rfl
  have Tg:f3 [AY d,BE k]=.ok (BB (d,k)):=rfl;erw[DG,Du,O5,vi,vg,vh,JF,LR,MD,X6,ba,eI,aL,aN,Gi,Ka,v_var,Kx,BX,eO,Tf,j6,Tg,this,sV]
 .have FI:((R6 (Ff DY) (Ys.length-Ff DY)).filter λk=>!decide (((d,k):AX)∈W.map (·.1))).map (λk=>BB (d,k))=(FW W d (Ff DY) Ys.length).map BB:=by
    unfold FW;rw[List.filter_map,IU];rfl
  rw[FI,if_pos (pT _),BX,if_pos γ,BX,acp,BX,F4];have CR:=tW (X:=X) (Z:=.lst Ys) (a:=a) (W:=W) (U:=U) (N:=FW W d (Ff DY) Ys.length) δ (ZV _ _ _ _) (λs AJ=>(Oo.mp AJ).2.2.2) d DY AN (.A2 (BE (Ff DY)));obtain⟨f,Cr,r,rfl⟩:=CR;have z:Jw 4 (List.set [.Bg 0 (D9 X (.lst Ys) a W U),.A2 (AY d),.A2 (CS DY),.A2 (BE (Ff DY)),.un,.un] 4 (.Bm ((FW W d (Ff DY) Ys.length).map BB)))=[.Bg 0 (D9 X (.lst Ys) a W U),.A2 (AY d),.A2 (CS DY),.A2 (BE (Ff DY)),.A2 (.lst ((FW W d (Ff DY) Ys.length).map BB)),.un]:=rfl;rw[z,Cr];exact⟨_,rfl,rfl⟩
end
def B3(ws:List (AT×AT))(Bk:Nat->List (List Cz))(a:Nat)(s:AX):On:=B6 ws ((Bk s.2).getD s.1.1 []) s.1.1 s.1.2 a
structure GQ(cs:ι)(ws:List (AT×AT))(Bk:Nat->List (List Cz))(n a:Nat):Prop where
 EO:Lb cs ws
 AD:a<16
 Cv:1<=n
 IJ:n<=7
 AR:∀k,k<n->(Bk k).length=cs.length
 pt:∀k,k<n->∀b∈Bk k,∀r∈b,MX r.p
noncomputable def Co(n:Nat)(Bk:Nat->List (List Cz)):μ:=(EN n).map λk=>DC (Bk k)
inductive Rw(N:AX->On)(n:Nat)(d0:AT):AX->Prop
 |st (k:Nat):k<n->Rw N n d0 (d0,k)
 |go (s:AX) (e:AT) (k:Nat):Rw N n d0 s->N s=.to e->s.2<=k->k<n->Rw N n d0 (e,k)
inductive Jp(N:AX->On)(n:Nat)(d0:AT):ι->AX->Prop
 |st (k:Nat):k<n->Jp N n d0 [k] (d0,k)
 |go (l:ι) (s:AX) (e:AT) (k:Nat):Jp N n d0 l s->N s=.to e->s.2<=k->k<n->Jp N n d0 (l++[k]) (e,k)
def Jp.W4{N:AX->On}{n:Nat}{d0:AT}{l:ι}{s:AX}(h:Jp N n d0 l s):Rw N n d0 s:=by
 induction h with
 |st k h=>exact .st k h
 |go l s e k _ A6 AA Ao Bh=>exact .go s e k Bh A6 AA Ao
structure Good(A:List AT)(N:AX->On)(n:Nat)(d0:AT)(W:F0)(U:To)(pd:List AX):Prop where
 nw:(W.map (·.1)).Nodup
 inr:∀p∈W,p.1.1∈A/\p.1.2<n
 up:∀p∈W,∀k,p.1.2<=k->k<n->(p.1.1,k)∈W.map (·.1)
 lst:∀p∈W,Ff p.2=p.1.2/\p.2.length<=W.length
 mN:(U.map (·.1)).Nodup
 un:∀q∈U,q.1∈W.map (·.1)/\q.2=N q.1
 cl:∀p∈W,p.1∈pd\/(p.1∈U.map (·.1)/\∀e,N p.1=.to e->(e,p.1.2)∈W.map (·.1))
 Bg:pd.Nodup
 KX:∀s∈pd,s∈W.map (·.1)/\s∉U.map (·.1)
 Lx:∀p∈W,Jp N n d0 p.2 p.1
noncomputable def KW(W:F0)(n:Nat)(s:AX):On->List AX
 |.to e=>FW W e s.2 n
 |_=>[]
def zb(l:ι)(k:Nat):Ff (l++[k])=k:=by simp[Ff]
def U2{W:F0}{n:Nat}{s t:AX}{o:On}(h:t∈KW W n s o):∃e,o=.to e/\t.1=e/\s.2<=t.2/\t.2<n/\t∉W.map (·.1):=by
 cases o with
 |to e=>exact⟨e,rfl,Oo.mp h⟩
 |drop=>cases h
 |out _=>cases h
def mO(W:F0)(n:Nat)(s:AX)(o:On):(KW W n s o).Nodup:=by
 cases o with
 |to e=>exact ZV _ _ _ _
 |drop=>exact .nil
 |out _=>exact .nil
section
variable{A:List AT}{N:AX->On}{n:Nat}{d0:AT}{W:F0}{U:To}{pd:List AX}
def Good.few(g:Good A N n d0 W U pd)(K9:A.length<=24)(AQ:n<=7):W.length<=168:=by
 have:=Mu (l₂:=A.flatMap λd=>(EN n).map λk=>((d,k):AX)) g.nw λs AJ=>by obtain⟨p,AZ,rfl⟩:=List.mem_map.mp AJ;obtain⟨A6,AA⟩:=g.inr p AZ;exact List.mem_flatMap.mpr ⟨_,A6,List.mem_map.mpr ⟨_,List.mem_range.mpr AA,rfl⟩⟩
 rw[GN,List.length_flatMap]at this;simp at this;have e:∀A:List AT,(A.map λ_=>n).sum=A.length*n:=λA=>by
  induction A with
  |nil=>simp
  |cons x A Bh=>simp[Bh,fu];lia
 rw[e]at this;have:A.length*n<=24*7:=Nat.mul_le_mul K9 AQ
 lia
def Good.step(Le:∀s e,N s=.to e->e∈A){s:AX}{l:ι}(g:Good A N n d0 W U (s::pd))(AJ:(s,l)∈W):Good A N n d0 (W++(KW W n s (N s)).map λt=>(t,l++[t.2])) (U++[(s,N s)]) (pd++KW W n s (N s)):=by
 have QI:s∈W.map (·.1):=List.mem_map.mpr ⟨_,AJ,rfl⟩;have Cg:(W++(KW W n s (N s)).map λt=>(t,l++[t.2])).map (·.1)=W.map (·.1)++KW W n s (N s):=by simp[Qq]
 have By:(U++[(s,N s)]).map (·.1)=U.map (·.1)++[s]:=γ
 obtain⟨sp,aan⟩:=List.nodup_cons.mp g.Bg;have abo:=(g.KX s γ).2;have s2:=(g.inr _ AJ).2;have mem:∀{p:AX×ι},p∈W++(KW W n s (N s)).map (λt=>(t,l++[t.2]))->p∈W\/∃t∈KW W n s (N s),p=(t,l++[t.2]):=λh=>by
  rcases List.mem_append.mp h with h|h
  .exact .inl h
  .obtain⟨t,Aj,rfl⟩:=List.mem_map.mp h;exact .inr ⟨t,Aj,rfl⟩
 refine⟨?_,λp AZ=>?_,λp AZ k A6 AA=>?_,λp AZ=>?_,?_,λq AV=>?_,λp AZ=>?_,?_,λt Aj=>?_,λp AZ=>?_⟩
 .rw[Cg];exact List.nodup_append.mpr ⟨g.nw,mO _ _ _ _,λx AG y Ba z=>(U2 Ba).choose_spec.2.2.2.2 (z▸AG)⟩
 .rcases mem AZ with h|⟨t,Aj,rfl⟩
  .exact g.inr p h
  .obtain⟨e,A9,AH,Au,CH,F1⟩:=U2 Aj;exact⟨AH▸Le s e A9,CH⟩
 .rw[Cg];rcases mem AZ with h|⟨t,Aj,rfl⟩
  .exact FZ _ (g.up p h k A6 AA)
  .obtain⟨e,A9,AH,Au,CH,F1⟩:=U2 Aj;by_cases hw:((t.1,k):AX)∈W.map (·.1)
   .exact FZ _ hw
   .refine Fz _ ?_;rw[A9];exact Oo.mpr ⟨AH,FF Au A6,AA,hw⟩
 .rw[JK,GN];rcases mem AZ with h|⟨t,Aj,rfl⟩
  .exact⟨(g.lst p h).1,FF (g.lst p h).2 (UK _ _)⟩
  .have:=UB Aj;have:=(g.lst _ AJ).2;refine⟨zb _ _,?_⟩;simp at this |-;lia
 .rw[By];exact List.nodup_append.mpr ⟨g.mN,γ,λx AG y Ba z=>by rw[List.mem_singleton.mp Ba]at z;exact abo (z▸AG)⟩
 .rw[Cg];rcases List.mem_append.mp AV with h|h
  .exact⟨FZ _ (g.un q h).1,(g.un q h).2⟩
  .rw[List.mem_singleton.mp h];exact⟨FZ _ QI,rfl⟩
 .rw[Cg,By];rcases mem AZ with h|⟨t,Aj,rfl⟩
  .by_cases A4:p.1=s
   .refine .inr ⟨by rw[A4];simp,λe he=>?_⟩;rw[A4]at he |-;by_cases hw:((e,s.2):AX)∈W.map (·.1)
    .exact FZ _ hw
    .refine Fz _ ?_;rw[he];exact Oo.mpr ⟨rfl,CY _,s2,hw⟩
   .rcases g.cl p h with q|⟨Ak,BC⟩
    .rcases List.mem_cons.mp q with q|q
     .exact absurd q A4
     .exact .inl (FZ _ q)
    .exact .inr ⟨FZ _ Ak,λe he=>FZ _ (BC e he)⟩
  .exact .inl (Fz _ Aj)
 .exact List.nodup_append.mpr ⟨aan,mO _ _ _ _,λx AG y Ba z=>(U2 Ba).choose_spec.2.2.2.2 (z▸(g.KX x (by simp[AG])).1)⟩
 .rw[Cg,By];rcases List.mem_append.mp Aj with h|h
  .refine⟨FZ _ (g.KX t (by simp[h])).1,λz=>?_⟩;rcases List.mem_append.mp z with z|z
   .exact(g.KX t (by simp[h])).2 z
   .rw[List.mem_singleton.mp z]at h;exact sp h
  .obtain⟨e,A9,AH,Au,CH,F1⟩:=U2 h;refine⟨Fz _ h,λz=>?_⟩;rcases List.mem_append.mp z with z|z
   .obtain⟨q,AV,rfl⟩:=List.mem_map.mp z;exact F1 (g.un q AV).1
   .rw[List.mem_singleton.mp z]at F1;exact F1 QI
 .rcases mem AZ with h|⟨t,Aj,rfl⟩
  .exact g.Lx p h
  .obtain⟨e,A9,AH,Au,CH,F1⟩:=U2 Aj;have:=Jp.go l s e t.2 (g.Lx _ AJ) A9 Au CH;rw[<-AH]at this;exact this
def Good.rc(g:Good A N n d0 W U pd):∀p∈W,Rw N n d0 p.1:=λp h=>(g.Lx p h).W4
def Good.start{A:List AT}{N:AX->On}{n:Nat}{d0:AT}(hd:d0∈A):Good A N n d0 ((FW [] d0 0 n).map λt=>(t,[]++[t.2])) [] (FW [] d0 0 n):=by
 have Cg:((FW [] d0 0 n).map λt=>(t,([]:ι)++[t.2])).map (·.1)=FW [] d0 0 n:=by simp[Qq]
 have mem:∀{p:AX×ι},p∈(FW [] d0 0 n).map (λt=>(t,([]:ι)++[t.2]))->p.1∈FW [] d0 0 n/\p.2=[p.1.2]:=λh=>by obtain⟨t,Aj,rfl⟩:=List.mem_map.mp h;exact⟨Aj,rfl⟩
 refine⟨by rw[Cg];exact ZV _ _ _ _,λp AZ=>?_,λp AZ k A6 AA=>?_,λp AZ=>?_,.nil,(λq AV=>nomatch AV),λp AZ=>.inl (mem AZ).1,ZV _ _ _ _,λs AJ=>⟨by rw[Cg];exact AJ,(λz=>nomatch z)⟩,λp AZ=>?_⟩
 .obtain⟨A9,AH,Au,CH⟩:=Oo.mp (mem AZ).1;exact⟨A9▸hd,Au⟩
 .obtain⟨A9,AH,Au,CH⟩:=Oo.mp (mem AZ).1;rw[Cg];exact Oo.mpr ⟨A9,IT _,AA,(λz=>nomatch z)⟩
 .rw[(mem AZ).2];refine⟨rfl,?_⟩;have:=UB AZ;simp at this |-;lia
 .obtain⟨A9,AH,Au,CH⟩:=Oo.mp (mem AZ).1;have:=Jp.st (N:=N) (n:=n) (d0:=d0) p.1.2 Au;rw[(mem AZ).2]
  rwa [show((d0,p.1.2):AX)=p.1 from N0 A9.symm rfl]at this
end
def vY(W:F0)(s:AX):findD ((W.map (·.1)).map Dr) (W.map λp=>CS p.2) (Dr s)=(W.find? λp=>decide (p.1=s)).map λp=>CS p.2:=by
 unfold findD;induction W with
 |nil=>rfl
 |cons p W Bh=>
  erw[Du,K5,IV];by_cases h:p.1=s
  .simp[h]
  .have:¬Dr p.1=Dr s:=λz=>h (a7 z);erw[h,this,decide_false];exact Bh
def uV(U:To)(s:AX):findD ((U.map (·.1)).map Dr) (U.map λp=>CI p.1.1.1 p.2) (Dr s)=(U.find? λp=>decide (p.1=s)).map λp=>CI p.1.1.1 p.2:=by
 unfold findD;induction U with
 |nil=>rfl
 |cons p U Bh=>
  erw[Du,K5,IV];by_cases h:p.1=s
  .simp[h]
  .have:¬Dr p.1=Dr s:=λz=>h (a7 z);erw[h,this,decide_false];exact Bh
def ia{β:Type}{l:List (AX×β)}{s:AX}(h:s∈l.map (·.1)):∃x,(s,x)∈l/\l.find? (λp=>decide (p.1=s))=some (s,x):=by
 cases e:l.find? λp=>decide (p.1=s)with
 |none=>obtain⟨p,AZ,rfl⟩:=List.mem_map.mp h;have:=List.find?_eq_none.mp e p AZ;simp at this
 |some q=>
  have A6:=List.find?_some e;have AA:=qk e;have:q.1=s:=(A6:)
  refine⟨q.2,?_,?_⟩<;>rw[<-this]<;>first|exact AA|rfl
noncomputable def e4:B0:=BU 5 (Hs (Br 4 OM (A1 (C4 (Dw "Weaver" "net") (J 0)) (A1 (A3 AM (A3 AM (C4 (Dw "Weaver" "stages") (J 0)) (A3 AM (J 4) (A5 (.int 1)))) (A3 AM (A3 AM (J 4) (A5 (.int 0))) (A5 (.int 0)))) (A1 (A3 AM (J 4) (A5 (.int 0))) (A1 (C4 (Dw "Weaver" "address") (J 0)) (AF)))))))
noncomputable def Wi:B0:=C9 (Ax (A3 (BP true) (A3 AM (J 5) (A5 (.int 0))) (A5 (.str (B_ "at"))))) (QZ (T2 3 (KF 0 "Weaver" "entered" 2 Qg (A1 (C_ (A1 (A3 AM (J 5) (A5 (.int 1))) (A1 (A3 AM (J 5) (A5 (.int 2))) (AF)))) (A1 (Q_ 0 "Weaver" "woven" (J 4)) (AF)))))) (CU)
def eX:B0:=AS e4 (AS (NW 0 "Weaver" "told" (J 4) (J 5)) Wi)
def av(h:Nat)(o:On):QN (CI h o)=true:=by cases o<;>rfl
section
variable{cs:ι}{ws:List (AT×AT)}{Bk:Nat->List (List Cz)}{n a:Nat}{W:F0}{U:To}
def afe(ok:GQ cs ws Bk n a){s:AX}(A6:s.1.1<cs.length)(AA:s.2<n)(s1 s2 s3 s5:Bb):e4 [.Bg 0 (D9 (D_ cs ws) (.lst (Co n Bk)) a W U),s1,s2,s3,.A2 (BB s),s5]=.ok (.B6 [.Bg 0 (D9 (D_ cs ws) (.lst (Co n Bk)) a W U),s1,s2,s3,.A2 (BB s),.A2 (CI s.1.1 (B3 ws Bk a s))]):=by
 have Bd:AM (BB s) (.int 1)=.ok (BE s.2):=rfl;have DH:AM (BB s) (.int 0)=.ok (AY s.1):=rfl;have Uv:AM (AY s.1) (.int 0)=.ok (.int (s.1.1:Int)):=rfl;have AR:=ok.AR s.2 AA;have Cg:AM (.lst (Co n Bk)) (BE s.2)=.ok (DC (Bk s.2)):=IF (by simp[Co,AA]);have By:=Pc (bs:=Bk s.2) (h:=s.1.1) δ;have on:=aaH (cs:=cs) (ws:=ws) (b:=(Bk s.2).getD s.1.1 []) (λr B5=>by
  have AN:s.1.1<(Bk s.2).length:=δ
  have eg:(Bk s.2).getD s.1.1 []=(Bk s.2)[s.1.1]:=by simp[AN]
  rw[eg]at B5;exact ok.pt s.2 AA _ (MC _) r B5) s.1.1 s.1.2 a ok.AD
 have mU:OM [D_ cs ws,DB ((Bk s.2).getD s.1.1 []),AY s.1,.int (a:Int)]=.ok (.v (CI s.1.1 (B3 ws Bk a s))):=on;generalize(Bk s.2).getD s.1.1 []=S3 at By mU;simp[e4,Tf,uR,j5,ud,DH,Bd,Uv,Cg,By,mU,av]
end
section
variable{cs:ι}{ws:List (AT×AT)}{Bk:Nat->List (List Cz)}{n a:Nat}{W:F0}{U:To}
def ha{X:D}{Ys:μ}{ma:B1}{r:AI}{e:AT}{l:ι}(AQ:Ys.length<=7)(Yh:W.length+7<=1000)(AN:l.length<=1000)(VD:Ff l<=1000)(hm:ma (.Bg 0 (D9 X (.lst Ys) a W U)::r)=.ok [AY e,CS l]) :
  KF 0 "Weaver" "entered" 2 Qg ma (.Bg 0 (D9 X (.lst Ys) a W U)::r)=.ok (.lst ((FW W e (Ff l) Ys.length).map BB),.Bg 0 (D9 X (.lst Ys) a (W++(FW W e (Ff l) Ys.length).map λs=>(s,l++[s.2])) U)::r):=by
 have FI:=sv (X:=X) (a:=a) (W:=W) (U:=U) AQ Yh e l AN VD;have BW:QW.all (λk=>!(("entered" :Str)==k))=true:=ε
 erw[KF,LR,hm,U1,BX,KZ];unfold D9 at FI |-;erw[VY];rw[if_pos ⟨trivial,BW,rfl⟩,FI];rfl
def afc(AQ:n<=7)(Yh:W.length<=168){s:AX}{l:ι}(hf:W.find? (λp=>decide (p.1=s))=some (s,l))(AN:l.length<=1000)(VD:Ff l=s.2)(AJ:s.2<n)(F:List AX)(Lz:F.length<=1000)(s1 s2:Bb)(o:On) :
  Wi [.Bg 0 (D9 (D_ cs ws) (.lst (Co n Bk)) a W U),s1,s2,.Bm (F.map BB),.A2 (BB s),.A2 (CI s.1.1 o)]=.ok (.B6 [.Bg 0 (D9 (D_ cs ws) (.lst (Co n Bk)) a (W++(KW W n s o).map λt=>(t,l++[t.2])) U),s1,s2,.Bm ((F++KW W n s o).map BB),.A2 (BB s),.A2 (CI s.1.1 o)]):=by
 cases o with
 |drop=>have DH:AM (CI s.1.1 .drop) (.int 0)=.ok (st "drop"):=rfl;have q:BP true (st "drop") (.str (B_ "at"))=.ok (.AR false):=rfl;simp[Wi,DH,q,KW]
 |out x=>have DH:AM (CI s.1.1 (.out x)) (.int 0)=.ok (st "out"):=rfl;have q:BP true (st "out") (.str (B_ "at"))=.ok (.AR false):=rfl;simp[Wi,DH,q,KW]
 |to e=>
  have DH:AM (CI s.1.1 (.to e)) (.int 0)=.ok (st "at"):=rfl;have Bd:AM (CI s.1.1 (.to e)) (.int 1)=.ok (.int (e.1:Int)):=rfl;have C1:AM (CI s.1.1 (.to e)) (.int 2)=.ok (.int (e.2:Int)):=rfl;have q:BP true (st "at") (.str (B_ "at"))=.ok (.AR true):=rfl;have ls:(Co n Bk).length=n:=by simp[Co]
  have Ag:Q_ 0 "Weaver" "woven" (J 4) [.Bg 0 (D9 (D_ cs ws) (.lst (Co n Bk)) a W U),s1,s2,.Bm (F.map BB),.A2 (BB s),.A2 (CI s.1.1 (.to e))]=.ok (CS l):=by erw[Q_,iX,BX,v_var,MD,LR,Kx,Gq,NT,vY,hf,fU]
  have hm:(A1 (C_ (A1 (A3 AM (J 5) (A5 (.int 1))) (A1 (A3 AM (J 5) (A5 (.int 2))) (AF)))) (A1 (Q_ 0 "Weaver" "woven" (J 4)) (AF))) [.Bg 0 (D9 (D_ cs ws) (.lst (Co n Bk)) a W U),s1,s2,.Bm (F.map BB),.A2 (BB s),.A2 (CI s.1.1 (.to e))]=.ok [AY e,CS l]:=by erw[Gi,Ag];simp[Bd,C1,AY]
  have ce:=ha (X:=D_ cs ws) (Ys:=Co n Bk) (a:=a) (W:=W) (U:=U) (e:=e) (l:=l) δ δ AN δ hm;rw[ls,VD]at ce;have ln:(FW W e s.2 n).length<=7:=by unfold FW;refine FF (q_ _ _) ?_;simp;lia
  have ex:T2 3 (KF 0 "Weaver" "entered" 2 Qg (A1 (C_ (A1 (A3 AM (J 5) (A5 (.int 1))) (A1 (A3 AM (J 5) (A5 (.int 2))) (AF)))) (A1 (Q_ 0 "Weaver" "woven" (J 4)) (AF)))) [.Bg 0 (D9 (D_ cs ws) (.lst (Co n Bk)) a W U),s1,s2,.Bm (F.map BB),.A2 (BB s),.A2 (CI s.1.1 (.to e))]=.ok (.non,[.Bg 0 (D9 (D_ cs ws) (.lst (Co n Bk)) a (W++(FW W e s.2 n).map λt=>(t,l++[t.2])) U),s1,s2,.Bm ((F++FW W e s.2 n).map BB),.A2 (BB s),.A2 (CI s.1.1 (.to e))]):=by erw[T2,ce];simp[WQ,show F.length+(FW W e s.2 n).length<=1000000 by lia]
  rw[Wi,pz];erw[pw,ex];simp[DH,q,KW]
def afb(ok:GQ cs ws Bk n a){d0:AT}{s:AX}{pd F:List AX}(g:Good (C6 cs cs.length) (B3 ws Bk a) n d0 W U (s::pd++F))(s1 s2 s5:Bb) :
  ∃N:List AX,∃l:ι,(s,l)∈W/\N=KW W n s (B3 ws Bk a s)/\eX [.Bg 0 (D9 (D_ cs ws) (.lst (Co n Bk)) a W U),s1,s2,.Bm (F.map BB),.A2 (BB s),s5]=.ok (.B6 [.Bg 0 (D9 (D_ cs ws) (.lst (Co n Bk)) a (W++N.map λt=>(t,l++[t.2])) (U++[(s,B3 ws Bk a s)])),s1,s2,.Bm ((F++N).map BB),.A2 (BB s),.A2 (CI s.1.1 (B3 ws Bk a s))]):=by
 have NV:=Nn ok.EO.c cs.length;have DE:=ok.EO.DE;have IJ:=ok.IJ;have G7:=g.few δ IJ;have QI:=(g.KX s γ).1;obtain⟨l,AJ,hf⟩:=ia QI;have cb:=g.inr _ AJ;have AO:s.1.1<cs.length:=(M9.mp cb.1).1;have AN:=g.lst _ AJ;have HV:F.length<=168:=by have:=Mu g.Bg λx AG=>(g.KX x AG).1;simp at this;lia
 have ul:U.length<=168:=by
  have:=Mu g.mN λx AG=>by obtain⟨q,AV,rfl⟩:=List.mem_map.mp AG;exact(g.un q AV).1
  simp at this;lia
 refine⟨_,l,AJ,rfl,?_⟩;have A9:=afe (W:=W) (U:=U) ok AO cb.2 s1 s2 (.Bm (F.map BB)) s5;have AH:=acT (X:=D_ cs ws) (Y:=.lst (Co n Bk)) (a:=a) (W:=W) (U:=U) (s:=s) (o:=B3 ws Bk a s) (r:=[s1,s2,.Bm (F.map BB),.A2 (BB s),.A2 (CI s.1.1 (B3 ws Bk a s))]) (mk:=J 4) (mv:=J 5) γ γ (g.KX s γ).2 δ;have Au:=afc (cs:=cs) (ws:=ws) (Bk:=Bk) (a:=a) (U:=U++[(s,B3 ws Bk a s)]) IJ G7 hf (by have:=AN.2;simp at this;lia) AN.1 cb.2 F δ s1 s2 (B3 ws Bk a s);rw[eX,ED,A9,BX,F4,ED,AH,BX,F4,Au]
end
def zz{ws:List (AT×AT)}{b:List Cz}{h d a:Nat}{e:AT}(he:B6 ws b h d a=.to e):e∈ends ws:=by
 unfold B6 at he
 split at he
 .cases he
 .split at he
  .cases he
  .split at he
   .cases he
   .rename_i A0;cases he;exact sm A0
section
variable{cs:ι}{ws:List (AT×AT)}{Bk:Nat->List (List Cz)}{n a:Nat}{d0:AT}
def YC(ok:GQ cs ws Bk n a)(s:AX)(e:AT)(h:B3 ws Bk a s=.to e):e∈C6 cs cs.length:=ok.EO.sub _ (zz h)
def Mq(cs:ι)(ws:List (AT×AT))(Bk:Nat->List (List Cz))(n a:Nat)(W:F0)(U:To)(s1:Bb)(F6:List AX)(s3 s4 s5:Bb):AI:=[.Bg 0 (D9 (D_ cs ws) (.lst (Co n Bk)) a W U),s1,.A2 (.lst (F6.map BB)),s3,s4,s5]
def eY:B0:=AS (Dq (H2 (J 2)) (BK 4) eX) (OF 3 (BU 2 (J 3)))
def afd(ok:GQ cs ws Bk n a){LA:F0}{Pm:To}{F6:List AX}(g:Good (C6 cs cs.length) (B3 ws Bk a) n d0 LA Pm F6)(h0:((d0,0):AX)∈LA.map (·.1))(s1 s4 s5:Bb) :
  Ends (eY (Mq cs ws Bk n a LA Pm s1 F6 (.Bm []) s4 s5)) (IZ λρ=>∃W U F s3 s4 s5,Good (C6 cs cs.length) (B3 ws Bk a) n d0 W U F/\W.length=LA.length+F.length/\((d0,0):AX)∈W.map (·.1)/\ρ=Mq cs ws Bk n a W U s1 F s3 s4 s5):=by
 unfold eY;rw[ED];refine NH BB F6 (λj ρ=>∃W U F s4 s5,Good (C6 cs cs.length) (B3 ws Bk a) n d0 W U (F6.drop j++F)/\W.length=LA.length+F.length/\((d0,0):AX)∈W.map (·.1)/\ρ=Mq cs ws Bk n a W U s1 F6 (.Bm (F.map BB)) s4 s5) (by simp[Mq]) ⟨LA,Pm,[],s4,s5,(g:),γ,h0,rfl⟩ ?_ ?_
 .rintro j s _ Bi ⟨W,U,F,s4,s5,g,lw,h0,rfl⟩;obtain⟨AN,rfl⟩:=List.getElem?_eq_some_iff.mp Bi;rw[Wm AN]at g;obtain⟨N,l,AJ,tI,IA⟩:=afb ok g s1 (.A2 (.lst (F6.map BB))) s5;have L1:BK 4 (BB F6[j]) (Mq cs ws Bk n a W U s1 F6 (.Bm (F.map BB)) s4 s5)=.ok [.Bg 0 (D9 (D_ cs ws) (.lst (Co n Bk)) a W U),s1,.A2 (.lst (F6.map BB)),.Bm (F.map BB),.A2 (BB F6[j]),s5]:=rfl;rw[L1,BX,IA];have g':=Good.step (pd:=F6.drop (j+1)++F) (YC ok) g AJ;rw[<-tI,O1]at g';exact⟨_,rfl,_,rfl,_,_,F++N,_,_,g',by simp[lw,Nz],by rw[Hy];exact FZ _ h0,rfl⟩
 .rintro _ ⟨W,U,F,s4,s5,g,lw,h0,rfl⟩;rw[List.drop_length,UM]at g;exact⟨_,rfl,_,rfl,W,U,F,_,_,_,g,lw,h0,rfl⟩
def dy(l:List AX):(l.map BB).all (okN 7)=true:=by simp[BB,AY,BE,okN]
def eW:B0:=JS (Ax (A3 (BP false) (J 2) (Bo (CZ (AF))))) (AS (EK 3 (CZ (AF))) eY)
def afa(ok:GQ cs ws Bk n a){LA:F0}{Pm:To}{F6:List AX}(g:Good (C6 cs cs.length) (B3 ws Bk a) n d0 LA Pm F6)(h0:((d0,0):AX)∈LA.map (·.1))(s1 s3 s4 s5:Bb) :
  ∃W U,Good (C6 cs cs.length) (B3 ws Bk a) n d0 W U []/\((d0,0):AX)∈W.map (·.1)/\(eW (Mq cs ws Bk n a LA Pm s1 F6 s3 s4 s5)).bind U4=.ok (.non,D9 (D_ cs ws) (.lst (Co n Bk)) a W U):=by
 have NV:=Nn ok.EO.c cs.length;have DE:=ok.EO.DE;suffices h:Ends ((eW (Mq cs ws Bk n a LA Pm s1 F6 s3 s4 s5)).bind U4) (λy=>∃W U,Good (C6 cs cs.length) (B3 ws Bk a) n d0 W U []/\((d0,0):AX)∈W.map (·.1)/\y=(.non,D9 (D_ cs ws) (.lst (Co n Bk)) a W U))by
  obtain⟨y,e,W,U,g,h0,rfl⟩:=h;exact⟨W,U,g,h0,e⟩
 refine Vc (λm ρ=>∃W U F6 s3 s4 s5,Good (C6 cs cs.length) (B3 ws Bk a) n d0 W U F6/\((d0,0):AX)∈W.map (·.1)/\m=(169-W.length)+(if F6=[]then 0 else 1)/\ρ=Mq cs ws Bk n a W U s1 F6 s3 s4 s5) (n:=(169-LA.length)+(if F6=[]then 0 else 1)) ⟨LA,Pm,F6,s3,s4,s5,g,h0,rfl,rfl⟩ (by split<;>lia) ?_;rintro m _ ⟨W,U,F6,s3,s4,s5,g,h0,rfl,rfl⟩;refine⟨!(F6.map BB).isEmpty,?_,λAj=>?_,λAj=>?_⟩
 .have:=ne_nil (dy F6);simp[Mq,lim,this]
 .have e:EK 3 (CZ AF) (Mq cs ws Bk n a W U s1 F6 s3 s4 s5)=.ok (.B6 (Mq cs ws Bk n a W U s1 F6 (.Bm []) s4 s5)):=rfl;rw[ED,e,BX,F4];refine(afd ok g h0 s1 s4 s5).mono ?_;rintro f ⟨ρ,rfl,rU,rT,F,s3,s4,s5,g',lw,h0,rfl⟩;refine⟨_,rfl,_,?_,rU,rT,F,s3,s4,s5,g',h0,rfl,rfl⟩;have G7:=g'.few δ ok.IJ;have hw:F6≠[]:=by rintro rfl;simp at Aj
  rw[if_neg hw];cases F with
  |nil=>simp at lw |-;lia
  |cons x F=>simp at lw |-;lia
 .have:F6=[]:=by simpa using Aj
  subst this;exact⟨_,rfl,W,U,g,h0,rfl⟩
def afW(ok:GQ cs ws Bk n a)(hd:d0∈C6 cs cs.length):∃W U,Good (C6 cs cs.length) (B3 ws Bk a) n d0 W U []/\((d0,0):AX)∈W.map (·.1)/\WX (D9 (D_ cs ws) (.lst (Co n Bk)) a [] []) [AY d0]=.ok (.non,D9 (D_ cs ws) (.lst (Co n Bk)) a W U):=by
 have Cv:=ok.Cv;have IJ:=ok.IJ;have BS:Xs=AS (NY 2 (KF 0 "Weaver" "entered" 2 Qg (A1 (J 1) (A1 (Bo (CZ (AF))) (AF))))) eW:=rfl;have gs:=Good.start (N:=B3 ws Bk a) (n:=n) hd;have h0:((d0,0):AX)∈((FW [] d0 0 n).map λt=>(t,([]:ι)++[t.2])).map (·.1):=by have:((d0,0):AX)∈FW [] d0 0 n:=Oo.mpr ⟨rfl,CY _,by show 0<n;lia,λz=>nomatch z⟩;rw[IU];exact List.mem_map.mpr ⟨_,this,rfl⟩
 obtain⟨W,U,g,Aq,e⟩:=afa ok gs h0 (.A2 (AY d0)) .un .un .un;refine⟨W,U,g,Aq,?_⟩;have ls:(Co n Bk).length=n:=by simp[Co]
 have ce:=ha (X:=D_ cs ws) (Ys:=Co n Bk) (a:=a) (W:=[]) (U:=[]) (e:=d0) (l:=[]) (ma:=A1 (J 1) (A1 (Bo (CZ (AF))) (AF))) (r:=[.A2 (AY d0),.un,.un,.un,.un]) δ (Wu rfl) (IT _) (IT _) (by simp[lim,CS]);rw[ls]at ce;show(Xs [.Bg 0 (D9 (D_ cs ws) (.lst (Co n Bk)) a [] []),.A2 (AY d0),.un,.un,.un,.un]).bind U4=_;rw[BS,ED,ads,ce,<-e];rfl
def afR(ok:GQ cs ws Bk n a)(hd:d0∈C6 cs cs.length):∃W U,Good (C6 cs cs.length) (B3 ws Bk a) n d0 W U []/\((d0,0):AX)∈W.map (·.1)/\WW [D_ cs ws,.lst (Co n Bk),AY d0,.int (a:Int),.non]=.ok (D9 (D_ cs ws) (.lst (Co n Bk)) a W U):=by
 obtain⟨W,U,g,h0,e⟩:=afW ok hd;refine⟨W,U,g,h0,?_⟩;have BW:QW.all (λk=>!(("weave" :Str)==k))=true:=ε
 have z:KF 0 "Weaver" "weave" 1 WX (A1 (J 3) AF) [.Bg 0 (D9 (D_ cs ws) (.lst (Co n Bk)) a [] []),.A2 (D_ cs ws),.A2 (.lst (Co n Bk)),.A2 (AY d0),.A2 (.int (a:Int)),.A2 .non]=.ok (.non,[.Bg 0 (D9 (D_ cs ws) (.lst (Co n Bk)) a W U),.A2 (D_ cs ws),.A2 (.lst (Co n Bk)),.A2 (AY d0),.A2 (.int (a:Int)),.A2 .non]):=by erw[KF,LR,Gi,Ka,v_var,MD,Kx,U1,BX,KZ];unfold D9 at e |-;erw[VY];rw[if_pos ⟨trivial,BW,rfl⟩,e];rfl
 have AH:VP [.Bg 0 (.ins "Weaver" [] []),.A2 (D_ cs ws),.A2 (.lst (Co n Bk)),.A2 (AY d0),.A2 (.int (a:Int)),.A2 .non]=QZ (KF 0 "Weaver" "weave" 1 WX (A1 (J 3) (AF))) [.Bg 0 (D9 (D_ cs ws) (.lst (Co n Bk)) a [] []),.A2 (D_ cs ws),.A2 (.lst (Co n Bk)),.A2 (AY d0),.A2 (.int (a:Int)),.A2 .non]:=by
  have HV:∀(f:Str)(ns:List Str)(Aw:List T)(t:T)(r:AI),ns.all (λk=>!(f==k))=true->ns.length<1000->TL "Weaver" f t (.Bg 0 (.ins "Weaver" ns Aw)::r) ((.Bg 0 (.ins "Weaver" ns Aw)::r:AI)[0]? :Option Bb)=.ok (.B6 (.Bg 0 (.ins "Weaver" (ns++[f]) (Aw++[t]))::r)):=λf ns Aw t r A6 AA=>by rw[LR];erw[TL];rw[if_pos ⟨trivial,A6,AA⟩];rfl
  have EA:∀(f:Str)(ns:List Str)(Aw:List T)(m:Ae)(d:D)(r:AI)(b:B0),m (.Bg 0 (.ins "Weaver" ns Aw)::r)=.ok d->ns.all (λk=>!(f==k))=true->ns.length<1000->AS (Qa "Weaver" f m) b (.Bg 0 (.ins "Weaver" ns Aw)::r)=b (.Bg 0 (.ins "Weaver" (ns++[f]) (Aw++[.A2 d]))::r):=λf ns Aw m d r b h A6 AA=>by rw[ED,Qa,h,BX,HV _ _ _ _ _ A6 AA,BX,F4]
  have Cw:∀(f:Str)(ns:List Str)(Aw:List T)(r:AI)(b:B0),ns.all (λk=>!(f==k))=true->ns.length<1000->AS (TX "Weaver" f) b (.Bg 0 (.ins "Weaver" ns Aw)::r)=b (.Bg 0 (.ins "Weaver" (ns++[f]) (Aw++[.An [] []]))::r):=λf ns Aw r b A6 AA=>by rw[ED,TX,HV _ _ _ _ _ A6 AA,BX,F4]
  unfold VP;rw[EA _ _ _ _ _ _ _ rfl ε ε,EA _ _ _ _ _ _ _ rfl ε ε,EA _ _ _ _ _ _ _ rfl ε ε,EA _ _ _ _ _ _ _ rfl ε ε,Cw _ _ _ _ _ ε ε,Cw _ _ _ _ _ ε ε];rfl
 show((VP [.Bg 0 (.ins "Weaver" [] []),.A2 (D_ cs ws),.A2 (.lst (Co n Bk)),.A2 (AY d0),.A2 (.int (a:Int)),.A2 .non]).bind U4).bind l6=_;rw[AH,pw,z];rfl
end
noncomputable def Hu(N:AX->On)(s:AX):Option AX:=match N s with
 |.to e=>some (e,s.2)
 |_=>none
noncomputable def N3(o:Option AX):D:=(o.map BB).getD .non
noncomputable def Cf(N:AX->On)(s:AX):Nat->Option AX
 |0=>some s
 |k+1=>(Cf N s k).bind (Hu N)
def ef(a b:AX):Ci (BB a) (BB b)=decide (a=b):=by
 show(Ci (AY a.1) (AY b.1)&&(((a.2:Int)==(b.2:Int))&&true))=_;rw[Z1,Sf,JI,Fj,beq_iff_eq,decide_eq_true_iff,decide_eq_true_iff];constructor
 .intro⟨A6,AA⟩;exact N0 A6 δ
 .rintro rfl;exact⟨rfl,rfl⟩
def sU(ds:List AX)(d:AX):((ds.map BB).any λy=>Ci y (BB d))=decide (d∈ds):=by
 rw[PQ,JI,UL,decide_eq_true_iff];constructor
 .rintro⟨x,AG,h⟩;have:=(ef x d).symm.trans h;rw[decide_eq_true_iff]at this;rw[<-this];exact AG
 .intro h;exact⟨d,h,by show Ci (BB d) (BB d)=true;rw[ef];simp⟩
def xA(ds:List AX)(d:AX):inD false (BB d) (.lst (ds.map BB))=.ok (.AR (!decide (d∈ds))):=by have s:QK (.lst (ds.map BB))=some (ds.map BB):=rfl;have o:okN 7 (BB d)=true:=rfl;erw[inD,s,dy,o,and_self,if_true,sU];rfl
def j0(o:Option AX)(s:AX):BP true (N3 o) (BB s)=.ok (.AR (decide (o=some s))):=by
 have D3:okN 8 (BB s)=true:=rfl;cases o with
 |none=>rfl
 |some t=>have D0:okN 8 (BB t)=true:=rfl;show BP true (BB t) (BB s)=_;unfold BP;rw[if_pos ⟨D0,D3⟩,if_pos rfl,ef];by_cases h:t=s<;>simp[h]
section
variable{N:AX->On}
theorem l8{s:AX}{i j:Nat}(h:Cf N s (j+1)=Cf N s i)(AC:i<=j):∀k,i<=k->∃q,i<=q/\q<=j/\Cf N s k=Cf N s q
 |0,AE=>⟨0,AE,IT _,rfl⟩
 |k+1,AE=>by
  by_cases e:i=k+1
  .exact⟨i,CY _,AC,by rw[e]⟩
  .obtain⟨q,Ak,BC,EB⟩:=l8 h AC k δ;have A9:Cf N s (k+1)=Cf N s (q+1):=by erw[Cf,EB]
   by_cases z:q=j
   .subst z;exact⟨i,CY _,AC,A9.trans h⟩
   .exact⟨q+1,δ,δ,A9⟩
structure T_(N:AX->On)(s:AX)(gl:List AX):Prop where
 Cs:gl.Nodup
 pos:0<gl.length
 it:∀i,i<gl.length->gl[i]?=Cf N s i
def T_.snoc{s t:AX}{gl:List AX}(h:T_ N s gl)(Aj:Cf N s gl.length=some t)(AQ:t∉gl):T_ N s (gl++[t]):=by
 refine⟨List.nodup_append.mpr ⟨h.Cs,γ,λx AG y Ba z=>by rw[List.mem_singleton.mp Ba]at z;exact AQ (z▸AG)⟩,γ,λi AC=>?_⟩;rw[JK,U7]at AC;by_cases q:i<gl.length
 .rw[IS q];exact h.it i q
 .obtain rfl:i=gl.length:=δ
  rw[Aj];simp
def T_.round{s:AX}{gl:List AX}(h:T_ N s gl)(he:∀t,Cf N s gl.length=some t->t∈gl){m:Nat}(hm:1<=m)(B5:Cf N s m=some s):Cf N s gl.length=some s:=by
 have p:=h.pos;have dist:∀i j,i<j->j<gl.length->Cf N s i≠Cf N s j:=λi j VC Bi z=>by rw[<-h.it i δ,<-h.it j Bi,Dt δ,Dt Bi]at z;exact List.pairwise_iff_getElem.mp h.Cs i j δ Bi VC (Ey z)
 have nn:∀k,k<=m->Cf N s k=none->Cf N s m=none:=by
  intro k AE e;obtain⟨q,rfl⟩:=Nat.le.dest AE;clear B5 hm AE;induction q with
  |zero=>exact e
  |succ q Bh=>rw[<-Nz];erw[Cf,Bh,Option.bind_none]
 have MQ:gl.length<=m:=by refine Nat.le_of_not_lt λz=>dist 0 m δ z ?_;rw[B5];rfl
 cases e:Cf N s gl.length with
 |none=>rw[nn _ MQ e]at B5;cases B5
 |some t=>
  obtain⟨i,AC,Fv⟩:=Qv (he t e);have AH:Cf N s i=some t:=by rw[<-h.it i AC,Dt AC,Fv]
  by_cases z:i=0
  .subst z;rw[<-AH];rfl
  .obtain⟨j,Bi⟩:∃j,gl.length=j+1:=⟨gl.length-1,δ⟩;rw[Bi]at e AC MQ;obtain⟨q,Ak,BC,EB⟩:=l8 (e.trans AH.symm) δ m δ;exact absurd ((show Cf N s 0=Cf N s m by rw[B5];rfl).trans EB) (dist 0 q δ δ)
end
section
variable{A:List AT}{N:AX->On}{n:Nat}{d0:AT}{W:F0}{U:To}{X Y:D}{a:Nat}
def oq(g:Good A N n d0 W U []){s:AX}(AJ:s∈W.map (·.1)):Gq (.An ((U.map (·.1)).map Dr) (U.map λp=>CI p.1.1.1 p.2)) (BB s)=.ok (CI s.1.1 (N s)):=by
 obtain⟨p,AZ,rfl⟩:=List.mem_map.mp AJ;rcases g.cl p AZ with h|⟨h,_⟩
 .cases h
 .obtain⟨x,AG,hf⟩:=ia h;have e:=(g.un _ AG).2;dsimp only at e;subst e;erw[Gq,NT,uV,hf,fU]
def dq(g:Good A N n d0 W U []){s t:AX}(AJ:s∈W.map (·.1))(h:Hu N s=some t):t∈W.map (·.1):=by
 obtain⟨p,AZ,rfl⟩:=List.mem_map.mp AJ;rcases g.cl p AZ with q|⟨_,q⟩
 .cases q
 .unfold Hu at h
  split at h
  .rename_i e he;cases h;exact q e he
  .cases h
def i2(g:Good A N n d0 W U []){s:AX}(AJ:s∈W.map (·.1)):N_ [Ds X Y a W U,BB s]=.ok (.v (N3 (Hu N s))):=by
 have t:=oq g AJ;have Bd:AM (BB s) (.int 1)=.ok (BE s.2):=rfl;unfold Hu;cases e:N s with
 |drop=>rw[e]at t;have DH:AM (CI s.1.1 .drop) (.int 0)=.ok (st "drop"):=rfl;have q:BP false (st "drop") (.str (B_ "at"))=.ok (.AR true):=rfl;simp[-IU,N_,Uq,Z5,t,e,DH,q,N3]
 |out x=>rw[e]at t;have DH:AM (CI s.1.1 (.out x)) (.int 0)=.ok (st "out"):=rfl;have q:BP false (st "out") (.str (B_ "at"))=.ok (.AR true):=rfl;simp[-IU,N_,Uq,Z5,t,e,DH,q,N3]
 |to d=>rw[e]at t;have DH:AM (CI s.1.1 (.to d)) (.int 0)=.ok (st "at"):=rfl;have Og:AM (CI s.1.1 (.to d)) (.int 1)=.ok (.int (d.1:Int)):=rfl;have Uw:AM (CI s.1.1 (.to d)) (.int 2)=.ok (.int (d.2:Int)):=rfl;have q:BP false (st "at") (.str (B_ "at"))=.ok (.AR false):=rfl;have BC:BP true (.int (d.1:Int)) .non=.ok (.AR false):=rfl;simp[-IU,N_,Uq,Z5,bI,t,e,DH,Bd,Og,Uw,q,BC,N3];rfl
def nh:QJ "Weaver" "behind" (Ds X Y a W U)=.ok (Ds X Y a W U):=rfl
def dZ:Ck:=EH (IH (Ax (A3 (GW false) (J 3) (A5 .non))) (Ax (A3 (inD false) (J 3) (J 2))))
def nZ:B0:=AS (Gz 2 (J 3)) (BU 3 (Il "Weaver" "behind" 1 N_ (J 0) (A1 (J 3) (AF))))
def ae:B0:=OF 2 (CV (MO (Ax (A3 (BP true) (J 3) (J 1))) (J 2) (Bo (CZ (AF)))))
theorem Zk(g:Good A N n d0 W U []){s:AX}(AJ:s∈W.map (·.1)):∀(k:Nat)(t:AX),Cf N s k=some t->t∈W.map (·.1)
 |0,t,h=>by cases h;exact AJ
 |k+1,t,h=>by erw[Cf]at h;obtain⟨u,BM,h⟩:=Option.bind_eq_some_iff.mp h;exact dq g (Zk g AJ k u BM) h
def acC(g:Good A N n d0 W U [])(G7:W.length<=168){s:AX}(AJ:s∈W.map (·.1)):∃R:List AX,R.length<=168/\(R≠[]↔∃m,1<=m/\Cf N s m=some s)/\(R≠[]->Cf N s R.length=some s)/\Tq [Ds X Y a W U,BB s]=.ok (.v (.lst (R.map BB))):=by
 suffices h:Ends (Tq [Ds X Y a W U,BB s]) (λy=>∃R:List AX,R.length<=168/\(R≠[]↔∃m,1<=m/\Cf N s m=some s)/\(R≠[]->Cf N s R.length=some s)/\y=.v (.lst (R.map BB)))by
  obtain⟨y,e,R,A6,AA,Ao,rfl⟩:=h;exact⟨R,A6,AA,Ao,e⟩
 have BS:Xr=AS (EK 2 (CZ (A1 (J 1) (AF)))) (AS (BU 3 (Il "Weaver" "behind" 1 N_ (J 0) (A1 (J 1) (AF)))) (AS (JS dZ nZ) ae)):=rfl;have A9:BU 3 (Il "Weaver" "behind" 1 N_ (J 0) (A1 (J 1) (AF))) [.A2 (Ds X Y a W U),.A2 (BB s),.Bm [BB s],.un]=.ok (.B6 [.A2 (Ds X Y a W U),.A2 (BB s),.Bm [BB s],.A2 (N3 (Hu N s))]):=by simp[nh,i2 g AJ]
 have DJ:EK 2 (CZ (A1 (J 1) (AF))) [.A2 (Ds X Y a W U),.A2 (BB s),.un,.un]=.ok (.B6 [.A2 (Ds X Y a W U),.A2 (BB s),.Bm [BB s],.un]):=rfl;have Bd:Cf N s 1=Hu N s:=rfl;show Ends ((Xr [.A2 (Ds X Y a W U),.A2 (BB s),.un,.un]).bind _) _;rw[BS,ED,DJ,BX,F4,ED,A9,BX,F4,ED,SV];refine Vc (λm ρ=>∃gl,T_ N s gl/\m=169-gl.length/\ρ=[.A2 (Ds X Y a W U),.A2 (BB s),.Bm (gl.map BB),.A2 (N3 (Cf N s gl.length))]) (n:=168) ⟨[s],⟨γ,γ,λi AC=>by rw[Nat.lt_one_iff.mp AC];rfl⟩,rfl,by rw[U7,Bd];rfl⟩ ε ?_;rintro m _ ⟨gl,EJ,rfl,rfl⟩;have vp:∀x∈gl,x∈W.map (·.1):=λx AG=>by obtain⟨i,AC,Fv⟩:=Qv AG;exact Zk g AJ i x (by rw[<-EJ.it i AC,Dt AC,Fv])
 have vq:gl.length<=168:=by have:=Mu EJ.Cs vp;simp at this;lia
 cases e:Cf N s gl.length with
 |none=>
  refine⟨false,?_,(λz=>nomatch z),λ_=>?_⟩
  .simp[dZ,N3,GW];intro z;cases z
  .have EY:∀m,1<=m->¬Cf N s m=some s:=λm hm B5=>by
     have:=EJ.round (λt Aj=>by rw[e]at Aj;cases Aj) hm B5;rw[e]at this;cases this
   refine⟨.v (.lst []),?_,[],γ,⟨λz=>absurd rfl z,λ⟨m,hm,B5⟩=>absurd B5 (EY m hm)⟩,(λz=>absurd rfl z),rfl⟩;have:=j0 none s;simp[ae,this,lim]
 |some t=>
  refine⟨!decide (t∈gl),?_,λAj=>?_,λAj=>?_⟩
  .have:=xA gl t;simp[dZ,N3,GW,this];intro z;cases z
  .have Aj:t∉gl:=by simpa using Aj
   have g2:=EJ.snoc e Aj;have aeA:=Zk g AJ _ t e;have b:=i2 (X:=X) (Y:=Y) (a:=a) g aeA;have Ur:Cf N s (gl.length+1)=Hu N t:=by erw[Cf,e,Mx]
   refine⟨_,?_,_,rfl,169-(gl++[t]).length,by simp;lia,gl++[t],g2,rfl,rfl⟩;rw[JK,U7,Ur];simp[nZ,N3,nh,show gl.length<1000000 by lia]at b |-;simp[b]
  .have Aj:t∈gl:=by simpa using Aj
   have q:=j0 (some t) s;by_cases Aw:t=s
   .subst Aw;refine⟨.v (.lst (gl.map BB)),?_,gl,vq,⟨λ_=>⟨gl.length,EJ.pos,e⟩,λ_ z=>by have:=EJ.pos;rw[z]at this;exact absurd this ε⟩,(λ_=>e),rfl⟩;simp[ae,q]
   .have EY:∀m,1<=m->¬Cf N s m=some s:=λm hm B5=>by
      have:=EJ.round (λt' jp=>by rw[e]at jp;cases jp;exact Aj) hm B5;rw[e]at this;exact Aw (Ey this)
    refine⟨.v (.lst []),?_,[],γ,⟨λz=>absurd rfl z,λ⟨m,hm,B5⟩=>absurd B5 (EY m hm)⟩,(λz=>absurd rfl z),rfl⟩;simp[ae,q,lim,Aw]
end
abbrev Cu:=Int×Int×Int
noncomputable def G5:List Cu:=(EN 6).map (λh:Nat=>(0,(h:Int),0))++((EN 6).map (λh:Nat=>(1,(h:Int),0))++((EN 6).flatMap (λh:Nat=>(EN 4).map λo:Nat=>(2,(h:Int),(o:Int)))++[(3,0,0)]))
def b_:G5.length=37:=ε
def Y1{h:Nat}(B4:h<6):((0,(h:Int),0):Cu)∈G5:=FZ _ (List.mem_map.mpr ⟨h,List.mem_range.mpr B4,rfl⟩)
def Y2{h:Nat}(B4:h<6):((1,(h:Int),0):Cu)∈G5:=Fz _ (FZ _ (List.mem_map.mpr ⟨h,List.mem_range.mpr B4,rfl⟩))
def XZ{h o:Nat}(B4:h<6)(ho:o<4):((2,(h:Int),(o:Int)):Cu)∈G5:=Fz _ (Fz _ (FZ _ (List.mem_flatMap.mpr ⟨h,List.mem_range.mpr B4,List.mem_map.mpr ⟨o,List.mem_range.mpr ho,rfl⟩⟩)))
def X_:((3,0,0):Cu)∈G5:=Fz _ (Fz _ (Fz _ γ))
def VV{k:Cu}(h:k∈G5):Op k:=by
 rcases List.mem_append.mp h with h|h
 .obtain⟨x,_,rfl⟩:=List.mem_map.mp h;exact .inl rfl
 .rcases List.mem_append.mp h with h|h
  .obtain⟨x,_,rfl⟩:=List.mem_map.mp h;exact .inr (.inl rfl)
  .rcases List.mem_append.mp h with h|h
   .obtain⟨x,_,h⟩:=List.mem_flatMap.mp h;obtain⟨y,_,rfl⟩:=List.mem_map.mp h;exact .inr (.inr (.inl rfl))
   .rw[List.mem_singleton.mp h];exact .inr (.inr (.inr rfl))
def dd{k:Cu}(h:Op k):ZQ (E1 k)=some k:=by rcases h with g|g|g|g<;>rw[g]<;>rfl
def aaf{a b:Cu}(AD:Op a)(A0:Op b)(h:E1 a=E1 b):a=b:=by have:=dd AD;rw[h,dd A0]at this;exact(Ey this).symm
abbrev Gm:=List (Cu×μ)
structure L8(P:Gm):Prop where
 Cs:(P.map (·.1)).Nodup
 cd:∀k∈P.map (·.1),k∈G5
def L8.few{P:Gm}(h:L8 P):P.length<=37:=by have:=Mu h.Cs h.cd;rw[b_]at this;simpa using this
def Q1(P:Gm):D:=.An ((P.map (·.1)).map E1) (P.map λp=>.lst p.2)
def FJ(P:Gm):Bb:=.ob (.An ((P.map (·.1)).map E1) (P.map λp=>.lst p.2))
noncomputable def IP(P:Gm)(k:Cu)(v:μ):Gm:=if k∈P.map (·.1)then P else P++[(k,v)]
def gY{l:List Cu}{k:Cu}(AN:∀x∈l,x∈G5)(AE:k∈G5):(l.map E1).any (λy=>decide (y=E1 k))=decide (k∈l):=by
 rw[JI,UL,decide_eq_true_iff];constructor
 .rintro⟨y,Ba,e⟩;obtain⟨x,AG,rfl⟩:=List.mem_map.mp Ba;rw[<-aaf (VV (AN x AG)) (VV AE) (of_decide_eq_true e)];exact AG
 .intro h;exact⟨E1 k,List.mem_map.mpr ⟨k,h,rfl⟩,γ⟩
def e_{P:Gm}{k:Cu}{v:μ}(h:L8 P)(AE:k∈G5):L8 (IP P k v):=by
 unfold IP
 split
 .exact h
 .rename_i AQ;refine⟨?_,λx AG=>?_⟩
  .rw[Hy];exact List.nodup_append.mpr ⟨h.Cs,γ,λx AG y Ba z=>by rw[List.mem_singleton.mp Ba]at z;exact AQ ((show x=k from z)▸AG)⟩
  .rw[Hy]at AG;rcases List.mem_append.mp AG with AG|AG
   .exact h.cd x AG
   .rw[List.mem_singleton.mp AG];exact AE
def WA{P:Gm}{k x:Cu}{v:μ}(h:x∈P.map (·.1)):x∈(IP P k v).map (·.1):=by
 unfold IP
 split
 .exact h
 .rw[Hy];exact FZ _ h
def dc{P:Gm}{k x:Cu}{v:μ}(h:x∈(IP P k v).map (·.1)):x∈P.map (·.1)\/x=k:=by
 unfold IP at h
 split at h
 .exact .inl h
 .rw[Hy]at h;rcases List.mem_append.mp h with h|h
  .exact .inl h
  .exact .inr (List.mem_singleton.mp h)
def dD(P:Gm)(k:Cu)(v:μ):k∈(IP P k v).map (·.1):=by
 unfold IP
 split
 .assumption
 .rw[Hy];exact Fz _ γ
def aj{P:Gm}{k:Cu}{v:μ}{mk:Ot}{mv:Ae}{s0:Bb}{r:AI}(h:L8 P)(AE:k∈G5)(DD:mk (s0::FJ P::r)=.ok (E1 k))(ev:mv (s0::FJ P::r)=.ok (.lst v)) :
  NX 1 mk mv (s0::FJ P::r)=.ok (.B6 (s0::FJ (IP P k v)::r)):=by
 have DJ:bi 1 (s0::FJ P::r)=.ok ((P.map (·.1)).map E1,P.map λp=>.lst p.2):=rfl;have G7:=h.few;unfold NX;rw[DJ,BX,DD,U1,BX,ev,U1,BX];dsimp only;rw[gY h.cd AE];unfold IP;by_cases hm:k∈P.map (·.1)
 .rw[if_pos hm,if_pos (hm:),if_pos (by simp;lia)]
 .rw[if_neg hm,if_neg (hm:),putD,if_pos ⟨by rw[gY h.cd AE];simpa using hm,by simp;lia⟩];simp[FJ]
noncomputable def JY(h:Nat):On->Cu
 |.drop=>(1,(h:Int),0)
 |.out o=>(2,(h:Int),(o:Int))
 |.to e=>(0,(e.1:Int),0)
noncomputable def Gx:On->Bool
 |.to _=>true
 |_=>false
def YI(N:AX->On)(s:AX)(k:Cu):Prop:=k=(0,(s.1.1:Int),0)\/(Gx (N s)=false/\k=JY s.1.1 (N s))\/(k=(3,0,0)/\∃m,1<=m/\Cf N s m=some s)
noncomputable def YH(N:AX->On)(p:AX×ι)(k:Cu)(v:μ):Prop:=(v=p.2.map BE/\(k=(0,(p.1.1.1:Int),0)\/(Gx (N p.1)=false/\k=JY p.1.1.1 (N p.1))))\/(k=(3,0,0)/\∃m,1<=m/\m<=168/\Cf N p.1 m=some p.1/\v=(p.2.dropLast++ES m p.1.2).map BE)
def eZ{P:Gm}{k:Cu}{v:μ}{q:Cu×μ}(h:q∈IP P k v):q∈P\/q=(k,v):=by
 unfold IP at h
 split at h
 .exact .inl h
 .rcases List.mem_append.mp h with h|h
  .exact .inl h
  .exact .inr (h:)
def jG{α:Type}(xs:List α):Ed xs none (some (-1))=xs.dropLast:=by
 have h:DX.Ca xs.length xs.length (some (-1))=xs.length-1:=by erw[DX.Ca];split<;>lia
 unfold Ed;rw[DX.d8,h,fz,XI,List.dropLast_eq_take]
def kU:B0:=NX 1 (M6 (C_ (A1 (A5 (.str (B_ "at"))) (A1 (A3 AM (A3 AM (J 2) (A5 (.int 0))) (A5 (.int 0))) (AF))))) (J 3)
noncomputable def de:B0:=C9 (Ax (A3 (BP false) (A3 AM (A3 Gq (C4 (Dw "Weaver" "told") (J 0)) (J 2)) (A5 (.int 0))) (A5 (.str (B_ "at"))))) (NX 1 (M6 (A3 Gq (C4 (Dw "Weaver" "told") (J 0)) (J 2))) (J 3)) (CU)
noncomputable def df:B0:=C9 (Ax (A3 (BP false) (J 4) (Bo (CZ (AF))))) (NX 1 (c3 (B_ "ring")) (Bo (KG (EV IR (J 3) (G9) (Ef (C4 EW (A5 (.int 1))))) (A3 QF (Bo (CZ (A1 (A3 AM (J 2) (A5 (.int 1))) (AF)))) (Bz CE (A1 (J 4) (AF))))))) (CU)
def dg:B0:=AS kU (AS de (AS (BU 4 (Il "Weaver" "round_from" 1 Tq (J 0) (A1 (J 2) (AF)))) df))
def yp{P:Gm}(h:L8 P){s:AX}(B4:s.1.1<6)(l:ι)(w:D)(s4:Bb):kU [.A2 w,FJ P,.A2 (BB s),.A2 (CS l),s4]=.ok (.B6 [.A2 w,FJ (IP P (0,(s.1.1:Int),0) (l.map BE)),.A2 (BB s),.A2 (CS l),s4]):=by refine aj h (Y1 B4) ?_ rfl;have DH:AM (BB s) (.int 0)=.ok (AY s.1):=rfl;have Uv:AM (AY s.1) (.int 0)=.ok (.int (s.1.1:Int)):=rfl;have k:dw (Ik (.tup [.str (B_ "at"),.int (s.1.1:Int)]))=.ok (E1 (0,(s.1.1:Int),0)):=rfl;unfold M6;simp[DH,Uv,k]
def jH{α:Type}(xs:List α)(l h:Option Int):(Ed xs l h).length<=xs.length:=by unfold Ed;rw[UI,X4];lia
def yr{P:Gm}(h:L8 P){s:AX}{l:ι}(AN:l.length<=168){R:List AX}(KB:R.length<=168)(w:D):∃v,(R≠[]->v=(l.dropLast++ES R.length s.2).map BE)/\df [.A2 w,FJ P,.A2 (BB s),.A2 (CS l),.A2 (.lst (R.map BB))]=.ok (.B6 [.A2 w,FJ (if R=[]then P else IP P (3,0,0) v),.A2 (BB s),.A2 (CS l),.A2 (.lst (R.map BB))]):=by
 have ne:=ne_nil (dy R);have c:Ax (A3 (BP false) (J 4) (Bo (CZ (AF)))) [.A2 w,FJ P,.A2 (BB s),.A2 (CS l),.A2 (.lst (R.map BB))]=.ok (!(R.map BB).isEmpty):=Kn (H9 rfl rfl ne);unfold df;rw[NR c];cases R with
 |nil=>exact⟨[],(λz=>absurd rfl z),rfl⟩
 |cons x R=>
  have Bd:AM (BB s) (.int 1)=.ok (BE s.2):=rfl;have db:QF (.lst [BE s.2]) (.int ((x::R).length:Int))=.ok (.lst (ES (x::R).length [BE s.2]).flatten):=by have aiW:(x::R).length<=168:=KB;erw[QF];rw[if_pos ⟨δ,δ,γ⟩,Mr]
  have cl:=jH (l.map BE) none (some (-1));rw[GN]at cl;refine⟨Ed (l.map BE) none (some (-1))++(ES (x::R).length [BE s.2]).flatten,(λ_=>by rw[jG,Hy,List.map_dropLast,List.map_replicate,List.flatten_replicate_singleton]),?_⟩;have Eg:(!(List.map BB (x::R)).isEmpty)=true:=rfl;rw[if_pos Eg,if_neg γ];refine aj h X_ rfl ?_;have mE:EW (.int 1)=.ok (.int (-1)):=rfl;have le:Bz CE (A1 (J 4) (AF)) [.A2 w,FJ P,.A2 (BB s),.A2 (CS l),.A2 (.lst ((x::R).map BB))]=.ok (.int ((x::R).length:Int)):=by have:=Zr (a:=J 4) (ρ:=[.A2 w,FJ P,.A2 (BB s),.A2 (CS l),.A2 (.lst ((x::R).map BB))]) (xs:=(x::R).map BB) rfl;rw[GN]at this;exact this
  have a1:EV IR (J 3) (G9) (Ef (C4 EW (A5 (.int 1)))) [.A2 w,FJ P,.A2 (BB s),.A2 (CS l),.A2 (.lst ((x::R).map BB))]=.ok (.lst (Ed (l.map BE) none (some (-1)))):=rfl;have a2:A3 QF (Bo (CZ (A1 (A3 AM (J 2) (A5 (.int 1))) (AF)))) (Bz CE (A1 (J 4) (AF))) [.A2 w,FJ P,.A2 (BB s),.A2 (CS l),.A2 (.lst ((x::R).map BB))]=.ok (.lst (ES (x::R).length [BE s.2]).flatten):=H9 (by simp[Bd,lim]) le db;rw[Wf,adl,a1,BX,a2,BX,bY]
  .rfl
  .simp at KB |-;lia
section
variable{A:List AT}{N:AX->On}{n:Nat}{d0:AT}{W:F0}{U:To}{X Y:D}{a:Nat}
def yq(g:Good A N n d0 W U []){P:Gm}(h:L8 P){s:AX}(AJ:s∈W.map (·.1))(B4:s.1.1<6)(ho:∀o,N s=.out o->o<4)(l:ι)(s4:Bb):de [.A2 (Ds X Y a W U),FJ P,.A2 (BB s),.A2 (CS l),s4]=.ok (.B6 [.A2 (Ds X Y a W U),FJ (if Gx (N s)=true then P else IP P (JY s.1.1 (N s)) (l.map BE)),.A2 (BB s),.A2 (CS l),s4]):=by
 have t:=oq g AJ;have DI:∀r:AI,r[0]?=some (.A2 (Ds X Y a W U))->r[2]?=some (.A2 (BB s))->A3 Gq (C4 (Dw "Weaver" "told") (J 0)) (J 2) r=.ok (CI s.1.1 (N s)):=λr h0 AA=>by erw[aL,eO,v_var,h0,AA,Kx,BX,Z5,t]
 unfold de;cases e:N s with
 |drop=>rw[e]at DI;have DH:AM (CI s.1.1 .drop) (.int 0)=.ok (st "drop"):=rfl;have q:BP false (st "drop") (.str (B_ "at"))=.ok (.AR true):=rfl;have c:Ax (A3 (BP false) (A3 AM (A3 Gq (C4 (Dw "Weaver" "told") (J 0)) (J 2)) (A5 (.int 0))) (A5 (.str (B_ "at")))) [.A2 (Ds X Y a W U),FJ P,.A2 (BB s),.A2 (CS l),s4]=.ok true:=Kn (H9 (H9 (DI _ rfl rfl) rfl DH) rfl q);rw[NR c,if_pos rfl];refine aj h (Y2 B4) ?_ rfl;unfold M6;rw[DI _ rfl rfl];rfl
 |out x=>rw[e]at DI;have DH:AM (CI s.1.1 (.out x)) (.int 0)=.ok (st "out"):=rfl;have q:BP false (st "out") (.str (B_ "at"))=.ok (.AR true):=rfl;have c:Ax (A3 (BP false) (A3 AM (A3 Gq (C4 (Dw "Weaver" "told") (J 0)) (J 2)) (A5 (.int 0))) (A5 (.str (B_ "at")))) [.A2 (Ds X Y a W U),FJ P,.A2 (BB s),.A2 (CS l),s4]=.ok true:=Kn (H9 (H9 (DI _ rfl rfl) rfl DH) rfl q);rw[NR c,if_pos rfl];refine aj h (XZ B4 (ho x e)) ?_ rfl;unfold M6;rw[DI _ rfl rfl];rfl
 |to d=>rw[e]at DI;have DH:AM (CI s.1.1 (.to d)) (.int 0)=.ok (st "at"):=rfl;have q:BP false (st "at") (.str (B_ "at"))=.ok (.AR false):=rfl;have c:Ax (A3 (BP false) (A3 AM (A3 Gq (C4 (Dw "Weaver" "told") (J 0)) (J 2)) (A5 (.int 0))) (A5 (.str (B_ "at")))) [.A2 (Ds X Y a W U),FJ P,.A2 (BB s),.A2 (CS l),s4]=.ok false:=Kn (H9 (H9 (DI _ rfl rfl) rfl DH) rfl q);rw[NR c];rfl
def adj:QJ "Weaver" "round_from" (Ds X Y a W U)=.ok (Ds X Y a W U):=rfl
def yt(g:Good A N n d0 W U [])(G7:W.length<=168)(K9:∀d∈A,d.1<6)(Hp:∀s,s.1∈A->s.2<n->∀o,N s=.out o->o<4){P:Gm}(h:L8 P){p:AX×ι}(AZ:p∈W)(s4:Bb) :
  ∃Jj d5,L8 Jj/\(∀k∈P.map (·.1),k∈Jj.map (·.1))/\(∀k∈Jj.map (·.1),k∈P.map (·.1)\/YI N p.1 k)/\(∀q∈Jj,q∈P\/YH N p q.1 q.2)/\(0,(p.1.1.1:Int),0)∈Jj.map (·.1)/\(Gx (N p.1)=false->JY p.1.1.1 (N p.1)∈Jj.map (·.1))/\((∃m,1<=m/\Cf N p.1 m=some p.1)->(3,0,0)∈Jj.map (·.1))/\dg [.A2 (Ds X Y a W U),FJ P,.A2 (BB p.1),.A2 (CS p.2),s4]=.ok (.B6 [.A2 (Ds X Y a W U),FJ Jj,.A2 (BB p.1),.A2 (CS p.2),d5]):=by
 have AJ:p.1∈W.map (·.1):=List.mem_map.mpr ⟨p,AZ,rfl⟩;obtain⟨Bd,C1⟩:=g.inr p AZ;have B4:=K9 _ Bd;have ho:=Hp _ Bd C1;obtain⟨R,Ky,IN,db,re⟩:=acC (X:=X) (Y:=Y) (a:=a) g G7 AJ;have A6:=e_ (v:=p.2.map BE) h (Y1 B4);have A9:=yp h B4 p.2 (Ds X Y a W U) s4;generalize Ee:IP P (0,(p.1.1.1:Int),0) (p.2.map BE)=I_ at A6 A9;have Cg:(0,(p.1.1.1:Int),0)∈I_.map (·.1):=by rw[<-Ee];exact dD _ _ _
 have Mp:∀k∈P.map (·.1),k∈I_.map (·.1):=λk AE=>by rw[<-Ee];exact WA AE
 have AH:=yq (X:=X) (Y:=Y) (a:=a) g A6 AJ B4 ho p.2 s4;generalize LG:(if Gx (N p.1)=true then I_ else IP I_ (JY p.1.1.1 (N p.1)) (p.2.map BE))=Hm at AH;have AA:L8 Hm:=by
  rw[<-LG]
  split
  .exact A6
  .refine e_ A6 ?_;cases e:N p.1 with
   |drop=>exact Y2 B4
   |out o=>exact XZ B4 (ho o e)
   |to d=>rename_i z;rw[e]at z;exact absurd rfl z
 have Hj:∀k∈I_.map (·.1),k∈Hm.map (·.1):=λk AE=>by
  rw[<-LG]
  split
  .exact AE
  .exact WA AE
 have By:Gx (N p.1)=false->JY p.1.1.1 (N p.1)∈Hm.map (·.1):=λz=>by rw[<-LG,if_neg (by rw[z];decide)];exact dD _ _ _
 obtain⟨v,ev,CH⟩:=yr AA (s:=p.1) (l:=p.2) (by have:=(g.lst p AZ).2;lia) Ky (Ds X Y a W U);have Au:BU 4 (Il "Weaver" "round_from" 1 Tq (J 0) (A1 (J 2) (AF))) [.A2 (Ds X Y a W U),FJ Hm,.A2 (BB p.1),.A2 (CS p.2),s4]=.ok (.B6 [.A2 (Ds X Y a W U),FJ Hm,.A2 (BB p.1),.A2 (CS p.2),.A2 (.lst (R.map BB))]):=by simp[adj,re]
 refine⟨if R=[]then Hm else IP Hm (3,0,0) v,.A2 (.lst (R.map BB)),?_,λk AE=>?_,λk AE=>?_,λq AV=>?_,?_,λz=>?_,λz=>?_,?_⟩
 .split
  .exact AA
  .exact e_ AA X_
 .have:=Hj k (Mp k AE)
  split
  .exact this
  .exact WA this
 .have FC:∀x∈I_.map (·.1),x∈P.map (·.1)\/YI N p.1 x:=λx AG=>by
    rw[<-Ee]at AG;exact(dc AG).imp id .inl
  have Et:∀x∈Hm.map (·.1),x∈P.map (·.1)\/YI N p.1 x:=λx AG=>by
   rw[<-LG]at AG
   split at AG
   .exact FC x AG
   .rename_i AQ;rcases dc AG with AG|AG
    .exact FC x AG
    .exact .inr (.inr (.inl ⟨Bool.eq_false_iff.mpr AQ,AG⟩))
  split at AE
  .exact Et k AE
  .rename_i AQ;rcases dc AE with AE|AE
   .exact Et k AE
   .exact .inr (.inr (.inr ⟨AE,IN.mp AQ⟩))
 .have FC:∀x∈I_,x∈P\/YH N p x.1 x.2:=λx AG=>by
    rw[<-Ee]at AG;exact(eZ AG).imp id λz=>by rw[z];exact .inl ⟨rfl,.inl rfl⟩
  have Et:∀x∈Hm,x∈P\/YH N p x.1 x.2:=λx AG=>by
   rw[<-LG]at AG
   split at AG
   .exact FC x AG
   .rename_i AQ;rcases eZ AG with AG|AG
    .exact FC x AG
    .rw[AG];exact .inr (.inl ⟨rfl,.inr ⟨Bool.eq_false_iff.mpr AQ,rfl⟩⟩)
  split at AV
  .exact Et q AV
  .rename_i AQ;rcases eZ AV with AV|AV
   .exact Et q AV
   .rw[AV];exact .inr (.inr ⟨rfl,R.length,List.length_pos_iff.mpr AQ,Ky,db AQ,ev AQ⟩)
 .have:=Hj _ Cg
  split
  .exact this
  .exact WA this
 .have:=By z
  split
  .exact this
  .exact WA this
 .rw[if_neg (IN.mpr z)];exact dD _ _ _
 .rw[dg,ED,A9,BX,F4,ED,AH,BX,F4,ED,Au,BX,F4,CH]
structure RF(N:AX->On)(W:F0)(P:Gm):Prop where
 P1:L8 P
 at_:∀p∈W,(0,(p.1.1.1:Int),0)∈P.map (·.1)
 FI:∀p∈W,Gx (N p.1)=false->JY p.1.1.1 (N p.1)∈P.map (·.1)
 N9:∀p∈W,(∃m,1<=m/\Cf N p.1 m=some p.1)->(3,0,0)∈P.map (·.1)
 so:∀k∈P.map (·.1),∃p∈W,YI N p.1 k
 q2:∀q∈P,∃p∈W,YH N p q.1 q.2
def x1(W:F0):Zl (.An ((W.map (·.1)).map Dr) (W.map λp=>CS p.2))=.ok (W.map λp=>.tup [BB p.1,CS p.2]):=by
 have h:((W.map (·.1)).map Dr).all (λk=>k.length !=1)=true:=by rw[IU,Sl,PJ];intro p _;rfl
 erw[Zl];rw[if_pos h]
 congr 1
 unfold Ss;rw[IU,List.zip_map'];rw[IU];rfl
def zG(g:Good A N n d0 W U [])(G7:W.length<=168)(K9:∀d∈A,d.1<6)(Hp:∀s,s.1∈A->s.2<n->∀o,N s=.out o->o<4):∃P,RF N W P/\ZI [Ds X Y a W U]=.ok (.v (Q1 P)):=by
 suffices h:Ends (ZI [Ds X Y a W U]) (λy=>∃P,RF N W P/\y=.v (Q1 P))by
  obtain⟨y,e,P,DF,rfl⟩:=h;exact⟨P,DF,e⟩
 have BS:Xq=AS (Kq 1) (AS (Dq (Rm (C4 (Dw "Weaver" "woven") (J 0))) (FO [BK 2,BK 3]) dg) (JR (J 1))):=rfl;have DJ:Kq 1 [.A2 (Ds X Y a W U),.un,.un,.un,.un]=.ok (.B6 [.A2 (Ds X Y a W U),FJ [],.un,.un,.un]):=rfl;have Fv:Rm (C4 (Dw "Weaver" "woven") (J 0)) [.A2 (Ds X Y a W U),FJ [],.un,.un,.un]=.ok (W.map λp=>.tup [BB p.1,CS p.2]):=by unfold Rm;rw[eO,v_var];erw[LR,Kx,BX,j6,x1]
 show Ends ((Xq [.A2 (Ds X Y a W U),.un,.un,.un,.un]).bind _) _;rw[BS,ED,DJ,BX,F4,ED,SV];refine NH (λp:AX×ι=>.tup [BB p.1,CS p.2]) W (λj ρ=>∃P s2 s3 s4,RF N (W.take j) P/\ρ=[.A2 (Ds X Y a W U),FJ P,s2,s3,s4]) Fv ⟨[],.un,.un,.un,⟨⟨.nil,(λk AE=>nomatch AE)⟩,(λp AZ=>by simp at AZ),(λp AZ=>by simp at AZ),(λp AZ=>by simp at AZ),(λk AE=>nomatch AE),(λq AV=>nomatch AV)⟩,rfl⟩ ?_ ?_
 .rintro j p _ Bi ⟨P,s2,s3,s4,DF,rfl⟩;have AZ:=Hd Bi;obtain⟨Jj,d5,A6,AA,DE,vu,Ao,BG,Er,e⟩:=yt (X:=X) (Y:=Y) (a:=a) g G7 K9 Hp DF.P1 AZ s4;have L1:FO [BK 2,BK 3] (.tup [BB p.1,CS p.2]) [.A2 (Ds X Y a W U),FJ P,s2,s3,s4]=.ok [.A2 (Ds X Y a W U),FJ P,.A2 (BB p.1),.A2 (CS p.2),s4]:=rfl;rw[L1,BX,e];have C8:∀q∈W.take (j+1),q∈W.take j\/q=p:=λq AV=>by
   rw[O2,Bi]at AV;rcases List.mem_append.mp AV with AV|AV
   .exact .inl AV
   .exact .inr (AV:)
  refine⟨_,rfl,_,rfl,Jj,_,_,d5,⟨A6,λq AV=>?_,λq AV z=>?_,λq AV z=>?_,λk AE=>?_,λr B5=>?_⟩,rfl⟩
  .rcases C8 q AV with AV|rfl
   .exact AA _ (DF.at_ q AV)
   .exact Ao
  .rcases C8 q AV with AV|rfl
   .exact AA _ (DF.FI q AV z)
   .exact BG z
  .rcases C8 q AV with AV|rfl
   .exact AA _ (DF.N9 q AV z)
   .exact Er z
  .have pm:p∈W.take (j+1):=by rw[O2,Bi];simp
   rcases DE k AE with AE|AE
   .obtain⟨q,AV,eV⟩:=DF.so k AE;exact⟨q,by rw[O2];exact FZ _ AV,eV⟩
   .exact⟨p,pm,AE⟩
  .have pm:p∈W.take (j+1):=by rw[O2,Bi];simp
   rcases vu r B5 with AE|AE
   .obtain⟨q,AV,eV⟩:=DF.q2 r AE;exact⟨q,by rw[O2];exact FZ _ AV,eV⟩
   .exact⟨p,pm,AE⟩
 .rintro _ ⟨P,s2,s3,s4,DF,rfl⟩;rw[f_]at DF;exact⟨_,rfl,P,DF,rfl⟩
end
section
variable{cs:ι}{ws:List (AT×AT)}{os nw:List (List Cz)}{row:ι}{a:Nat}{d0:AT}
def kA{bs:List (List Cz)}(h:Gk cs bs){i:Nat}(AC:i<cs.length):MT (cs.getD i 0) (bs.getD i []):=by
 have AN:i<bs.length:=by rw[h.l];exact AC
 have:=h.b i bs[i] (Dt AN);have e:bs.getD i []=bs[i]:=by simp[AN]
 rw[e];exact this
def l2(G4:Gk cs os)(bn:Gk cs nw)(k:Nat){i:Nat}(AC:i<cs.length):MT (cs.getD i 0) ((F3 os nw row k).getD i []):=by
 have e:(F3 os nw row k).getD i []=if i∈row.take k then nw.getD i []else os.getD i []:=by
  have AN:i<os.length:=by rw[G4.l];exact AC
  unfold F3;rw[JF,EC,UO AN];rfl
 rw[e]
 split
 .exact kA bn AC
 .exact kA G4 AC
def kR(G4:Gk cs os)(k:Nat):(F3 os nw row k).length=cs.length:=by simp[F3,G4.l]
def SP(EO:Lb cs ws)(G4:Gk cs os)(bn:Gk cs nw)(B5:row.length<=6)(AD:a<16):GQ cs ws (F3 os nw row) (row.length+1) a where
 EO:=EO
 AD:=AD
 Cv:=δ
 IJ:=δ
 AR:=λk _=>kR G4 k
 pt:=λk _ b A0 r B5=>by
  obtain⟨i,AC,Fv⟩:=Qv A0;have Yo:i<cs.length:=by rw[kR G4 k]at AC;exact AC
  have:=l2 (row:=row) G4 bn k Yo;have e:(F3 os nw row k).getD i []=b:=by simp[AC,Fv]
  rw[e]at this;exact(this.2 r B5).p
def ll(EO:Lb cs ws)(G4:Gk cs os)(bn:Gk cs nw)(s:AX)(AJ:s.1∈C6 cs cs.length)(o:Nat)(h:B3 ws (F3 os nw row) a s=.out o):o<4:=by
 have AC:=(M9.mp AJ).1;have Fu:=l2 (row:=row) G4 bn s.2 AC;have Js:=bR (λc AO=>(EO.c c AO).2) s.1.1;unfold B3 B6 at h;generalize(F3 os nw row s.2).getD s.1.1 []=b at Fu h
 split at h
 .cases h
 .rename_i i Fv
  split at h
  .cases h
  .rename_i o' Mc
   split at h
   .cases h;obtain⟨r,B5,BS⟩:=Option.bind_eq_some_iff.mp Mc;have:=(Fu.2 r (Hd B5)).b o BS
    lia
   .cases h
noncomputable def ZT(cs:ι)(ws:List (AT×AT))(os nw:List (List Cz))(row:ι)(d0:AT)(a:Nat):μ:=[D_ cs ws,DC os,DC nw,CP.E2 (row.map BE),AY d0,.int (a:Int)]
def yv(EO:Lb cs ws)(G4:Gk cs os)(bn:Gk cs nw)(B5:row.length<=6)(AD:a<16)(hd:d0∈C6 cs cs.length):∃W U P,Good (C6 cs cs.length) (B3 ws (F3 os nw row) a) (row.length+1) d0 W U []/\((d0,0):AX)∈W.map (·.1)/\RF (B3 ws (F3 os nw row) a) W P/\OL (ZT cs ws os nw row d0 a)=.ok (.v (Q1 P)):=by
 have ok:=SP (row:=row) EO G4 bn B5 AD;obtain⟨W,U,g,h0,e⟩:=afR ok hd;have NV:=Nn EO.c cs.length;have DE:=EO.DE;have G7:=g.few δ ok.IJ;obtain⟨P,mo,em⟩:=zG (X:=D_ cs ws) (Y:=.lst (Co (row.length+1) (F3 os nw row))) (a:=a) g G7 (λd hd=>by have:=(M9.mp hd).1;lia) λs AJ _ o h=>ll EO G4 bn s AJ o h;refine⟨W,U,P,g,h0,mo,?_⟩;have BH:=acq (os:=os) (nw:=nw) (row:=row) (by rw[G4.l];lia) (by rw[bn.l,G4.l]) B5;have eb:QJ "Weaver" "met" (Ds (D_ cs ws) (.lst (Co (row.length+1) (F3 os nw row))) a W U)=.ok (Ds (D_ cs ws) (.lst (Co (row.length+1) (F3 os nw row))) a W U):=rfl;have yn:Tn 5 WW (A1 (J 0) (A1 (Bo (Fg 3 Vu (A1 (J 1) (A1 (J 2) (A1 (J 3) (AF)))))) (A1 (J 4) (A1 (J 5) (A1 (A5 .non) (AF)))))) [.A2 (D_ cs ws),.A2 (DC os),.A2 (DC nw),.A2 (CP.E2 (row.map BE)),.A2 (AY d0),.A2 (.int (a:Int))]=.ok (Ds (D_ cs ws) (.lst (Co (row.length+1) (F3 os nw row))) a W U):=by have CQ:WW [D_ cs ws,.lst ((EN (row.length+1)).map λk=>DC (F3 os nw row k)),AY d0,.int (a:Int),.non]=.ok (D9 (D_ cs ws) (.lst (Co (row.length+1) (F3 os nw row))) a W U):=e;unfold Tn;erw[Gi,Ka,v_var,Wf,aeK,oy,LR,MD,Kx,BX,BH,H4,LP,if_true,show ∀l,af (.o l)=.ok l from λ_=>rfl,CQ,U1,Tf]
 have GK:∀x0 FX FD GZ Ip Nv:D,OL [x0,FX,FD,GZ,Ip,Nv]=(Xy [.A2 x0,.A2 FX,.A2 FD,.A2 GZ,.A2 Ip,.A2 Nv]).bind outD:=λ_ _ _ _ _ _=>rfl;unfold ZT;rw[GK];rw[Xy,q1,ado,yn,BX,eb,BX,Ka,BX,LP,if_pos rfl,em];rfl
theorem kS:∀{ks:List Cu},(∀k∈ks,k∈G5)->RM (ks.map E1)=some ks
 |[],_=>rfl
 |k::ks,h=>by rw[Du,RM,dd (VV (h k γ)),kS λx AG=>h x (by simp[AG])]
end
def Zn(xs:μ)(x:D):AM (.lst (xs++[x])) (.int (-1))=.ok x:=by
 have e:G2 (xs++[x]) (-1)=some x:=by unfold G2 Ii;rw[if_neg ε,if_pos (by simp;lia)];erw[Mx];rw[JK,U7,show((-1:Int)+((xs.length+1:Nat):Int)).toNat=xs.length by lia];simp
 erw[AM,e]
noncomputable def cD:On->String
 |.drop=>"drop"
 |.out _=>"out"
 |.to _=>"at"
def e0(h:Nat)(o:On):AM (CI h o) (.int 0)=.ok (st (cD o)):=by cases o<;>rfl
def lS(o:On):BP true (st (cD o)) (.str (B_ "at"))=.ok (.AR (Gx o)):=by cases o<;>rfl
def yY(o:On):BP false (st (cD o)) (.str (B_ "at"))=.ok (.AR (!Gx o)):=by cases o<;>rfl
def Z9(h:Nat)(e:AT):I7 (CI h (.to e)) (some 1) none=.ok (AY e):=rfl
section
variable{cs:ι}{ws:List (AT×AT)}{Bk:Nat->List (List Cz)}{n a c:Nat}{d0:AT}{W:F0}{U:To}
def bx(ok:GQ cs ws Bk n a){s:AX}(A6:s.1.1<cs.length)(AA:s.2<n):Im [.lst (ws.map CO),DB ((Bk s.2).getD s.1.1 []),AY s.1,.int (a:Int)]=.ok (.v (CI s.1.1 (B3 ws Bk a s))):=by
 have AR:=ok.AR s.2 AA;refine z0 (λr B5=>?_) s.1 ok.AD;have AN:s.1.1<(Bk s.2).length:=δ
 have eg:(Bk s.2).getD s.1.1 []=(Bk s.2)[s.1.1]:=by simp[AN]
 rw[eg]at B5;exact ok.pt s.2 AA _ (MC _) r B5
structure Eo(N:AX->On)(W:F0)(c:Nat)(pre:List AT)(l:AT):Prop where
 Cs:(pre++[l]).Nodup
 c8:∀e∈pre++[l],((e,c):AX)∈W.map (·.1)
 W4:∀e∈pre++[l],∃m,Cf N (e,c) m=some (l,c)
def aZ:Ck:=EH (IH (Ax (A3 (BP true) (A3 AM (J 5) (A5 (.int 0))) (A5 (.str (B_ "at"))))) (Ax (A3 (inD false) (EV I7 (J 5) (Ef (A5 (.int 1))) (G9)) (J 4))))
def nS:Ae:=Hs (Br 4 Im (A1 (J 0) (A1 (A3 AM (J 1) (A3 AM (A3 AM (J 4) (C4 EW (A5 (.int 1)))) (A5 (.int 0)))) (A1 (A3 AM (J 4) (C4 EW (A5 (.int 1)))) (A1 (J 3) (AF))))))
def nR:B0:=AS (Gz 4 (EV I7 (J 5) (Ef (A5 (.int 1))) (G9))) (BU 5 nS)
def acB(ok:GQ cs ws Bk n a)(g:Good (C6 cs cs.length) (B3 ws Bk a) n d0 W U []){d:AT}(hd:((d,c):AX)∈W.map (·.1)) :
  ∃pre l,Eo (B3 ws Bk a) W c pre l/\d∈pre++[l]/\(∀e,B3 ws Bk a (l,c)=.to e->e∈pre++[l])/\Vs [.lst (ws.map CO),DC (Bk c),AY d,.int (a:Int)]=.ok (.v (.tup [.lst ((pre++[l]).map AY),CI l.1 (B3 ws Bk a (l,c))])):=by
 have F8:∀e:AT,((e,c):AX)∈W.map (·.1)->e∈C6 cs cs.length/\c<n:=λe he=>by obtain⟨p,AZ,BV⟩:=List.mem_map.mp he;have:=g.inr p AZ;rw[BV]at this;exact this
 have NV:=Nn ok.EO.c cs.length;have DE:=ok.EO.DE;have mP:∀e:AT,((e,c):AX)∈W.map (·.1)->Im [.lst (ws.map CO),DB ((Bk c).getD e.1 []),AY e,.int (a:Int)]=.ok (.v (CI e.1 (B3 ws Bk a (e,c)))):=λe he=>bx (s:=(e,c)) ok (M9.mp (F8 e he).1).1 (F8 e he).2;have Fu:∀e:AT,((e,c):AX)∈W.map (·.1)->AM (DC (Bk c)) (.int (e.1:Int))=.ok (DB ((Bk c).getD e.1 [])):=λe he=>Pc (by have:=ok.AR c (F8 e he).2;have:=(M9.mp (F8 e he).1).1;lia);suffices h:Ends (Vs [.lst (ws.map CO),DC (Bk c),AY d,.int (a:Int)]) (λy=>∃pre l,Eo (B3 ws Bk a) W c pre l/\d∈pre++[l]/\(∀e,B3 ws Bk a (l,c)=.to e->e∈pre++[l])/\y=.v (.tup [.lst ((pre++[l]).map AY),CI l.1 (B3 ws Bk a (l,c))]))by
  obtain⟨y,e,pre,l,A6,AA,Ao,rfl⟩:=h;exact⟨pre,l,A6,AA,Ao,e⟩
 have BS:Xw=AS (EK 4 (CZ (A1 (J 2) (AF)))) (AS (BU 5 (Hs (Br 4 Im (A1 (J 0) (A1 (A3 AM (J 1) (A3 AM (J 2) (A5 (.int 0)))) (A1 (J 2) (A1 (J 3) (AF)))))))) (AS (JS aZ nR) (JR (C_ (A1 (J 4) (A1 (J 5) (AF))))))):=rfl;have DJ:EK 4 (CZ (A1 (J 2) (AF))) [.A2 (.lst (ws.map CO)),.A2 (DC (Bk c)),.A2 (AY d),.A2 (.int (a:Int)),.un,.un]=.ok (.B6 [.A2 (.lst (ws.map CO)),.A2 (DC (Bk c)),.A2 (AY d),.A2 (.int (a:Int)),.Bm [AY d],.un]):=rfl;have DH:∀e:AT,AM (AY e) (.int 0)=.ok (.int (e.1:Int)):=λe=>rfl;have A9:BU 5 (Hs (Br 4 Im (A1 (J 0) (A1 (A3 AM (J 1) (A3 AM (J 2) (A5 (.int 0)))) (A1 (J 2) (A1 (J 3) (AF))))))) [.A2 (.lst (ws.map CO)),.A2 (DC (Bk c)),.A2 (AY d),.A2 (.int (a:Int)),.Bm [AY d],.un]=.ok (.B6 [.A2 (.lst (ws.map CO)),.A2 (DC (Bk c)),.A2 (AY d),.A2 (.int (a:Int)),.Bm [AY d],.A2 (CI d.1 (B3 ws Bk a (d,c)))]):=by have b:=Fu d hd;have x:=mP d hd;generalize(Bk c).getD d.1 []=S3 at b x;simp[DH,b,x,av]
 have GK:∀x0 FX FD GZ:D,Vs [x0,FX,FD,GZ]=(Xw [.A2 x0,.A2 FX,.A2 FD,.A2 GZ,.un,.un]).bind outD:=λ_ _ _ _=>rfl;rw[GK,BS,ED,DJ,BX,F4,ED,A9,BX,F4,ED,SV];refine Vc (λm ρ=>∃pre l,Eo (B3 ws Bk a) W c pre l/\d∈pre++[l]/\m=30-pre.length/\ρ=[.A2 (.lst (ws.map CO)),.A2 (DC (Bk c)),.A2 (AY d),.A2 (.int (a:Int)),.Bm ((pre++[l]).map AY),.A2 (CI l.1 (B3 ws Bk a (l,c)))]) (n:=30) ⟨[],d,⟨γ,λe he=>by rw[List.mem_singleton.mp he];exact hd,λe he=>⟨0,by rw[List.mem_singleton.mp he];rfl⟩⟩,γ,rfl,rfl⟩ ε ?_;rintro m _ ⟨pre,l,r,NN,rfl,rfl⟩;have AN:=r.c8 l γ;have pl:pre.length<24:=by have:=Mu r.Cs λx AG=>(F8 x (r.c8 x AG)).1;simp at this;lia
 have L5:=e0 l.1 (B3 ws Bk a (l,c));have Db:=lS (B3 ws Bk a (l,c));cases e:B3 ws Bk a (l,c)with
 |drop=>rw[e]at L5 Db;refine⟨false,?_,(λz=>nomatch z),λ_=>⟨_,rfl,pre,l,r,NN,(λx AG=>by rw[e]at AG;cases AG),by rw[e];rfl⟩⟩;simp[aZ,L5,Db,Gx]
 |out o=>rw[e]at L5 Db;refine⟨false,?_,(λz=>nomatch z),λ_=>⟨_,rfl,pre,l,r,NN,(λx AG=>by rw[e]at AG;cases AG),by rw[e];rfl⟩⟩;simp[aZ,L5,Db,Gx]
 |to f=>
  rw[e]at L5 Db;have C2:=Z9 l.1 f;have Qk:∀r:AI,Ax (A3 (inD false) (A5 (AY f)) (A5 (.lst ((pre++[l]).map AY)))) r=.ok (!decide (f∈pre++[l])):=λr=>zw rfl rfl;have Qk:=Qk [];have bH:((f,c):AX)∈W.map (·.1):=dq g AN (by unfold Hu;rw[e]);refine⟨!decide (f∈pre++[l]),?_,λAj=>?_,λAj=>?_⟩
  .have Qk:(inD false (AY f) (.lst ((pre++[l]).map AY))).bind NC=.ok (!decide (f∈pre++[l])):=Qk;generalize(pre++[l]).map AY=gl at Qk;simp[aZ,L5,Db,Gx,C2,intD,Qk]
  .have Aj:f∉pre++[l]:=by simpa using Aj
   have b:=Fu f bH;have x:=mP f bH;have B7:Eo (B3 ws Bk a) W c (pre++[l]) f:=by
    refine⟨List.nodup_append.mpr ⟨r.Cs,γ,λx AG y Ba z=>by rw[List.mem_singleton.mp Ba]at z;exact Aj (z▸AG)⟩,λx AG=>?_,λx AG=>?_⟩
    .rcases List.mem_append.mp AG with AG|AG
     .exact r.c8 x AG
     .rw[List.mem_singleton.mp AG];exact bH
    .rcases List.mem_append.mp AG with AG|AG
     .obtain⟨m,hm⟩:=r.W4 x AG;refine⟨m+1,?_⟩;erw[Cf,hm,Mx,Hu,e]
     .exact⟨0,by rw[List.mem_singleton.mp AG];rfl⟩
   refine⟨_,?_,_,rfl,30-(pre++[l]).length,by simp;lia,pre++[l],f,B7,FZ _ NN,rfl,rfl⟩;have Pa:=Zn ((pre++[l]).map AY) (AY f);have em:(pre++[l]++[f]).map AY=(pre++[l]).map AY++[AY f]:=γ
   have mE:EW (.int 1)=.ok (.int (-1)):=rfl;rw[em];have J4:((pre++[l]).map AY).length<=100:=by simp;lia
   generalize(Bk c).getD f.1 []=S3 at b x;generalize(pre++[l]).map AY=gl at Pa J4;have so:=av f.1 (B3 ws Bk a (f,c));generalize CI f.1 (B3 ws Bk a (f,c))=of at x so;simp[nR,nS,C2,intD,show gl.length<1000000 by lia,DH,mE,Pa,b,x,so]
  .have Aj:f∈pre++[l]:=Decidable.byContradiction λz=>by rw[decide_eq_false z]at Aj;cases Aj
   exact⟨_,rfl,pre,l,r,NN,λx AG=>by rw[e]at AG;cases AG;exact Aj,by rw[e];rfl⟩
end
def Rx(N:AX->On)(s:AX):Prop:=∃j t,Cf N s j=some t/\∃m,1<=m/\Cf N t m=some t
open Classical in
noncomputable def KY(N:AX->On)(s:AX):Bool:=decide (Rx N s)
def d_(N:AX->On)(s:AX):KY N s=true↔Rx N s:=by unfold KY;exact @decide_eq_true_iff _ (Classical.propDecidable _)
theorem Zj(N:AX->On)(s:AX):∀(j k:Nat),Cf N s (j+k)=(Cf N s j).bind λt=>Cf N t k
 |j,0=>by cases h:Cf N s j<;>simp[Cf,h]
 |j,k+1=>by rw[<-Nz];erw[Cf];rw[Zj N s j k];cases Cf N s j<;>rfl
def xQ{N:AX->On}{s:AX}{j:Nat}(h:Cf N s j=none)(k:Nat):Cf N s (j+k)=none:=by rw[Zj,h];rfl
theorem lC{N:AX->On}{t:AX}{m:Nat}(h:Cf N t m=some t):∀k:Nat,Cf N t (k*m)=some t
 |0=>by rw[Nat.zero_mul];rfl
 |k+1=>by rw[fu,Zj,lC h k];exact h
def mH{N:AX->On}{s:AX}(h:Rx N s)(j:Nat):Cf N s j≠none:=λz=>by
 obtain⟨i,t,AC,m,hm,Aj⟩:=h;have r:=lC Aj j;have:Cf N s (i+j*m)=some t:=by rw[Zj,AC];exact r
 have le:j<=i+j*m:=by
  have:j*1<=j*m:=Nat.mul_le_mul_left j hm
  lia
 obtain⟨k,AE⟩:=Nat.le.dest le;rw[<-AE,xQ z]at this;cases this
section
variable{cs:ι}{ws:List (AT×AT)}{Bk:Nat->List (List Cz)}{n a c:Nat}{d0:AT}{W:F0}{U:To}
def ac7(ok:GQ cs ws Bk n a)(g:Good (C6 cs cs.length) (B3 ws Bk a) n d0 W U []){d:AT}(hd:((d,c):AX)∈W.map (·.1)):Rt [.lst (ws.map CO),DC (Bk c),AY d,.int (a:Int)]=.ok (.v (.AR (KY (B3 ws Bk a) (d,c)))):=by
 obtain⟨pre,l,r,NN,wm,e⟩:=acB ok g hd;have L5:=e0 l.1 (B3 ws Bk a (l,c));have Db:=lS (B3 ws Bk a (l,c));have eq:Gx (B3 ws Bk a (l,c))=KY (B3 ws Bk a) (d,c):=by
  obtain⟨m,hm⟩:=r.W4 d NN;rw[JI,d_];cases q:B3 ws Bk a (l,c)with
  |to f=>
   refine⟨λ_=>?_,λ_=>rfl⟩;obtain⟨k,AE⟩:=r.W4 f (wm f q);refine⟨m+1,(f,c),?_,k+1,δ,?_⟩
   .erw[Cf,hm,Mx,Hu,q]
   .erw[Cf,AE,Mx,Hu,q]
  |drop=>refine⟨(λz=>nomatch z),λz=>absurd ?_ (mH z (m+1))⟩;erw[Cf,hm,Mx,Hu,q]
  |out o=>refine⟨(λz=>nomatch z),λz=>absurd ?_ (mH z (m+1))⟩;erw[Cf,hm,Mx,Hu,q]
 rw[eq]at Db;generalize(pre++[l]).map AY=G at e;generalize CI l.1 (B3 ws Bk a (l,c))=o at e L5;simp[Rt,gN,e,L5,Db]
def x9(g:Good (C6 cs cs.length) (B3 ws Bk a) n d0 W U []){s:AX}(h:s∈W.map (·.1)):Rw (B3 ws Bk a) n d0 s:=by obtain⟨p,AZ,rfl⟩:=List.mem_map.mp h;exact g.rc p AZ
end
noncomputable def HR(B9:List Cu)(k:Cu):List Cu:=if k∈B9 then B9 else B9++[k]
def hK(B9:List Cu)(k:Cu):k∈HR B9 k:=by
 unfold HR
 split
 .assumption
 .simp
def hM{B9:List Cu}{k x:Cu}(h:x∈B9):x∈HR B9 k:=by
 unfold HR
 split
 .exact h
 .exact FZ _ h
def Xg{B9:List Cu}{k x:Cu}(h:x∈HR B9 k):x∈B9\/x=k:=by
 unfold HR at h
 split at h
 .exact .inl h
 .rcases List.mem_append.mp h with h|h
  .exact .inl h
  .exact .inr (List.mem_singleton.mp h)
def hL{B9:List Cu}{k:Cu}(h:B9.Nodup):(HR B9 k).Nodup:=by
 unfold HR
 split
 .exact h
 .rename_i AQ;exact List.nodup_append.mpr ⟨h,γ,λx AG y Ba z=>by rw[List.mem_singleton.mp Ba]at z;exact AQ (z▸AG)⟩
theorem nX(v:D)(BY:Bf):∀ks:List Bf,SK ks (ks.map λ_=>v) BY v=ks.map λ_=>v
 |[]=>rfl
 |k::ks=>by
  rw[Du,SK,nX v BY ks]
  split<;>rfl
def SH(B9:List Cu):L7:=.An (B9.map E1) (B9.map λ_=>.AR true)
def acS{B9:List Cu}{k:Cu}(Ju:∀x∈B9,x∈G5)(AE:k∈G5)(AN:B9.length<1000):putD (B9.map E1) (B9.map λ_=>.AR true) (E1 k) (.AR true)=.ok (SH (HR B9 k)):=by
 have an:=gY Ju AE;unfold putD HR;by_cases h:k∈B9
 .rw[decide_eq_true h]at an;rw[if_neg (by rw[an];simp),if_pos ⟨an,by simp;lia⟩,if_pos h];have:=nX (.AR true) (E1 k) (B9.map E1);rw[IU]at this;have e:(B9.map λ_=>D.AR true)=B9.map ((λ_=>D.AR true)∘E1):=rfl;rw[e,this];rfl
 .rw[decide_eq_false h]at an;rw[if_pos ⟨an,by simp;lia⟩,if_neg h];simp[SH]
def Yz{B9:List Cu}{k:Cu}{mk mv:Ae}{ρ:AI}{kd:D}(Ju:∀x∈B9,x∈G5)(AE:k∈G5)(AN:B9.length<1000)(BG:ρ[4]?=some (.ob (SH B9)))(DD:mk ρ=.ok kd)(zY:Ik kd=some (E1 k))(ev:mv ρ=.ok (.AR true)):Ht 4 mk mv ρ=.ok (.B6 (ρ.set 4 (.ob (SH (HR B9 k))))):=by erw[Ht,ev,BX,BG,SH,DD,zY];have:=acS Ju AE AN;rw[this];rfl
section
variable{cs:ι}{ws:List (AT×AT)}{Bk:Nat->List (List Cz)}{n a c:Nat}{d0:AT}{W:F0}{U:To}
noncomputable def DQ(ws:List (AT×AT))(Bk:Nat->List (List Cz))(n a:Nat)(d0:AT)(N:AX->On)(B9:List Cu)(S R:List AX)(at_:Nat)(s9 Bp Dc CW:Bb):AI:=[.A2 (.lst (ws.map CO)),.A2 (.lst (Co n Bk)),.A2 (AY d0),.A2 (.int (a:Int)),.ob (SH B9),.Bm (S.map BB),.ob (.An (S.map Dr) (S.map λ_=>.AR true)),.ob (.An (R.map Dr) (R.map λs=>.AR (KY N s))),.A2 (BE at_),s9,Bp,Dc,CW]
def rV(N:AX->On)(s:AX)(k:Cu):Prop:=k=(0,(s.1.1:Int),0)\/(Gx (N s)=false/\k=JY s.1.1 (N s))\/(k=(3,0,0)/\Rx N s)
structure Ld(N:AX->On)(W:F0)(B9:List Cu)(S R:List AX):Prop where
 fn:B9.Nodup
 Ju:∀k∈B9,k∈G5
 Ar:∀k∈B9,∃s∈W.map (·.1),rV N s k
 sn:S.Nodup
 WG:∀s∈S,s∈W.map (·.1)
 Lq:R.Nodup
 IN:∀s∈R,s∈W.map (·.1)
def Ld.few{N:AX->On}{B9:List Cu}{S R:List AX}(h:Ld N W B9 S R)(G7:W.length<=168):B9.length<=37/\S.length<=168/\R.length<=168:=by have A6:=Mu h.fn h.Ju;have AA:=Mu h.sn h.WG;have Ao:=Mu h.Lq h.IN;rw[b_]at A6;simp at AA Ao;exact⟨A6,δ,δ⟩
def Done(N:AX->On)(B9:List Cu)(S:List AX)(s:AX):Prop:=(Rx N s->(3,0,0)∈B9)/\(Gx (N s)=false->JY s.1.1 (N s)∈B9)/\∀e,N s=.to e->((e,s.2):AX)∈S
def Done.mono{N:AX->On}{B9 Eh:List Cu}{S El:List AX}{s:AX}(h:Done N B9 S s)(A6:∀k∈B9,k∈Eh)(AA:∀t∈S,t∈El):Done N Eh El s:=⟨λz=>A6 _ (h.1 z),λz=>A6 _ (h.2.1 z),λe z=>AA _ (h.2.2 e z)⟩
def oR:B0:=BU 12 (Br 4 Im (A1 (J 0) (A1 (A3 AM (A3 AM (J 1) (J 11)) (A3 AM (J 9) (A5 (.int 0)))) (A1 (J 9) (A1 (J 3) (AF))))))
def d9:B0:=C9 (EH (Ax (A3 (Fb false) (C_ (A1 (J 9) (A1 (J 11) (AF)))) (J 7)))) (Ht 7 (C_ (A1 (J 9) (A1 (J 11) (AF)))) (Br 4 Rt (A1 (J 0) (A1 (A3 AM (J 1) (J 11)) (A1 (J 9) (A1 (J 3) (AF))))))) (CU)
def dA:B0:=C9 (EH (Ax (A3 Gq (J 7) (C_ (A1 (J 9) (A1 (J 11) (AF))))))) (Ht 4 (C_ (A1 (A5 (.str (B_ "ring"))) (AF))) (A5 (.AR true))) (CU)
noncomputable def SN:Ae:=C_ (A1 (EV I7 (J 12) (Ef (A5 (.int 1))) (G9)) (A1 (J 11) (AF)))
noncomputable def dB:B0:=C9 (Ax (A3 (BP false) (A3 AM (J 12) (A5 (.int 0))) (A5 (.str (B_ "at"))))) (Ht 4 (J 12) (A5 (.AR true))) (C9 (EH (Ax (A3 (Fb false) SN (J 6)))) (AS (Ht 6 SN (A5 (.AR true))) (Gz 5 SN)) (CU))
def dC:B0:=AS oR (AS d9 (AS dA dB))
def abr(ok:GQ cs ws Bk n a)(g:Good (C6 cs cs.length) (B3 ws Bk a) n d0 W U []){h:AT}(AJ:((h,c):AX)∈W.map (·.1))(B9:List Cu)(S R:List AX)(at_:Nat)(Bp CW:Bb):oR (DQ ws Bk n a d0 (B3 ws Bk a) B9 S R at_ (.A2 (AY h)) Bp (.A2 (BE c)) CW)=.ok (.B6 (DQ ws Bk n a d0 (B3 ws Bk a) B9 S R at_ (.A2 (AY h)) Bp (.A2 (BE c)) (.A2 (CI h.1 (B3 ws Bk a (h,c)))))):=by obtain⟨p,AZ,BV⟩:=List.mem_map.mp AJ;have F8:=g.inr p AZ;rw[BV]at F8;have A6:h.1<cs.length:=(M9.mp F8.1).1;have x:=bx (s:=(h,c)) ok A6 F8.2;have b:AM (DC (Bk c)) (.int (h.1:Int))=.ok (DB ((Bk c).getD h.1 [])):=Pc (by have:=ok.AR c F8.2;lia);have Cg:AM (.lst (Co n Bk)) (BE c)=.ok (DC (Bk c)):=IF (by have h:c<n:=F8.2;simp[Co,h]);have DH:AM (AY h) (.int 0)=.ok (.int (h.1:Int)):=rfl;dsimp only at x;generalize(Bk c).getD h.1 []=S3 at b x;have AR:A3 AM (A3 AM (J 1) (J 11)) (A3 AM (J 9) (A5 (.int 0))) (DQ ws Bk n a d0 (B3 ws Bk a) B9 S R at_ (.A2 (AY h)) Bp (.A2 (BE c)) CW)=.ok (DB S3):=H9 (H9 rfl rfl Cg) (H9 rfl rfl DH) b;refine acy (d:=CI h.1 (B3 ws Bk a (h,c))) ?_ rfl;have v0:J 0 (DQ ws Bk n a d0 (B3 ws Bk a) B9 S R at_ (.A2 (AY h)) Bp (.A2 (BE c)) CW)=.ok (.lst (ws.map CO)):=rfl;have eH:J 9 (DQ ws Bk n a d0 (B3 ws Bk a) B9 S R at_ (.A2 (AY h)) Bp (.A2 (BE c)) CW)=.ok (AY h):=rfl;have eG:J 3 (DQ ws Bk n a d0 (B3 ws Bk a) B9 S R at_ (.A2 (AY h)) Bp (.A2 (BE c)) CW)=.ok (.int (a:Int)):=rfl;erw[aM,Gi,Ka,v0,eH,eG,AR,BX,H4,LP,if_true,x];rfl
noncomputable def Iy(S:List AX)(s:AX):List AX:=if s∈S then S else S++[s]
def Xj(l:List AX)(s:AX):(l.map Dr).any (λx=>decide (x=Dr s))=decide (s∈l):=Xk l s
def acH(ok:GQ cs ws Bk n a)(g:Good (C6 cs cs.length) (B3 ws Bk a) n d0 W U []){h:AT}(AJ:((h,c):AX)∈W.map (·.1))(B9:List Cu)(S R:List AX)(KB:R.length<1000)(at_:Nat)(Bp CW:Bb):d9 (DQ ws Bk n a d0 (B3 ws Bk a) B9 S R at_ (.A2 (AY h)) Bp (.A2 (BE c)) CW)=.ok (.B6 (DQ ws Bk n a d0 (B3 ws Bk a) B9 S (Iy R (h,c)) at_ (.A2 (AY h)) Bp (.A2 (BE c)) CW)):=by
 obtain⟨p,AZ,BV⟩:=List.mem_map.mp AJ;have F8:=g.inr p AZ;rw[BV]at F8;have Cg:AM (.lst (Co n Bk)) (BE c)=.ok (DC (Bk c)):=IF (by have h:c<n:=F8.2;simp[Co,h]);have QG:=ac7 ok g AJ;have Tg:∀ρ:AI,ρ[9]?=some (.A2 (AY h))->ρ[11]?=some (.A2 (BE c))->C_ (A1 (J 9) (A1 (J 11) (AF))) ρ=.ok (BB (h,c)):=λρ A6 AA=>by erw[aN,Gi,Ka,v_var,A6,AA,Kx,BX];rfl
 have bj:Fb false (BB (h,c)) (.An (R.map Dr) (R.map λs=>.AR (KY (B3 ws Bk a) s)))=.ok (.AR (!decide (((h,c):AX)∈R))):=by erw[Fb,NT,Xj];rfl
 have cd:EH (Ax (A3 (Fb false) (C_ (A1 (J 9) (A1 (J 11) (AF)))) (J 7))) (DQ ws Bk n a d0 (B3 ws Bk a) B9 S R at_ (.A2 (AY h)) Bp (.A2 (BE c)) CW)=.ok (!decide (((h,c):AX)∈R)):=Kn (H9 (Tg _ rfl rfl) rfl bj);unfold d9;rw[NR cd];unfold Iy;by_cases B5:((h,c):AX)∈R
 .rw[if_neg (B5:),if_pos B5];rfl
 .rw[if_pos (B5:),if_neg B5];have v:Br 4 Rt (A1 (J 0) (A1 (A3 AM (J 1) (J 11)) (A1 (J 9) (A1 (J 3) (AF))))) (DQ ws Bk n a d0 (B3 ws Bk a) B9 S R at_ (.A2 (AY h)) Bp (.A2 (BE c)) CW)=.ok (.AR (KY (B3 ws Bk a) (h,c))):=by
   have b:A3 AM (J 1) (J 11) (DQ ws Bk n a d0 (B3 ws Bk a) B9 S R at_ (.A2 (AY h)) Bp (.A2 (BE c)) CW)=.ok (DC (Bk c)):=H9 rfl rfl Cg;have v0:J 0 (DQ ws Bk n a d0 (B3 ws Bk a) B9 S R at_ (.A2 (AY h)) Bp (.A2 (BE c)) CW)=.ok (.lst (ws.map CO)):=rfl;have eH:J 9 (DQ ws Bk n a d0 (B3 ws Bk a) B9 S R at_ (.A2 (AY h)) Bp (.A2 (BE c)) CW)=.ok (AY h):=rfl;have eG:J 3 (DQ ws Bk n a d0 (B3 ws Bk a) B9 S R at_ (.A2 (AY h)) Bp (.A2 (BE c)) CW)=.ok (.int (a:Int)):=rfl;erw[aM,Gi,Ka,v0,eH,eG,b,BX,H4,LP,if_true,QG];rfl
  have an:=Xj R (h,c);rw[decide_eq_false B5]at an;have:=Z0 (i:=7) (mk:=C_ (A1 (J 9) (A1 (J 11) (AF)))) (mv:=Br 4 Rt (A1 (J 0) (A1 (A3 AM (J 1) (J 11)) (A1 (J 9) (A1 (J 3) (AF)))))) (ρ:=DQ ws Bk n a d0 (B3 ws Bk a) B9 S R at_ (.A2 (AY h)) Bp (.A2 (BE c)) CW) rfl (Tg _ rfl rfl) v (NT (h,c)) an (by simp;lia);rw[this];simp[DQ]
def u4(N:AX->On){R:List AX}{s:AX}(h:s∈R):findD (R.map Dr) (R.map λs=>D.AR (KY N s)) (Dr s)=some (.AR (KY N s)):=by
 unfold findD;induction R with
 |nil=>cases h
 |cons x R Bh=>
  erw[Du,K5,IV];by_cases q:x=s
  .simp[q]
  .have:¬Dr x=Dr s:=λz=>q (a7 z);erw[this,decide_false];exact Bh ((List.mem_cons.mp h).resolve_left (Hi q))
def adL{N:AX->On}{h:AT}{B9:List Cu}{S R:List AX}(Ju:∀x∈B9,x∈G5)(AN:B9.length<1000)(B5:((h,c):AX)∈R)(at_:Nat)(Bp CW:Bb):dA (DQ ws Bk n a d0 N B9 S R at_ (.A2 (AY h)) Bp (.A2 (BE c)) CW)=.ok (.B6 (DQ ws Bk n a d0 N (if KY N (h,c)=true then HR B9 (3,0,0)else B9) S R at_ (.A2 (AY h)) Bp (.A2 (BE c)) CW)):=by
 have Tg:∀ρ:AI,ρ[9]?=some (.A2 (AY h))->ρ[11]?=some (.A2 (BE c))->C_ (A1 (J 9) (A1 (J 11) (AF))) ρ=.ok (BB (h,c)):=λρ A6 AA=>by erw[aN,Gi,Ka,v_var,A6,AA,Kx,BX];rfl
 have Ag:Gq (.An (R.map Dr) (R.map λs=>.AR (KY N s))) (BB (h,c))=.ok (.AR (KY N (h,c))):=by erw[Gq,NT,u4 N B5]
 have cd:EH (Ax (A3 Gq (J 7) (C_ (A1 (J 9) (A1 (J 11) (AF)))))) (DQ ws Bk n a d0 N B9 S R at_ (.A2 (AY h)) Bp (.A2 (BE c)) CW)=.ok (KY N (h,c)):=Kn (H9 rfl (Tg _ rfl rfl) Ag);unfold dA;rw[NR cd]
 split
 .exact Yz Ju X_ AN rfl rfl rfl rfl
 .rfl
def adM{N:AX->On}{h:AT}{B9:List Cu}{S R:List AX}(Ju:∀x∈B9,x∈G5)(AN:B9.length<1000)(KC:S.length<1000)(DE:h.1<6)(ho:∀o,N (h,c)=.out o->o<4)(at_:Nat)(Bp:Bb):∃Eh El,dB (DQ ws Bk n a d0 N B9 S R at_ (.A2 (AY h)) Bp (.A2 (BE c)) (.A2 (CI h.1 (N (h,c)))))=.ok (.B6 (DQ ws Bk n a d0 N Eh El R at_ (.A2 (AY h)) Bp (.A2 (BE c)) (.A2 (CI h.1 (N (h,c))))))/\
  Eh=(if Gx (N (h,c))=true then B9 else HR B9 (JY h.1 (N (h,c))))/\((∀e,N (h,c)=.to e->El=Iy S (e,c))/\(Gx (N (h,c))=false->El=S)):=by
 have L5:=e0 h.1 (N (h,c));have Db:=yY (N (h,c));have cd:Ax (A3 (BP false) (A3 AM (J 12) (A5 (.int 0))) (A5 (.str (B_ "at")))) (DQ ws Bk n a d0 N B9 S R at_ (.A2 (AY h)) Bp (.A2 (BE c)) (.A2 (CI h.1 (N (h,c)))))=.ok (!Gx (N (h,c))):=Kn (H9 (H9 rfl rfl L5) rfl Db);unfold dB;rw[NR cd];cases e:N (h,c)with
 |drop=>exact⟨HR B9 (JY h.1 .drop),S,Yz (k:=JY h.1 .drop) Ju (Y2 DE) AN rfl rfl rfl rfl,rfl,(λ_ z=>nomatch z),λ_=>rfl⟩
 |out o=>exact⟨HR B9 (JY h.1 (.out o)),S,Yz (k:=JY h.1 (.out o)) Ju (XZ DE (ho o e)) AN rfl rfl rfl rfl,rfl,(λ_ z=>nomatch z),λ_=>rfl⟩
 |to f=>
  have WD:∀ρ:AI,ρ[12]?=some (.A2 (CI h.1 (.to f)))->ρ[11]?=some (.A2 (BE c))->SN ρ=.ok (BB (f,c)):=λρ A6 AA=>by have C2:=Z9 h.1 f;erw[SN,aN,Gi,Ka,eN,eM,oy,eL,v_var,A6,AA,Kx,BX,intD,C2];rfl
  have bj:Fb false (BB (f,c)) (.An (S.map Dr) (S.map λ_=>.AR true))=.ok (.AR (!decide (((f,c):AX)∈S))):=by erw[Fb,NT,Xj];rfl
  have sR:EH (Ax (A3 (Fb false) SN (J 6))) (DQ ws Bk n a d0 N B9 S R at_ (.A2 (AY h)) Bp (.A2 (BE c)) (.A2 (CI h.1 (.to f))))=.ok (!decide (((f,c):AX)∈S)):=Kn (H9 (WD _ rfl rfl) rfl bj);refine⟨B9,Iy S (f,c),?_,rfl,λCQ z=>(by cases z;rfl),(λz=>nomatch z)⟩;rw[if_neg (show¬(!Gx (On.to f))=true from λz=>nomatch z),NR sR];unfold Iy;by_cases hf:((f,c):AX)∈S
  .rw[if_neg (hf:),if_pos hf];rfl
  .rw[if_pos (hf:),if_neg hf];have an:=Xj S (f,c);rw[decide_eq_false hf]at an;have EA:=Z0 (i:=6) (mk:=SN) (mv:=A5 (.AR true)) (ρ:=DQ ws Bk n a d0 N B9 S R at_ (.A2 (AY h)) Bp (.A2 (BE c)) (.A2 (CI h.1 (.to f)))) rfl (WD _ rfl rfl) rfl (NT (f,c)) an (by simp;lia);rw[ED,EA,BX,F4,aeH];have mQ:ownAt 5 ((DQ ws Bk n a d0 N B9 S R at_ (.A2 (AY h)) Bp (.A2 (BE c)) (.A2 (CI h.1 (.to f)))).set 6 (.ob (.An (S.map Dr++[Dr (f,c)]) ((S.map λ_=>D.AR true)++[.AR true]))))=.ok (S.map BB):=rfl;rw[mQ,BX,WD _ rfl rfl,BX,Xl];rw[if_pos (by simp;lia)];simp[DQ]
end
def hh{S:List AX}{s x:AX}(h:x∈Iy S s):x∈S\/x=s:=by
 unfold Iy at h
 split at h
 .exact .inl h
 .rcases List.mem_append.mp h with h|h
  .exact .inl h
  .exact .inr (List.mem_singleton.mp h)
def iW(S:List AX)(s:AX):s∈Iy S s:=by
 unfold Iy
 split
 .assumption
 .simp
def r3(S:List AX)(s:AX):∃X,Iy S s=S++X:=by
 unfold Iy
 split
 .exact⟨[],γ⟩
 .exact⟨[s],rfl⟩
def hi{S:List AX}{s:AX}(h:S.Nodup):(Iy S s).Nodup:=by
 unfold Iy
 split
 .exact h
 .rename_i AQ;exact List.nodup_append.mpr ⟨h,γ,λx AG y Ba z=>by rw[List.mem_singleton.mp Ba]at z;exact AQ (z▸AG)⟩
section
variable{cs:ι}{ws:List (AT×AT)}{Bk:Nat->List (List Cz)}{n a c:Nat}{d0:AT}{W:F0}{U:To}
def adN(ok:GQ cs ws Bk n a)(g:Good (C6 cs cs.length) (B3 ws Bk a) n d0 W U [])(G7:W.length<=168)(Hp:∀s:AX,s.1∈C6 cs cs.length->∀o,B3 ws Bk a s=.out o->o<4){h:AT}(AJ:((h,c):AX)∈W.map (·.1)){B9:List Cu}{S R:List AX}(EZ:Ld (B3 ws Bk a) W B9 S R)(at_:Nat)(Bp CW:Bb) :
  ∃Eh El Jl nc,Ld (B3 ws Bk a) W Eh El Jl/\(∀k∈B9,k∈Eh)/\(∃X,El=S++X)/\Done (B3 ws Bk a) Eh El (h,c)/\dC (DQ ws Bk n a d0 (B3 ws Bk a) B9 S R at_ (.A2 (AY h)) Bp (.A2 (BE c)) CW)=.ok (.B6 (DQ ws Bk n a d0 (B3 ws Bk a) Eh El Jl at_ (.A2 (AY h)) Bp (.A2 (BE c)) nc)):=by
 obtain⟨p,AZ,BV⟩:=List.mem_map.mp AJ;have F8:=g.inr p AZ;rw[BV]at F8;have DE:h.1<6:=by have:=(M9.mp F8.1).1;have:=ok.EO.DE;dsimp only at*;lia
 have ho:=Hp (h,c) F8.1;obtain⟨f1,f2,Fc⟩:=EZ.few G7;have A9:=abr ok g AJ B9 S R at_ Bp CW;have AH:=acH ok g AJ B9 S R δ at_ Bp (.A2 (CI h.1 (B3 ws Bk a (h,c))));have Au:=adL (ws:=ws) (Bk:=Bk) (n:=n) (a:=a) (d0:=d0) (N:=B3 ws Bk a) (S:=S) EZ.Ju δ (iW R (h,c)) at_ Bp (.A2 (CI h.1 (B3 ws Bk a (h,c))));generalize OQ:(if KY (B3 ws Bk a) (h,c)=true then HR B9 (3,0,0)else B9)=J9 at Au
 have gD:J9.Nodup:=by rw[<-OQ];split;·exact hL EZ.fn
                      .exact EZ.fn
 have iB:∀k∈J9,k∈B9\/(k=(3,0,0)/\Rx (B3 ws Bk a) (h,c)):=λk AE=>by
  rw[<-OQ]at AE
  split at AE
  .rename_i A0;exact(Xg AE).imp id λz=>⟨z,(d_ _ _).mp A0⟩
  .exact .inl AE
 have rj:∀k∈B9,k∈J9:=λk AE=>by
  rw[<-OQ]
  split
  .exact hM AE
  .exact AE
 have ri:Rx (B3 ws Bk a) (h,c)->(3,0,0)∈J9:=λz=>by rw[<-OQ,if_pos ((d_ _ _).mpr z)];exact hK _ _
 have gC:∀k∈J9,k∈G5:=λk AE=>by
  rcases iB k AE with AE|⟨rfl,_⟩
  .exact EZ.Ju k AE
  .exact X_
 have ahX:J9.length<=37:=by have:=Mu gD gC;rw[b_]at this;exact this
 obtain⟨Eh,El,CH,SB,jU,jV⟩:=adM (ws:=ws) (Bk:=Bk) (n:=n) (a:=a) (d0:=d0) (N:=B3 ws Bk a) (R:=Iy R (h,c)) (S:=S) gC δ δ DE ho at_ Bp;have aek:∀e,B3 ws Bk a (h,c)=.to e->((e,c):AX)∈W.map (·.1):=λe he=>dq g AJ (by unfold Hu;rw[he]);have bb:(Gx (B3 ws Bk a (h,c))=false/\El=S)\/∃e,B3 ws Bk a (h,c)=.to e/\El=Iy S (e,c):=by
  cases q:B3 ws Bk a (h,c)with
  |to e=>exact .inr ⟨e,rfl,jU e q⟩
  |drop=>exact .inl ⟨rfl,jV (by rw[q];rfl)⟩
  |out o=>exact .inl ⟨rfl,jV (by rw[q];rfl)⟩
 have iF:∀k∈Eh,k∈J9\/(Gx (B3 ws Bk a (h,c))=false/\k=JY h.1 (B3 ws Bk a (h,c))):=λk AE=>by
  rw[SB]at AE
  split at AE
  .exact .inl AE
  .rename_i AQ;exact(Xg AE).imp id λz=>⟨Bool.eq_false_iff.mpr AQ,z⟩
 have iG:∀k∈J9,k∈Eh:=λk AE=>by
  rw[SB]
  split
  .exact AE
  .exact hM AE
 refine⟨Eh,El,Iy R (h,c),.A2 (CI h.1 (B3 ws Bk a (h,c))),⟨?_,λk AE=>?_,λk AE=>?_,?_,λs Gw=>?_,hi EZ.Lq,λs Gw=>?_⟩,λk AE=>iG k (rj k AE),?_,⟨λz=>iG _ (ri z),λz=>?_,λe he=>?_⟩,?_⟩
 .rw[SB]
  split
  .exact gD
  .exact hL gD
 .rcases iF k AE with AE|⟨q,rfl⟩
  .exact gC k AE
  .cases w:B3 ws Bk a (h,c)with
   |drop=>exact Y2 DE
   |out o=>exact XZ DE (ho o w)
   |to e=>rw[w]at q;cases q
 .rcases iF k AE with AE|⟨q,rfl⟩
  .rcases iB k AE with AE|⟨rfl,z⟩
   .exact EZ.Ar k AE
   .exact⟨_,AJ,.inr (.inr ⟨rfl,z⟩)⟩
  .exact⟨_,AJ,.inr (.inl ⟨q,rfl⟩)⟩
 .rcases bb with⟨_,rfl⟩|⟨e,_,rfl⟩
  .exact EZ.sn
  .exact hi EZ.sn
 .rcases bb with⟨_,rfl⟩|⟨e,he,rfl⟩
  .exact EZ.WG s Gw
  .rcases hh Gw with Gw|rfl
   .exact EZ.WG s Gw
   .exact aek e he
 .rcases hh Gw with Gw|rfl
  .exact EZ.IN s Gw
  .exact AJ
 .rcases bb with⟨_,rfl⟩|⟨e,he,rfl⟩
  .exact⟨[],γ⟩
  .exact r3 S (e,c)
 .rw[SB,if_neg (by rw[z];decide)];exact hK _ _
 .rw[jU e he];exact iW _ _
 .rw[dC,ED,A9,BX,F4,ED,AH,BX,F4,ED,Au,BX,F4,CH]
noncomputable def ej:B0:=AS (M7 (FO [BK 9,BK 10]) (Hs (A3 AM (J 5) (J 8))))
    (AS (BU 8 (A3 DP (J 8) (A5 (.int 1))))
    (AS (Ht 4 (C_ (A1 (A5 (.str (B_ "at"))) (A1 (A3 AM (J 9) (A5 (.int 0))) (AF)))) (A5 (.AR true)))
    (Dq (OI (A1 (J 10) (A1 (Bz CE (A1 (J 1) (AF))) (AF)))) (BK 11) dC)))
def Ow(N:AX->On)(n:Nat)(B9:List Cu)(S:List AX)(s:AX):Prop:=(0,(s.1.1:Int),0)∈B9/\∀c,s.2<=c->c<n->Done N B9 S (s.1,c)
theorem Ow.mono{N:AX->On}{B9 Eh:List Cu}{S El:List AX}{s:AX}(h:Ow N n B9 S s)(A6:∀k∈B9,k∈Eh)(AA:∀t∈S,t∈El):Ow N n Eh El s:=⟨A6 _ h.1,λc a b=>(h.2 c a b).mono A6 AA⟩
def dz{α:Type}(r:R α):r.bind .ok=r:=by cases r<;>rfl
def tT{α:Type}{mi:B1}{set:D->AI->R AI}{body:B0}{ρ:AI}{T:FQ->Prop}(g:α->D)(xs:List α)(I:Nat->AI->Prop)(AC:mi ρ=.ok (xs.map g))(h0:I 0 ρ)(st:∀(j:Nat) a ρ,xs[j]?=some a->I j ρ->Ends ((set (g a) ρ).bind body) (IZ (I (j+1))))(fin:∀BL,I xs.length BL->T (.B6 BL)):Ends (Dq mi set body ρ) T:=by rw[<-dz (Dq mi set body ρ)];exact NH g xs I AC h0 st λBL h=>(fin BL h:)
def aeS(ok:GQ cs ws Bk n a)(g:Good (C6 cs cs.length) (B3 ws Bk a) n d0 W U [])(G7:W.length<=168)(Hp:∀s:AX,s.1∈C6 cs cs.length->∀o,B3 ws Bk a s=.out o->o<4){B9:List Cu}{S R:List AX}(EZ:Ld (B3 ws Bk a) W B9 S R){at_:Nat}(kP:at_<S.length)(s9 Bp Dc CW:Bb) :
  Ends (ej (DQ ws Bk n a d0 (B3 ws Bk a) B9 S R at_ s9 Bp Dc CW)) (IZ λρ=>∃Eh El Jl s9 Bp Dc CW,Ld (B3 ws Bk a) W Eh El Jl/\(∀k∈B9,k∈Eh)/\(∃X,El=S++X)/\Ow (B3 ws Bk a) n Eh El S[at_]/\ρ=DQ ws Bk n a d0 (B3 ws Bk a) Eh El Jl (at_+1) s9 Bp Dc CW):=by
 have QI:=EZ.WG S[at_] (MC _);obtain⟨f1,f2,Fc⟩:=EZ.few G7;have M5:AM (.lst (S.map BB)) (BE at_)=.ok (BB S[at_]):=IF (by simp[kP]);generalize S[at_]=s at QI M5;obtain⟨h,low⟩:=s;obtain⟨p,AZ,BV⟩:=List.mem_map.mp QI;have F8:=g.inr p AZ;have up:=g.up p AZ;rw[BV]at F8 up;have DE:h.1<6:=by have:=(M9.mp F8.1).1;have:=ok.EO.DE;dsimp only at*;lia
 have A9:M7 (FO [BK 9,BK 10]) (Hs (A3 AM (J 5) (J 8))) (DQ ws Bk n a d0 (B3 ws Bk a) B9 S R at_ s9 Bp Dc CW)=.ok (.B6 (DQ ws Bk n a d0 (B3 ws Bk a) B9 S R at_ (.A2 (AY h)) (.A2 (BE low)) Dc CW)):=by
  have b:Hs (A3 AM (J 5) (J 8)) (DQ ws Bk n a d0 (B3 ws Bk a) B9 S R at_ s9 Bp Dc CW)=.ok (BB (h,low)):=by have:A3 AM (J 5) (J 8) (DG (DQ ws Bk n a d0 (B3 ws Bk a) B9 S R at_ s9 Bp Dc CW))=.ok (BB (h,low)):=H9 (x:=.lst (S.map BB)) rfl rfl M5;rw[aeI,this,BX,if_pos (show QN (BB (h,low))=true from rfl)]
  rw[aeL,b];rfl
 have AH:BU 8 (A3 DP (J 8) (A5 (.int 1))) (DQ ws Bk n a d0 (B3 ws Bk a) B9 S R at_ (.A2 (AY h)) (.A2 (BE low)) Dc CW)=.ok (.B6 (DQ ws Bk n a d0 (B3 ws Bk a) B9 S R (at_+1) (.A2 (AY h)) (.A2 (BE low)) Dc CW)):=rfl;have Au:Ht 4 (C_ (A1 (A5 (.str (B_ "at"))) (A1 (A3 AM (J 9) (A5 (.int 0))) (AF)))) (A5 (.AR true)) (DQ ws Bk n a d0 (B3 ws Bk a) B9 S R (at_+1) (.A2 (AY h)) (.A2 (BE low)) Dc CW)=.ok (.B6 (DQ ws Bk n a d0 (B3 ws Bk a) (HR B9 (0,(h.1:Int),0)) S R (at_+1) (.A2 (AY h)) (.A2 (BE low)) Dc CW)):=Yz (k:=(0,(h.1:Int),0)) EZ.Ju (Y1 DE) δ rfl rfl rfl rfl;have oF:Ld (B3 ws Bk a) W (HR B9 (0,(h.1:Int),0)) S R:=by
  refine⟨hL EZ.fn,λk AE=>?_,λk AE=>?_,EZ.sn,EZ.WG,EZ.Lq,EZ.IN⟩
  .rcases Xg AE with AE|rfl
   .exact EZ.Ju k AE
   .exact Y1 DE
  .rcases Xg AE with AE|rfl
   .exact EZ.Ar k AE
   .exact⟨_,QI,.inl rfl⟩
 have DY:=hK B9 (0,(h.1:Int),0);have hr:∀k∈B9,k∈HR B9 (0,(h.1:Int),0):=λk AE=>hM AE;generalize HR B9 (0,(h.1:Int),0)=J9 at Au oF DY hr;rw[ej,ED,A9,BX,F4,ED,AH,BX,F4,ED,Au,BX,F4];have IJ:=ok.IJ;have QG:=n_ (l:=low) (n:=n) (by have:low<n:=F8.2;lia) δ;have AC:OI (A1 (J 10) (A1 (Bz CE (A1 (J 1) (AF))) (AF))) (DQ ws Bk n a d0 (B3 ws Bk a) J9 S R (at_+1) (.A2 (AY h)) (.A2 (BE low)) Dc CW)=.ok ((R6 low (n-low)).map BE):=by
  have ln:Bz CE (A1 (J 1) (AF)) (DQ ws Bk n a d0 (B3 ws Bk a) J9 S R (at_+1) (.A2 (AY h)) (.A2 (BE low)) Dc CW)=.ok (.int (n:Int)):=by have:=Zr (a:=J 1) (ρ:=DQ ws Bk n a d0 (B3 ws Bk a) J9 S R (at_+1) (.A2 (AY h)) (.A2 (BE low)) Dc CW) (xs:=Co n Bk) rfl;rw[show(Co n Bk).length=n by simp[Co]]at this;exact this
  have v10:J 10 (DQ ws Bk n a d0 (B3 ws Bk a) J9 S R (at_+1) (.A2 (AY h)) (.A2 (BE low)) Dc CW)=.ok (.int (low:Int)):=rfl;rw[adp,Gi,v10,BX,Gi,ln,BX,Ka,BX,BX,BX];exact QG
 refine tT BE (R6 low (n-low)) (λj ρ=>∃Eh El Jl Dc CW,Ld (B3 ws Bk a) W Eh El Jl/\(∀k∈J9,k∈Eh)/\(∃X,El=S++X)/\(∀c∈(R6 low (n-low)).take j,Done (B3 ws Bk a) Eh El (h,c))/\ρ=DQ ws Bk n a d0 (B3 ws Bk a) Eh El Jl (at_+1) (.A2 (AY h)) (.A2 (BE low)) Dc CW) AC ⟨J9,S,R,Dc,CW,oF,λ_ h=>h,⟨[],γ⟩,(λc AO=>by simp at AO),rfl⟩ ?_ ?_
 .rintro j c _ Bi ⟨Eh,El,Jl,Dc,CW,WB,sub,⟨X,J3⟩,S9,rfl⟩;have AO:=List.mem_range'_1.mp (Hd Bi);have sB:((h,c):AX)∈W.map (·.1):=up c AO.1 δ;obtain⟨rC,rP,Ek,nc,adh,pi,⟨rW,kN⟩,ts,e⟩:=adN ok g G7 Hp sB WB (at_+1) (.A2 (BE low)) CW;have L1:BK 11 (BE c) (DQ ws Bk n a d0 (B3 ws Bk a) Eh El Jl (at_+1) (.A2 (AY h)) (.A2 (BE low)) Dc CW)=.ok (DQ ws Bk n a d0 (B3 ws Bk a) Eh El Jl (at_+1) (.A2 (AY h)) (.A2 (BE low)) (.A2 (BE c)) CW):=rfl;rw[L1,BX,e];refine⟨_,rfl,_,rfl,rC,rP,Ek,_,_,adh,λk AE=>pi k (sub k AE),⟨X++rW,by rw[kN,J3,O1]⟩,λEm M0=>?_,rfl⟩;rw[O2,Bi]at M0;rcases List.mem_append.mp M0 with M0|M0
  .exact(S9 Em M0).mono pi λt Aj=>by rw[kN];exact FZ _ Aj
  .have:Em=c:=by simpa using M0
   rw[this];exact ts
 .rintro _ ⟨Eh,El,Jl,Dc,CW,WB,sub,J3,S9,rfl⟩;refine⟨_,rfl,Eh,El,Jl,_,_,_,_,WB,λk AE=>sub k (hr k AE),J3,⟨sub _ DY,λc A6 AA=>S9 c ?_⟩,rfl⟩;rw[X2 (CY _)];exact List.mem_range'_1.mpr ⟨A6,by dsimp only at*;lia⟩
end
section
variable{cs:ι}{ws:List (AT×AT)}{Bk:Nat->List (List Cz)}{n a c:Nat}{d0:AT}{W:F0}{U:To}
def aeT:Ck:=EH (Ax (A3 Rj (J 8) (Bz CE (A1 (J 5) (AF)))))
def adi(ok:GQ cs ws Bk n a)(g:Good (C6 cs cs.length) (B3 ws Bk a) n d0 W U [])(G7:W.length<=168)(h0:((d0,0):AX)∈W.map (·.1))(Hp:∀s:AX,s.1∈C6 cs cs.length->∀o,B3 ws Bk a s=.out o->o<4) :
  ∃B9 S R,Ld (B3 ws Bk a) W B9 S R/\((d0,0):AX)∈S/\(∀s∈S,Ow (B3 ws Bk a) n B9 S s)/\Rs [.lst (ws.map CO),.lst (Co n Bk),AY d0,.int (a:Int)]=.ok (.o ((LT.Io B9).map I6)):=by
 suffices h:Ends (Rs [.lst (ws.map CO),.lst (Co n Bk),AY d0,.int (a:Int)]) (λy=>∃B9 S R,Ld (B3 ws Bk a) W B9 S R/\((d0,0):AX)∈S/\(∀s∈S,Ow (B3 ws Bk a) n B9 S s)/\y=.o ((LT.Io B9).map I6))by
  obtain⟨y,e,B9,S,R,A6,AA,Ao,rfl⟩:=h;exact⟨B9,S,R,A6,AA,Ao,e⟩
 have GK:∀x0 FX FD GZ:D,Rs [x0,FX,FD,GZ]=(Xv [.A2 x0,.A2 FX,.A2 FD,.A2 GZ,.un,.un,.un,.un,.un,.un,.un,.un,.un]).bind outD:=λ_ _ _ _=>rfl
 have BS:Xv=AS (Kq 4)
  (AS (EK 5 (CZ (A1 (C_ (A1 (J 2) (A1 (A5 (.int 0)) (AF)))) (AF))))
  (AS (WU 6 (M6 (C_ (A1 (J 2) (A1 (A5 (.int 0)) (AF))))) (A5 (.AR true)))
  (AS (Kq 7)
  (AS (BU 8 (A5 (.int 0)))
  (AS (JS aeT ej) (OF 4 (Fn (Tp (A1 (J 4) (AF)))))))))):=rfl
 have st:∀b:B0,AS (Kq 4)
  (AS (EK 5 (CZ (A1 (C_ (A1 (J 2) (A1 (A5 (.int 0)) (AF)))) (AF))))
  (AS (WU 6 (M6 (C_ (A1 (J 2) (A1 (A5 (.int 0)) (AF))))) (A5 (.AR true)))
  (AS (Kq 7)
  (AS (BU 8 (A5 (.int 0))) b)))) [.A2 (.lst (ws.map CO)),.A2 (.lst (Co n Bk)),.A2 (AY d0),.A2 (.int (a:Int)),.un,.un,.un,.un,.un,.un,.un,.un,.un]=b (DQ ws Bk n a d0 (B3 ws Bk a) [] [(d0,0)] [] 0 .un .un .un .un):=λb=>rfl
 rw[GK,BS,st,ED,SV]
 refine Vc (λm ρ=>∃B9 S R at_ s9 Bp Dc CW,Ld (B3 ws Bk a) W B9 S R/\((d0,0):AX)∈S/\at_<=S.length/\(∀(i:Nat) s,i<at_->S[i]?=some s->Ow (B3 ws Bk a) n B9 S s)/\m=169-at_/\ρ=DQ ws Bk n a d0 (B3 ws Bk a) B9 S R at_ s9 Bp Dc CW) (n:=169)
  ⟨[],[(d0,0)],[],0,.un,.un,.un,.un,⟨.nil,(λk AE=>nomatch AE),(λk AE=>nomatch AE),γ,λs AJ=>by rw[List.mem_singleton.mp AJ];exact h0,.nil,(λk AE=>nomatch AE)⟩,γ,γ,(λi s AC=>δ),rfl,rfl⟩ ε ?_
 rintro m _ ⟨B9,S,R,at_,s9,Bp,Dc,CW,EZ,Yj,kP,past,rfl,rfl⟩;obtain⟨f1,f2,Fc⟩:=EZ.few G7;refine⟨decide (at_<S.length),?_,λAj=>?_,λAj=>?_⟩
 .have ln:Bz CE (A1 (J 5) (AF)) (DG (DQ ws Bk n a d0 (B3 ws Bk a) B9 S R at_ s9 Bp Dc CW))=.ok (.int (S.length:Int)):=by
    have:=Zr (a:=J 5) (ρ:=DG (DQ ws Bk n a d0 (B3 ws Bk a) B9 S R at_ s9 Bp Dc CW)) (xs:=S.map BB) rfl;rw[GN]at this;exact this
  have:Ax (A3 Rj (J 8) (Bz CE (A1 (J 5) (AF)))) (DG (DQ ws Bk n a d0 (B3 ws Bk a) B9 S R at_ s9 Bp Dc CW))=.ok (decide ((at_:Int)<(S.length:Int))):=Kn (H9 (x:=.int (at_:Int)) rfl ln (z7 _ _));show Ax (A3 Rj (J 8) (Bz CE (A1 (J 5) (AF)))) (DG (DQ ws Bk n a d0 (B3 ws Bk a) B9 S R at_ s9 Bp Dc CW))=_;rw[this]
  congr 1
  by_cases q:at_<S.length
  .have:(at_:Int)<(S.length:Int):=δ
   simp[q,this]
  .have:¬(at_:Int)<(S.length:Int):=δ
   simp[q,this]
 .have Aj:at_<S.length:=by simpa using Aj
  refine(aeS ok g G7 Hp EZ Aj s9 Bp Dc CW).mono ?_;rintro f ⟨ρ,rfl,Eh,El,Jl,s9,Bp,Dc,CW,WB,sub,⟨X,rfl⟩,acK,rfl⟩;refine⟨_,rfl,169-(at_+1),δ,Eh,S++X,Jl,at_+1,s9,Bp,Dc,CW,WB,FZ _ Yj,by simp;lia,λi s AC AJ=>?_,rfl,rfl⟩;have TS:i<S.length:=δ
  rw[IS TS]at AJ;by_cases q:i=at_
  .subst q;rw[Dt TS]at AJ;cases AJ;exact acK
  .exact(past i s δ AJ).mono sub λt Aj=>FZ _ Aj
 .have Aj:¬at_<S.length:=by simpa using Aj
  have all:∀s∈S,Ow (B3 ws Bk a) n B9 S s:=λs AJ=>by obtain⟨i,AC,rfl⟩:=Qv AJ;exact past i _ δ (Dt AC)
  refine⟨.o ((LT.Io B9).map I6),?_,B9,S,R,EZ,Yj,all,rfl⟩;have eb:a6 [.An (B9.map E1) (B9.map λ_=>.AR true)]=.ok ((LT.Io B9).map I6):=by erw[a6,kS EZ.Ju];rw[if_pos (by simp;lia)]
  have Ea:Tp (A1 (J 4) (AF)) (Jw 4 (DQ ws Bk n a d0 (B3 ws Bk a) B9 S R at_ s9 Bp Dc CW))=.ok ((LT.Io B9).map I6):=eb;show((Fn (Tp (A1 (J 4) (AF)))) (Jw 4 (DQ ws Bk n a d0 (B3 ws Bk a) B9 S R at_ s9 Bp Dc CW))).bind outD=_;rw[adq,Ea];rfl
def aci{l m:List Cu}(AN:l.Nodup)(hm:m.Nodup)(h:∀k,k∈l↔k∈m):LT.Io l=LT.Io m:=by have p:l.Perm m:=(List.perm_ext_iff_of_nodup AN hm).mpr h;exact LT.pZ ((LT.Tc l).trans p) (qa LT.kj LT.ki l)
def abq(g:Good (C6 cs cs.length) (B3 ws Bk a) n d0 W U [])(h0:((d0,0):AX)∈W.map (·.1)){P:Gm}(mo:RF (B3 ws Bk a) W P){B9:List Cu}{S R:List AX}(EZ:Ld (B3 ws Bk a) W B9 S R)(KC:((d0,0):AX)∈S)(Ai:∀s∈S,Ow (B3 ws Bk a) n B9 S s)(k:Cu):k∈P.map (·.1)↔k∈B9:=by
 have low:∀s,Rw (B3 ws Bk a) n d0 s->∃t∈S,t.1=s.1/\t.2<=s.2/\s.2<n:=λs h=>by
  induction h with
  |st k AE=>exact⟨_,KC,rfl,IT _,AE⟩
  |go s e k _ AQ A6 AA Bh=>obtain⟨t,Aj,A9,AH,Au⟩:=Bh;have:=((Ai t Aj).2 s.2 AH Au).2.2 e (by rw[A9];exact AQ);exact⟨_,this,rfl,A6,AA⟩
 have S9:∀s∈W.map (·.1),(0,(s.1.1:Int),0)∈B9/\Done (B3 ws Bk a) B9 S s:=λs AJ=>by obtain⟨t,Aj,A9,AH,Au⟩:=low s (x9 g AJ);have p:=Ai t Aj;have:=p.2 s.2 AH Au;rw[A9]at this;exact⟨by rw[<-A9];exact p.1,this⟩
 constructor
 .intro AE;obtain⟨p,AZ,w⟩:=mo.so k AE;have AJ:p.1∈W.map (·.1):=List.mem_map.mpr ⟨p,AZ,rfl⟩;obtain⟨d1,Ct⟩:=S9 p.1 AJ;rcases w with rfl|⟨A6,rfl⟩|⟨rfl,m,hm,B5⟩
  .exact d1
  .exact Ct.2.1 A6
  .exact Ct.1 ⟨0,p.1,rfl,m,hm,B5⟩
 .intro AE;obtain⟨s,AJ,w⟩:=EZ.Ar k AE;obtain⟨p,AZ,rfl⟩:=List.mem_map.mp AJ;rcases w with rfl|⟨A6,rfl⟩|⟨rfl,j,t,Bi,m,hm,B5⟩
  .exact mo.at_ p AZ
  .exact mo.FI p AZ A6
  .have aef:=Zk g AJ j t Bi;obtain⟨q,AV,eq⟩:=List.mem_map.mp aef;have:=mo.N9 q AV;rw[eq]at this;exact this ⟨m,hm,B5⟩
end
def aaB(l:ι):okN 8 (CS l)=true:=by simp[CS,okN,BE]
def ac9{l:ι}(h0:l≠[])(A6:l.Pairwise (· <=·))(m:Nat)(AA:∀x∈l,x<=m):OJ [CS l,.int (m:Int)]=.ok (.v (.AR true)):=by
 apply Ends.done;have Ur:Ih "list" (CS l)=.ok (.AR true):=rfl;have FI:BP true (CS l) (.lst [])=.ok (.AR false):=by
  have o:okN 8 (.lst [])=true:=rfl;cases l with
  |nil=>exact absurd rfl h0
  |cons a l=>have D3:=aaB (a::l);erw[CS,Du]at D3 |-;erw[BP,D3,o,and_self,if_true,Ci,Dv]
 have ii:∀i:Int,Ih "int" (.int i)=.ok (.AR true):=λ_=>rfl;have VM:∀i:Int,Ih "bool" (.int i)=.ok (.AR false):=λ_=>rfl;simp[OJ,gO,HX,Ur,FI];refine NH BE l (λj ρ=>∃(q:Nat)(s3:Bb),(∀x∈l.drop j,q<=x)/\ρ=[.A2 (CS l),.A2 (.int (m:Int)),.A2 (.int (q:Int)),s3]) (by simp[CS,P7]) ⟨0,.un,λ_ _=>IT _,rfl⟩ ?_ ?_
 .rintro j x _ Bi ⟨q,s3,AV,rfl⟩;have AG:x∈l:=Hd Bi;have LF:l.drop j=x::l.drop (j+1):=by
   obtain⟨AN,e⟩:=List.getElem?_eq_some_iff.mp Bi;rw[Wm AN,e]
  have a1:(q:Int)<=(x:Int):=by have:=AV x (by rw[LF];simp);lia
  have a2:(x:Int)<=(m:Int):=by have:=AA x AG;lia
  have KX:(x::l.drop (j+1)).Pairwise (· <=·):=by rw[<-LF];exact A6.drop
  simp[BE,ii,VM,a1,a2];exact⟨x,λy Ba=>(List.pairwise_cons.mp KX).1 y Ba,rfl⟩
 .rintro _ ⟨q,s3,_,rfl⟩;simp
section
variable{N:AX->On}{n:Nat}{d0:AT}
def Jp.facts{l:ι}{s:AX}(h:Jp N n d0 l s):(∃p,l=p++[s.2])/\l.Pairwise (· <=·)/\(∀x∈l,x<=s.2)/\s.2<n:=by
 induction h with
 |st k AE=>exact⟨⟨[],rfl⟩,γ,γ,AE⟩
 |go l s e k _ A6 AA Ao Bh=>
  obtain⟨_,C1,VK,cy⟩:=Bh;refine⟨⟨l,rfl⟩,?_,λx AG=>?_,Ao⟩
  .rw[List.pairwise_append];exact⟨C1,γ,λa AD b A0=>by rw[List.mem_singleton.mp A0];exact FF (VK a AD) AA⟩
  .rcases List.mem_append.mp AG with z|z
   .exact FF (VK x z) AA
   .rw[List.mem_singleton.mp z];exact CY _
inductive Lc(N:AX->On)(n:Nat)(d0:AT):ι->List AT->AT->Prop
 |st:Lc N n d0 [] [] d0
 |go (ks:ι) (E7:List AT) (d e:AT) (k:Nat):Lc N n d0 ks E7 d->N (d,k)=.to e->k<n->Lc N n d0 (ks++[k]) (E7++[d]) e
def Jp.RR{l:ι}{s:AX}(h:Jp N n d0 l s):∃E7,Lc N n d0 l.dropLast E7 s.1/\E7.length+1=l.length:=by
 induction h with
 |st k AE=>exact⟨[],.st,rfl⟩
 |go l s e k w A6 AA Ao Bh=>
  obtain⟨E7,p,AN⟩:=Bh;obtain⟨⟨q,eq⟩,_,_,sn⟩:=w.facts;refine⟨E7++[s.1],?_,by simp;lia⟩;have:(l++[k]).dropLast=l.dropLast++[s.2]:=by rw[fJ,eq,fJ]
  rw[this];exact .go _ _ _ _ _ p A6 sn
theorem c9{s:AX}:∀(j:Nat){t:AX},Cf N s j=some t->t.2=s.2
 |0,t,h=>by cases h;rfl
 |j+1,t,h=>by
  erw[Cf]at h;cases e:Cf N s j with
  |none=>rw[e]at h;cases h
  |some u=>
   rw[e]at h;have h:Hu N u=some t:=h;unfold Hu at h
   split at h
   .cases h;show u.2=s.2;exact c9 j e
   .cases h
def lA{s:AX}{j:Nat}{t:AX}(h:Cf N s (j+1)=some t):∃u,Cf N s j=some u/\N u=.to t.1:=by
 erw[Cf]at h;cases e:Cf N s j with
 |none=>rw[e]at h;cases h
 |some u=>
  rw[e]at h;have h:Hu N u=some t:=h;unfold Hu at h
  split at h
  .rename_i d hd;cases h;exact⟨u,rfl,hd⟩
  .cases h
theorem Lc.round{ks:ι}{E7:List AT}{s:AX}(p:Lc N n d0 ks E7 s.1)(AQ:s.2<n):∀(j:Nat){t:AX},Cf N s j=some t->∃Lp,Lc N n d0 (ks++ES j s.2) Lp t.1/\Lp.length=E7.length+j/\(Lp++[t.1])[E7.length]?=some s.1
 |0,t,h=>by cases h;exact⟨E7,(p:),rfl,γ⟩
 |j+1,t,h=>by
  obtain⟨u,e,BM⟩:=lA h;obtain⟨Lp,MB,KD,g'⟩:=Lc.round p AQ j e;have Hj:=c9 j e;refine⟨Lp++[u.1],?_,by simp[KD];lia,?_⟩
  .rw[fK,<-O1];refine .go _ _ _ _ _ MB ?_ AQ;rw[show((u.1,s.2):AX)=u from N0 rfl Hj.symm];exact BM
  .rw[IS (by simp;lia)];exact g'
end
section
variable{N:AX->On}{n:Nat}{d0:AT}
structure iL(N:AX->On)(n:Nat)(d0:AT)(ks:ι)(F:List AT):Prop where
 l:F.length=ks.length+1
 z:F[0]?=some d0
 st:∀(j k:Nat),ks[j]?=some k->∃x e,F[j]?=some x/\F[j+1]?=some e/\N (x,k)=.to e/\k<n
def Lc.dN{ks:ι}{E7:List AT}{d:AT}(h:Lc N n d0 ks E7 d):iL N n d0 ks (E7++[d]):=by
 induction h with
 |st=>exact⟨rfl,rfl,λj k h=>by simp at h⟩
 |go ks E7 d e k p A6 AA Bh=>
  have Ky:E7.length=ks.length:=by have:=Bh.l;simp at this;exact this
  refine⟨by simp[Ky],?_,λj q h=>?_⟩
  .rw[IS γ];exact Bh.z
  .by_cases Bi:j<ks.length
   .rw[IS Bi]at h;obtain⟨x,CQ,a,b,c⟩:=Bh.st j q h;have yz:j+1<(E7++[d]).length:=(List.getElem?_eq_some_iff.mp b).1;exact⟨x,CQ,by rw[IS δ];exact a,by rw[IS yz];exact b,c⟩
   .have cc:=(List.getElem?_eq_some_iff.mp h).1;simp at cc;have:j=ks.length:=δ
    subst this;simp at h;subst h;refine⟨d,e,?_,?_,A6,AA⟩
    .rw[<-Ky,IS γ];simp
    .rw[<-Ky];simp
def Lc.in{A:List AT}(Le:∀s e,N s=.to e->e∈A){ks:ι}{E7:List AT}{d:AT}(h:Lc N n d0 ks E7 d)(h0:d0∈A):∀x∈E7++[d],x∈A:=by
 induction h with
 |st=>intro x AG;simp at AG;rw[AG];exact h0
 |go ks E7 d e k p A6 AA Bh=>
  intro x AG;rcases List.mem_append.mp AG with z|z
  .exact Bh x z
  .rw[List.mem_singleton.mp z];exact Le _ _ A6
end
noncomputable def Gy(ws:List (AT×AT))(n:Nat)(Bk:Nat->List (List Cz))(d0:AT)(a:Nat)(q:ι)(g:D)(F:List AT)(Ce s8 s9:Bb):AI:=[.A2 (.lst (ws.map CO)),.A2 (.lst (Co n Bk)),.A2 (AY d0),.A2 (.int (a:Int)),.A2 (CS q),.A2 g,.Bm (F.map AY),Ce,s8,s9]
section
variable{cs:ι}{ws:List (AT×AT)}{Bk:Nat->List (List Cz)}{n a:Nat}{d0:AT}
def cR(ok:GQ cs ws Bk n a){q:ι}{g:D}{F:List AT}{d:AT}{k:Nat}(hd:d∈C6 cs cs.length)(AE:k<n)(Ce s8 s9:Bb){m:Ae}(hm:m (DG (Gy ws n Bk d0 a q g (F++[d]) Ce s8 s9))=.ok (BE k)) :
  BU 8 (Hs (Br 4 Im (A1 (J 0) (A1 (A3 AM (A3 AM (J 1) m) (A3 AM (A3 AM (J 6) (C4 EW (A5 (.int 1)))) (A5 (.int 0)))) (A1 (A3 AM (J 6) (C4 EW (A5 (.int 1)))) (A1 (J 3) (AF))))))) (Gy ws n Bk d0 a q g (F++[d]) Ce s8 s9)=.ok (.B6 (Gy ws n Bk d0 a q g (F++[d]) Ce (.A2 (CI d.1 (B3 ws Bk a (d,k)))) s9)):=by
 have dl:=(M9.mp hd).1;have x:=bx (s:=(d,k)) ok dl AE;have b:AM (DC (Bk k)) (.int (d.1:Int))=.ok (DB ((Bk k).getD d.1 [])):=Pc (by have:=ok.AR k AE;lia);have VN:AM (.lst (Co n Bk)) (BE k)=.ok (DC (Bk k)):=IF (by simp[Co,AE]);have Pa:AM (.lst ((F++[d]).map AY)) (.int (-1))=.ok (AY d):=by rw[Hy];exact Zn _ _
 have DH:AM (AY d) (.int 0)=.ok (.int (d.1:Int)):=rfl;have x:Im [.lst (ws.map CO),DB ((Bk k).getD d.1 []),AY d,.int (a:Int)]=.ok (.v (CI d.1 (B3 ws Bk a (d,k)))):=x;generalize(Bk k).getD d.1 []=S3 at b x;have so:=av d.1 (B3 ws Bk a (d,k));generalize CI d.1 (B3 ws Bk a (d,k))=o at x so |-;unfold Gy at hm |-;erw[DG,IB,JX,Du,O5]at hm;generalize(F++[d]).map AY=fd at hm Pa;simp[DG,IB,JX,hm,VN,Pa,DH,b,x,so]
def cT (ok:GQ cs ws Bk n a) {q ks:ι} {g:D} {F:List AT} (AV:q.dropLast=ks) (AZ:iL (B3 ws Bk a) n d0 ks F) (K9:∀x∈F,x∈C6 cs cs.length) (AN:ks.length<=900) {T:C5->Prop}(fin:∀Ce s8,Ends (((AS (C9 (Ax (A3 (BP true) (A3 AM (J 5) (A5 (.int 0))) (A5 (.str (B_ "at"))))) (JR (A3 (BP true) (A3 AM (A3 AM (J 6) (C4 EW (A5 (.int 1)))) (A5 (.int 0))) (A3 AM (J 5) (A5 (.int 1))))) (CU))
  (AS (BU 8 (Hs (Br 4 Im (A1 (J 0) (A1 (A3 AM (A3 AM (J 1) (A3 AM (J 4) (C4 EW (A5 (.int 1))))) (A3 AM (A3 AM (J 6) (C4 EW (A5 (.int 1)))) (A5 (.int 0)))) (A1 (A3 AM (J 6) (C4 EW (A5 (.int 1)))) (A1 (J 3) (AF))))))))
  (AS (C9 (Ax (A3 (BP false) (J 5) (C_ (A1 (A5 (.str (B_ "ring"))) (AF))))) (CV (A3 (BP true) (J 8) (J 5))) (CU))
  (AS (C9 (Ax (A3 (BP false) (A3 AM (J 8) (A5 (.int 0))) (A5 (.str (B_ "at"))))) (CV (A5 (.AR false))) (CU))
  (AS (Dq (FL (A1 (Ko (Bz CE (A1 (J 6) (AF)))) (AF))) (BK 9) (C9 (EH (IH (Ax (A3 (BP true) (A3 AM (J 6) (J 9)) (EV I7 (J 8) (Ef (A5 (.int 1))) (G9)))) (Ax (Bz CP.C6 (A1 (Bo (E3 1 [4] (H2 (EV IR (J 4) (Ef (J 9)) (G9))) (BK 0) (FM) (A3 (BP true) (J 0) (A3 AM (J 1) (C4 EW (A5 (.int 1))))))) (AF)))))) (CV (A5 (.AR true))) (CU)))
  (CV (A5 (.AR false)))))))) (Gy ws n Bk d0 a q g F Ce s8 .un)).bind outD) T):Ends (Kr [.lst (ws.map CO),.lst (Co n Bk),AY d0,.int (a:Int),CS q,g]) T:=by
 have cl:Ed (q.map BE) none (some (-1))=ks.map BE:=by rw[jG,<-List.map_dropLast,AV]
 have HV:=AZ.l;have DJ:EK 6 (CZ (A1 (J 2) (AF))) (HX 10 [.lst (ws.map CO),.lst (Co n Bk),AY d0,.int (a:Int),CS q,g])=.ok (.B6 (Gy ws n Bk d0 a q g (F.take 1) .un .un .un)):=by
  have:F.take 1=[d0]:=by
   have:=AZ.z;cases F with
   |nil=>simp at this
   |cons x F=>simp at this;rw[this];rfl
  rw[this];rfl
 unfold Kr;rw[eK];unfold gw;rw[ED,DJ,BX,F4,ED,SV];refine NH BE ks (λj ρ=>∃Ce s8,ρ=Gy ws n Bk d0 a q g (F.take (j+1)) Ce s8 .un) (by simp[Gy,CS,cl,P7]) ⟨.un,.un,rfl⟩ ?_ ?_
 .rintro j k _ Bi ⟨Ce,s8,rfl⟩;obtain⟨x,e,A6,AA,Ao,BG⟩:=AZ.st j k Bi;have t1:F.take (j+1)=F.take j++[x]:=by rw[O2,A6];rfl
  have DI:F.take (j+2)=F.take (j+1)++[e]:=by rw[O2,AA];rfl
  have afg:=K9 x (Hd A6);have L1:BK 7 (BE k) (Gy ws n Bk d0 a q g (F.take (j+1)) Ce s8 .un)=.ok (Gy ws n Bk d0 a q g (F.take j++[x]) (.A2 (BE k)) s8 .un):=by rw[t1];rfl
  have B6:=cR (d0:=d0) (q:=q) (g:=g) (F:=F.take j) ok afg BG (.A2 (BE k)) s8 .un (m:=J 7) rfl;rw[L1,BX,ED,B6,BX,F4,Ao,<-t1,DI];have aX:AM (CI x.1 (.to e)) (.int 0)=.ok (st "at"):=rfl;have Ak:BP false (st "at") (.str (B_ "at"))=.ok (.AR false):=rfl;have C2:=Z9 x.1 e;have lt:(F.take (j+1)).length<=901:=by simp;lia
  generalize F.take (j+1)=J9 at lt;simp![Gy,aX,Ak,C2,intD]
 .rintro _ ⟨Ce,s8,rfl⟩;rw[X2 δ];exact fin Ce s8
end
def TZ(g:D)(xs:μ):Prop:=g=.tup xs\/g=.Do xs
def TZ.DH{g x:D}{xs:μ}(h:TZ g (x::xs)):AM g (.int 0)=.ok x:=by
 rcases h with rfl|rfl
 .exact cB (k:=0) rfl
 .exact cB (k:=0) (xs:=x::xs) rfl
section
variable{cs:ι}{ws:List (AT×AT)}{Bk:Nat->List (List Cz)}{n a:Nat}{d0:AT}
def cQ{q p:ι}{c:Nat}(h:q=p++[c]):AM (CS q) (.int (-1))=.ok (BE c):=by rw[h,CS,Hy];exact Zn _ _
def zg(ok:GQ cs ws Bk n a)(hd:d0∈C6 cs cs.length){l:ι}{s:AX}(w:Jp (B3 ws Bk a) n d0 l s)(AN:l.length<=400){g:D}(A_:TZ g [st "at",.int (s.1.1:Int)]):Kr [.lst (ws.map CO),.lst (Co n Bk),AY d0,.int (a:Int),CS l,g]=.ok (.v (.AR true)):=by
 obtain⟨E7,p,Ky⟩:=w.RR;have F8:=p.in (YC ok) hd;apply Ends.done;refine cT ok rfl p.dN F8 (by simp;lia) λCe s8=>?_;have DH:=A_.DH;have Bd:AM g (.int 1)=.ok (.int (s.1.1:Int)):=by rcases A_ with rfl|rfl<;>rfl
 have q:BP true (st "at") (.str (B_ "at"))=.ok (.AR true):=rfl;have Pa:AM (.lst ((E7++[s.1]).map AY)) (.int (-1))=.ok (AY s.1):=by rw[Hy];exact Zn _ _
 have Uv:AM (AY s.1) (.int 0)=.ok (.int (s.1.1:Int)):=rfl;unfold Gy;generalize(E7++[s.1]).map AY=fd at Pa;simp[DH,q,DG,IB,JX,Pa,Uv,Bd]
def kk(ok:GQ cs ws Bk n a)(hd:d0∈C6 cs cs.length){l:ι}{s:AX}(w:Jp (B3 ws Bk a) n d0 l s)(AN:l.length<=400){g:D}{x:String}{zs:List Int}(AG:x="drop"\/x="out")(Aj:CI s.1.1 (B3 ws Bk a s)=.tup (st x::zs.map .int))(A_:TZ g (st x::zs.map .int)):Kr [.lst (ws.map CO),.lst (Co n Bk),AY d0,.int (a:Int),CS l,g]=.ok (.v (.AR true)):=by
 obtain⟨E7,p,Ky⟩:=w.RR;obtain⟨⟨pr,el⟩,_,_,sn⟩:=w.facts;have F8:=p.in (YC ok) hd;apply Ends.done;refine cT ok rfl p.dN F8 (by simp;lia) λCe s8=>?_;have DH:=A_.DH;have q:BP true (st x) (.str (B_ "at"))=.ok (.AR false):=by rcases AG with rfl|rfl<;>rfl
 have BC:BP false g (.tup [.str (B_ "ring")])=.ok (.AR true):=by
  have o:okN 8 g=true:=by rcases A_ with rfl|rfl<;>simp[okN,st]
  have D3:okN 8 (.tup [.str (B_ "ring")])=true:=rfl;have e:Ci g (.tup [.str (B_ "ring")])=false:=by rcases A_ with rfl|rfl<;>rcases AG with rfl|rfl<;>erw[Ci,Dv,st]<;>rfl
  erw[BP,o,D3,e,and_self,if_true];rfl
 have EB:BP true (.tup (st x::zs.map .int)) g=.ok (.AR true):=by
  have D0:okN 8 (.tup (st x::zs.map .int))=true:=by simp[okN,st]
  have o:okN 8 g=true:=by rcases A_ with rfl|rfl<;>simp[okN,st]
  have A4:Dv (st x::zs.map .int) (st x::zs.map .int)=true:=by
   have:∀zs:List Int,Dv (zs.map .int) (zs.map .int)=true:=λzs=>by
    induction zs with
    |nil=>simp[Dv]
    |cons z zs Bh=>simp[Dv,Ci,Bh]
   simp[Dv,Ci,st,this]
  have e:Ci (.tup (st x::zs.map .int)) g=true:=by rcases A_ with rfl|rfl<;>simpa only[Ci]using A4
  erw[BP,D0,o,e,and_self,if_true]
 have B6:=cR (d0:=d0) (q:=l) (g:=g) (F:=E7) (d:=s.1) (k:=s.2) ok (F8 _ γ) sn Ce s8 .un (m:=A3 AM (J 4) (C4 EW (A5 (.int 1)))) (by have:=cQ el;simp[Gy,DG,this])
 rw[show((s.1,s.2):AX)=s from rfl,Aj]at B6;rw[ED];have BW:C9 (Ax (A3 (BP true) (A3 AM (J 5) (A5 (.int 0))) (A5 (.str (B_ "at"))))) (JR (A3 (BP true) (A3 AM (A3 AM (J 6) (C4 EW (A5 (.int 1)))) (A5 (.int 0))) (A3 AM (J 5) (A5 (.int 1))))) (CU) (Gy ws n Bk d0 a l g (E7++[s.1]) Ce s8 .un)=.ok (.B6 (Gy ws n Bk d0 a l g (E7++[s.1]) Ce s8 .un)):=by simp[Gy,DH,q]
 rw[BW,BX,F4,ED,B6,BX,F4];simp[Gy,BC,EB]
def zh(ok:GQ cs ws Bk n a)(hd:d0∈C6 cs cs.length){l:ι}{s:AX}(w:Jp (B3 ws Bk a) n d0 l s)(AN:l.length<=400){m:Nat}(hm:1<=m)(NP:m<=400)(B5:Cf (B3 ws Bk a) s m=some s){g:D}(A_:TZ g [st "ring"]):Kr [.lst (ws.map CO),.lst (Co n Bk),AY d0,.int (a:Int),CS (l.dropLast++ES m s.2),g]=.ok (.v (.AR true)):=by
 obtain⟨E7,p,Ky⟩:=w.RR;obtain⟨⟨pr,el⟩,_,_,sn⟩:=w.facts;obtain⟨Dg,rfl⟩:∃Dg,m=Dg+1:=⟨m-1,δ⟩;obtain⟨t,NI,hN⟩:=lA B5;obtain⟨Lp,MB,KD,g'⟩:=p.round sn Dg NI;have DI:=c9 Dg NI;have F8:=MB.in (YC ok) hd;have AV:(l.dropLast++ES (Dg+1) s.2).dropLast=l.dropLast++ES Dg s.2:=by rw[fK,<-O1,fJ]
 have eq:l.dropLast++ES (Dg+1) s.2=(l.dropLast++ES Dg s.2)++[s.2]:=by rw[fK,O1]
 apply Ends.done;refine cT ok AV MB.dN F8 (by simp;lia) λCe s8=>?_;have DH:=A_.DH;have q:BP true (st "ring") (.str (B_ "at"))=.ok (.AR false):=rfl;have BC:BP false g (.tup [.str (B_ "ring")])=.ok (.AR false):=by rcases A_ with rfl|rfl<;>rfl
 generalize DU:l.dropLast++ES (Dg+1) s.2=Q at eq;have B6:=cR (d0:=d0) (q:=Q) (g:=g) (F:=Lp) (d:=t.1) (k:=s.2) ok (F8 _ γ) sn Ce s8 .un (m:=A3 AM (J 4) (C4 EW (A5 (.int 1)))) (by have:=cQ eq;simp[Gy,DG,this])
 rw[show((t.1,s.2):AX)=t from N0 rfl DI.symm,hN]at B6;have BW:C9 (Ax (A3 (BP true) (A3 AM (J 5) (A5 (.int 0))) (A5 (.str (B_ "at"))))) (JR (A3 (BP true) (A3 AM (A3 AM (J 6) (C4 EW (A5 (.int 1)))) (A5 (.int 0))) (A3 AM (J 5) (A5 (.int 1))))) (CU) (Gy ws n Bk d0 a Q g (Lp++[t.1]) Ce s8 .un)=.ok (.B6 (Gy ws n Bk d0 a Q g (Lp++[t.1]) Ce s8 .un)):=by simp[Gy,DH,q]
 rw[ED,BW,BX,F4,ED,B6,BX,F4];have t0:AM (CI t.1.1 (.to s.1)) (.int 0)=.ok (st "at"):=rfl;have t1:BP false (st "at") (.str (B_ "at"))=.ok (.AR false):=rfl;have C2:=Z9 t.1.1 s.1;have z_:(Lp++[t.1]).length<=900:=by simp[KD];lia
 have Jy:(Lp++[t.1])[E7.length]?=some s.1:=g';generalize Lp++[t.1]=F at z_ Jy;have ai1:Q.length<=900:=by rw[eq];simp;lia
 have t_:Q.drop E7.length=ES (Dg+1) s.2:=by rw[<-DU,List.drop_append_of_le_length (by simp;lia),qh (by simp;lia),UM]
 have w9:=cQ eq;have FI:∀x:Nat,BP true (BE x) (BE s.2)=.ok (.AR (decide (x=s.2))):=λx=>by
  show R.ok (D.AR ((x:Int)==(s.2:Int)))=_
  congr 2
  rw[JI,beq_iff_eq,decide_eq_true_iff];lia
 simp[Gy,BC,t0,t1];refine Z3 (λk:Nat=>.int (k:Int)) (EN F.length) (λρ=>∃s9,ρ=[.A2 (.lst (ws.map CO)),.A2 (.lst (Co n Bk)),.A2 (AY d0),.A2 (.int (a:Int)),.A2 (CS Q),.A2 g,.Bm (F.map AY),Ce,.A2 (CI t.1.1 (.to s.1)),s9]) (λk=>if(decide (F[k]?=some s.1)&&(Q.drop k).all λx=>decide (x=s.2))=true then some (.AR true)else none) (by simp[DG,IB,JX,Vz,Gh,show F.length<1000000 by lia,Ta]) ⟨.un,rfl⟩ ?_ ?_ ?_
 .rintro k _ AE ⟨s9,rfl⟩;have AE:k<F.length:=by simpa using AE
  have YS:AM (.lst (F.map AY)) (.int (k:Int))=.ok (AY F[k]):=IF (by simp[AE]);have OQ:=bC F[k] s.1;have sA:Ed (Q.map BE) (some (k:Int)) none=(Q.drop k).map BE:=by rw[sT,List.map_drop]
  have BW:∀(fd:μ)(z:Bb),E3 1 [4] (H2 (EV IR (J 4) (Ef (J 9)) (G9))) (BK 0) (FM) (A3 (BP true) (J 0) (A3 AM (J 1) (C4 EW (A5 (.int 1))))) [.A2 (.lst (ws.map CO)),.A2 (.lst (Co n Bk)),.A2 (AY d0),.A2 (.int (a:Int)),.A2 (CS Q),.A2 g,.A2 (.lst fd),z,.A2 (CI t.1.1 (.to s.1)),.A2 (.int (k:Int))]=.ok ((Q.drop k).map λx=>.AR (decide (x=s.2))):=λfd z=>by
   apply Ends.done;rw[<-dz (E3 _ _ _ _ _ _ _)];refine SE BE (Q.drop k) (λx=>.AR (decide (x=s.2))) ?_ (by simp;lia) (λx _=>?_) ⟨_,rfl,rfl⟩
   .simp[CS,sA,intD,P7]
   .simp[w9,FI]
  have al:=Ub (λx=>decide (x=s.2)) (Q.drop k);have v_:F[k]?=some F[k]:=Dt AE;rw[v_];generalize F[k]=x at YS OQ;generalize Q.drop k=rO at BW al;generalize rO.all (λx=>decide (x=s.2))=b at al;have ar:I7 (CI t.1.1 (.to s.1)) (some 1) none=.ok (AY s.1):=C2;generalize F.map AY=fd at YS;by_cases AG:x=s.1
  .subst AG;rw[decide_eq_true rfl]at OQ;cases b<;>simp[DG,IB,JX,YS,OQ,ar,intD,BW,al]
  .simp[DG,IB,JX,YS,OQ,AG,ar,intD]
 .intro d hd;obtain⟨k,_,AE⟩:=qI hd
  split at AE
  .cases AE;simp
  .cases AE
 .rintro _ hd ⟨s9,rfl⟩;have:=List.findSome?_eq_none_iff.mp hd E7.length (by simpa using(List.getElem?_eq_some_iff.mp Jy).1);rw[Jy,t_]at this;simp at this
end
def sz(a b:Key):Ci (Ij a) (Ij b)=decide (a=b):=by
 cases a<;>cases b<;>erw[Ij,Ci]
 .rw[JI];simp
 .simp
 .simp
 .rw[JI];simp
theorem iy:∀a b:List Key,Dv (a.map Ij) (b.map Ij)=decide (a=b)
 |[],[]=>by simp[Dv]
 |[],_::_=>by simp[Dv]
 |_::_,[]=>by simp[Dv]
 |x::a,y::b=>by rw[JI];simp[Dv,sz,iy a b]
structure Go(g:D)(ks:List Key):Prop where
 f:g=.tup (ks.map Ij)\/(g=.Do (ks.map Ij)/\ks=[.inr (B_ "ring")])
 w:∃(x:Str)(zs:List Int),ks=.inr x::zs.map .inl/\zs.length<=2
noncomputable def Ol(k:Cu):List Key:=if k.1=0 then[.inr (En "at"),.inl k.2.1]else if k.1=1 then[.inr (En "drop"),.inl k.2.1]else if k.1=2 then[.inr (En "out"),.inl k.2.1,.inl k.2.2]else[.inr (En "ring")]
def aag{k:Cu}(h:k∈G5):E1 k=(Ol k).map .inl:=by rcases VV h with g|g|g|g<;>rw[g]<;>rfl
def Y_{k:Cu}(h:k∈G5):Go (I6 k) (Ol k):=by
 rcases VV h with g|g|g|g<;>rw[g]
 .exact⟨.inl rfl,_,[k.2.1],rfl,γ⟩
 .exact⟨.inl rfl,_,[k.2.1],rfl,γ⟩
 .exact⟨.inl rfl,_,[k.2.1,k.2.2],rfl,γ⟩
 .exact⟨.inr ⟨rfl,rfl⟩,_,[],rfl,γ⟩
def Go.eq{g g':D}{ks lI:List Key}(h:Go g ks)(h':Go g' lI):Ci g g'=decide (ks=lI):=by rcases h.f with rfl|⟨rfl,_⟩<;>rcases h'.f with rfl|⟨rfl,_⟩<;>erw[Ci,iy]
def Go.ok{g:D}{ks:List Key}(h:Go g ks):okN 7 g=true:=by
 have:∀ks:List Key,(ks.map Ij).all (okN 6)=true:=λks=>by rw[Sl,PJ];intro k _;cases k<;>rfl
 rcases h.f with rfl|⟨rfl,_⟩<;>erw[okN,this]
def Go.JW{g:D}{ks:List Key}(h:Go g ks):FA g=true:=by
 have:∀ks:List Key,Fo (ks.map Ij)=true:=λks=>by
  induction ks with
  |nil=>simp[Fo]
  |cons k ks Bh=>cases k<;>simp[Fo,FA,Ij,Bh]
 rcases h.f with rfl|⟨rfl,_⟩<;>erw[FA,this]
def Go.key{g:D}{ks:List Key}(h:Go g ks):Sx g=some (ks.map .inl):=by
 obtain⟨x,zs,rfl,Aq⟩:=h.w;rcases h.f with rfl|⟨rfl,e⟩
 .match zs,Aq with
  |[],_=>rfl
  |[a],_=>rfl
  |[a,b],_=>rfl
  |a::b::c::r,Aq=>simp at Aq
 .rw[e];rfl
def Go.C2{g:D}{ks:List Key}(h:Go g ks):∃zs:List Int,zs.length<=2/\QM g (some 1) none=.ok (.tup (zs.map .int)):=by
 obtain⟨x,zs,rfl,Aq⟩:=h.w;rcases h.f with rfl|⟨rfl,e⟩
 .refine⟨zs,Aq,?_⟩
  match zs,Aq with
  |[],_=>rfl
  |[a],_=>rfl
  |[a,b],_=>rfl
  |a::b::c::r,Aq=>simp at Aq
 .rw[e];exact⟨[],γ,rfl⟩
def y5{a b:List Key}(h:(a.map (N1:Key->JB))=b.map .inl):a=b:=by
 induction a generalizing b with
 |nil=>cases b with
  |nil=>rfl
  |cons y b=>simp at h
 |cons x a Bh=>cases b with
  |nil=>simp at h
  |cons y b=>erw[Du,PK,fm]at h;rw[h.1,Bh h.2]
def xt{g:D}{ks:List Key}(h:Go g ks){T:List Cu}(CM:∀k∈T,k∈G5):∃b,inD false g (.lst (T.map I6))=.ok (.AR (!b))/\(b=true↔ks∈T.map Ol):=by
 have o:(T.map I6).all (okN 7)=true:=by rw[Sl,PJ];exact λk AE=>(Y_ (CM k AE)).ok
 have a:((T.map I6).any λy=>Ci y g)=true↔ks∈T.map Ol:=by
  rw[PQ,UL,UZ];constructor
  .rintro⟨k,AE,e⟩;have:=((Y_ (CM k AE)).eq h).symm.trans e;exact⟨k,AE,(this:)⟩
  .rintro⟨k,AE,e⟩;exact⟨k,AE,((Y_ (CM k AE)).eq h).trans (e:)⟩
 exact⟨_,by erw[inD,QK,h.ok,o,and_self,if_true];rfl,a⟩
def u2{P:Gm}(DF:∀p∈P,p.1∈G5){ks:List Key}:(ks∉(P.map (·.1)).map Ol/\findD ((P.map (·.1)).map E1) (P.map λp=>D.lst p.2) (ks.map .inl)=none)\/∃p∈P,Ol p.1=ks/\findD ((P.map (·.1)).map E1) (P.map λp=>D.lst p.2) (ks.map .inl)=some (.lst p.2):=by
 unfold findD;induction P with
 |nil=>exact .inl ⟨γ,rfl⟩
 |cons p P Bh=>
  have AZ:=aag (DF p γ);erw[Du,K5,IV];by_cases h:Ol p.1=ks
  .have:E1 p.1=ks.map .inl:=by rw[AZ,h]
   exact .inr ⟨p,γ,h,by simp[this]⟩
  .have:¬E1 p.1=ks.map .inl:=λz=>h (y5 (AZ.symm.trans z));erw[this,decide_false];rcases Bh λq AV=>DF q (by simp[AV])with⟨A6,AA⟩|⟨q,AV,A6,AA⟩
   .exact .inl ⟨by erw[LX,not_or];exact⟨Hi h,A6⟩,AA⟩
   .exact .inr ⟨q,by simp[AV],A6,AA⟩
def afX(i:Int):Ro [.int i]=.ok (.v (.AR true)):=rfl
def zf{P:Gm}{x0 FX FD GZ Ip Nv gl:D}{BY:Bf}(e:OL [x0,FX,FD,GZ,Ip,Nv]=.ok (.v (Q1 P))){zs:List Int}(Aq:zs.length<=2)(AJ:QM gl (some 1) none=.ok (.tup (zs.map .int)))(AE:Sx gl=some BY) :
  Qi [x0,FX,FD,GZ,Ip,Nv,gl]=.ok (.v ((findD ((P.map (·.1)).map E1) (P.map λp=>.lst p.2) BY).getD .non)):=by
 have c:E3 1 [] (Qc (EV QM (J 6) (Ef (A5 (.int 1))) (G9))) (BK 0) (FM) (Br 1 Ro (A1 (J 0) (AF))) [.A2 x0,.A2 FX,.A2 FD,.A2 GZ,.A2 Ip,.A2 Nv,.A2 gl]=.ok (zs.map λ_=>.AR true):=by
  apply Ends.done;have afM:∀r:R μ,r=r.bind .ok:=λr=>by cases r<;>rfl
  rw[afM (E3 _ _ _ _ _ _ _)];refine SE D.int zs (λ_=>.AR true) ?_ δ (λi _=>?_) ⟨_,rfl,rfl⟩
  .simp[AJ,f5,intD]
  .simp[afX]
 have al:=Ub (λ_:Int=>true) zs;have Xh:zs.all (λ_=>true)=true:=γ
 rw[Xh]at al;have Ea:Ec (Ax (Bz CP.C6 (A1 (Bo (E3 1 [] (Qc (EV QM (J 6) (Ef (A5 (.int 1))) (G9))) (BK 0) (FM) (Br 1 Ro (A1 (J 0) (AF))))) (AF)))) [.A2 x0,.A2 FX,.A2 FD,.A2 GZ,.A2 Ip,.A2 Nv,.A2 gl]=.ok false:=by refine l0 (c:=true) (Kn ?_);rw[eJ,Gi,Wf,c,BX,BX,Ka,BX,BX];exact al
 have tm:WO (Br 6 OL (A1 (J 0) (A1 (J 1) (A1 (J 2) (A1 (J 3) (A1 (J 4) (A1 (J 5) (AF)))))))) (J 6) [.A2 x0,.A2 FX,.A2 FD,.A2 GZ,.A2 Ip,.A2 Nv,.A2 gl]=.ok ((findD ((P.map (·.1)).map E1) (P.map λp=>.lst p.2) BY).getD .non):=by
  unfold WO;have:Br 6 OL (A1 (J 0) (A1 (J 1) (A1 (J 2) (A1 (J 3) (A1 (J 4) (A1 (J 5) (AF))))))) [.A2 x0,.A2 FX,.A2 FD,.A2 GZ,.A2 Ip,.A2 Nv,.A2 gl]=.ok (Q1 P):=by simp[e]
  rw[this,BX];erw[Q1,v_var,LR,MD,Kx,BX,AE]
 show(Xx [.A2 x0,.A2 FX,.A2 FD,.A2 GZ,.A2 Ip,.A2 Nv,.A2 gl]).bind _=_;rw[Xx,ak Ea,q1,tm];rfl
def sl{ws:List (AT×AT)}{d:AT}(h:d∉ends ws):Ic ws d=none:=by
 unfold Ic;rw[Option.map_eq_none_iff,List.find?_eq_none];intro p AZ hd;have hd:p.1=d:=(hd:)
 unfold pairsOf at AZ;obtain⟨w,hw,Aq⟩:=List.mem_flatMap.mp AZ;have VB:∀x,x=w.1\/x=w.2->x∈ends ws:=λx AG=>List.mem_flatten.mpr ⟨[w.1,w.2],List.mem_map.mpr ⟨w,hw,rfl⟩,(AG:)⟩;erw[LX,LN,or_false]at Aq;rcases Aq with rfl|rfl
 .exact h (hd▸VB _ (.inl rfl))
 .exact h (hd▸VB _ (.inr rfl))
def Pi(g:D):Prop:=∃ks,Go g ks
def Of(w:String)(zs:List Int)(h:zs.length<=2):Pi (.tup (st w::zs.map .int)):=⟨.inr (B_ w)::zs.map .inl,.inl (by simp[Ij,st,Qq]),_,zs,rfl,h⟩
def vr{cs:ι}(DE:cs.length<=6)(HB:∀c∈cs,1<=c/\c<=4):∃ET:μ,0<ET.length/\ET.length<=900/\(∀g∈ET,Pi g)/\Tw [.lst (CN cs)]=.ok (.o ET):=by
 suffices v:Ends (Tw [.lst (CN cs)]) λr=>∃ET:μ,0<ET.length/\ET.length<=900/\(∀g∈ET,Pi g)/\r=.o ET by
  obtain⟨_,e,ET,a,b,c,rfl⟩:=v;exact⟨ET,a,b,c,e⟩
 have jN:=bk DE HB;have NV:=Nn HB cs.length;have li:(CN cs).length=cs.length:=by simp[CN]
 simp[Tw,gv,HX,jN,li];refine NH AY (C6 cs cs.length) (λj ρ=>∃(ET:μ)(s2 s3:Bb),ET.length=6+j/\(∀g∈ET,Pi g)/\ρ=[.A2 (.lst (CN cs)),.Bm ET,s2,s3]) (by simp[jN,P7]) ⟨_,.un,.un,rfl,?_,rfl⟩ ?_ ?_
 .intro g A_;erw[LX,LN,or_false]at A_;rcases A_ with rfl|rfl|rfl|rfl|rfl|rfl
  .exact Of "ring" [] γ
  .exact Of "lost" [0] γ
  .exact Of "at" [] γ
  .exact Of "out" [9,9] γ
  .exact Of "at" [(cs.length:Int)] γ
  .exact Of "drop" [-1] γ
 .rintro j d _ Bi ⟨ET,s2,s3,AN,NL,rfl⟩;have ahy:=(List.getElem?_eq_some_iff.mp Bi).1;have L1:FO [BK 2,BK 3] (AY d) [.A2 (.lst (CN cs)),.Bm ET,s2,s3]=.ok [.A2 (.lst (CN cs)),.Bm ET,.A2 (.int (d.1:Int)),.A2 (.int (d.2:Int))]:=rfl;rw[L1,BX];simp![];refine⟨δ,λg A_=>?_⟩;rcases A_ with z|z
  .exact NL g z
  .rw[z];exact Of "out" [(d.1:Int),(d.2:Int)] γ
 .rintro _ ⟨ET,s2,s3,AN,NL,rfl⟩;simp;refine OS cs.length (λj ρ=>∃(ET:μ)(s2:Bb),0<ET.length/\ET.length<=100+2*j/\(∀g∈ET,Pi g)/\ρ=[.A2 (.lst (CN cs)),.Bm ET,s2,s3]) (by simp[li,show cs.length<1000000 by lia]) ⟨ET,s2,δ,δ,NL,rfl⟩ ?_ ?_
  .rintro j _ Bi ⟨ET,s2,h0,AN,NL,rfl⟩;have ca:∀xs:μ,xs.length<=2->bZ ET (.lst xs)=.ok (ET++xs):=λxs AG=>if_pos δ;simp[ca];refine⟨_,?_,?_,λg A_=>?_,rfl⟩
   .simp
   .simp;lia
   rcases List.mem_append.mp A_ with z|z
   .exact NL g z
   .erw[LX,LN,or_false]at z;rcases z with rfl|rfl
    .exact Of "at" [(j:Int)] γ
    .exact Of "drop" [(j:Int)] γ
  .rintro _ ⟨ET,s2,h0,AN,NL,rfl⟩;simp;exact⟨ET,h0,δ,NL,rfl⟩
def pick(ds:μ)(v:Int):D:=match AM (.lst ds) (.int (v%(ds.length:Int)))with
 |.ok d=>d
 |_=>.non
def ZG{ds:μ}(h:0<ds.length)(v:Int):AM (.lst ds) (.int (v%(ds.length:Int)))=.ok (pick ds v)/\pick ds v∈ds:=by
 obtain⟨k,AE,e⟩:=JV v h;have i:AM (.lst ds) (.int (v%(ds.length:Int)))=.ok ds[k]:=by rw[e];exact IF (Dt AE)
 have:pick ds v=ds[k]:=by erw[pick,i]
 rw[this];exact⟨i,MC AE⟩
theorem U0{α:Type}(f:α->D)(h:∀x,FA (f x)=true):∀l:List α,Fo (l.map f)=true
 |[]=>by simp[Fo]
 |x::l=>by simp[Fo,h x,U0 f h l]
def ZX(d:AT):FA (AY d)=true:=by simp[AY,FA,Fo]
def aaa(cs:ι)(ws:List (AT×AT)):FA (D_ cs ws)=true:=by
 have a:Fo (CN cs)=true:=U0 _ (λ_=>by simp[FA]) cs;have b:Fo (ws.map CO)=true:=U0 _ (λw=>by simp[CO,FA,Fo,ZX]) ws;have c:Fo (FB ws)=true:=by
  unfold FB;induction ws with
  |nil=>simp[Fo]
  |cons w ws Bh=>simp[Fo,ZX];exact Bh (U0 _ (λw=>by simp[CO,FA,Fo,ZX]) ws)
 simp[D_,FA,Fo,a,b,c]
def aaZ(bs:List (List Cz)):FA (DC bs)=true:=by
 have o:∀x:Option Nat,FA (GA x)=true:=λx=>by cases x<;>simp[GA,FA]
 have r:∀b:List Cz,Fo (b.map E2)=true:=U0 _ λr=>by simp[E2,FA,Fo,o]
 have Cv:∀b:List Cz,J6 (b.map E2)=false:=λb=>by cases b<;>simp[J6,E2,Lf]
 have FU:∀b:List Cz,FA (DB b)=true:=λb=>by simp[DB,FA,r,Cv]
 have D8:J6 (bs.map DB)=false:=by cases bs<;>simp[J6,DB,Lf]
 simp[DC,FA,D8,U0 DB FU bs]
section
variable{cs:ι}{ws:List (AT×AT)}{Bk:Nat->List (List Cz)}{n a:Nat}{d0:AT}{W:F0}{U:To}{P:Gm}
def Go.Jy{g:D}{ks:List Key}(h:Go g ks):TZ g (ks.map Ij):=h.f.imp id λz=>z.1
def vt(ok:GQ cs ws Bk n a)(hd:d0∈C6 cs cs.length)(RW:Good (C6 cs cs.length) (B3 ws Bk a) n d0 W U [])(G7:W.length<=168)(mo:RF (B3 ws Bk a) W P){p:Cu×μ}(AZ:p∈P){g:D}(A_:Go g (Ol p.1)) :
  ∃q:ι,p.2=q.map BE/\q≠[]/\q.Pairwise (· <=·)/\(∀x∈q,x<n)/\q.length<=900/\Kr [.lst (ws.map CO),.lst (Co n Bk),AY d0,.int (a:Int),CS q,g]=.ok (.v (.AR true)):=by
 obtain⟨⟨s,l⟩,hw,afO⟩:=mo.q2 p AZ;have Lx:=RW.Lx _ hw;have J4:l.length<=400:=by have:=(RW.lst _ hw).2;simp at this;lia
 obtain⟨⟨pr,el⟩,KX,le,sn⟩:=Lx.facts;have el:l=pr++[s.2]:=el;have Jy:=A_.Jy;rcases afO with⟨ev,AE⟩|⟨AE,m,A6,AA,B5,ev⟩
 .refine⟨l,ev,by rw[el];simp,KX,λx AG=>Nat.lt_of_le_of_lt (le x AG) sn,δ,?_⟩;rcases AE with AE|⟨Aj,AE⟩
  .rw[AE]at Jy;exact zg ok hd Lx J4 Jy
  .rw[AE]at Jy;cases e:B3 ws Bk a s with
   |drop=>rw[e]at Jy;exact kk ok hd Lx J4 (x:="drop") (zs:=[(s.1.1:Int)]) (.inl rfl) (by rw[e];rfl) Jy
   |out o=>rw[e]at Jy;exact kk ok hd Lx J4 (x:="out") (zs:=[(s.1.1:Int),(o:Int)]) (.inr rfl) (by rw[e];rfl) Jy
   |to x=>have Aj:Gx (B3 ws Bk a s)=false:=Aj;rw[e]at Aj;cases Aj
 .have CR:(ES m s.2).Pairwise (· <=·):=List.pairwise_replicate.mpr (.inr (CY _));have dl:∀x∈l.dropLast,x<=s.2:=λx AG=>le x (List.dropLast_subset _ AG);refine⟨l.dropLast++ES m s.2,ev,λz=>?_,List.pairwise_append.mpr ⟨KX.sublist (List.dropLast_sublist _),CR,λx AG y Ba=>by rw[(List.mem_replicate.mp Ba).2];exact dl x AG⟩,λx AG=>?_,by simp;lia,?_⟩
  .have:=congrArg R4 z;simp at this;lia
  .rcases List.mem_append.mp AG with z|z
   .exact Nat.lt_of_le_of_lt (dl x z) sn
   .rw[(List.mem_replicate.mp z).2];exact sn
  .rw[AE]at Jy;exact zh ok hd Lx J4 A6 δ B5 Jy
end
noncomputable def TO:B1:=A1 (J 8) (A1 (J 3) (A1 (J 4) (A1 (J 6) (A1 (J 11) (A1 (J 12) (A1 (J 16) (AF)))))))
noncomputable def FK(ns:List Int)(cs:ι)(ws:List (AT×AT))(os nw:List (List Cz))(row:ι)(O:List AT)(d0:AT)(a:Nat)(T:List Cu)(gs:μ)(s9 Bp EQ HN Dl Dd:Bb):AI:=[.A2 (.D1 (ns.map D.int)),.A2 (.lst (CN cs)),.A2 (.lst (ws.map CO)),.A2 (DC os),.A2 (DC nw),.A2 (.lst (O.map AY)),.A2 (.lst (row.map BE)),.A2 (.lst (Co (row.length+1) (F3 os nw row))),.A2 (D_ cs ws),s9,Bp,.A2 (AY d0),.A2 (.int (a:Int)),.A2 (.lst (T.map I6)),.A2 (.lst gs),EQ,HN,Dl,Dd]
section
variable{ns:List Int}{cs:ι}{ws:List (AT×AT)}{os nw:List (List Cz)}{row:ι}{O:List AT}{d0:AT}{a:Nat}{T:List Cu}{gs:μ}{P:Gm}
def k3{x:Nat}{g:D}{ks:List Key}(A_:Go g ks)(em:OL (ZT cs ws os nw row d0 a)=.ok (.v (Q1 P)))(s9 Bp EQ Dl Dd:Bb) :
  Qf x 6 7 Qi TO (FK ns cs ws os nw row O d0 a T gs s9 Bp EQ (.A2 g) Dl Dd)=LJ x (FK ns cs ws os nw row O d0 a T gs s9 Bp EQ (.A2 g) Dl Dd) (.v ((findD ((P.map (·.1)).map E1) (P.map λp=>.lst p.2) (ks.map .inl)).getD .non)):=by
 obtain⟨zs,Aq,A4⟩:=A_.C2;have ld:=zf (gl:=g) em Aq A4 A_.key;have al:(row.map BE).all Lf=true:=by rw[Sl,PJ];intro _ _;rfl
 have As:TO (Mk (FK ns cs ws os nw row O d0 a T gs s9 Bp EQ (.A2 g) Dl Dd) 6 (row.map BE))=.ok [D_ cs ws,DC os,DC nw,CP.E2 (row.map BE),AY d0,.int (a:Int),g]:=by simp[TO,Mk,FK,ZW,aaa,aaZ,ZX,FA,A_.JW]
 show YV x 6 7 Qi TO _ (some (.A2 (.lst (row.map BE))))=_;erw[YV,if_pos al,As,U1,BX,H4,LP,if_true,ld]
noncomputable def aw:B0:=AS (Qf 17 6 7 Qi TO)
    (C9 (Ax (A3 (inD false) (J 16) (J 13))) (C9 (EH (Ax (A3 (GW false) (J 17) (A5 .non)))) (CV (A5 (.AR false))) (CU)) (AS (C9 (EH (Ec (Ax (Br 2 OJ (A1 (J 17) (A1 (Bz CE (A1 (J 6) (AF))) (AF))))))) (CV (A5 (.AR false))) (CU))
    (AS (C9 (EH (Ec (Ax (Br 6 Kr (A1 (J 2) (A1 (J 7) (A1 (J 11) (A1 (J 12) (A1 (J 17) (A1 (J 16) (AF))))))))))) (CV (A5 (.AR false))) (CU))
    (AS (Gz 17 (A5 (.int 0)))
    (AS (Qf 18 6 7 Qi TO)
    (AS (C9 (EH (Ec (Ax (Br 2 OJ (A1 (J 18) (A1 (Bz CE (A1 (J 6) (AF))) (AF))))))) (CV (A5 (.AR false))) (CU))
    (C9 (EH (Ec (Ax (Br 6 Kr (A1 (J 2) (A1 (J 7) (A1 (J 11) (A1 (J 12) (A1 (J 18) (A1 (J 16) (AF))))))))))) (CV (A5 (.AR false))) (CU))))))))
def vo{W:F0}{U:To}(ok:GQ cs ws (F3 os nw row) (row.length+1) a)(hd:d0∈C6 cs cs.length)(RW:Good (C6 cs cs.length) (B3 ws (F3 os nw row) a) (row.length+1) d0 W U [])(G7:W.length<=168)(mo:RF (B3 ws (F3 os nw row) a) W P)(em:OL (ZT cs ws os nw row d0 a)=.ok (.v (Q1 P)))(CM:∀k,k∈T↔k∈P.map (·.1)){g:D}(A_:Pi g)(s9 Bp EQ Dl Dd:Bb) :
  Ends (aw (FK ns cs ws os nw row O d0 a T gs s9 Bp EQ (.A2 g) Dl Dd)) (IZ λρ=>∃HN Dl Dd,ρ=FK ns cs ws os nw row O d0 a T gs s9 Bp EQ HN Dl Dd):=by
 obtain⟨ks,A_⟩:=A_;have pc:∀p∈P,p.1∈G5:=λp AZ=>mo.P1.cd p.1 (List.mem_map.mpr ⟨p,AZ,rfl⟩);obtain⟨b,BS,A0⟩:=xt A_ (T:=T) λk AE=>mo.P1.cd k ((CM k).mp AE);have A0:b=true↔ks∈(P.map (·.1)).map Ol:=by rw[A0,UZ,UZ];exact⟨λ⟨k,h,e⟩=>⟨k,(CM k).mp h,e⟩,λ⟨k,h,e⟩=>⟨k,(CM k).mpr h,e⟩⟩
 have f1:=λDl Dd=>k3 (ns:=ns) (O:=O) (T:=T) (gs:=gs) (x:=17) A_ em s9 Bp EQ Dl Dd;have f2:=λDl Dd=>k3 (ns:=ns) (O:=O) (T:=T) (gs:=gs) (x:=18) A_ em s9 Bp EQ Dl Dd;unfold aw;rw[ED,f1];rcases u2 (ks:=ks) pc with⟨AQ,Cr⟩|⟨p,AZ,AE,Cr⟩
 .have sb:b=false:=by
    cases b with
    |false=>rfl
    |true=>exact absurd (A0.mp rfl) AQ
  subst sb;rw[Cr];have A9:LJ 17 (FK ns cs ws os nw row O d0 a T gs s9 Bp EQ (.A2 g) Dl Dd) (.v ((none:Option D).getD .non))=.ok (.B6 (FK ns cs ws os nw row O d0 a T gs s9 Bp EQ (.A2 g) (.A2 .non) Dd)):=by simp[LJ,FK]
  rw[A9,BX,F4];have w8:GW false .non .non=.ok (.AR false):=rfl;simp[FK,BS,DG,w8]
 .have FU:b=true:=A0.mpr (by rw[<-AE];exact List.mem_map.mpr ⟨_,List.mem_map.mpr ⟨p,AZ,rfl⟩,rfl⟩);subst FU;obtain⟨q,eq,aX,acf,qn,ahm,dU⟩:=vt ok hd RW G7 mo AZ (g:=g) (by rw[AE];exact A_);have rs:=ac9 aX acf row.length λx AG=>by have:=qn x AG;lia
  have mM:J6 (q.map BE)=true:=by
   cases q with
   |nil=>exact absurd rfl aX
   |cons y q=>simp[J6,BE,Lf]
  rw[Cr];rw[Cr]at f2;have A9:LJ 17 (FK ns cs ws os nw row O d0 a T gs s9 Bp EQ (.A2 g) Dl Dd) (.v ((some (D.lst p.2)).getD .non))=.ok (.B6 (FK ns cs ws os nw row O d0 a T gs s9 Bp EQ (.A2 g) (.Bm (q.map BE)) Dd)):=by simp[LJ,FK,eq,mM]
  have AH:∀Dl,LJ 18 (FK ns cs ws os nw row O d0 a T gs s9 Bp EQ (.A2 g) Dl Dd) (.v ((some (D.lst p.2)).getD .non))=.ok (.B6 (FK ns cs ws os nw row O d0 a T gs s9 Bp EQ (.A2 g) Dl (.Bm (q.map BE)))):=λDl=>by simp[LJ,FK,eq,mM]
  rw[A9,BX,F4];have rs:OJ [.lst (q.map BE),.int (row.length:Int)]=.ok (.v (.AR true)):=rs;have dU:Kr [.lst (ws.map CO),.lst (Co (row.length+1) (F3 os nw row)),AY d0,.int (a:Int),.lst (q.map BE),g]=.ok (.v (.AR true)):=dU;have s7:Ax (A3 (inD false) (J 16) (J 13)) (FK ns cs ws os nw row O d0 a T gs s9 Bp EQ (.A2 g) (.Bm (q.map BE)) Dd)=.ok false:=Kn (H9 rfl rfl BS);have h_:∀Dl Dd i,(DG (FK ns cs ws os nw row O d0 a T gs s9 Bp EQ (.A2 g) Dl Dd))[i]?=some (.A2 (.lst (q.map BE)))->EH (Ec (Ax (Br 2 OJ (A1 (J i) (A1 (Bz CE (A1 (J 6) (AF))) (AF)))))) (FK ns cs ws os nw row O d0 a T gs s9 Bp EQ (.A2 g) Dl Dd)=.ok false:=λDl Dd i AC=>by
   have zZ:Bz CE (A1 (J 6) (AF)) (DG (FK ns cs ws os nw row O d0 a T gs s9 Bp EQ (.A2 g) Dl Dd))=.ok (.int (row.length:Int)):=by simp[FK,DG,IB]
   rw[pN,v_not,eI,aM,Gi,v_var,AC,Kx,BX,Gi,zZ];simp[rs]
  have hZ:∀Dl Dd i,(DG (FK ns cs ws os nw row O d0 a T gs s9 Bp EQ (.A2 g) Dl Dd))[i]?=some (.A2 (.lst (q.map BE)))->EH (Ec (Ax (Br 6 Kr (A1 (J 2) (A1 (J 7) (A1 (J 11) (A1 (J 12) (A1 (J i) (A1 (J 16) (AF))))))))) ) (FK ns cs ws os nw row O d0 a T gs s9 Bp EQ (.A2 g) Dl Dd)=.ok false:=λDl Dd i AC=>by rw[pN,v_not,eI,aM,Gi,Gi,Gi,Gi,Gi,v_var i,AC];simp[FK,DG,IB,dU]
  rw[NR s7];erw[Hg,if_false];rw[ak (h_ _ _ 17 rfl),ak (hZ _ _ 17 rfl)];have ap:∃z,Gz 17 (A5 (.int 0)) (FK ns cs ws os nw row O d0 a T gs s9 Bp EQ (.A2 g) (.Bm (q.map BE)) Dd)=.ok (.B6 (FK ns cs ws os nw row O d0 a T gs s9 Bp EQ (.A2 g) z Dd)):=by refine⟨.Bm (q.map BE++[.int 0]),?_⟩;simp![FK]
  obtain⟨z,ap⟩:=ap;rw[ED,ap,BX,F4,ED,f2,AH,BX,F4,ak (h_ _ _ 18 rfl),NR (hZ _ _ 18 rfl)];exact⟨_,rfl,_,rfl,_,_,_,rfl⟩
end
section
variable{ns:List Int}{cs:ι}{ws:List (AT×AT)}{os nw:List (List Cz)}{row:ι}{O:List AT}
noncomputable def T0(ns:List Int)(cs:ι)(ws:List (AT×AT))(os nw:List (List Cz))(row:ι)(O:List AT)(s9 Bp Dc CW Lr Ls EQ HN Dl Dd:Bb):AI:=[.A2 (.D1 (ns.map D.int)),.A2 (.lst (CN cs)),.A2 (.lst (ws.map CO)),.A2 (DC os),.A2 (DC nw),.A2 (.lst (O.map AY)),.A2 (.lst (row.map BE)),.A2 (.lst (Co (row.length+1) (F3 os nw row))),.A2 (D_ cs ws),s9,Bp,Dc,CW,Lr,Ls,EQ,HN,Dl,Dd]
noncomputable def bz:B0:=(AS (BU 10 (Br 2 FV (A1 (J 9) (A1 (A5 (.int 2)) (AF)))))
    (AS (BU 11 (A3 AM (J 5) (A3 D5 (J 10) (Bz CE (A1 (J 5) (AF))))))
    (AS (BU 12 (A3 D5 (A3 Eb (J 10) (A5 (.int 50))) (A5 (.int 16))))
    (AS (BU 13 (Bo (Fg 4 Rs (A1 (J 2) (A1 (J 7) (A1 (J 11) (A1 (J 12) (AF))))))))
    (AS (BU 14 (Bo (Fg 1 Tw (A1 (J 1) (AF)))))
    (AS (BU 15 (A3 Eb (J 10) (A5 (.int 800))))
    (AS (Qe 14 (E3 1 [14,15] (FL (A1 (A5 (.int 2)) (AF))) (BK 0) (FM) (A3 AM (J 1) (A3 D5 (A3 DP (J 2) (A3 Ks (A5 (.int 7)) (J 0))) (Bz CE (A1 (J 1) (AF)))))))
    (AS (BU 14 (Bo (KG (J 14) (Bo (E3 1 [13,15] (FL (A1 (A5 (.int 4)) (AF))) (BK 0) (FM) (A3 AM (J 1) (A3 D5 (A3 DP (J 2) (J 0)) (Bz CE (A1 (J 1) (AF))))))))))
    (Dq (H2 (J 14)) (BK 16) aw)))))))))
def z3(EO:Lb cs ws)(G4:Gk cs os)(bn:Gk cs nw)(B5:row.length<=6)(Hp:∀d∈O,d∈C6 cs cs.length)(Ye:0<O.length)(x:Int)(Bp Dc CW Lr Ls EQ HN Dl Dd:Bb) :
  Ends (bz (T0 ns cs ws os nw row O (.A2 (.int x)) Bp Dc CW Lr Ls EQ HN Dl Dd)) (IZ λρ=>∃s9 Bp Dc CW Lr Ls EQ HN Dl Dd,ρ=T0 ns cs ws os nw row O s9 Bp Dc CW Lr Ls EQ HN Dl Dd):=by
 have DE:=EO.DE;obtain⟨y,DK⟩:=MP x 2 ε;have DK:FV [.int x,.int 2]=.ok (.v (.int y)):=DK;obtain⟨i,AC,Fv⟩:=JV y Ye;have M5:AM (.lst (O.map AY)) (.int (i:Int))=.ok (AY O[i]):=IF (by simp[AC]);obtain⟨a,AD,As⟩:=JV (y/50) (n:=16) ε;have As:y/50%16=(a:Int):=As;have Yr:=Hp O[i] (MC _);generalize O[i]=d0 at M5 Yr;obtain⟨W,U,P,g,h0,mo,em⟩:=yv (row:=row) EO G4 bn B5 AD Yr;have ok:=SP (row:=row) EO G4 bn B5 AD;have NV:=Nn EO.c cs.length;have G7:=g.few δ ok.IJ;obtain⟨B9,S,R,EZ,KC,Ai,el⟩:=adi ok g G7 h0 λs AJ o h=>ll EO G4 bn s AJ o h;have WD:=abq g h0 mo EZ KC Ai;have tJ:=aci mo.P1.Cs EZ.fn WD;rw[<-tJ]at el;have CM:∀k,k∈LT.Io (P.map (·.1))↔k∈P.map (·.1):=λk=>(LT.Tc _).mem_iff;have iR:0<(LT.Io (P.map (·.1))).length:=by obtain⟨p,AZ,_⟩:=List.mem_map.mp h0;exact UB ((CM _).mpr (mo.at_ p AZ))
 generalize LT.Io (P.map (·.1))=T at el CM iR;obtain⟨ET,g1,g2,g3,eg⟩:=vr DE EO.c;have el:Rs [.lst (ws.map CO),.lst (Co (row.length+1) (F3 os nw row)),AY d0,.int (a:Int)]=.ok (.o (T.map I6)):=el;have hG:0<(T.map I6).length:=(iR:)
 have k7:∀g∈T.map I6,Pi g:=λg A_=>by obtain⟨k,AE,rfl⟩:=List.mem_map.mp A_;exact⟨_,Y_ (mo.P1.cd k ((CM k).mp AE))⟩
 have EA:=λv=>(ZG g1 v).1;have Cw:=λv=>(ZG hG v).1;have Ak:=λv=>(ZG g1 v).2;have BC:=λv=>(ZG hG v).2;generalize tK:T.map I6=TD at el Cw BC k7 hG;simp![bz,T0,DK,Fv,M5,As,el,eg];refine SE (λk:Nat=>D.int (k:Int)) [0,1] (λk=>pick ET (y/800+7*(k:Int))) (by simp[show SL [.int 2]=.ok (Fh 0 2)from rfl,Ta];rfl) γ (λk AE=>?_) ?_
 .simp![EA]
 simp;refine SE (λk:Nat=>D.int (k:Int)) [0,1,2,3] (λk=>pick TD (y/800+(k:Int))) (by simp[show SL [.int 4]=.ok (Fh 0 4)from rfl,Ta];rfl) γ (λk AE=>?_) ?_
 .simp![Cw]
 have NL:∀z∈[pick ET (y/800),pick ET (y/800+7)]++([0,1,2,3]:ι).map (λk:Nat=>pick TD (y/800+(k:Int))),Pi z:=λz Aq=>by
  rcases List.mem_append.mp Aq with h|h
  .erw[LX,LN,or_false]at h;rcases h with rfl|rfl<;>exact g3 _ (Ak _)
  .obtain⟨k,_,rfl⟩:=List.mem_map.mp h;exact k7 _ (BC _)
 rw[bY γ,BX];generalize[pick ET (y/800),pick ET (y/800+7)]++([0,1,2,3]:ι).map (λk:Nat=>pick TD (y/800+(k:Int)))=gs at NL;rw[<-dz (Dq _ _ _ _)];refine NH (λd:D=>d) gs (λ_ ρ=>∃HN Dl Dd,ρ=FK ns cs ws os nw row O d0 a T gs (.A2 (.int x)) (.A2 (.int y)) (.A2 (.int (y/800))) HN Dl Dd) (by simp[P7]) ⟨HN,Dl,Dd,by rw[FK,tK]⟩ ?_ ?_
 .rintro j z _ Bi ⟨HN,Dl,Dd,rfl⟩;exact vo ok Yr g G7 mo em CM (NL z (Hd Bi)) _ _ _ Dl Dd
 .rintro _ ⟨HN,Dl,Dd,rfl⟩;exact⟨_,rfl,_,rfl,_,_,_,_,_,_,_,_,_,_,rfl⟩
def ze(ns:List Int)(AN:ns.length<=63):W_ [.D1 (ns.map D.int)]=.ok (.v (.AR true)):=by
 obtain⟨cs,ws,os,nw,EO,⟨d,hd,AQ⟩,G4,bn,As⟩:=r9 ns;have DE:=EO.DE;obtain⟨x,ex⟩:=Xa ns 1;have ex:M8 [.D1 (ns.map D.int),.int 1]=.ok (.v (.int x)):=ex;obtain⟨row,B5,CR⟩:=adC x cs.length DE;have Mc:=z2 EO;have t2:=ad1 (os:=os) (nw:=nw) (row:=row) (by rw[G4.l];lia) (by rw[bn.l,G4.l]) B5;have Fv:=xB cs ws EO;have Hp:∀d∈outs cs ws,d∈C6 cs cs.length:=λd hd=>(List.mem_filter.mp hd).1;have Ye:0<(outs cs ws).length:=UB (List.mem_filter.mpr ⟨hd,by rw[sl AQ];rfl⟩);generalize outs cs ws=O at Mc Hp Ye;have li:(CN cs).length=cs.length:=by simp[CN]
 have cl:=jH (ns.map D.int) (some 16) (some 17);rw[GN]at cl;have As:Tt [.D1 (ns.map D.int)]=.ok (.v (.tup [.lst (CN cs),.lst (ws.map CO),DC os,DC nw])):=As
 have BS:gk=AS (M7 (FO [BK 1,BK 2,BK 3,BK 4]) (Br 1 Tt (A1 (J 0) (AF))))
  (AS (BU 5 (Bo (Fg 2 Wc (A1 (J 1) (A1 (J 2) (AF))))))
  (AS (BU 6 (Bo (Fg 2 Tx (A1 (Br 2 M8 (A1 (J 0) (A1 (A5 (.int 1)) (AF)))) (A1 (Bz CE (A1 (J 1) (AF))) (AF))))))
  (AS (BU 7 (Bo (Fg 3 Vt (A1 (J 3) (A1 (J 4) (A1 (J 6) (AF)))))))
  (AS (BU 8 (Tl "Net" 2 a5 (A1 (J 1) (A1 (J 2) (AF)))))
  (AS (Dq (H2 (Bo (KG (Bo (CZ (A1 (A5 (.int 4)) (AF)))) (EV IR (J 0) (Ef (A5 (.int 16))) (Ef (A5 (.int 17))))))) (BK 9) bz)
  (CV (A5 (.AR true)))))))):=rfl
 apply Ends.done;erw[W_,eK];rw[BS];simp[HX,M7,As,Mc,ex,li,CR,t2,Fv];refine NH D.int (4::Ed ns (some 16) (some 17)) (λ_ ρ=>∃s9 Bp Dc CW Lr Ls EQ HN Dl Dd,ρ=T0 ns cs ws os nw row O s9 Bp Dc CW Lr Ls EQ HN Dl Dd) ?_ ⟨.un,.un,.un,.un,.un,.un,.un,.un,.un,.un,rfl⟩ ?_ ?_
 .have s1:bX (.lst [.int 4]) (.lst (Ed (ns.map D.int) (some 16) (some 17)))=.ok (.int 4::Ed (ns.map D.int) (some 16) (some 17)):=bY (by simp;lia);rw[Y3]at s1;simp[intD,s1,P7,Y3]
 .rintro j z _ Bi ⟨s9,Bp,Dc,CW,Lr,Ls,EQ,HN,Dl,Dd,rfl⟩;have L1:BK 9 (.int z) (T0 ns cs ws os nw row O s9 Bp Dc CW Lr Ls EQ HN Dl Dd)=.ok (T0 ns cs ws os nw row O (.A2 (.int z)) Bp Dc CW Lr Ls EQ HN Dl Dd):=rfl;rw[L1,BX];exact z3 EO G4 bn B5 Hp Ye z Bp Dc CW Lr Ls EQ HN Dl Dd
 .rintro _ ⟨s9,Bp,Dc,CW,Lr,Ls,EQ,HN,Dl,Dd,rfl⟩;simp
end
section
variable(P:Bx)(w:Bj){K:Aa}{mg:Str->Option A7}(base:BI)(T:EI K mg)
include T
set_option maxHeartbeats 4000000
def cN:E0 P w K mg base "_law_cell_at" 2 1 M8:=by exists EM,0,Xt,T.u5,adZ;intros;ac_rfl
def Rh:E0 P w K mg base "_law_mixed" 2 1 FV:=by exists EM,0,gx,T.uE,o0;have:=o0;intros;ac_rfl
def xu:E0 P w K mg base "_law_counts" 1 2 Tv:=by exists EM,1,Xu,T.u6,oe;have:=oe;exists Rh;intros;ac_rfl
def cO:E0 P w K mg base "_law_doors" 1 1 Rq:=by exists EM,0,gr,T.u7,og;have:=og;intros;ac_rfl
def zQ:E0 P w K mg base "_law_wires" 2 2 RL:=by exists EM,1,gS,T.uN,o8;have:=o8;exists cO;exists Rh;intros;ac_rfl
def xw:E0 P w K mg base "_law_free_book" 2 1 Rr:=by exists EM,0,gu,T.uA,oi;have:=oi;intros;ac_rfl
def zN:E0 P w K mg base "_law_row" 3 2 OK:=by exists EM,1,gP,T.uK,o5;have:=o5;exists Rh;intros;ac_rfl
def yM:E0 P w K mg base "_law_books" 3 3 Qh:=by exists EM,2,gp,T.uu,oc;have:=oc;exists xw;exists Rh;exists zN;intros;ac_rfl
def yN:E0 P w K mg base "_law_both" 2 4 Tu:=by exists EM,3,gq,T.uv,od;have:=od;exists yM;exists cN;exists Rh;intros;ac_rfl
def yL:E0 P w K mg base "_law_all" 1 5 Tt:=by exists EM,4,gm,T.ur,o_;have:=o_;exists yN;exists cN;exists xu;exists zQ;intros;ac_rfl
def ke:E0 P w K mg base "_law_beyond" 2 1 Wa:=by exists EM,0,gn,T.ut,oa;have:=oa;intros;ac_rfl
def y0:E0 P w K mg base "_law_outer" 2 2 Wc:=by exists EM,1,gM,T.uG,ad_;exists ke;exists cO;intros;ac_rfl
def zP:E0 P w K mg base "_law_some" 2 2 Tx:=by exists EM,1,gR,T.uM,o7;have:=o7;exists Rh;intros;ac_rfl
def zO:E0 P w K mg base "_law_shelves" 3 1 Vt:=by exists EM,0,gQ,T.uL,o6;have:=o6;intros;ac_rfl
def kb:E0 P w K mg base "is_whole" 1 1 Ro:=by exists EM,0,hy,T.um,adX;intros;ac_rfl
def cM:E0 P w K mg base "is_whole_within" 3 2 Rp:=by exists EM,1,gi,T.uo,adY;exists kb;intros;ac_rfl
def yE:E0 P w K mg base "are_counts" 1 3 Tr:=by exists EM,2,gb,T.ue,adR;exists cM;intros;ac_rfl
def ka:E0 P w K mg base "is_pair" 1 1 WZ:=by exists EM,0,hx,T.uj,adV;intros;ac_rfl
def yI:E0 P w K mg base "is_door_among" 2 3 WY:=by exists EM,2,gg,T.ui,adU;exists ka;exists cM;intros;ac_rfl
def yK:E0 P w K mg base "is_wire_among" 2 4 ZL:=by exists EM,3,gj,T.uq,oY;have:=oY;exists yI;exists ka;intros;ac_rfl
def yF:E0 P w K mg base "far_doors" 2 5 Rn:=by exists EM,4,gc,T.uf,oX;have:=oX;exists yK;intros;ac_rfl
def y7:h8 P w K mg base "Net" 2 6 a5:=by exists agX,5,Xo,T.uX,adP;exists yE;exists yF;intros;ac_rfl
def xv:E0 P w K mg base "_law_fits" 2 1 Wb:=by exists EM,0,gt,T.u9,oh;have:=oh;intros;ac_rfl
def cP:E0 P w K mg base "_law_next" 4 2 Im:=by exists EM,1,gy,T.uF,o1;have:=o1;exists ke;exists xv;intros;ac_rfl
def yO:E0 P w K mg base "_law_road" 4 3 Vs:=by exists EM,2,Xw,T.uJ,o4;have:=o4;exists cP;intros;ac_rfl
def y1:E0 P w K mg base "_law_rings" 4 4 Rt:=by exists EM,3,gN,T.uH,o2;have:=o2;exists yO;intros;ac_rfl
def xz:E0 P w K mg base "_law_met" 4 5 Rs:=by exists EM,4,Xv,T.uD,nz;have:=nz;exists cP;exists y1;intros;ac_rfl
def xx:E0 P w K mg base "_law_goals" 1 2 Tw:=by exists EM,1,gv,T.uB,nx;have:=nx;exists cO;intros;ac_rfl
def y8:Pj P w K mg base "Weaver" "behind" 1 1 N_:=by exists aP,0,Uq,T.uY,oS;have:=oS;intros;ac_rfl
def yC:Pj P w K mg base "Weaver" "round_from" 1 2 Tq:=by exists aP,1,Xr,T.ub,oV;have:=oV;exists y8;intros;ac_rfl
def yB:Pj P w K mg base "Weaver" "met" 0 3 ZI:=by exists aP,2,Xq,T.ua,oU;have:=oU;exists yC;intros;ac_rfl
def y9:YB P w K mg base "Weaver" "entered" 2 1 Qg:=by exists qC,0,Xp,T.uZ,oT;have:=oT;intros;ac_rfl
def yJ:E0 P w K mg base "is_pattern" 1 1 ZK:=by exists EM,0,gh,T.uk,adW;intros;ac_rfl
def yH:E0 P w K mg base "is_address" 1 3 ZJ:=by exists EM,2,gf,T.uh,adT;exists cM;intros;ac_rfl
def yG:E0 P w K mg base "fits" 2 4 Ts:=by exists EM,3,gd,T.ug,adS;exists yH;exists yJ;intros;ac_rfl
def zW:E0 P w K mg base "taken" 3 5 ZN:=by exists EM,4,bU,T.uU,oA;have:=oA;exists yG;intros;ac_rfl
def y6:Pj P w K mg base "Net" "beyond" 1 1 WV:=by exists aP,0,ga,T.uW,adO;intros;ac_rfl
def zU:E0 P w K mg base "onward" 4 6 OM:=by exists EM,5,TB,T.uS,o9;have:=o9;exists y6;exists zW;intros;ac_rfl
def yD:YB P w K mg base "Weaver" "weave" 1 7 WX:=by exists qC,6,Xs,T.uc,oW;have:=oW;exists y9;exists zU;intros;ac_rfl
def yA:h9 P w K mg base "Weaver" 5 8 WW:=by exists agW,7,VP,T.u_,adQ;exists yD;intros;ac_rfl
def zT:E0 P w K mg base "mixed" 3 1 ZM:=by exists EM,0,gU,T.uQ,ade;intros;ac_rfl
def zV:E0 P w K mg base "stages_of" 3 2 Vu:=by exists EM,1,gz,T.uT,adf;exists zT;intros;ac_rfl
def zS:E0 P w K mg base "met_with_leadings" 6 10 OL:=by exists EM,9,Xy,T.uP,adb;exists yA;exists yB;exists zV;intros;ac_rfl
def zR:E0 P w K mg base "leading" 7 11 Qi:=by exists EM,10,Xx,T.uO,ada;exists kb;exists zS;intros;ac_rfl
def y2:E0 P w K mg base "_law_rising" 2 1 OJ:=by exists EM,0,gO,T.uI,o3;have:=o3;intros;ac_rfl
def xy:E0 P w K mg base "_law_leads" 6 3 Kr:=by exists EM,2,gw,T.uC,ny;have:=ny;exists cP;intros;ac_rfl
def rv(f:A8)(CG:A7)(A:CK)(outer:List Env)(s:AP)(H:AB)(E:DT)(B5:Cm 11 (A.deeper (Nw "law" (C0 P5) s.heap.objs.size f CG)))(G0 H0:AB):KQ (Jt H6 P w K mg base ["_law_script","_law_counts_here","_law_wires_here","_law_old","_law_new","_law_outer_here","_law_some_here","_law_shelves_here","_law_net","_law_cell","_law_number","_law_door","_law_address","_law_met_here","_law_goals_here","_law_start","_law_goal","_law_numbers","_law_again"] "law" (C0 P5) f CG A outer s H E).Kw (Gv K G0 H0) (GS P5) gk:=by have:=oZ;have:=y7 P w base T;have:=yL P w base T;have:=cN P w base T;have:=xx P w base T;have:=xy P w base T;have:=xz P w base T;have:=Rh P w base T;have:=y0 P w base T;have:=y2 P w base T;have:=zO P w base T;have:=zP P w base T;have:=zR P w base T;ac_rfl
end
end K8
namespace K8
open PySem PySem.Spec Bs CP
def eE{P:List A7->Prop}(h:P []):∀us:List A7,us.length=0->P us
 |[],_=>h
def eF{P:List A7->Prop}{n:Nat}(h:∀a us,us.length=n->P (a::us)):∀us:List A7,us.length=n+1->P us
 |a::us,e=>h a us (Nat.succ.inj e)
section
variable{K:Aa}{h:BI}{mg:Str->Option A7}{x qual Af:Str}{C f:A8}{st:Be}{Ai Ar:List Str}{EL an:Option A8}{C2:Array (Option A7)}{IL Dm Yv pm cd Dn:A7}
def tz(X:K.In h)(G:h.Ns FG mg)(a:MF K FG x=some (some (.ref f)))(l:K.lookup f=some ⟨IL,EL,.func (JH x x (LD st) (GS st) (C0 st) .none Dm Yv pm an cd Dn),C2⟩)(c:PI K cd x=true)(k:LQ K (.ref f)=true)(b:∀(Dm doc pm:A7)(an:Option A8)(CG Dn:A7)(us:List A7),us.length=Ai.length->Sr (JH x x (LD st) (GS st) (C0 st) .none Dm doc pm an CG Dn) ⟨us,[]⟩=pure (Ai.zip us):=by intro _ _ _ _ _ _;(repeat refine eF λ_=>?_);exact eE rfl):Dz K mg x st Ai:=tx (st:=st) X G a l c k b
def yo(n:MF K FG Af=some (some (.ref C)))(g1:Sj K C Str.empty=true)(g2:UG K C=true)(g3:XC K C=true)(g4:K4 K (.ref C) "__setattr__"=some (some (.builtin "object.__setattr__")))(a:K4 K (.ref C) x=some (some (.ref f)))(l:K.lookup f=some ⟨IL,EL,.func (JH x qual (LD st) (GS st) (C0 st) .none Dm Yv pm an cd Dn),C2⟩)(c:PI K cd qual=true)(k:LQ K (.ref f)=true)(i:US K (.ref f)=true)(b:∀(Dm doc pm:A7)(an:Option A8)(CG Dn:A7)(us:List A7),us.length=Ai.length->Sr (JH x qual (LD st) (GS st) (C0 st) .none Dm doc pm an CG Dn) ⟨us,[]⟩=pure (Ai.zip us):=by intro _ _ _ _ _ _;(repeat refine eF λ_=>?_);exact eE rfl):Ou K Af x qual st Ai:=⟨⟨C,f,_,n,⟨g1,g2,g3,g4⟩,⟨a,i,k⟩,RV (st:=st) l c k,(RV (st:=st) l c k).binds b⟩⟩
def zH(X:K.In h)(G:h.Ns FG mg)(n:MF K FG Af=some (some (.ref C)))(mk:fb K C=true)(kc:LQ K (.ref C)=true)(a:K4 K (.ref C) "__init__"=some (some (.ref f)))(l:K.lookup f=some ⟨IL,EL,.func (JH "__init__" qual (LD st) (GS st) (C0 st) .none Dm Yv pm an cd Dn),C2⟩)(c:PI K cd qual=true)(k:LQ K (.ref f)=true)(i:US K (.ref f)=true)(b:∀(Dm doc pm:A7)(an:Option A8)(CG Dn:A7)(us:List A7),us.length=Ai.length->Sr (JH "__init__" qual (LD st) (GS st) (C0 st) .none Dm doc pm an CG Dn) ⟨us,[]⟩=pure (Ai.zip us):=by intro _ _ _ _ _ _;(repeat refine eF λ_=>?_);exact eE rfl):InK K mg Af qual st Ai:=⟨⟨C,f,_,n,⟨mk,a,i,kc⟩,RV (st:=st) l c k,Qx X G n,(RV (st:=st) l c k).binds b⟩⟩
def sS(n:MF K FG Af=some (some (.ref C)))(g1:Sj K C Str.empty=true)(g2:UG K C=true)(g3:XC K C=true)(g4:K4 K (.ref C) "__setattr__"=some (some (.builtin "object.__setattr__")))(u:∀f∈Ar,K4 K (.ref C) f=some none):Nd K Af Ar:=⟨⟨C,n,⟨g1,g2,g3,g4⟩,u⟩⟩
def rk{i:Int}{t:Tok}(X:K.In h)(G:h.Ns FG mg)(z:MF K FG x=some (some (.int i t))):Lm K mg x (.int i):=⟨⟨_,_,Qx X G z,W6 _ _,λ_=>Up _⟩⟩
def rr{t0:Tok}{m:Nat}(X:K.In h)(G:h.Ns FG mg)(z:MF K FG "RING"=some (some (.ref C)))(y:K.lookup C=some ⟨.type "tuple",EL,.seq #[.str (B_ "ring") t0] m,C2⟩):Lm K mg "RING" Y0:=⟨⟨.ref C,_,Qx X G z,rfl,eA y (Wu rfl) (.cons (ag _ _) (.nil)) λ_=>.cons (Xe _) (.nil)⟩⟩
def rt{t0 t1 DI:Tok}{m:Nat}(X:K.In h)(G:h.Ns FG mg)(z:MF K FG "SIGNS"=some (some (.ref C)))(y:K.lookup C=some ⟨.type "tuple",EL,.seq #[.str (B_ "0") t0,.str (B_ "1") t1,.str (B_ "x") DI] m,C2⟩):Lm K mg "SIGNS" TC:=⟨⟨.ref C,_,Qx X G z,rfl,eA y (Wu rfl) (.cons (ag _ _) (.cons (ag _ _) (.cons (ag _ _) (.nil)))) λ_=>.cons (Xe _) (.cons (Xe _) (.cons (Xe _) (.nil)))⟩⟩
def ru{t0 t1 DI t3:Tok}{m:Nat}(X:K.In h)(G:h.Ns FG mg)(z:MF K FG "WORTHS"=some (some (.ref C)))(y:K.lookup C=some ⟨.type "tuple",EL,.seq #[.int 8 t0,.int 4 t1,.int 2 DI,.int 1 t3] m,C2⟩):Lm K mg "WORTHS" S5:=⟨⟨.ref C,_,Qx X G z,rfl,eA y (Wu rfl) (.cons (W6 _ _) (.cons (W6 _ _) (.cons (W6 _ _) (.cons (W6 _ _) (.nil))))) λ_=>.cons (Up _) (.cons (Up _) (.cons (Up _) (.cons (Up _) (.nil))))⟩⟩
set_option maxHeartbeats 4000000 in
def all_mk{l:fc}{w:Bj}{G6:A8}(X:K.In h)(G:h.Ns FG mg)(vR:mg "law"=some (.ref G6))(T:EI K mg)(a:MF K FG "law"=some (some (.ref f)))(lk:K.lookup f=some ⟨IL,EL,.func (JH "law" "law" (LD P5) (GS P5) (C0 P5) .none Dm Yv pm an cd Dn),C2⟩)(c:PI K cd "law"=true)(k:LQ K (.ref f)=true) :
  ∃fd:GF,(∀(s:AP)(v:A7),BindsTo s fd ⟨[v],[]⟩ [("_law_script",v)])/\∀base:BI,K.In base->base.Ns FG mg->Gl l.prog w K mg base H6 12 G6 fd ["_law_script"] (P9 K 1 W_):=by
 have e:=vR.symm.trans (Qx X G a);cases e;exact⟨_,λs v=>.of_eq rfl,λbase _ _=>(RV (st:=P5) lk c k).ok oZ ee λCG A outer s H vs Q E B5 AJ=>let⟨G,Aj⟩:=bW AJ;⟨_,(rv _ _ _ T f CG A outer s H E B5 G H).1,Aj⟩⟩
end
def afT {l:fc} {q:Bx} {loose:List Str} {T7:(Str->Option A7)->BI->Prop} {Pp:Bj->BI->Prop} {d:DefRec} {K:Params->Aa} (AQ:l.most=some 63) (VA:d.params.defaults=[])(b1:∀(w:Bj)(h:BI),Pp w h->(K w.params).In h)(F:∀(w:Bj)(mg:Str->Option A7)(G6:A8)(h:BI),(K w.params).In h->h.Ns FG mg->mg d.name=some (.ref G6)->
    ∃fd:GF,(∀(s:AP)(u:A7),BindsTo s fd ⟨[u],[]⟩ [("_law_script",u)])/\∀base:BI,(K w.params).In base->base.Ns FG mg->Gl l.prog w (K w.params) mg base H6 12 G6 fd ["_law_script"] (P9 (K w.params) 1 W_)) :
  PySem.W.WalkO q loose T7 Pp l.row.toRowW d [] (λf vs=>PySem.call f vs):=
 Bs.afU (n:=63) (k:=12) (x:="_law_script") (CX:=λ_=>H6) (sp:=λw=>P9 (K w.params) 1 W_) AQ ε VA ⟨rfl,ε,ε⟩ b1 F (λw H a ns AN _ KC=>zd KC (ze ns AN) λ_ _ _=>False) λ_ _ _ _ _ z=>z
end K8
end
namespace PySem.W.Fast
def tw5402763139334100103:=0
def tw16044832002124668950:=0
def tw10239453502194436568:=0
def tw15272791562765350075:=0
def tw14404895475593643189:=0
def tw18092338329372408677:=0
def tw5491806947139198893:=0
def tw10588722675862237345:=0
def tw6421145828641881765:=0
def tw2634849963369730601:=0
def tw1307854243498537882:=0
def tw10180389267165933310:=0
def tw13207997586662706203:=0
def tw5503358772435786781:=0
def tw15393429995728067829:=0
def tw15643248598080303197:=0
def tw11522631745959575884:=0
def tw7856905759936025269:=0
def tw8718872223610252880:=0
def tw16622466332939209815:=0
def tw7533937029939282532:=0
def tw14256900155785078166:=0
def tw2542819850855973547:=0
def tw6114733508074406358:=0
def tw16641343089516468109:=0
def tw5527839667646990837:=0
def tw12675883707596437220:=0
def tw7853269691362637859:=0
def tw12148465767103511021:=0
def tw9040625249214400373:=0
def tw15043009409513971639:=0
def tw6565061135248736322:=0
def tw3452994002731644954:=0
def tw13812402081142588808:=0
def tw2233484006655659898:=0
def tw2139891805445512333:=0
def tw18122419545681736622:=0
def tw6821924795497389390:=0
def tw4697443589196891258:=0
def tw3591469789786641349:=0
def tw6059680516391530924:=0
def tw8491460193426164779:=0
def tw6092423079140581836:=0
def tw4290941050714190826:=0
def tw17932360294429383420:=0
def tw8981393032858540946:=0
def tw9877457418608456909:=0
def tw873488106537761462:=0
def tw666121886504573919:=0
def tw12890540951137773963:=0
def tw1132624293385125853:=0
def tw8042603373623005139:=0
def tw15746891042200587662:=0
def tw4504204975015771755:=0
def tw2029577572803664282:=0
def tw5733019229826620699:=0
def tw15715493358891928043:=0
def tw9800437156878621402:=0
def tw16504859855477001078:=0
def tw8113698732250817582:=0
def tw15063920588013831396:=0
def tw5812839901484675009:=0
def tw15439473593941726098:=0
def tw12028653543625115888:=0
def tw13419205321663401442:=0
def tw348682038935755762:=0
def tw9678768080644056344:=0
def tw3886818788941549463:=0
def tw11439710941469294457:=0
def tw16439484639924129197:=0
def tw17722325520020656631:=0
def tw5071251458537615602:=0
def tw4108140971174510104:=0
def tw11898248450780320133:=0
def tw9253476536347369940:=0
def tw10864410254537216888:=0
def tw4443622683224652295:=0
def tw16704840682693000755:=0
def tw12638241741322302471:=0
def tw2339661586846350356:=0
def tw11598545985100667843:=0
def tw18015222896941086763:=0
def tw2420019658235572855:=0
def tw12513931189706925416:=0
def tw17229185846817548672:=0
def tw13793189061693652811:=0
def tw10255744971354061834:=0
def tw6631964366368053334:=0
def tw5764015868862246263:=0
def tw2551205359522739449:=0
def tw10006910225622820820:=0
def tw11950185654232801309:=0
def tw6375226980710673456:=0
def tw17368877553204720285:=0
end PySem.W.Fast
open PySem PySem.W PyProof.Rows Bs CP K8
set_option maxRecDepth 100000 in
set_option maxHeartbeats 0 in
theorem PySem.Challenge.cw_nohalfway_k38_leadings_walked_holds : PySem.Challenge.rw_nohalfway_k38_leadings_walked.Holds := by
 w_on;o_law;k_head;(case hw=>w_witness2)
 k_fill
 refine K8.afT (l:=PySem.Challenge.rw_nohalfway_k38_leadings_walked) rfl rfl (λw h Y=>PySem.W.kIn_of Y) ?F
 case F=>
  intro w mg G6 h IY G VE
  refine' K8.all_mk IY G VE ?T ?ya ?yl ?yc ?yk
  (case T=>constructor<;>first
    |(refine' K8.tz IY G ?a ?l ?c ?k;(case a=>k_is);(case l=>k_is);(case c=>k_is);(case k=>k_is))
    |(refine' K8.yo ?n ?g1 ?g2 ?g3 ?g4 ?a ?l ?c ?k ?i;(case n=>k_is);(case g1=>k_is);(case g2=>k_is);(case g3=>k_is);(case g4=>k_is);(case a=>k_is);(case l=>k_is);(case c=>k_is);(case k=>k_is);(case i=>k_is))
    |(refine' K8.zH IY G ?n ?mk ?kc ?a ?l ?c ?k ?i;(case n=>k_is);(case mk=>k_is);(case kc=>k_is);(case a=>k_is);(case l=>k_is);(case c=>k_is);(case k=>k_is);(case i=>k_is))
    |(refine' K8.sS ?n ?g1 ?g2 ?g3 ?g4 ?u;(case n=>k_is);(case g1=>k_is);(case g2=>k_is);(case g3=>k_is);(case g4=>k_is);(case u=>(repeat' first|exact λ_ h=>absurd h LN|refine List.forall_mem_cons.2 ⟨?_,?_⟩|k_is)))
    |(refine' K8.rk IY G ?z;(case z=>k_is))
    |(refine' PySem.W.mg_none_of IY G ?a;(case a=>k_is))
    |(refine' K8.rr IY G ?z ?y;(case z=>k_is);(case y=>k_is))
    |(refine' K8.rt IY G ?z ?y;(case z=>k_is);(case y=>k_is))
    |(refine' K8.ru IY G ?z ?y;(case z=>k_is);(case y=>k_is)))
  case ya|yl|yc|yk=>k_is
