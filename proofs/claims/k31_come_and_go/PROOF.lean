import PyProof.Rows.All
import PyProof.DictRoadsH
import Wide.All
import OpenK.AllK
import Wide.FinOn
import Lean
import PyProof.EqAt
import PyProof.EqKinds
import PyProof.TupleCall
import PySem.SetOps
import PyProof.TupleKey
import PyProof.SetKind
import PyProof.IsRules
import PyProof.Rows.SetFrom
import PyProof.DictWalks
import PyProof.CollectWalk
import PyProof.Rows.SortWalk
import PyProof.Rows.SortShell
import PyProof.NeKinds
import KE.KEqDict
import PyProof.SetRoads
import PyProof.AutoListH
import KE.RegKIsAll
import KE.RegKTryMore
import PySem.Challenge.RW_nohalfway_k31_come_and_go
set_option bootstrap.genMatcherCode false
set_option genSizeOf false
set_option compiler.extract_closed false
open PySem.Str renaming ofString -> As, ofString -> Q3
open PySem renaming wpAny_bind -> AL, Value -> A3, wpAny_pure -> Aw, Shared -> AJ, Addr -> A4, wpAny -> AV, sizeLine -> Bu, Program -> Bh, tupleKeyHash -> ER, starEach -> CJ, model -> Al, mainGlobals -> Fm, World -> BP, Around -> CW, IsTupleKey -> GA, wpAny_truthy_bool -> Ko, wpAny_newObj_type -> Kp, compareOp -> Fb, wpAny_callSpecial?_slot -> OY, mem_of_lookup -> MO, wpAny_call_entry -> Kl, wpAny_holding -> Iv, SetTable -> FF, wpAny_seqItems -> K2, Heap -> Ar, Expr -> At, wpAny_field -> Iz, wpAny_mono -> I9, cellsFrom -> HV, behindInMarks -> Lg, sysModules -> Iu, cLine -> Cq, wpAny_forIn_list -> Od, wpAny_typeNameOfWhole_keyiter -> VY, foldedSetIterable -> Pz, Stmt -> BM, wpAny_specialOf -> Of, strIterType -> Kq, FuncData -> HU, attributeBase -> NH, wpAny_setField_rec -> RV, carriedByValue -> Om, eval -> Bb, sizeLine_eq -> Li, assignEach -> Kt, wpAny_passesOwn -> Q6, wpAny_typeNameOf_keyiter -> Vk, bootBuiltins -> NN, wpAny_isInstance -> RX, binaryOp -> J0, wpAny_Call_Name_kw -> T4, keywordEach -> NJ, hashByValue -> NK, codeAny_builtin -> RT, wpAny_setState_of -> T9, backTo -> GO, IsPair -> Gl, NameKind -> K4, Scope -> Ey, DictEntry -> MT, wpAny_rule -> Ol, holding -> JU, sliceBounds -> QA, ofAClassStatement -> W2, isSubtype_tuple_tuple -> bj, codeAny_mono -> R_, wpAny_updateSeq_pair -> bp, call_meets -> Q9, wpAny_execs_nil -> Vv, letOwnedTupleGo -> Vw, relabel -> Kv, wpAny_tupleItemsOf -> bh, backToKw -> NO, codeAny -> Lj, wpAny_setField -> Vr, firstArgMember -> Vs, step -> Df, swapsWith -> QB, getMethod -> QC, wpAny_pyIter_list -> cA, wpAny_dictEntries -> cB, KeyKind -> WC, wpAny_onRaise -> WD, wpAny_attempt -> WE, plainId_quiet -> WF, assign -> K6, pyNext -> K7, standAt -> NQ, wpAny_typeOf -> WA, seqIndex? -> Rc, call_meetsIn -> WB, wpAny_dictEpoch -> bt, rawInt -> Lk, newFunctionEnv -> cO, Builtin -> Oo, getItem -> Op, subscripted -> WJ, valueAt -> Oq, callerA -> Os, notedBy -> Ot, IsZip -> IU, callWith -> Rd, Keyword -> QD, call -> WH, Within -> cG
open PySem.W renaming Frag -> Ad, kia_one -> IT, findIn -> Ir, keepIn -> JP, emptyDict -> NI, fnOf -> JT, codeIn -> MQ, nsIn -> Kr, instObj -> Og, plainGet -> RY, hasDictIn -> T6, mg_of -> RS, plainOver -> Vb, methodCall_KW -> bk, excIn -> TH, hideAll -> Vu, plainGet_of -> bg, isFn -> TF, callWith_K -> bi, lookIn -> Vp, kitOne -> Vq, methodObj -> c7, cellsFrom_some -> oh, takerIn -> c0, makesIn -> c1, OpenLaw -> c4, hideAll_get -> pE, of_hideAll -> pF, kitx_tuple -> pG, WalkO -> cR, kitx_none -> p5, kitx_bool -> p6, kitx_list -> p7, kitx_dict -> p8
open List renaming getElem?_eq_getElem -> CF, getElem?_cons_zero -> DJ, getElem?_cons_succ -> Dq, getElem?_append_left -> EZ, getD_eq_getElem?_getD -> Ex, size_toArray -> DI, length_cons -> D7, length_map -> DV, length_append -> EP, mem_cons_of_mem -> FD, getElem?_append_right -> H2, map_cons -> DB, getElem?_map -> Em, length_nil -> EQ, append_assoc -> FS, range -> Cd, mem_cons_self -> Fy, getElem?_eq_none -> HF, mem_append_right -> HT, prefix_append -> Gk, replicate -> FE, mem_append_left -> Hp, mem_of_getElem? -> Hn, getElem?_set_self -> JQ, cons_append -> Ho, mem_cons -> Gh, getElem?_set_ne -> Lf, length_take -> JS, mem_append -> Iq, map_append -> K1, not_mem_nil -> Km, set_cons_zero -> MR, getElem_mem -> Lh, map_nil -> Iy, append_nil -> MS, nodup_iff_pairwise_ne -> T1, replicate_succ -> Pu, flatten_cons -> Oc, getElem_of_mem -> Pv, getElem?_range -> Pw, mergeSort_perm -> Px, take_append_drop -> RQ, set_cons_succ -> Py, filterMap_cons -> RR, nil_append -> Oh, length_pos_of_mem -> T0, filter_cons -> Ps, length_replicate -> TA, drop_eq_getElem_cons -> Vg, find?_cons -> Q7, length_erase_of_mem -> Vj, getElem?_replicate -> Vl, pairwise_map -> T8, mem_erase_of_ne -> Vd, nodup_nil -> RU, getElem?_take_of_lt -> ba, mem_singleton -> Va, prefix_rfl -> T2, take_succ_eq_append_getElem -> oK, lookup -> Q1, eraseIdxIfInBounds_toArray -> oW, eraseIdx_eq_take_drop_succ -> oX, findSome?_append -> bo, getElem_inj -> W4, length_drop -> W5, lookup_cons -> W6, eq_nil_of_length_eq_zero -> o_, mem_of_mem_drop -> bq, getElem?_of_mem -> br, length -> RZ, foldl_cons -> Vx, range_succ -> Vz, length_eraseIdx_of_lt -> oU, lookup_append -> bb, getElem?_drop -> be, length_mapIdx -> bf, mapM_cons -> W0, nodup_append -> c6, ext_getElem? -> cC, length_range -> cD, eraseIdx_cons_succ -> p0, all_cons -> WG, all_eq_true -> bx, of_mem_zip -> c2, length_set -> c3, forIn_cons -> c5, getElem?_toArray -> ou, dropLast_eq_take -> oc, mem_map -> W8, set_append_right -> og, singleton_append -> pB, mem_of_mem_take -> pC, range_eq_range' -> pD, any_cons -> cP, all_map -> cL
open PySem.Heap renaming get?_push_of_some -> Cz, lt_size -> D3, get?_push_size -> Fc, SameBut -> Hm, get?_update_self -> Oi, size_push -> K3, get?_update_other -> Vn
open Nat renaming le_refl -> C1, lt_of_lt_of_le -> Fn, ne_of_lt -> Ef, reduceAdd -> G9, zero_le -> Gi, le_trans -> I8, lt_irrefl -> Iw, lt_succ_self -> Pr, le_add_right -> Pt, ne_of_gt -> MP, lt_trichotomy -> RW, add_assoc -> On, eq_or_lt_of_le -> T5, le_of_lt -> Q2, reduceLT -> Q4, le_succ -> Q5, lt_succ_of_lt -> W1, reduceSub -> TD, le_of_lt_succ -> c9, le_of_ble_eq_true -> oq, add_zero -> W7, mod_lt -> TJ, lt_trans -> cJ, sub_self -> cK
open Bool renaming false_eq_true -> Gj, and_eq_true -> I7, false_ne_true -> JR, not_true -> Ks, and_false -> TG, eq_iff_iff -> bu, not_false -> cN, false_or -> cQ, true_and -> cE
open PySem.Value renaming ref -> Ce, none -> H3, type -> NL, bool -> Q8, int -> Ra, str -> Rb, float -> cM
open Option.some renaming inj -> Fd
open Array renaming getElem?_eq_getElem -> Kn, getD_eq_getD_getElem? -> Pq, length_toList -> Oj, forIn_toList -> RP, getElem?_toList -> bl
open PySem.Builtin.SmallTypes renaming nextOf -> OZ, ownedTupleIsFree -> V_, ownedTupleHandOut -> oL
open Classical renaming byContradiction -> O_
open PyProof.Rows renaming callWith_type1 -> Pp, slot_tuple_getitem -> oV, IsTup -> bc, kindOf -> JV, AllBare -> MU, Call_ -> pI, IntsAre -> QE, envOfC -> NR
open PySem.Heap.SameBut renaming update -> MN, refl -> pA
open PySem.Builtin.Tuple renaming tupleHashOf -> Po, tupleExact -> Vh, tupleItemsOf -> oQ
open PySem.NameKind renaming free -> Ix
open False renaming elim -> Hq
open True renaming intro -> IA
open Int renaming toNat_natCast -> Ob, fdiv_eq_ediv_of_nonneg -> oS
open Option renaming getD_some -> Oe, map_some -> T3, isSome_map -> c8, bind_some -> bz, isSome_some -> pH
open PySem.F renaming slot_dict_keyiterator_next -> VZ, slot_tuple_iterator_next -> VX, plainAttrs_list -> Vm, slot_dict_get -> bn, args_dict_keyiterator_next_1 -> oY, entry_dict_keyiterator_next -> oZ, args_tuple_iterator_next_1 -> oa, entry_tuple_iterator_next -> oO, slot_zip_next -> Vy, slot_dict_delitem -> oM, args_tuple_add_2 -> ow, entry_tuple_add -> oz, args_dict_get_2 -> p1, plainAttrs_dict -> p2, slot_tuple_add -> oi, entry_dict_get -> oj, slot_dict_pop -> oo, slot_list_pop -> od, type_list_pop -> oe
open Function renaming comp_def -> Q0, comp -> cF
open ForInStep renaming yield -> Oa
open PySem.Builtin.Slice renaming slicePlaces -> Vf, sliceAdjust -> b_, sliceApplied -> oT
open PySem.Around renaming under_plainId -> TB, under -> cH
open PySem.Builtin.List renaming listTooLong -> Vi, listExtendWith -> oP, listSameRef -> ox
open PySem.Calls renaming callWith_builtin -> Vo, spliced_cons -> TC, spliced_nil -> T7, evalArgs_plain -> Vc, Name_function_global -> oR
open PySem.Obj renaming mapSeq -> NM, data_mapFields -> Ve, isFreed_of_fields -> ot
open PyProof.Rows.F renaming plain_set_update_loop -> bZ, entry_set_update_loop -> p3
open PySem.SetTable renaming insertAt -> W3, leap -> cS, sizeAbove -> p4
open Sum renaming inl -> K5, inr -> NP
open PySem.Builtin.Dict_items renaming ownsTuple -> oN
open List.cons renaming injEq -> Vt
open Ne renaming symm -> Ku
open PySem.Builtin.Range renaming rangeSize -> oy
open Sum.inl renaming injEq -> W9
open PySem.SeqAt renaming ne_of_list_tuple -> om, RcAt -> TK, EqAt -> WI
open PySem.Builtin.Dict renaming showsAll -> ob
open PySem.PassesOwn renaming never -> bw
open List.Perm renaming append_left -> ov
open PySem.Data renaming cell -> TL
open List.Pairwise renaming nil -> p9
open PySem.Code renaming isFrame -> cI
set_option Elab.async false
set_option linter.all false
set_option maxRecDepth 100000
noncomputable section
set_option hygiene false in
local macro_rules| `(tactic|ac_rfl)=> `(tactic|repeat' first
 |exact abN
 |exact ae3
 |exact aeC
 |refine aeD ?_
 |refine ae5 ?_ ?_
 |exact ae6
 |exact aeE
 |exact aeH
 |refine aeG ?_
 |refine aeB ?_ ?_ ?_
 |refine adR ?_
 |refine ae4 _ _ _ (CH.C3 ‹_›) (by rfl) ?_ ?_ ?_ (λ_ _ _ _ _ _ _=>?_)
 |refine aeI _ (CH.C3 ‹_›) ?_
 |refine ae2 ?_ ?_
 |refine ae7 (Cu.units ‹_›) ?_ ?_ ?_
 |refine aeF ?_ ?_ ?_
 |exact Yp (DR.abH ‹_›)
 |exact Yp (DR.abI ‹_›)
 |exact Yp (DR.abJ ‹_›)
 |exact Yp (DR.abK ‹_›)
 |refine ae9 ?_ ?_ ?_
 |refine aeA ?_ ?_ ?_
 |refine adS ?_ ?_
 |refine ae8 ?_
 |refine acn ?_
 |refine adi ?_
 |exact acJ _
 |exact adA
 |exact acv
 |exact aco
 |exact aca
 |exact Pm (DR.Ta ‹_›)
 |exact Pm (DR.Rz ‹_›)
 |exact Pm (DR.S0 ‹_›)
 |exact Pm (DR.Tb ‹_›)
 |exact Pm (DR.S1 ‹_›)
 |exact Pm (DR.Qb ‹_›)
 |exact Pm (DR.OJ ‹_›)
 |exact Pm (DR.OK ‹_›)
 |refine ay (DR.ic ‹_›) ?_
 |refine bQ (DR.ic ‹_›) ?_ ?_
 |refine ay (DR.ie ‹_›) ?_
 |refine bQ (DR.ie ‹_›) ?_ ?_
 |refine ay (DR.ig ‹_›) ?_
 |refine bQ (DR.ig ‹_›) ?_ ?_
 |exact abM
 |refine abL ?_ ?_
 |refine acH ?_
 |refine acP ?_
 |refine acw ‹_› (Cu.mono ‹_› (by decide)) ?_
 |refine acR ‹_› (Cu.mono ‹_› (by decide)) ?_
 |refine acT ‹_› (Cu.mono ‹_› (by decide)) ?_
 |refine acS ‹_› (Cu.mono ‹_› (by decide)) ?_ ?_
 |refine adV (Cu.units ‹_›) ?_
 |refine ad4 (Cu.units ‹_›) ?_
 |refine ade (Cu.units ‹_›) ?_
 |refine acX (Cu.units ‹_›) ?_
 |refine adg ?_
 |refine adU (Cu.units ‹_›) ?_ ?_
 |refine adb (Cu.units ‹_›) ?_ ?_
 |refine ada ?_ ?_
 |refine ad_ ?_ ?_
 |refine adX ?_ ?_
 |refine adW ?_ ?_
 |refine adZ ?_ ?_
 |refine adh ?_ ?_
 |refine adY (Cu.units ‹_›) ?_ ?_
 |refine adf (Cu.units ‹_›) ?_ ?_
 |refine nY Oz Oz SU SU ?_ ?_ ?_
 |refine nY Oz Yw SU j4 ?_ ?_ ?_
 |refine adj ?_
 |refine adk ?_
 |refine adl ?_ ?_
 |refine adn ?_ ?_
 |refine adm ?_
 |refine ado ?_
 |refine ad8 ?_ ?_ ?_
 |refine acr ?_ ?_
 |refine acf ?_ ?_
 |refine ace ?_
 |refine acb ?_
 |refine acY ?_
 |refine abm ?_ ?_
 |refine acF ?_ ?_
 |refine acV ?_ ?_
 |refine ad5 ?_ ?_
 |refine acU ?_ ?_
 |refine aci ?_ ?_
 |refine acj ?_ ?_
 |refine acs ?_ ?_
 |refine ad3 (Cu.units ‹_›) ?_ ?_
 |refine acW (Cu.units ‹_›) ?_ ?_
 |refine acQ ?_ ?_
 |refine adD ?_ ?_
 |refine ad7 ?_ ?_
 |refine ad6 ?_ ?_
 |refine adB ?_ ?_
 |refine acd ?_ ?_
 |refine ad9 (Cu.units ‹_›) ?_ ?_
 |refine ac_ (Cu.units ‹_›) ?_ ?_
 |refine nD Oz Oz SU SU ?_ ?_ ?_
 |refine nD Oz Yw SU j4 ?_ ?_ ?_
 |refine adC (Cu.units ‹_›) ?_ ?_ bD
 |refine ack ?_ ?_ ?_
 |exact ady
 |refine adz ?_
 |refine acy _ _ (by rfl) ?_ ?_ ?_ (λ_ _ _ _ _ _ _=>?_)
 |exact qz _ (hN:=of_decide_eq_true ( by kernel_rfl ))
 |exact qy _ (hN:=of_decide_eq_true ( by kernel_rfl ))
 |exact r0 _ _ (hN:=of_decide_eq_true ( by kernel_rfl ))
 |exact r9
 |refine r8 (λ_ _ _ _ _ _ _=>?_)
 |exact acM _ (CH.C3 ‹_›)
 |refine acp ?_
 |exact acN
 |refine acL ?_ ?_
 |refine acq ‹_› (DR.qo ‹_›) ?_
 |refine V8 (VO _ (by decide)) (DR.TW ‹_›) (DR.qp ‹_›) (by kernel_rfl) ?_
 |refine adu (DR.qq ‹_›) ?_
 |refine acG (DR.f8 ‹_›) ?_
 |refine V8 (VO _ (by decide)) (DR.TW ‹_›) (DR.f8 ‹_›) (by kernel_rfl) ?_
 |refine adF ‹_› (DR.fF ‹_›) (DR.qr ‹_›) ?_
 |refine adE (DR.fF ‹_›) ?_
 |refine acO (DR.cb ‹_›) (DR.cc ‹_›) ?_
 |refine adG (DR.cb ‹_›) ?_
 |refine V8 (VO _ (by decide)) (DR.TW ‹_›) (DR.cb ‹_›) (by kernel_rfl) ?_
 |refine adv (DR.cc ‹_›) ?_
 |refine adw (DR.cc ‹_›) ?_
 |refine acm (DR.qs ‹_›) ?_
 |refine acE (DR.fG ‹_›) ?_
 |refine V8 (VO _ (by decide)) (DR.TW ‹_›) (DR.fG ‹_›) (by kernel_rfl) ?_
 |refine acI (DR.fI ‹_›) ?_
 |refine V8 (VO _ (by decide)) (DR.TW ‹_›) (DR.fI ‹_›) (by kernel_rfl) ?_
 |refine adx (DR.qt ‹_›) ?_
 |refine adt ?_
 |refine acu ?_ ?_
 |refine acx ?_
 |refine acz (Cu.units ‹_›) ?_ ?_
 |refine ad2 ?_ ?_
 |refine acg ?_
 |refine ach ?_ ?_
 |exact ad0
 |exact ad1
 )
namespace LE
open PySem
section
variable{prog:Bh}{w:BP}{K:Type}[DecidableEq K]{knd:HeapKind prog w K}{A:CW}{E:A3->AJ->Prop}{s:AJ}
noncomputable def KM(knd:HeapKind prog w K)(h:Ar)(d:A4)(xs:List (K×A4×A3)):Prop:=
 ∃o es Ai,h.get? d=some o/\o.ExactDict/\o.data=.dict es Ai/\es.toList=xs.map (entryOfKey knd)/\(∀x∈xs,knd.is h x.1 x.2.1)/\(xs.map (·.1)).Nodup/\Ai=es.size
def KM.of{h:Ar}{d:A4}{xs:List (K×A4×A3)}(x:KM knd h d xs):h.DictOfH knd d xs:=by obtain⟨o,es,Ai,h1,h2,B2,Ca,FQ,FR,_⟩:=x;exact⟨o,es,Ai,h1,h2,B2,Ca,FQ,FR⟩
def KM.new{d a:A4}{xs:List (K×A4×A3)}{k:K}{v:A3}{h:Ar}(x:KM knd h d xs)(AK:knd.is h k a)(Si:∀(j:Nat)(p:A4×A3),xs[j]?≠some (k,p)) :
  KM knd (h.update d (Obj.mapDictKeys λx=>x.push { hash:=knd.hash k,key:=.ref a,val:=v })) d (storedH xs k a v):=by
 obtain⟨o,es,Ai,ho,AD,hd,he,Un,AW,hz⟩:=x;rw[storedH_new (atKey_none_of_get Si)];have hs:=MN h d (Obj.mapDictKeys λx=>x.push { hash:=knd.hash k,key:=.ref a,val:=v });refine⟨_,_,Ai+1,Oi _ ho (Obj.isFreed_of_dict (Obj.data_mapDictKeys hd _)),Obj.ExactDict.mapDictKeys AD _,Obj.data_mapDictKeys hd _,by simp[he,entryOfKey],λx AG=>?_,?_,by simp[hz]⟩
 .rcases List.mem_append.mp AG with AG|AG
  .exact knd.keeps (Un x AG) ho hd hs
  .obtain rfl:x=(k,a,v):=by simpa using AG
   exact knd.keeps AK ho hd hs
 .rw[K1,c6];refine⟨AW,by simp,λx AG y AN e=>?_⟩;obtain rfl:y=k:=by simpa using AN
  exact not_mem_keys_of_get Si (e▸AG)
def KM.old{d a:A4}{xs:List (K×A4×A3)}{k:K}{v:A3}{h:Ar}{j:Nat}{p:A4×A3}(x:KM knd h d xs)(Af:xs[j]?=some (k,p)) :
  KM knd (h.update d (Obj.mapDict λx=>x.modify j λe=>{ hash:=e.hash,key:=e.key,val:=v })) d (storedH xs k a v):=by
 obtain⟨o,es,Ai,ho,AD,hd,he,Un,AW,hz⟩:=x;rw[storedH_old (atKey_of_get AW Af)];have hs:=MN h d (Obj.mapDict λx=>x.modify j λe=>{ hash:=e.hash,key:=e.key,val:=v });refine⟨_,_,Ai,Oi _ ho (Obj.isFreed_of_dict (Obj.data_mapDict hd _)),Obj.ExactDict.mapDict AD _,Obj.data_mapDict hd _,?_,λx AG=>?_,by rw[keys_map_putAt];exact AW,by simp[hz]⟩
 .have:=modify_map_putAt (entryOfKey knd) (λe=>{ hash:=e.hash,key:=e.key,val:=v }) k v (λx y=>rfl) AW Af;rw[<-he]at this;rw[<-this];cases es;simp
 .obtain⟨y,AN,rfl⟩:=List.mem_map.mp AG;have:=knd.keeps (Un y AN) ho hd hs;unfold putAt
  split<;>exact this
def s9{d a:A4}{k:K}{xs:List (K×A4×A3)}{v:A3}{Q:Unit->AJ->Prop}(Av:knd.room A)(Qn:knd.is s.heap k a)(hm:KM knd s.heap d xs)(Dt:∀h',KM knd h' d (storedH xs k a v)->Hm d s.heap h'->Q () { s with heap:=h',toks:=s.toks+knd.draws k })(hsz:xs.length<=Bu) :
  AV (Al prog w) A (dictSet d (.ref a) v) Q E s:=by
 obtain⟨o,es,Ai,ho,AD,hd,he,Un,AW,hz⟩:=id hm;unfold dictSet;refine Iv (AL (knd.pyHash Av Qn ?_));unfold dictSetHashed;have AF:=size_of_entries he;refine Iv (AL (wpAny_dictFind_heap Av Qn ho hd he Un AW (λSi=>AL (Ol (wpAny_updateDictKeys ho hd (Dt _ (hm.new Qn Si) (MN ..)) (by lia) (by simp)))) λj p Af=>AL (Ol (AL (wpAny_updateDict ho hd (wpAny_point (Dt _ (hm.old Af) (MN ..))) ?_)))))
 all_goals simp
 all_goals lia
theorem aag{d a:A4}{k:K}{xs:List (K×A4×A3)}{v:A3}{Q:Unit->AJ->Prop}(Av:knd.room A.in1)(Qn:knd.is s.heap k a)(hm:KM knd s.heap d xs)(Dt:∀h',KM knd h' d (storedH xs k a v)->Hm d s.heap h'->Q () { s with heap:=h',toks:=s.toks+knd.draws k })(hsz:xs.length<=Bu) :
  AV (Al prog w) A (setItem (.ref d) (.ref a) v) Q E s:=by
 unfold setItem;refine Iv (AL (wpAny_sequenceKey hm.of.typeIs (by decide) (AL (OY hm.of.typeIs F.slot_dict_setitem (Kl F.slot_dict_setitem hm.of.typeIs F.entry_dict_setitem ?_ (by first|exact args_dict_setitem _ _ _|exact F.args_dict_setitem_3 _ _ _))))));refine AL (wpAny_notOrdered_dict hm.of.typeIs ?_);show AV _ _ (dictSet d (.ref a) v>>=λ_=>ret H3) _ _ _;refine AL (s9 Av Qn hm (λh' Zr JH=>Aw ⟨H3,rfl,Aw (Dt h' Zr JH)⟩) hsz)
end
end LE
namespace B8
open PySem PySem.Spec PyProof.Rows
abbrev Key:=Sum Int Str
def PM:Key->A3->Bool
 |.inl k,v=>Value.isInt k v
 |.inr x,v=>Value.isStrOf x v
def vf(w:BP):Key->Int
 |.inl k=>hashInt k
 |.inr x=>hashStr w x
def KW:∀{k:Key}{v:A3},PM k v=true->(∃i t,k=K5 i/\v=Ra i t)\/(∃x t,k=NP x/\v=Rb x t)
 |.inl i,v,h=>by obtain⟨t,e⟩:=Value.isInt_shape (k:=i) (v:=v) h;exact .inl ⟨i,t,rfl,e⟩
 |.inr x,v,h=>by obtain⟨t,e⟩:=Value.isStrOf_shape (x:=x) (v:=v) h;exact .inr ⟨x,t,rfl,e⟩
def vh(i:Int)(t:Tok):PM (.inl i) (.int i t)=true:=by simp[PM,Value.isInt]
def ih(x:Str)(t:Tok):PM (.inr x) (.str x t)=true:=by simp[PM,Value.isStrOf]
def vk(a b:Int):decide ((K5 a:Key)=K5 b)=(a==b):=by
 by_cases e:a=b
 .subst e;simp
 .have h:¬(K5 a:Key)=K5 b:=λq=>e (Sum.inl.inj q);rw[decide_eq_false h];exact(beq_eq_false_iff_ne.mpr e).symm
def vn(a b:Str):decide ((NP a:Key)=NP b)=decide (a=b):=by
 by_cases e:a=b
 .subst e;simp
 .have h:¬(NP a:Key)=NP b:=λq=>e (Sum.inr.inj q);rw[decide_eq_false h,decide_eq_false e]
def vl(a:Int)(b:Str):decide ((K5 a:Key)=NP b)=false:=decide_eq_false (λq=>nomatch q)
def vm(a:Str)(b:Int):decide ((NP a:Key)=K5 b)=false:=decide_eq_false (λq=>nomatch q)
noncomputable def Fi(prog:Bh)(w:BP):WC prog w Key where
 is:=PM
 hash:=vf w
 inj:=λv a b AB A1=>by
  rcases KW AB with⟨i,t,rfl,rfl⟩|⟨x,t,rfl,rfl⟩
  .rcases KW A1 with⟨j,u,rfl,e⟩|⟨y,u,rfl,e⟩
   .injection e with A9 _;rw[A9]
   .exact nomatch e
  .rcases KW A1 with⟨j,u,rfl,e⟩|⟨y,u,rfl,e⟩
   .exact nomatch e
   .injection e with A9 _;rw[A9]
 byValue:=λk v h=>by rcases KW h with⟨i,t,rfl,rfl⟩|⟨x,t,rfl,rfl⟩<;>rfl
 pyHash:=λBB h=>by
  rcases KW BB with⟨i,t,rfl,rfl⟩|⟨x,t,rfl,rfl⟩
  .exact wpAny_pyHash_int h
  .exact wpAny_pyHash_str h
 eqBool:=λAv BB h=>by
  rcases KW Av with⟨i,t,rfl,rfl⟩|⟨x,t,rfl,rfl⟩
  .rcases KW BB with⟨j,u,rfl,rfl⟩|⟨y,u,rfl,rfl⟩
   .rw[vk]at h;exact wpAny_eqBool_int h
   .rw[vl]at h;exact SeqAt.EqAt.int_str i t y u _ _ _ _ h
  .rcases KW BB with⟨j,u,rfl,rfl⟩|⟨y,u,rfl,rfl⟩
   .rw[vm]at h;exact SeqAt.EqAt.str_int x t j u _ _ _ _ h
   .rw[vn]at h;exact wpAny_eqBool_str h
 «strs»:=λk x t v h=>by
  rcases KW h with⟨i,u,rfl,e⟩|⟨y,u,rfl,e⟩
  .exact nomatch e
  .injection e with A9 _;subst A9;cases v<;>rfl
def iP(prog:Bh)(w:BP)(k:Key)(v:A3):(Fi prog w).is k v=PM k v:=rfl
def wY(prog:Bh)(w:BP)(i:Int)(t:Tok):(Fi prog w).is (.inl i) (.int i t)=true:=vh i t
def wZ(prog:Bh)(w:BP)(x:Str)(t:Tok):(Fi prog w).is (.inr x) (.str x t)=true:=ih x t
section
open SeqAt
section
variable(prog:Bh)(w:BP)
abbrev Jw:=Sum Key (List Key)
abbrev Cf:=List Jw
def QR(h:Ar):Jw->A3->Prop
 |.inl k,v=>PM k v=true
 |.inr ks,v=>∃b,v=.ref b/\GA (Fi prog w) h ks b
inductive Hu(h:Ar):Cf->List A3->Prop
 |nil:Hu h [] []
 |cons {k:Jw} {v:A3} {ks:Cf} {vs:List A3}:QR prog w h k v->Hu h ks vs->Hu h (k::ks) (v::vs)
def J1(h:Ar)(ks:Cf)(a:A4):Prop:=∃o items n,h.get? a=some o/\o.cls=.type "tuple"/\o.data=.seq items n/\Hu prog w h ks items.toList
variable{prog w}
theorem QR.inj{h:Ar}{x y:Jw}{v:A3}(AG:QR prog w h x v)(AN:QR prog w h y v):x=y:=by
 cases x with
 |inl a=>
  cases y with
  |inl b=>rw[(Fi prog w).inj _ _ _ AG AN]
  |inr b=>obtain⟨c,rfl,_⟩:=AN;have:=(Fi prog w).byValue _ _ AG;simp[Om]at this
 |inr a=>
  obtain⟨c,rfl,AG⟩:=AG;cases y with
  |inl b=>have:=(Fi prog w).byValue _ _ AN;simp[Om]at this
  |inr b=>obtain⟨d,e,AN⟩:=AN;cases e;rw[AG.inj AN]
theorem Hu.inj{h:Ar}{x y:Cf}{vs:List A3}(AG:Hu prog w h x vs)(AN:Hu prog w h y vs):x=y:=by
 induction AG generalizing y with
 |nil=>cases AN;rfl
 |cons h1 _ Bk=>
  cases AN with
  |cons h2 Ct=>rw[h1.inj h2,Bk Ct]
theorem Hu.keeps{h h':Ar}{d:A4}{o:Obj}{es Ai}(ho:h.get? d=some o)(hd:o.data=.dict es Ai)(hs:Hm d h h'):∀{x:Cf}{vs:List A3},Hu prog w h x vs->Hu prog w h' x vs
 |_,_,.nil=>.nil
 |_,_,.cons (k:=.inl _) h1 t=>.cons (k:=.inl _) h1 (Hu.keeps ho hd hs t)
 |_,_,.cons (k:=.inr _) ⟨b,e,x⟩ t=>.cons (k:=.inr _) ⟨b,e,x.keeps ho hd hs⟩ (Hu.keeps ho hd hs t)
def J1.typeIs{s:AJ}{ks:Cf}{a:A4}(x:J1 prog w s.heap ks a):s.TypeIs (.ref a) "tuple":=let⟨o,_,_,ho,AD,_⟩:=x;⟨o,ho,AD⟩
theorem J1.inj{h:Ar}{a:A4}{x y:Cf}(AG:J1 prog w h x a)(AN:J1 prog w h y a):x=y:=by obtain⟨o,i,n,h1,_,h2,B2⟩:=AG;obtain⟨o',Uu,SQ,ha,_,hb,uD⟩:=AN;rw[h1]at ha;cases ha;rw[h2]at hb;cases hb;exact B2.inj uD
theorem J1.keeps{h h':Ar}{ks:Cf}{a d:A4}{o:Obj}{es Ai}(x:J1 prog w h ks a)(ho:h.get? d=some o)(hd:o.data=.dict es Ai)(hs:Hm d h h'):J1 prog w h' ks a:=by
 obtain⟨o',items,n,F9,AD,JG,A7⟩:=x;have IQ:a≠d:=by rintro rfl;obtain rfl:o'=o:=Fd (F9.symm.trans ho);rw[hd]at JG;exact nomatch JG
 exact⟨o',items,n,(hs.2 a IQ).trans F9,AD,JG,A7.keeps ho hd hs⟩
def Ll(prog:Bh)(w:BP):Jw->Int
 |.inl k=>(Fi prog w).hash k
 |.inr ks=>ER (Fi prog w) ks
def RA:Jw->Nat
 |.inl _=>1
 |.inr ks=>ks.length+1
variable{A:CW}{E:A3->AJ->Prop}{s:AJ}
theorem y7{ks:Cf}{a:A4}{Q:Int->AJ->Prop}(Av:A.units+8<Cq)(AK:J1 prog w s.heap ks a)(h:Q (reduceHash (Po (ks.map (Ll prog w)))) { s with toks:=s.toks+((ks.map RA).sum+1) }) :
  AV (Al prog w) A (pyHash (.ref a)) Q E s:=by
 have DN:=AK.typeIs;obtain⟨o,items,n,ho,_,hd,A7⟩:=AK;unfold pyHash
 first|unfold pyHashByItsType|skip
 first|refine AL (wpAny_cRoomFor_or (.inr (by lia)) ?_)|skip
 refine AL (Of DN F.slot_tuple_hash.lookup ?_);show AV _ _ (if(some (Value.builtin "tuple.__hash__")==some H3)=true then _ else _) Q E s;rw[if_neg (by rw[beq_builtin_none];exact JR)];refine AL (Of DN F.slot_tuple_hash.lookup ?_);show AV _ _ (callSpecialIfBoundUnlessNone? (.ref a) "__hash__" _>>=_) Q E s;refine AL (wpAny_callSpecialIfBoundUnlessNone?_slot DN F.slot_tuple_hash (Kl F.slot_tuple_hash DN F.entry_tuple_hash ?_ (F.args_tuple_hash_1 _)));show AV _ _ (oQ (.ref a)>>=_) _ _ s;refine AL (bh ho hd ?_);refine AL ?_;rw[<-RP]
 refine Od _
  (λrest(b:Array Int) s'=>∃done left,ks=done++left/\Hu prog w s.heap left rest/\b.toList=done.map (Ll prog w)/\s'={ s with toks:=s.toks+(done.map RA).sum })
  _ ?_ ?_ _ _ ⟨[],ks,rfl,A7,rfl,rfl⟩
 .rintro x rest b s' ⟨done,left,rfl,AF,A1,rfl⟩;cases AF with
  | @cons k _ H9 _ h1 LI=>
    cases k with
    |inl k=>
     refine AL ((Fi prog w).pyHash h1 ?_)
     first
      |exact Aw ⟨done++[.inl k],H9,by simp,LI,by simp[A1,Ll],by simp[On,RA]⟩
      |exact AL (Aw (Aw ⟨done++[.inl k],H9,by simp,LI,by simp[A1,Ll],by simp[On,RA]⟩))
    |inr FW=>
     obtain⟨Fx,rfl,h1⟩:=h1;refine AL (wpAny_pyHash_tuple (knd:=Fi prog w) (ks:=FW) (show A.units+1<Cq by lia) h1 ?_)
     first
      |exact Aw ⟨done++[.inr FW],H9,by simp,LI,by simp[A1,Ll],by simp[On,RA]⟩
      |exact AL (Aw (Aw ⟨done++[.inr FW],H9,by simp,LI,by simp[A1,Ll],by simp[On,RA]⟩))
 .rintro b s' ⟨done,left,rfl,AF,A1,rfl⟩;cases AF;rw[MS]at h;show AV _ _ (retInt (Po b.toList)) _ _ _;rw[A1];refine wpAny_ret_mkInt ?_;show AV _ _ (if(decide (-(2:Int)^63<=Po (done.map (Ll prog w)))&&decide (Po (done.map (Ll prog w))<2^63))=true then _ else _) Q E _;unfold reduceHash at h;by_cases Ao:(decide (-(2:Int)^63<=Po (done.map (Ll prog w)))&&decide (Po (done.map (Ll prog w))<2^63))=true
  .rw[if_pos Ao];rw[if_pos Ao]at h;exact Aw (by simpa[On]using h)
  .rw[if_neg Ao];rw[if_neg Ao]at h;exact AL (Ol (Aw (by simpa[On]using h)))
def xg{x y:Jw}{u v:A3}{Q:Bool->AJ->Prop}(Av:A.units+1<Cq)(AG:QR prog w s.heap x u)(AN:QR prog w s.heap y v)(h:Q (decide (x=y)) s):AV (Al prog w) A (eqBool u v) Q E s:=by
 cases x with
 |inl a=>
  cases y with
  |inl b=>exact(Fi prog w).eqBool (a:=a) (b:=b) AG AN (by simpa using h)
  |inr b=>
   obtain⟨c,rfl,o,its,n,h1,h2,B2,_⟩:=AN;have hd:decide ((K5 a:Jw)=NP b)=false:=by simp
   rw[hd]at h;rcases KW AG with⟨i,t,_,rfl⟩|⟨i,t,_,rfl⟩
   .exact EqAt.int_tuple i t ⟨o,h1,h2,n,B2⟩ (by lia) prog w E Q h
   .exact EqAt.str_tuple i t ⟨o,h1,h2,n,B2⟩ (by lia) prog w E Q h
 |inr a=>
  cases y with
  |inl b=>
   obtain⟨c,rfl,o,its,n,h1,h2,B2,_⟩:=AG;have hd:decide ((NP a:Jw)=K5 b)=false:=by simp
   rw[hd]at h;rcases KW AN with⟨i,t,_,rfl⟩|⟨i,t,_,rfl⟩
   .exact EqAt.tuple_int i t ⟨o,h1,h2,n,B2⟩ (by lia) prog w E Q h
   .exact EqAt.tuple_str i t ⟨o,h1,h2,n,B2⟩ (by lia) prog w E Q h
  |inr b=>obtain⟨c,rfl,AG⟩:=AG;obtain⟨d,rfl,AN⟩:=AN;exact wpAny_eqBool_tuple (by lia) AG AN (by simpa using h)
def y6{x y:Cf}{a b:A4}{P:Fin->AJ->Prop}(Av:A.units+1<Cq)(AG:J1 prog w s.heap x a)(AN:J1 prog w s.heap y b)(h:P (.done (.ret (.bool (decide (x=y))))) s) :
  AV (Al prog w) A (Oo.«tuple.__eq__» ⟨[.ref a,.ref b],[]⟩) P E s:=by
 have tU:=AN.typeIs;obtain⟨afe,xs,na,vB,_,tj,ts⟩:=AG;obtain⟨Bc,ys,nb,vC,_,KS,tK⟩:=AN;show AV _ _ (isInstance (.ref b) (.type "tuple")>>=_) _ _ s;refine AL (RX tU bj ?_);simp only[Ks,Gj,if_false];refine AL (bh vB tj ?_);refine AL (bh vC KS ?_);refine AL ?_
 refine Od _
  (λrest r s'=>r.1=none/\s'=s/\∃Ev SC Le VA,rest=List.zip Le VA/\Hu prog w s.heap Ev Le/\Hu prog w s.heap SC VA/\decide (Ev=SC)=decide (x=y)/\(Le.length==VA.length)=(xs.size==ys.size))
  _ ?_ ?_ _ _ ⟨rfl,rfl,x,y,xs.toList,ys.toList,rfl,ts,tK,rfl,by simp⟩
 .rintro⟨u,v⟩ rest r s' ⟨Ao,rfl,Ev,SC,Le,VA,hz,a8,Sm,X6,hlen⟩;cases a8 with
  |nil=>simp at hz
  | @cons k1 II nA ae0 h1 uV=>
    cases Sm with
    |nil=>simp at hz
    | @cons k2 I4 o8 adH h2 uW=>
      simp only[List.zip_cons_cons,Vt,Prod.mk.injEq]at hz;obtain⟨⟨rfl,rfl⟩,rfl⟩:=hz;refine AL (xg Av h1 h2 ?_);by_cases AK:k1=k2
      .subst AK;rw[decide_eq_true rfl];simp only[Ks,Gj,if_false];refine Aw ⟨rfl,rfl,nA,o8,ae0,adH,rfl,uV,uW,?_,by simpa using hlen⟩;rw[<-X6];by_cases hE:nA=o8
       .simp[hE]
       .simp[hE]
      .rw[decide_eq_false AK];simp only[cN,if_true];have hf:decide (x=y)=false:=by rw[<-X6];simp[AK]
       rw[hf]at h;exact AL (Aw (Aw (Aw h)))
 .rintro⟨Ak,B6⟩ s' ⟨Ao,rfl,Ev,SC,Le,VA,hz,a8,Sm,X6,hlen⟩;simp only at Ao;subst Ao;refine Aw ?_;have tn:(xs.size==ys.size)=decide (x=y):=by
   rw[<-X6,<-hlen];cases a8 with
   |nil=>
    cases Sm with
    |nil=>simp
    |cons _ _=>simp
   |cons _ _=>
    cases Sm with
    |nil=>simp
    |cons _ _=>simp at hz
  show P (.done (.ret (.bool (xs.size==ys.size)))) s';rw[tn];exact h
theorem y5{x y:Cf}{a b:A4}{Q:Bool->AJ->Prop}(Av:A.units+8<Cq)(AG:J1 prog w s.heap x a)(AN:J1 prog w s.heap y b)(h:Q (decide (x=y)) s) :
  AV (Al prog w) A (eqBool (.ref a) (.ref b)) Q E s:=by
 unfold eqBool
 try with_reducible refine Iv ?_
 show AV _ _ (if(Ce a==Ce b)=true then _ else _) Q E s;by_cases No:(Ce a==Ce b)=true
 .rw[if_pos No];have e:a=b:=by have:=eq_of_beq No;injection this
  subst e;obtain rfl:=AG.inj AN;exact AL (Ol (Aw (by simpa using h)))
 .rw[if_neg No]
  exact AL (wpAny_richCompare_same_room (op:=.Eq) AG.typeIs AN.typeIs F.slot_tuple_eq
   (Kl F.slot_tuple_eq AG.typeIs F.entry_tuple_eq (y6 (show A.units+1+1<Cq by lia) AG AN ⟨_,rfl,(λe=>nomatch e),Ko h⟩) (F.args_tuple_eq_2 _ _)) (by lia))
theorem xh{x:Jw}{v:A3}{Q:Bool->AJ->Prop}{n:Nat}(AG:QR prog w s.heap x v)(h:Q true s):AV (Al prog w) A (eqIsQuiet 7 v) Q E s:=by
 cases x with
 |inl a=>rw[eqIsQuiet_byValue _ ((Fi prog w).byValue _ _ AG)];exact Aw h
 |inr a=>
  obtain⟨c,rfl,AK⟩:=AG;have DN:=AK.typeIs;obtain⟨o,items,n,ho,_,hd,A7⟩:=AK;unfold eqIsQuiet;refine AL (Of DN F.slot_tuple_eq.lookup ?_);show AV _ _ (isInstance (.ref c) (.type "tuple")>>=_) _ _ s;refine AL (RX DN bj ?_);simp only[Ks,Gj,if_false];refine AL (K2 ho hd ?_);refine AL ?_;show AV _ _ (forIn items _ _) _ _ s;rw[<-RP];refine Od _ (λrest r s'=>r.1=none/\s'=s/\∀v∈rest,Om v=true) _ ?_ ?_ _ _ ⟨rfl,rfl,A7.byValue⟩
  .rintro v rest r s' ⟨Ao,rfl,Rl⟩;rw[eqIsQuiet_byValue _ (Rl v Fy)];refine AL (Aw ?_);simp only[Ks,Gj,if_false];exact Aw ⟨rfl,rfl,λu Ur=>Rl u (FD _ Ur)⟩
  .rintro⟨Ak,B6⟩ s' ⟨Ao,rfl,_⟩;simp only at Ao;subst Ao;exact Aw h
theorem y8{ks:Cf}{a:A4}{Q:Bool->AJ->Prop}(AK:J1 prog w s.heap ks a)(h:Q true s):AV (Al prog w) A (eqIsQuiet 8 (.ref a)) Q E s:=by
 have DN:=AK.typeIs;obtain⟨o,items,n,ho,_,hd,A7⟩:=AK;unfold eqIsQuiet;refine AL (Of DN F.slot_tuple_eq.lookup ?_);show AV _ _ (isInstance (.ref a) (.type "tuple")>>=_) _ _ s;refine AL (RX DN bj ?_);simp only[Ks,Gj,if_false];refine AL (K2 ho hd ?_);refine AL ?_;show AV _ _ (forIn items _ _) _ _ s;rw[<-RP];refine Od _ (λrest r s'=>r.1=none/\s'=s/\∃H9,Hu prog w s.heap H9 rest) _ ?_ ?_ _ _ ⟨rfl,rfl,ks,A7⟩
 .rintro v rest r s' ⟨Ao,rfl,H9,AF⟩;cases AF with
  |cons h1 LI=>refine AL (xh (n:=0) h1 ?_);simp only[Ks,Gj,if_false];exact Aw ⟨rfl,rfl,_,LI⟩
 .rintro⟨Ak,B6⟩ s' ⟨Ao,rfl,_⟩;simp only at Ao;subst Ao;exact Aw h
end
noncomputable def Ow(prog:Bh)(w:BP):HeapKind prog w Cf where
 is:=J1 prog w
 hash:=λks=>reduceHash (Po (ks.map (Ll prog w)))
 draws:=λks=>(ks.map RA).sum+1
 room:=λA=>A.units+8<Cq
 inj:=λAG AN=>AG.inj AN
 keeps:=λx ho hd hs=>x.keeps ho hd hs
 pyHash:=λAv AK h=>y7 Av AK h
 eqBool:=λAv AG AN h=>y5 Av AG AN h
 quiet:=λAK h=>y8 AK h
def nest_room{prog:Bh}{w:BP}{A:CW}(Av:A.units+16<Cq):(Ow prog w).room A.in1:=show A.units+1+8<Cq by lia
end
inductive V where
 |non|AM (b:Bool)|int (i:Int)|str (x:Str)|P6 (b:Array UInt8)|Qf (b:UInt64)|ref (a:A4)|ty (n:String)
 deriving DecidableEq
noncomputable def RelV:V->A3->Prop
 |.non,u=>u=H3
 |.AM b,u=>u=Q8 b
 |.int i,u=>∃t,u=Ra i t
 |.str x,u=>∃t,u=Rb x t
 |.P6 b,u=>∃t,u=Value.bytes b t
 |.Qf b,u=>∃t,u=cM b t
 |.ref a,u=>u=Ce a
 |.ty n,u=>u=NL n
abbrev Vals:List V->List A3->Prop:=Paired RelV
theorem Vals.length{xs:List V}{us:List A3}(r:Vals xs us):xs.length=us.length:=Paired.length r
theorem Vals.get:∀{xs:List V}{us:List A3}{i:Nat}{x:V},Vals xs us->xs[i]?=some x->∃u,us[i]?=some u/\RelV x u
 |_,_,_,_,.nil,e=>by simp at e
 |_,_,0,_,.cons r _,e=>by simp at e;subst e;exact⟨_,rfl,r⟩
 |_,_,i+1,x,.cons _ t,e=>by obtain⟨u,h1,h2⟩:=Vals.get (i:=i) (x:=x) t (by simpa using e);exact⟨u,by simpa using h1,h2⟩
theorem Vals.set{x:V}{u:A3}(r:RelV x u):∀{xs:List V}{us:List A3}(i:Nat),Vals xs us->Vals (xs.set i x) (us.set i u)
 |_,_,_,.nil=>.nil
 |_,_,0,.cons _ t=>.cons r t
 |_,_,i+1,.cons q t=>.cons q (Vals.set r i t)
theorem Vals.append:∀{xs ys:List V}{us ws:List A3},Vals xs us->Vals ys ws->Vals (xs++ys) (us++ws)
 |_,_,_,_,.nil,s=>s
 |_,_,_,_,.cons r t,s=>.cons r (Vals.append t s)
theorem Vals.take:∀{xs:List V}{us:List A3}(n:Nat),Vals xs us->Vals (xs.take n) (us.take n)
 |_,_,0,_=>.nil
 |_,_,_+1,.nil=>.nil
 |_,_,n+1,.cons r t=>.cons r (Vals.take n t)
theorem Vals.drop:∀{xs:List V}{us:List A3}(n:Nat),Vals xs us->Vals (xs.drop n) (us.drop n)
 |_,_,0,r=>r
 |_,_,_+1,.nil=>.nil
 |_,_,n+1,.cons _ t=>Vals.drop n t
def Hd:Option V->Option A3->Prop
 |some v,some u=>RelV v u
 |none,none=>True
 |_,_=>False
def Fe{B_:Type}:List (B_×V)->List (B_×A3)->Prop:=Paired λ(p:B_×V)(q:B_×A3)=>p.1=q.1/\RelV p.2 q.2
def CU:Key->V
 |.inl i=>.int i
 |.inr x=>.str x
inductive El where
 |lst (xs:List V)
 |tup (xs:List V)
 |B3 (AA:List (Key×V))|Da (AA:List (Cf×V))
 |set (S:Int->Bool) (n:Nat)
 |ins (C BY:A4) (Ay:List (Str×V))
 |own (x:A4)
 |Yo (Ay:List (Str×V))
 |met (f x:A4)
 |ZA (lo A7:Int)
 |EF (o:Obj) (u:El)
 |OP (ps:Array A3)
 |ext (φ:Ar->Prop)
abbrev A8:=A4->Option El
def upd(H:A8)(a:A4)(o:El):A8:=λb=>if b=a then some o else H b
def EX{H:A8}{a:A4}{o:El}:upd H a o a=some o:=by unfold upd;rw[if_pos rfl]
def D2{H:A8}{a b:A4}{o:El}(h:b≠a):upd H a o b=H b:=by unfold upd;rw[if_neg h]
def yF{H:A8}{a b:A4}{o u:El}(h:H a=some o)(h':H b=some u)(d:o≠u):a≠b:=by intro e;subst e;rw[h]at h';exact d (Fd h')
def Kb{H:A8}{a b:A4}{o:El}(h:H a=some o)(h':H b=none):a≠b:=by intro e;subst e;rw[h]at h';cases h'
def Pa(H:A8):Jw->V->Prop
 |.inl k,v=>v=CU k
 |.inr ks,v=>∃b,v=.ref b/\H b=some (.tup (ks.map CU))
def N2(H:A8)(k:Cf)(a:A4):Prop:=∃vs,H a=some (.tup vs)/\Paired (Pa H) k vs
def Pa.mono{H A6:A8}(BQ:∀b xs,H b=some (.tup xs)->A6 b=some (.tup xs)):∀{k:Jw}{v:V},Pa H k v->Pa A6 k v
 |.inl _,_,h=>h
 |.inr _,_,⟨b,e,h⟩=>⟨b,e,BQ _ _ h⟩
theorem er.mono{H A6:A8}(BQ:∀b xs,H b=some (.tup xs)->A6 b=some (.tup xs)):∀{k:Cf}{vs:List V},Paired (Pa H) k vs->Paired (Pa A6) k vs
 |_,_,.nil=>.nil
 |_,_,.cons r t=>.cons (r.mono BQ) (er.mono BQ t)
theorem N2.mono{H A6:A8}{k:Cf}{a:A4}(h:N2 H k a)(BQ:∀b xs,H b=some (.tup xs)->A6 b=some (.tup xs)):N2 A6 k a:=
 let⟨vs,e,r⟩:=h;⟨vs,BQ _ _ e,er.mono BQ r⟩
def qE(K:Ad)(k:Cf)(b:A4):Prop:=∃(x:Str)(o:Obj)(n:Nat)(t:Tok),k=[.inl (.inr x)]/\K.lookup b=some o/\o.cls=.type "tuple"/\o.data=.seq #[.str x t] n
def Qs(K:Ad)(H:A8)(k:Cf)(b:A4):Prop:=N2 H k b\/qE K k b
theorem Qs.mono{K:Ad}{H A6:A8}{k:Cf}{a:A4}(h:Qs K H k a)(BQ:∀b xs,H b=some (.tup xs)->A6 b=some (.tup xs)):Qs K A6 k a:=h.elim (λh=>.inl (h.mono BQ)) .inr
section
variable(P:Bh)(w:BP)(K:Ad)
noncomputable def Ds(H:A8)(h:Ar)(a:A4):El->Prop
 |.lst xs=>xs.length<=Bu/\∃(its:List A3)(n:Nat),Vals xs its/\h.get? a=some { cls:=.type "list",data:=.seq its.toArray n }
 |.tup xs=>xs.length<=Bu/\∃its:List A3,Vals xs its/\IsTup h a its.toArray
 |.B3 AA=>AA.length<=Bu/\(a==Iu)=false/\∃vs,Fe AA vs/\h.DictOf (Fi P w) a vs
 |.Da AA=>AA.length<=Bu/\(a==Iu)=false/\∃xs:List (Cf×A4×A3),
     Paired (λ(p:Cf×V)(q:Cf×A4×A3)=>p.1=q.1/\Qs K H p.1 q.2.1/\RelV p.2 q.2.2) AA xs/\
     ∃o es Ai,h.get? a=some o/\o.ExactDict/\o.data=.dict es Ai/\es.toList=xs.map (entryOfKey (Ow P w))/\(xs.map (·.1)).Nodup/\Ai=es.size
 |.set S n=>h.SetOf (intKind P w) a S n
 |.ins C BY Ay=>H BY=some (.own a)/\Ay.length<=1000/\BY≠a/\h.get? a=some (Og C BY)/\
     ∃Du,h.Ns1 BY Du/\(∀f,Hd (Ay.lookup f) (Du f))/\cG Du (Ay.map (·.1))
 |.own _=>∃o,h.get? a=some o
 |.Yo Ay=>∃Du,h.Ns1 a Du/\∀f,Hd (Ay.lookup f) (Du f)
 |.ZA lo A7=>∃t u v,h.get? a=some { cls:=.type "range",data:=.fields #[.int lo t,.int A7 u,.int 1 v] }
 |.EF o u=>h.get? a=some o/\Ds H h a u
 |.OP ps=>h.get? a=some { cls:=.none,data:=.fields ps }
 |.met f x=>h.get? a=some (c7 (.ref f) (.ref x))
 |.ext φ=>φ h/\(∃o,h.get? a=some o)/\∀h1 h2:Ar,φ h1->(∀o,h1.get? a=some o->h2.get? a=some o)->φ h2
def E7(H:A8)(h:Ar):Prop:=∀a o,H a=some o->Ds P w K H h a o
end
section
variable{P:Bh}{w:BP}{K:Ad}{H A6:A8}{h h':Ar}{a:A4}{o:El}
theorem Ds.lt(x:Ds P w K H h a o):a<h.objs.size:=by
 cases o with
 |lst xs=>obtain⟨_,_,_,_,e⟩:=x;exact D3 e
 |tup xs=>obtain⟨_,_,_,p⟩:=x;exact p.lt
 |B3 AA=>obtain⟨_,_,_,_,o,_,_,e,_⟩:=x;exact D3 e
 |Da AA=>obtain⟨_,_,_,_,o,_,_,e,_⟩:=x;exact D3 e
 |set S n=>obtain⟨o,_,_,_,e,_⟩:=x;exact D3 e
 |ins C BY Ay=>obtain⟨_,_,_,e,_⟩:=x;exact D3 e
 |own y=>obtain⟨_,e⟩:=x;exact D3 e
 |Yo Ay=>obtain⟨_,⟨_,_,_,e,_⟩,_⟩:=x;exact D3 e
 |ZA lo A7=>obtain⟨_,_,_,e⟩:=x;exact D3 e
 |EF Bc u=>obtain⟨e,_⟩:=x;exact D3 e
 |OP ps=>exact D3 (show h.get? a=some _ from x)
 |met f y=>exact D3 (show h.get? a=some _ from x)
 |ext φ=>obtain⟨_,⟨_,e⟩,_⟩:=x;exact D3 e
theorem Paired.ZM{α β:Type}{F G:α->β->Prop}:∀{hu:List α}{hv:List β},Paired F hu hv->(∀a b,F a b->G a b)->Paired G hu hv
 |_,_,.nil,_=>.nil
 |_,_,.cons r t,f=>.cons (f _ _ r) (Paired.ZM t f)
def Ds.Mx(x:Ds P w K H h a o)(k:∀b u,(b=a\/H b=some (.own a))->h.get? b=some u->h'.get? b=some u)(ho:∀b,H b=some (.own a)->A6 b=some (.own a))(BQ:∀b xs,H b=some (.tup xs)->A6 b=some (.tup xs)):Ds P w K A6 h' a o:=by
 induction o with
 |lst xs=>obtain⟨z,its,n,r,e⟩:=x;exact⟨z,its,n,r,k _ _ (.inl rfl) e⟩
 |tup xs=>obtain⟨z,its,r,Bc,e,c⟩:=x;exact⟨z,its,r,Bc,k _ _ (.inl rfl) e,c⟩
 |B3 AA=>obtain⟨z,y,vs,r,Bc,es,Ai,e,c⟩:=x;exact⟨z,y,vs,r,Bc,es,Ai,k _ _ (.inl rfl) e,c⟩
 |Da AA=>obtain⟨z,y,xs,r,Bc,es,Ai,e,c⟩:=x;exact⟨z,y,xs,Paired.ZM r λp q z=>⟨z.1,z.2.1.mono BQ,z.2.2⟩,Bc,es,Ai,k _ _ (.inl rfl) e,c⟩
 |set S n=>obtain⟨Bc,es,Ai,t,e,c⟩:=x;exact⟨Bc,es,Ai,t,k _ _ (.inl rfl) e,c⟩
 |ins C BY Ay=>obtain⟨d,z,ne,e,Du,⟨Di,es,Ai,AE,c⟩,r⟩:=x;exact⟨ho _ d,z,ne,k _ _ (.inl rfl) e,Du,⟨Di,es,Ai,k _ _ (.inr d) AE,c⟩,r⟩
 |own y=>obtain⟨Bc,e⟩:=x;exact⟨Bc,k _ _ (.inl rfl) e⟩
 |Yo Ay=>obtain⟨Du,⟨Di,es,Ai,e,c⟩,r⟩:=x;exact⟨Du,⟨Di,es,Ai,k _ _ (.inl rfl) e,c⟩,r⟩
 |ZA lo A7=>obtain⟨t,u,v,e⟩:=x;exact⟨t,u,v,k _ _ (.inl rfl) e⟩
 |EF Bc u Bk=>obtain⟨e,q⟩:=x;exact⟨k _ _ (.inl rfl) e,Bk q⟩
 |OP ps=>have e:h.get? a=some { cls:=.none,data:=.fields ps }:=x;show h'.get? a=some { cls:=.none,data:=.fields ps };exact k a _ (.inl rfl) e
 |met f y=>have e:h.get? a=some (c7 (.ref f) (.ref y)):=x;show h'.get? a=some (c7 (.ref f) (.ref y));exact k a _ (.inl rfl) e
 |ext φ=>obtain⟨p,⟨o,e⟩,st⟩:=x;exact⟨st _ _ p λo q=>k _ _ (.inl rfl) q,⟨o,k _ _ (.inl rfl) e⟩,st⟩
theorem E7.lt(x:E7 P w K H h)(e:H a=some o):a<h.objs.size:=(x a o e).lt
def E7.fresh(x:E7 P w K H h)(e:h.objs.size<=a):H a=none:=by
 cases q:H a with
 |none=>rfl
 |some u=>exact absurd (Fn (x.lt q) e) (Iw _)
def E7.kept(x:E7 P w K H h)(k:∀b u,h.get? b=some u->h'.get? b=some u):E7 P w K H h':=λa o e=>
 (x a o e).Mx (λb u _ q=>k b u q) (λ_ q=>q) λ_ _ q=>q
def E7.laid(x:E7 P w K H h)(k:∀b u,h.get? b=some u->h'.get? b=some u)(AT:h.objs.size<=a)(new:Ds P w K (upd H a o) h' a o):E7 P w K (upd H a o) h':=λb u e=>by
 have AW:=x.fresh AT;by_cases A1:b=a
 .subst A1;rw[EX]at e;cases e;exact new
 .rw[D2 A1]at e;exact(x b u e).Mx (λc v _ q=>k c v q) (λc q=>by rw[D2 (Kb q AW)];exact q) λc xs q=>by rw[D2 (Kb q AW)];exact q
end
def J3(H:A8)(a:A4)(u:El):Prop:=H a=some u\/∃o,H a=some (.EF o u)
def J3.ok{P:Bh}{w:BP}{K:Ad}{H:A8}{h:Ar}{a:A4}{u:El}(r:J3 H a u)(x:E7 P w K H h):Ds P w K H h a u:=by
 rcases r with r|⟨o,r⟩
 .exact x a u r
 .obtain⟨_,q⟩:=x a _ r;exact q
def U6:Option El->Prop
 |some (.lst _)=>True
 |some (.B3 _)=>True
 |some (.Da _)=>True
 |some (.set _ _)=>True
 |some (.ins _ _ _)=>True
 |some (.ext _)=>True
 |_=>False
section
variable{P:Bh}{w:BP}{K:Ad}{H:A8}{h h':Ar}{x e:A4}{o':El}
def E7.write(ok:E7 P w K H h)(Jh:U6 (H x))(he:e=x\/H e=some (.own x))(k:∀b u,b≠e->h.get? b=some u->h'.get? b=some u)(Se:∃u,h'.get? e=some u)(new:Ds P w K (upd H x o') h' x o'):E7 P w K (upd H x o') h':=λb u q=>by
 have ji:∀c y,H c=some (.own y)->c≠x:=λc y r z=>by subst z;rw[r]at Jh;exact Jh
 have xq:∀c xs,H c=some (.tup xs)->c≠x:=λc xs r z=>by subst z;rw[r]at Jh;exact Jh
 by_cases A1:b=x
 .subst A1;rw[EX]at q;cases q;exact new
 .rw[D2 A1]at q;by_cases Md:b=e
  .have Cc:H b=some (.own x):=by
     rcases he with z|z
     .exact absurd (Md.trans z) A1
     .rw[Md];exact z
   rw[q]at Cc;cases Cc;obtain⟨v,BB⟩:=Se;exact⟨v,by rw[Md];exact BB⟩
  .refine(ok b u q).Mx (λc v AD r=>k c v ?_ r) (λc r=>by rw[D2 (ji c b r)];exact r) λc xs r=>by rw[D2 (xq c xs r)];exact r
   rcases AD with rfl|AD
   .exact Md
   .rintro rfl;rcases he with z|z
    .exact ji c b AD z
    .rw[AD]at z;cases z;exact A1 rfl
end
structure GH(Ay ex:List A4)(H A6:A8)(h h':Ar):Prop where
 keep:∀b o,h.get? b=some o->H b=none->b∉Ay->b∉ex->h'.get? b=some o
 slot:∀b o,h.get? b=some o->H b=none->b∈Ay->b∉ex->∃C9,h'.get? b=some { o with slots:=C9 }
 free:∀b o,h.get? b=some o->H b=none->b∉ex->A6 b=none
 there:∀b o,h.get? b=some o->b∉ex->∃o',h'.get? b=some o'
 Kk:∀b xs,H b=some (.tup xs)->A6 b=some (.tup xs)
 JE:∀b o u,H b=some (.EF o u)->A6 b=some (.EF o u)
 Kj:∀b ps,H b=some (.OP ps)->∃more,A6 b=some (.OP (ps++more))
section
variable{Ay NG ex afG:List A4}{H H1 AS:A8}{h h1 h2 h':Ar}{a x e:A4}{o:El}
def GH.any(u:GH Ay ex H H1 h h1){b:A4}{Bc:Obj}(q:h.get? b=some Bc)(n:H b=none)(AG:b∉ex):∃C9,h1.get? b=some { Bc with slots:=C9 }:=by
 by_cases A1:b∈Ay
 .exact u.slot b Bc q n A1 AG
 .exact⟨Bc.slots,u.keep b Bc q n A1 AG⟩
def GH.kept(k:∀b u,h.get? b=some u->h'.get? b=some u):GH Ay ex H H h h':=
 ⟨λb Bc q _ _ _=>k b Bc q,λb Bc q _ _ _=>⟨Bc.slots,k b Bc q⟩,λ_ _ _ n _=>n,λb Bc q _=>⟨Bc,k b Bc q⟩,λ_ _ q=>q,λ_ _ _ q=>q,λ_ ps q=>⟨#[],by rw[q];simp⟩⟩
def GH.refl:GH Ay ex H H h h:=GH.kept λ_ _ q=>q
def GH.laid(k:∀b u,h.get? b=some u->h'.get? b=some u)(AT:h.objs.size<=a)(AW:H a=none):GH Ay ex H (upd H a o) h h' where
 keep:=λb u q _ _ _=>k b u q
 slot:=λb u q _ _ _=>⟨u.slots,k b u q⟩
 free:=λb u q n _=>by rw[D2 (Ef (Fn (D3 q) AT))];exact n
 there:=λb u q _=>⟨u,k b u q⟩
 Kk:=λb xs q=>by rw[D2 (Kb q AW)];exact q
 JE:=λb u xs q=>by rw[D2 (Kb q AW)];exact q
 Kj:=λb ps q=>⟨#[],by rw[D2 (Kb q AW),q];simp⟩
def GH.write(Jh:U6 (H x))(he:e=x\/H e=some (.own x))(k:∀b u,b≠e->h.get? b=some u->h'.get? b=some u)(Se:∃u,h'.get? e=some u):GH Ay ex H (upd H x o) h h':=by
 have AG:∀b,H b=none->b≠x:=λb n z=>by subst z;rw[n]at Jh;exact Jh
 have A1:∀b,H b=none->b≠e:=λb n z=>by
  subst z;rcases he with r|r
  .exact AG b n r
  .rw[n]at r;cases r
 have hm:∀b u,H b=some u->¬U6 (some u)->b≠x:=λb u q nm z=>by subst z;rw[q]at Jh;exact nm Jh
 refine⟨λb u q n _ _=>k b u (A1 b n) q,λb u q n _ _=>⟨u.slots,k b u (A1 b n) q⟩,λb u q n _=>by rw[D2 (AG b n)];exact n,λb u q _=>?_,
  λb xs q=>by rw[D2 (hm b _ q λz=>z)];exact q,λb u xs q=>by rw[D2 (hm b _ q λz=>z)];exact q,λb ps q=>⟨#[],by rw[D2 (hm b _ q λz=>z),q];simp⟩⟩
 by_cases Md:b=e
 .subst Md;exact Se
 .exact⟨u,k b u Md q⟩
end
def Yf(h:Ar)(H:A8):List A4:=(Cd h.objs.size).filter λa=>(H a).isSome
def Nr(h:Ar)(H:A8):Ar:=Vu h (Yf h H)
def tM(h:Ar)(H:A8):(Nr h H).objs.size=h.objs.size:=PySem.W.hideAll_size _ _
def tL{h:Ar}{H:A8}{b:A4}{o:Obj}(e:h.get? b=some o)(n:H b=none):(Nr h H).get? b=some o:=
 pE _ e λhm=>by have q:(H b).isSome=true:=(List.mem_filter.mp hm).2;rw[n]at q;simp at q
def xY{h:Ar}{H:A8}{b:A4}{o:Obj}(e:(Nr h H).get? b=some o):h.get? b=some o/\H b=none:=by
 have BC:h.get? b=some o:=pF (Yf h H) e;refine⟨BC,?_⟩;cases q:H b with
 |none=>rfl
 |some x=>have hm:b∈Yf h H:=List.mem_filter.mpr ⟨List.mem_range.mpr (D3 BC),by simp[q]⟩;have z:(Nr h H).get? b=none:=PySem.W.hideAll_none (Yf h H) hm;rw[z]at e;cases e
def pq(g h:Ar)(L:A4):List (A4×Obj):=(Cd h.objs.size).filterMap λa=>if a=L\/(g.get? a).isSome=true then none else(h.get? a).map λo=>(a,o)
def rest(g h:Ar)(L d:A4):List (A4×Obj):=(pq g h L).filter λp=>decide (p.1≠d)
structure Mod(K:Ad)(mg:Str->Option A3)(base:Ar):Prop where
 Je:K.In base
 glob:base.Ns Fm mg
 blt:∃GZ,base.Ns builtinsNs GZ/\∀x:Str,x≠"__name__"->GZ x=NN x
 nolimit:base.NoLimit
structure Am where
 prog:Bh
 w:BP
 K:Ad
 mg:Str->Option A3
 base:Ar
 A:CW
 N:List Str
 Fl:AJ
 M0:A8
 env:Env
 outer:List Env
 stack:List Env
 ex:List A4
 fn:Str->Bool
 calm:Bool
 GN:List (A4×Obj)
 Ck:A3->AJ->Prop
def Ek(l:List Env):List A4:=l.filterMap (·.frame)
abbrev Am.Ay(X:Am):List A4:=Ek X.outer
def Wl(sc:Ey)(x:Str):Prop:=sc.names.lookup x=some .local\/sc.names.lookup x=some .cell\/sc.names.lookup x=some .free
def Loc(sc:Ey)(x:Str):Prop:=sc.names.lookup x=some .local\/sc.names.lookup x=some .cell
noncomputable def Look(env:Env)(h:Ar)(m:Str->Option A3)(x:Str)(u:A3):Prop:=
 (env.kindOf x=some .local/\m x=some u)\/((env.kindOf x=some .cell\/env.kindOf x=some .free)/\∃c,env.cells.lookup x=some c/\h.IsCell c (some u))
structure Am.Ok(X:Am):Prop where
 mod:Mod X.K X.mg X.base
 kind:X.env.scope.kind=.function
 glob:X.env.globals=Fm
 blt:X.env.builtins=builtinsNs
 above:X.Fl.heap.objs.size<=X.env.locals
 inj:∀x y c,X.env.cells.lookup x=some c->X.env.cells.lookup y=some c->x=y
 has:∀x,(X.env.kindOf x=some .cell\/X.env.kindOf x=some .free)->∃c,X.env.cells.lookup x=some c
 Tc:∀x c,X.fn x=true->X.env.cells.lookup x=some c->X.Fl.heap.objs.size<=c
 hd:X.calm=true->X.A.handled=none
 frames:X.A.frames=some X.stack
 ZG:X.stack=X.outer\/(X.stack=X.env::X.outer/\X.env.frame=some X.env.locals)
 fa:∀b∈X.ex,b≠X.env.locals/\∀x c,X.env.cells.lookup x=some c->c≠b
 bs:∀b o,X.base.get? b=some o->X.Fl.heap.get? b=some o/\X.M0 b=none
 P5:X.base.objs.size<=X.Fl.heap.objs.size
 RC:∀b o,X.base.get? b=some o->b∉X.ex
 Ww:∀b∈X.ex,b∉X.Ay
 JY:X.Fl.heap.FunFrames X.base X.outer
 Qh:∀b∈X.Ay,X.M0 b=none
structure Inv(X:Am)(pins:List (A4×Obj))(σ :List (Option V))(H:A8)(s:AJ):Prop where
 ok:X.Ok
 os:s.os=X.Fl.os
 bare:MU s.gens
 base:GH X.Ay X.ex X.M0 H X.Fl.heap s.heap
 loc:∃m,s.heap.Ns X.env.locals m/\∀(i:Nat)(x:Str)(v:V),X.N[i]?=some x-> σ[i]?=some (some v)->Wl X.env.scope x->∃u,RelV v u/\Look X.env s.heap m x u
 cell:∀x c,X.env.cells.lookup x=some c->∃v,s.heap.IsCell c v
 free:H X.env.locals=none
 LD:∀x c,X.env.cells.lookup x=some c->H c=none
 pin:∀p∈X.GN++pins,s.heap.get? p.1=some p.2/\H p.1=none/\p.1≠X.env.locals/\p.1∉X.Ay/\∀v,p.2.data≠.cell v
 Ax:E7 X.prog X.w X.K H s.heap
 len: σ.length=X.N.length
section
variable{X:Am}{pins:List (A4×Obj)}{σ :List (Option V)}{H A6:A8}{s:AJ}{h':Ar}
def Am.Ok.xl(ok:X.Ok){b:A4}{o:Obj}(e:X.base.get? b=some o):b∉X.Ay:=λA1=>by have:=(ok.JY.mem A1).1;rw[e]at this;cases this
theorem Inv.bs(I:Inv X pins σ H s):∀b o,X.base.get? b=some o->s.heap.get? b=some o/\H b=none:=λb o e=>
 ⟨I.base.keep b o (I.ok.bs b o e).1 (I.ok.bs b o e).2 (I.ok.xl e) (I.ok.RC b o e),I.base.free b o (I.ok.bs b o e).1 (I.ok.bs b o e).2 (I.ok.RC b o e)⟩
def Inv.BF(I:Inv X pins σ H s):∀b o,X.base.get? b=some o->s.heap.get? b=some o:=λb o e=>(I.bs b o e).1
theorem Inv.mod(I:Inv X pins σ H s):Mod X.K X.mg X.base:=I.ok.mod
def Inv.EH(I:Inv X pins σ H s):X.K.In s.heap:=I.ok.mod.Je.keeps I.BF
theorem Inv.lt(I:Inv X pins σ H s):X.env.locals<s.heap.objs.size:=let⟨_,AW,_⟩:=I.loc;AW.lt
def Inv.ZJ(I:Inv X pins σ H s):X.Fl.heap.objs.size<=s.heap.objs.size:=I8 I.ok.above (Q2 I.lt)
def Inv.xn(I:Inv X pins σ H s){a:A4}(h:s.heap.objs.size<=a):a∉X.Ay:=λA1=>by obtain⟨_,o,ho,_⟩:=I.ok.JY.mem A1;exact absurd (Fn (D3 ho) (I8 I.ZJ h)) (Iw _)
def Inv.Qc(I:Inv X pins σ H s):∀x c,X.env.cells.lookup x=some c->c≠X.env.locals:=λx c e z=>by obtain⟨v,o,ho,hd⟩:=I.cell x c e;obtain⟨m,⟨o',es,Ai,F9,JG,_⟩,_⟩:=I.loc;rw[z,F9]at ho;cases ho;rw[JG]at hd;cases hd
theorem Inv.JY(I:Inv X pins σ H s):s.heap.FunFrames X.base X.outer:=by
 have all:∀(l:List Env),(∀b∈Ek l,b∈X.Ay)->X.Fl.heap.FunFrames X.base l->s.heap.FunFrames X.base l:=by
  intro l;induction l with
  |nil=>intro _ _;trivial
  |cons env r Bk=>intro hs AF;obtain⟨AK,⟨L,o,hf,AW,ho,hd⟩,Ao⟩:=AF;have G3:L∈X.Ay:=hs L (by unfold Ek;rw[RR,hf];exact Fy);obtain⟨C9,e⟩:=I.base.slot L o ho (I.ok.Qh L G3) G3 λz=>I.ok.Ww L z G3;exact⟨AK,⟨L,_,hf,AW,e,hd⟩,Bk (λb A1=>hs b (by unfold Ek;rw[RR,hf];exact FD _ A1)) Ao⟩
 exact all X.outer (λ_ A1=>A1) I.ok.JY
theorem Inv.stack(I:Inv X pins σ H s):s.heap.FunFrames X.base X.stack:=by
 rcases I.ok.ZG with e|⟨e,hf⟩
 .rw[e];exact I.JY
 .rw[e];obtain⟨m,AW,_⟩:=I.loc;refine .cons (by rw[I.ok.kind];decide) hf AW ?_ I.JY;exact Heap.get?_none_of_le (I8 I.ok.P5 I.ok.above)
def Inv.ZH(I:Inv X pins σ H s):∀b∈Ek X.stack,b∈X.env.locals::X.Ay:=λb A1=>by
 rcases I.ok.ZG with e|⟨e,hf⟩
 .rw[e]at A1;exact FD _ A1
 .rw[e]at A1;unfold Ek at A1;rw[RR,hf]at A1;exact A1
def Inv.ah(I:Inv X pins σ H s):∀b∈Ek X.stack,H b=none:=λb A1=>by
 rcases List.mem_cons.mp (I.ZH b A1)with e|A1
 .rw[e];exact I.free
 .obtain⟨_,o,ho,_⟩:=I.ok.JY.mem A1;exact I.base.free b o ho (I.ok.Qh b A1) λz=>I.ok.Ww b z A1
def Inv.step{g':Array GenState}{t':Nat}{d':Drawn}{ch:List A4}(I:Inv X pins σ H s)(Me:∀b∈ch,(b∈X.ex\/X.Fl.heap.objs.size<=b)/\b≠X.env.locals/\(∀x c,X.env.cells.lookup x=some c->c≠b)/\∀p∈X.GN++pins,p.1≠b)(keep:∀b o,b≠X.env.locals->b∉X.Ay->b∉ch->s.heap.get? b=some o->H b=none->h'.get? b=some o)(slot:∀b o,b≠X.env.locals->b∈X.Ay->b∉ch->s.heap.get? b=some o->H b=none->∃C9,h'.get? b=some { o with slots:=C9 })(free:∀b o,b∉ch->s.heap.get? b=some o->H b=none->A6 b=none)(there:∀b o,b∉ch->s.heap.get? b=some o->∃o',h'.get? b=some o')(Kk:∀b xs,H b=some (.tup xs)->A6 b=some (.tup xs))(JE:∀b o u,H b=some (.EF o u)->A6 b=some (.EF o u))(Kj:∀b ps,H b=some (.OP ps)->∃more,A6 b=some (.OP (ps++more)))(ns:∀m,s.heap.Ns X.env.locals m->h'.Ns X.env.locals m)(Ax:E7 X.prog X.w X.K A6 h')(Aj:MU g') :
  Inv X pins σ A6 { s with heap:=h',gens:=g',drawn:=d',toks:=t' }:=by
 have ja:∀b o,X.Fl.heap.get? b=some o->b≠X.env.locals:=λb o e=>Ef (Fn (D3 e) I.ok.above);have Y9:∀b o,X.Fl.heap.get? b=some o->b∉X.ex->b∉ch:=λb o e AG A1=>by
  rcases(Me b A1).1 with z|z
  .exact AG z
  .exact absurd (Fn (D3 e) z) (Iw _)
 have cellK:∀x c,X.env.cells.lookup x=some c->∀v,s.heap.IsCell c v->h'.IsCell c v:=λx c e v⟨o,ho,hd⟩=>by
  have Uj:c∉ch:=λz=>(Me c z).2.2.1 x c e rfl;by_cases AD:c∈X.Ay
  .obtain⟨C9,q⟩:=slot c o (I.Qc x c e) AD Uj ho (I.LD x c e);exact⟨_,q,hd⟩
  .exact⟨o,keep c o (I.Qc x c e) AD Uj ho (I.LD x c e),hd⟩
 refine⟨I.ok,I.os,Aj,⟨λb o e n A1 AG=>?_,λb o e n A1 AG=>?_,λb o e n AG=>?_,λb o e AG=>?_,λb xs e=>Kk b xs (I.base.Kk b xs e),λb o xs e=>JE b o xs (I.base.JE b o xs e),λb ps e=>?_⟩,?_,λx c e=>?_,?_,λx c e=>?_,λp AT=>?_,Ax,I.len⟩
 .exact keep b o (ja b o e) A1 (Y9 b o e AG) (I.base.keep b o e n A1 AG) (I.base.free b o e n AG)
 .obtain⟨C9,A9⟩:=I.base.slot b o e n A1 AG;obtain⟨aaL,AE⟩:=slot b _ (ja b o e) A1 (Y9 b o e AG) A9 (I.base.free b o e n AG);exact⟨aaL,AE⟩
 .obtain⟨o',A9⟩:=I.base.there b o e AG;exact free b o' (Y9 b o e AG) A9 (I.base.free b o e n AG)
 .obtain⟨o',A9⟩:=I.base.there b o e AG;exact there b o' (Y9 b o e AG) A9
 .obtain⟨GY,A9⟩:=I.base.Kj b ps e;obtain⟨HA,AE⟩:=Kj b _ A9;exact⟨GY++HA,by rw[AE,Array.append_assoc]⟩
 .obtain⟨m,AW,AF⟩:=I.loc;refine⟨m,ns m AW,λi x v A9 AE Er=>?_⟩;obtain⟨u,r,l⟩:=AF i x v A9 AE Er;refine⟨u,r,?_⟩;rcases l with l|⟨k,c,e,z⟩
  .exact .inl l
  .exact .inr ⟨k,c,e,cellK x c e _ z⟩
 .obtain⟨v,z⟩:=I.cell x c e;exact⟨v,cellK x c e v z⟩
 .obtain⟨m,⟨o,_,_,ho,_⟩,_⟩:=I.loc;exact free _ o (λz=>(Me _ z).2.1 rfl) ho I.free
 .obtain⟨v,o,ho,hd⟩:=I.cell x c e;exact free c o (λz=>(Me c z).2.2.1 x c e rfl) ho (I.LD x c e)
 .obtain⟨e,n,ne,Ms,d⟩:=I.pin p AT;have Uj:p.1∉ch:=λz=>(Me p.1 z).2.2.2 p AT rfl;exact⟨keep p.1 p.2 ne Ms Uj e n,free p.1 p.2 Uj e n,ne,Ms,d⟩
def Inv.un{t':Nat}(I:Inv X pins σ H s)(u:GH X.Ay [] H A6 s.heap h')(Ax:E7 X.prog X.w X.K A6 h'):Inv X pins σ A6 { s with heap:=h',toks:=t' }:=by
 obtain⟨m,⟨o,es,Ai,ho,r⟩,_⟩:=id I.loc;obtain⟨C9,G3⟩:=u.any ho I.free (by simp);exact I.step (g':=s.gens) (d':=s.drawn) (ch:=[]) (λ_ z=>nomatch z) (λb o _ A1 _ e n=>u.keep b o e n A1 (by simp)) (λb o _ A1 _ e n=>u.slot b o e n A1 (by simp)) (λb o _ e n=>u.free b o e n (by simp)) (λb o _ e=>u.there b o e (by simp)) u.Kk u.JE u.Kj (λCb hm=>by obtain⟨o',es',Nj,F9,BK⟩:=hm;rw[ho]at F9;cases F9;exact⟨_,es',Nj,G3,BK⟩) Ax I.bare
def Inv.call{g':Array GenState}{t':Nat}{d':Drawn}{ch:List A4}(I:Inv X pins σ H s)(u:GH (Ek X.stack) ch H A6 s.heap h')(Ax:E7 X.prog X.w X.K A6 h')(Aj:MU g')(Me:∀b∈ch,(b∈X.ex\/X.Fl.heap.objs.size<=b)/\b≠X.env.locals/\(∀x c,X.env.cells.lookup x=some c->c≠b)/\∀p∈X.GN++pins,p.1≠b) :
  Inv X pins σ A6 { s with heap:=h',gens:=g',drawn:=d',toks:=t' }:=by
 obtain⟨m,⟨o,es,Ai,ho,r⟩,_⟩:=id I.loc;obtain⟨C9,G3⟩:=u.any ho I.free λz=>(Me _ z).2.1 rfl;exact I.step (ch:=ch) Me (λb o G3 A1 AD e n=>u.keep b o e n (λz=>(List.mem_cons.mp (I.ZH b z)).elim G3 A1) AD) (λb o _ _ AD e n=>u.any e n AD) (λb o AD e n=>u.free b o e n AD) (λb o AD e=>u.there b o e AD) u.Kk u.JE u.Kj (λCb hm=>by obtain⟨o',es',Nj,F9,BK⟩:=hm;rw[ho]at F9;cases F9;exact⟨_,es',Nj,G3,BK⟩) Ax Aj
def Inv.turned{t':Nat}{it:A4}(I:Inv X pins σ H s)(k:∀b o,b≠it->s.heap.get? b=some o->h'.get? b=some o)(AW:H it=none)(G3:it≠X.env.locals)(h1:it∈X.ex\/X.Fl.heap.objs.size<=it)(h2:∀x c,X.env.cells.lookup x=some c->c≠it)(B2:∀p∈X.GN++pins,p.1≠it):Inv X pins σ H { s with heap:=h',toks:=t' }:=by
 have Ox:∀b u,H b=some u->b≠it:=λb u e z=>by rw[z,AW]at e;cases e
 refine I.step (g':=s.gens) (d':=s.drawn) (ch:=[it]) (λb A1=>?_) (λb o _ _ AD e _=>k b o (λz=>AD (by simp[z])) e) (λb o _ _ AD e _=>⟨o.slots,k b o (λz=>AD (by simp[z])) e⟩) (λ_ _ _ _ n=>n)
  (λb o AD e=>⟨o,k b o (λz=>AD (by simp[z])) e⟩) (λ_ _ e=>e) (λ_ _ _ e=>e) (λb ps e=>⟨#[],by rw[e];simp⟩) (λm hm=>?_) (λb u e=>?_) I.bare
 .have e:b=it:=by simpa using A1
  subst e;exact⟨h1,G3,h2,B2⟩
 .obtain⟨o,es,Ai,ho,r⟩:=hm;exact⟨o,es,Ai,k _ o (Ku G3) ho,r⟩
 .refine(I.Ax b u e).Mx (λc v AD q=>k c v ?_ q) (λ_ q=>q) λ_ _ q=>q;rcases AD with z|z
  .rw[z];exact Ox b u e
  .exact Ox c _ z
def Inv.tok(I:Inv X pins σ H s)(t:Nat):Inv X pins σ H { s with toks:=t }:=I.un (h':=s.heap) (t':=t) GH.refl I.Ax
theorem Inv.kept{t':Nat}(I:Inv X pins σ H s)(k:∀b u,s.heap.get? b=some u->h'.get? b=some u):Inv X pins σ H { s with heap:=h',toks:=t' }:=I.un (GH.kept k) (I.Ax.kept k)
theorem Inv.laid{a:A4}{o:El}{t':Nat}(I:Inv X pins σ H s)(k:∀b u,s.heap.get? b=some u->h'.get? b=some u)(AT:s.heap.objs.size<=a)(new:Ds X.prog X.w X.K (upd H a o) h' a o) :
  Inv X pins σ (upd H a o) { s with heap:=h',toks:=t' }:=I.un (GH.laid k AT (I.Ax.fresh AT)) (I.Ax.laid k AT new)
theorem Inv.write{x e:A4}{o:El}{t':Nat}(I:Inv X pins σ H s)(Jh:U6 (H x))(he:e=x\/H e=some (.own x))(k:∀b u,b≠e->s.heap.get? b=some u->h'.get? b=some u)(Se:∃u,h'.get? e=some u)(new:Ds X.prog X.w X.K (upd H x o) h' x o):Inv X pins σ (upd H x o) { s with heap:=h',toks:=t' }:=I.un (GH.write Jh he k Se) (I.Ax.write Jh he k Se new)
def Inv.iw{iv:List (A4×Obj)}(I:Inv X pins σ H s)(h:∀p∈iv,s.heap.get? p.1=some p.2/\H p.1=none/\p.1≠X.env.locals/\p.1∉X.Ay/\∀v,p.2.data≠.cell v):Inv X iv σ H s:=
 ⟨I.ok,I.os,I.bare,I.base,I.loc,I.cell,I.free,I.LD,λp AT=>(List.mem_append.mp AT).elim (λz=>I.pin p (Hp _ z)) (h p),I.Ax,I.len⟩
def je{N:List Str}(hN:N.Nodup){i j:Nat}{x:Str}(a:N[i]?=some x)(b:N[j]?=some x):i=j:=by obtain⟨h1,A9⟩:=List.getElem?_eq_some_iff.mp a;obtain⟨h2,AE⟩:=List.getElem?_eq_some_iff.mp b;exact(W4 hN).mp (A9.trans AE.symm)
def lx{M:Model}{A:CW}{E:A3->AJ->Prop}{i:Nat}{x:Str}{v:V}{u:A3}{Q:Unit->AJ->Prop}(I:Inv X pins σ H s)(hN:X.N.Nodup)(A7:X.N[i]?=some x)(AG:Loc X.env.scope x)(r:RelV v u)(h:∀s',Inv X pins (σ.set i (some v)) H s'->(∃a,Hm a s.heap s'.heap/\(a=X.env.locals\/X.env.cells.lookup x=some a))->Q () s')(hf:X.fn x=true\/X.env.scope.names.lookup x=some .local:=by first|exact .inl rfl|exact .inr rfl|assumption):AV M A (storeName X.env x u) Q E s:=by
 obtain⟨m,AW,AF⟩:=id I.loc;have te:(X.env.scope.kind==.class||(X.env.scope.kind==.module&&X.env.locals !=X.env.globals))=false:=by rw[I.ok.kind];rfl
 have A7σ :i< σ.length:=by rw[I.len];exact(List.getElem?_eq_some_iff.mp A7).1
 have Qc:=I.Qc;have tracked:∀{a:A4}{h':Ar},(∃o,s.heap.get? a=some o/\H a=none)->Hm a s.heap h'->E7 X.prog X.w X.K H h':=λ{a h'} AB hs b Bc e=>by
  obtain⟨_,_,X8⟩:=AB;refine(I.Ax b Bc e).Mx (λc CD AD q=>(hs.2 c ?_).trans q) (λ_ q=>q) λ_ _ q=>q;rintro rfl;rcases AD with rfl|AD
  .rw[X8]at e;cases e
  .rw[X8]at AD;cases AD
 rcases AG with AK|AK
 .refine wpAny_storeName_local AK AW (λh' Zt hs=>?_) te;obtain⟨xS,_,_,vA,_⟩:=id AW;refine h _ ⟨I.ok,I.os,I.bare,⟨λb o e n A1 AG=>?_,λb o e n A1 AG=>?_,I.base.free,λb o e AG=>?_,I.base.Kk,I.base.JE,I.base.Kj⟩,⟨_,Zt,λj y I4 A9 AE Er=>?_⟩,λy c e=>?_,I.free,I.LD,λp AT=>?_,tracked ⟨xS,vA,I.free⟩ hs,by simpa using I.len⟩ ⟨_,hs,.inl rfl⟩
  .exact(hs.2 b (Ef (Fn (D3 e) I.ok.above))).trans (I.base.keep b o e n A1 AG)
  .obtain⟨C9,A9⟩:=I.base.slot b o e n A1 AG;exact⟨C9,(hs.2 b (Ef (Fn (D3 e) I.ok.above))).trans A9⟩
  .obtain⟨o',A9⟩:=I.base.there b o e AG;exact⟨o',(hs.2 b (Ef (Fn (D3 e) I.ok.above))).trans A9⟩
  .by_cases Af:j=i
   .subst Af;rw[A7]at A9;cases A9;rw[JQ A7σ]at AE;cases AE;exact⟨u,r,.inl ⟨AK,by simp⟩⟩
   .rw[Lf (Ku Af)]at AE;obtain⟨II,BK,q⟩:=AF j y I4 A9 AE Er;refine⟨II,BK,?_⟩;rcases q with⟨k,e⟩|⟨k,c,e,z⟩
    .refine .inl ⟨k,?_⟩;have:y≠x:=λe=>Af (je hN A9 (e▸A7));simp[this,e]
    .exact .inr ⟨k,c,e,z.sameBut hs (Qc y c e)⟩
  .obtain⟨CD,z⟩:=I.cell y c e;exact⟨CD,z.sameBut hs (Qc y c e)⟩
  .obtain⟨e,n,ne,Ms,d⟩:=I.pin p AT;exact⟨(hs.2 p.1 ne).trans e,n,ne,Ms,d⟩
 .have db:X.fn x=true:=by
    rcases hf with z|z
    .exact z
    .rw[z]at AK;cases AK
  obtain⟨c,AD⟩:=I.ok.has x (.inl AK);obtain⟨CD,z⟩:=I.cell x c AD;refine wpAny_storeName_cell I.ok.kind AK AD z (λh' MC hs=>?_);obtain⟨Fu,hC,vD⟩:=id z;refine h { s with heap:=h' } ⟨I.ok,I.os,I.bare,⟨λb o e n A1 AG=>?_,λb o e n A1 AG=>?_,I.base.free,λb o e AG=>?_,I.base.Kk,I.base.JE,I.base.Kj⟩,⟨m,AW.sameBut hs (Ku (Qc x c AD)),λj y I4 A9 AE Er=>?_⟩,λy F7 e=>?_,I.free,I.LD,λp AT=>?_,tracked ⟨Fu,hC,I.LD x c AD⟩ hs,by simpa using I.len⟩ ⟨c,hs,.inr AD⟩
  .exact(hs.2 b (Ef (Fn (D3 e) (I.ok.Tc x c db AD)))).trans (I.base.keep b o e n A1 AG)
  .obtain⟨C9,A9⟩:=I.base.slot b o e n A1 AG;exact⟨C9,(hs.2 b (Ef (Fn (D3 e) (I.ok.Tc x c db AD)))).trans A9⟩
  .obtain⟨o',A9⟩:=I.base.there b o e AG;exact⟨o',(hs.2 b (Ef (Fn (D3 e) (I.ok.Tc x c db AD)))).trans A9⟩
  .by_cases Af:j=i
   .subst Af;rw[A7]at A9;cases A9;rw[JQ A7σ]at AE;cases AE;exact⟨u,r,.inr ⟨.inl AK,c,AD,MC⟩⟩
   .rw[Lf (Ku Af)]at AE;obtain⟨II,BK,q⟩:=AF j y I4 A9 AE Er;refine⟨II,BK,?_⟩;rcases q with q|⟨k,F7,e,FK⟩
    .exact .inl q
    .refine .inr ⟨k,F7,e,FK.sameBut hs ?_⟩;rintro rfl;exact Af (je hN A9 (I.ok.inj _ _ _ e AD▸A7))
  .by_cases gv:F7=c
   .subst gv;exact⟨_,MC⟩
   .obtain⟨Gg,F5⟩:=I.cell y F7 e;exact⟨Gg,F5.sameBut hs gv⟩
  .obtain⟨e,n,ne,Ms,d⟩:=I.pin p AT;refine⟨(hs.2 p.1 ?_).trans e,n,ne,Ms,d⟩;intro q;rw[q,hC]at e;have Cc:Fu=p.2:=Fd e;exact d CD (by rw[<-Cc];exact vD)
def lu{M:Model}{A:CW}{E:A3->AJ->Prop}{i:Nat}{x:Str}{v:V}{u:A3}{Q:Unit->AJ->Prop}(I:Inv X pins σ H s)(hN:X.N.Nodup)(A7:X.N[i]?=some x)(AG:Loc X.env.scope x)(r:RelV v u)(h:∀s',Inv X pins (σ.set i (some v)) H s'->Q () s')(hf:X.fn x=true\/X.env.scope.names.lookup x=some .local:=by first|exact .inl rfl|exact .inr rfl|assumption):AV M A (storeName X.env x u) Q E s:=
 lx I hN A7 AG r (λs' D0 _=>h s' D0) hf
def Inv.qO{s':AJ}{ch:List A4}(I:Inv X pins σ H s)(ho:s'.os=s.os)(u:GH (Ek X.stack) ch H A6 s.heap s'.heap)(Ax:E7 X.prog X.w X.K A6 s'.heap)(Aj:MU s'.gens)(Me:∀b∈ch,(b∈X.ex\/X.Fl.heap.objs.size<=b)/\b≠X.env.locals/\(∀x c,X.env.cells.lookup x=some c->c≠b)/\∀p∈X.GN++pins,p.1≠b):Inv X pins σ A6 s':=by obtain⟨h',g',d',t',o'⟩:=s';have e:o'=s.os:=ho;subst e;exact I.call (g':=g') (t':=t') (d':=d') u Ax Aj Me
end
abbrev FT:=A3->Option A4->A8->Prop
abbrev St:=List (Option V)
abbrev CA:=V->A8->Prop
abbrev TE:=St->A8->CA->Prop
abbrev TT:=St->A8->(Bool->A8->Prop)->Prop
abbrev FM:=St->A8->(List V->A8->Prop)->Prop
structure Ends where
 AP:St->A8->Prop
 Do:CA
 BF:St->A8->Prop:=λ_ _=>False
 Cv:St->A8->Prop:=λ_ _=>False
abbrev F6:=Ends->St->A8->Prop
def Gs(X:Am)(pins:List (A4×Obj))(σ :St)(Q:CA)(u:A3)(s':AJ):Prop:=∃v A6,Inv X pins σ A6 s'/\RelV v u/\Q v A6
def Wk(X:Am)(pins:List (A4×Obj))(σ :St)(Q:Bool->A8->Prop)(b:Bool)(s':AJ):Prop:=∃A6,Inv X pins σ A6 s'/\Q b A6
def q0(X:Am)(pins:List (A4×Obj))(σ :St)(Q:List V->A8->Prop)(us:List A3)(s':AJ):Prop:=∃vs A6,Inv X pins σ A6 s'/\Vals vs us/\Q vs A6
noncomputable def P_(X:Am)(pins:List (A4×Obj))(D:Ends)(f:Flow)(s':AJ):Prop:=
 match f with
 |.next=>∃ σ' A6,Inv X pins σ' A6 s'/\D.AP σ' A6
 |.brk=>∃ σ' A6,Inv X pins σ' A6 s'/\D.BF σ' A6
 |.cont=>∃ σ' A6,Inv X pins σ' A6 s'/\D.Cv σ' A6
 |.ret u=>∃v σ' A6,Inv X pins σ' A6 s'/\RelV v u/\D.Do v A6
def Ae(X:Am)(e:At)(t:TE):Prop:=
 ∀(pins:List (A4×Obj))(s:AJ)(σ :St)(H:A8)(Q:CA),Inv X pins σ H s->t σ H Q->AV (Al X.prog X.w) X.A (Bb e X.env) (Gs X pins σ Q) X.Ck s
noncomputable def E8(X:Am)(e:At)(t:TT):Prop:=
 ∀(pins:List (A4×Obj))(s:AJ)(σ :St)(H:A8)(Q:Bool->A8->Prop),Inv X pins σ H s->t σ H Q->AV (Al X.prog X.w) X.A (isTrue e X.env (Bb e X.env)) (Wk X pins σ Q) X.Ck s
noncomputable def J2(X:Am)(e:At)(t:TT):Prop:=
 ∀(whole:Sem A3)(pins:List (A4×Obj))(s:AJ)(σ :St)(H:A8)(Q:Bool->A8->Prop),Inv X pins σ H s->t σ H Q->AV (Al X.prog X.w) X.A (isTrue e X.env whole) (Wk X pins σ Q) X.Ck s
def J2.pt{X:Am}{e:At}{t:TT}(h:J2 X e t):E8 X e t:=h _
noncomputable def Gv(X:Am)(es:List At)(t:FM):Prop:=
 ∀(pos:Pos)(pins:List (A4×Obj))(s:AJ)(σ :St)(H:A8)(Q:List V->A8->Prop),Inv X pins σ H s->t σ H Q->AV (Al X.prog X.w) X.A (spliced (GO pos (CJ es X.env))) (q0 X pins σ Q) X.Ck s
def DL(X:Am)(st:BM)(t:F6):Prop:=
 ∀(pins:List (A4×Obj))(s:AJ)(σ :St)(H:A8)(D:Ends),Inv X pins σ H s->t D σ H->AV (Al X.prog X.w) X.A (exec st X.env) (P_ X pins D) X.Ck s
def H4(X:Am)(st:List BM)(t:F6):Prop:=
 ∀(pins:List (A4×Obj))(s:AJ)(σ :St)(H:A8)(D:Ends),Inv X pins σ H s->t D σ H->AV (Al X.prog X.w) X.A (execs st X.env) (P_ X pins D) X.Ck s
def BG{α:Type}{t:Sem α}{Q Hv:α->AJ->Prop}{M:Model}{A:CW}{E:A3->AJ->Prop}{s:AJ}(h:AV M A t Q E s)(Dt:∀a s,Q a s->Hv a s):AV M A t Hv E s:=I9 h Dt λ_ _ x=>x
section
variable{X:Am}
def bin{a b:At}{Be tb:TE}(AB:Ae X a Be)(A1:Ae X b tb){pins:List (A4×Obj)}{s:AJ}{σ :St}{H:A8}{R:V->V->A8->Prop}(I:Inv X pins σ H s)(h:Be σ H λx H1=>tb σ H1 λy AS=>R x y AS){α:Type}{Q:α->AJ->Prop}{f:A3->A3->Sem α}(hf:∀v u s2 x y AS,Inv X pins σ AS s2->RelV x v->RelV y u->R x y AS->AV (Al X.prog X.w) X.A (f v u) Q X.Ck s2) :
  AV (Al X.prog X.w) X.A (Bb a X.env) (λv CY=>AV (Al X.prog X.w) X.A (Bb b X.env) (λu IW=>AV (Al X.prog X.w) X.A (f v u) Q X.Ck IW) X.Ck CY) X.Ck s:=by
 refine BG (AB pins s σ H _ I h) λv s1⟨x,H1,Ab,Ak,q1⟩=>?_;refine BG (A1 pins s1 σ H1 _ Ab q1) λu s2⟨y,AS,BU,B6,q2⟩=>?_;exact hf v u s2 x y AS BU Ak B6 q2
def o6(i:Nat):TE:=λσ H Q=>∃v,σ[i]?=some (some v)/\Q v H
def Pj(v:V):TE:=λ_ H Q=>Q v H
def zz{i:Nat}{x:Str}{pos:Pos}(hN:X.N[i]?=some x)(BB:Wl X.env.scope x)(hd:(x==("__debug__" :Str))=false:=by decide)(KR:(x==("__classdict__" :Str))=false:=by decide):Ae X (.Name x pos) (o6 i):=by
 intro pins s σ H Q I h;obtain⟨v,e,h⟩:=h;obtain⟨m,AW,AF⟩:=I.loc;obtain⟨u,r,l⟩:=AF i x v hN e BB;have fin:Gs X pins σ Q u s:=⟨v,H,I,r,h⟩;rcases l with⟨AK,hm⟩|⟨AK,c,AD,gw⟩
 .exact wpAny_Name (wpAny_loadName_local I.ok.kind AK AW hm fin) hd
 .rcases AK with AK|AK
  .exact wpAny_Name (wpAny_loadName_cell I.ok.kind AK AD gw fin) hd
  .exact wpAny_Name (wpAny_loadName_free I.ok.kind AK AD gw fin KR) hd
def yK{i j pos}:Ae X (.Constant (.int i) j pos) (Pj (.int i)):=λ_ _ _ H _ I h=>wpAny_Constant_int ⟨.int i,H,I.tok _,⟨_,rfl⟩,h⟩
def yh{b j pos}:Ae X (.Constant (.bool b) j pos) (Pj (.AM b)):=λ_ _ _ H _ I h=>Constant_bool ⟨.AM b,H,I,rfl,h⟩
def zr{j pos}:Ae X (.Constant .none j pos) (Pj .non):=λ_ _ _ H _ I h=>Constant_none ⟨.non,H,I,rfl,h⟩
def jO{x j pos}:Ae X (.Constant (.str x) j pos) (Pj (.str x)):=λ_ _ _ H _ I h=>Calls.Constant_str ⟨.str x,H,I.tok _,⟨_,rfl⟩,h⟩
def EJ(X:Am)(x:Str):Prop:=X.env.kindOf x=some .globalImplicit
def Xt{E:A3->AJ->Prop}{pins:List (A4×Obj)}{s:AJ}{σ :St}{H:A8}{x:Str}{u:A3}{pos:Pos}{Q:A3->AJ->Prop}(I:Inv X pins σ H s)(Aj:EJ X x)(hm:X.mg x=some u)(h:Q u s)(hd:(x==("__debug__" :Str))=false:=by decide):AV (Al X.prog X.w) X.A (Bb (.Name x pos) X.env) Q E s:=
 oR I.ok.kind Aj (Calls.loadGlobal_global (by rw[I.ok.glob];exact I.mod.glob.keeps I.BF) hm h) hd
def Nx{E:A3->AJ->Prop}{pins:List (A4×Obj)}{s:AJ}{σ :St}{H:A8}{x:Str}{u:A3}{pos:Pos}{Q:A3->AJ->Prop}(I:Inv X pins σ H s)(Aj:EJ X x)(hm:X.mg x=none)(BB:NN x=some u)(h:Q u s)(AW:x≠"__name__":=by decide)(hd:(x==("__debug__" :Str))=false:=by decide):AV (Al X.prog X.w) X.A (Bb (.Name x pos) X.env) Q E s:=by obtain⟨GZ,h1,h2⟩:=I.mod.blt;exact oR I.ok.kind Aj (Calls.loadGlobal_builtin (by rw[I.ok.glob];exact I.mod.glob.keeps I.BF) hm (by rw[I.ok.blt];exact h1.keeps I.BF) ((h2 x AW).trans BB) h) hd
def yI{x:Str}{v:V}{u:A3}{pos:Pos}(Aj:EJ X x)(hm:X.mg x=some u)(r:RelV v u)(hd:(x==("__debug__" :Str))=false:=by decide):Ae X (.Name x pos) (Pj v):=
 λ_ _ _ H _ I h=>Xt I Aj hm ⟨v,H,I,r,h⟩ hd
def yi{x:Str}{v:V}{u:A3}{pos:Pos}(Aj:EJ X x)(hm:X.mg x=none)(BB:NN x=some u)(r:RelV v u)(AW:x≠"__name__":=by decide)(hd:(x==("__debug__" :Str))=false:=by decide):Ae X (.Name x pos) (Pj v):=
 λ_ _ _ H _ I h=>Nx I Aj hm BB ⟨v,H,I,r,h⟩ AW hd
variable{a b:At}{Be tb:TE}{pos:Pos}
noncomputable def pW(X:Am)(op:CmpOp)(a b:At)(t:TE):Prop:=
 ∀(pins:List (A4×Obj))(s:AJ)(σ :St)(H:A8)(Q:CA),Inv X pins σ H s->t σ H Q->
  AV (Al X.prog X.w) X.A (Bb a X.env) (λv CY=>AV (Al X.prog X.w) X.A (Bb b X.env) (λu IW=>AV (Al X.prog X.w) X.A (Fb op v u) (Gs X pins σ Q) X.Ck IW) X.Ck CY) X.Ck s
def xk(b:At){op:CmpOp}(h:op≠.In)(h2:op≠.NotIn):Lg op b=false:=by
 have A9:(op==CmpOp.In)=false:=by cases op<;>first|rfl|exact absurd rfl h
 have AE:(op==CmpOp.NotIn)=false:=by cases op<;>first|rfl|exact absurd rfl h2
 cases b<;>simp[Lg,A9,AE]
def ak(t:TE):TT:=λσ H Q=>t σ H λx H1=>∃c,x=.AM c/\Q c H1
def afk{op:CmpOp}{t:TE}(h:pW X op a b t)(h1:Lg op b=false:=by first|exact xk _ (by decide) (by decide)|rfl):E8 X (.Compare a [op] [b] pos) (ak t):=by intro pins s σ H Q I hw;refine wpAny_isTrue_Compare1 (BG (h pins s σ H _ I hw) λv s1 h1=>BG h1 λu s2 h2=>BG h2 λc s3⟨x,H1,Ab,Ak,q1⟩=>?_) h1;obtain⟨d,rfl,q⟩:=q1;cases Ak;exact Ko ⟨H1,Ab,q⟩
def zJ{e:At}{t:TE}(h:Ae X e t)(he:∀whole,isTrue e X.env whole=(do let v <-whole;NQ e.pos;JU [v] (truthy v)):=by intro _;rfl):E8 X e (ak t):=by intro pins s σ H Q I hw;refine isTrue_plain (BG (h pins s σ H _ I hw) λv s1⟨x,H1,Ab,Ak,q1⟩=>?_) (he _);obtain⟨d,rfl,q⟩:=q1;cases Ak;exact Ko ⟨H1,Ab,q⟩
variable{GC Y_:TT}{rest:List At}
def m2(t u:TT):TT:=λσ H Q=>t σ H λc H1=>if c=true then u σ H1 Q else Q false H1
def nu(t u:TT):TT:=λσ H Q=>t σ H λc H1=>if c=true then Q true H1 else u σ H1 Q
def nr(t:TT):TT:=λσ H Q=>t σ H λc H1=>Q (!c) H1
def zO(AB:E8 X a GC):J2 X (.BoolOp .And [a] pos) GC:=by
 intro OV pins s σ H Q I h;refine isTrue_and (BG (AB pins s σ H Q I h) λc s1 e=>?_);cases c with
 |true=>exact isTrue_and_nil e
 |false=>exact e
def zQ(AB:E8 X a GC):J2 X (.BoolOp .Or [a] pos) GC:=by
 intro OV pins s σ H Q I h;refine isTrue_or (BG (AB pins s σ H Q I h) λc s1 e=>?_);cases c with
 |false=>exact isTrue_or_nil e
 |true=>exact e
def zN(AB:E8 X a GC)(A1:J2 X (.BoolOp .And (b::rest) pos) Y_):J2 X (.BoolOp .And (a::b::rest) pos) (m2 GC Y_):=by
 intro OV pins s σ H Q I h;refine isTrue_and (BG (AB pins s σ H _ I h) λc s1⟨H1,Ab,q1⟩=>?_);cases c with
 |true=>exact A1 OV pins s1 σ H1 Q Ab q1
 |false=>exact⟨H1,Ab,q1⟩
def zP(AB:E8 X a GC)(A1:J2 X (.BoolOp .Or (b::rest) pos) Y_):J2 X (.BoolOp .Or (a::b::rest) pos) (nu GC Y_):=by
 intro OV pins s σ H Q I h;refine isTrue_or (BG (AB pins s σ H _ I h) λc s1⟨H1,Ab,q1⟩=>?_);cases c with
 |true=>exact⟨H1,Ab,q1⟩
 |false=>exact A1 OV pins s1 σ H1 Q Ab q1
def zI(AB:E8 X a GC):E8 X (.UnaryOp .Not a pos) (nr GC):=by intro pins s σ H Q I h;exact isTrue_not (AB pins s σ H (λc H1=>Q (!c) H1) I h)
def m3(Be tb:TE):TE:=λσ H Q=>Be σ H λx H1=>∃c,x=.AM c/\if c=true then tb σ H1 Q else Q (.AM false) H1
def nv(Be tb:TE):TE:=λσ H Q=>Be σ H λx H1=>∃c,x=.AM c/\if c=true then Q (.AM true) H1 else tb σ H1 Q
def nt(Be:TE):TE:=λσ H Q=>Be σ H λx H1=>∃c,x=.AM c/\Q (.AM (!c)) H1
def zu{op}{t:TE}(h:Ae X a t):Ae X (.BoolOp op [a] pos) t:=λpins s σ H Q I hw=>BoolOp_one (h pins s σ H Q I hw)
def yg(AB:Ae X a Be)(A1:Ae X (.BoolOp .And (b::rest) pos) tb):Ae X (.BoolOp .And (a::b::rest) pos) (m3 Be tb):=by
 intro pins s σ H Q I h;refine BoolOp_and (BG (AB pins s σ H _ I h) λv s1⟨x,H1,Ab,Ak,q1⟩=>?_);obtain⟨c,rfl,q1⟩:=q1;cases Ak;refine Ko ?_;cases c with
 |true=>exact A1 pins s1 σ H1 Q Ab q1
 |false=>exact⟨.AM false,H1,Ab,rfl,q1⟩
def zv(AB:Ae X a Be)(A1:Ae X (.BoolOp .Or (b::rest) pos) tb):Ae X (.BoolOp .Or (a::b::rest) pos) (nv Be tb):=by
 intro pins s σ H Q I h;refine BoolOp_or (BG (AB pins s σ H _ I h) λv s1⟨x,H1,Ab,Ak,q1⟩=>?_);obtain⟨c,rfl,q1⟩:=q1;cases Ak;refine Ko ?_;cases c with
 |false=>exact A1 pins s1 σ H1 Q Ab q1
 |true=>exact⟨.AM true,H1,Ab,rfl,q1⟩
def zt(AB:Ae X a Be):Ae X (.UnaryOp .Not a pos) (nt Be):=by intro pins s σ H Q I h;refine UnaryOp_ (BG (AB pins s σ H _ I h) λv s1⟨x,H1,Ab,Ak,q1⟩=>?_);obtain⟨c,rfl,q1⟩:=q1;cases Ak;exact not_of (Ko ⟨.AM (!c),H1,Ab,rfl,q1⟩)
def ng(t:TT)(Be tb:TE):TE:=λσ H Q=>t σ H λc H1=>if c=true then Be σ H1 Q else tb σ H1 Q
def yJ{c:At}(AD:E8 X c GC)(AB:Ae X a Be)(A1:Ae X b tb):Ae X (.IfExp c a b pos) (ng GC Be tb):=by
 intro pins s σ H Q I h;refine wpAny_IfExp (BG (AD pins s σ H _ I h) λd s1⟨H1,Ab,q1⟩=>?_);cases d with
 |true=>exact AB pins s1 σ H1 Q Ab q1
 |false=>exact A1 pins s1 σ H1 Q Ab q1
end
noncomputable def EL(K:Ad)(H:A8)(a:A4)(xs:List V):Prop:=
 J3 H a (.lst xs)\/
  ∃(o:Obj)(its:Array A3)(n:Nat),K.lookup a=some o/\o.cls=.type "list"/\o.dict=none/\o.data=.seq its n/\its.size<=Bu/\Vals xs its.toList
noncomputable def EM(K:Ad)(H:A8)(a:A4)(xs:List V):Prop:=
 J3 H a (.tup xs)\/
  ∃(o:Obj)(its:Array A3)(n:Nat),K.lookup a=some o/\o.cls=.type "tuple"/\o.data=.seq its n/\its.size<=Bu/\Vals xs its.toList
noncomputable def pe:A3->Option V
 |.none=>some .non
 |.bool b=>some (.AM b)
 |.int i _=>some (.int i)
 |.str x _=>some (.str x)
 |.bytes b _=>some (.P6 b)
 |.float b _=>some (.Qf b)
 |.ref a=>some (.ref a)
 |.type n=>some (.ty n)
 |_=>none
def RelV.abs{x:V}{u:A3}(r:RelV x u):pe u=some x:=by
 cases x with
 |non=>cases r;rfl
 |AM _=>cases r;rfl
 |int _=>obtain⟨t,rfl⟩:=r;rfl
 |str _=>obtain⟨t,rfl⟩:=r;rfl
 |P6 _=>obtain⟨t,rfl⟩:=r;rfl
 |Qf _=>obtain⟨t,rfl⟩:=r;rfl
 |ref _=>cases r;rfl
 |ty _=>cases r;rfl
def RelV.inj{x y:V}{u:A3}(r:RelV x u)(q:RelV y u):x=y:=Fd (r.abs.symm.trans q.abs)
theorem Vals.inj:∀{xs ys:List V}{us:List A3},Vals xs us->Vals ys us->xs=ys
 |_,_,_,.nil,.nil=>rfl
 |_,_,_,.cons r t,.cons BK t'=>by rw[r.inj BK,Vals.inj t t']
section
variable{X:Am}{pins:List (A4×Obj)}{σ :St}{H:A8}{s:AJ}{a:A4}{xs ys:List V}
def Inv.list(I:Inv X pins σ H s)(h:EL X.K H a xs):∃its:List A3,Vals xs its/\PlainL s.heap a its.toArray/\xs.length<=Bu:=by
 rcases h with h|⟨o,its,n,AK,AD,hd,hs,hz,r⟩
 .obtain⟨z,its,n,r,e⟩:=h.ok I.Ax;exact⟨its,r,⟨_,n,e,rfl,rfl,rfl⟩,z⟩
 .refine⟨its.toList,r,⟨o,n,I.EH a o AK,AD,hd,by simpa using hs⟩,?_⟩;have e:=r.length;simp only[Oj]at e;lia
def Inv.tuple(I:Inv X pins σ H s)(h:EM X.K H a xs):∃its:List A3,Vals xs its/\IsTup s.heap a its.toArray/\xs.length<=Bu:=by
 rcases h with h|⟨o,its,n,AK,AD,hs,hz,r⟩
 .obtain⟨z,its,r,p⟩:=h.ok I.Ax;exact⟨its,r,p,z⟩
 .refine⟨its.toList,r,⟨o,I.EH a o AK,AD,n,by simpa using hs⟩,?_⟩;have e:=r.length;simp only[Oj]at e;lia
def Inv.Zh(I:Inv X pins σ H s)(h:EL X.K H a xs)(h':EL X.K H a ys):xs=ys:=by
 obtain⟨its,r,⟨o,n,e,_,_,d⟩,_⟩:=I.list h;obtain⟨its',BK,⟨o',SQ,BC,_,_,d'⟩,_⟩:=I.list h';rw[e]at BC;cases BC;rw[d]at d';injection d' with d1 _;have:its=its':=by simpa using congrArg Array.toList d1
 subst this;exact r.inj BK
def Inv.aK(I:Inv X pins σ H s)(h:EM X.K H a xs)(h':EM X.K H a ys):xs=ys:=by
 obtain⟨its,r,⟨o,e,_,n,d⟩,_⟩:=I.tuple h;obtain⟨its',BK,⟨o',BC,_,SQ,d'⟩,_⟩:=I.tuple h';rw[e]at BC;cases BC;rw[d]at d';injection d' with d1 _;have:its=its':=by simpa using congrArg Array.toList d1
 subst this;exact r.inj BK
end
abbrev Am.KO(X:Am)(E:A3->AJ->Prop):Am:={ X with Ck:=E }
abbrev Am.HB(X:Am):Am:=X.KO λ_ _=>False
theorem Am.Ok.KO{X:Am}(ok:X.Ok)(E:A3->AJ->Prop):(X.KO E).Ok:=
 ⟨ok.mod,ok.kind,ok.glob,ok.blt,ok.above,ok.inj,ok.has,ok.Tc,ok.hd,ok.frames,ok.ZG,ok.fa,ok.bs,ok.P5,ok.RC,ok.Ww,ok.JY,ok.Qh⟩
def Am.Ok.Lu{X:Am}{E:A3->AJ->Prop}(ok:(X.KO E).Ok):X.Ok:=
 ⟨ok.mod,ok.kind,ok.glob,ok.blt,ok.above,ok.inj,ok.has,ok.Tc,ok.hd,ok.frames,ok.ZG,ok.fa,ok.bs,ok.P5,ok.RC,ok.Ww,ok.JY,ok.Qh⟩
section
variable{X:Am}{pins:List (A4×Obj)}{σ :St}{H:A8}{s:AJ}{E:A3->AJ->Prop}
theorem Inv.KO(I:Inv X pins σ H s)(E:A3->AJ->Prop):Inv (X.KO E) pins σ H s:=⟨I.ok.KO E,I.os,I.bare,I.base,I.loc,I.cell,I.free,I.LD,I.pin,I.Ax,I.len⟩
theorem Inv.Lu(I:Inv (X.KO E) pins σ H s):Inv X pins σ H s:=⟨I.ok.Lu,I.os,I.bare,I.base,I.loc,I.cell,I.free,I.LD,I.pin,I.Ax,I.len⟩
theorem P_.Lu{D:Ends}{f:Flow}{s':AJ}(h:P_ (X.KO E) pins D f s'):P_ X pins D f s':=by
 cases f with
 |next=>obtain⟨σ',A6,I,q⟩:=h;exact⟨σ',A6,I.Lu,q⟩
 |brk=>obtain⟨σ',A6,I,q⟩:=h;exact⟨σ',A6,I.Lu,q⟩
 |cont=>obtain⟨σ',A6,I,q⟩:=h;exact⟨σ',A6,I.Lu,q⟩
 |ret u=>obtain⟨v,σ',A6,I,r,q⟩:=h;exact⟨v,σ',A6,I.Lu,r,q⟩
theorem Ae.HB{e:At}{t:TE}(h:Ae X.HB e t):Ae X e t:=λpins s σ H Q I hw=>
 I9 (h pins s σ H Q (I.KO _) hw) (λ_ _⟨v,A6,D0,r,q⟩=>⟨v,A6,D0.Lu,r,q⟩) λ_ _ z=>Hq z
theorem E8.HB{e:At}{t:TT}(h:E8 X.HB e t):E8 X e t:=λpins s σ H Q I hw=>
 I9 (h pins s σ H Q (I.KO _) hw) (λ_ _⟨A6,D0,q⟩=>⟨A6,D0.Lu,q⟩) λ_ _ z=>Hq z
theorem H4.HB{st:List BM}{t:F6}(h:H4 X.HB st t):H4 X st t:=λpins s σ H D I hw=>
 I9 (h pins s σ H D (I.KO _) hw) (λ_ _ q=>q.Lu) λ_ _ z=>Hq z
end
section
variable{X:Am}{st:BM}{rest:List BM}{t u:F6}{e:At}{DU:TE}{pos:Pos}
def Yb:F6:=λD σ H=>D.AP σ H
def o1(t u:F6):F6:=λD σ H=>t { D with AP:=u D } σ H
def zn:H4 X [] Yb:=λ_ _ σ H _ I h=>Vv ⟨σ,H,I,h⟩
def zl(h1:DL X st t)(h2:H4 X rest u):H4 X (st::rest) (o1 t u):=by
 intro pins s σ H D I h;refine wpAny_execs_cons (BG (h1 pins s σ H { D with AP:=u D } I h) λf s1 q=>?_);cases f with
 |next=>obtain⟨σ',A6,D0,q⟩:=q;exact h2 pins s1 σ' A6 D D0 q
 |ret v=>exact q
 |brk=>exact q
 |cont=>exact q
def zo(h1:DL X st t):H4 X [st] t:=by
 intro pins s σ H D I h;refine wpAny_execs_cons (BG (h1 pins s σ H D I h) λf s1 q=>?_);cases f with
 |next=>exact Vv q
 |ret v=>exact q
 |brk=>exact q
 |cont=>exact q
def ze:DL X (.Pass pos) Yb:=λ_ _ σ H _ I h=>wpAny_Pass ⟨σ,H,I,h⟩
def Inv.quiet{pins:List (A4×Obj)}{σ :St}{H:A8}{s:AJ}(I:Inv X pins σ H s):interactive X.env=false:=by simp[interactive,I.ok.kind]
def zZ{x j pos pos'}:DL X (.Expr (.Constant (.str x) j pos) pos') Yb:=λ_ s σ H _ I h=>wpAny_Expr (Calls.Constant_str (show P_ X _ _ .next { s with toks:=s.toks+1 }from⟨σ,H,I.tok _,h⟩)) I.quiet
def nd(DU:TE):F6:=λD σ H=>DU σ H λ_ H1=>D.AP σ H1
def za(he:Ae X e DU)(hs:QB e none pos.line X.env=pure false:=by rfl):DL X (.Expr e pos) (nd DU):=by intro pins s σ H D I h;exact wpAny_Expr_any (BG (he pins s σ H _ I h) λv s1⟨x,H1,Ab,Ak,q1⟩=>⟨σ,H1,Ab,q1⟩) I.quiet hs
def nz(DU:TE):F6:=λD σ H=>DU σ H D.Do
def zg(he:Ae X e DU):DL X (.Return (some e) pos) (nz DU):=by intro pins s σ H D I h;exact wpAny_Return_some (BG (he pins s σ H _ I h) λv s1⟨x,H1,Ab,Ak,q1⟩=>⟨x,σ,H1,Ab,Ak,q1⟩)
def o0:F6:=λD _ H=>D.Do .non H
def zh:DL X (.Return none pos) o0:=λ_ _ σ H _ I h=>wpAny_Return_none ⟨.non,σ,H,I,rfl,h⟩
def nh(c:TT)(t u:F6):F6:=λD σ H=>c σ H λb H1=>if b=true then t D σ H1 else u D σ H1
def zc{c:At}{a b:List BM}{Gf:TT}(AD:E8 X c Gf)(AB:H4 X a t)(A1:H4 X b u):DL X (.If c a b pos) (nh Gf t u):=by
 intro pins s σ H D I h;refine wpAny_If (BG (AD pins s σ H _ I h) λd s1⟨H1,Ab,q1⟩=>?_);cases d with
 |true=>exact AB pins s1 σ H1 D Ab q1
 |false=>exact A1 pins s1 σ H1 D Ab q1
def nk:F6:=λ_ _ _=>False
def zd:DL X st nk:=λ_ _ _ _ _ _ h=>h.elim
def zm{Pf:List BM}:H4 X Pf nk:=λ_ _ _ _ _ _ h=>h.elim
end
abbrev J7:=V->St->A8->(St->A8->Prop)->Prop
abbrev OE:=List V->St->A8->(St->A8->Prop)->Prop
noncomputable def Gw(X:Am)(target:At)(t:J7):Prop:=
 ∀(pins:List (A4×Obj))(s:AJ)(σ :St)(H:A8)(v:V)(u:A3)(Q:St->A8->Prop),Inv X pins σ H s->RelV v u->t v σ H Q->
  AV (Al X.prog X.w) X.A (K6 target X.env u) (λ_ s'=>∃ σ' A6,Inv X pins σ' A6 s'/\Q σ' A6) X.Ck s
noncomputable def KD(X:Am)(nH:List At)(t:OE):Prop:=
 ∀(pins:List (A4×Obj))(s:AJ)(σ :St)(H:A8)(vs:List V)(us:List A3)(Q:St->A8->Prop),Inv X pins σ H s->Vals vs us->t vs σ H Q->
  AV (Al X.prog X.w) X.A (assignInOrder ((Kt nH X.env).map (·.2)) us) (λ_ s'=>∃ σ' A6,Inv X pins σ' A6 s'/\Q σ' A6) X.Ck s
abbrev dW:=V->V->V->A8->(A8->Prop)->Prop
noncomputable def fW(X:Am)(t:dW):Prop:=
 ∀(pins:List (A4×Obj))(s:AJ)(σ :St)(H:A8)(o i v:V)(CQ GX u:A3)(Q:A8->Prop),Inv X pins σ H s->RelV o CQ->RelV i GX->RelV v u->t o i v H Q->
  AV (Al X.prog X.w) X.A (setItem CQ GX u) (λ_ s'=>∃A6,Inv X pins σ A6 s'/\Q A6) X.Ck s
section
variable{X:Am}{pos:Pos}
def X1(i:Nat):J7:=λv σ H Q=>Q (σ.set i (some v)) H
def VG{i:Nat}{x:Str}(hN:X.N.Nodup)(A7:X.N[i]?=some x)(AG:Loc X.env.scope x)(hf:X.fn x=true\/X.env.scope.names.lookup x=some .local:=by first|exact .inl rfl|exact .inr rfl|assumption):Gw X (.Name x pos) (X1 i):=by intro pins s σ H v u Q I r h;exact wpAny_assign_Name (lu I hN A7 AG r (λs' D0=>⟨_,H,D0,h⟩) hf)
def hP:OE:=λvs σ H Q=>vs=[]/\Q σ H
def hO(t:J7)(u:OE):OE:=λvs σ H Q=>∃v r,vs=v::r/\t v σ H λσ' A6=>u r σ' A6 Q
def ir:KD X [] hP:=by intro pins s σ H vs us Q I r h;obtain⟨e,h⟩:=h;subst e;cases r;exact assignInOrder_nil ⟨σ,H,I,h⟩
def b7{e:At}{es:List At}{t:J7}{u:OE}(h1:Gw X e t)(h2:KD X es u)(hs:(Kt (e::es) X.env).map (·.2)=K6 e X.env::(Kt es X.env).map (·.2):=by rfl):KD X (e::es) (hO t u):=by
 intro pins s σ H vs us Q I r h;obtain⟨v,nX,A9,h⟩:=h;subst A9;cases r with
 |cons r LV=>rw[hs];refine assignInOrder_cons (BG (h1 pins s σ H _ _ _ I r h) λ_ s1⟨σ1,H1,Ab,q1⟩=>?_);exact h2 pins s1 σ1 H1 _ _ Q Ab LV q1
def hS(K:Ad)(n:Nat)(t:OE):J7:=λv σ H Q=>∃a xs,v=.ref a/\EM K H a xs/\xs.length=n/\t xs σ H Q
def iq{es:List At}{k:Nat}{t:OE}{n:Nat}(AD:X.calm=true)(h:KD X es t)(AW:(Kt es X.env).length=n:=by rfl)(HG:(Kt es X.env).findIdx? (·.1)=none:=by rfl):Gw X (.Tuple es k pos) (hS X.K n t):=by intro pins s σ H v u Q I r hw;obtain⟨a,xs,A9,AU,AF,hw⟩:=hw;subst A9;cases r;obtain⟨its,Bx,BQ,hz⟩:=I.tuple AU;refine assign_Tuple_tuple (I.ok.hd AD) BQ (by simp[AW,<-AF,Bx.length]) HG λh' AG=>?_;have Ab:Inv X pins σ H { s with heap:=h' }:=I.kept (t':=s.toks) λb o e=>AG b o (Ef (D3 e)) e;exact h pins _ σ H xs _ Q Ab (by simpa using Bx) hw
def hQ(to Ye:TE)(t:dW):J7:=λv σ H Q=>to σ H λo H1=>Ye σ H1 λi AS=>t o i v AS λBl=>Q σ Bl
def aa1 {o i:At} {to Ye:TE} {t:dW} (ho:Ae X o to) (A7:Ae X i Ye) (hs:fW X t)(AB:∀v,K6 (.Subscript o i pos) X.env v=(do
    let CQ <-JU [v] (Bb o X.env)
    let GX <-JU [v,CQ] (Bb i X.env)
    NQ pos
    JU [v,CQ,GX] (setItem CQ GX v)
    release [v,CQ,GX] []):=by intro _;rfl):Gw X (.Subscript o i pos) (hQ to Ye t):=by
 intro pins s σ H v u Q I r h;rw[AB];refine AL (Iv (BG (ho pins s σ H _ I h) λCQ s1⟨x,H1,Ab,Ak,q1⟩=>?_));refine AL (Iv (BG (A7 pins s1 σ H1 _ Ab q1) λGX s2⟨y,AS,BU,B6,q2⟩=>?_));refine AL (wpAny_standAt (AL (Iv (BG (hs pins s2 σ AS x y v CQ GX u _ BU Ak B6 r q2) λ_ s3⟨Bl,DZ,EI⟩=>?_))));exact wpAny_release ⟨σ,Bl,DZ,EI⟩
def aj(DU:TE)(g:J7):F6:=λD σ H=>DU σ H λx H1=>g x σ H1 D.AP
def kR{C0 e:At}{DU:TE}{g:J7}(he:Ae X e DU)(Aj:Gw X C0 g)(hs:swapsWithSole [C0] e pos.line X.env=pure false:=by rfl)(hw:swappedStores [C0] e X.env=pure none:=by rfl)(h1:(Kt [C0] X.env).map (·.2)=[K6 C0 X.env]:=by rfl):DL X (.Assign [C0] e pos) (aj DU g):=by intro pins s σ H D I h;refine wpAny_Assign_stores (BG (he pins s σ H _ I h) λv s1⟨x,H1,Ab,Ak,q1⟩=>?_) hs hw;rw[h1];exact BG (Aj pins s1 σ H1 x v _ Ab Ak q1) λ_ s2 q=>q
def zi{i:Nat}{x:Str}{e:At}{DU:TE}{pos':Pos}(hN:X.N.Nodup)(A7:X.N[i]?=some x)(AG:Loc X.env.scope x)(he:Ae X e DU)(hs:QB e (some (.Name x pos')) pos.line X.env=pure false:=by rfl)(hf:X.fn x=true\/X.env.scope.names.lookup x=some .local:=by first|exact .inl rfl|exact .inr rfl|assumption) :
  DL X (.Assign [.Name x pos'] e pos) (aj DU (X1 i)):=by
 intro pins s σ H D I h;refine wpAny_Assign_Name (BG (he pins s σ H _ I h) λv s1⟨y,H1,Ab,Ak,q1⟩=>?_) hs;exact lu Ab hN A7 AG Ak (λs2 BU=>⟨_,H1,BU,q1⟩) hf
end
section
variable{X:Am}{pos:Pos}
noncomputable def o7(c:TT)(tb:F6):F6:=λD σ H=>∃W:Nat->St->A8->Prop,(∃m,W m σ H)/\∀m σ H,W m σ H->
 c σ H λb H1=>if b=true then ∃N:St->A8->Prop,(∀ σ' A6,N σ' A6->∃Cb,Cb<m/\W Cb σ' A6)/\tb { D with AP:=N,Cv:=N,BF:=D.AP } σ H1 else D.AP σ H1
def zk{c:At}{body:List BM}{Gf:TT}{tb:F6}(AT:PassesOwn (Al X.prog X.w) X.A X.env X.Ck)(AD:E8 X c Gf)(A1:H4 X body tb):DL X (.While c body [] pos) (o7 Gf tb):=by
 intro pins s σ H D I h;obtain⟨W,⟨m0,MY⟩,turn⟩:=h;refine wpAny_While (codeAny_whileLoop (λn s'=>∃ σ' A6,Inv X pins σ' A6 s'/\W n σ' A6) ?_ m0 ⟨σ,H,I,MY⟩);rintro n s1 ⟨σ1,H1,Ab,G7⟩;refine Q6 AT (BG (AD pins s1 σ1 H1 _ Ab (turn n σ1 H1 G7)) λb s2⟨AS,BU,q2⟩=>?_);cases b with
 |true=>
  obtain⟨N,hN,q2⟩:=q2;rw[if_pos rfl];refine Q6 AT (BG (A1 pins s2 σ1 AS _ BU q2) λf s3 EI=>?_);cases f with
  |next=>obtain⟨σ3,Bl,DZ,LQ⟩:=EI;obtain⟨Cb,hm,Qt⟩:=hN σ3 Bl LQ;exact⟨Cb,hm,σ3,Bl,DZ,Qt⟩
  |cont=>obtain⟨σ3,Bl,DZ,LQ⟩:=EI;obtain⟨Cb,hm,Qt⟩:=hN σ3 Bl LQ;exact⟨Cb,hm,σ3,Bl,DZ,Qt⟩
  |brk=>exact EI
  |ret v=>exact EI
 |false=>rw[if_neg JR];exact Vv ⟨σ1,AS,BU,q2⟩
end
structure It where
 go:Nat->A8->Prop
 V9:Nat->A8->V->A8->Prop
 stop:Nat->A8->Prop
def Ju(X:Am)(pins:List (A4×Obj))(H:A8)(b:A4):Prop:=
 H b=none/\b≠X.env.locals/\b∉X.Ay/\(b∈X.ex\/X.Fl.heap.objs.size<=b)/\(∀x c,X.env.cells.lookup x=some c->c≠b)/\∀p∈X.GN++pins,p.1≠b
def Inv.Nm{X:Am}{pins:List (A4×Obj)}{σ :St}{H A6:A8}{s:AJ}{b:A4}(I:Inv X pins σ H s)(A1:s.heap.objs.size<=b)(AW:A6 b=none):Ju X pins A6 b:=by
 refine⟨AW,MP (Fn I.lt A1),I.xn A1,.inr (I8 I.ZJ A1),λx c e z=>?_,λp AT z=>?_⟩
 .obtain⟨v,q⟩:=I.cell x c e;exact absurd (Fn q.lt (by rw[z];exact A1)) (Iw _)
 .exact absurd (Fn (D3 (I.pin p AT).1) (by rw[z];exact A1)) (Iw _)
structure Turn(P:Bh)(w:BP)(K:Ad)(C0:At)(BO:It)(BA:List A4)(it:A4)(HD:Nat->Ar->Prop):Prop where
 mem:it∈BA
 obj:∀i h,HD i h->∀b∈BA,∃o,h.get? b=some o/\∀v,o.data≠.cell v
 keep:∀i h h',HD i h->(∀b∈BA,∀o,h.get? b=some o->h'.get? b=some o)->HD i h'
 item:∀(X:Am),X.prog=P->X.w=w->X.K=K->X.calm=true->∀(i:Nat)(pins:List (A4×Obj))(s:AJ)(σ :St)(H:A8)(E:A3->AJ->Prop),Inv X pins σ H s->(∀b∈BA,Ju X pins H b)->HD i s.heap->BO.go i H->
  AV (Al P w) X.A (K7 (.ref it)) (λr s1=>∃u,r=some u/\
   AV (Al P w) X.A (Vw C0 (.ref it) u) (λ_ s2=>∃x A6,Inv X pins σ A6 s2/\RelV x u/\BO.V9 i H x A6/\HD (i+1) s2.heap/\∀b∈BA,A6 b=none) E s1) E s
 done:∀(X:Am),X.prog=P->X.w=w->X.K=K->X.calm=true->∀(i:Nat)(pins:List (A4×Obj))(s:AJ)(σ :St)(H:A8)(E:A3->AJ->Prop),Inv X pins σ H s->(∀b∈BA,Ju X pins H b)->HD i s.heap->BO.stop i H->
  AV (Al P w) X.A (K7 (.ref it)) (λr s1=>r=none/\Inv X pins σ H s1) E s
 self:∀(A:CW)(i:Nat)(s:AJ)(Q:A3->AJ->Prop)(E:A3->AJ->Prop),HD i s.heap->Q (.ref it) s->AV (Al P w) A (pyIter (.ref it)) Q E s
abbrev TI:=St->A8->(It->A8->Prop)->Prop
noncomputable def fU(X:Am)(pins:List (A4×Obj))(σ :St)(C0:At)(R:It->A8->Prop)(YK:A3)(s2:AJ):Prop:=
 ∃(it:A4)(BA:List A4)(HD:Nat->Ar->Prop)(BO:It)(A6:A8),YK=.ref it/\Inv X pins σ A6 s2/\Turn X.prog X.w X.K C0 BO BA it HD/\HD 0 s2.heap/\(∀b∈BA,Ju X pins A6 b)/\R BO A6
noncomputable def Hc(X:Am)(C0 iter:At)(I6:TI):Prop:=
 ∀(pins:List (A4×Obj))(s:AJ)(σ :St)(H:A8)(R:It->A8->Prop),Inv X pins σ H s->I6 σ H R->
  AV (Al X.prog X.w) X.A (Bb iter X.env) (λv s1=>AV (Al X.prog X.w) X.A (pyIter v) (fU X pins σ C0 R) X.Ck s1) X.Ck s
def Ts{M:Model}{A:CW}{E:A3->AJ->Prop}{s:AJ}{C0:At}{it:A4}{u:A3}{o:Obj}{n:String}{vs:Array A3}{Q:Unit->AJ->Prop}(ho:s.heap.get? it=some o)(AD:o.cls=.type n)(hd:o.data=.fields vs)(AW:["enumerate","zip","dict_itemiterator","dict_reverseitemiterator","odict_iterator","itertools.zip_longest","itertools.pairwise"].contains n=false)(Dt:Q () s):AV M A (Vw C0 (.ref it) u) Q E s:=by
 unfold Vw
 cases C0<;>first
  |exact Aw Dt
  |(cases u<;>first
      |exact Aw Dt
      |(refine AL (wpAny_load ho ?_)
        rw[AD,hd];show AV M A (if(["enumerate","zip","dict_itemiterator","dict_reverseitemiterator","odict_iterator","itertools.zip_longest","itertools.pairwise"].contains n&&vs[0]?==some (Lk _))=true then _ else _) Q E s;rw[if_neg (by intro h;rw[AW,Bool.false_and]at h;cases h)];exact Aw Dt))
def dK(K:Ad)(a:A4):It:=
 ⟨λi H=>∃xs x,EL K H a xs/\xs[i]?=some x,λi H x A6=>A6=H/\∀xs,EL K H a xs->xs[i]?=some x,λi H=>∃xs,EL K H a xs/\xs.length<=i⟩
def dM(K:Ad)(a:A4):It:=
 ⟨λi H=>∃xs x,EM K H a xs/\xs[i]?=some x,λi H x A6=>A6=H/\∀xs,EM K H a xs->xs[i]?=some x,λi H=>∃xs,EM K H a xs/\xs.length<=i⟩
def Tx(lo:Int)(n:Nat):It:=⟨λi _=>i<n,λi H x A6=>A6=H/\x=.int (lo+i),λi _=>n<=i⟩
def abP{P:Bh}{w:BP}{K:Ad}{C0:At}(a it:A4):Turn P w K C0 (dK K a) [it] it (λi h=>h.IsListIter it a i) where
 mem:=by simp
 obj:=λi h st b A1=>by
  have e:b=it:=by simpa using A1
  subst e;obtain⟨o,e,c,d⟩:=st;exact⟨o,e,λv z=>by rw[d]at z;cases z⟩
 keep:=λi h h' st k=>st.at λo e=>k it (by simp) o e
 item:=by intro X DM hw AX AD i pins s σ H E I hf st Aj;subst DM hw AX;obtain⟨xs,x,AU,AG⟩:=Aj;obtain⟨its,Bx,p,hz⟩:=I.list AU;obtain⟨u,Av,FZ⟩:=Bx.get AG;obtain⟨f0,f1,f2,F8,f4,GU⟩:=hf it (by simp);refine wpAny_pyNext_list_item st p.isList (x:=u) (by simpa using Av) λh' Jp GB=>?_;have Ab:Inv X pins σ H { s with heap:=h' }:=I.turned (t':=s.toks) (λb o A1 e=>(GB.2 b A1).trans e) f0 f1 F8 f4 GU;obtain⟨o,e,c,d⟩:=id Jp;exact⟨u,rfl,Ts (s:={ s with heap:=h' }) e c d (by decide) ⟨x,H,Ab,FZ,⟨rfl,λys AN=>by rw[I.Zh AN AU];exact AG⟩,Jp,λb A1=>(hf b A1).1⟩⟩
 done:=by intro X DM hw AX AD i pins s σ H E I hf st Aj;subst DM hw AX;obtain⟨xs,AU,AG⟩:=Aj;obtain⟨its,Bx,p,hz⟩:=I.list AU;obtain⟨f0,f1,f2,F8,f4,GU⟩:=hf it (by simp);have AF:=Bx.length;exact wpAny_pyNext_list_end (I.ok.hd AD) st p.isList (by simp;lia) λh' Au=>⟨rfl,I.turned (t':=s.toks) (λb o A1 e=>Au b o A1 e) f0 f1 F8 f4 GU⟩
 self:=λ_ _ _ _ _ st h=>wpAny_pyIter_listiter st h
def abS{P:Bh}{w:BP}{K:Ad}{C0:At}(a it:A4):Turn P w K C0 (dM K a) [it] it (λi h=>h.IsTupleIter it a i) where
 mem:=by simp
 obj:=λi h st b A1=>by
  have e:b=it:=by simpa using A1
  subst e;obtain⟨o,e,c,d⟩:=st;exact⟨o,e,λv z=>by rw[d]at z;cases z⟩
 keep:=λi h h' st k=>st.at λo e=>k it (by simp) o e
 item:=by intro X DM hw AX AD i pins s σ H E I hf st Aj;subst DM hw AX;obtain⟨xs,x,AU,AG⟩:=Aj;obtain⟨its,Bx,p,hz⟩:=I.tuple AU;obtain⟨u,Av,FZ⟩:=Bx.get AG;obtain⟨f0,f1,f2,F8,f4,GU⟩:=hf it (by simp);refine wpAny_pyNext_tuple_item st (show s.heap.IsTuple a its.toArray from p) (x:=u) (by simpa using Av) λh' Jp GB=>?_;have Ab:Inv X pins σ H { s with heap:=h' }:=I.turned (t':=s.toks) (λb o A1 e=>(GB.2 b A1).trans e) f0 f1 F8 f4 GU;obtain⟨o,e,c,d⟩:=id Jp;exact⟨u,rfl,Ts (s:={ s with heap:=h' }) e c d (by decide) ⟨x,H,Ab,FZ,⟨rfl,λys AN=>by rw[I.aK AN AU];exact AG⟩,Jp,λb A1=>(hf b A1).1⟩⟩
 done:=by intro X DM hw AX AD i pins s σ H E I hf st Aj;subst DM hw AX;obtain⟨xs,AU,AG⟩:=Aj;obtain⟨its,Bx,p,hz⟩:=I.tuple AU;obtain⟨f0,f1,f2,F8,f4,GU⟩:=hf it (by simp);have AF:=Bx.length;exact wpAny_pyNext_tuple_end (I.ok.hd AD) st (show s.heap.IsTuple a its.toArray from p) (by simp;lia) λh' Au=>⟨rfl,I.turned (t':=s.toks) (λb o A1 e=>Au b o A1 e) f0 f1 F8 f4 GU⟩
 self:=λ_ _ _ _ _ st h=>wpAny_pyIter_tupleiter st h
def abQ{P:Bh}{w:BP}{K:Ad}{C0:At}(it:A4)(lo:Int)(n:Nat):Turn P w K C0 (Tx lo n) [it] it (λi h=>IsRangeIter h it (lo+(i:Nat)*1) ((n:Int)-(i:Nat)) 1) where
 mem:=by simp
 obj:=λi h st b A1=>by
  have e:b=it:=by simpa using A1
  subst e;exact⟨_,st,λv z=>by have FK:Data.fields _=TL v:=z;cases FK⟩
 keep:=λi h h' st k=>k it (by simp) _ st
 item:=by intro X DM hw AX AD i pins s σ H E I hf st Aj;subst DM hw AX;obtain⟨f0,f1,f2,F8,f4,GU⟩:=hf it (by simp);have W:=Walks.range (prog:=X.prog) (w:=X.w) (I.ok.hd AD) it lo 1 n;refine W.item i s _ _ Aj st λv h' By BB Jp FW=>?_;obtain⟨t,rfl⟩:=BB;have Ab:Inv X pins σ H { s with heap:=h',toks:=By }:=I.turned (λb o A1 e=>FW b o (by simpa using A1) e) f0 f1 F8 f4 GU;refine⟨_,rfl,Ts (s:={ s with heap:=h',toks:=By }) (n:="range_iterator") Jp rfl rfl (by decide) ⟨.int (lo+i),H,Ab,⟨t,?_⟩,⟨rfl,rfl⟩,Jp,λb A1=>(hf b A1).1⟩⟩;rw[Int.mul_one]
 done:=by intro X DM hw AX AD i pins s σ H E I hf st Aj;subst DM hw AX;obtain⟨f0,f1,f2,F8,f4,GU⟩:=hf it (by simp);exact wpAny_pyNext_range_end (I.ok.hd AD) st (by have:n<=i:=Aj;lia) λh' Au=>⟨rfl,I.turned (t':=s.toks) (λb o A1 e=>Au b o A1 e) f0 f1 F8 f4 GU⟩
 self:=λ_ _ _ _ _ st h=>wpAny_pyIter_rangeiter st h
section
variable{X:Am}{C0:At}
def k4{pins:List (A4×Obj)}{σ :St}{H:A8}{s:AJ}{R:It->A8->Prop}{E:A3->AJ->Prop}{lo A7:Int}{t u v:Tok}{By:Nat}(I:Inv X pins σ H s)(h1: -(2^62)<=lo)(h2:lo<2^62)(B2: -(2^62)<=A7)(Ca:A7<2^62)(q:R (Tx lo (A7-lo).toNat) H):AV (Al X.prog X.w) X.A (pyIter (.ref s.heap.objs.size)) (fU X pins σ C0 R) E { s with heap:=s.heap.push { cls:=.type "range",data:=.fields #[.int lo t,.int A7 u,.int 1 v] },toks:=By }:=by
 refine wpAny_pyIter_range (IsRange.new ..) (small_one h1 h2 B2 Ca) ?_;have Ab:Inv X pins σ H { s with heap:=s.heap.push { cls:=.type "range",data:=.fields #[.int lo t,.int A7 u,.int 1 v] },toks:=By }:=I.kept λb o e=>Cz _ e
 refine⟨(s.heap.push { cls:=.type "range",data:=.fields #[.int lo t,.int A7 u,.int 1 v] }).objs.size,[(s.heap.push { cls:=.type "range",data:=.fields #[.int lo t,.int A7 u,.int 1 v] }).objs.size],_,_,H,rfl,
  Ab.kept (t':=By) λb o e=>Cz _ e,abQ _ lo (A7-lo).toNat,?_,λb A1=>?_,q⟩
 .have A9:lo+((0:Nat):Int)*1=lo:=by simp
  have AE:(((A7-lo).toNat:Nat):Int)-((0:Nat):Int)=oy lo A7 1:=by rw[rangeSize_one];split<;>lia
  show IsRangeIter _ _ (lo+((0:Nat):Int)*1) ((((A7-lo).toNat:Nat):Int)-((0:Nat):Int)) 1;rw[A9,AE];exact Fc _ rfl
 .have e:b=(s.heap.push { cls:=.type "range",data:=.fields #[.int lo t,.int A7 u,.int 1 v] }).objs.size:=by simpa using A1
  subst e;exact Ab.Nm (C1 _) (Ab.Ax.fresh (C1 _))
def ue(Be:FM):TI:=λσ H R=>Be σ H λvs H1=>∃j:Int,vs=[.int j]/\-(2^62)<=j/\j<2^62/\R (Tx 0 j.toNat) H1
def uf(Be:FM):TI:=λσ H R=>Be σ H λvs H1=>∃i j:Int,vs=[.int i,.int j]/\(-(2^62)<=i/\i<2^62/\-(2^62)<=j/\j<2^62)/\R (Tx i (j-i).toNat) H1
def aa5{a:At}{Be:FM}{p pos:Pos}(Aj:EJ X "range")(hm:X.mg "range"=none)(AB:Gv X [a] Be)(hs:CJ [a] X.env=[(false,Bb a X.env)]:=by rfl):Hc X C0 (.Call (.Name "range" p) [a] [] pos) (ue Be):=by
 intro pins s σ H R I h;refine Call_ (Nx I Aj hm boot_range (Pp (BG (AB pos pins s σ H _ I h) λus s1⟨vs,H1,Ab,Ak,q1⟩=>?_) hs rfl));obtain⟨j,e,q1,q2,q⟩:=q1;subst e;cases Ak with
 |cons r LV=>cases LV;obtain⟨t,rfl⟩:=r;exact call_range_1 (k4 Ab (by lia) (by lia) q1 q2 (by simpa using q))
def aa6{a b:At}{Be:FM}{p pos:Pos}(Aj:EJ X "range")(hm:X.mg "range"=none)(AB:Gv X [a,b] Be)(hs:CJ [a,b] X.env=[(false,Bb a X.env),(false,Bb b X.env)]:=by rfl)(Gp:CJ [b] X.env=[(false,Bb b X.env)]:=by rfl) :
  Hc X C0 (.Call (.Name "range" p) [a,b] [] pos) (uf Be):=by
 intro pins s σ H R I h;refine Call_ (Nx I Aj hm boot_range (Pp (BG (AB pos pins s σ H _ I h) λus s1⟨vs,H1,Ab,Ak,q1⟩=>?_) (by rw[hs,Gp]) (by rw[Gp];rfl)));obtain⟨i,j,e,⟨q1,q2,EI,JK⟩,q⟩:=q1;subst e;cases Ak with
 |cons r LV=>
  cases LV with
  |cons BK LV=>cases LV;obtain⟨t,rfl⟩:=r;obtain⟨t',rfl⟩:=BK;exact call_range_2 (k4 Ab q1 q2 EI JK q)
noncomputable def ar(I6:TI)(g:J7)(tb:F6):F6:=λD σ H=>I6 σ H λBO H1=>∃W:Nat->Nat->St->A8->Prop,(∃m,W 0 m σ H1)/\∀i m σ H,W i m σ H->
 (BO.stop i H/\D.AP σ H)\/(BO.go i H/\∃N:St->A8->Prop,(∀ σ' A6,N σ' A6->∃Cb,Cb<m/\W (i+1) Cb σ' A6)/\∀x A6,BO.V9 i H x A6->g x σ A6 λσ2 AS=>tb { D with AP:=N,Cv:=N,BF:=D.AP } σ2 AS)
def VH(BA:List A4)(h:Ar):List (A4×Obj):=BA.filterMap λb=>(h.get? b).map λo=>(b,o)
def Y4{BA:List A4}{h:Ar}{b:A4}{o:Obj}(A1:b∈BA)(e:h.get? b=some o):(b,o)∈VH BA h:=List.mem_filterMap.mpr ⟨b,A1,by rw[e];rfl⟩
def xu{BA:List A4}{h:Ar}{p:A4×Obj}(AT:p∈VH BA h):p.1∈BA/\h.get? p.1=some p.2:=by
 obtain⟨b,A1,e⟩:=List.mem_filterMap.mp AT;cases q:h.get? b with
 |none=>rw[q]at e;cases e
 |some o=>rw[q]at e;have BC:(b,o)=p:=Fd e;subst BC;exact⟨A1,q⟩
def Inv.pinned{pins:List (A4×Obj)}{σ :St}{H:A8}{s:AJ}{BA:List A4}(I:Inv X pins σ H s)(hf:∀b∈BA,Ju X pins H b)(ho:∀b∈BA,∃o,s.heap.get? b=some o/\∀v,o.data≠.cell v):Inv X (pins++VH BA s.heap) σ H s:=
 I.iw λp AT=>(List.mem_append.mp AT).elim (λz=>I.pin p (HT _ z)) λz=>by obtain⟨A1,e⟩:=xu z;obtain⟨f0,f1,f2,_⟩:=hf p.1 A1;obtain⟨o,BC,d⟩:=ho p.1 A1;rw[e]at BC;cases BC;exact⟨e,f0,f1,f2,d⟩
def Inv.Yh{pins pl:List (A4×Obj)}{σ :St}{H:A8}{s:AJ}(I:Inv X (pins++pl) σ H s):Inv X pins σ H s:=I.iw λp AT=>I.pin p (HT _ (Hp _ AT))
def kS{iter:At}{body:List BM}{I6:TI}{g:J7}{tb:F6}{pos:Pos}(AT:PassesOwn (Al X.prog X.w) X.A X.env X.Ck)(AD:X.calm=true)(A7:Hc X C0 iter I6)(Aj:Gw X C0 g)(A1:H4 X body tb)(hs:∀x,Pz iter X.env x=pure x:=by intro _;rfl):DL X (.For C0 iter body [] pos) (ar I6 g tb):=by
 intro pins s σ H D I h;refine wpAny_For (BG (A7 pins s σ H _ I h) λv s1 h1=>BG h1 λYK s2 h2=>?_) hs;obtain⟨it,BA,HD,BO,AS,e,BU,T,LY,f2,W,⟨m0,MY⟩,turn⟩:=h2;subst e;have stat:∀{A6:A8},(∀b∈BA,A6 b=none)->∀b∈BA,Ju X pins A6 b:=λAW b A1=>⟨AW b A1,(f2 b A1).2⟩;refine codeAny_forLoop_any (λn s'=>∃i σ' A6,Inv X pins σ' A6 s'/\HD i s'.heap/\(∀b∈BA,A6 b=none)/\W i n σ' A6) ?_ m0 ⟨0,σ,AS,BU,LY,λb A1=>(f2 b A1).1,MY⟩;rintro n s3 ⟨i,σ3,Bl,DZ,mU,fk,Qt⟩;rcases turn i n σ3 Bl Qt with⟨stop,qn⟩|⟨go,N,hN,Df⟩
 .refine Q6 AT (BG (T.done X rfl rfl rfl AD i pins s3 σ3 Bl X.Ck DZ (stat fk) mU stop) λr s4⟨Ao,L4⟩=>?_);subst Ao;exact Vv ⟨σ3,Bl,L4,qn⟩
 .refine Q6 AT (BG (T.item X rfl rfl rfl AD i pins s3 σ3 Bl X.Ck DZ (stat fk) mU go) λr s4⟨u,Ao,Ca⟩=>?_);subst Ao;refine Q6 AT (BG Ca λ_ s5⟨x,DX,Rr,P1,bR,Sb,X0⟩=>?_);have qB:=Rr.pinned (stat X0) (T.obj _ _ Sb);refine Q6 AT (BG (Aj _ s5 σ3 DX x u _ qB P1 (Df x DX bR)) λ_ C5⟨σ6,Eo,Tw,Jk⟩=>?_);refine Q6 AT (BG (A1 _ C5 σ6 Eo _ Tw Jk) λf Cj Jl=>?_);have again:∀{σ7:St}{Cm:A8},Inv X (pins++VH BA s5.heap) σ7 Cm Cj->N σ7 Cm->∃m,m<n/\∃i σ' A6,Inv X pins σ' A6 Cj/\HD i Cj.heap/\(∀b∈BA,A6 b=none)/\W i m σ' A6:=λ{σ7 Cm} KA Ui=>by
   obtain⟨Cb,hm,abg⟩:=hN σ7 Cm Ui;refine⟨Cb,hm,i+1,σ7,Cm,KA.Yh,T.keep _ _ _ Sb λb A1 o e=>(KA.pin (b,o) (HT _ (HT _ (Y4 A1 e)))).1,λb A1=>?_,abg⟩;obtain⟨o,e,d⟩:=T.obj _ _ Sb b A1;exact(KA.pin (b,o) (HT _ (HT _ (Y4 A1 e)))).2.1
  cases f with
  |next=>obtain⟨σ7,Cm,KA,Ui⟩:=Jl;exact again KA Ui
  |cont=>obtain⟨σ7,Cm,KA,Ui⟩:=Jl;exact again KA Ui
  |brk=>obtain⟨σ7,Cm,KA,Jl⟩:=Jl;exact⟨σ7,Cm,KA.Yh,Jl⟩
  |ret v=>obtain⟨x7,σ7,Cm,KA,RF,Jl⟩:=Jl;exact⟨x7,σ7,Cm,KA.Yh,RF,Jl⟩
end
abbrev ET:=V->V->A8->CA->Prop
noncomputable def DQ(X:Am)(f:A3->A3->Sem A3)(r:ET):Prop:=
 ∀(pins:List (A4×Obj))(s:AJ)(σ :St)(H:A8)(x y:V)(v u:A3)(Q:CA),Inv X pins σ H s->RelV x v->RelV y u->r x y H Q->
  AV (Al X.prog X.w) X.A (f v u) (Gs X pins σ Q) X.Ck s
noncomputable def dZ(X:Am)(f:A3->Sem A3)(r:V->A8->CA->Prop):Prop:=
 ∀(pins:List (A4×Obj))(s:AJ)(σ :St)(H:A8)(x:V)(v:A3)(Q:CA),Inv X pins σ H s->RelV x v->r x H Q->
  AV (Al X.prog X.w) X.A (f v) (Gs X pins σ Q) X.Ck s
noncomputable def IZ(X:Am)(f:A3)(r:List V->A8->CA->Prop):Prop:=
 ∀(pins:List (A4×Obj))(s:AJ)(σ :St)(H:A8)(xs:List V)(us:List A3)(Q:CA),Inv X pins σ H s->Vals xs us->r xs H Q->
  AV (Al X.prog X.w) X.A (call f us) (Gs X pins σ Q) X.Ck s
noncomputable def p_(X:Am)(r:V->A8->(Bool->A8->Prop)->Prop):Prop:=
 ∀(pins:List (A4×Obj))(s:AJ)(σ :St)(H:A8)(x:V)(v:A3)(Q:Bool->A8->Prop),Inv X pins σ H s->RelV x v->r x H Q->
  AV (Al X.prog X.w) X.A (truthy v) (Wk X pins σ Q) X.Ck s
def S6(r:ET)(Be tb:TE):TE:=λσ H Q=>Be σ H λx H1=>tb σ H1 λy AS=>r x y AS Q
def o5(r:V->A8->CA->Prop)(Be:TE):TE:=λσ H Q=>Be σ H λx H1=>r x H1 Q
def Ip(C:Int->Int->Prop)(g:Int->Int->V):ET:=λx y H Q=>∃i j,x=.int i/\y=.int j/\C i j/\Q (g i j) H
def Kf(g:Int->Int->V):ET:=λx y H Q=>∃i j,x=.int i/\y=.int j/\Q (g i j) H
def jz(g:Int->V):V->A8->CA->Prop:=λx H Q=>∃i,x=.int i/\Q (g i) H
section
variable{X:Am}{a b c:At}{Be tb Gf:TE}{pos:Pos}
def dE(AB:Ae X a Be)(A1:Ae X b tb){pins:List (A4×Obj)}{s:AJ}{σ :St}{H:A8}{R:V->V->A8->Prop}(I:Inv X pins σ H s)(h:Be σ H λx H1=>tb σ H1 λy AS=>R x y AS){Q:A3->AJ->Prop}{f:A3->A3->Sem A3}(hf:∀v u s2 x y AS,Inv X pins σ AS s2->RelV x v->RelV y u->R x y AS->AV (Al X.prog X.w) X.A (f v u) Q X.Ck s2) :
  AV (Al X.prog X.w) X.A (Bb a X.env) (λv CY=>AV (Al X.prog X.w) X.A (Bb b X.env) (λu IW=>AV (Al X.prog X.w) X.A (f v u) Q X.Ck IW) X.Ck CY) X.Ck s:=by
 refine BG (AB pins s σ H _ I h) λv s1⟨x,H1,Ab,Ak,q1⟩=>?_;refine BG (A1 pins s1 σ H1 _ Ab q1) λu s2⟨y,AS,BU,B6,q2⟩=>?_;exact hf v u s2 x y AS BU Ak B6 q2
def P0{op:Operator}{r:ET}(ho:DQ X (J0 op) r)(AB:Ae X a Be)(A1:Ae X b tb):Ae X (.BinOp a op b pos) (S6 r Be tb):=by intro pins s σ H Q I h;exact wpAny_BinOp (dE AB A1 I h λv u s2 x y AS BU Aq BS q=>ho pins s2 σ AS x y v u Q BU Aq BS q)
def zy{op:UnaryOp}{r:V->A8->CA->Prop}(ho:dZ X (unaryOp op) r)(AB:Ae X a Be):Ae X (.UnaryOp op a pos) (o5 r Be):=by intro pins s σ H Q I h;exact UnaryOp_ (BG (AB pins s σ H _ I h) λv s1⟨x,H1,Ab,Ak,q1⟩=>ho pins s1 σ H1 x v Q Ab Ak q1)
def UI{f:A3->A3->Sem A3}{C:Int->Int->Prop}{g:Int->Int->Int}(rule:∀(i j:Int)(t u:Tok)(s:AJ)(Q:A3->AJ->Prop)(E:A3->AJ->Prop),C i j->Q (.int (g i j) s.toks) { s with toks:=s.toks+1 }->AV (Al X.prog X.w) X.A (f (.int i t) (.int j u)) Q E s) :
  DQ X f (Ip C λi j=>.int (g i j)):=by
 intro pins s σ H x y v u Q I Aq BS h;obtain⟨i,j,rfl,rfl,AD,q⟩:=h;obtain⟨t,rfl⟩:=Aq;obtain⟨t',rfl⟩:=BS;exact rule i j t t' s _ _ AD ⟨.int (g i j),H,I.tok _,⟨_,rfl⟩,q⟩
def b2{f:A3->A3->Sem A3}{g:Int->Int->Int}(rule:∀(i j:Int)(t u:Tok)(s:AJ)(Q:A3->AJ->Prop)(E:A3->AJ->Prop),Q (.int (g i j) s.toks) { s with toks:=s.toks+1 }->AV (Al X.prog X.w) X.A (f (.int i t) (.int j u)) Q E s) :
  DQ X f (Kf λi j=>.int (g i j)):=by
 intro pins s σ H x y v u Q I Aq BS h;obtain⟨i,j,rfl,rfl,q⟩:=h;obtain⟨t,rfl⟩:=Aq;obtain⟨t',rfl⟩:=BS;exact rule i j t t' s _ _ ⟨.int (g i j),H,I.tok _,⟨_,rfl⟩,q⟩
def Xp{f:A3->A3->Sem A3}{g:Int->Int->Bool}(rule:∀(i j:Int)(t u:Tok)(s:AJ)(Q:A3->AJ->Prop)(E:A3->AJ->Prop),Q (.bool (g i j)) s->AV (Al X.prog X.w) X.A (f (.int i t) (.int j u)) Q E s) :
  DQ X f (Kf λi j=>.AM (g i j)):=by
 intro pins s σ H x y v u Q I Aq BS h;obtain⟨i,j,rfl,rfl,q⟩:=h;obtain⟨t,rfl⟩:=Aq;obtain⟨t',rfl⟩:=BS;exact rule i j t t' s _ _ ⟨.AM (g i j),H,I,rfl,q⟩
def Rn(i j:Int):Prop:=0<j/\j<1073741824
def NS(i j:Int):Prop:=0<=j/\j<=1000000/\i.natAbs<2^64
def KJ(i j:Int):Prop:=(-(2^64)<i/\i<2^64)\/(-(2^64)<j/\j<2^64)
def KJ.ok{i j:Int}(h:KJ i j):IntMulOk i j:=by
 rcases h with⟨h1,h2⟩|⟨h1,h2⟩
 .exact .of_left (intBits_le_64 h1 h2)
 .exact .of_right (intBits_le_64 h1 h2)
def abU(k:Nat):(0:Int)<=2^k:=by rw[two_pow_cast];exact Int.natCast_nonneg _
def zE:DQ X (J0 .Add) (Kf λi j=>.int (i+j)):=b2 λ_ _ _ _ _ _ _ q=>add_int q
def yY:DQ X (J0 .Sub) (Kf λi j=>.int (i-j)):=b2 λ_ _ _ _ _ _ _ q=>sub_int q
def yU:DQ X (J0 .Mult) (Ip KJ λi j=>.int (i*j)):=UI λ_ _ _ _ _ _ _ AD q=>mul_int q AD.ok
def yS:DQ X (J0 .FloorDiv) (Ip Rn λi j=>.int (i/j)):=UI λi j _ _ _ _ _ AD q=>by have h1:(0:Int)<j:=AD.1;have h2:j<1073741824:=AD.2;exact floordiv_int (by lia) (by rw[oS i (by lia)];exact q) (.inl (PyProof.noPylong_small (by lia)))
def yT:DQ X (J0 .Mod) (Ip (λ_ j=>0<j) λi j=>.int (i%j)):=UI λi j _ _ _ _ _ AD q=>by have h1:(0:Int)<j:=AD;exact mod_int' (by lia) (by rw[Int.fmod_eq_emod_of_nonneg i (by lia)];exact q)
def yV:DQ X (J0 .Pow) (Ip NS λi j=>.int (i^j.toNat)):=UI λ_ _ _ _ _ _ _ AD q=>pow_int_small AD.1 AD.2.1 AD.2.2 q
def yX:DQ X (J0 .RShift) (Ip (λ_ j=>0<=j) λi j=>.int (i/2^j.toNat)):=UI λi j _ _ _ _ _ AD q=>
 rshift_int AD (by rw[oS i (abU _)];exact q)
def zH:DQ X (J0 .BitAnd) (Kf λi j=>.int (Builtin.bitAnd i j)):=b2 λ_ _ _ _ _ _ _ q=>and_int q
def abX{f:A3->Sem A3}{g:Int->Int}(rule:∀(i:Int)(t:Tok)(s:AJ)(Q:A3->AJ->Prop)(E:A3->AJ->Prop),Q (.int (g i) s.toks) { s with toks:=s.toks+1 }->AV (Al X.prog X.w) X.A (f (.int i t)) Q E s) :
  dZ X f (jz λi=>.int (g i)):=by
 intro pins s σ H x v Q I Aq h;obtain⟨i,rfl,q⟩:=h;obtain⟨t,rfl⟩:=Aq;exact rule i t s _ _ ⟨.int (g i),H,I.tok _,⟨_,rfl⟩,q⟩
def abY:dZ X (unaryOp .USub) (jz λi=>.int (-i)):=abX λ_ _ _ _ _ q=>neg_int q
end
section
variable{X:Am}{a b c:At}{Be tb Gf:TE}{pos:Pos}
def fg{pins:List (A4×Obj)}{σ :St}{H:A8}{s:AJ}{Q:CA}{k k':Bool}(I:Inv X pins σ H s)(q:Q (.AM k) H)(e:k=k'):Gs X pins σ Q (.bool k') s:=by subst e;exact⟨.AM k,H,I,rfl,q⟩
def Yw:DQ X (Fb .Lt) (Kf λi j=>.AM (decide (i<j))):=Xp λ_ _ _ _ _ _ _ q=>lt_int q
def Oz:DQ X (Fb .LtE) (Kf λi j=>.AM (decide (i<=j))):=Xp λ_ _ _ _ _ _ _ q=>le_int q
def jB:DQ X (Fb .Gt) (Kf λi j=>.AM (decide (j<i))):=Xp λ_ _ _ _ _ _ _ q=>gt_int q
def jA:DQ X (Fb .GtE) (Kf λi j=>.AM (decide (j<=i))):=Xp λ_ _ _ _ _ _ _ q=>ge_int q
def jC:DQ X (Fb .Is) (λx y H Q=>y=.non/\Q (.AM (decide (x=.non))) H):=by
 intro pins s σ H x y v u Q I Aq BS h;obtain⟨rfl,q⟩:=h;cases BS;refine is_none_gen (fg I q ?_)
 cases x<;>first
  |(cases Aq;rfl)
  |(obtain⟨t,rfl⟩:=Aq;rfl)
def jE:DQ X (Fb .IsNot) (λx y H Q=>y=.non/\Q (.AM (!decide (x=.non))) H):=by
 intro pins s σ H x y v u Q I Aq BS h;obtain⟨rfl,q⟩:=h;cases BS;refine isnot_none_gen (fg I q ?_)
 cases x<;>first
  |(cases Aq;rfl)
  |(obtain⟨t,rfl⟩:=Aq;rfl)
def DQ.or{f:A3->A3->Sem A3}{r BK:ET}(h:DQ X f r)(h':DQ X f BK):DQ X f (λx y H Q=>r x y H Q\/BK x y H Q):=by
 intro pins s σ H x y v u Q I Aq BS q;rcases q with q|q
 .exact h pins s σ H x y v u Q I Aq BS q
 .exact h' pins s σ H x y v u Q I Aq BS q
def HK(b:At){op:CmpOp}(h:op≠.In:=by decide)(h2:op≠.NotIn:=by decide):Lg op b=false:=by
 have A9:(op==CmpOp.In)=false:=by cases op<;>first|rfl|exact absurd rfl h
 have AE:(op==CmpOp.NotIn)=false:=by cases op<;>first|rfl|exact absurd rfl h2
 cases b<;>simp[Lg,A9,AE]
def Kz{op:CmpOp}{r:ET}(ho:DQ X (Fb op) r)(AB:Ae X a Be)(A1:Ae X b tb)(hm:Lg op b=false):Ae X (.Compare a [op] [b] pos) (S6 r Be tb):=by intro pins s σ H Q I h;exact wpAny_Compare1 (dE AB A1 I h λv u s2 x y AS BU Aq BS q=>ho pins s2 σ AS x y v u Q BU Aq BS q) hm
def o3(t:TE):TT:=λσ H Q=>t σ H λx A6=>∃k,x=.AM k/\Q k A6
def L1{op:CmpOp}{r:ET}(ho:DQ X (Fb op) r)(AB:Ae X a Be)(A1:Ae X b tb)(hm:Lg op b=false):E8 X (.Compare a [op] [b] pos) (o3 (S6 r Be tb)):=by
 intro pins s σ H Q I h;refine wpAny_isTrue_Compare1 (BG (AB pins s σ H _ I h) λv s1⟨x,H1,Ab,Ak,q1⟩=>BG (A1 pins s1 σ H1 _ Ab q1) λu s2⟨y,AS,BU,B6,q2⟩=>
  BG (ho pins s2 σ AS x y v u _ BU Ak B6 q2) λc s3⟨z,Bl,DZ,Ee,k,e,EI⟩=>?_) hm
 subst e;cases Ee;exact Ko ⟨Bl,DZ,EI⟩
def am(r BK:ET)(Be tb Gf:TE):TE:=λσ H Q=>Be σ H λx H1=>tb σ H1 λy AS=>r x y AS λz Bl=>∃k,z=.AM k/\
 (if k=true then Gf σ Bl λCD CM=>BK y CD CM Q else Q (.AM false) Bl)
def ym{op JJ:CmpOp}{r BK:ET}(ho:DQ X (Fb op) r)(F9:DQ X (Fb JJ) BK)(AB:Ae X a Be)(A1:Ae X b tb)(AD:Ae X c Gf)(hm:lastMarks [op,JJ] [b,c]=false:=by with_unfolding_all rfl):Ae X (.Compare a [op,JJ] [b,c] pos) (am r BK Be tb Gf):=by
 intro pins s σ H Q I h;refine Compare_chain (BG (AB pins s σ H _ I h) λv s1⟨x,H1,Ab,Ak,q1⟩=>chain_link (BG (A1 pins s1 σ H1 _ Ab q1) λu s2⟨y,AS,BU,B6,q2⟩=>
  BG (ho pins s2 σ AS x y v u _ BU Ak B6 q2) λd s3⟨z,Bl,DZ,Ee,k,e,EI⟩=>?_)) hm
 subst e;cases Ee;refine Ko ?_;cases k with
 |false=>exact ite_ff ⟨.AM false,Bl,DZ,rfl,EI⟩
 |true=>exact ite_tt (chain_last (BG (AD pins s3 σ Bl _ DZ EI) λCD s4⟨FK,CM,L4,LS,JK⟩=>F9 pins s4 σ CM y FK u CD Q L4 B6 LS JK))
def zp{op JJ:CmpOp}{r BK:ET}(ho:DQ X (Fb op) r)(F9:DQ X (Fb JJ) BK)(AB:Ae X a Be)(A1:Ae X b tb)(AD:Ae X c Gf)(hm:lastMarks [op,JJ] [b,c]=false:=by with_unfolding_all rfl):E8 X (.Compare a [op,JJ] [b,c] pos) (o3 (am r BK Be tb Gf)):=by
 intro pins s σ H Q I h;refine isTrue_chain (BG (AB pins s σ H _ I h) λv s1⟨x,H1,Ab,Ak,q1⟩=>test_link (BG (A1 pins s1 σ H1 _ Ab q1) λu s2⟨y,AS,BU,B6,q2⟩=>
  BG (ho pins s2 σ AS x y v u _ BU Ak B6 q2) λd s3⟨z,Bl,DZ,Ee,k,e,EI⟩=>?_)) hm
 subst e;cases Ee;refine Ko ?_;cases k with
 |false=>obtain⟨k',BC,Cc⟩:=EI;cases BC;exact ite_ff ⟨Bl,DZ,Cc⟩
 |true=>refine ite_tt (test_last (BG (AD pins s3 σ Bl _ DZ EI) λCD s4⟨FK,CM,L4,LS,JK⟩=>BG (F9 pins s4 σ CM y FK u CD _ L4 B6 LS JK) λd' s5⟨F5,DX,Rr,P1,k2,AE,Nc⟩=>?_));subst AE;cases P1;exact Ko ⟨DX,Rr,Nc⟩
noncomputable def pa(K:Ad)(x:V)(H:A8)(k:Bool):Prop:=
 match x with
 |.non=>k=false
 |.AM b=>k=b
 |.int i=>k=(i !=0)
 |.str y=>y.length<=Bu/\k=((y.length:Int) !=0)
 |.P6 y=>y.size<=Bu/\k=((y.size:Int) !=0)
 |.ref p=>(∃xs,EL K H p xs/\k=!xs.isEmpty)\/(∃xs,EM K H p xs/\k=!xs.isEmpty)\/∃AA,H p=some (.B3 AA)/\k=!AA.isEmpty
 |_=>False
def wJ{B_:Type}{AA:List (B_×V)}{vs:List (B_×A3)}(r:Fe AA vs):(!vs.isEmpty)=!AA.isEmpty:=by cases r<;>rfl
def iT{xs:List V}{its:List A3}(r:Vals xs its):(!its.toArray.isEmpty)=!xs.isEmpty:=by cases r<;>simp
def Sq:(Bu:Nat)<2^63:=by rw[Li];decide
def afs:p_ X (λx H Q=>∃k,pa X.K x H k/\Q k H):=by
 intro pins s σ H x v Q I Aq h;obtain⟨k,e,q⟩:=h;have AF:=Sq;have hs:Bu=16777216:=Li;cases x with
 |non=>cases Aq;have BC:k=false:=e;subst BC;exact truthy_none ⟨H,I,q⟩
 |AM b=>cases Aq;have BC:k=b:=e;subst BC;exact Ko ⟨H,I,q⟩
 |int i=>obtain⟨t,rfl⟩:=Aq;have BC:k=(i !=0):=e;subst BC;exact PySem.P.truthy_int ⟨H,I,q⟩
 |str y=>obtain⟨t,rfl⟩:=Aq;obtain⟨AN,BC⟩:y.length<=Bu/\k=((y.length:Int) !=0):=e;subst BC;exact PySem.P.truthy_str (by lia) ⟨H,I.tok _,q⟩
 |P6 y=>obtain⟨t,rfl⟩:=Aq;obtain⟨AN,BC⟩:y.size<=Bu/\k=((y.size:Int) !=0):=e;subst BC;exact PySem.W.truthy_bytes (by lia) ⟨H,I.tok _,q⟩
 |ref p=>
  cases Aq;have BC:(∃xs,EL X.K H p xs/\k=!xs.isEmpty)\/(∃xs,EM X.K H p xs/\k=!xs.isEmpty)\/∃AA,H p=some (.B3 AA)/\k=!AA.isEmpty:=e;rcases BC with⟨xs,AG,BC⟩|⟨xs,AG,BC⟩|⟨AA,AG,BC⟩
  .subst BC;obtain⟨its,r,pl,hz⟩:=I.list AG;have hlen:=r.length;exact wpAny_truthy_list pl.isList (by simp only[DI];lia) ⟨H,I.tok _,by rw[iT r];exact q⟩
  .subst BC;obtain⟨its,r,pl,hz⟩:=I.tuple AG;have hlen:=r.length;exact truthy_tuple pl (by simp only[DI];lia) ⟨H,I.tok _,by rw[iT r];exact q⟩
  .subst BC;obtain⟨hz,MB,vs,r,m⟩:AA.length<=Bu/\(p==Iu)=false/\∃vs,Fe AA vs/\s.heap.DictOf (Fi X.prog X.w) p vs:=I.Ax p _ AG;have hlen:AA.length=vs.length:=Paired.length r;exact wpAny_truthy_dict MB m (by lia) ⟨H,I.tok _,by rw[wJ r];exact q⟩
 |_=>exact(show False from e).elim
def zG:DQ X (J0 .Add) (λx y H Q=>∃i j,x=.str i/\y=.str j/\i.length+j.length<=Bu/\Q (.str (i++j)) H):=by intro pins s σ H x y v u Q I Aq BS h;obtain⟨i,j,rfl,rfl,hz,q⟩:=h;obtain⟨t,rfl⟩:=Aq;obtain⟨t',rfl⟩:=BS;exact add_str (λt' By=>⟨.str (i++j),H,I.tok _,⟨_,rfl⟩,q⟩) hz
def vals1{x:V}{us:List A3}(r:Vals [x] us):∃u,us=[u]/\RelV x u:=by
 cases r with
 |cons Ak B6=>cases B6;exact⟨_,rfl,Ak⟩
def vals2{x y:V}{us:List A3}(r:Vals [x,y] us):∃u CD,us=[u,CD]/\RelV x u/\RelV y CD:=by
 cases r with
 |cons Ak B6=>
  cases B6 with
  |cons Ee LS=>cases LS;exact⟨_,_,rfl,Ak,Ee⟩
def qQ:IZ X (.type "int") (λxs H Q=>(∃i,xs=[.int i]/\Q (.int i) H)\/∃k,xs=[.AM k]/\Q (.int (if k then 1 else 0)) H):=by
 intro pins s σ H xs us Q I r h;rcases h with⟨i,rfl,q⟩|⟨k,rfl,q⟩
 .obtain⟨u,rfl,t,rfl⟩:=vals1 r;exact call_int_int ⟨.int i,H,I,⟨_,rfl⟩,q⟩
 .obtain⟨u,rfl,Ak⟩:=vals1 r;cases Ak;exact call_int_bool ⟨.int (if k then 1 else 0),H,I.tok _,⟨_,rfl⟩,q⟩
def qY:IZ X (.type "str") (λxs H Q=>∃i,xs=[.int i]/\i.natAbs.log2<1920/\Q (.str (toString i)) H):=by intro pins s σ H xs us Q I r h;obtain⟨i,rfl,hz,q⟩:=h;obtain⟨u,rfl,t,rfl⟩:=vals1 r;exact PySem.P.str_of_int hz ⟨.str _,H,I.tok _,⟨_,rfl⟩,q⟩
noncomputable def fT(K:Ad)(x:V)(H:A8)(n:Nat):Prop:=
 match x with
 |.str y=>y.length<=Bu/\n=y.length
 |.P6 y=>y.size<=Bu/\n=y.size
 |.ref p=>(∃xs,EL K H p xs/\n=xs.length)\/∃xs,EM K H p xs/\n=xs.length
 |_=>False
def qS:IZ X (.builtin "len") (λxs H Q=>∃x n,xs=[x]/\fT X.K x H n/\Q (.int n) H):=by
 intro pins s σ H xs us Q I r h;obtain⟨x,n,rfl,e,q⟩:=h;obtain⟨u,rfl,Aq⟩:=vals1 r;have AF:=Sq;have hs:Bu=16777216:=Li;cases x with
 |str y=>obtain⟨t,rfl⟩:=Aq;obtain⟨AN,BC⟩:y.length<=Bu/\n=y.length:=e;subst BC;exact len_str (by lia) ⟨.int _,H,I.tok _,⟨_,rfl⟩,q⟩
 |P6 y=>obtain⟨t,rfl⟩:=Aq;obtain⟨AN,BC⟩:y.size<=Bu/\n=y.size:=e;subst BC;exact PySem.W.len_bytes (by lia) ⟨.int _,H,I.tok _,⟨_,rfl⟩,q⟩
 |ref p=>
  cases Aq;have BC:(∃xs,EL X.K H p xs/\n=xs.length)\/∃xs,EM X.K H p xs/\n=xs.length:=e;rcases BC with⟨xs,AG,BC⟩|⟨xs,AG,BC⟩
  .subst BC;obtain⟨its,BK,pl,hz⟩:=I.list AG;have hlen:=BK.length;exact Calls.call_len_list pl.isList (by simp only[DI];lia) ⟨.int xs.length,H,I.tok _,⟨_,by simp only[DI];rw[hlen]⟩,q⟩
  .subst BC;obtain⟨its,BK,pl,hz⟩:=I.tuple AG;have hlen:=BK.length;exact len_tuple pl (by simp only[DI];lia) ⟨.int xs.length,H,I.tok _,⟨_,by simp only[DI];rw[hlen]⟩,q⟩
 |_=>exact(show False from e).elim
end
structure QT(h:Ar)(x BY C:A4)(Du:Str->Option A3):Prop where
 obj:h.get? x=some (Og C BY)
 ns:h.Ns1 BY Du
 ne:BY≠x
def wm{h:Ar}{BY:A4}{Du:Str->Option A3}(n:h.Ns1 BY Du):∃Di,h.get? BY=some Di/\∀name,Vp name Di=some (Du name):=by
 obtain⟨o,es,Ai,ho,hd,AK,_,hm⟩:=n;refine⟨o,ho,λname=>?_⟩;have e:=hm name;unfold nsFind findBy at e;rw[<-Array.find?_toList]at e;unfold Vp;rw[hd];dsimp only
 split
 .rename_i y q;rw[q]at e;exact congrArg some e
 .rename_i q;rw[q]at e;have a:es.toList.any (·.refKey)=false:=by
   rw[List.any_eq_false];intro y AN;obtain⟨z,t,Qn⟩:=AK y (Array.mem_toList_iff.mp AN);simp[DictEntry.refKey,Qn]
  have GS:¬es.toList.any (·.refKey)=true:=by rw[a];exact JR
  rw[if_neg GS];exact congrArg some e
def QT.look{h:Ar}{x BY C:A4}{Du:Str->Option A3}(I:QT h x BY C Du):∃Di,PySem.W.InstAt h x (Og C BY) C (some Di)/\∀name,Vp name Di=some (Du name):=
 let⟨Di,ho,AF⟩:=wm I.ns
 ⟨Di,⟨I.obj,rfl,rfl,ho⟩,AF⟩
section
variable{prog:Bh}{w:BP}{A:CW}{E:A3->AJ->Prop}{s:AJ}{K:Ad}{x BY C f:A4}{Du:Str->Option A3}{name:Str}{v:A3}
def get_map{expr:Bool}{Q:A3->AJ->Prop}(X:K.In s.heap)(I:QT s.heap x BY C Du)(Aj:RY K C name=true)(hh:T6 K C=true)(AB:Ir K (.ref C) name=some none)(BB:Du name=some v)(Wp:PySem.W.handedIn v=true)(h:Q v { s with toks:=s.toks+1 }) :
  AV (Al prog w) A (getAttr (.ref x) name expr) Q E s:=by
 obtain⟨Di,BO,AF⟩:=I.look;exact PySem.W.get_value X BO (bg Aj).1 (PySem.W.findObj_own hh AB rfl (by rw[AF,BB])) Wp h
def u7{pl:Sem Bool}{Q:A3×List A3->AJ->Prop}(X:K.In s.heap)(I:QT s.heap x BY C Du)(Aj:RY K C name=true)(hf:Ir K (.ref C) name=some (some (.ref f)))(BQ:TF K (.ref f)=true)(BB:Du name=none)(h:Q (.ref f,[.ref x]) s) :
  AV (Al prog w) A (QC (.ref x) name pl) Q E s:=by
 obtain⟨Di,BO,AF⟩:=I.look;exact PySem.W.method_fn X BO (bg Aj).1 (bg Aj).2 hf (beq_iff_eq.mp BQ) (by show(Vp name Di).map (·.isSome)=some false;rw[AF,BB];rfl) h
def aah{ns:List Str}{Q:Unit->AJ->Prop}(X:K.In s.heap)(I:QT s.heap x BY C Du)(hs:Ir K (.ref C) "__setattr__"=some (some (.builtin "object.__setattr__")))(AT:Vb K C=true)(BQ:c0 K C name=some none)(hh:T6 K C=true)(hw:cG Du ns)(hsz:ns.length<=Bu)(h:∀h',QT h' x BY C (λy=>if y=name then some v else Du y)->Hm BY s.heap h'->Q () { s with heap:=h',toks:=s.toks+2 }) :
  AV (Al prog w) A (setAttr (.ref x) name v) Q E s:=by
 obtain⟨Di,BO,AF⟩:=I.look;refine PySem.W.set_plain X BO hs (PySem.W.osa_open (s:={ s with toks:=s.toks+1 }) (r:=none) X BO AT BQ λb=>?_);obtain⟨cd,AD,JG⟩:=PySem.W.any_some hh;have AG:s.heap.get? x=some ⟨.ref C,some BY,.plain,#[]⟩:=I.obj;refine AL (Aw (AL (AL (wpAny_loadPart AG (AL (PySem.W.Looks.here (s:={ s with toks:=s.toks+1 }) (PySem.W.looks_clsIn X AD) ?_))))));rw[JG];refine Aw (a:=some BY) (AL (Aw (AL ?_)));refine wpAny_nsSet1 (s:={ s with toks:=s.toks+1 }) I.ns λh' XB Gp=>?_;obtain⟨aew,afF,afE,v9,th,tc⟩:=XB.count (PySem.Within.cons name v hw);refine AL (wpAny_lookBehind v9 (by rw[th];exact pastItsLine_dict (I8 tc (by rw[D7];lia))) ?_);exact Aw (h _ ⟨(Gp.2 _ (Ku I.ne)).trans I.obj,XB,I.ne⟩ Gp)
def wT {R:Result->AJ->Prop} {vs:List A3} {kw:List (Str×A3)} (X:K.In s.heap) (hm:c1 K C=true)(A7:Ir K (.ref C) "__init__"=some (some (.ref f))) (hf:PySem.W.typeIn K (.ref f)=some (.type "function"))(h:Lj (Al prog w) (A.under (.builtin "type.__call__" ⟨.ref C::vs,kw⟩)) (.call (.ref f) ⟨.ref (s.heap.objs.size+1)::vs,kw⟩) (PySem.W.InitBack (s.heap.objs.size+1) R)
    { s with heap:=(s.heap.push NI).push (Og C s.heap.objs.size) }) :
  Lj (Al prog w) A (.call (.ref C) ⟨vs,kw⟩) R s:=by
 obtain⟨hh,g,d,t,os⟩:=s;exact PySem.W.make_core (PySem.W.makes_of X hm) (PySem.W.looks_findIn X A7) (λself=>PySem.W.bind_fn X self hf) (.inl rfl) h
end
def HC(f:Str)(v:V):List (Str×V)->List (Str×V)
 |[]=>[(f,v)]
 |(g,x)::r=>if g=f then(g,v)::r else(g,x)::HC f v r
theorem iN(f g:Str)(v:V):∀Ay:List (Str×V),(HC f v Ay).lookup g=if g=f then some v else Ay.lookup g
 |[]=>by
  show Q1 g [(f,v)]=_;by_cases h:g=f
  .have A1:(g==f)=true:=beq_iff_eq.mpr h;simp only[Q1,A1,if_pos h]
  .have A1:(g==f)=false:=beq_eq_false_iff_ne.mpr h;simp only[Q1,A1,if_neg h]
 |(k,x)::r=>by
  have Bk:=iN f g v r;rw[show HC f v ((k,x)::r)=(if k=f then(k,v)::r else(k,x)::HC f v r)from rfl];by_cases AK:k=f
  .rw[if_pos AK];by_cases h:g=k
   .have A1:(g==k)=true:=beq_iff_eq.mpr h;simp only[Q1,A1,if_pos (h.trans AK)]
   .have A1:(g==k)=false:=beq_eq_false_iff_ne.mpr h;simp only[Q1,A1,if_neg (λe:g=f=>h (e.trans AK.symm))]
  .rw[if_neg AK];by_cases h:g=k
   .have A1:(g==k)=true:=beq_iff_eq.mpr h;simp only[Q1,A1,if_neg (λe:g=f=>AK (h.symm.trans e))]
   .have A1:(g==k)=false:=beq_eq_false_iff_ne.mpr h;simp only[Q1,A1];exact Bk
theorem Zb(f:Str)(v:V):∀Ay:List (Str×V),f∈(HC f v Ay).map (·.1)/\∀g,g∈Ay.map (·.1)->g∈(HC f v Ay).map (·.1)
 |[]=>⟨by simp[HC],λg h=>by simp at h⟩
 |(k,x)::r=>by
  obtain⟨B1,BW⟩:=Zb f v r;rw[show HC f v ((k,x)::r)=(if k=f then(k,v)::r else(k,x)::HC f v r)from rfl];by_cases AK:k=f
  .rw[if_pos AK];subst AK;exact⟨by simp,λg h=>by simpa using h⟩
  .rw[if_neg AK];refine⟨?_,λg h=>?_⟩
   .rw[DB];exact FD _ B1
   .rw[DB]at h |-;rcases List.mem_cons.mp h with e|e
    .exact List.mem_cons.mpr (.inl e)
    .exact FD _ (BW g e)
theorem iL(f:Str)(v:V):∀Ay:List (Str×V),(HC f v Ay).length<=Ay.length+1
 |[]=>by simp[HC]
 |(k,x)::r=>by
  have Bk:=iL f v r;rw[show HC f v ((k,x)::r)=(if k=f then(k,v)::r else(k,x)::HC f v r)from rfl];by_cases AK:k=f
  .rw[if_pos AK,D7,D7];lia
  .rw[if_neg AK,D7,D7];lia
def Hd.some_of{v:V}{o:Option A3}(r:Hd (some v) o):∃u,o=some u/\RelV v u:=by
 cases o with
 |none=>exact(show False from r).elim
 |some u=>exact⟨u,rfl,r⟩
def Hd.none_of{o:Option A3}(r:Hd none o):o=none:=by
 cases o with
 |none=>rfl
 |some u=>exact(show False from r).elim
def tZ{v:V}{u:A3}(r:RelV v u):PySem.W.handedIn u=true:=by
 cases v with
 |non=>cases(show u=H3 from r);rfl
 |AM b=>cases(show u=Q8 b from r);rfl
 |int i=>obtain⟨t,e⟩:=(show ∃t,u=Ra i t from r);cases e;rfl
 |str x=>obtain⟨t,e⟩:=(show ∃t,u=Rb x t from r);cases e;rfl
 |P6 b=>obtain⟨t,e⟩:=(show ∃t,u=Value.bytes b t from r);cases e;rfl
 |Qf b=>obtain⟨t,e⟩:=(show ∃t,u=cM b t from r);cases e;rfl
 |ref a=>cases(show u=Ce a from r);rfl
 |ty n=>cases(show u=NL n from r);rfl
section
variable{P:Bh}{w:BP}{K:Ad}{H A6:A8}{h h':Ar}{a C BY:A4}{Ay NG:List (Str×V)}
def YG(Ax:E7 P w K H h)(e:H a=some (.ins C BY Ay)):∃Du,QT h a BY C Du/\(∀f,Hd (Ay.lookup f) (Du f))/\cG Du (Ay.map (·.1))/\Ay.length<=1000/\H BY=some (.own a):=by obtain⟨d,z,ne,Bc,Du,n,r,q⟩:=(show Ds P w K H h a (.ins C BY Ay)from Ax a _ e);exact⟨Du,⟨Bc,n,ne⟩,r,q,z,d⟩
end
structure Js(K:Ad)(C:A4):Prop where
 aa0:RY K C Str.empty=true
 hd:T6 K C=true
 po:Vb K C=true
 Nd:Ir K (.ref C) "__setattr__"=some (some (.builtin "object.__setattr__"))
def Js.get{K:Ad}{C:A4}(c:Js K C)(f:Str):RY K C f=true:=c.aa0
def QS(K:Ad)(C:A4)(f:Str):Prop:=Ir K (.ref C) f=some none
def QS.acA{K:Ad}{C:A4}{f:Str}(n:QS K C f):c0 K C f=some none:=by unfold c0;rw[show Ir K (.ref C) f=some none from n];rfl
structure Meth(K:Ad)(C:A4)(m:Str)(f:A4):Prop where
 at_:Ir K (.ref C) m=some (some (.ref f))
 fn:TF K (.ref f)=true
 Bd:JP K (.ref f)=true
section
variable{X:Am}{pins:List (A4×Obj)}{σ :St}{H:A8}{s:AJ}{a C BY:A4}{Ay:List (Str×V)}{f:Str}{v:V}{A:CW}{E:A3->AJ->Prop}
def u9{b:Bool}{Q:A3->AJ->Prop}(I:Inv X pins σ H s)(e:H a=some (.ins C BY Ay))(c:Js X.K C)(n:QS X.K C f)(l:Ay.lookup f=some v)(h:∀u s',Inv X pins σ H s'->RelV v u->Q u s'):AV (Al X.prog X.w) A (getAttr (.ref a) f b) Q E s:=by obtain⟨Du,O,r,_,_,_⟩:=YG I.Ax e;obtain⟨u,Av,FZ⟩:=Hd.some_of (v:=v) (o:=Du f) (by rw[<-l];exact r f);exact get_map I.EH O (c.get f) c.hd n Av (tZ FZ) (h u _ (I.tok _) FZ)
def e4{m:Str}{g:A4}{pl:Sem Bool}{Q:A3×List A3->AJ->Prop}(I:Inv X pins σ H s)(e:H a=some (.ins C BY Ay))(c:Js X.K C)(k:Meth X.K C m g)(l:Ay.lookup m=none)(h:Q (.ref g,[.ref a]) s):AV (Al X.prog X.w) A (QC (.ref a) m pl) Q E s:=by obtain⟨Du,O,r,_,_,_⟩:=YG I.Ax e;have AW:Du m=none:=Hd.none_of (by rw[<-l];exact r m);exact u7 I.EH O (c.get m) k.at_ k.fn AW h
def aaj{y:V}{u:A3}{Q:Unit->AJ->Prop}(I:Inv X pins σ H s)(e:H a=some (.ins C BY Ay))(c:Js X.K C)(n:QS X.K C f)(AF:Ay.length<1000)(BS:RelV y u)(h:∀s',Inv X pins σ (upd H a (.ins C BY (HC f y Ay))) s'->Q () s'):AV (Al X.prog X.w) A (setAttr (.ref a) f u) Q E s:=by
 obtain⟨Du,O,r,I6,_,ho⟩:=YG I.Ax e;have hz:(Ay.map (·.1)).length<=Bu:=by rw[DV,Li];lia
 refine aah I.EH O c.Nd c.po n.acA c.hd I6 hz λh' U8 GB=>h _ ?_;have hd:∃o,h'.get? BY=some o:=let⟨o,_,_,BC,_⟩:=U8.ns;⟨o,BC⟩
 refine I.write (x:=a) (e:=BY) (by rw[e];exact IA) (.inr ho) (λb q A1 z=>(GB.2 b A1).trans z) hd ?_;refine⟨by rw[D2 O.ne];exact ho,?_,O.ne,U8.obj,_,U8.ns,λg=>?_,λg Aj=>?_⟩
 .have:=iL f y Ay;lia
 .show Hd ((HC f y Ay).lookup g) (if g=f then some u else Du g);rw[iN];by_cases q:g=f
  .rw[if_pos q,if_pos q];exact BS
  .rw[if_neg q,if_neg q];exact r g
 .by_cases q:g=f
  .rw[q];exact(Zb f y Ay).1
  .refine(Zb f y Ay).2 g (I6 g λz=>Aj ?_);show(if g=f then some u else Du g)=none;rw[if_neg q];exact z
def Inv.made(I:Inv X pins σ H s):Inv X pins σ (upd (upd H s.heap.objs.size (.own (s.heap.objs.size+1))) (s.heap.objs.size+1) (.ins C s.heap.objs.size []))
  { s with heap:=(s.heap.push NI).push (Og C s.heap.objs.size) }:=by
 have A9:(s.heap.push NI).get? s.heap.objs.size=some NI:=Fc s.heap rfl;have AE:((s.heap.push NI).push (Og C s.heap.objs.size)).get? (s.heap.objs.size+1)=some (Og C s.heap.objs.size):=by
  have:=Fc (s.heap.push NI) (o:=Og C s.heap.objs.size) rfl
  rwa [K3]at this
 have Er:(s.heap.push NI).Ns s.heap.objs.size (λ_=>none):=⟨NI,#[],_,A9,rfl,(λe he=>absurd he (by simp)),λ_=>rfl⟩;have Ab:=I.laid (a:=s.heap.objs.size) (o:=.own (s.heap.objs.size+1)) (h':=s.heap.push NI) (t':=s.toks) (λb u q=>Cz _ q) (C1 _) ⟨_,A9⟩;refine Ab.laid (a:=s.heap.objs.size+1) (o:=.ins C s.heap.objs.size []) (t':=s.toks) (λb u q=>Cz _ q) (Nat.le_of_eq (K3 _ _)) ?_;have ne:s.heap.objs.size≠s.heap.objs.size+1:=Ef (Pr _);refine⟨by rw[D2 ne,EX],Gi _,ne,AE,λ_=>none,(Heap.Ns1.of_empty Er).at λo q=>Cz _ q,λ_=>IA,λy AN=>absurd rfl AN⟩
def pO{prog:Bh}{w:BP}{env:Env}{e:At}{f:Str}{pos:Pos}{s:AJ}{Q:A3->AJ->Prop}(A1:NH e f env (Bb e env)=Bb e env)(h:AV (Al prog w) A (Bb e env) (λo CY=>AV (Al prog w) A (getAttr o f true) Q E CY) E s):AV (Al prog w) A (Bb (.Attribute e f pos) env) Q E s:=
 Attribute_any_ h (by rw[arm_eval_Attribute,A1])
end
def nf(K:Ad)(Be:TE)(f:Str):TE:=λσ H Q=>Be σ H λx H1=>∃a C BY Ay v,x=.ref a/\H1 a=some (.ins C BY Ay)/\Js K C/\QS K C f/\Ay.lookup f=some v/\Q v H1
noncomputable def kN(K:Ad)(Be OR:TE)(f:Str):F6:=λD σ H=>OR σ H λy H1=>Be σ H1 λx AS=>∃a C BY Ay,x=.ref a/\AS a=some (.ins C BY Ay)/\Js K C/\QS K C f/\Ay.length<1000/\
 D.AP σ (upd AS a (.ins C BY (HC f y Ay)))
section
variable{X:Am}{o e value:At}{f:Str}{pos pos' VN:Pos}{Be OR:TE}
def yH(he:Ae X e Be)(A1:NH e f X.env (Bb e X.env)=Bb e X.env):Ae X (.Attribute e f pos) (nf X.K Be f):=by intro pins s σ H Q I h;refine pO A1 (BG (he pins s σ H _ I h) λu s1⟨x,H1,Ab,Aq,a,C,BY,Ay,v,ex,Bg,c,n,l,q⟩=>?_);subst ex;obtain rfl:u=Ce a:=Aq;exact u9 Ab Bg c n l λII s2 BU FZ=>⟨v,H1,BU,FZ,q⟩
def zb(AB:Ae X o Be)(BB:Ae X value OR)(hs:QB value (some (.Attribute o f pos')) pos.line X.env=pure false):DL X (.Assign [.Attribute o f pos'] value pos) (kN X.K Be OR f):=by intro pins s σ H D I h;refine plainObj_wpAny_Assign_Attribute (BG (BB pins s σ H _ I h) λu s1⟨y,H1,Ab,BS,q⟩=>BG (AB pins s1 σ H1 _ Ab q) λCQ s2⟨x,AS,BU,Aq,a,C,BY,Ay,ex,Bg,c,n,l,q2⟩=>?_) hs;subst ex;obtain rfl:CQ=Ce a:=Aq;exact aaj BU Bg c n l BS λs3 DZ=>⟨σ,_,DZ,q2⟩
def aep {pl:Sem Bool} {m:Str} {apos:Pos} {args:List At} {pins:List (A4×Obj)} {s:AJ} {σ :St} {H:A8} {Q:A3->AJ->Prop} {DU:TE} (he:Ae X e DU) (I:Inv X pins σ H s)(h:DU σ H λx H1=>∃a C BY Ay g,x=.ref a/\H1 a=some (.ins C BY Ay)/\Js X.K C/\Meth X.K C m g/\Ay.lookup m=none/\
    ∀s1,Inv X pins σ H1 s1->AV (Al X.prog X.w) X.A (Rd pos (.ref g) [.ref a] (GO pos (CJ args X.env)) (NO pos (NJ [] X.env))) Q X.Ck s1)
  (BQ:Bb (.Call (.Attribute e m apos) args [] pos) X.env=(do
    let CQ <-Bb e X.env
    NQ apos.atName
    let(f,first) <-JU [CQ] (QC CQ m pl)
    Rd pos f first (GO pos (CJ args X.env)) (NO pos (NJ [] X.env)))) :
  AV (Al X.prog X.w) X.A (Bb (.Call (.Attribute e m apos) args [] pos) X.env) Q X.Ck s:=by
 refine bk (pl:=pl) (BG (he pins s σ H _ I h) λu s1⟨x,H1,Ab,Aq,a,C,BY,Ay,g,ex,Bg,c,k,l,q⟩=>?_) BQ;subst ex;obtain rfl:u=Ce a:=Aq;exact e4 Ab Bg c k l (q s1 Ab)
end
section
variable{X:Am}{pins:List (A4×Obj)}{σ :St}{H:A8}{s:AJ}{A:CW}{E:A3->AJ->Prop}{Q:A3->AJ->Prop}{c:A3}{b:Bool}
inductive L6(K:Ad)(H:A8):V->A3->Prop where
 |non:L6 K H .non (.type "NoneType")
 |AM (x:Bool):L6 K H (.AM x) (.type "bool")
 |int (i:Int):L6 K H (.int i) (.type "int")
 |str (x:Str):L6 K H (.str x) (.type "str")
 |Qf (x:UInt64):L6 K H (.Qf x) (.type "float")
 |lst {a:A4} {xs:List V} (e:H a=some (.lst xs)):L6 K H (.ref a) (.type "list")
 |EF {a:A4} {o:Obj} {xs:List V} (e:H a=some (.EF o (.lst xs))):L6 K H (.ref a) (.type "list")
 |tup {a:A4} {xs:List V} (e:H a=some (.tup xs)):L6 K H (.ref a) (.type "tuple")
 |B3 {a:A4} {AA:List (Key×V)} (e:H a=some (.B3 AA)):L6 K H (.ref a) (.type "dict")
 |Da {a:A4} {AA:List (Cf×V)} (e:H a=some (.Da AA)):L6 K H (.ref a) (.type "dict")
 |ins {a C BY:A4} {Ay:List (Str×V)} (e:H a=some (.ins C BY Ay)) (cl:Js K C) (AB:Ir K (.ref C) "__class__"=some (some (.builtin "object.__class__")))
    (AW:PySem.W.specialIn K (.builtin "object.__class__") "__get__"=some (some (.builtin "getset_descriptor.__get__"))) (Wo:PySem.W.takesIn K (.builtin "object.__class__")=some true)
    (hm:PySem.W.mroIn K C (.type "object")=some true):L6 K H (.ref a) (.ref C)
def ZY{x:V}{u t:A3}(I:Inv X pins σ H s)(Aq:RelV x u)(ty:L6 X.K H x t)(e:Vq X.K t c=some b)(h:∀By,Q (.bool b) { s with toks:=By }) :
  AV (Al X.prog X.w) A (call (.builtin "isinstance") [u,c]) Q E s:=by
 cases ty with
 |non=>cases(show u=H3 from Aq);exact IT p5 I.EH IA e (λz=>nomatch z) h
 |AM y=>cases(show u=Q8 y from Aq);exact IT p6 I.EH IA e (λz=>nomatch z) h
 |int i=>obtain⟨t,q⟩:=(show ∃t,u=Ra i t from Aq);cases q;exact IT PySem.W.kitx_int I.EH IA e (λz=>nomatch z) h
 |str y=>obtain⟨t,q⟩:=(show ∃t,u=Rb y t from Aq);cases q;exact IT PySem.W.kitx_str I.EH IA e (λz=>nomatch z) h
 |Qf y=>obtain⟨t,q⟩:=(show ∃t,u=cM y t from Aq);cases q;exact IT PySem.W.kitx_float I.EH IA e (λz=>nomatch z) h
 | @lst a xs Bg=>cases(show u=Ce a from Aq);obtain⟨_,_,n,_,h1⟩:=(show Ds X.prog X.w X.K H s.heap a (.lst xs)from I.Ax a _ Bg);exact IT p7 I.EH ⟨_,h1,rfl⟩ e (λz=>nomatch z) h
 | @EF a Bc xs Bg=>cases(show u=Ce a from Aq);obtain⟨_,_,_,n,_,h1⟩:=(show Ds X.prog X.w X.K H s.heap a (.EF Bc (.lst xs))from I.Ax a _ Bg);exact IT p7 I.EH ⟨_,h1,rfl⟩ e (λz=>nomatch z) h
 | @tup a xs Bg=>cases(show u=Ce a from Aq);obtain⟨_,_,_,p⟩:=(show Ds X.prog X.w X.K H s.heap a (.tup xs)from I.Ax a _ Bg);obtain⟨o,h1,h2,_⟩:=p;exact IT pG I.EH ⟨o,h1,h2⟩ e (λz=>nomatch z) h
 | @B3 a AA Bg=>cases(show u=Ce a from Aq);obtain⟨_,_,vs,_,p⟩:=(show Ds X.prog X.w X.K H s.heap a (.B3 AA)from I.Ax a _ Bg);obtain⟨o,es,Ai,h1,h2,_⟩:=p;exact IT p8 I.EH ⟨o,h1,h2.1⟩ e (λz=>nomatch z) h
 | @Da a AA Bg=>cases(show u=Ce a from Aq);obtain⟨_,_,xs,_,o,es,Ai,h1,h2,_⟩:=(show Ds X.prog X.w X.K H s.heap a (.Da AA)from I.Ax a _ Bg);exact IT p8 I.EH ⟨o,h1,h2.1⟩ e (λz=>nomatch z) h
 | @ins a C BY Ay Bg cl AB AW Wo hm=>cases(show u=Ce a from Aq);obtain⟨Du,O,_⟩:=YG I.Ax Bg;obtain⟨Di,BO,_⟩:=O.look;exact IT (PySem.W.kitx_own (cl.get _) cl.hd AB AW Wo hm) I.EH BO e (λz=>nomatch z) h
end
structure Cu(k:Nat)(A:CW):Prop where
 hd:A.handled=none
 Ea:A.depth+3*k+5<recursionLimit
 un:A.units+16*k+200<Cq
def Cu.mono{j k:Nat}{A:CW}(r:Cu k A)(h:j<=k):Cu j A:=⟨r.hd,by have:=r.Ea;lia,by have:=r.un;lia⟩
theorem Cu.deeper{k:Nat}{A:CW}(r:Cu (k+1) A)(env:Env):Cu k (A.deeper env):=
 ⟨r.hd,by have:=r.Ea;show A.depth+1+3*k+5<_;lia,by have:=r.un;show A.units+3+16*k+200<_;lia⟩
def wS{A:CW}{C:A4}{us:List A3}{kw:List (Str×A3)}:(A.under (.builtin "type.__call__" ⟨.ref C::us,kw⟩)).depth=A.depth+1:=by
 first|rfl|simp[cH,Code.weight,Code.isCreation,Code.isGuard,Code.isCaller,Code.frames,cI,guardIds]
def wU{A:CW}{C:A4}{us:List A3}{kw:List (Str×A3)}:(A.under (.builtin "type.__call__" ⟨.ref C::us,kw⟩)).units=A.units+1:=by
 first|rfl|simp[cH,Code.cUnits,Code.frames,cI]
def Cu.make{k:Nat}{A:CW}(r:Cu (k+1) A)(C:A4)(us:List A3)(kw:List (Str×A3)):Cu k (A.under (.builtin "type.__call__" ⟨.ref C::us,kw⟩)):=
 ⟨r.hd,by have:=r.Ea;rw[wS];lia,by have:=r.un;rw[wU];lia⟩
theorem Cu.depth{k:Nat}{A:CW}(r:Cu k A):A.depth<recursionLimit:=by have:=r.Ea;lia
theorem Cu.units{k:Nat}{A:CW}(r:Cu k A):A.units+64<Cq:=by have:=r.un;lia
def Yc:FM:=λ_ H Q=>Q [] H
def Ya(Be:TE)(acC:FM):FM:=λσ H Q=>Be σ H λx H1=>acC σ H1 λxs AS=>Q (x::xs) AS
section
variable{X:Am}{e:At}{es:List At}{DU:TE}{t:FM}{pos:Pos}
def VC:Gv X [] Yc:=λ_ _ _ _ H Q I h=>T7 ⟨[],H,I,.nil,h⟩
def SV(AB:Ae X e DU)(Ao:Gv X es t)(hs:CJ (e::es) X.env=(false,Bb e X.env)::CJ es X.env:=by rfl):Gv X (e::es) (Ya DU t):=by intro pos pins s σ H Q I h;rw[hs];show AV _ _ (spliced ((false,Bb e X.env)::GO pos (CJ es X.env))) _ _ s;refine TC (BG (AB pins s σ H _ I h) λu s1⟨x,H1,Ab,Ak,q1⟩=>?_);exact BG (Ao pos pins s1 σ H1 _ Ab q1) λus s2⟨xs,AS,BU,B6,q2⟩=>⟨x::xs,AS,BU,.cons Ak B6,q2⟩
def o4(t:FM):TE:=λσ H Q=>t σ H λxs H1=>xs.length<=Bu/\∀p,H1 p=none->Q (.ref p) (upd H1 p (.tup xs))
def ni(t:FM):TE:=λσ H Q=>t σ H λxs H1=>xs.length<=Bu/\∀p,H1 p=none->Q (.ref p) (upd H1 p (.lst xs))
def zx{D6}(h:Gv X es t):Ae X (.Tuple es D6 pos) (o4 t):=by intro pins s σ H Q I AU;refine wpAny_Tuple_spliced (BG (h pos pins s σ H _ I AU) λus s1⟨xs,H1,Ab,r,z,q⟩=>⟨by rw[<-r.length];exact z,?_⟩);have hf:H1 s1.heap.objs.size=none:=Ab.Ax.fresh (C1 _);refine⟨.ref s1.heap.objs.size,upd H1 s1.heap.objs.size (.tup xs),Ab.laid (t':=s1.toks) (λb u e=>Cz _ e) (C1 _) ?_,rfl,q _ hf⟩;exact⟨z,us,r,⟨_,Fc _ rfl,rfl,_,rfl⟩⟩
def yN(h:Gv X es t):Ae X (.List es pos) (ni t):=by intro pins s σ H Q I AU;refine wpAny_List_spliced (BG (h pos pins s σ H _ I AU) λus s1⟨xs,H1,Ab,r,z,q⟩=>⟨by rw[<-r.length];exact z,?_⟩);have hf:H1 s1.heap.objs.size=none:=Ab.Ax.fresh (C1 _);refine⟨.ref s1.heap.objs.size,upd H1 s1.heap.objs.size (.lst xs),Ab.laid (t':=s1.toks) (λb u e=>Cz _ e) (C1 _) ?_,rfl,q _ hf⟩;exact⟨z,us,0,r,Fc _ rfl⟩
end
abbrev Dg:=List V->A8->CA->FT->Prop
abbrev KL:=List Env->A8->AJ->FT->A3->AJ->Prop
structure Qq(P:Bh)(w:BP)(K:Ad)(mg:Str->Option A3)(base:Ar)(A:CW)(outer:List Env)(s:AJ)(H:A8):Prop where
 frames:A.frames=some outer
 mod:Mod K mg base
 bs:∀b o,base.get? b=some o->s.heap.get? b=some o/\H b=none
 P5:base.objs.size<=s.heap.objs.size
 JY:s.heap.FunFrames base outer
 Qh:∀b∈Ek outer,H b=none
 Ax:E7 P w K H s.heap
 bare:MU s.gens
noncomputable def cV(outer:List Env)(P:Bh)(w:BP)(K:Ad)(H:A8)(s:AJ)(Q:CA)(u:A3)(s':AJ):Prop:=
 ∃v A6,s'.os=s.os/\MU s'.gens/\GH (Ek outer) [] H A6 s.heap s'.heap/\E7 P w K A6 s'.heap/\RelV v u/\Q v A6
noncomputable def Dy(CX:KL)(outer:List Env)(P:Bh)(w:BP)(K:Ad)(H:A8)(s:AJ)(Q:CA)(E:FT)(r:Result)(s':AJ):Prop:=
 match r with
 |.ok (.ret u)=>cV outer P w K H s Q u s'
 |.ok _=>False
 |.error e=>CX outer H s E e s'
structure IL(P:Bh)(w:BP)(K:Ad)(mg:Str->Option A3)(base:Ar)(CX:KL)(k:Nat)(f:A4)(fd:HU)(ps:List Str)(sp:Dg):Prop where
 len:∀vs H Q E,sp vs H Q E->vs.length=ps.length
 run:∀(A:CW)(outer:List Env)(s:AJ)(H:A8)(args:Args)(us:List A3)(vs:List V)(Q:CA)(E:FT),Cu k A->Qq P w K mg base A outer s H->BindsTo s fd args (ps.zip us)->Vals vs us->sp vs H Q E->
  Lj (Al P w) A (.call (.ref f) args) (Dy CX outer P w K H s Q E) s
def IL.imp{P:Bh}{w:BP}{K:Ad}{mg:Str->Option A3}{base:Ar}{CX:KL}{k:Nat}{f:A4}{fd:HU}{ps:List Str}{sp mP:Dg}(F:IL P w K mg base CX k f fd ps sp)(h:∀vs H Q E,mP vs H Q E->sp vs H Q E):IL P w K mg base CX k f fd ps mP:=
 ⟨λvs H Q E q=>F.len vs H Q E (h _ _ _ _ q),λA outer s H args us vs Q E Ao he A1 BB hs=>F.run A outer s H args us vs Q E Ao he A1 BB (h _ _ _ _ hs)⟩
def Qq.make{P:Bh}{w:BP}{K:Ad}{mg:Str->Option A3}{base:Ar}{A:CW}{outer:List Env}{s:AJ}{H:A8}(e:Qq P w K mg base A outer s H)(C:A4)(us:List A3)(kw:List (Str×A3)) :
  Qq P w K mg base (A.under (.builtin "type.__call__" ⟨.ref C::us,kw⟩)) outer s H:=⟨by first|exact e.frames|(simpa[cH,Code.envs,cI,pushEnvs]using e.frames),e.mod,e.bs,e.P5,e.JY,e.Qh,e.Ax,e.bare⟩
section
variable{X:Am}{pins:List (A4×Obj)}{σ :St}{H:A8}{s s':AJ}
def Inv.g8(I:Inv X pins σ H s):Qq X.prog X.w X.K X.mg X.base X.A X.stack s H:=
 ⟨I.ok.frames,I.ok.mod,I.bs,I8 I.ok.P5 I.ZJ,I.stack,I.ah,I.Ax,I.bare⟩
def Inv.after{Q:CA}{u:A3}(I:Inv X pins σ H s)(h:cV X.stack X.prog X.w X.K H s Q u s'):Gs X pins σ Q u s':=by obtain⟨v,A6,os,bare,un,Ax,r,q⟩:=h;obtain⟨hh,g,d,t,b3⟩:=s';obtain rfl:b3=s.os:=os;exact⟨v,A6,I.call (h':=hh) (g':=g) (d':=d) (t':=t) (ch:=[]) un Ax bare (λb z=>absurd z (by simp)),r,q⟩
end
def m6(sp:Dg)(H7:List V)(E:FT)(t:FM):TE:=λσ H Q=>t σ H λvs H1=>sp (vs++H7) H1 Q E
def av(C:A4)(m:Str)(sp:Dg)(H7:List V)(E:FT)(Be:TE)(t:FM):TE:=λσ H Q=>Be σ H λx H1=>∃a BY Ay,x=.ref a/\H1 a=some (.ins C BY Ay)/\Ay.lookup m=none/\
 t σ H1 λvs AS=>sp (x::(vs++H7)) AS Q E
noncomputable def nj(C:A4)(sp:Dg)(H7:List V)(E:FT)(t:FM):TE:=λσ H Q=>t σ H λvs H1=>∀x BY,H1 x=none->H1 BY=none->BY≠x->
 sp (.ref x::(vs++H7)) (upd (upd H1 BY (.own x)) x (.ins C BY [])) (λv AS=>v=.non/\Q (.ref x) AS) E
def Binds(K:Ad)(fd:HU)(ps:List Str)(ds:List A3):Prop:=
 ∀(s:AJ)(us:List A3),K.In s.heap->(us++ds).length=ps.length->BindsTo s fd ⟨us,[]⟩ (ps.zip (us++ds))
def Binds.all{K:Ad}{fd:HU}{ps:List Str}(h:∀us:List A3,us.length=ps.length->bindArgs fd ⟨us,[]⟩=pure (ps.zip us)):Binds K fd ps []:=λs us _ AF=>by rw[MS]at AF |-;exact .of_eq (h us AF)
def Passes(CX:KL)(X:Am)(E:FT):Prop:=∀(pins:List (A4×Obj))(σ :St)(H:A8)(s:AJ)(e:A3)(s':AJ),Inv X pins σ H s->CX X.stack H s E e s'->X.Ck e s'
section
variable{X:Am}{CX:KL}{k:Nat}{f C:A4}{fd:HU}{ps:List Str}{sp:Dg}{H7:List V}{ds:List A3}{E:FT}{x m:Str}{p pos apos:Pos}{e o:At}{es:List At}{Be:TE}{t:FM}
def aU{pins:List (A4×Obj)}{σ :St}{H:A8}{s:AJ}{Q:CA}{us:List A3}{vs:List V}(F:IL X.prog X.w X.K X.mg X.base CX k f fd ps sp)(Ao:Cu k X.A)(A1:Binds X.K fd ps ds)(hd:Vals H7 ds)(AG:Passes CX X E)(I:Inv X pins σ H s)(r:Vals vs us)(h:sp (vs++H7) H Q E):AV (Al X.prog X.w) X.A (call (.ref f) us) (Gs X pins σ Q) X.Ck s:=by
 have B6:Vals (vs++H7) (us++ds):=r.append hd;have AF:(us++ds).length=ps.length:=by rw[<-B6.length];exact F.len _ _ _ _ h
 refine wpAny_call (R_ (F.run X.A X.stack s H ⟨us,[]⟩ (us++ds) (vs++H7) Q E Ao I.g8 (A1 s us I.EH AF) B6 h) λr s' AU=>?_);cases r with
 |error e=>exact AG pins σ H s e s' I AU
 |ok Gm=>
  cases Gm with
  |ret u=>exact I.after AU
  |next=>exact Hq AU
  |brk=>exact Hq AU
  |cont=>exact Hq AU
def yj(F:IL X.prog X.w X.K X.mg X.base CX k f fd ps sp)(Ao:Cu k X.A)(Aj:EJ X x)(hm:X.mg x=some (.ref f))(AK:JP X.K (.ref f)=true)(A1:Binds X.K fd ps ds)(hd:Vals H7 ds)(AG:Passes CX X E)(AB:Gv X (e::es) t)(KS:(x==("__debug__" :Str))=false:=by decide)(he:CJ (e::es) X.env=(false,Bb e X.env)::CJ es X.env:=by rfl)(GL:(GO pos (CJ es X.env)).any (·.1)=false:=by rfl) :
  Ae X (.Call (.Name x p) (e::es) [] pos) (m6 sp H7 E t):=by
 intro pins s σ H Q I h;refine T4 (Xt I Aj hm ?_ KS);refine bi (h₀:=X.base) I.ok.mod.Je AK (BG (AB pos pins s σ H _ I h) λus s1⟨vs,H1,Ab,r,q⟩=>⟨Ab.EH,?_⟩) he GL;exact aU F Ao A1 hd AG Ab r q
def yP {pl:Sem Bool} (he:Ae X o Be) (c:Js X.K C) (hm:Meth X.K C m f) (F:IL X.prog X.w X.K X.mg X.base CX k f fd ps sp) (Ao:Cu k X.A) (A1:Binds X.K fd ps ds) (hd:Vals H7 ds) (AG:Passes CX X E) (AB:Gv X (e::es) t)(HG:CJ (e::es) X.env=(false,Bb e X.env)::CJ es X.env:=by rfl) (GL:(GO pos (CJ es X.env)).any (·.1)=false:=by rfl)(BQ:Bb (.Call (.Attribute o m apos) (e::es) [] pos) X.env=(do
    let CQ <-Bb o X.env
    NQ apos.atName
    let(f,first) <-JU [CQ] (QC CQ m pl)
    Rd pos f first (GO pos (CJ (e::es) X.env)) (NO pos (NJ [] X.env))):=by rfl) :
  Ae X (.Call (.Attribute o m apos) (e::es) [] pos) (av C m sp H7 E Be t):=by
 intro pins s σ H Q I h;refine bk (pl:=pl) (BG (he pins s σ H _ I h) λu s1⟨x,H1,Ab,Aq,a,BY,Ay,ex,Bg,l,q⟩=>?_) BQ;subst ex;obtain rfl:u=Ce a:=Aq;refine e4 Ab Bg c hm l ?_;refine bi (first:=[.ref a]) (h₀:=X.base) I.ok.mod.Je hm.Bd (BG (AB pos pins s1 σ H1 _ Ab q) λus s2⟨vs,AS,BU,r,q2⟩=>⟨BU.EH,?_⟩) HG GL;exact aU (us:=.ref a::us) (vs:=.ref a::vs) F Ao A1 hd AG BU (.cons rfl r) q2
def yr {pl:Sem Bool} (he:Ae X o Be) (c:Js X.K C) (hm:Meth X.K C m f) (F:IL X.prog X.w X.K X.mg X.base CX k f fd ps sp) (Ao:Cu k X.A) (A1:Binds X.K fd ps ds) (hd:Vals H7 ds) (AG:Passes CX X E)(BQ:Bb (.Call (.Attribute o m apos) [] [] pos) X.env=(do
    let CQ <-Bb o X.env
    NQ apos.atName
    let(f,first) <-JU [CQ] (QC CQ m pl)
    Rd pos f first (GO pos (CJ [] X.env)) (NO pos (NJ [] X.env))):=by rfl) :
  Ae X (.Call (.Attribute o m apos) [] [] pos) (av C m sp H7 E Be Yc):=by
 intro pins s σ H Q I h;refine bk (pl:=pl) (BG (he pins s σ H _ I h) λu s1⟨x,H1,Ab,Aq,a,BY,Ay,ex,Bg,l,q⟩=>?_) BQ;subst ex;obtain rfl:u=Ce a:=Aq;refine e4 Ab Bg c hm l ?_;exact PySem.W.callWith_K0 (first:=[.ref a]) Ab.EH hm.Bd (aU (us:=[.ref a]) (vs:=[.ref a]) F Ao A1 hd AG Ab (.cons rfl .nil) q)
structure Wg(K:Ad)(C f:A4):Prop where
 makes:c1 K C=true
 init:Ir K (.ref C) "__init__"=some (some (.ref f))
 fn:TF K (.ref f)=true
 Bd:JP K (.ref C)=true
def aaa{pins:List (A4×Obj)}{σ :St}{H:A8}{s:AJ}{Q:CA}{us:List A3}{vs:List V}(M:Wg X.K C f)(F:IL X.prog X.w X.K X.mg X.base CX k f fd ps sp)(Ao:Cu (k+1) X.A)(A1:Binds X.K fd ps ds)(hd:Vals H7 ds)(AG:Passes CX X E)(I:Inv X pins σ H s)(r:Vals vs us)(h:∀x BY,H x=none->H BY=none->BY≠x->sp (.ref x::(vs++H7)) (upd (upd H BY (.own x)) x (.ins C BY [])) (λv AS=>v=.non/\Q (.ref x) AS) E) :
  AV (Al X.prog X.w) X.A (call (.ref C) us) (Gs X pins σ Q) X.Ck s:=by
 have AU:=h (s.heap.objs.size+1) s.heap.objs.size (I.Ax.fresh (Q5 _)) (I.Ax.fresh (C1 _)) (Ef (Pr _));have BU:=Inv.made (C:=C) I;have B6:Vals (V.ref (s.heap.objs.size+1)::(vs++H7)) (Ce (s.heap.objs.size+1)::(us++ds)):=.cons rfl (r.append hd);have AF:(Ce (s.heap.objs.size+1)::us++ds).length=ps.length:=by have e:=B6.length;rw[F.len _ _ _ _ AU]at e;exact e.symm
 refine wpAny_call (wT (f:=f) I.EH M.makes M.init (beq_iff_eq.mp M.fn) (R_ (F.run _ X.stack _ _ ⟨Ce (s.heap.objs.size+1)::us,[]⟩ (Ce (s.heap.objs.size+1)::(us++ds)) _ _ E (Ao.make C us [])
  (BU.g8.make C us []) (A1 _ (Ce (s.heap.objs.size+1)::us) BU.EH AF) B6 AU) λr s' Uq=>?_))
 cases r with
 |error e=>exact AG pins σ _ _ e s' BU Uq
 |ok Gm=>
  cases Gm with
  |ret u=>obtain⟨v,A6,DZ,Bx,ev,EI⟩:=BU.after Uq;subst ev;exact⟨Bx,⟨V.ref (s.heap.objs.size+1),A6,DZ,rfl,EI⟩⟩
  |next=>exact Hq Uq
  |brk=>exact Hq Uq
  |cont=>exact Hq Uq
def yO(M:Wg X.K C f)(F:IL X.prog X.w X.K X.mg X.base CX k f fd ps sp)(Ao:Cu (k+1) X.A)(Aj:EJ X x)(hm:X.mg x=some (.ref C))(A1:Binds X.K fd ps ds)(hd:Vals H7 ds)(AG:Passes CX X E)(AB:Gv X (e::es) t)(KS:(x==("__debug__" :Str))=false:=by decide)(he:CJ (e::es) X.env=(false,Bb e X.env)::CJ es X.env:=by rfl)(GL:(GO pos (CJ es X.env)).any (·.1)=false:=by rfl) :
  Ae X (.Call (.Name x p) (e::es) [] pos) (nj C sp H7 E t):=by
 intro pins s σ H Q I h;refine T4 (Xt I Aj hm ?_ KS);refine bi (h₀:=X.base) I.ok.mod.Je M.Bd (BG (AB pos pins s σ H _ I h) λus s1⟨vs,H1,Ab,r,q⟩=>⟨Ab.EH,?_⟩) he GL;exact aaa M F Ao A1 hd AG Ab r q
end
section
variable{X:Am}{CX:KL}{k:Nat}{f C:A4}{fd:HU}{ps ks:List Str}{sp:Dg}{E:FT}{x m:Str}{p pos apos aei:Pos}{e o:At}{es:List At}{aek:List QD}{DU Be:TE}{t By:FM}{nm:Option Str}
variable{g:List A3->List A3->List A3}{aeX:List V->List V->List V}
end
structure CH(N P:List Str)(sc:Ey):Prop where
 kind:sc.kind=.function
 co:sc.isCoroutine=false
 gen:sc.isGenerator=false
 C3:N.Nodup
 pre:N.take P.length=P
 par:∀x∈P,sc.names.lookup x=some .local\/sc.names.lookup x=some .cell
 xm:∀y∈sc.names,y.2≠.free
theorem ef{JV:Str->Option K4}{x:Str}:∀{binds:List (Str×A3)}{m:Str->Option A3},(∀v,(x,v)∉binds)->bindL JV binds m x=m x
 |[],_,_=>rfl
 |(n,v)::r,m,h=>by
  unfold bindL;rw[ef λw hw=>h w (FD _ hw)]
  split
  .have:x≠n:=by rintro rfl;exact h v Fy
   simp[this]
  .rfl
theorem ed{JV:Str->Option K4}{x:Str}:∀{binds:List (Str×A3)}{m:Str->Option A3},(∀v,(x,v)∉binds)->bindC JV binds m x=m x
 |[],_,_=>rfl
 |(n,v)::r,m,h=>by
  unfold bindC;rw[ed λw hw=>h w (FD _ hw)]
  split
  .rfl
  .have:x≠n:=by rintro rfl;exact h v Fy
   simp[this]
theorem ee{JV:Str->Option K4}{x:Str}{v:A3}:∀{P:List Str}{vs:List A3}{i:Nat}{m:Str->Option A3},P.Nodup->P[i]?=some x->vs[i]?=some v->JV x=some .local->
  bindL JV (P.zip vs) m x=some v
 |[],_,_,_,_,h,_,_=>by simp at h
 |_::_,[],_,_,_,_,h,_=>by simp at h
 |p::P,w::vs,0,m,C3,h1,h2,AK=>by simp at h1 h2;subst h1;subst h2;show bindL JV ((p,w)::P.zip vs) m p=_;unfold bindL;rw[ef λv BB=>(List.nodup_cons.mp C3).1 (c2 BB).1,if_pos AK];simp
 |p::P,w::vs,i+1,m,C3,h1,h2,AK=>by show bindL JV ((p,w)::P.zip vs) m x=_;unfold bindL;exact ee (i:=i) (List.nodup_cons.mp C3).2 (by simpa using h1) (by simpa using h2) AK
theorem eb{JV:Str->Option K4}{x:Str}{v:A3}:∀{P:List Str}{vs:List A3}{i:Nat}{m:Str->Option A3},P.Nodup->P[i]?=some x->vs[i]?=some v->JV x≠some .local->
  bindC JV (P.zip vs) m x=some v
 |[],_,_,_,_,h,_,_=>by simp at h
 |_::_,[],_,_,_,_,h,_=>by simp at h
 |p::P,w::vs,0,m,C3,h1,h2,AK=>by simp at h1 h2;subst h1;subst h2;show bindC JV ((p,w)::P.zip vs) m p=_;unfold bindC;rw[ed λv BB=>(List.nodup_cons.mp C3).1 (c2 BB).1,if_neg AK];simp
 |p::P,w::vs,i+1,m,C3,h1,h2,AK=>by show bindC JV ((p,w)::P.zip vs) m x=_;unfold bindC;exact eb (i:=i) (List.nodup_cons.mp C3).2 (by simpa using h1) (by simpa using h2) AK
def start(N:List Str)(vs:List V):St:=vs.map some++FE (N.length-vs.length) none
noncomputable def JW(CX:KL)(P:Bh)(w:BP)(K:Ad)(mg:Str->Option A3)(base:Ar)(N:List Str)(qual:Str)(scope:Ey)(f:A4)(cd:A3)(A:CW)(outer:List Env)(s:AJ)(H:A8)(E:FT):Am where
 prog:=P
 w:=w
 K:=K
 mg:=mg
 base:=base
 A:=A.deeper (NR qual scope s.heap.objs.size f cd)
 N:=N
 Fl:=s
 M0:=H
 env:=NR qual scope s.heap.objs.size f cd
 outer:=outer
 stack:=NR qual scope s.heap.objs.size f cd::outer
 ex:=[]
 calm:=true
 fn:=λ_=>true
 GN:=[]
 Ck:=λe s'=>AV (Al P w) (A.deeper (NR qual scope s.heap.objs.size f cd)) (leaving (NR qual scope s.heap.objs.size f cd) e) (λ_ JL=>CX outer H s E e JL) (λBC JL=>CX outer H s E BC JL) s'
def eG{sc:Ey}{n:Nat}{x:Str}(h:sc.names.lookup x=some .cell):∃c,(HV n sc.names []).lookup x=some c:=by have q:=oh sc.names n [] (.inl h);exact Option.isSome_iff_exists.mp q
def wH{CX:KL}{P:Bh}{w:BP}{K:Ad}{mg:Str->Option A3}{base:Ar}{N ps:List Str}{qual:Str}{scope:Ey}{f:A4}{cd:A3}{A:CW}{outer:List Env}{s s1:AJ}{H:A8}{E:FT}{us:List A3}{vs:List V}(S:CH N ps scope)(hd:A.handled=none)(Ep:Qq P w K mg base A outer s H)(AF:vs.length=ps.length)(r:Vals vs us)(x:InCallC s s.heap.objs.size (bindL (NR qual scope s.heap.objs.size f cd).kindOf (ps.zip us) λ_=>none) (HV (s.heap.objs.size+1) scope.names []) (bindC (NR qual scope s.heap.objs.size f cd).kindOf (ps.zip us) λ_=>none) s1) :
  Inv (JW CX P w K mg base N qual scope f cd A outer s H E) [] (start N vs) H s1:=by
 have GL:ps.length<=N.length:=by have:=congrArg RZ S.pre;rw[JS]at this;lia
 obtain⟨h1,By,rfl,AK⟩:=x.done;have UF:∀b:A4,b∉(JW CX P w K mg base N qual scope f cd A outer s H E).ex:=λb z=>absurd (show b∈([]:List A4)from z) (by simp)
 refine⟨⟨Ep.mod,S.kind,rfl,rfl,C1 _,λy z c h1 h2=>?_,λy AN=>?_,λy c _ h=>?_,λ_=>hd,Around.frames_deeper Ep.frames,.inr ⟨rfl,rfl⟩,λb z=>absurd z (UF b),Ep.bs,Ep.P5,λb _ _=>UF b,λb z=>absurd z (UF b),Ep.JY,Ep.Qh⟩,
  rfl,Ep.bare,GH.kept AK,⟨_,x.toInCall.ns,λi y v h1 h2 B2=>?_⟩,λy c h=>⟨_,x.cell y c h⟩,Ep.Ax.fresh (C1 _),λy c h=>?_,λp AT=>absurd (show p∈([]:List (A4×Obj))from AT) (by simp),Ep.Ax.kept AK,?_⟩
 .exact name_of_addr x.apart (MO h1) (MO h2)
 .have AN:scope.names.lookup y=some .cell\/scope.names.lookup y=some .free:=AN;rcases AN with AN|AN
  .exact eG AN
  .exact absurd rfl (S.xm _ (MO AN))
 .exact Q2 (x.above y c (MO h))
 .have A7:i<vs.length:=by
    unfold start at h2;by_cases A7:i<vs.length
    .exact A7
    .rw[H2 (by simpa using A7)]at h2;rw[Vl]at h2
     split at h2<;>cases h2
  have AB:vs[i]?=some v:=by
   unfold start at h2;rw[EZ (by simpa using A7),Em]at h2;cases e:vs[i]? with
   |none=>rw[e]at h2;cases h2
   |some a=>rw[e]at h2;cases h2;rfl
  obtain⟨u,Av,Bx⟩:=r.get AB;have AT:ps[i]?=some y:=by rw[<-S.pre,ba (by lia)];exact h1
  have jZ:ps.Nodup:=by rw[<-S.pre];exact S.C3.sublist (List.take_sublist _ _)
  refine⟨u,Bx,?_⟩;rcases S.par y (Hn AT)with k|k
  .exact .inl ⟨k,ee jZ AT Av k⟩
  .obtain⟨c,e⟩:=eG (n:=s.heap.objs.size+1) k;refine .inr ⟨.inl k,c,e,?_⟩;have q:=x.cell y c e;rw[eb jZ AT Av (by show scope.names.lookup y≠_;rw[k];decide)]at q;exact q
 .exact Ep.Ax.fresh (Q2 (x.above y c (MO h)))
 .unfold start;show _=N.length;rw[EP,DV,TA];lia
def fh {CX:KL} {P:Bh} {w:BP} {K:Ad} {mg:Str->Option A3} {base:Ar} {k:Nat} {f:A4} {name qual:Str} {params:Arguments} {body:List BM} {scope:Ey} {Xd CU doc pm F1 Cv Fu:A3} {an Di:Option A4}{NY:Array (Option A3)} {N ps:List Str} {sp:Dg} (lk:K.lookup f=some ⟨Fu,Di,.func (JT name qual params body scope Xd CU doc pm an F1 Cv),NY⟩) (KR:MQ K F1 qual=true) (S:CH N ps scope)(len:∀vs H Q E,sp vs H Q E->vs.length=ps.length)(eC:∀(A:CW)(outer:List Env)(s:AJ)(H:A8)(vs:List V)(Q:CA)(E:FT),Cu k (A.deeper (NR qual scope s.heap.objs.size f F1))->sp vs H Q E->
    ∃t,H4 (JW CX P w K mg base N qual scope f F1 A outer s H E) body t/\t { AP:=λ_ A6=>Q .non A6,Do:=Q } (start N vs) H) :
  IL P w K mg base CX (k+1) f (JT name qual params body scope Xd CU doc pm an F1 Cv) ps sp:=by
 refine⟨len,λA outer s H args us vs Q E Ao Ep A1 r LJ=>?_⟩;have AF:=len _ _ _ _ LJ;have Ht:K.In s.heap:=Ep.mod.Je.keeps λb o e=>(Ep.bs b o e).1;have lim:s.heap.NoLimit:=Ep.mod.nolimit.keeps λb o e=>(Ep.bs b o e).1;have tS:∀y∈ps.zip us,scope.names.lookup y.1=some .local\/(scope.names.lookup y.1=some .cell/\((HV (s.heap.objs.size+1) scope.names []).lookup y.1).isSome=true):=λ⟨n,v⟩ AN=>by
  rcases S.par n (c2 AN).1 with q|q
  .exact .inl q
  .exact .inr ⟨q,oh _ _ _ (.inl q)⟩
 refine codeAny_call_function Ao.depth (Ht _ _ lk) rfl S.co S.gen rfl (PySem.W.codeRec_of Ht KR) (A1 _ _ _ _ ?_);refine wpAny_newFunctionEnv_cells S.kind tS λenv he s1 x=>?_;subst he;refine⟨lim.keeps x.toInCall.keep,codeAny_func ?_⟩;obtain⟨t,BQ,AU⟩:=eC A outer s H vs Q E (Ao.deeper _) LJ;have I:Inv (JW CX P w K mg base N qual scope f F1 A outer s H E) [] (start N vs) H s1:=wH S Ao.hd Ep AF r x;refine I9 (BQ [] s1 (start N vs) H _ I AU) (λGm s' hs=>?_) λe s' hs=>hs;have fin:∀{σ' :St}{A6:A8}{v:V}{u:A3},Inv (JW CX P w K mg base N qual scope f F1 A outer s H E) [] σ' A6 s'->RelV v u->Q v A6->cV outer P w K H s Q u s':=
  λ{σ' A6 v u} BO Bx q=>⟨v,A6,BO.os,BO.bare,BO.base,BO.Ax,Bx,q⟩
 cases Gm with
 |ret u=>obtain⟨v,σ',A6,BO,Bx,q⟩:=hs;exact fin BO Bx q
 |next=>obtain⟨σ',A6,BO,q⟩:=hs;exact fin (v:=V.non) (u:=H3) BO rfl q
 |brk=>obtain⟨_,_,_,q⟩:=hs;exact Hq q
 |cont=>obtain⟨_,_,_,q⟩:=hs;exact Hq q
section
variable{X:Am}{x:Str}{p pos:Pos}{e:At}{es:List At}{t:FM}{id T:String}{r:List V->A8->CA->Prop}
def VK(r:List V->A8->CA->Prop)(t:FM):TE:=λσ H Q=>t σ H λvs H1=>r vs H1 Q
def VD(AD:IZ X (.builtin id) r)(Aj:EJ X x)(hm:X.mg x=none)(BB:NN x=some (.builtin id))(AB:Gv X (e::es) t)(AW:x≠"__name__":=by decide)(KS:(x==("__debug__" :Str))=false:=by decide)(he:CJ (e::es) X.env=(false,Bb e X.env)::CJ es X.env:=by rfl)(GL:(GO pos (CJ es X.env)).any (·.1)=false:=by rfl):Ae X (.Call (.Name x p) (e::es) [] pos) (VK r t):=by intro pins s σ H Q I h;refine T4 (Nx I Aj hm BB ?_ AW KS);exact PyProof.Rows.callWith_builtin1 (BG (AB pos pins s σ H _ I h) λus s1⟨vs,H1,Ab,Ak,q1⟩=>AD pins s1 σ H1 vs us Q Ab Ak q1) he GL
def VE(AD:IZ X (.type T) r)(Aj:EJ X x)(hm:X.mg x=none)(BB:NN x=some (.type T))(AB:Gv X (e::es) t)(AW:x≠"__name__":=by decide)(KS:(x==("__debug__" :Str))=false:=by decide)(he:CJ (e::es) X.env=(false,Bb e X.env)::CJ es X.env:=by rfl)(GL:(GO pos (CJ es X.env)).any (·.1)=false:=by rfl):Ae X (.Call (.Name x p) (e::es) [] pos) (VK r t):=by intro pins s σ H Q I h;refine T4 (Nx I Aj hm BB ?_ AW KS);exact Pp (BG (AB pos pins s σ H _ I h) λus s1⟨vs,H1,Ab,Ak,q1⟩=>AD pins s1 σ H1 vs us Q Ab Ak q1) he GL
end
end B8
namespace Ez
open PySem PyProof.Rows
section
open PySem.SeqAt
open PySem.AutoSeq1 (wpAny_loadPart')
open PySem.MeetsSeq PySem.MeetsSeq2 PySem.MeetsSeq3
end
section
variable{prog:Bh}{w:BP}{A:CW}{E:A3->AJ->Prop}{s:AJ}
def qb{t b:A4}{vs ws:List A3}{Q:A3->AJ->Prop}(BQ:IsTup s.heap t vs.toArray)(A1:IsTup s.heap b ws.toArray)(BB:vs≠[])(h1:ws=[]->Q (.ref t) s)(h2:ws≠[]->Q (.ref s.heap.objs.size) { s with heap:=s.heap.push { cls:=.type "tuple",data:=.seq (vs++ws).toArray } })(hsz:vs.length+ws.length<=Bu):AV (Al prog w) A (J0 .Add (.ref t) (.ref b)) Q E s:=by
 obtain⟨⟨cls,dd,data,C9⟩,ho,AD,n,hd⟩:=id BQ;obtain⟨⟨af9,gc,data2,Sa⟩,XD,gu,Cw,hd2⟩:=id A1;simp only at AD hd gu hd2;subst AD hd gu hd2;have e:vs.toArray++ws.toArray=(vs++ws).toArray:=by simp
 by_cases hw:ws=[]
 .exact concat_meets ⟨_,ho,rfl⟩ ⟨_,XD,rfl⟩ noFill_tuple_add seq_tuple_add oi oz (ow _ _)
    (tuple_addW1 t b vs.toArray ws.toArray n Cw dd gc C9 Sa (by simpa using BB) (by simp[hw])) ⟨ho,XD,h1 hw⟩
 .refine concat_meets ⟨_,ho,rfl⟩ ⟨_,XD,rfl⟩ noFill_tuple_add seq_tuple_add oi oz (ow _ _)
    (tuple_addW2 t b vs.toArray ws.toArray n Cw dd gc C9 Sa (by simpa using BB) (by simpa using hw) (by rw[DI,DI];exact hsz)) ⟨ho,XD,?_⟩
  rw[e];exact h2 hw
def CS(n d:Nat):Option Int->Nat
 |none=>d
 |some v=>if v<0 then(v+(n:Int)).toNat else min v.toNat n
def aae(n d:Nat):CS n d none=d:=rfl
def aad(n d k:Nat):CS n d (some (k:Int))=min k n:=by show(if(k:Int)<0 then((k:Int)+(n:Int)).toNat else min (k:Int).toNat n)=min k n;rw[if_neg (by lia),Ob]
def aac(n d:Nat)(hd:d<=n)(o:Option Int):CS n d o<=n:=by
 cases o with
 |none=>exact hd
 |some v=>
  show(if v<0 then(v+(n:Int)).toNat else min v.toNat n)<=n;by_cases BB:v<0
  .rw[if_pos BB];lia
  .rw[if_neg BB];exact Nat.min_le_right _ _
def gL(v:Int)(n d:Nat):(if v<0 then max (v+(n:Int)) 0 else min v (n:Int))=((CS n d (some v):Nat):Int):=by
 show(if v<0 then max (v+(n:Int)) 0 else min v (n:Int))=(((if v<0 then(v+(n:Int)).toNat else min v.toNat n):Nat):Int);by_cases BB:v<0
 .simp only[if_pos BB];lia
 .simp only[if_neg BB];lia
def ph(lo A7:Option Int)(n:Nat):b_ lo A7 1 (n:Int)=(((CS n 0 lo:Nat):Int),((CS n n A7:Nat):Int)):=by
 have h1:¬((1:Int)<0):=by lia
 unfold b_;simp only[h1,if_false];refine Prod.ext ?_ ?_
 .cases lo with
  |none=>rfl
  |some v=>exact gL v n 0
 .cases A7 with
  |none=>rfl
  |some v=>exact gL v n n
def aaF(i j:Nat):Vf (i:Int) (j:Int) 1=j-i:=by
 unfold Vf;have h1:(1:Int)>0:=by lia
 simp only[h1,if_true,Int.ediv_one]
 split<;>lia
def mL{v:A3}{o:Option Int}{Q:Option Int->AJ->Prop}(p:IsPart v o)(h:Q o s):AV (Al prog w) A (Builtin.Slice.slicePartIndex v) Q E s:=by
 cases p with
 |none=>exact slicePart_none h
 |int i t=>exact slicePart_int h
def aaO{C9:A4}{Dk HX:A3}{lo A7:Option Int}{n:Nat}{Q:Int×Int×Nat->AJ->Prop}(hs:s.heap.IsSliceOf C9 Dk HX .none)(pl:IsPart Dk lo)(pu:IsPart HX A7)(h:Q (((CS n 0 lo:Nat):Int),1,CS n n A7-CS n 0 lo) s):AV (Al prog w) A (oT (.ref C9) (pure (n:Int))) Q E s:=by obtain⟨os,QG,gx,X7⟩:=id hs;unfold oT Builtin.Slice.sliceFields;refine AL (AL (Iz QG X7 (x:=Dk) rfl (AL (Iz QG X7 (x:=HX) rfl (AL (Iz QG X7 (x:=.none) rfl (Aw ?_)))))));refine AL (slicePart_none ?_);show AV _ _ (if((1:Int)==0)=true then _ else _) _ _ s;rw[if_neg (by decide)];refine AL (mL pl (AL (mL pu (AL (Aw ?_)))));show AV _ _ (match b_ lo A7 1 (n:Int)with|(lo,A7)=>pure (lo,(1:Int),Vf lo A7 1)) _ _ s;rw[ph lo A7 n];show AV _ _ (pure (((CS n 0 lo:Nat):Int),(1:Int),Vf ((CS n 0 lo:Nat):Int) ((CS n n A7:Nat):Int) 1)) _ _ s;rw[aaF];exact Aw h
def aaD(xs:Array A3)(i k:Nat):((Cd k).filterMap λ(m:Nat)=>xs[((i:Int)+(m:Int)*1).toNat]?).toArray=((xs.toList.drop i).take k).toArray:=by
 have e:(λ(m:Nat)=>xs[((i:Int)+(m:Int)*1).toNat]?)=λm=>xs[i+m]?:=by
  funext m
  have:((i:Int)+(m:Int)*1).toNat=i+m:=by lia
  rw[this]
 rw[e];have:=pick_run xs i k;rw[List.filterMap_map]at this;have AE:((λx=>xs[x]?)∘λx=>i+x)=λm=>xs[i+m]?:=rfl;rw[AE]at this;rw[this]
def u6{t C9:A4}{items:Array A3}{Dk HX:A3}{lo A7:Option Int}{Q:A3->AJ->Prop}(BQ:IsTup s.heap t items)(hs:s.heap.IsSliceOf C9 Dk HX .none)(pl:IsPart Dk lo)(pu:IsPart HX A7)(hw:¬(CS items.size 0 lo=0/\CS items.size items.size A7=items.size))(h:Q (.ref s.heap.objs.size) { s with heap:=s.heap.push { cls:=.type "tuple",data:=.seq ((items.toList.drop (CS items.size 0 lo)).take (CS items.size items.size A7-CS items.size 0 lo)).toArray } })(hsz:items.size<=Bu):AV (Al prog w) A (Op (.ref t) (.ref C9)) Q E s:=by
 have Wn:sizeOk (.seq ((items.toList.drop (CS items.size 0 lo)).take (CS items.size items.size A7-CS items.size 0 lo)).toArray):=by show((items.toList.drop (CS items.size 0 lo)).take (CS items.size items.size A7-CS items.size 0 lo)).toArray.size<=Bu;rw[DI,JS,W5,Oj];lia
 have Af:CS items.size items.size A7<=items.size:=aac _ _ (C1 _) A7;obtain⟨os,QG,gx,X7⟩:=id hs;have tV:s.TypeIs (.ref C9) "slice":=⟨os,QG,gx⟩;unfold Op
 try with_reducible refine Iv ?_
 first|refine AL (Aw ?_)|skip
 refine AL (wpAny_sequenceKey BQ.typeIs (by decide) ?_)
 refine AL (OY (name:=Q3 "__getitem__") BQ.typeIs oV
  (Kl oV BQ.typeIs entry_tuple_getitem ?_ (args_tuple_getitem _ _)))
 show AV _ _ (oQ (.ref t)>>=_) _ _ s;refine AL (tupleItemsOf_ BQ ?_);refine AL (WA tV ?_);rw[if_pos (by decide)];refine AL (aaO hs pl pu ?_);have Si:¬((((CS items.size 0 lo:Nat):Int)==0&&(1:Int)==1&&(CS items.size items.size A7-CS items.size 0 lo)==items.size)=true):=by intro q;rw[I7,I7]at q;have q1:((CS items.size 0 lo:Nat):Int)=0:=eq_of_beq q.1.1;have q2:CS items.size items.size A7-CS items.size 0 lo=items.size:=eq_of_beq q.2;exact hw ⟨by lia,by lia⟩
 show AV _ _ (if(((CS items.size 0 lo:Nat):Int)==0&&(1:Int)==1&&(CS items.size items.size A7-CS items.size 0 lo)==items.size)=true then _ else _) _ _ s;rw[if_neg Si,aaD]
 first
  |exact AL (m:=Vh _) (Kp (Aw ⟨_,rfl,Aw h⟩) Wn)
  |exact AL (m:=Vh _) (Kp (AL (Aw (Aw ⟨_,rfl,Aw h⟩))) Wn)
  |exact AL (AL (m:=Vh _) (Kp (Aw (Aw ⟨_,rfl,Aw h⟩)) Wn))
  |exact AL (AL (m:=Vh _) (Kp (Aw ⟨_,rfl,Aw h⟩) Wn))
end
end Ez
namespace B8
open PySem PySem.Spec PyProof.Rows
abbrev Bj:=St->A8->(Option Int->A8->Prop)->Prop
noncomputable def U9(X:Am)(e:Option At)(t:Bj):Prop:=
 ∀(pins:List (A4×Obj))(s:AJ)(σ :St)(H:A8)(Q:Option Int->A8->Prop),Inv X pins σ H s->t σ H Q->
  AV (Al X.prog X.w) X.A (evalPart e X.env) (λu s'=>∃o A6,Inv X pins σ A6 s'/\IsPart u o/\Q o A6) X.Ck s
def nq:Bj:=λ_ H Q=>Q none H
def nx(t:TE):Bj:=λσ H Q=>t σ H λx H1=>∃i,x=.int i/\Q (some i) H1
section
variable{X:Am}{e:At}{DU:TE}{lo A7:Option At}{IH Yd:Bj}{pos CL:Pos}
def zT:U9 X none nq:=by intro pins s σ H Q I h;rw[evalPart_none];exact Aw ⟨none,H,I,.none,h⟩
def zU(h:Ae X e DU):U9 X (some e) (nx DU):=by intro pins s σ H Q I hw;rw[evalPart_some];refine BG (h pins s σ H _ I hw) λu s1⟨x,H1,Ab,Ak,q1⟩=>?_;obtain⟨i,rfl,q⟩:=q1;obtain⟨t,rfl⟩:=Ak;exact⟨some i,H1,Ab,.int i t,q⟩
noncomputable def QW(X:Am)(r:V->Option Int->Option Int->A8->CA->Prop):Prop:=
 ∀(pins:List (A4×Obj))(s:AJ)(σ :St)(H:A8)(x:V)(v Dk HX:A3)(lo A7:Option Int)(C9:A4)(Q:CA),Inv X pins σ H s->RelV x v->s.heap.IsSliceOf C9 Dk HX .none->IsPart Dk lo->IsPart HX A7->r x lo A7 H Q->
  ∃T id,typeLookup (.type T) "__getitem__"=pure (some (.builtin id))/\s.TypeIs v T/\AV (Al X.prog X.w) X.A (Op v (.ref C9)) (Gs X pins σ Q) X.Ck s
def QW.or{r BK:V->Option Int->Option Int->A8->CA->Prop}(h:QW X r)(h':QW X BK):QW X (λx lo A7 H Q=>r x lo A7 H Q\/BK x lo A7 H Q):=by
 intro pins s σ H x v Dk HX lo A7 C9 Q I Aq hs pl pu q;rcases q with q|q
 .exact h pins s σ H x v Dk HX lo A7 C9 Q I Aq hs pl pu q
 .exact h' pins s σ H x v Dk HX lo A7 C9 Q I Aq hs pl pu q
def o2(r:V->Option Int->Option Int->A8->CA->Prop)(DU:TE)(IH Yd:Bj):TE:=λσ H Q=>DU σ H λx H1=>IH σ H1 λl AS=>Yd σ AS λu Bl=>r x l u Bl Q
def zw{r:V->Option Int->Option Int->A8->CA->Prop}(Ao:QW X r)(he:Ae X e DU)(AF:U9 X lo IH)(Av:U9 X A7 Yd):Ae X (.Subscript e (.Slice lo A7 none CL) pos) (o2 r DU IH Yd):=by intro pins s σ H Q I h;refine Subscript_ (BG (he pins s σ H _ I h) λv s1⟨x,H1,Ab,Ak,q1⟩=>?_);refine wpAny_Slice (BG (AF pins s1 σ H1 _ Ab q1) λDk s2⟨l,AS,BU,pl,q2⟩=>BG (Av pins s2 σ AS _ BU q2) λHX s3⟨u,Bl,DZ,pu,EI⟩=>?_);rw[evalPart_none];refine Aw ?_;have L4:Inv X pins σ Bl { s3 with heap:=s3.heap.push { cls:=.type "slice",data:=.fields #[Dk,HX,.none] } }:=DZ.kept (t':=s3.toks) λb Bc q=>Cz _ q;obtain⟨T,id,DN,BQ,Aj⟩:=Ao pins { s3 with heap:=s3.heap.push { cls:=.type "slice",data:=.fields #[Dk,HX,.none] } } σ Bl x v Dk HX l u s3.heap.objs.size Q L4 Ak (Heap.IsSliceOf.new ..) pl pu EI;show AV (Al X.prog X.w) X.A (subscriptTail e (.Slice lo A7 none CL) v (.ref s3.heap.objs.size)) (Gs X pins σ Q) X.Ck { s3 with heap:=s3.heap.push { cls:=.type "slice",data:=.fields #[Dk,HX,.none] } };exact tail_any (ops:=[.ref s3.heap.objs.size,v]) BQ DN Aj (by with_unfolding_all rfl)
def P7(xs:List V)(lo A7:Option Int):List V:=(xs.drop (Ez.CS xs.length 0 lo)).take (Ez.CS xs.length xs.length A7-Ez.CS xs.length 0 lo)
def gT(xs:List V)(lo A7:Option Int):(P7 xs lo A7).length<=xs.length:=by unfold P7;rw[JS,W5];lia
noncomputable def jx(K:Ad):V->Option Int->Option Int->A8->CA->Prop:=λx lo A7 H Q=>∃a xs,x=.ref a/\EM K H a xs/\
 ¬(Ez.CS xs.length 0 lo=0/\Ez.CS xs.length xs.length A7=xs.length)/\∀p,H p=none->Q (.ref p) (upd H p (.tup (P7 xs lo A7)))
def aaN:QW X (jx X.K):=by
 intro pins s σ H x v Dk HX lo A7 C9 Q I Aq hs pl pu h;obtain⟨a,xs,rfl,AG,hw,q⟩:=h;cases Aq;obtain⟨its,r,BQ,hz⟩:=I.tuple AG;have hlen:its.toArray.size=xs.length:=by rw[DI];exact r.length.symm
 refine⟨"tuple",_,PyProof.Rows.slot_tuple_getitem.lookup,BQ.typeIs,?_⟩;refine Ez.u6 BQ hs pl pu (by rw[hlen];exact hw) ?_ (by rw[hlen];exact hz);rw[hlen];refine⟨.ref s.heap.objs.size,_,I.laid (t':=s.toks) (o:=.tup (P7 xs lo A7)) (λb Bc q=>Cz _ q) (C1 _) ?_,rfl,q _ (I.Ax.fresh (C1 _))⟩;exact⟨I8 (gT xs lo A7) hz,_,(r.drop (Ez.CS xs.length 0 lo)).take (Ez.CS xs.length xs.length A7-Ez.CS xs.length 0 lo),IsTup.new _ _⟩
noncomputable def kg(K:Ad):ET:=λx y H Q=>∃a b xs ys,x=.ref a/\y=.ref b/\EM K H a xs/\EM K H b ys/\xs≠[]/\xs.length+ys.length<=Bu/\
 (ys=[]->Q (.ref a) H)/\(ys≠[]->∀p,H p=none->Q (.ref p) (upd H p (.tup (xs++ys))))
def Vals.ZR{xs:List V}{us:List A3}(r:Vals xs us):us=[]↔xs=[]:=by
 cases r with
 |nil=>simp
 |cons _ _=>simp
def yR:DQ X (J0 .Add) (kg X.K):=by intro pins s σ H x y v u Q I Aq BS h;obtain⟨a,b,xs,ys,rfl,rfl,AB,A1,AG,hz,q1,q2⟩:=h;cases Aq;cases BS;obtain⟨its,Ak,EW,_⟩:=I.tuple AB;obtain⟨GW,B6,CL,_⟩:=I.tuple A1;refine Ez.qb EW CL (λz=>AG (Ak.ZR.mp z)) (λz=>⟨.ref a,H,I,rfl,q1 (B6.ZR.mp z)⟩) (λz=>?_) (by rw[<-Ak.length,<-B6.length];exact hz);refine⟨.ref s.heap.objs.size,_,I.laid (t':=s.toks) (o:=.tup (xs++ys)) (λb Bc q=>Cz _ q) (C1 _) ?_,rfl,q2 (λw=>z (B6.ZR.mpr w)) _ (I.Ax.fresh (C1 _))⟩;exact⟨by rw[EP];exact hz,_,Ak.append B6,IsTup.new _ _⟩
end
def LL(n:Nat)(i:Int):Option Nat:=if 0<=i then(if i<n then some i.toNat else none)else if-(n:Int)<=i then some (i+n).toNat else none
def Ie{α:Type}(xs:List α)(i:Int):Option α:=(LL xs.length i).bind λj=>xs[j]?
def iY{n:Nat}{i:Int}{j:Nat}(h:LL n i=some j):Rc i n=some j/\j<n/\-(n:Int)<=i/\i<n:=by
 unfold LL at h;by_cases h0:0<=i
 .rw[if_pos h0]at h;by_cases h1:i<n
  .rw[if_pos h1]at h;have e:i.toNat=j:=Fd h;exact⟨by rw[seqIndex_of h0 h1,e],by lia,by lia,h1⟩
  .rw[if_neg h1]at h;cases h
 .rw[if_neg h0]at h;by_cases h1: -(n:Int)<=i
  .rw[if_pos h1]at h;have e:(i+n).toNat=j:=Fd h;exact⟨by rw[seqIndex_neg (by lia) h1,e],by lia,h1,by lia⟩
  .rw[if_neg h1]at h;cases h
def cr{α:Type}{xs:List α}{i:Int}{v:α}(h:Ie xs i=some v):∃j,Rc i xs.length=some j/\xs[j]?=some v/\j<xs.length/\-(xs.length:Int)<=i/\i<xs.length:=by
 unfold Ie at h;cases e:LL xs.length i with
 |none=>rw[e]at h;cases h
 |some j=>rw[e]at h;obtain⟨h1,h2,B2,Ca⟩:=iY e;exact⟨j,h1,h,h2,B2,Ca⟩
def dR(b:At):Prop:=∀o i,WJ b false o i=operate [o,i] (Op o i)
noncomputable def N0(X:Am)(r:ET):Prop:=
 ∀(value slice:At)(pins:List (A4×Obj))(s:AJ)(σ :St)(H:A8)(x y:V)(v u:A3)(Q:CA),Inv X pins σ H s->RelV x v->RelV y u->r x y H Q->
  WJ slice false v u=operate [v,u] (Op v u)->AV (Al X.prog X.w) X.A (subscriptTail value slice v u) (Gs X pins σ Q) X.Ck s
noncomputable def PY(X:Am)(id:String)(r:V->List V->A8->CA->Prop):Prop:=
 ∀(pins:List (A4×Obj))(s:AJ)(σ :St)(H:A8)(x:V)(xs:List V)(v:A3)(us:List A3)(Q:CA),Inv X pins σ H s->RelV x v->Vals xs us->r x xs H Q->
  AV (Al X.prog X.w) X.A (call (.builtin id) (v::us)) (Gs X pins σ Q) X.Ck s
section
variable{X:Am}{a b:At}{Be tb:TE}{pos:Pos}
def N0.or{r BK:ET}(h:N0 X r)(h':N0 X BK):N0 X (λx y H Q=>r x y H Q\/BK x y H Q):=by
 intro value slice pins s σ H x y v u Q I Aq BS q hs;rcases q with q|q
 .exact h value slice pins s σ H x y v u Q I Aq BS q hs
 .exact h' value slice pins s σ H x y v u Q I Aq BS q hs
def PY.or{id:String}{r BK:V->List V->A8->CA->Prop}(h:PY X id r)(h':PY X id BK):PY X id (λx xs H Q=>r x xs H Q\/BK x xs H Q):=by
 intro pins s σ H x xs v us Q I Aq rs q;rcases q with q|q
 .exact h pins s σ H x xs v us Q I Aq rs q
 .exact h' pins s σ H x xs v us Q I Aq rs q
def yL{r:ET}(Ao:N0 X r)(AB:Ae X a Be)(A1:Ae X b tb)(hs:dR b):Ae X (.Subscript a b pos) (S6 r Be tb):=by intro pins s σ H Q I h;exact Subscript_ (dE AB A1 I h λv u s2 x y AS BU Aq BS q=>Ao a b pins s2 σ AS x y v u Q BU Aq BS q (hs _ _))
def kk(K:Ad):ET:=λx y H Q=>∃p xs i v,x=.ref p/\y=.int i/\EL K H p xs/\Ie xs i=some v/\Q v H
def km(K:Ad):ET:=λx y H Q=>∃p xs i v,x=.ref p/\y=.int i/\EM K H p xs/\Ie xs i=some v/\Q v H
def kl:ET:=λx y H Q=>∃z i c,x=.str z/\y=.int i/\z.length<=Bu/\Ie z.cps.toList i=some c/\Q (.str ⟨#[c]⟩) H
def vb:N0 X (kk X.K):=by
 intro value slice pins s σ H x y v u Q I Aq BS h hs;obtain⟨p,xs,i,z,rfl,rfl,AU,he,q⟩:=h;cases Aq;obtain⟨t,rfl⟩:=BS;obtain⟨its,r,pl,hz⟩:=I.list AU;obtain⟨j,h1,h2,B2,Ca,FQ⟩:=cr he;obtain⟨w,DD,Hl⟩:=r.get h2;have AF:=r.length;have AW:=Sq;have fin:Gs X pins σ Q w s:=⟨z,H,I,Hl,q⟩;by_cases h0:0<=i
 .have Af:i.toNat=j:=by
    rw[seqIndex_of h0 FQ]at h1;exact Fd h1
  exact item_listR pl.isList h0 (by lia) (by rw[Af];simpa using DD) fin hs
 .have Af:(i+(its.toArray.size:Int)).toNat=j:=by
    rw[seqIndex_neg (by lia) Ca]at h1;rw[DI,<-AF];exact Fd h1
  exact subscriptTail_builtinR (x:=w) pl.isList.typeIs slot_list_getitem.lookup
   (wpAny_getItem_list_neg (Q:=λr s'=>r=w/\Gs X pins σ Q r s') pl.isList (by lia) (by rw[DI]<;>lia) (by lia) (by rw[Af];simpa using DD) ⟨rfl,fin⟩) hs
def QJ:N0 X (km X.K):=by
 intro value slice pins s σ H x y v u Q I Aq BS h hs;obtain⟨p,xs,i,z,rfl,rfl,AU,he,q⟩:=h;cases Aq;obtain⟨t,rfl⟩:=BS;obtain⟨its,r,pl,hz⟩:=I.tuple AU;obtain⟨j,h1,h2,B2,Ca,FQ⟩:=cr he;obtain⟨w,DD,Hl⟩:=r.get h2;have AF:=r.length;have AW:=Sq;have fin:Gs X pins σ Q w s:=⟨z,H,I,Hl,q⟩
 exact subscriptTail_builtinR (x:=w) pl.typeIs slot_tuple_getitem.lookup
  (getItem_tuple (j:=j) (Q:=λr s'=>r=w/\Gs X pins σ Q r s') pl (by lia) (by lia) (by rw[DI,<-AF];exact h1) (by simpa using DD) ⟨rfl,fin⟩) hs
def vd:N0 X kl:=by
 intro value slice pins s σ H x y v u Q I Aq BS h hs;obtain⟨z,i,c,rfl,rfl,hz,he,q⟩:=h;obtain⟨t,rfl⟩:=Aq;obtain⟨t',rfl⟩:=BS;obtain⟨j,h1,h2,B2,Ca,FQ⟩:=cr he;have AF:z.cps.toList.length=z.length:=by simp[Str.length]
 rw[AF]at h1 Ca FQ;have AW:=Sq;exact tail_any (typeIs_str s z t) slot_str_getitem.lookup (getItem_str (c:=c) (by have A9:decide (i< -(2^63:Int))=false:=decide_eq_false (by lia);have AE:decide (i≥2^63)=false:=decide_eq_false (by lia);rw[A9,AE,Bool.or_false]) (by rw[h1];simpa using h2) ⟨.str ⟨#[c]⟩,H,I.tok _,⟨_,rfl⟩,q⟩) hs
def bJ(K:Ad):ET:=λx y H Q=>kk K x y H Q\/km K x y H Q\/kl x y H Q
def vc:N0 X (bJ X.K):=vb.or (QJ.or vd)
def wV(its:List A3)(n j:Nat)(u:A3):NM (·.setIfInBounds j u) { cls:=.type "list",data:=.seq its.toArray n }={ cls:=.type "list",data:=.seq (its.set j u).toArray n }:=by simp[NM]
theorem Inv.lst{pins:List (A4×Obj)}{σ :St}{H:A8}{s:AJ}{p:A4}{xs:List V}(I:Inv X pins σ H s)(h:H p=some (.lst xs)) :
  ∃(its:List A3)(n:Nat),Vals xs its/\s.heap.get? p=some { cls:=.type "list",data:=.seq its.toArray n }/\xs.length<=Bu:=by
 obtain⟨z,its,n,r,e⟩:=I.Ax p _ h;exact⟨its,n,r,e,z⟩
def Inv.wv{pins:List (A4×Obj)}{σ :St}{H:A8}{s:AJ}{p:A4}{xs ys:List V}{its its':List A3}{n SQ:Nat}{f:Obj->Obj}(I:Inv X pins σ H s)(h:H p=some (.lst xs))(ho:s.heap.get? p=some { cls:=.type "list",data:=.seq its.toArray n })(hf:f { cls:=.type "list",data:=.seq its.toArray n }={ cls:=.type "list",data:=.seq its'.toArray SQ })(r:Vals ys its')(hz:ys.length<=Bu)(t:Nat) :
  Inv X pins σ (upd H p (.lst ys)) { s with heap:=s.heap.update p f,toks:=t }:=by
 have e:(s.heap.update p f).get? p=some { cls:=.type "list",data:=.seq its'.toArray SQ }:=by rw[Oi f ho (by rw[hf]<;>rfl),hf]
 refine I.write (x:=p) (e:=p) (by rw[h];trivial) (.inl rfl) (λb u A1 q=>(Vn _ _ (Ku A1)).trans q) ⟨_,e⟩ ?_;exact⟨hz,its',SQ,r,e⟩
def jv:V->V->V->A8->(A8->Prop)->Prop:=λo i v H Q=>∃p xs k j,o=.ref p/\i=.int k/\H p=some (.lst xs)/\LL xs.length k=some j/\Q (upd H p (.lst (xs.set j v)))
def set_list:fW X jv:=by
 intro pins s σ H o i v CQ GX u Q I FH aaR Bx h;obtain⟨p,xs,k,j,rfl,rfl,AT,Af,q⟩:=h;cases FH;obtain⟨t,rfl⟩:=aaR;obtain⟨its,n,r,ho,hz⟩:=I.lst AT;obtain⟨h1,h2,B2,Ca⟩:=iY Af;have AF:=r.length;have AW:=Sq;have D0:Inv X pins σ (upd H p (.lst (xs.set j v))) { s with heap:=s.heap.update p (NM (·.setIfInBounds j u)) }:=
  I.wv AT ho (wV its n j u) (r.set Bx j) (by rw[c3];exact hz) s.toks
 by_cases h0:0<=k
 .have AK:k.toNat=j:=by
    rw[seqIndex_of h0 Ca]at h1;exact Fd h1
  exact PySem.W.ki_setAt ho h0 (by lia) (by rw[DI,<-AF];exact Ca) (by rw[AK];exact⟨_,D0,q⟩)
 .have AK:(k+(its.toArray.size:Int)).toNat=j:=by
    rw[seqIndex_neg (by lia) B2]at h1;rw[DI,<-AF];exact Fd h1
  exact PySem.W.ki_setBack ho (by lia) (by rw[DI,<-AF];exact B2) (by lia) (by rw[AK];exact⟨_,D0,q⟩)
def aaQ(lo A7:Option Int)(n:Nat):(QA lo A7 none n).1=((Ez.CS n 0 lo:Nat):Int)/\(QA lo A7 none n).2.1=((Ez.CS n n A7:Nat):Int)/\(QA lo A7 none n).2.2=1:=by
 refine⟨?_,?_,rfl⟩
 .cases lo with
  |none=>simp[QA,Ez.CS]
  |some i=>
   simp only[QA,Ez.CS,Option.getD_none,show(1:Int)>0 by decide,if_true];by_cases h:i<0
   .simp only[h,if_true]<;>lia
   .simp only[h,if_false]<;>lia
 .cases A7 with
  |none=>simp[QA,Ez.CS]
  |some i=>
   simp only[QA,Ez.CS,Option.getD_none,show(1:Int)>0 by decide,if_true];by_cases h:i<0
   .simp only[h,if_true]<;>lia
   .simp only[h,if_false]<;>lia
def aaP(its:List A3)(lo A7:Option Int):slicePick its.toArray lo A7 none=((its.drop (Ez.CS its.length 0 lo)).take (Ez.CS its.length its.length A7-Ez.CS its.length 0 lo)).toArray:=by obtain⟨h1,h2,B2⟩:=aaQ lo A7 its.toArray.size;unfold slicePick;rw[h1,h2,B2];simp only[sliceRange_one,pick_run,DI]<;>rfl
def jw(K:Ad):V->Option Int->Option Int->A8->CA->Prop:=λx lo A7 H Q=>∃a xs,x=.ref a/\EL K H a xs/\∀p,H p=none->Q (.ref p) (upd H p (.lst (P7 xs lo A7)))
def aaM:QW X (jw X.K):=by intro pins s σ H x v Dk HX lo A7 C9 Q I Aq hs pl pu h;obtain⟨a,xs,rfl,AG,q⟩:=h;cases Aq;obtain⟨its,r,BQ,hz⟩:=I.list AG;have hlen:=r.length;refine⟨"list",_,slot_list_getitem.lookup,BQ.isList.typeIs,?_⟩;refine wpAny_getItem_list_slice BQ.isList hs pl pu .none (by simp) ?_ (by rw[DI]<;>lia);rw[aaP,<-hlen];refine⟨.ref s.heap.objs.size,_,I.laid (t':=s.toks) (o:=.lst (P7 xs lo A7)) (λb Bc q=>Cz _ q) (C1 _) ?_,rfl,q _ (I.Ax.fresh (C1 _))⟩;exact⟨I8 (gT xs lo A7) hz,_,0,(r.drop (Ez.CS xs.length 0 lo)).take (Ez.CS xs.length xs.length A7-Ez.CS xs.length 0 lo),Fc _ rfl⟩
def IZ.or{f:A3}{r BK:List V->A8->CA->Prop}(h:IZ X f r)(h':IZ X f BK):IZ X f (λxs H Q=>r xs H Q\/BK xs H Q):=by
 intro pins s σ H xs us Q I rs q;rcases q with q|q
 .exact h pins s σ H xs us Q I rs q
 .exact h' pins s σ H xs us Q I rs q
def qU:IZ X (.type "list") (λxs H Q=>∃p ys,xs=[.ref p]/\(EL X.K H p ys\/EM X.K H p ys)/\∀l,H l=none->Q (.ref l) (upd H l (.lst ys))):=by
 intro pins s σ H xs us Q I r h;obtain⟨p,ys,rfl,AU,q⟩:=h;obtain⟨u,rfl,Aq⟩:=vals1 r;cases Aq
 have fin:∀(its:List A3),Vals ys its->ys.length<=Bu->∀(h':Ar)(F7:Nat),(∀b o',s.heap.get? b=some o'->h'.get? b=some o')->
   h'.get? s.heap.objs.size=some { cls:=.type "list",dict:=none,data:=.seq its.toArray F7,slots:= #[] }->Gs X pins σ Q (.ref s.heap.objs.size) { s with heap:=h' }:=λits BK hz h' F7 Bd e=>
  ⟨.ref s.heap.objs.size,_,I.laid (t':=s.toks) Bd (C1 _) (show Ds X.prog X.w X.K _ h' _ (.lst ys)from⟨hz,its,F7,BK,e⟩),rfl,q _ (I.Ax.fresh (C1 _))⟩
 rcases AU with AU|AU
 .obtain⟨its,BK,pl,hz⟩:=I.list AU;have hlen:=BK.length;obtain⟨o,ho,AD,n,hd⟩:=pl.isList;exact call_list_seq p (.inl rfl) ho AD hd (λh' F7 Bd e=>fin its BK hz h' F7 Bd e) (by simp only[DI]<;>lia)
 .obtain⟨its,BK,pl,hz⟩:=I.tuple AU;have hlen:=BK.length;obtain⟨o,ho,AD,n,hd⟩:=pl;exact call_list_seq p (.inr rfl) ho AD hd (λh' F7 Bd e=>fin its BK hz h' F7 Bd e) (by simp only[DI]<;>lia)
def qZ:IZ X (.type "tuple") (λxs H Q=>∃p ys,xs=[.ref p]/\((EL X.K H p ys/\∀l,H l=none->Q (.ref l) (upd H l (.tup ys)))\/(EM X.K H p ys/\Q (.ref p) H))):=by
 intro pins s σ H xs us Q I r h;obtain⟨p,ys,rfl,h⟩:=h;obtain⟨u,rfl,Aq⟩:=vals1 r;cases Aq;rcases h with⟨AU,q⟩|⟨AU,q⟩
 .obtain⟨its,BK,pl,hz⟩:=I.list AU;have hlen:=BK.length;refine call_tuple_list pl.isList (λh' Bd=>?_) (by simp only[DI]<;>lia);have Ab:Inv X pins σ H { s with heap:=h' }:=I.kept (t':=s.toks) Bd;have BU:Inv X pins σ (upd H h'.objs.size (.tup ys)) { s with heap:=h'.push { cls:=.type "tuple",data:=.seq its.toArray } }:=
   Ab.laid (t':=s.toks) (λb o e=>Cz _ e) (C1 _) (show Ds X.prog X.w X.K _ _ _ (.tup ys)from⟨hz,its,BK,IsTup.new _ _⟩)
  exact⟨.ref h'.objs.size,_,BU,rfl,q _ (Ab.Ax.fresh (C1 _))⟩
 .obtain⟨its,BK,pl,hz⟩:=I.tuple AU;exact call_tuple_same pl ⟨.ref p,H,I,rfl,q⟩
noncomputable def aL(K:Ad)(T:String)(x:V)(H:A8):Prop:=match x with
 |.str _=>T="str"
 |.int _=>T="int"
 |.ref p=>(T="list"/\∃xs,EL K H p xs)\/(T="tuple"/\∃o,K.lookup p=some o/\o.cls=.type "tuple"/\o.dict=none)\/
     (T="dict"/\((∃AA,H p=some (.B3 AA))\/∃AA,H p=some (.Da AA)))\/(T="set"/\∃S n,H p=some (.set S n))
 |_=>False
def nM{pins:List (A4×Obj)}{σ :St}{H:A8}{s:AJ}{T:String}{x:V}{v:A3}(I:Inv X pins σ H s)(r:RelV x v)(ty:aL X.K T x H) :
  s.TypeIs v T/\∀a,v=.ref a->∃Bc,s.heap.get? a=some Bc/\Bc.dict=none:=by
 cases x with
 |str z=>obtain⟨t,rfl⟩:=r;cases(show T="str" from ty);exact⟨typeIs_str s z t,λ_ e=>nomatch e⟩
 |int i=>obtain⟨t,rfl⟩:=r;cases(show T="int" from ty);exact⟨typeIs_int s i t,λ_ e=>nomatch e⟩
 |ref p=>
  cases r;rcases ty with⟨rfl,xs,AU⟩|⟨rfl,o,AK,AD,hd⟩|⟨rfl,AK⟩|⟨rfl,S,n,AK⟩
  .obtain⟨its,_,pl,_⟩:=I.list AU;refine⟨pl.isList.typeIs,λa e=>?_⟩;cases e;obtain⟨o,n,e,c,hd,_⟩:=pl;exact⟨o,e,hd⟩
  .refine⟨⟨o,I.EH p o AK,AD⟩,λa e=>?_⟩;cases e;exact⟨o,I.EH _ o AK,hd⟩
  .have z:∃o,s.heap.get? p=some o/\o.ExactDict:=by
     rcases AK with⟨AA,AK⟩|⟨AA,AK⟩
     .obtain⟨_,_,_,_,o,_,_,e,ex,_⟩:=I.Ax p _ AK;exact⟨o,e,ex⟩
     .obtain⟨_,_,_,_,o,_,_,e,ex,_⟩:=I.Ax p _ AK;exact⟨o,e,ex⟩
   obtain⟨o,e,ex⟩:=z;refine⟨⟨o,e,ex.1⟩,λa AE=>?_⟩;cases AE;exact⟨o,e,ex.2.1⟩
  .obtain⟨o,_,_,_,e,ex,_⟩:=I.Ax p _ AK;refine⟨⟨o,e,ex.1⟩,λa AE=>?_⟩;cases AE;exact⟨o,e,ex.2.1⟩
 |_=>exact Hq ty
def m5(K:Ad)(T:String)(r:V->List V->A8->CA->Prop)(to:TE):TE:=λσ H Q=>to σ H λx H1=>aL K T x H1/\r x [] H1 Q
def m4(K:Ad)(T:String)(r:V->List V->A8->CA->Prop)(to:TE)(t:FM):TE:=λσ H Q=>to σ H λx H1=>aL K T x H1/\t σ H1 λxs AS=>r x xs AS Q
variable{o e:At}{es:List At}{to:TE}{t:FM}{name:Str}{apos EN:Pos}{T id:String}{r:V->List V->A8->CA->Prop}
def jN(Uk:PlainAttrs T)(slot:Slot T name id)(a5:typeOf (.builtin id)=pure (.type "method_descriptor"))(hm:PY X id r)(ho:Ae X o to)(eB:NH o name X.env (Bb o X.env)=Bb o X.env:=by rfl)(di:(apos.endLine==EN.line)=true:=by rfl):Ae X (.Call (.Attribute o name apos) [] [] EN) (m5 X.K T r to):=by intro pins s σ H Q I h;refine wpAny_Call_method0_late eB di (BG (ho pins s σ H _ I h) λv s1⟨x,H1,Ab,Ak,ty,q1⟩=>?_);obtain⟨h1,h2⟩:=nM Ab Ak ty;exact⟨T,id,Uk,slot,a5,h1,h2,Vo rfl (PySem.evalArgs_none (hm pins s1 σ H1 x [] v [] Q Ab Ak .nil q1))⟩
def jM (Uk:PlainAttrs T) (slot:Slot T name id) (a5:typeOf (.builtin id)=pure (.type "method_descriptor")) (hm:PY X id r) (ho:Ae X o to) (AB:Gv X (e::es) t)(eB:NH o name X.env (Bb o X.env)=Bb o X.env:=by rfl)(tm:((GO EN (CJ (e::es) X.env)).all (λx=>!x.1)&&(NO EN (NJ [] X.env)).all (λx=>x.1.isSome)
    &&decide ((e::es).length+([]:List QD).length+(if([]:List QD).isEmpty then 0 else 1)<30))=true:=by rfl)
  (di:(apos.endLine==EN.line)=true:=by rfl) (hs:CJ (e::es) X.env=(false,Bb e X.env)::CJ es X.env:=by rfl) (vK:(GO EN (CJ es X.env)).any (·.1)=false:=by rfl) :
  Ae X (.Call (.Attribute o name apos) (e::es) [] EN) (m4 X.K T r to t):=by
 intro pins s σ H Q I h;refine wpAny_Call_method_late eB tm di rfl (BG (ho pins s σ H _ I h) λv s1⟨x,H1,Ab,Ak,ty,q1⟩=>?_);obtain⟨h1,h2⟩:=nM Ab Ak ty;refine⟨T,id,Uk,slot,a5,h1,h2,?_⟩;have I0:=AB EN pins s1 σ H1 _ Ab q1;rw[hs]at I0 |-;refine Vo (by show(false||(GO EN (CJ es X.env)).any (·.1))=false;rw[vK]<;>rfl) (Vc ?_);exact BG I0 λus s2⟨vs,AS,BU,B6,q2⟩=>hm pins s2 σ AS x vs v us Q BU Ak B6 q2
end
noncomputable def U4(X:Am)(id:String)(r:V->List V->A8->CA->Prop):Prop:=
 ∀(pins:List (A4×Obj))(s:AJ)(σ :St)(H:A8)(x:V)(xs:List V)(v:A3)(us:List A3)(Q:CA),Inv X pins σ H s->RelV x v->Vals xs us->r x xs H Q->
  AV (Al X.prog X.w) X.A (call (.builtin id) (v::us)) (Gs X pins σ Q) X.Ck s
def Vals.one:∀{x:V}{us:List A3},Vals [x] us->∃u,us=[u]/\RelV x u
 |_,_,.cons r .nil=>⟨_,rfl,r⟩
def Vals.two:∀{x y:V}{us:List A3},Vals [x,y] us->∃u v,us=[u,v]/\RelV x u/\RelV y v
 |_,_,_,.cons r (.cons q .nil)=>⟨_,_,rfl,r,q⟩
def Vals.zero:∀{us:List A3},Vals [] us->us=[]
 |_,.nil=>rfl
theorem Vals.dropLast{xs:List V}{us:List A3}(h:Vals xs us):Vals xs.dropLast us.dropLast:=by
 induction h with
 |nil=>exact .nil
 |cons r t Bk=>
  cases t with
  |nil=>exact .nil
  |cons q t'=>exact .cons r Bk
theorem Vals.eraseIdx:∀{xs:List V}{us:List A3}(i:Nat),Vals xs us->Vals (xs.eraseIdx i) (us.eraseIdx i)
 |_,_,_,.nil=>.nil
 |_,_,0,.cons _ t=>t
 |_,_,i+1,.cons r t=>.cons r (Vals.eraseIdx i t)
theorem Vals.rep{xs:List V}{us:List A3}(h:Vals xs us):∀k:Nat,Vals (FE k xs).flatten (FE k us).flatten
 |0=>.nil
 |k+1=>by rw[Pu,Pu,Oc,Oc];exact Vals.append h (Vals.rep h k)
def ri{α:Type}(l:List α):l.eraseIdx (l.length-1)=l.dropLast:=by
 induction l with
 |nil=>rfl
 |cons a r Bk=>
  cases r with
  |nil=>rfl
  |cons b r=>
   have e:(a::b::r).length-1=((b::r).length-1)+1:=by have h1:(a::b::r).length=r.length+2:=rfl;have h2:(b::r).length=r.length+1:=rfl;lia
   rw[e,p0,Bk]
   all_goals rfl
theorem iK{α:Type}:∀(l:List α)(i:Nat),(l.eraseIdx i).length<=l.length
 |[],_=>C1 _
 |_::_,0=>Q5 _
 |_::r,i+1=>Nat.succ_le_succ (iK r i)
theorem foldl_rep(its:List A3):∀(k:Nat)(acc:List A3),
  List.foldl (λD6 CZ=>D6++CZ) acc.toArray (FE k its.toArray)=(acc++(FE k its).flatten).toArray
 |0,acc=>by simp
 |k+1,acc=>by
  have e:acc.toArray++its.toArray=(acc++its).toArray:=by simp
  have AE:(acc++its)++(FE k its).flatten=acc++(FE (k+1) its).flatten:=by rw[Pu,Oc,FS]
  rw[<-AE,<-foldl_rep its k (acc++its),<-e,Pu,Vx]
section
variable{X:Am}{pins:List (A4×Obj)}{σ :St}{H:A8}{s:AJ}{l b:A4}{xs ys zs:List V}
def Inv.UM{its its':List A3}{n:Nat}{f:Array A3->Array A3}{t':Nat}(I:Inv X pins σ H s)(Gn:H l=some (.lst xs))(e:s.heap.get? l=some { cls:=.type "list",data:=.seq its.toArray n })(hf:f its.toArray=its'.toArray)(BB:Vals ys its')(hz:ys.length<=Bu) :
  Inv X pins σ (upd H l (.lst ys)) { s with heap:=s.heap.update l (NM f),toks:=t' }:=by
 have q:=PySem.IsL.update e f;rw[hf]at q;refine I.write (x:=l) (e:=l) (by rw[Gn];exact trivial) (.inl rfl) (λFx u A1 Av=>(Vn s.heap (NM f) (Ku A1)).trans Av) ⟨_,q⟩ ?_;exact⟨hz,its',_,BB,q⟩
def Inv.Zj{its:List A3}{t':Nat}(I:Inv X pins σ H s)(BB:Vals ys its)(hz:ys.length<=Bu) :
  Inv X pins σ (upd H s.heap.objs.size (.lst ys)) { s with heap:=s.heap.push { cls:=.type "list",data:=.seq its.toArray },toks:=t' }:=
 I.laid (λ_ _ q=>Cz _ q) (C1 _) ⟨hz,its,0,BB,Fc _ rfl⟩
theorem Inv.fresh(I:Inv X pins σ H s):H s.heap.objs.size=none:=I.Ax.fresh (C1 _)
def Inv.Nz(I:Inv X pins σ H s)(Gn:H l=some (.lst xs)):xs.length<=Bu/\∃(its:List A3)(n:Nat),Vals xs its/\xs.length=its.length/\s.heap.get? l=some { cls:=.type "list",data:=.seq its.toArray n }:=by obtain⟨z,its,n,r,e⟩:=I.Ax l _ Gn;exact⟨z,its,n,r,r.length,e⟩
def jh{n:Nat}(h:n<=Bu):Vi n=false:=by unfold Vi;exact decide_eq_false (by lia)
end
section
variable{X:Am}
def kd:V->List V->A8->CA->Prop:=λx vs H Q=>∃l xs y,x=.ref l/\vs=[y]/\H l=some (.lst xs)/\xs.length<Bu/\Q .non (upd H l (.lst (xs++[y])))
theorem jQ:U4 X "list.append" kd:=by intro pins s σ H x vs v us Q I Aq Bx h;obtain⟨l,xs,y,rfl,rfl,Gn,hz,q⟩:=h;cases Aq;obtain⟨u,rfl,FZ⟩:=Bx.one;obtain⟨z,its,n,r,AF,e⟩:=I.Nz Gn;refine Q9 F.slot_list_append ⟨_,e,rfl⟩ F.entry_list_append (F.args_list_append_2 _ _) (PySem.list_append l its.toArray n u (by rw[DI];lia)) ⟨e,?_⟩;refine⟨.non,_,I.UM (its':=its++[u]) Gn e (by simp) (r.append (.cons FZ .nil)) ?_,rfl,q⟩;rw[EP,List.length_singleton];lia
def aax:V->List V->A8->CA->Prop:=λx vs H Q=>∃l b xs zs,x=.ref l/\vs=[.ref b]/\H l=some (.lst xs)/\H b=some (.lst zs)/\xs.length+zs.length<=Bu/\Q .non (upd H l (.lst (xs++zs)))
theorem aeq:U4 X "list.extend" aax:=by
 intro pins s σ H x vs v us Q I Aq Bx h;obtain⟨l,b,xs,zs,rfl,rfl,Gn,GV,hz,q⟩:=h;cases Aq;obtain⟨u,rfl,FZ⟩:=Bx.one;cases FZ;obtain⟨z,its,n,r,AF,e⟩:=I.Nz Gn;obtain⟨F5,GW,Cw,B6,Sh,AE⟩:=I.Nz GV;have hsz:its.toArray.size+GW.toArray.size<=Bu:=by rw[DI,DI];lia
 have dj:¬(!its.toArray.isEmpty&&Vi (its.toArray.size+GW.toArray.size))=true:=by rw[jh hsz,TG];exact JR
 refine Q9 F.slot_list_extend ⟨_,e,rfl⟩ F.entry_list_extend (F.args_list_extend_2 _ _)
  (AutoSeq1.list_extend_list_list_0 l its.toArray n b GW.toArray Cw dj (by rw[DI];lia) (by lia)) ⟨e,AE,?_⟩
 refine⟨.non,_,I.UM (its':=its++GW) Gn e (by simp) (r.append B6) ?_,rfl,q⟩;rw[EP];lia
def ko:V->List V->A8->CA->Prop:=λx vs H Q=>∃l xs y,x=.ref l/\vs=[]/\H l=some (.lst xs)/\xs[xs.length-1]?=some y/\Q y (upd H l (.lst xs.dropLast))
theorem jR:U4 X "list.pop" ko:=by
 intro pins s σ H x vs v us Q I Aq Bx h;obtain⟨l,xs,y,rfl,rfl,Gn,AN,q⟩:=h;cases Aq;have a6:=Bx.zero;subst a6;obtain⟨z,its,n,r,AF,e⟩:=I.Nz Gn;obtain⟨u,Av,FZ⟩:=r.get AN;have Sm:its.toArray[its.toArray.size-1]?=some u:=by show its.toArray[its.length-1]?=some u;rw[<-bl,<-AF];exact Av
 refine Q9 F.slot_list_pop ⟨_,e,rfl⟩ F.entry_list_pop (F.args_list_pop_1 _) (MeetsSeq.list_pop_last l its.toArray n u Sm (by rw[DI];lia)) ⟨e,?_⟩;refine⟨y,_,I.UM (its':=its.dropLast) Gn e ?_ r.dropLast ?_,FZ,q⟩
 .show its.toArray.eraseIdxIfInBounds (its.toArray.size-1)=its.dropLast.toArray;rw[DI,oW,ri]
 .rw[List.length_dropLast];lia
def kp:V->List V->A8->CA->Prop:=λx vs H Q=>∃l xs i k y,x=.ref l/\vs=[.int i]/\H l=some (.lst xs)/\-(2^63)<=i/\i<2^63/\Rc i xs.length=some k/\xs[k]?=some y/\Q y (upd H l (.lst (xs.eraseIdx k)))
theorem jS:U4 X "list.pop" kp:=by
 intro pins s σ H x vs v us Q I Aq Bx h;obtain⟨l,xs,i,k,y,rfl,rfl,Gn,h1,h2,AK,AN,q⟩:=h;cases Aq;obtain⟨u,rfl,FZ⟩:=Bx.one;obtain⟨t,rfl⟩:=FZ;obtain⟨z,its,n,r,AF,e⟩:=I.Nz Gn;obtain⟨w,hw,Hl⟩:=r.get AN
 refine Q9 F.slot_list_pop ⟨_,e,rfl⟩ F.entry_list_pop (F.args_list_pop_2 _ _)
  (MeetsSeq.list_pop_at l its.toArray n i t k w (fitsIndex_both h1 h2) (by rw[DI,<-AF];exact AK) (by rw[<-bl];exact hw) (by rw[DI];lia)) ⟨e,?_⟩
 refine⟨y,_,I.UM (its':=its.eraseIdx k) Gn e ?_ (r.eraseIdx k) ?_,Hl,q⟩
 .show its.toArray.eraseIdxIfInBounds k=(its.eraseIdx k).toArray;rw[oW]
 .have:=iK xs k;lia
def kh:V->List V->A8->CA->Prop:=λx vs H Q=>∃l xs,x=.ref l/\vs=[]/\H l=some (.lst xs)/\Q .non (upd H l (.lst []))
theorem xz:U4 X "list.clear" kh:=by intro pins s σ H x vs v us Q I Aq Bx h;obtain⟨l,xs,rfl,rfl,Gn,q⟩:=h;cases Aq;have a6:=Bx.zero;subst a6;obtain⟨z,its,n,r,AF,e⟩:=I.Nz Gn;refine Q9 F.slot_list_clear ⟨_,e,rfl⟩ F.entry_list_clear (F.args_list_clear_1 _) (AutoSeq1.list_clear_list_0 l its.toArray n (by rw[DI];lia)) ⟨e,?_⟩;exact⟨.non,_,I.UM (its':=[]) (ys:=[]) Gn e rfl .nil (Gi _),rfl,q⟩
def kf:ET:=λx y H Q=>∃l b xs zs,x=.ref l/\y=.ref b/\H l=some (.lst xs)/\H b=some (.lst zs)/\xs.length+zs.length<=Bu/\∀p,H p=none->Q (.ref p) (upd H p (.lst (xs++zs)))
def yQ:DQ X (J0 .Add) kf:=by
 intro pins s σ H x y v u Q I Aq BS h;obtain⟨l,b,xs,zs,rfl,rfl,Gn,GV,hz,q⟩:=h;cases Aq;cases BS;obtain⟨z,its,n,r,AF,e⟩:=I.Nz Gn;obtain⟨F5,GW,Cw,B6,Sh,AE⟩:=I.Nz GV;refine PySem.P.add_list e AE ?_ (by rw[DI,DI];lia);have Bg:its.toArray++GW.toArray=(its++GW).toArray:=by simp
 rw[Bg];exact⟨.ref _,_,I.Zj (t':=s.toks) (r.append B6) (by rw[EP];lia),rfl,q _ I.fresh⟩
def kq:ET:=λx y H Q=>∃l k xs,x=.ref l/\y=.int k/\H l=some (.lst xs)/\-(2^63)<=k/\k<2^63/\xs.length*k.toNat<=Bu/\
 ∀p,H p=none->Q (.ref p) (upd H p (.lst (FE k.toNat xs).flatten))
def len_rep{α:Type}(xs:List α)(k:Nat):(FE k xs).flatten.length=k*xs.length:=by
 induction k with
 |zero=>simp
 |succ k Bk=>rw[Pu,Oc,EP,Bk,Nat.succ_mul,Nat.add_comm]
theorem yW:DQ X (J0 .Mult) kq:=by
 intro pins s σ H x y v u Q I Aq BS h;obtain⟨l,k,xs,rfl,rfl,Gn,h1,h2,hz,q⟩:=h;cases Aq;obtain⟨t,rfl⟩:=BS;obtain⟨z,its,n,r,AF,e⟩:=I.Nz Gn;have hlen:its.toArray.size*k.toNat<=Bu:=by rw[DI,<-AF];exact hz
 have td:¬its.toArray.size*k.toNat>(2^63-1)/8:=by
  have:(Bu:Nat)<=(2^63-1)/8:=by decide
  lia
 have tp:¬(!Builtin.List.listFitsIndex k)=true:=by rw[fitsIndex_both h1 h2];exact JR
 have dj:¬Vi (its.toArray.size*k.toNat)=true:=by rw[jh hlen];exact JR
 have v8:List.foldl (λD6 CZ=>D6++CZ) #[] (FE (if its.toArray.isEmpty=true then 0 else k.toNat) its.toArray)=(FE k.toNat its).flatten.toArray:=by
  have f0:∀m:Nat,List.foldl (λD6 CZ=>D6++CZ) #[] (FE m its.toArray)=(FE m its).flatten.toArray:=λm=>by have:=foldl_rep its m [];rw[Oh]at this;exact this
  rw[f0];cases its with
  |nil=>simp
  |cons a BK=>rw[if_neg (by simp)]
 refine wpAny_binaryOp_repeat_ref (T:="list") (U:="int") (by decide) ⟨_,e,rfl⟩ (λs'=>typeIs_int s' k t) noFill_list_mul F.fills_int_mul F.slot_int_rmul repeat_list F.slot_int_index.lookup
  (Q9 F.slot_int_rmul (typeIs_int s k t) F.entry_int_rmul (F.args_int_rmul_2 _ _) (int___rmul___int_list k t l its.toArray n)
    ⟨e,rfl,⟨_,e,rfl⟩,Q9 F.slot_list_mul ⟨_,e,rfl⟩ F.entry_list_mul (F.args_list_mul_2 _ _) (AutoListH.list___mul___list_int_3 l its.toArray n k t tp td dj) ⟨e,?_⟩⟩)
 rw[v8];exact⟨.ref _,_,I.Zj (t':=s.toks) (r.rep k.toNat) (by rw[len_rep,Nat.mul_comm];exact hz),rfl,q _ I.fresh⟩
end
section
variable{prog:Bh}{w:BP}{A:CW}{E:A3->AJ->Prop}{s:AJ}
end
section
variable{X:Am}
end
section
variable{B_:Type}[DecidableEq B_]
def HE(AA:List (B_×V))(k:B_):Option V:=(AA.find? λCh=>decide (Ch.1=k)).map (·.2)
def putK(AA:List (B_×V))(k:B_)(v:V):List (B_×V):=
 if(AA.any λCh=>decide (Ch.1=k))=true then AA.map (λCh=>if Ch.1=k then(Ch.1,v)else Ch)else AA++[(k,v)]
def M7(AA:List (B_×V))(k:B_):List (B_×V):=AA.filter λCh=>decide (Ch.1≠k)
def abf{k:B_}:HE ([]:List (B_×V)) k=none:=rfl
def VV{p:B_×V}{r:List (B_×V)}{k:B_}(e:p.1=k):HE (p::r) k=some p.2:=by simp[HE,Q7,e]
def VU{p:B_×V}{r:List (B_×V)}{k:B_}(e:¬p.1=k):HE (p::r) k=HE r k:=by simp[HE,Q7,e]
theorem nS(k:B_):∀AA:List (B_×V),(AA.any λCh=>decide (Ch.1=k))=(HE AA k).isSome
 |[]=>rfl
 |p::r=>by
  rw[cP];by_cases e:p.1=k
  .simp only[VV e,decide_eq_true e,Bool.true_or,pH]
  .rw[VU e,decide_eq_false e,cQ];exact nS k r
def iM(AA:List (B_×V))(k:B_)(v:V):(putK AA k v).length<=AA.length+1:=by
 unfold putK
 split
 .rw[DV];lia
 .rw[EP,D7,EQ];lia
def Hd.Sn{o:Option V}{u:Option A3}(r:Hd o u):o.isSome=u.isSome:=by
 cases o with
 |none=>cases u with
  |none=>rfl
  |some _=>exact(show False from r).elim
 |some _=>cases u with
  |none=>exact(show False from r).elim
  |some _=>rfl
theorem Hd.getD{o:Option V}{u:Option A3}{d:V}{d':A3}(r:Hd o u)(ab7:RelV d d'):RelV (o.getD d) (u.getD d'):=by
 cases o with
 |none=>cases u with
  |none=>exact ab7
  |some _=>exact(show False from r).elim
 |some _=>cases u with
  |none=>exact(show False from r).elim
  |some _=>exact r
def Fe.val{AA:List (B_×V)}{vs:List (B_×A3)}(r:Fe AA vs)(k:B_):Hd (HE AA k) (Oq vs k):=by
 unfold Fe at r;induction r with
 |nil=>exact IA
 | @cons p q ps Lo h t Bk=>
   obtain⟨h1,h2⟩:=h;by_cases e:p.1=k
   .have BC:q.1=k:=h1.symm.trans e;have b:Oq (q::Lo) k=some q.2:=by simp[Oq,Q7,BC]
    rw[VV e,b];exact h2
   .have BC:¬q.1=k:=λz=>e (h1.trans z);have b:Oq (q::Lo) k=Oq Lo k:=by simp[Oq,Q7,BC]
    rw[VU e,b];exact Bk
theorem Fe.any{AA:List (B_×V)}{vs:List (B_×A3)}(r:Fe AA vs)(k:B_):(AA.any λCh=>decide (Ch.1=k))=vs.any λCh=>decide (Ch.1=k):=by
 unfold Fe at r;induction r with
 |nil=>rfl
 |cons h t Bk=>rw[cP,cP,Bk,h.1]
def Fe.bL{AA:List (B_×V)}{vs:List (B_×A3)}(r:Fe AA vs)(k:B_){y:V}{u:A3}(BS:RelV y u) :
  Fe (AA.map λCh=>if Ch.1=k then(Ch.1,y)else Ch) (vs.map λCh=>if Ch.1=k then(Ch.1,u)else Ch):=by
 unfold Fe at r |-;induction r with
 |nil=>exact .nil
 | @cons p q ps Lo h t Bk=>
   rw[DB,DB];refine .cons ?_ Bk;obtain⟨h1,h2⟩:=h;by_cases e:p.1=k
   .rw[if_pos e,if_pos (h1.symm.trans e)];exact⟨h1,BS⟩
   .rw[if_neg e,if_neg (λz=>e (h1.trans z))];exact⟨h1,h2⟩
def Fe.put{AA:List (B_×V)}{vs:List (B_×A3)}(r:Fe AA vs)(k:B_){y:V}{u:A3}(BS:RelV y u):Fe (putK AA k y) (stored vs k u):=by
 unfold putK stored;rw[r.any k];by_cases e:(vs.any λCh=>decide (Ch.1=k))=true
 .rw[if_pos e,if_pos e];exact r.bL k BS
 .rw[if_neg e,if_neg e];exact Paired.snoc r ⟨rfl,BS⟩
def Fe.drop{AA:List (B_×V)}{vs:List (B_×A3)}(r:Fe AA vs)(k:B_):Fe (M7 AA k) (without vs k):=by
 unfold Fe at r |-;unfold M7 without;induction r with
 |nil=>exact .nil
 | @cons p q ps Lo h t Bk=>
   obtain⟨h1,h2⟩:=h;rw[Ps,Ps];by_cases e:p.1=k
   .have a:¬decide (p.1≠k)=true:=by simp[e]
    have b:¬decide (q.1≠k)=true:=by simp[h1.symm.trans e]
    rw[if_neg a,if_neg b];exact Bk
   .have BC:¬q.1=k:=λz=>e (h1.trans z);have a:decide (p.1≠k)=true:=by simp[e]
    have b:decide (q.1≠k)=true:=by simp[BC]
    rw[if_pos a,if_pos b];exact .cons ⟨h1,h2⟩ Bk
theorem Fe.length{AA:List (B_×V)}{vs:List (B_×A3)}(r:Fe AA vs):AA.length=vs.length:=Paired.length r
def fy(AA:List (B_×V))(k:B_):(M7 AA k).length<=AA.length:=List.length_filter_le _ _
end
def Nw{P:Bh}{w:BP}{k:Key}{u:A3}(r:RelV (CU k) u):(Fi P w).is k u=true:=by
 cases k with
 |inl i=>obtain⟨t,e⟩:=(show ∃t,u=Ra i t from r);subst e;exact wY P w i t
 |inr x=>obtain⟨t,e⟩:=(show ∃t,u=Rb x t from r);subst e;exact wZ P w x t
theorem iV{P:Bh}{w:BP}:∀{ks:List Key}{us:List A3},Vals (ks.map CU) us->ItemsAre (Fi P w) ks us
 |[],_,r=>by rw[Iy]at r;cases r;exact .nil
 |k::ks,_,r=>by
  rw[DB]at r;cases r with
  |cons h t=>exact .cons (Nw h) (iV t)
abbrev KT(K:Ad)(H:A8):List (Cf×V)->List (Cf×A4×A3)->Prop:=Paired λp q=>p.1=q.1/\Qs K H p.1 q.2.1/\RelV p.2 q.2.2
def KT.val{K:Ad}{H:A8}{AA:List (Cf×V)}{xs:List (Cf×A4×A3)}(r:KT K H AA xs)(k:Cf):Hd (HE AA k) ((atKey xs k).map (·.2)):=by
 induction r with
 |nil=>exact IA
 | @cons p q ps Lo h t Bk=>
   obtain⟨h1,_,h2⟩:=h;by_cases e:p.1=k
   .have BC:q.1=k:=h1.symm.trans e;have b:atKey (q::Lo) k=some q.2:=by simp[atKey,Q7,BC]
    rw[VV e,b];exact h2
   .have BC:¬q.1=k:=λz=>e (h1.trans z);have b:atKey (q::Lo) k=atKey Lo k:=by simp[atKey,Q7,BC]
    rw[VU e,b];exact Bk
def KT.bL{K:Ad}{H:A8}{AA:List (Cf×V)}{xs:List (Cf×A4×A3)}(r:KT K H AA xs)(k:Cf){y:V}{u:A3}(BS:RelV y u) :
  KT K H (AA.map λCh=>if Ch.1=k then(Ch.1,y)else Ch) (xs.map (putAt k u)):=by
 induction r with
 |nil=>exact .nil
 | @cons p q ps Lo h t Bk=>
   rw[DB,DB];refine .cons ?_ Bk;obtain⟨h1,h2,B2⟩:=h;unfold putAt;by_cases e:p.1=k
   .rw[if_pos e,if_pos (h1.symm.trans e)];exact⟨h1,h2,BS⟩
   .rw[if_neg e,if_neg (λz=>e (h1.trans z))];exact⟨h1,h2,B2⟩
def KT.put{K:Ad}{H:A8}{AA:List (Cf×V)}{xs:List (Cf×A4×A3)}(r:KT K H AA xs)(k:Cf){b:A4}{y:V}{u:A3}(A1:Qs K H k b)(BS:RelV y u) :
  KT K H (putK AA k y) (storedH xs k b u):=by
 have e:(AA.any λCh=>decide (Ch.1=k))=(atKey xs k).isSome:=by rw[nS,(r.val k).Sn,c8]
 unfold putK storedH;rw[e];by_cases q:(atKey xs k).isSome=true
 .rw[if_pos q,if_pos q];exact r.bL k BS
 .rw[if_neg q,if_neg q];exact Paired.snoc r ⟨rfl,A1,BS⟩
def KT.keeps{K:Ad}{H A6:A8}{AA:List (Cf×V)}{xs:List (Cf×A4×A3)}(r:KT K H AA xs)(BQ:∀b ys,H b=some (.tup ys)->A6 b=some (.tup ys)):KT K A6 AA xs:=
 Paired.ZM r λ_ _ z=>⟨z.1,z.2.1.mono BQ,z.2.2⟩
section
variable{P:Bh}{w:BP}{K:Ad}{H:A8}{h:Ar}{a:A4}
def kA{u:El}(ok:E7 P w K H h)(e:J3 H a u):Ds P w K H h a u:=e.ok ok
def NB{AA:List (Key×V)}(ok:E7 P w K H h)(e:J3 H a (.B3 AA)):AA.length<=Bu/\(a==Iu)=false/\∃vs,Fe AA vs/\h.DictOf (Fi P w) a vs:=
 show Ds P w K H h a (.B3 AA)from kA ok e
def S3{AA:List (Key×V)}(ok:E7 P w K H h)(e:H a=some (.B3 AA)):AA.length<=Bu/\(a==Iu)=false/\∃vs,Fe AA vs/\h.DictOf (Fi P w) a vs:=NB ok (.inl e)
def ii{ks:List Key}(ok:E7 P w K H h)(e:H a=some (.tup (ks.map CU))):GA (Fi P w) h ks a:=by obtain⟨_,its,r,o,h1,h2,n,B2⟩:=(show Ds P w K H h a (.tup (ks.map CU))from ok a _ e);exact⟨o,its.toArray,n,h1,h2,B2,by simpa using iV r⟩
theorem ZS(ok:E7 P w K H h):∀{ks:Cf}{vs:List V}{us:List A3},Paired (Pa H) ks vs->Vals vs us->Hu P w h ks us
 |_,_,_,.nil,.nil=>.nil
 |.inl _::_,_,_,.cons e t,.cons r q=>.cons (k:=.inl _) (Nw (P:=P) (w:=w) (by rw[<-show _=CU _ from e];exact r)) (ZS ok t q)
 |.inr _::_,_,_,.cons ⟨b,e,z⟩ t,.cons r q=>.cons (k:=.inr _) ⟨b,by subst e;exact r,ii ok z⟩ (ZS ok t q)
def So{ks:Cf}(ok:E7 P w K H h)(e:N2 H ks a):(Ow P w).is h ks a:=by obtain⟨vs,e,p⟩:=e;obtain⟨_,its,r,o,h1,h2,n,B2⟩:=(show Ds P w K H h a (.tup vs)from ok a _ e);exact⟨o,its.toArray,n,h1,h2,B2,by simpa using ZS ok p r⟩
def vj{ks:Cf}(ok:E7 P w K H h)(Je:K.In h)(e:Qs K H ks a):(Ow P w).is h ks a:=by
 rcases e with e|⟨x,o,n,t,rfl,AK,AD,hd⟩
 .exact So ok e
 .exact⟨o,_,n,Je a o AK,AD,hd,by simpa using Hu.cons (k:=.inl (.inr x)) (ih x t) .nil⟩
def fz{AA:List (Cf×V)}(ok:E7 P w K H h)(Je:K.In h)(e:J3 H a (.Da AA)):AA.length<=Bu/\(a==Iu)=false/\
  ∃xs,KT K H AA xs/\LE.KM (Ow P w) h a xs:=by
 obtain⟨z,y,xs,r,o,es,Ai,h1,h2,B2,Ca,FQ⟩:=(show Ds P w K H h a (.Da AA)from kA ok e);refine⟨z,y,xs,r,o,es,Ai,h1,h2,B2,Ca,λx AG=>?_,FQ⟩;have all:∀{l:List (Cf×V)}{m:List (Cf×A4×A3)},KT K H l m->∀x∈m,(Ow P w).is h x.1 x.2.1:=by
  intro l m q;induction q with
  |nil=>intro x AG;exact nomatch AG
  | @cons p q ps Lo AU t Bk=>
    intro x AG;rcases List.mem_cons.mp AG with e|AG
    .subst e;exact vj ok Je (by rw[<-AU.1];exact AU.2.1)
    .exact Bk x AG
 exact all r x AG
def S4{AA:List (Cf×V)}(ok:E7 P w K H h)(Je:K.In h)(e:J3 H a (.Da AA)):AA.length<=Bu/\(a==Iu)=false/\
  ∃xs,KT K H AA xs/\h.DictOfH (Ow P w) a xs:=
 let⟨z,y,xs,r,d⟩:=fz ok Je e;⟨z,y,xs,r,d.of⟩
end
def Ia(H:A8)(a:A4)(y:V)(r:Option V):Prop:=
 (∃AA k,J3 H a (.B3 AA)/\y=CU k/\r=HE AA k)\/∃AA k b,J3 H a (.Da AA)/\y=.ref b/\N2 H k b/\r=HE AA k
noncomputable def PW(H:A8)(a:A4)(y v:V)(A6:A8):Prop:=
 (∃AA k,H a=some (.B3 AA)/\y=CU k/\AA.length<Bu/\A6=upd H a (.B3 (putK AA k v)))\/
 ∃AA k b,H a=some (.Da AA)/\y=.ref b/\N2 H k b/\AA.length<Bu/\A6=upd H a (.Da (putK AA k v))
theorem Ia.k{H:A8}{a:A4}{AA:List (Key×V)}{k:Key}(e:H a=some (.B3 AA)):Ia H a (CU k) (HE AA k):=.inl ⟨AA,k,.inl e,rfl,rfl⟩
def Ia.t{H:A8}{a b:A4}{AA:List (Cf×V)}{k:Cf}(e:H a=some (.Da AA))(Au:N2 H k b):Ia H a (.ref b) (HE AA k):=.inr ⟨AA,k,b,.inl e,rfl,Au,rfl⟩
theorem PW.k{H:A8}{a:A4}{AA:List (Key×V)}{k:Key}{v:V}(e:H a=some (.B3 AA))(AF:AA.length<Bu):PW H a (CU k) v (upd H a (.B3 (putK AA k v))):=.inl ⟨AA,k,e,rfl,AF,rfl⟩
def PW.t{H:A8}{a b:A4}{AA:List (Cf×V)}{k:Cf}{v:V}(e:H a=some (.Da AA))(Au:N2 H k b)(AF:AA.length<Bu) :
  PW H a (.ref b) v (upd H a (.Da (putK AA k v))):=.inr ⟨AA,k,b,e,rfl,Au,AF,rfl⟩
section
variable{X:Am}{pins:List (A4×Obj)}{σ :St}{H:A8}{s:AJ}{a:A4}{y v:V}{u r:A3}{o:Option V}{A:CW}{E:A3->AJ->Prop}
def Inv.big(I:Inv X pins σ H s):Iu<s.heap.objs.size:=by have h:Fm<s.heap.objs.size:=(I.mod.glob.keeps I.BF).lt;exact cJ (by decide) h
def gb{Q:A3->AJ->Prop}(Av:A.units+16<Cq)(I:Inv X pins σ H s)(g:Ia H a y (some v))(BS:RelV y u)(h:∀CD s',Inv X pins σ H s'->RelV v CD->Q CD s') :
  AV (Al X.prog X.w) A (Op (.ref a) u) Q E s:=by
 rcases g with⟨AA,k,e,D9,l⟩|⟨AA,k,b,e,D9,Au,l⟩
 .subst D9;obtain⟨z,hd,vs,rel,dd⟩:=NB I.Ax e;obtain⟨CD,hw,Hl⟩:=Hd.some_of (v:=v) (o:=Oq vs k) (by rw[l];exact rel.val k);exact wpAny_getItem_of (Nw BS) dd.mapOf hw (h CD _ (I.tok _) Hl)
 .subst D9;cases(show u=Ce b from BS);obtain⟨z,hd,xs,rel,dd⟩:=S4 I.Ax I.EH e;obtain⟨CD,hw,Hl⟩:=Hd.some_of (v:=v) (o:=(atKey xs k).map (·.2)) (by rw[l];exact rel.val k);obtain⟨p,AT,Up⟩:=Option.map_eq_some_iff.mp hw;refine wpAny_getItem_heap (nest_room Av) (So I.Ax Au) dd AT ?_;rw[Up];exact h CD _ (I.tok _) Hl
def ro{Q:A3->AJ->Prop}(Av:A.units+16<Cq)(I:Inv X pins σ H s)(g:Ia H a y o)(BS:RelV y u)(h:∀s',Inv X pins σ H s'->Q (.bool o.isSome) s') :
  AV (Al X.prog X.w) A (Fb .In u (.ref a)) Q E s:=by
 rcases g with⟨AA,k,e,D9,l⟩|⟨AA,k,b,e,D9,Au,l⟩
 .subst D9;obtain⟨z,hd,vs,rel,dd⟩:=NB I.Ax e;refine wpAny_in_of (Nw BS) hd dd.mapOf ?_;rw[<-(rel.val k).Sn,<-l];exact h _ (I.tok _)
 .subst D9;cases(show u=Ce b from BS);obtain⟨z,hd,xs,rel,dd⟩:=S4 I.Ax I.EH e;refine wpAny_in_heap (nest_room Av) (So I.Ax Au) hd dd ?_;have q:=(rel.val k).Sn;rw[c8]at q;rw[<-q,<-l];exact h _ (I.tok _)
def rp{Q:A3->AJ->Prop}(Av:A.units+16<Cq)(I:Inv X pins σ H s)(g:Ia H a y o)(BS:RelV y u)(h:∀s',Inv X pins σ H s'->Q (.bool (!o.isSome)) s') :
  AV (Al X.prog X.w) A (Fb .NotIn u (.ref a)) Q E s:=by
 rcases g with⟨AA,k,e,D9,l⟩|⟨AA,k,b,e,D9,Au,l⟩
 .subst D9;obtain⟨z,hd,vs,rel,dd⟩:=NB I.Ax e;refine wpAny_notIn_of (Nw BS) hd dd.mapOf ?_;rw[<-(rel.val k).Sn,<-l];exact h _ (I.tok _)
 .subst D9;cases(show u=Ce b from BS);obtain⟨z,hd,xs,rel,dd⟩:=S4 I.Ax I.EH e;refine wpAny_notIn_heap (nest_room Av) (So I.Ax Au) hd dd ?_;have q:=(rel.val k).Sn;rw[c8]at q;rw[<-q,<-l];exact h _ (I.tok _)
def Xe{h':Ar}{t':Nat}{Bc:El}(I:Inv X pins σ H s)(Jh:U6 (H a))(hs:Hm a s.heap h')(he:∃q,h'.get? a=some q)(new:Ds X.prog X.w X.K (upd H a Bc) h' a Bc) :
  Inv X pins σ (upd H a Bc) { s with heap:=h',toks:=t' }:=
 I.write (x:=a) (e:=a) Jh (.inl rfl) (λb q A1 z=>(hs.2 b A1).trans z) he new
def eO{P:Bh}{w:BP}{K:Ad}{A6:A8}{h':Ar}{AA:List (Key×V)}{vs:List (Key×A3)}(z:AA.length<=Bu)(hd:(a==Iu)=false)(rel:Fe AA vs)(dd:h'.DictOf (Fi P w) a vs) :
  Ds P w K A6 h' a (.B3 AA):=⟨z,hd,vs,rel,dd⟩
def rr{A6:A8}{Q:Unit->AJ->Prop}(Av:A.units+16<Cq)(I:Inv X pins σ H s)(g:PW H a y v A6)(BS:RelV y u)(Bx:RelV v r)(h:∀s',Inv X pins σ A6 s'->Q () s') :
  AV (Al X.prog X.w) A (setItem (.ref a) u r) Q E s:=by
 rcases g with⟨AA,k,e,D9,l,EU⟩|⟨AA,k,b,e,D9,Au,l,EU⟩
 .subst D9 EU;obtain⟨z,hd,vs,rel,dd⟩:=S3 I.Ax e;have hz:vs.length<=Bu:=by rw[<-rel.length];exact z
  have AF:(putK AA k v).length<=Bu:=by have:=iM AA k v;lia
  refine wpAny_setItem_pairs (hsz:=hz) (Nw BS) dd λh' NA hs=>h _ ?_;have he:∃q,h'.get? a=some q:=let⟨q,_,_,AU,_⟩:=NA;⟨q,AU⟩
  exact Xe I (by rw[e];exact IA) hs he (eO AF hd (rel.put k Bx) NA)
 .subst D9 EU;cases(show u=Ce b from BS);obtain⟨z,hd,xs,rel,dd⟩:=fz I.Ax I.EH (.inl e);have hz:xs.length<=Bu:=by rw[<-Paired.length rel];exact z
  have AF:(putK AA k v).length<=Bu:=by have:=iM AA k v;lia
  refine LE.aag (hsz:=hz) (nest_room Av) (So I.Ax Au) dd λh' NA hs=>h _ ?_;obtain⟨q,es,Ai,AU,h2,B2,Ca,_,FQ⟩:=NA;refine Xe I (by rw[e];exact IA) hs ⟨q,AU⟩ ⟨AF,hd,_,(rel.put k (.inl Au) Bx).keeps λc ys ec=>?_,q,es,Ai,AU,h2,B2,Ca,FQ⟩;rw[D2 (yF ec e (λz=>nomatch z))];exact ec
end
section
variable{X:Am}{pins:List (A4×Obj)}{σ :St}{H:A8}{s:AJ}{a:A4}{AA:List (Key×V)}{k:Key}{u:A3}{A:CW}{E:A3->AJ->Prop}
def afA{Q:Unit->AJ->Prop}(I:Inv X pins σ H s)(e:H a=some (.B3 AA))(BS:RelV (CU k) u)(l:(HE AA k).isSome=true)(h:∀s',Inv X pins σ (upd H a (.B3 (M7 AA k))) s'->Q () s') :
  AV (Al X.prog X.w) A (delItem (.ref a) u) Q E s:=by
 obtain⟨z,hd,vs,rel,dd⟩:=S3 I.Ax e
 refine wpAny_delItem_slot dd.typeIs (by decide) oM
  (WB oM dd.typeIs PySem.F.entry_dict_delitem (PySem.F.args_dict_delitem_2 _ _) (meets_dict_delitem_pairs (Fi X.prog X.w) a (Nw BS)) ⟨vs,dd,by rw[<-rel.length];exact z,by rw[<-(rel.val k).Sn];exact l,λh' NA hs=>h _ ?_⟩)
 have he:∃q,h'.get? a=some q:=let⟨q,_,_,AU,_⟩:=NA;⟨q,AU⟩
 exact Xe I (by rw[e];exact IA) hs he (eO (I8 (fy AA k) z) hd (rel.drop k) NA)
def rq{v:V}{more:List A3}{Q:A3->AJ->Prop}(I:Inv X pins σ H s)(e:H a=some (.B3 AA))(BS:RelV (CU k) u)(l:HE AA k=some v)(hm:more=[]\/∃x,more=[x])(h:∀CD s',Inv X pins σ (upd H a (.B3 (M7 AA k))) s'->RelV v CD->Q CD s'):AV (Al X.prog X.w) A (call (.builtin "dict.pop") (.ref a::u::more)) Q E s:=by
 obtain⟨z,hd,vs,rel,dd⟩:=S3 I.Ax e;obtain⟨CD,hw,Hl⟩:=Hd.some_of (v:=v) (o:=Oq vs k) (by rw[<-l];exact rel.val k);have AT:(keyPart u).isSome=true:=by
  cases k with
  |inl i=>obtain⟨t,q⟩:=(show ∃t,u=Ra i t from BS);subst q;rfl
  |inr x=>obtain⟨t,q⟩:=(show ∃t,u=Rb x t from BS);subst q;rfl
 have AB:argsOk "dict.pop" ⟨.ref a::u::more,[]⟩:=by
  rcases hm with q|⟨x,q⟩
  .subst q;exact PySem.F.args_dict_pop_2 _ _
  .subst q;exact PySem.F.args_dict_pop_3 _ _ _
 refine WB oo dd.typeIs PySem.F.entry_dict_pop AB (meets_dict_pop_there (Fi X.prog X.w) a (Nw BS) more hm AT)
  ⟨vs,CD,dd,by rw[<-rel.length];exact z,hw,λh' NA hs=>h CD _ ?_ Hl⟩
 have he:∃q,h'.get? a=some q:=let⟨q,_,_,AU,_⟩:=NA;⟨q,AU⟩
 exact Xe I (by rw[e];exact IA) hs he (eO (I8 (fy AA k) z) hd (rel.drop k) NA)
end
def dP(i:At):Prop:=∀CQ GX,WJ i false CQ GX=operate [CQ,GX] (Op CQ GX)
def ac3{prog:Bh}{w:BP}{A:CW}{E:A3->AJ->Prop}{s:AJ}{env:Env}{value slice:At}{pos:Pos}{T id:String}{Q:A3->AJ->Prop}(AF:typeLookup (.type T) "__getitem__"=pure (some (.builtin id)))(hs:dP slice)(h:AV (Al prog w) A (Bb value env) (λo CY=>AV (Al prog w) A (Bb slice env) (λi IW=>IW.TypeIs o T/\AV (Al prog w) A (Op o i) Q E IW) E CY) E s) :
  AV (Al prog w) A (Bb (.Subscript value slice pos) env) Q E s:=by
 refine Subscript_ (I9 h (λo CY KV=>I9 KV (λi IW MG=>?_) λ_ _ x=>x) λ_ _ x=>x);obtain⟨DN,MG⟩:=MG;unfold subscriptTail;refine AL ?_;rw[getitemInPython_of_ne DN.not_modules];refine AL (Of DN AF ?_);have fin:AV (Al prog w) A (WJ slice false o i) (λr Ph=>AV (Al prog w) A (letTemporaryGo value o r>>=λ_=>pure r) Q E Ph) E IW:=by rw[hs o i];exact wpAny_operating (I9 MG (λr Ph Mg=>AL (wpAny_letTemporaryGo (Aw Mg))) λ_ _ x=>x)
 first
  |exact Aw (AL fin)
  |exact AL (Aw (AL fin))
  |exact AL fin
def fm{X:Am}{pins:List (A4×Obj)}{σ :St}{H:A8}{s:AJ}{a:A4}{y:V}{o:Option V}(I:Inv X pins σ H s)(g:Ia H a y o):s.TypeIs (.ref a) "dict":=by
 rcases g with⟨AA,k,e,_,_⟩|⟨AA,k,b,e,_,_,_⟩
 .obtain⟨_,_,vs,_,dd⟩:=NB I.Ax e;exact dd.typeIs
 .obtain⟨_,_,xs,_,dd⟩:=S4 I.Ax I.EH e;exact dd.typeIs
def mX(IF ty:TE):TE:=λσ H Q=>IF σ H λx H1=>ty σ H1 λy AS=>∃a v,x=.ref a/\Ia AS a y (some v)/\Q v AS
def kM(IF ty OR:TE):F6:=λD σ H=>OR σ H λv H1=>IF σ H1 λx AS=>ty σ AS λy Bl=>∃a CM,x=.ref a/\PW Bl a y v CM/\D.AP σ CM
section
variable{X:Am}{o i e value:At}{pos pos' VN:Pos}{IF ty OR:TE}
def yo(Av:X.A.units+16<Cq)(ho:Ae X o IF)(A7:Ae X i ty)(hs:dP i):Ae X (.Subscript o i pos) (mX IF ty):=by intro pins s σ H Q I h;refine ac3 PySem.F.slot_dict_getitem.lookup hs (BG (ho pins s σ H _ I h) λu s1⟨x,H1,Ab,Aq,q1⟩=>BG (A7 pins s1 σ H1 _ Ab q1) λGX s2⟨y,AS,BU,BS,a,v,ex,g,q2⟩=>?_);subst ex;obtain rfl:u=Ce a:=Aq;exact⟨fm BU g,gb Av BU g BS λCD s3 DZ Hl=>⟨v,AS,DZ,Hl,q2⟩⟩
def z_(Av:X.A.units+16<Cq)(ho:Ae X o IF)(A7:Ae X i ty)(BB:Ae X value OR)(hs:QB value (some (.Subscript o i pos')) pos.line X.env=pure false) :
  DL X (.Assign [.Subscript o i pos'] value pos) (kM IF ty OR):=by
 intro pins s σ H D I h;refine wpAny_Assign_Subscript (BG (BB pins s σ H _ I h) λr s1⟨v,H1,Ab,Bx,q1⟩=>BG (ho pins s1 σ H1 _ Ab q1) λu s2⟨x,AS,BU,Aq,q2⟩=>BG (A7 pins s2 σ AS _ BU q2) λGX s3⟨y,Bl,DZ,BS,a,CM,ex,g,EI⟩=>?_) hs;subst ex;obtain rfl:u=Ce a:=Aq;exact rr Av DZ g BS Bx λs4 L4=>⟨σ,CM,L4,EI⟩
end
def ry{P:Bh}{w:BP}{K:Ad}{H:A8}(h:Ar)(A1:Iu<h.objs.size):Ds P w K H (h.push { cls:=.type "dict",data:=.dict #[] }) h.objs.size (.B3 []):=
 ⟨Gi _,beq_eq_false_iff_ne.mpr (Ku (Ef A1)),[],.nil,Heap.DictOf.new h⟩
def sA{P:Bh}{w:BP}{K:Ad}{H:A8}(h:Ar)(A1:Iu<h.objs.size):Ds P w K H (h.push { cls:=.type "dict",data:=.dict #[] }) h.objs.size (.Da []):=
 ⟨Gi _,beq_eq_false_iff_ne.mpr (Ku (Ef A1)),[],.nil,_,#[],0,Fc _ rfl,⟨rfl,rfl,rfl⟩,rfl,rfl,RU,rfl⟩
def aq:TE:=λ_ H Q=>∀p,H p=none->Q (.ref p) (upd H p (.B3 []))
def n_:TE:=λ_ H Q=>∀p,H p=none->Q (.ref p) (upd H p (.Da []))
section
variable{X:Am}{pos:Pos}
def VF:Ae X (.Dict [] [] pos) aq:=λpins s σ H Q I h=>
 wpAny_Dict_empty ⟨.ref s.heap.objs.size,_,I.laid (a:=s.heap.objs.size) (o:=.B3 []) (t':=s.toks) (λ_ _ q=>Cz _ q) (C1 _) (ry s.heap I.big),rfl,h _ (I.Ax.fresh (C1 _))⟩
def yq:Ae X (.Dict [] [] pos) n_:=λpins s σ H Q I h=>
 wpAny_Dict_empty ⟨.ref s.heap.objs.size,_,I.laid (a:=s.heap.objs.size) (o:=.Da []) (t':=s.toks) (λ_ _ q=>Cz _ q) (C1 _) (sA s.heap I.big),rfl,h _ (I.Ax.fresh (C1 _))⟩
end
structure QP(X:Am)(o:At)(m:Str)(apos:Pos)(e:At)(EN:Pos):Prop where
 base:NH o m X.env (Bb o X.env)=Bb o X.env
 few:((GO EN (CJ [e] X.env)).all (λx=>!x.1)&&(NO EN (NJ [] X.env)).all (λx=>x.1.isSome)
  &&decide (([e]:List At).length+([]:List QD).length+(if([]:List QD).isEmpty then 0 else 1)<30))=true
 line:(apos.endLine==EN.line)=true
 trees:GO EN (CJ [e] X.env)=[(false,Bb e X.env)]
def Wb(H:A8)(a:A4):Prop:=(∃AA,J3 H a (.B3 AA))\/∃AA,J3 H a (.Da AA)
def iR{X:Am}{pins:List (A4×Obj)}{σ :St}{H:A8}{s:AJ}{a:A4}(I:Inv X pins σ H s)(d:Wb H a) :
  s.TypeIs (.ref a) "dict"/\(∀b,Ce a=.ref b->∃Bc,s.heap.get? b=some Bc/\Bc.dict=none)/\(a==Iu)=false:=by
 rcases d with⟨AA,e⟩|⟨AA,e⟩
 .obtain⟨_,hd,vs,_,dd⟩:=NB I.Ax e;refine⟨dd.typeIs,λb q=>?_,hd⟩;cases q;obtain⟨Bc,_,_,h1,h2,_⟩:=dd;exact⟨Bc,h1,h2.2.1⟩
 .obtain⟨_,hd,xs,_,dd⟩:=S4 I.Ax I.EH e;refine⟨dd.typeIs,λb q=>?_,hd⟩;cases q;obtain⟨Bc,_,_,h1,h2,_⟩:=dd;exact⟨Bc,h1,h2.2.1⟩
section
variable{X:Am}{pins:List (A4×Obj)}{σ :St}{H:A8}{s:AJ}{a:A4}{y d:V}{u r:A3}{o:Option V}{A:CW}{E:A3->AJ->Prop}
def qm{Q:A3->AJ->Prop}(Av:A.units+16<Cq)(I:Inv X pins σ H s)(g:Ia H a y o)(BS:RelV y u)(h:∀CD s',Inv X pins σ H s'->RelV (o.getD .non) CD->Q CD s') :
  AV (Al X.prog X.w) A (call (.builtin "dict.get") [.ref a,u]) Q E s:=by
 rcases g with⟨AA,k,e,D9,l⟩|⟨AA,k,b,e,D9,Au,l⟩
 .subst D9;obtain⟨z,hd,vs,rel,dd⟩:=NB I.Ax e;refine WB bn dd.typeIs oj (p1 _ _) (meets_dict_get (Fi X.prog X.w) a (Nw BS) hd) ⟨_,dd.mapOf,h _ _ (I.tok _) ?_⟩;rw[l];exact(rel.val k).getD rfl
 .subst D9;cases(show u=Ce b from BS);obtain⟨z,hd,xs,rel,dd⟩:=S4 I.Ax I.EH e;refine WB bn dd.typeIs oj (p1 _ _) (meetsH_dict_get (Ow X.prog X.w) a b hd) ⟨nest_room Av,k,xs,So I.Ax Au,dd,h _ _ (I.tok _) ?_⟩;rw[l];exact(rel.val k).getD rfl
end
def nZ(IF ty:TE):TE:=λσ H Q=>IF σ H λx H1=>∃a,x=.ref a/\Wb H1 a/\ty σ H1 λy AS=>∃o,Ia AS a y o/\Q (o.getD .non) AS
def nc(IF ty:TE):TE:=λσ H Q=>IF σ H λx H1=>∃a,x=.ref a/\Wb H1 a/\ty σ H1 λy AS=>∃AA k v,AS a=some (.B3 AA)/\y=CU k/\HE AA k=some v/\Q v (upd AS a (.B3 (M7 AA k)))
section
variable{X:Am}{o e f:At}{apos EN:Pos}{IF ty aft:TE}
def yp(Av:X.A.units+16<Cq)(ho:Ae X o IF)(he:Ae X e ty)(m:QP X o "get" apos e EN):Ae X (.Call (.Attribute o "get" apos) [e] [] EN) (nZ IF ty):=by intro pins s σ H Q I h;refine wpAny_Call_method m.base m.few m.line p2 bn PySem.F.type_dict_get (BG (ho pins s σ H _ I h) λu s1⟨x,H1,Ab,Aq,a,ex,d,q1⟩=>?_);subst ex;obtain rfl:u=Ce a:=Aq;obtain⟨t1,Ct,_⟩:=iR Ab d;refine⟨t1,Ct,?_⟩;rw[m.trees];refine Vo rfl (Vc (TC (BG (he pins s1 σ H1 _ Ab q1) λGX s2⟨y,AS,BU,BS,CQ,g,q2⟩=>T7 ?_)));exact qm Av BU g BS λCD s3 DZ Hl=>⟨_,AS,DZ,Hl,q2⟩
def yG(ho:Ae X o IF)(he:Ae X e ty)(m:QP X o "pop" apos e EN):Ae X (.Call (.Attribute o "pop" apos) [e] [] EN) (nc IF ty):=by intro pins s σ H Q I h;refine wpAny_Call_method m.base m.few m.line p2 oo PySem.F.type_dict_pop (BG (ho pins s σ H _ I h) λu s1⟨x,H1,Ab,Aq,a,ex,d,q1⟩=>?_);subst ex;obtain rfl:u=Ce a:=Aq;obtain⟨t1,Ct,_⟩:=iR Ab d;refine⟨t1,Ct,?_⟩;rw[m.trees];refine Vo rfl (Vc (TC (BG (he pins s1 σ H1 _ Ab q1) λGX s2⟨y,AS,BU,BS,AA,k,v,Bg,D9,l,q2⟩=>T7 ?_)));subst D9;exact rq BU Bg BS l (.inl rfl) λCD s3 DZ Hl=>⟨v,_,DZ,Hl,q2⟩
end
section
variable{X:Am}{pins:List (A4×Obj)}{σ :St}{H:A8}{s:AJ}{a:A4}{AA:List (Key×V)}{A:CW}{E:A3->AJ->Prop}
end
section
variable{X:Am}{pins:List (A4×Obj)}{σ :St}{H:A8}{s:AJ}{a:A4}{y:V}{u:A3}{A:CW}{E:A3->AJ->Prop}
end
end B8
namespace fN
open PySem PySem.W PySem.Calls PyProof.Rows
def wF{P:Params}{h:Ar}:∀(ns:List Int)(vs:List A3),WellAll P h vs (ns.map WData.int)->QE vs ns:=by
 intro ns;induction ns with
 |nil=>intro vs w;rw[Iy]at w;cases w;exact .nil
 |cons n ns Bk=>
  intro vs w;rw[DB]at w;cases w with
  |cons a b=>cases a;exact .cons _ _ (Bk _ b)
def aaf{l:OpenLaw}{n:Nat}(AW:l.most=some n){P:Params}{h:Ar}{args:List WData}{vals:List A3}(XE:l.row.toRowW.claim.pre args=true)(a7:WellAll P h vals args) :
  ∃a vs ns,vals=[Ce a]/\args=[WData.list (ns.map WData.int)]/\h.get? a=some { cls:=.type "list",data:=.seq vs.toArray }/\QE vs ns/\ns.length<=n:=by
 have vO:WShape.hasAll [] args [.list .int]=true:=(pre_splitW XE).1;have AD:l.pre.holds [] { args:=args }=true:=(pre_splitW XE).2;obtain⟨d,r,rfl,h1,h2⟩:=hasAllW_cons vO;obtain rfl:=hasAllW_nil h2;obtain⟨xs,rfl,B2⟩:=hasW_list h1;obtain⟨ns,rfl⟩:=items_int B2;have hlen:ns.length<=n:=by
  unfold OpenLaw.pre at AD;have Ca:(WTm.not (.lt (.lit (.int (n:Int))) (.len (.arg 0)))).holds [] { args:=[.list (ns.map .int)] }=true:=by have Ca:=(holds_andW AD).1;rw[AW]at Ca;exact Ca
  have FQ:=condW_of Ca (w_not (w_lt w_lit (w_len_list (w_arg rfl))));rw[DV]at FQ;refine Nat.le_of_not_lt λq=>?_;have Cc:(n:Int)<((ns.length:Nat):Int):=by lia
  first
   |(rw[decide_eq_true Cc]at FQ;exact absurd FQ (by decide))
   |(simp at FQ;lia)
 cases a7 with
 |cons G7 Gg=>
  cases Gg;cases G7 with
  |list ho Rl=>exact⟨_,_,ns,rfl,rfl,ho,wF ns _ Rl,hlen⟩
def zV(l:OpenLaw)(args:List WData):l.row.toRowW.claim.post args (.bool true) args=true:=
 postW_of (r:=l.row.toRowW) (X:=(true==true))
  (show WShape.has [] (.bool true) .bool=true by first|rfl|decide|simp[WShape.has,WShape.arms,WShape.armsAll])
  (show(WTm.eq .res (.lit (.bool true))).value [] { args:=args,res:=some (.bool true),after:=args }=some (.bool (true==true))from w_eq_bool (w_res rfl) w_lit) rfl
def pN {l:OpenLaw} {n:Nat} {q:Bh} {loose:List Str} {KG:(Str->Option A3)->Ar->Prop} {M4:BP->Ar->Prop} {d:DefRec}(AW:l.most=some n) (Qm:d.params.defaults=[])(call:∀(w:BP)(Fl CY:AJ)(mg GZ:Str->Option A3)(JD:A4)(o:Obj)(pm cd doc:A3)(a:A4)(vs:List A3)(ns:List Int),
    Ground q loose [] KG w Fl mg GZ CY.heap->M4 w CY.heap->
    CY.heap.get? JD=some o->o.data=.func (docDef d.name d.params d.body d.scope pm cd doc)->CY.heap.CodeRec cd d.name->mg d.name=some (.ref JD)->
    CY.heap.get? a=some { cls:=.type "list",data:=.seq vs.toArray }->QE vs ns->ns.length<=n->CY.gens= #[]->
    Lj (Al l.prog w) Os (.call (.ref JD) ⟨[.ref a],[]⟩) (λr s'=>r=.ok (.ret (.bool true))/\OldK CY.heap s'.heap/\s'.os=CY.os/\MU s'.gens) CY) :
  WalkO q loose KG M4 l.row.toRowW d [] (λf vs=>WH f vs):=by
 intro w Fl CY mg GZ G Y JD o pm cd doc Xd CU ho hd KR hc Zs Aj args vals as XE aea aee a7 aeb;obtain rfl:Xd=.none:=Dflts.none hc Qm;obtain rfl:CU=.none:=Dflts.noKw hc;obtain⟨a,vs,ns,rfl,rfl,Zu,hints,hlen⟩:=aaf AW XE a7;refine enter_call (R_ (call w Fl CY mg GZ JD o pm cd doc a vs ns G Y ho (fd_plain hd) KR Zs Zu hints hlen Aj) λr s' AU=>?_);obtain⟨rfl,h2,B2,Ca⟩:=AU;exact⟨.inl ⟨.bool true,.bool true,[],rfl,λ_=>rfl,.bool true,zV l _,λ_=>⟨p9,λ_ hm=>(nomatch hm)⟩⟩,h2,B2,Ca⟩
section
variable{prog:Bh}{w:BP}{A:CW}{E:A3->AJ->Prop}{s:AJ}{K:Frag}
end
end fN
namespace B8
open PySem PySem.Spec PyProof.Rows
theorem nU:∀{vs:List A3}{ns:List Int},QE vs ns->Vals (ns.map V.int) vs
 |_,_,.nil=>.nil
 |_,_,.cons n t h=>.cons ⟨t,rfl⟩ (nU h)
def dQ(H:A8):Prop:=∀b,H b=none\/∃o xs,H b=some (.EF o (.lst xs))
def xO{P:Bh}{w:BP}{K:Ad}{mg GZ:Str->Option A3}{CX:KL}{k:Nat}{JD a:A4}{fd:HU}{x:Str}{sp:Dg}{CY:AJ}{vs:List A3}{ns:List Int}(Ht:K.In CY.heap)(hA:CY.heap.Ns Fm mg)(A1:CY.heap.Ns builtinsNs GZ)(t_:∀x:Str,x≠"__name__"->GZ x=NN x)(ux:CY.heap.NoLimit)(Aj:CY.gens= #[])(AB:CY.heap.get? a=some { cls:=.type "list",data:=.seq vs.toArray })(A7:QE vs ns)(AF:ns.length<=Bu)(Ao:Cu k Os)(F:∀base:Ar,K.In base->base.Ns Fm mg->IL P w K mg base CX k JD fd [x] sp)(ta:∀(s:AJ)(u:A3),BindsTo s fd ⟨[u],[]⟩ [(x,u)])(LJ:∀H:A8,dQ H->EL K H a (ns.map V.int)->sp [.ref a] H (λv _=>v=.AM true) λ_ _ _=>False)(e8:∀H e s',CX [] H CY (λ_ _ _=>False) e s'->False) :
  Lj (Al P w) Os (.call (.ref JD) ⟨[.ref a],[]⟩) (λr s'=>r=.ok (.ret (.bool true))/\OldK CY.heap s'.heap/\s'.os=CY.os/\MU s'.gens) CY:=by
 have Bx:=nU A7;have wg:=A7.length
 have core:∀H:A8,dQ H->EL K H a (ns.map V.int)->E7 P w K H CY.heap->(∀b,H b≠none->b=a)->(H a≠none->K.lookup a=none)->
   Lj (Al P w) Os (.call (.ref JD) ⟨[.ref a],[]⟩) (λr s'=>r=.ok (.ret (.bool true))/\OldK CY.heap s'.heap/\s'.os=CY.os/\MU s'.gens) CY:=by
  intro H Rj MB Ax I0 AX;have fJ:∀{b:A4}{o:Obj},CY.heap.get? b=some o->H b=none->(Nr CY.heap H).get? b=some o:=λe n=>tL e n;have UF:∀{b:A4}{o:Obj}{es:Array MT}{Ai:Nat},CY.heap.get? b=some o->o.data=.dict es Ai->H b=none:=λ{b o es Ai} e d=>by
   cases q:H b with
   |none=>rfl
   |some u=>have BC:b=a:=I0 b (by rw[q];simp);subst BC;rw[AB]at e;cases e;have d':Data.seq vs.toArray _=Data.dict es Ai:=d;cases d'
  have YB:∀{b:A4}{m:Str->Option A3},CY.heap.Ns b m->(Nr CY.heap H).Ns b m:=λ{b m}⟨o,es,Ai,e,d,r⟩=>⟨o,es,Ai,fJ e (UF e d),d,r⟩;have hi:K.In (Nr CY.heap H):=λb o e=>fJ (Ht b o e) (by
   cases q:H b with
   |none=>rfl
   |some u=>have BC:b=a:=I0 b (by rw[q];simp);subst BC;rw[AX (by rw[q];simp)]at e;cases e)
  have Nn:Mod K mg (Nr CY.heap H):=⟨hi,YB hA,⟨GZ,YB A1,t_⟩,let⟨SO,h1,h2⟩:=ux;⟨SO,YB h1,h2⟩⟩;have Ep:Qq P w K mg (Nr CY.heap H) Os [] CY H:=⟨rfl,Nn,λb o e=>xY e,Nat.le_of_eq (tM _ _),trivial,λb A1=>absurd (show b∈([]:List A4)from A1) (by simp),Ax,.of_eq Aj⟩;refine R_ ((F _ hi (YB hA)).run Os [] CY H ⟨[.ref a],[]⟩ [.ref a] [.ref a] _ _ Ao Ep (ta CY (.ref a)) (.cons rfl .nil) (LJ H Rj MB)) λr s' h=>?_;cases r with
  |error e=>exact(e8 H e s' h).elim
  |ok Gm=>
   cases Gm with
   |next=>exact Hq h
   |brk=>exact Hq h
   |cont=>exact Hq h
   |ret u=>
    obtain⟨v,A6,os,bare,un,vE,BK,q⟩:=h;have Cc:v=.AM true:=q;subst Cc;obtain rfl:u=Q8 true:=BK;refine⟨rfl,OldK.of_keep λb o e=>?_,os,bare⟩;cases q:H b with
    |none=>exact un.keep b o e q (by intro z;exact absurd (show b∈([]:List A4)from z) (by simp)) (by simp)
    |some u=>
     rcases Rj b with z|⟨Bc,xs,z⟩
     .rw[q]at z;cases z
     .have F5:=un.JE b Bc _ z;obtain⟨A9,_⟩:=Ax b _ z;obtain⟨AE,_⟩:=vE b _ F5;rw[e]at A9;cases A9;exact AE
 cases AK:K.lookup a with
 |some o=>have e:=Ht a o AK;rw[AB]at e;cases e;refine core (λ_=>none) (λ_=>.inl rfl) (.inr ⟨_,vs.toArray,_,AK,rfl,rfl,rfl,by rw[DI,wg];exact AF,by simpa using Bx⟩) (λb u z=>by have FK:(none:Option El)=some u:=z;cases FK) (λb z=>absurd rfl z) λz=>absurd rfl z
 |none=>
  refine core (λb=>if b=a then some (.EF { cls:=.type "list",data:=.seq vs.toArray } (.lst (ns.map V.int)))else none) (λb=>?_) (.inl (.inr ⟨{ cls:=.type "list",data:=.seq vs.toArray },if_pos rfl⟩)) (λb u z=>?_) (λb z=>?_) λ_=>AK
  .by_cases A1:b=a
   .exact .inr ⟨_,_,if_pos A1⟩
   .exact .inl (if_neg A1)
  .by_cases A1:b=a
   .have FK:=(if_pos A1).symm.trans z;cases FK;subst A1;exact⟨AB,by rw[DV];exact AF,vs,_,Bx,AB⟩
   .have FK:=(if_neg A1).symm.trans z;cases FK
  .by_cases A1:b=a
   .exact A1
   .exact absurd (if_neg A1) z
def abk {l:c4} {n k:Nat} {q:Bh} {loose:List Str} {KG:(Str->Option A3)->Ar->Prop} {M4:BP->Ar->Prop} {d:DefRec} {K:Params->Ad} {CX:BP->KL} {sp:BP->Dg} {x:Str}(AW:l.most=some n) (XB:n<=Bu) (Qm:d.params.defaults=[]) (Ao:Cu k Os)(TQ:∀(w:BP)(h:Ar),M4 w h->(K w.params).In h)(F:∀(w:BP)(mg:Str->Option A3)(JD:A4)(h:Ar),(K w.params).In h->h.Ns Fm mg->mg d.name=some (.ref JD)->
    ∃fd:HU,(∀(s:AJ)(u:A3),BindsTo s fd ⟨[u],[]⟩ [(x,u)])/\
     ∀base:Ar,(K w.params).In base->base.Ns Fm mg->IL l.prog w (K w.params) mg base (CX w) k JD fd [x] (sp w))
  (LJ:∀(w:BP)(H:A8)(a:A4)(ns:List Int),ns.length<=n->dQ H->EL (K w.params) H a (ns.map V.int)->sp w [.ref a] H (λv _=>v=.AM true) λ_ _ _=>False)
  (e8:∀(w:BP)(H:A8)(s:AJ)(e:A3)(s':AJ),CX w [] H s (λ_ _ _=>False) e s'->False) :
  cR q loose KG M4 l.row.toRowW d [] (λf vs=>WH f vs):=by
 refine fN.pN AW Qm λw Fl CY mg GZ JD o pm cd doc a vs ns G Y ho hd KR Zs Zu hints hlen Aj=>?_;have Ht:=TQ w _ Y;obtain⟨fd,A1,hg⟩:=F w mg JD _ Ht G.T.g Zs;exact xO Ht G.T.g G.T.b G.T.builtins G.T.nolimit Aj Zu hints (I8 hlen XB) Ao hg A1 (λH Rj MB=>LJ w H a ns hlen Rj MB) λH e s'=>e8 w H CY e s'
def inClass(s:BM)(j:Nat):BM:=match s with
 |.ClassDef _ _ _ body _ _ _ _ _ _ _=>body.getD j (.Pass ⟨0,0,0,0⟩)
 |_=>.Pass ⟨0,0,0,0⟩
def LA(s:BM):Arguments:=match s with
 |.FunctionDef _ a _ _ _ _ _ _ _ _=>a
 |_=>{ posonlyargs:=[],args:=[],vararg:=none,kwonlyargs:=[],kw_defaults:=[],kwarg:=none,defaults:=[] }
def JX(s:BM):List BM:=match s with
 |.FunctionDef _ _ b _ _ _ _ _ _ _=>b
 |_=>[]
def Bt(s:BM):Ey:=match s with
 |.FunctionDef _ _ _ _ _ _ sc _ _ _=>sc
 |_=>{ kind:=.function,names:=[],isGenerator:=false,isCoroutine:=false }
abbrev fO:KL:=λ_ _ _ _ _ _=>False
abbrev cW:FT:=λ_ _ _=>False
structure NV(K:Ad)(x qual:Str)(st:BM)(f:A4)(fd:HU):Prop where
 ex:∃(Fu:A3)(Di:Option A4)(CU doc pm:A3)(an:Option A4)(F1 Cv:A3)(NY:Array (Option A3)),
  fd=JT x qual (LA st) (JX st) (Bt st) .none CU doc pm an F1 Cv/\K.lookup f=some ⟨Fu,Di,.func fd,NY⟩/\MQ K F1 qual=true
 Bd:JP K (.ref f)=true
section
variable{P:Bh}{w:BP}{K:Ad}{mg:Str->Option A3}{base:Ar}
def NV.ok {x qual:Str} {st:BM} {f:A4} {fd:HU} {N ps:List Str} {k:Nat} {sp:Dg} (F:NV K x qual st f fd) (S:CH N ps (Bt st)) (len:∀vs H Q E,sp vs H Q E->vs.length=ps.length)(eC:∀(F1:A3)(A:CW)(outer:List Env)(s:AJ)(H:A8)(vs:List V)(Q:CA)(E:FT),Cu k (A.deeper (NR qual (Bt st) s.heap.objs.size f F1))->sp vs H Q E->
    ∃t,H4 (JW fO P w K mg base N qual (Bt st) f F1 A outer s H E).HB (JX st) t/\t { AP:=λ_ A6=>Q .non A6,Do:=Q } (start N vs) H):IL P w K mg base fO (k+1) f fd ps sp:=by
 obtain⟨Fu,Di,CU,doc,pm,an,F1,Cv,NY,rfl,lk,KR⟩:=F.ex;refine fh lk KR S len λA outer s H vs Q E Ao LJ=>?_;obtain⟨t,h,q⟩:=eC F1 A outer s H vs Q E Ao LJ;exact⟨t,h.HB,q⟩
def NV.binds{x qual:Str}{st:BM}{f:A4}{fd:HU}{ps:List Str}(F:NV K x qual st f fd)(h:∀(CU doc pm:A3)(an:Option A4)(F1 Cv:A3)(us:List A3),us.length=ps.length->bindArgs (JT x qual (LA st) (JX st) (Bt st) .none CU doc pm an F1 Cv) ⟨us,[]⟩=pure (ps.zip us)):Binds K fd ps []:=by obtain⟨Fu,Di,CU,doc,pm,an,F1,Cv,NY,rfl,lk,KR⟩:=F.ex;exact .all (h CU doc pm an F1 Cv)
def Qi{x qual:Str}{st:BM}{f:A4}{Fu:A3}{Di an:Option A4}{NY:Array (Option A3)}{CU doc pm F1 Cv:A3}(l:K.lookup f=some ⟨Fu,Di,.func (JT x qual (LA st) (JX st) (Bt st) .none CU doc pm an F1 Cv),NY⟩)(c:MQ K F1 qual=true)(k:JP K (.ref f)=true):NV K x qual st f (JT x qual (LA st) (JX st) (Bt st) .none CU doc pm an F1 Cv):=⟨⟨Fu,Di,CU,doc,pm,an,F1,Cv,NY,rfl,l,c⟩,k⟩
end
section
variable{X:Am}
end
def fZ(H A6:A8):Prop:=∀b o,H b=some o->A6 b=some o
def fZ.refl(H:A8):fZ H H:=λ_ _ h=>h
section
variable{X:Am}
end
section
variable{B_:Type}[DecidableEq B_]
end
def HR(env:Env):List (Str×K4)->List (Str×A4)->List (Str×A4)
 |[],cs=>cs
 |(x,k)::r,cs=>HR env r (if k==.free then(x,(env.cells.lookup x).getD 0)::cs else cs)
theorem gO{env:Env}:∀(names:List (Str×K4))(cs:List (Str×A4)),(∀p∈names,p.2=.free->∃c,env.cells.lookup p.1=some c)->
 (forIn (m:=Sem) names cs λ(x:Str×K4) cs=>if(x.2==Ix)=true then do
   let a <-cellOf env x.1
   pure (Oa ((x.1,a)::cs))else pure (Oa cs))=pure (HR env names cs)
 |[],cs,_=>rfl
 |(x,k)::r,cs,h=>by
  rw[c5];have Bk:=gO (env:=env) r;by_cases AK:k=.free
  .subst AK;obtain⟨c,AD⟩:=h (x,.free) Fy rfl;have A9:cellOf env x=pure c:=by unfold cellOf;rw[AD]
   simp only[beq_self_eq_true,if_true,HR,A9,AD,Oe,pure_bind];exact Bk _ λp AT=>h p (FD _ AT)
  .have A1:(k==Ix)=false:=by simpa using AK
   simp only[A1,Gj,if_false,HR,pure_bind];exact Bk _ λp AT=>h p (FD _ AT)
def gN{env:Env}{scope:Ey}(h:∀p∈scope.names,p.2=.free->∃c,env.cells.lookup p.1=some c):closureFor scope env=pure (HR env scope.names []):=by
 have e:=gO (env:=env) scope.names [] h;unfold closureFor
 refine Eq.trans (b:=(forIn (m:=Sem) scope.names [] λ(x:Str×K4) cs=>if(x.2==Ix)=true then do
   let a <-cellOf env x.1
   pure (Oa ((x.1,a)::cs))else pure (Oa cs))>>=pure) rfl ?_
 rw[e];rfl
theorem gM{env:Env}{x:Str}:∀(names:List (Str×K4))(cs:List (Str×A4)),(∀p∈names,p.2=.free->∃c,env.cells.lookup p.1=some c)->
  (HR env names cs).lookup x=if(x,Ix)∈names then env.cells.lookup x else cs.lookup x
 |[],cs,_=>by simp[HR]
 |(y,k)::r,cs,h=>by
  rw[HR,gM r _ λp AT=>h p (FD _ AT)];by_cases hm:(x,Ix)∈r
  .rw[if_pos hm,if_pos (FD _ hm)]
  .rw[if_neg hm];by_cases AK:k=.free
   .subst AK;obtain⟨c,AD⟩:=h (y,.free) Fy rfl;by_cases AG:x=y
    .subst AG;rw[if_pos Fy];simp[W6,AD]
    .have nm:¬(x,Ix)∈(y,Ix)::r:=λz=>by
       rcases List.mem_cons.mp z with e|e
       .exact AG (by injection e)
       .exact hm e
     rw[if_neg nm];have A1:(x==y)=false:=by simpa using AG
     simp[W6,A1]
   .have A1:(k==Ix)=false:=by simpa using AK
    have nm:¬(x,Ix)∈(y,k)::r:=λz=>by
     rcases List.mem_cons.mp z with e|e
     .exact AK (by injection e with _ AE;exact AE.symm)
     .exact hm e
    rw[if_neg nm];simp[A1]
def qj {prog:Bh} {w:BP} {A:CW} {R:Result->AJ->Prop} {s:AJ} {elt target iter:At} {ifs:List At} {scope:Ey} {pos:Pos} {it acc:A3} {env:Env} (I:Nat->AJ->Prop)(turn:∀n s,I n s->AV (Al prog w) A (K7 it) (λr CY=>match r with
    |none=>R (.ok .next) CY
    |some v=>AV (Al prog w) A (Vw target it v) (λ_ lz=>AV (Al prog w) A (K6 target env v) (λ_ IW=>
       AV (Al prog w) A (forIn ifs true λc r=>if r=true then do let ok <-isTrue c env (Bb c env);pure (Oa ok)else pure (Oa r)) (λok Ph=>
        if ok=true then AV (Al prog w) A (Bb elt env) (λx YZ=>
         AV (Al prog w) A (call (.builtin "list.append") [acc,x]) (λ_ m1=>∃m,m<n/\I m m1) (Ot (Al prog w) A env λe s'=>R (.error e) s') YZ) (Ot (Al prog w) A env λe s'=>R (.error e) s') Ph
        else ∃m,m<n/\I m Ph) (Ot (Al prog w) A env λe s'=>R (.error e) s') IW) (Ot (Al prog w) A env λe s'=>R (.error e) s') lz) (Ot (Al prog w) A env λe s'=>R (.error e) s') CY) (Ot (Al prog w) A env λe s'=>R (.error e) s') s)
  (n:Nat) (h:I n s):Lj (Al prog w) A (.compLoop (.ListComp elt [⟨target,iter,ifs,0⟩] scope pos) 0 it acc env) R s:=by
 refine codeAny_loop rfl I (λn s PD=>?_) n h;show AV _ A ((compTurn (.ListComp elt [⟨target,iter,ifs,0⟩] scope pos) 0 it acc env).onRaise (λx=>do noteFrame x env;theTreesLotGoes x)) _ _ s;refine wpAny_noted ?_;rw[compTurn_list];refine AL (wpAny_standAt (AL (I9 (turn n s PD) (λr CY KV=>?_) λ_ _ h'=>h')));cases r with
 |none=>exact Aw KV
 |some v=>
  refine AL (I9 KV (λ_ lz ua=>?_) λ_ _ h'=>h');refine AL (I9 ua (λ_ IW MG=>AL (I9 MG (λok Ph Mg=>?_) λ_ _ h'=>h')) λ_ _ h'=>h');cases ok with
  |false=>exact Aw ⟨rfl,Mg⟩
  |true=>exact AL (AL (I9 Mg (λx YZ Us=>AL (I9 Us (λ_ m1 Hg=>Aw (Aw ⟨rfl,Hg⟩)) λ_ _ h'=>h')) λ_ _ h'=>h'))
abbrev G0(X:Am)(scope:Ey)(N:List Str)(cl:List (Str×A4))(C:A4)(s:AJ)(H:A8)(BA:List A4):Am where
 prog:=X.prog
 w:=X.w
 K:=X.K
 mg:=X.mg
 base:=X.base
 A:=X.A
 N:=N
 Fl:=s
 M0:=H
 env:=compEnvC scope cl C X.env
 outer:=X.stack
 stack:=X.stack
 ex:=BA
 calm:=X.calm
 fn:=λx=>scope.names.lookup x==some .cell
 GN:=[]
 Ck:=λ_ _=>False
def N8(nl:Nat)(caps:List Nat)(σ :St):St:=FE nl none++caps.map λj=> σ.getD j none
def YI:Option K4->Bool
 |some .cell=>true
 |some .free=>true
 |_=>false
structure Lw(sc:Ey)(N3:List Str)(scope:Ey)(N:List Str)(nl:Nat)(caps:List Nat):Prop where
 kind:scope.kind=.function
 uniq:∀x∈scope.names,scope.names.lookup x.1=some x.2
 free:∀x∈scope.names,x.2=.free->YI (sc.names.lookup x.1)=true
 len:N.length=nl+caps.length
 qa:∀k j,caps[k]?=some j->∃x,N3[j]?=some x/\N[nl+k]?=some x/\scope.names.lookup x=some .free/\YI (sc.names.lookup x)=true
noncomputable def XZ(sc:Ey)(N3:List Str)(scope:Ey)(N:List Str)(nl:Nat)(caps:List Nat):Bool:=
 (scope.kind==.function)&&scope.names.all (λx=>scope.names.lookup x.1==some x.2&&(x.2 !=.free||YI (sc.names.lookup x.1)))&&
 (N.length==nl+caps.length)&&(caps.zipIdx.all λia=>match N3[ia.1]? with
   |none=>false
   |some x=>N[nl+ia.2]?==some x&&scope.names.lookup x==some .free&&YI (sc.names.lookup x))
def Lw.of{sc:Ey}{N3:List Str}{scope:Ey}{N:List Str}{nl:Nat}{caps:List Nat}(h:XZ sc N3 scope N nl caps=true):Lw sc N3 scope N nl caps:=by
 unfold XZ at h;rw[I7,I7,I7]at h;obtain⟨⟨⟨h1,h2⟩,B2⟩,Ca⟩:=h;rw[bx]at h2 Ca;refine⟨eq_of_beq h1,λx AG=>?_,λx AG e=>?_,eq_of_beq B2,λk j e=>?_⟩
 .have:=h2 x AG;rw[I7]at this;exact eq_of_beq this.1
 .have:=h2 x AG;rw[I7]at this;have q:=this.2;rw[e]at q;simpa using q
 .have m:(j,k)∈caps.zipIdx:=by
    rw[List.mem_zipIdx_iff_getElem?];exact e
  have q:=Ca _ m;dsimp only at q
  split at q
  .cases q
  .rename_i x ex;rw[I7,I7]at q;exact⟨x,ex,eq_of_beq q.1.1,eq_of_beq q.1.2,q.2⟩
def Lw.locs{sc:Ey}{N3:List Str}{scope:Ey}{N:List Str}{nl:Nat}{caps:List Nat}(S:Lw sc N3 scope N nl caps):∀x∈scope.names,x.2=.local->scope.names.lookup x.1=some .local:=λx AG e=>e▸S.uniq x AG
theorem eH:∀(ns:List (Str×K4))(n:Nat)(a b:List (Str×A4)),HV n ns (a++b)=HV n ns a++b
 |[],_,_,_=>rfl
 |(x,k)::r,n,a,b=>by
  unfold HV
  split
  .exact eH r (n+1) ((x,n)::a) b
  .exact eH r n a b
theorem XX{x:Str}{c:A4}:∀(ns:List (Str×K4))(n:Nat)(a:List (Str×A4)),(x,c)∈HV n ns a->(x,NameKind.cell)∈ns\/(x,c)∈a
 |[],_,_,h=>.inr h
 |(y,k)::r,n,a,h=>by
  unfold HV at h
  split at h
  .rename_i AK;rcases XX r _ _ h with z|z
   .exact .inl (FD _ z)
   .rcases List.mem_cons.mp z with e|z
    .injection e with A9 AE;subst A9;rw[eq_of_beq AK];exact .inl Fy
    .exact .inr z
  .rcases XX r _ _ h with z|z
   .exact .inl (FD _ z)
   .exact .inr z
def xa{M:Model}{A:CW}{E:A3->AJ->Prop}{s:AJ}{scope:Ey}{globals:A4}{cl:List (Str×A4)}{qual:Str}{env:Env}{Q:Env->AJ->Prop}(Dt:Q { scope:=scope,locals:=s.heap.objs.size,globals:=globals,cells:=HV (s.heap.objs.size+1) scope.names cl,qual:=qual,func:=none,code:=env.code,frame:=env.frame,builtins:=env.builtins } { s with heap:=pushCells (s.heap.push { cls:=.type "dict",data:=.dict #[] }) scope.names }) :
  AV M A (cO scope globals cl [] qual none .none (some env)) Q E s:=by
 simp only[cO,pH,if_true];refine AL (wpAny_alloc ?_);refine AL (wpAny_layCells _ (λname kind cells=>by cases tR:kind==NameKind.cell<;>simp[tR]) _ _ _ _ ?_);rw[show({ s with heap:=s.heap.push { cls:=.type "dict",data:=.dict #[] } }:AJ).heap.objs.size=s.heap.objs.size+1 from K3 ..];exact AL (Aw (Aw Dt))
def bK{scope:Ey}{env:Env}{x:Str}{k:K4}(h:(Kv scope env).names.lookup x=some k):(x,k)∈scope.names\/(k=.cell/\(x,Ix)∈scope.names):=by
 have m:=MO h;obtain⟨⟨y,q⟩,AN,e⟩:=List.mem_map.mp m;dsimp only at e
 split at e
 .rename_i AD;injection e with A9 AE;subst A9;have hf:q=.free:=by
   rw[I7,I7]at AD;exact eq_of_beq AD.1.1
  subst hf;exact .inr ⟨AE.symm,AN⟩
 .injection e with A9 AE;subst A9;subst AE;exact .inl AN
noncomputable def ao(I6:TI)(g:J7)(Gf:TT)(DU:TE)(nl:Nat)(caps:List Nat):TE:=λσ H Q=>
 I6 σ H λBO H1=>∀acc,H1 acc=none->∃W:Nat->Nat->St->A8->Prop,(∃m,W 0 m (N8 nl caps σ) (upd H1 acc (.lst [])))/\
  ∀i m σ' A6,W i m σ' A6->(BO.stop i A6/\Q (.ref acc) A6)\/
   (BO.go i A6/\∀x AS,BO.V9 i A6 x AS->g x σ' AS λσ2 Bl=>Gf σ2 Bl λb CM=>
      if b=true then DU σ2 CM λy DX=>∃ys,DX acc=some (.lst ys)/\ys.length<Bu/\∃Cb,Cb<m/\W (i+1) Cb σ2 (upd DX acc (.lst (ys++[y])))
      else ∃Cb,Cb<m/\W (i+1) Cb σ2 CM)
section
variable{X:Am}{elt target iter:At}{ifs:List At}{scope:Ey}{pos:Pos}{N:List Str}{nl:Nat}{caps:List Nat}{I6:TI}{g:J7}{Gf:TT}{DU:TE}
noncomputable def PZ(X:Am)(ifs:List At)(t:TT):Prop:=
 ∀(pins:List (A4×Obj))(s:AJ)(σ :St)(H:A8)(Q:Bool->A8->Prop),Inv X pins σ H s->t σ H Q->
  AV (Al X.prog X.w) X.A (forIn ifs true λc r=>if r=true then do let ok <-isTrue c X.env (Bb c X.env);pure (Oa ok)else pure (Oa r)) (Wk X pins σ Q) X.Ck s
def ac7:TT:=λ_ H Q=>Q true H
def zK:PZ X [] ac7:=λ_ _ _ H _ I h=>wpAny_tests_nil ⟨H,I,h⟩
def zL{c:At}{t:TT}(h:E8 X c t):PZ X [c] t:=λpins s σ H Q I hw=>wpAny_tests_one (h pins s σ H Q I hw)
def wG{pins:List (A4×Obj)}{σ :St}{H:A8}{s s4:AJ}{cl:List (Str×A4)}{BA:List A4}(S:Lw X.env.scope X.N scope N nl caps)(I:Inv X pins σ H s)(k1:∀x c,cl.lookup x=some c->X.env.cells.lookup x=some c\/(scope.names.lookup x=some .cell/\s.heap.objs.size<c/\s4.heap.IsCell c none))(k2:∀x,(x,Ix)∈scope.names->cl.lookup x=X.env.cells.lookup x)(k3:∀x,scope.names.lookup x=some .cell->∃c,cl.lookup x=some c/\s.heap.objs.size<c)(YM:∀x y c,cl.lookup x=some c->cl.lookup y=some c->x=y)(hf:∀b∈BA,Ju X pins H b)(EG:∀b∈BA,b<s.heap.objs.size)(QG:s4.os=s.os)(Aj:s4.gens=s.gens)(AW:∃m,s4.heap.Ns s.heap.objs.size m)(AK:∀b o,s.heap.get? b=some o->s4.heap.get? b=some o) :
  Inv (G0 X scope N cl s.heap.objs.size s H BA) [] (N8 nl caps σ) H s4:=by
 refine⟨⟨I.ok.mod,?_,I.ok.glob,I.ok.blt,C1 _,YM,λx AG=>?_,λx c z e=>?_,I.ok.hd,I.ok.frames,.inl rfl,λb A1=>⟨Ef (EG b A1),λx c e=>(k1 x c e).elim (λe=>(hf b A1).2.2.2.2.1 x c e) λe=>MP (cJ (EG b A1) e.2.1)⟩,I.bs,I8 I.ok.P5 I.ZJ,λb o e A1=>?_,λb A1 hs=>?_,I.stack,I.ah⟩,
  QG,?_,GH.kept AK,?_,λx c e=>?_,I.Ax.fresh (C1 _),λx c e=>(k1 x c e).elim (I.LD x c) λe=>I.Ax.fresh (Q2 e.2.1),λp AT=>absurd (show p∈([]:List (A4×Obj))from AT) (by simp),I.Ax.kept AK,?_⟩
 .show(Kv scope X.env).kind=.function;exact S.kind
 .have AG:(Kv scope X.env).names.lookup x=some .cell\/(Kv scope X.env).names.lookup x=some .free:=AG;have hm:(x,Ix)∈scope.names\/scope.names.lookup x=some .cell:=by
   rcases AG with h|h
   .rcases bK h with m|⟨_,m⟩
    .exact .inr (S.uniq _ m)
    .exact .inl m
   .rcases bK h with m|⟨e,_⟩
    .exact .inl m
    .cases e
  rcases hm with hm|hm
  rotate_left
  .obtain⟨c,e,_⟩:=k3 x hm;exact⟨c,e⟩
  have AU:=S.free _ hm rfl;have AD:∃c,X.env.cells.lookup x=some c:=by
   apply I.ok.has x;show X.env.scope.names.lookup x=some .cell\/X.env.scope.names.lookup x=some .free;cases e:X.env.scope.names.lookup x with
   |none=>rw[e]at AU;cases AU
   |some k=>
    rw[e]at AU
    cases k<;>first
     |exact .inl rfl
     |exact .inr rfl
     |cases AU
  obtain⟨c,e⟩:=AD;exact⟨c,by show cl.lookup x=some c;rw[k2 x hm];exact e⟩
 .obtain⟨F7,BC,q⟩:=k3 x (eq_of_beq z);rw[show cl.lookup x=some c from e]at BC;cases BC;exact Q2 q
 .rcases(hf b A1).2.2.2.1 with z|z
  .exact I.ok.RC b o e z
  .exact absurd (Fn (D3 (I.ok.bs b o e).1) z) (Iw _)
 .rcases List.mem_cons.mp (I.ZH b hs)with z|z
  .exact(hf b A1).2.1 z
  .exact(hf b A1).2.2.1 z
 .rw[Aj];exact I.bare
 .obtain⟨m,AW⟩:=AW;refine⟨m,AW,λi x v h1 h2 B2=>?_⟩;have hN:N[i]?=some x:=h1;unfold N8 at h2;by_cases A7:i<nl
  .rw[EZ (by simpa using A7),Vl,if_pos A7]at h2;cases h2
  .rw[H2 (by simpa using A7),TA,Em]at h2;cases e:caps[i-nl]? with
   |none=>rw[e]at h2;cases h2
   |some j=>
    rw[e]at h2;have h2: σ.getD j none=some v:=Fd h2;obtain⟨y,A9,AE,eQ,Ni⟩:=S.qa _ _ e;have Er:(y,Ix)∈scope.names:=MO eQ;have Nh:Wl X.env.scope y:=by
     cases q:X.env.scope.names.lookup y with
     |none=>rw[q]at Ni;cases Ni
     |some k=>
      rw[q]at Ni
      cases k<;>first
       |exact .inr (.inl q)
       |exact .inr (.inr q)
       |cases Ni
    have LC:nl+(i-nl)=i:=by lia
    rw[LC,hN]at AE;cases AE;have hs: σ[j]?=some (some v):=by
     rw[Ex]at h2;cases q: σ[j]? with
     |none=>rw[q]at h2;cases h2
     |some o=>rw[q]at h2;exact congrArg some h2
    obtain⟨m0,_,AF⟩:=I.loc;obtain⟨u,r,l⟩:=AF j x v A9 hs Nh;refine⟨u,r,.inr ⟨?_,?_⟩⟩
    .show(Kv scope X.env).names.lookup x=some .cell\/(Kv scope X.env).names.lookup x=some .free;rcases B2 with B2|B2|B2
     .have B2:(Kv scope X.env).names.lookup x=some .local:=B2;rcases bK B2 with z|⟨z,_⟩
      .have F5:scope.names.lookup x=some .local:=S.locs _ z rfl;rw[F5]at eQ;cases eQ
      .cases z
     .exact .inl B2
     .exact .inr B2
    .have AU:X.env.scope.names.lookup x≠some .local:=λz=>by rw[z]at Ni;cases Ni
     rcases l with⟨z,_⟩|⟨_,c,HO,F5⟩
     .exact absurd z AU
     .refine⟨c,?_,F5.keeps AK⟩;show cl.lookup x=some c;rw[k2 x Er];exact HO
 .rcases k1 x c e with e|e
  .obtain⟨v,z⟩:=I.cell x c e;exact⟨v,z.keeps AK⟩
  .exact⟨_,e.2.2⟩
 .show(N8 nl caps σ).length=N.length;unfold N8;rw[EP,TA,DV,S.len]
def wI{pins:List (A4×Obj)}{σ σ' :St}{H A6:A8}{s s':AJ}{cl:List (Str×A4)}{BA:List A4}{h':Ar}(I:Inv X pins σ H s)(hf:∀b∈BA,Ju X pins H b)(BO:Inv (G0 X scope N cl s.heap.objs.size s H BA) [] σ' A6 s')(hs:Hm s.heap.objs.size s'.heap h'):Inv X pins σ A6 { s' with heap:=h' }:=by
 have ne:∀b o,s.heap.get? b=some o->b≠s.heap.objs.size:=λb o e=>Ef (D3 e);have u:GH (Ek X.stack) BA H A6 s.heap s'.heap:=BO.base;have fr:A6 s.heap.objs.size=none:=BO.free;refine I.qO (ch:=BA) (s':={ s' with heap:=h' }) BO.os ⟨λb o e n A1 AG=>(hs.2 b (ne b o e)).trans (u.keep b o e n A1 AG),λb o e n A1 AG=>?_,u.free,λb o e AG=>?_,u.Kk,u.JE,u.Kj⟩ (λb o e=>?_) BO.bare λb A1=>?_
 .obtain⟨C9,q⟩:=u.slot b o e n A1 AG;exact⟨C9,(hs.2 b (ne b o e)).trans q⟩
 .obtain⟨o',q⟩:=u.there b o e AG;exact⟨o',(hs.2 b (ne b o e)).trans q⟩
 .refine(BO.Ax b o e).Mx (λc v AD q=>(hs.2 c ?_).trans q) (λ_ q=>q) λ_ _ q=>q;rintro rfl;rcases AD with z|z
  .rw[<-z,fr]at e;cases e
  .rw[fr]at z;cases z
 .obtain⟨_,f1,_,F8,f4,GU⟩:=hf b A1;exact⟨F8,f1,f4,GU⟩
def gQ {pins:List (A4×Obj)} {σ :St} {s2:AJ} {AS:A8} {it:A4} {BA:List A4} {HD:Nat->Ar->Prop} {BO:It} {E:A3->AJ->Prop} {Q:A8->Prop} {W:Nat->Nat->St->A8->Prop} {m0:Nat}(S:Lw X.env.scope X.N scope N nl caps) (AD:X.calm=true) (BU:Inv X pins σ AS s2) (T:Turn X.prog X.w X.K target BO BA it HD) (LY:HD 0 s2.heap) (f2:∀b∈BA,Ju X pins AS b)(Aj:∀cl C s H BA,Gw (G0 X scope N cl C s H BA) target g) (BQ:∀cl C s H BA,PZ (G0 X scope N cl C s H BA) ifs Gf) (he:∀cl C s H BA,Ae (G0 X scope N cl C s H BA) elt DU)(MY:W 0 m0 (N8 nl caps σ) (upd AS s2.heap.objs.size (.lst [])))(turn:∀i m σ' A6,W i m σ' A6->(BO.stop i A6/\Q A6)\/
    (BO.go i A6/\∀x Bl,BO.V9 i A6 x Bl->g x σ' Bl λσ2 CM=>Gf σ2 CM λb DX=>
       if b=true then DU σ2 DX λy Eo=>∃ys,Eo s2.heap.objs.size=some (.lst ys)/\ys.length<Bu/\∃Cb,Cb<m/\W (i+1) Cb σ2 (upd Eo s2.heap.objs.size (.lst (ys++[y])))
       else ∃Cb,Cb<m/\W (i+1) Cb σ2 DX))
  (UB:A3->A4->Result->AJ->Prop)
  (uH:∀(C:A4) s' A6,(∃m,s'.heap.Ns C m)->Ju X pins A6 C->(∀h',Hm C s'.heap h'->Inv X pins σ A6 { s' with heap:=h' })->Q A6->UB (.ref s2.heap.objs.size) C (.ok .next) s') :
  AV (Al X.prog X.w) X.A (newList []) (λacc Ph=>AV (Al X.prog X.w) X.A (cO scope X.env.globals (HR X.env scope.names []) [] X.env.qual none .none (some X.env)) (λgJ YZ=>
   Lj (Al X.prog X.w) X.A (.compStart (.ListComp elt [⟨target,iter,ifs,0⟩] scope pos) 0 (.ref it) acc { gJ with scope:=Kv scope X.env }) (UB acc gJ.locals) YZ) E Ph) E s2:=by
 have X8:∀p∈scope.names,p.2=.free->∃c,X.env.cells.lookup p.1=some c:=λp AT e=>by
  have q:=S.free p AT e;apply BU.ok.has p.1;show X.env.scope.names.lookup p.1=some .cell\/X.env.scope.names.lookup p.1=some .free;cases AE:X.env.scope.names.lookup p.1 with
  |none=>rw[AE]at q;cases q
  |some k=>
   rw[AE]at q
   cases k<;>first
    |exact .inl rfl
    |exact .inr rfl
    |cases q
 have Ql:∀x,(HR X.env scope.names []).lookup x=if(x,Ix)∈scope.names then X.env.cells.lookup x else none:=λx=>gM scope.names [] X8
 have gt:AS s2.heap.objs.size=none:=BU.Ax.fresh (C1 _);refine Kp (xa ?_);dsimp only;have DZ:Inv X pins σ (upd AS s2.heap.objs.size (.lst [])) { s2 with heap:=s2.heap.push { cls:=.type "list",dict:=none,data:=.seq ([]:List A3).toArray } }:=BU.Zj (its:=[]) (ys:=[]) (t':=s2.toks) .nil (Gi _);generalize Zy:({ s2 with heap:=s2.heap.push { cls:=.type "list",dict:=none,data:=.seq ([]:List A3).toArray } }:AJ)=s3 at DZ;have dc:s2.heap.push { cls:=.type "list",dict:=none,data:=.seq ([]:List A3).toArray }=s3.heap:=by rw[<-Zy]
 rw[dc];have j6:∀b o,s2.heap.get? b=some o->s3.heap.get? b=some o:=λb o e=>by rw[<-dc];exact Cz _ e
 have aaK:s3.heap.objs.size=s2.heap.objs.size+1:=by rw[<-dc,K3]
 have kc:=eH scope.names (s3.heap.objs.size+1) [] (HR X.env scope.names []);have ok:=cellsFrom_ok scope.names (s3.heap.push { cls:=.type "dict",data:=.dict #[] }) (s3.heap.objs.size+1) [] ⟨λ_ _ hm=>(nomatch hm),p9⟩ (by rw[K3];exact C1 _);have hB:=(Heap.Ns.new s3.heap (.type "dict")).keeps (pushCells_keeps scope.names _);have YP:∀b o,s3.heap.get? b=some o->(pushCells (s3.heap.push { cls:=.type "dict",data:=.dict #[] }) scope.names).get? b=some o:=λb o e=>pushCells_keeps _ _ b o (Cz _ e);rw[K3]at ok;rw[Oh]at kc;rw[kc];generalize pushCells (s3.heap.push { cls:=.type "dict",data:=.dict #[] }) scope.names=KV at hB YP ok |-;have old:∀x c,X.env.cells.lookup x=some c->c<s3.heap.objs.size:=λx c e=>by obtain⟨v,z⟩:=DZ.cell x c e;exact z.lt
 have k0:∀x c,(HV (s3.heap.objs.size+1) scope.names []++HR X.env scope.names []).lookup x=some c->((x,c)∈HV (s3.heap.objs.size+1) scope.names []/\scope.names.lookup x=some .cell/\s3.heap.objs.size<c/\KV.IsCell c none)\/X.env.cells.lookup x=some c:=λx c e=>by
  rw[bb]at e;cases A9:(HV (s3.heap.objs.size+1) scope.names []).lookup x with
  |some F7=>
   rw[A9]at e;have e:F7=c:=Fd e;subst e;have m:=MO A9;rcases XX _ _ _ m with z|z
   .exact .inl ⟨m,S.uniq _ z,(ok.empty _ _ m).2,(ok.empty _ _ m).1⟩
   .cases z
  |none=>
   rw[A9]at e;have e:(HR X.env scope.names []).lookup x=some c:=e;rw[Ql]at e
   split at e
   .exact .inr e
   .cases e
 have k2:∀x,(x,Ix)∈scope.names->(HV (s3.heap.objs.size+1) scope.names []++HR X.env scope.names []).lookup x=X.env.cells.lookup x:=λx AG=>by
  rw[bb];cases A9:(HV (s3.heap.objs.size+1) scope.names []).lookup x with
  |some F7=>
   rcases XX _ _ _ (MO A9)with z|z
   .have q1:=S.uniq _ z;have q2:=S.uniq _ AG;dsimp only at q1 q2;rw[q1]at q2;cases q2
   .cases z
  |none=>show(HR X.env scope.names []).lookup x=_;rw[Ql,if_pos AG]
 have k3:∀x,scope.names.lookup x=some .cell->∃c,(HV (s3.heap.objs.size+1) scope.names []++HR X.env scope.names []).lookup x=some c/\s3.heap.objs.size<c:=λx AG=>by obtain⟨c,e⟩:=eG (n:=s3.heap.objs.size+1) AG;exact⟨c,by rw[bb,e];rfl,(ok.empty _ _ (MO e)).2⟩
 have YM:∀x y c,(HV (s3.heap.objs.size+1) scope.names []++HR X.env scope.names []).lookup x=some c->(HV (s3.heap.objs.size+1) scope.names []++HR X.env scope.names []).lookup y=some c->x=y:=λx y c h1 h2=>by
  rcases k0 x c h1 with HO|HO<;>rcases k0 y c h2 with F5|F5
  .exact name_of_addr ok.apart HO.1 F5.1
  .exact absurd (old y c F5) (Nat.not_lt_of_gt HO.2.2.1)
  .exact absurd (old x c HO) (Nat.not_lt_of_gt F5.2.2.1)
  .exact DZ.ok.inj x y c HO F5
 have k1:∀x c,(HV (s3.heap.objs.size+1) scope.names []++HR X.env scope.names []).lookup x=some c->X.env.cells.lookup x=some c\/(scope.names.lookup x=some .cell/\s3.heap.objs.size<c/\KV.IsCell c none):=λx c e=>(k0 x c e).elim (λz=>.inr z.2) .inl;generalize HV (s3.heap.objs.size+1) scope.names []++HR X.env scope.names []=cl at k0 k1 k2 k3 YM |-;have h9:∀b∈BA,b<s2.heap.objs.size:=λb A1=>by obtain⟨o,e,_⟩:=T.obj 0 _ LY b A1;exact D3 e
 have F8:∀b∈BA,Ju X pins (upd AS s2.heap.objs.size (.lst [])) b:=λb A1=>by obtain⟨He,a1⟩:=f2 b A1;exact⟨by rw[D2 (Ef (h9 b A1))];exact He,a1⟩
 have eD:∀b∈BA,b<s3.heap.objs.size:=λb A1=>by rw[aaK];exact W1 (h9 b A1)
 have loop:∀s4:AJ,s4={ s3 with heap:=KV }->
   Lj (Al X.prog X.w) X.A (.compLoop (.ListComp elt [⟨target,iter,ifs,0⟩] scope pos) 0 (.ref it) (.ref s2.heap.objs.size) (compEnvC scope cl s3.heap.objs.size X.env))
    (UB (.ref s2.heap.objs.size) s3.heap.objs.size) s4:=by
  intro s4 Sl;have L4:Inv (G0 X scope N cl s3.heap.objs.size s3 (upd AS s2.heap.objs.size (.lst [])) BA) [] (N8 nl caps σ) (upd AS s2.heap.objs.size (.lst [])) s4:=
   wG S DZ (by rw[Sl];exact k1) k2 k3 YM F8 eD (by rw[Sl]) (by rw[Sl]) ⟨_,by rw[Sl];exact hB⟩ (by rw[Sl];exact YP)
  have abv:HD 0 s4.heap:=T.keep 0 _ _ LY λb A1 o e=>by rw[Sl];exact YP b o (j6 b o e)
  generalize LH:G0 X scope N cl s3.heap.objs.size s3 (upd AS s2.heap.objs.size (.lst [])) BA=B at L4;have stat:∀{A6:A8},(∀b∈BA,A6 b=none)->∀b∈BA,Ju B [] A6 b:=λ{A6} AW b A1=>by
   subst LH;obtain⟨He,a1,a2,Bi,Hw,J8⟩:=F8 b A1;refine⟨AW b A1,Ef (eD b A1),λz=>?_,.inl A1,λx c e=>?_,λp AT=>absurd (show p∈([]:List (A4×Obj))from AT) (by simp)⟩
   .rcases List.mem_cons.mp (DZ.ZH b z)with q|q
    .exact a1 q
    .exact a2 q
   .rcases k1 x c e with e|e
    .exact Hw x c e
    .exact MP (cJ (eD b A1) e.2.1)
  have tq:Gw B target g:=by subst LH;exact Aj _ _ _ _ _
  have uU:PZ B ifs Gf:=by subst LH;exact BQ _ _ _ _ _
  have tl:Ae B elt DU:=by subst LH;exact he _ _ _ _ _
  have Ti:B.prog=X.prog:=by subst LH;rfl
  have DD:B.w=X.w:=by subst LH;rfl
  have g5:B.K=X.K:=by subst LH;rfl
  have Qd:B.A=X.A:=by subst LH;rfl
  have eS:B.env=compEnvC scope cl s3.heap.objs.size X.env:=by subst LH;rfl
  have g7:B.calm=true:=by subst LH;exact AD
  have rE:B.Ck=λ_ _=>False:=by subst LH;rfl
  rw[<-Ti,<-DD,<-Qd,<-eS];refine qj (λn s'=>∃i σ' A6,Inv B [] σ' A6 s'/\HD i s'.heap/\(∀b∈BA,A6 b=none)/\W i n σ' A6) ?_ m0 ⟨0,_,_,L4,abv,λb A1=>(F8 b A1).1,MY⟩;rintro n s5 ⟨i,σ5,DX,Rr,Sb,X0,Ym⟩;have away:∀{α:Type}{t:Sem α}{fX:α->AJ->Prop}{q6:A3->AJ->Prop}{Nd:AJ},AV (Al B.prog B.w) B.A t fX B.Ck Nd->AV (Al B.prog B.w) B.A t fX q6 Nd:=λh=>I9 h (λ_ _ q=>q) λe s' z=>by rw[rE]at z;cases z
  rcases turn i n σ5 DX Ym with⟨stop,q⟩|⟨go,Df⟩
  .have d:=T.done B Ti DD g5 g7 i [] s5 σ5 DX (Ot (Al B.prog B.w) B.A B.env λe s'=>UB (.ref s2.heap.objs.size) s3.heap.objs.size (.error e) s') Rr (stat X0) Sb stop;rw[<-Ti,<-DD]at d;refine BG d λr C5⟨Ao,Tw⟩=>?_;subst Ao;refine uH _ C5 DX ?_ (DZ.Nm (C1 _) ?_) (λh' JH=>?_) q
   .obtain⟨m,AW,_⟩:=Tw.loc;rw[eS]at AW;exact⟨m,AW⟩
   .have z:=Tw.free;rw[eS]at z;exact z
   .subst LH;exact wI DZ F8 Tw JH
  .have d:=T.item B Ti DD g5 g7 i [] s5 σ5 DX (Ot (Al B.prog B.w) B.A B.env λe s'=>UB (.ref s2.heap.objs.size) s3.heap.objs.size (.error e) s') Rr (stat X0) Sb go;rw[<-Ti,<-DD]at d;refine BG d λr C5⟨u,Ao,FR⟩=>?_;subst Ao;refine BG FR λ_ Cj⟨x,Cm,KA,RF,adq,af,sS⟩=>?_;have qC:=KA.pinned (stat sS) (T.obj _ _ af);refine away (BG (tq _ Cj σ5 Cm x u _ qC RF (Df x Cm adq)) λ_ DE⟨σ8,GE,qD,RE⟩=>?_);refine away (BG (uU _ DE σ8 GE _ qD RE) λb F_⟨DY,fQ,Z5⟩=>?_);have again:∀{σa:St}{NW:A8}{Nd:AJ},Inv B ([]++VH BA Cj.heap) σa NW Nd->(∃Cb,Cb<n/\W (i+1) Cb σa NW)->∃m,m<n/\∃i σ' A6,Inv B [] σ' A6 Nd/\HD i Nd.heap/\(∀b∈BA,A6 b=none)/\W i m σ' A6:=λ{σa NW Nd} dH⟨Cb,hm,abh⟩=>by
    refine⟨Cb,hm,i+1,σa,NW,dH.Yh,T.keep _ _ _ af λb A1 o e=>(dH.pin (b,o) (HT _ (HT _ (Y4 A1 e)))).1,λb A1=>?_,abh⟩;obtain⟨o,e,d⟩:=T.obj _ _ af b A1;exact(dH.pin (b,o) (HT _ (HT _ (Y4 A1 e)))).2.1
   cases b with
   |false=>exact again fQ Z5
   |true=>show AV _ _ (Bb elt B.env) _ _ F_;refine away (BG (tl _ F_ σ8 DY _ fQ Z5) λadI aV⟨y,L3,q9,BS,ys,AB,hz,bE⟩=>?_);refine away (BG (jQ _ aV σ8 L3 (.ref s2.heap.objs.size) [y] (.ref s2.heap.objs.size) [adI] (λ_ fP=>fP=upd L3 s2.heap.objs.size (.lst (ys++[y]))) q9 rfl (.cons BS .nil) ⟨_,ys,y,rfl,rfl,AB,hz,rfl⟩) λ_ kK⟨z,fP,qA,_,sC⟩=>?_);subst sC;exact again qA bE
 exact codeAny_compStart_list (loop _ (by rw[<-Zy])) (T.self X.A 0 _ _ _ (T.keep 0 _ _ LY λb A1 o e=>YP b o (j6 b o e)) (loop _ (by rw[<-Zy])))
def h5{pins:List (A4×Obj)}{σ :St}{s:AJ}{H:A8}(S:Lw X.env.scope X.N scope N nl caps)(I:Inv X pins σ H s):∀p∈scope.names,p.2=.free->∃c,X.env.cells.lookup p.1=some c:=λp AT e=>by
 have q:=S.free p AT e;apply I.ok.has p.1;show X.env.scope.names.lookup p.1=some .cell\/X.env.scope.names.lookup p.1=some .free;cases AE:X.env.scope.names.lookup p.1 with
 |none=>rw[AE]at q;cases q
 |some k=>
  rw[AE]at q
  cases k<;>first
   |exact .inl rfl
   |exact .inr rfl
   |cases q
def yn(S:Lw X.env.scope X.N scope N nl caps)(AD:X.calm=true)(A7:Hc X target iter I6)(Aj:∀cl C s H BA,Gw (G0 X scope N cl C s H BA) target g)(BQ:∀cl C s H BA,PZ (G0 X scope N cl C s H BA) ifs Gf)(he:∀cl C s H BA,Ae (G0 X scope N cl C s H BA) elt DU)(hs:∀x,Pz iter X.env x=pure x:=by intro _;rfl):Ae X (.ListComp elt [⟨target,iter,ifs,0⟩] scope pos) (ao I6 g Gf DU nl caps):=by intro pins s σ H Q I h;rw[eval_ListComp];refine wpAny_comprehension_free (use:=none) rfl hs (gN (h5 S I)) S.kind S.locs ?_;refine BG (A7 pins s σ H _ I h) λv s1 h1=>BG h1 λYK s2 h2=>?_;obtain⟨it,BA,HD,BO,AS,e,BU,T,LY,f2,k⟩:=h2;subst e;obtain⟨W,⟨m0,MY⟩,turn⟩:=k s2.heap.objs.size (BU.Ax.fresh (C1 _));refine gQ (Q:=λA6=>Q (.ref s2.heap.objs.size) A6) S AD BU T LY f2 Aj BQ he MY turn (λacc C=>compPost (Al X.prog X.w) X.A X.Ck none (Gs X pins σ Q) acc C) ?_;intro C s' A6 AW _ PD q;obtain⟨m,AW⟩:=AW;exact⟨m,AW,λh' JH=>⟨.ref s2.heap.objs.size,A6,PD h' JH,rfl,q⟩⟩
def zY{i:Nat}{y:Str}{py mR:Pos}(S:Lw X.env.scope X.N scope N nl caps)(AD:X.calm=true)(hN:X.N.Nodup)(AN:X.N[i]?=some y)(AF:X.env.kindOf y=some .local)(A7:Hc X target iter I6)(Aj:∀cl C s H BA,Gw (G0 X scope N cl C s H BA) target g)(BQ:∀cl C s H BA,PZ (G0 X scope N cl C s H BA) ifs Gf)(he:∀cl C s H BA,Ae (G0 X scope N cl C s H BA) elt DU)(Zz:QB (.ListComp elt [⟨target,iter,ifs,0⟩] scope pos) (some (.Name y py)) mR.line X.env=pure true:=by rfl)(hs:∀x,Pz iter X.env x=pure x:=by intro _;rfl):DL X (.Assign [.Name y py] (.ListComp elt [⟨target,iter,ifs,0⟩] scope pos) mR) (aj (ao I6 g Gf DU nl caps) (X1 i)):=by
 intro pins s σ H Bv I h;rw[exec_Assign_Name_used _ _ _ _ Zz];refine AL (wpAny_standAt (AL ?_));show AV _ X.A (do let _ <-comprehension (.ListComp elt [⟨target,iter,ifs,0⟩] scope pos) scope X.env _ (newList []) false (Bb iter X.env) (some (K6 (.Name y py) X.env))) _ _ s;refine AL (I9 (wpAny_comprehension_free (use:=some (K6 (.Name y py) X.env)) (Q:=λ_ s'=>P_ X pins Bv .next s') rfl hs (gN (h5 S I)) S.kind S.locs ?_) (λ_ s' AU=>Aw (Aw AU)) λ_ _ e=>e);refine BG (A7 pins s σ H _ I h) λv s1 h1=>BG h1 λYK s2 h2=>?_;obtain⟨it,BA,HD,BO,AS,e,BU,T,LY,f2,k⟩:=h2;subst e;obtain⟨W,⟨m0,MY⟩,turn⟩:=k s2.heap.objs.size (BU.Ax.fresh (C1 _));refine gQ (Q:=λA6=>Bv.AP (σ.set i (some (.ref s2.heap.objs.size))) A6) S AD BU T LY f2 Aj BQ he MY turn (λacc C=>compPost (Al X.prog X.w) X.A X.Ck (some (K6 (.Name y py) X.env)) (λ_ s'=>P_ X pins Bv .next s') acc C) ?_;intro C s' A6 AW Ij PD q;obtain⟨m,AW⟩:=AW;show AV _ X.A (K6 (.Name y py) X.env (.ref s2.heap.objs.size)) _ _ s';have D0:Inv X pins σ A6 s':=PD s'.heap (pA _ _);refine wpAny_assign_Name (lx (v:=.ref s2.heap.objs.size) D0 hN AN (.inl AF) (show RelV (V.ref _) _ from rfl) (λJL q7 vN=>?_) (.inr AF));obtain⟨a,vM,AB⟩:=vN;obtain⟨TZ,BR,C_,Ei,N9,T_⟩:=Ij;have y2:C≠a:=by
  rcases AB with z|z
  .rw[z];exact BR
  .exact λw=>N9 y a z w.symm
 refine⟨m,AW.sameBut vM y2,λh' JH=>?_⟩;exact⟨_,A6,q7.turned (t':=JL.toks) (it:=C) (λb o A1 e=>(JH.2 b A1).trans e) TZ BR Ei N9 T_,q⟩
end
structure WZ(P:Bh)(w:BP)(K:Ad)(outer:List Env)(H A6:A8)(s:AJ)(a:A4)(C He:A3)(B:Ar)(s':AJ):Prop where
 os:s'.os=s.os
 bare:MU s'.gens
 un:GH (Ek outer) [] H A6 s.heap s'.heap
 e0:Heap.FlyingW B outer a C He s'.heap
 old:∀b o,s.heap.get? b=some o->H b=none->b∉Ek outer->B.get? b=some o
 aw:∀b o,s.heap.get? b=some o->b∉Ek outer->∃o',B.get? b=some o'
 Ax:E7 P w K A6 B
 AB:A6 a=none
def IY(P:Bh)(w:BP)(K:Ad):KL:=λouter H s E e s'=>∃(a:A4)(C He:A3)(B:Ar)(A6:A8),e=.ref a/\WZ P w K outer H A6 s a C He B s'/\E C (some a) A6
section
variable{X:Am}{pins:List (A4×Obj)}{σ :St}{H A6:A8}{s s':AJ}{a:A4}{C He:A3}{B:Ar}
def E7.part(x:E7 X.prog X.w X.K H s.heap)(k:∀b u,(H b).isSome=true->s.heap.get? b=some u->B.get? b=some u):E7 X.prog X.w X.K H B:=λb o e=>
 (x b o e).Mx (λc u AD q=>k c u (by rcases AD with rfl|AD<;>simp[*]) q) (λ_ q=>q) λ_ _ q=>q
def hK{env:Env}{outer:List Env}{L:A4}(h:env.frame=some L){b:A4}(A1:b∈Ek (env::outer)):b=L\/b∈Ek outer:=by unfold Ek at A1;rw[RR,h]at A1;exact List.mem_cons.mp A1
def Inv.wd{M:Model}{A:CW}{E:A3->AJ->Prop}{h':Ar}{vs:List A3}{Q:Unit->AJ->Prop}(I:Inv X pins σ H s)(HG:X.stack=X.env::X.outer)(Sf:X.env.frame=some X.env.locals)(hex:X.ex=[])(I0:A.frames=some X.stack)(AG:Heap.MadeExcOf s.heap h' a C vs)(Dt:∀He B JL,WZ X.prog X.w X.K X.outer X.M0 H X.Fl a C He B JL->Q () JL):AV M A (leaving X.env (.ref a)) Q E { s with heap:=h' }:=by
 have tO:∀env∈X.stack,∀b,env.frame=some b->b∈Ek X.stack:=λenv he b A1=>List.mem_filterMap.mpr ⟨env,he,A1⟩;have GV:∀b o,s.heap.get? b=some o->b∉Ek X.stack->(Vu s.heap (Ek X.stack)).get? b=some o:=λb o q n=>pE _ q n;have Nu:∀b o,X.Fl.heap.get? b=some o->b∉Ek X.outer->b∉Ek X.stack:=λb o q n z=>by
  rw[HG]at z;rcases hK Sf z with r|r
  .subst r;exact absurd (Fn (D3 q) I.ok.above) (Iw _)
  .exact n r
 have IP:∀b,b∉X.ex:=λb z=>by rw[hex]at z;cases z
 refine PySem.wpAny_leaves_madeW (base:=Vu s.heap (Ek X.stack)) (h:=s.heap) (by rw[I0,HG]) Sf (λb o q=>pF _ q) (by have:=PySem.W.funFrames_hide (as:=Ek X.stack) I.stack tO;rw[HG]at this |-;exact this) AG λh_ t D6 CZ Ew SB=>?_;refine Dt (.ref t) (Vu s.heap (Ek X.stack)) _ ⟨I.os,I.bare,⟨?_,?_,?_,?_,I.base.Kk,I.base.JE,I.base.Kj⟩,D6,?_,?_,?_,?_⟩
 .exact λb o q n A1 _=>D6.1 b o (GV b o (I.base.keep b o q n A1 (IP b)) (Nu b o q A1))
 .intro b o q n A1 _;obtain⟨C9,q1⟩:=I.base.slot b o q n A1 (IP b);obtain⟨_,o',Cc,Ms⟩:=I.ok.JY.mem A1;rw[q]at Cc;cases Cc;obtain⟨Sa,q2⟩:=SB b _ (AG.keeps b _ q1) Ms;exact⟨Sa,q2⟩
 .exact λb o q n _=>I.base.free b o q n (IP b)
 .intro b o q _;by_cases A1:b∈Ek X.outer
  .obtain⟨_,o',Cc,_⟩:=D6.2.2.1.mem A1;exact⟨o',Cc⟩
  .obtain⟨o',Cc⟩:=I.base.there b o q (IP b);exact⟨o',D6.1 b o' (GV b o' Cc (Nu b o q A1))⟩
 .exact λb o q n A1=>GV b o (I.base.keep b o q n A1 (IP b)) (Nu b o q A1)
 .intro b o q A1;obtain⟨o',Cc⟩:=I.base.there b o q (IP b);exact⟨o',GV b o' Cc (Nu b o q A1)⟩
 .exact E7.part (X:=X) (s:=s) I.Ax λb u hs q=>GV b u q λz=>by rw[I.ah b z]at hs;cases hs
 .cases q:H a with
  |none=>rfl
  |some o=>
   have k:∀o:El,Ds X.prog X.w X.K H s.heap a o->∃u,s.heap.get? a=some u:=λo x=>by
    induction o with
    |lst xs=>obtain⟨_,_,_,_,e⟩:=x;exact⟨_,e⟩
    |tup xs=>obtain⟨_,_,_,_,e,_⟩:=x;exact⟨_,e⟩
    |B3 AA=>obtain⟨_,_,_,_,o,_,_,e,_⟩:=x;exact⟨_,e⟩
    |Da AA=>obtain⟨_,_,_,_,o,_,_,e,_⟩:=x;exact⟨_,e⟩
    |set S n=>obtain⟨o,_,_,_,e,_⟩:=x;exact⟨_,e⟩
    |ins C BY Ay=>obtain⟨_,_,_,e,_⟩:=x;exact⟨_,e⟩
    |own y=>obtain⟨_,e⟩:=x;exact⟨_,e⟩
    |Yo Ay=>obtain⟨_,⟨_,_,_,e,_⟩,_⟩:=x;exact⟨_,e⟩
    |ZA lo A7=>obtain⟨_,_,_,e⟩:=x;exact⟨_,e⟩
    |EF Bc u=>obtain⟨e,_⟩:=x;exact⟨_,e⟩
    |OP ps=>exact⟨_,(show s.heap.get? a=some _ from x)⟩
    |met f y=>exact⟨_,(show s.heap.get? a=some _ from x)⟩
    |ext φ=>obtain⟨_,⟨_,e⟩,_⟩:=x;exact⟨_,e⟩
   obtain⟨u,e⟩:=k o (I.Ax a o q);rw[AG.new]at e;cases e
def Inv.we{M:Model}{A:CW}{E:A3->AJ->Prop}{Q:Unit->AJ->Prop}(I:Inv X pins σ H s)(HG:X.stack=X.env::X.outer)(Sf:X.env.frame=some X.env.locals)(hex:X.ex=[])(I0:A.frames=some X.stack)(f:WZ X.prog X.w X.K X.stack H A6 s a C He B s')(Dt:∀JL,WZ X.prog X.w X.K X.outer X.M0 A6 X.Fl a C He B JL->Q () JL):AV M A (leaving X.env (.ref a)) Q E s':=by
 have Nu:∀b o,X.Fl.heap.get? b=some o->b∉Ek X.outer->b∉Ek X.stack:=λb o q n z=>by
  rw[HG]at z;rcases hK Sf z with r|r
  .subst r;exact absurd (Fn (D3 q) I.ok.above) (Iw _)
  .exact n r
 have vG:∀b,b∈Ek X.outer->b∈Ek X.stack:=λb z=>by rw[HG];unfold Ek;rw[RR,Sf];exact FD _ z
 have IP:∀b,b∉X.ex:=λb z=>by rw[hex]at z;cases z
 have no:∀b:A4,b∉([]:List A4):=λb z=>by cases z
 obtain⟨os,bare,un,e0,old,aw,Ax,AB⟩:=f;rw[HG]at e0;refine PySem.wpAny_leaves_onW (by rw[I0,HG]) Sf e0 λh_ D6 CZ=>?_;refine Dt _ ⟨os.trans I.os,bare,⟨?_,?_,?_,?_,λb xs q=>un.Kk b xs (I.base.Kk b xs q),λb o u q=>un.JE b o u (I.base.JE b o u q),?_⟩,D6,?_,?_,Ax,AB⟩
 .exact λb o q n A1 _=>D6.1 b o (old b o (I.base.keep b o q n A1 (IP b)) (I.base.free b o q n (IP b)) (Nu b o q A1))
 .intro b o q n A1 _;obtain⟨C9,q1⟩:=I.base.slot b o q n A1 (IP b);obtain⟨_,o',Cc,Ms⟩:=I.ok.JY.mem A1;rw[q]at Cc;cases Cc;obtain⟨afn,q2⟩:=un.slot b _ q1 (I.base.free b o q n (IP b)) (vG b A1) (no b);obtain⟨Sa,EI⟩:=CZ b _ q2 Ms;exact⟨Sa,EI⟩
 .intro b o q n _;obtain⟨o',Cc⟩:=I.base.there b o q (IP b);exact un.free b o' Cc (I.base.free b o q n (IP b)) (no b)
 .intro b o q _;by_cases A1:b∈Ek X.outer
  .obtain⟨_,o',Cc,_⟩:=D6.2.2.1.mem A1;exact⟨o',Cc⟩
  .obtain⟨o',Cc⟩:=I.base.there b o q (IP b);obtain⟨Cn,q2⟩:=aw b o' Cc (Nu b o q A1);exact⟨Cn,D6.1 b Cn q2⟩
 .intro b ps q;obtain⟨GY,A9⟩:=I.base.Kj b ps q;obtain⟨HA,AE⟩:=un.Kj b _ A9;exact⟨GY++HA,by rw[AE,Array.append_assoc]⟩
 .exact λb o q n A1=>old b o (I.base.keep b o q n A1 (IP b)) (I.base.free b o q n (IP b)) (Nu b o q A1)
 .intro b o q A1;obtain⟨o',Cc⟩:=I.base.there b o q (IP b);exact aw b o' Cc (Nu b o q A1)
end
def rm{K:Ad}{h:Ar}{C:A4}{TY:List A3}{newId:String}(X:K.In h)(q:TH K C TY newId=true) :
  ∃bm N nm q bs hdct sn sub ab col dd k0 k1 k2 k3 k5 mN,h.get? C=some (excClassObj nm q C N bs bm hdct sn sub ab col dd k0 k1 k2 k3 k5 newId)/\h.Ns N mN/\mN "__init__"=none/\OwnTail h TY bm:=by
 unfold TH at q
 split at q
 .rename_i dd cd C9 ho
  split at q
  .rename_i Qp bm k0 k1 k2 k3 n k5 hm hs;simp only[I7,beq_iff_eq,Bool.not_eq_true']at q;obtain⟨⟨⟨⟨⟨rfl,rfl⟩,gz⟩,BQ⟩,Ax⟩,XC⟩:=q;obtain⟨nm,bs,mro,ns,qn,hd,sn,sub,ab,col,del⟩:=cd;dsimp only at hm gz Ax XC;subst hm gz;have vP:C9= #[k0,k1,k2,k3,some (.builtin n),k5]:=by
    obtain⟨l⟩:=C9;simp only at hs;rw[hs]
   subst vP;exact⟨bm,ns,nm,qn,bs,hd,sn,sub,ab,col,dd,k0,k1,k2,k3,k5,_,X _ _ ho,.of_isNs (PySem.W.isNs_of_in X Ax),PySem.W.nsMap_none_of_in X Ax XC,PySem.W.tail_of_in X BQ⟩
  .cases q
 .cases q
def ny(X:Am)(C:A4):F6:=λ_ σ H=>∀pins s h' a vs,Inv X pins σ H s->Heap.MadeExcOf s.heap h' a (.ref C) vs->X.Ck (.ref a) { s with heap:=h' }
section
variable{X:Am}{x:Str}{np EN pos Xb:Pos}{C:A4}{TY:List A3}{B newId wE:String}{m:Str}{j:Nat}
def zf(FB:ExcBaseFacts B newId wE TY)(q:TH X.K C TY newId=true)(hm:X.mg x=some (.ref C))(AD:X.calm=true:=by rfl)(Aj:EJ X x:=by rfl)(hd:(x==("__debug__" :Str))=false:=by decide) :
  DL X (.Raise (some (.Call (.Name x np) [.Constant (.str m) j Xb] [] EN)) none pos) (ny X C):=by
 intro pins s σ H D I h;obtain⟨bm,N,nm,qn,bs,hdct,sn,sub,ab,col,dd,k0,k1,k2,k3,k5,mN,Ij,hN,XC,ep⟩:=rm I.mod.Je q;refine wpAny_Raise_call_subT (mN:=mN) (C:=C) (nm:=nm) (q:=qn) (N:=N) (bs:=bs) (bm:=bm) (hdct:=hdct) (sn:=sn) (sub:=sub) (ab:=ab) (col:=col) (dd:=dd) (k0:=k0) (k1:=k1) (k2:=k2) (k3:=k3) (k5:=k5) FB (ep.hasType FB.hasBase) (I.ok.hd AD) rfl XC (Xt I Aj hm ⟨rfl,?_⟩ hd);refine Vc (TC (BG (jO (X:=X) (x:=m) (j:=j) (pos:=Xb) pins s σ H (λ_ H1=>H1=H) I rfl) λu s1⟨v,H1,Ab,Ak,A9⟩=>?_));subst A9;refine T7 ⟨rfl,oq rfl,Ab.BF _ _ Ij,hN.keeps Ab.BF,ep.keeps Ab.BF,λh' a AG=>h pins s1 h' a _ Ab AG⟩
def acZ{P:Bh}{w:BP}{K:Ad}{mg:Str->Option A3}{base:Ar}{N:List Str}{qual:Str}{scope:Ey}{f:A4}{cd:A3}{A:CW}{outer:List Env}{s0:AJ}{C2:A8}{E:FT}{σ :St}{H:A8}{Bv:Ends}(h:∀a,H a=none->E (.ref C) (some a) H):ny (JW (IY P w K) P w K mg base N qual scope f cd A outer s0 C2 E) C Bv σ H:=λpins s h' a vs I AG=>
 I.wd (C:=.ref C) rfl rfl rfl I.ok.frames AG λHe B JL Gm=>⟨a,.ref C,He,B,H,rfl,Gm,h a Gm.AB⟩
def yf{P:Bh}{w:BP}{K:Ad}{mg:Str->Option A3}{base:Ar}{N:List Str}{qual:Str}{scope:Ey}{f:A4}{cd:A3}{A:CW}{outer:List Env}{s0:AJ}{C2:A8}{E:FT} :
  Passes (IY P w K) (JW (IY P w K) P w K mg base N qual scope f cd A outer s0 C2 E) E:=λpins σ H s e s' I AG=>by
 obtain⟨a,C,He,B,A6,rfl,Gm,PC⟩:=AG;exact I.we (X:=JW (IY P w K) P w K mg base N qual scope f cd A outer s0 C2 E) rfl rfl rfl I.ok.frames Gm λJL sP=>⟨a,C,He,B,A6,rfl,sP,PC⟩
end
abbrev rl(a:A4)(C:A3):El:=.ext λh=>∃Bc,h.get? a=some Bc/\Bc.cls=C
section
variable{X:Am}{pins:List (A4×Obj)}{σ :St}{H A6:A8}{s s':AJ}{a:A4}{C He:A3}{B:Ar}{h_:Ar}
end
section
variable{X:Am}{k:Nat}{f C:A4}{fd:HU}{ps:List Str}{sp:Dg}{E:FT}{x:Str}{p pos:Pos}{e:At}{es:List At}{t:FM}
end
section
variable{X:Am}{pins:List (A4×Obj)}{σ :St}{H A6:A8}{s s':AJ}{a:A4}
end
section
variable{X:Am}{i:Nat}{x n:Str}{W:A4}{e:At}{DU:TE}{E:FT}{af8:BM}{afr:List BM}{nH:F6}{afh np AT pos:Pos}
end
end B8
namespace B8
open PySem PySem.Spec
section
variable{prog:Bh}{w:BP}{A:CW}{E:A3->AJ->Prop}{s:AJ}
def xc{it t:A4}{i:Nat}{items:Array A3}{x:A3}{Q:A3->AJ->Prop}(hit:s.heap.IsTupleIter it t i)(BQ:s.heap.IsTuple t items)(AG:items[i]?=some x)(Dt:∀h',h'.IsTupleIter it t (i+1)->Hm it s.heap h'->Q x { s with heap:=h' }):AV (Al prog w) A (OZ (.ref it)) Q E s:=by
 obtain⟨o,ho,AD,hd⟩:=id hit;obtain⟨ol,Sj,_,nl,S5⟩:=BQ;unfold OZ
 refine AL (OY (name:=Q3 "__next__") hit.typeIs VX
  (Kl VX hit.typeIs oO ?_ (oa _)))
 show AV _ _ (field (.ref it) 0>>=_) _ _ s;refine AL (Iz ho hd (x:=.ref t) rfl ?_);show AV _ _ (if(Ce t==H3)=true then _ else _) _ _ s;rw[if_neg (show¬((Ce t==H3)=true)from JR)];show AV _ _ (field (.ref it) 1>>=_) _ _ s;refine AL (Iz ho hd (x:=.int i 0) rfl ?_);show AV _ _ (seqItems? (.ref t)>>=_) _ _ s;refine AL (K2 Sj S5 ?_);simp only[Ob,AG];refine AL (Vr ho hd (by simp) (Aw ⟨x,rfl,Aw (Dt _ ?_ (MN ..))⟩));exact⟨_,Oi _ ho (ot (Ve hd _)),(Obj.cls_mapFields ..).trans AD,by
  rw[Ve hd];simp[Lk]⟩
def xb{it t:A4}{i:Nat}{items:Array A3}{Q:A3->AJ->Prop}(hh:A.handled=none)(hit:s.heap.IsTupleIter it t i)(BQ:s.heap.IsTuple t items)(AG:items[i]?=none)(PC:∀h' e,Heap.ExtBut it s.heap h'->(∃o,h'.get? e=some o/\o.cls=.type "StopIteration")->E (.ref e) { s with heap:=h' }):AV (Al prog w) A (OZ (.ref it)) Q E s:=by
 obtain⟨o,ho,AD,hd⟩:=id hit;obtain⟨ol,Sj,_,nl,S5⟩:=BQ;unfold OZ
 refine AL (OY (name:=Q3 "__next__") hit.typeIs VX
  (Kl VX hit.typeIs oO ?_ (oa _)))
 show AV _ _ (field (.ref it) 0>>=_) _ _ s;refine AL (Iz ho hd (x:=.ref t) rfl ?_);show AV _ _ (if(Ce t==H3)=true then _ else _) _ _ s;rw[if_neg (show¬((Ce t==H3)=true)from JR)];show AV _ _ (field (.ref it) 1>>=_) _ _ s;refine AL (Iz ho hd (x:=.int i 0) rfl ?_);show AV _ _ (seqItems? (.ref t)>>=_) _ _ s;refine AL (K2 Sj S5 ?_);simp only[Ob,AG];refine AL (Ol (AL (Vr ho hd (by simp) ?_)));show AV _ _ (newExc (.type "StopIteration") []>>=_) _ _ _;refine AL ?_;simp only[newExc,newTuple];refine AL (Kp ?_ (by size_fits));refine AL (m:=Vs _ _) (wpAny_of_eq (a:=H3) (by first|rfl|(simp only[Vs];rfl)) ?_);refine Kp ?_ (by size_fits);simp only[raiseNew];refine AL (wpAny_handled ?_)
 first|rw[show A.in1.handled=none from hh]|rw[hh]
 refine AL (Aw (wpAny_throw ?_));exact PC _ _ (((MN ..).extBut.push _).push _) ⟨_,Fc _ rfl,rfl⟩
def fx(hh:A.handled=none)(it l:A4)(IQ:l≠it)(items:Array A3) :
  Draws prog w A it [it,l] items.size (λi v=>items[i]?=some v) (λi h=>h.IsTupleIter it l i/\h.IsTuple l items) where
 live:=λ_ _ st=>let⟨o,ho,_⟩:=st.1;⟨o,ho⟩
 frame:=λ_ _ _ st AK=>⟨st.1.at λo e=>AK it (by simp) o e,st.2.at λo e=>AK l (by simp) o e⟩
 item:=λi s Q E A7 st Dt=>by refine xc st.1 st.2 (x:=items[i]) (by simp[A7]) λh' Sg JH=>?_;exact Dt _ h' s.toks (by simp[A7]) ⟨Sg,st.2.extBut JH.extBut IQ⟩ JH
 done:=λs Q E st PC=>xb hh st.1 st.2 (by simp) PC
structure Rx(z TI Bj B1 BW:A4)(f1 f2:List A4):Prop where
 TIz:TI≠z
 TOz:Bj≠z
 TITO:TI≠Bj
 TIi1:TI≠B1
 TIi2:TI≠BW
 TOi1:Bj≠B1
 TOi2:Bj≠BW
 i1z:B1≠z
 i2z:BW≠z
 i12:B1≠BW
 du:z∉f1
 fb:Bj∉f1
 rG:BW∉f1
 dw:z∉f2
 dv:Bj∉f2
 fc:B1∉f2
def LF{BA:List A4}{n:Nat}{P:Nat->A3->Prop}{St:Nat->Ar->Prop}{it b:A4}{h h':Ar}{i:Nat}(D:Draws prog w A it BA n P St)(st:St i h)(hs:Hm b h h')(A1:b∉BA):St i h':=
 D.frame i h h' st λc AD o e=>hs.extBut c o (λz=>A1 (z▸AD)) e
def aeJ {z TI Bj B1 BW:A4} {f1 f2:List A4} {CP Cw i:Nat} {OC OD:Nat->A3->Prop} {J5 J6:Nat->Ar->Prop} {a b:A3} {Q:A3->AJ->Prop} (Hs:Draws prog w A B1 f1 CP OC J5) (H_:Draws prog w A BW f2 Cw OD J6) (ap:Rx z TI Bj B1 BW f1 f2)(hz:IU s.heap z TI Bj .none) (IN:Gl s.heap TI (.ref B1) (.ref BW)) (Ik:Gl s.heap Bj a b) (h1:J5 i s.heap) (h2:J6 i s.heap) (CC:i<CP) (C8:i<Cw)(Dt:∀x y h' By,OC i x->OD i y->IU h' z TI Bj (Lk s.heap.objs.size)->Gl h' Bj x y->J5 (i+1) h'->J6 (i+1) h'->Gl h' s.heap.objs.size x y->h'.objs.size=s.heap.objs.size+1->
    (∀c o,c≠z->c≠Bj->c≠B1->c≠BW->s.heap.get? c=some o->h'.get? c=some o)->Q (.ref s.heap.objs.size) { s with heap:=h',toks:=By }) :
  AV (Al prog w) A (Oo.«zip.__next__» ⟨[.ref z],[]⟩) (λfin s'=>∃v,fin=.done (.ret v)/\Q v s') E s:=by
 show AV _ _ (field (.ref z) 2>>=_) _ _ _;refine AL (Iz hz rfl (x:=.bool false) rfl ?_);show AV _ _ (field (.ref z) 3>>=_) _ _ _;refine AL (Iz hz rfl (x:=.ref TI) rfl ?_);refine AL (K2 IN rfl ?_);show AV _ _ (V_ (.ref z)>>=_) _ _ _;refine AL ?_;unfold V_;refine AL (Iz hz rfl (x:=.none) rfl (Aw ?_));simp only[if_true];refine AL (Ol ?_);refine AL (Iz hz rfl (x:=.ref Bj) rfl ?_);refine AL (RV hz (by simp) λKV PH MF=>?_);replace PH:IU KV z TI Bj .ellipsis:=PH;refine AL ?_;simp only[List.zipIdx_cons,List.zipIdx_nil,c5,List.forIn_nil];refine AL (AL (WD ?_));show AV _ _ (OZ (.ref B1)>>=_) _ _ _;refine AL (Hs.item i _ _ _ CC (LF Hs h1 MF ap.du) λx MG nN AG ly KU=>Aw ?_);have TP:Gl MG Bj a b:=KU.extBut _ _ ap.TOi1 (MF.extBut _ _ ap.TOz Ik);refine AL (K2 TP rfl ?_);refine AL (bp TP λMg X2 LK=>?_);replace X2:Gl Mg Bj x b:=X2;refine AL (wpAny_letGo (Aw ?_));refine AL (AL (WD ?_));show AV _ _ (OZ (.ref BW)>>=_) _ _ _;have abt:J6 i Mg:=LF H_ (LF H_ (LF H_ h2 MF ap.dw) KU ap.fc) LK ap.dv;refine AL (H_.item i _ _ _ C8 abt λy Us afu AN ac2 PF=>Aw ?_);have hn:Gl Us Bj x b:=PF.extBut _ _ ap.TOi2 X2;refine AL (K2 hn rfl ?_);refine AL (bp hn λHg X3 PG=>?_);replace X3:Gl Hg Bj x y:=X3;refine AL (wpAny_letGo (Aw (Aw ?_)));refine AL (K2 X3 rfl ?_);refine AL (wpAny_newTuple ?_);have hsz:Hg.objs.size=s.heap.objs.size:=by rw[PG.1,PF.1,LK.1,KU.1,MF.1]
 have gf:IU Hg z TI Bj .ellipsis:=PG.extBut _ _ ap.TOz.symm (PF.extBut _ _ ap.i2z.symm (LK.extBut _ _ ap.TOz.symm (KU.extBut _ _ ap.i1z.symm PH)));have tu:∀c o,c≠z->c≠Bj->c≠B1->c≠BW->s.heap.get? c=some o->Hg.get? c=some o:=λc o BR C_ Ei N9 e=>
  PG.extBut _ _ C_ (PF.extBut _ _ N9 (LK.extBut _ _ C_ (KU.extBut _ _ Ei (MF.extBut _ _ BR e))))
 have abr:J5 (i+1) Hg:=LF Hs (LF Hs (LF Hs ly LK ap.fb) PF ap.rG) PG ap.fb;have abu:J6 (i+1) Hg:=LF H_ ac2 PG ap.dv;have hG:z<Hg.objs.size:=D3 gf;show AV _ _ (oL (.ref z) (.ref Hg.objs.size)>>=_) _ _ _;refine AL ?_;unfold oL;have u_:IU (Hg.push { cls:=.type "tuple",data:=.seq #[x,y] }) z TI Bj .ellipsis:=Cz _ gf;refine AL (RV u_ (by simp) λub a9 a0=>?_);replace a9:IU ub z TI Bj (Lk Hg.objs.size):=a9;refine RV a9 (by simp) λUt Wq a3=>?_;replace Wq:IU Ut z TI Bj (Lk Hg.objs.size):=Wq;have up:∀c o,c≠z->Hg.get? c=some o->Ut.get? c=some o:=λc o BR e=>a3.extBut _ _ BR (a0.extBut _ _ BR (Cz _ e));have gs:Gl Ut Hg.objs.size x y:=a3.extBut _ _ (MP hG) (a0.extBut _ _ (MP hG) (Fc _ rfl));have hF:Ut.objs.size=Hg.objs.size+1:=by rw[a3.1,a0.1,K3]
 rw[hsz]at Wq gs hF;refine Aw ⟨_,rfl,?_⟩;show Q (.ref Hg.objs.size) _;rw[hsz];exact Dt x y Ut _ AG AN Wq (up _ _ ap.TOz X3) (Hs.frame _ _ _ abr λc AD o e=>up c o (λq=>ap.du (q▸AD)) e) (H_.frame _ _ _ abu λc AD o e=>up c o (λq=>ap.dw (q▸AD)) e) gs hF λc o BR C_ Ei N9 e=>up c o BR (tu c o BR C_ Ei N9 e)
def ads{z TI Bj B1 BW:A4}{f1 f2:List A4}{CP Cw i:Nat}{OC OD:Nat->A3->Prop}{J5 J6:Nat->Ar->Prop}{a b:A3}{Q:Fin->AJ->Prop}(Hs:Draws prog w A B1 f1 CP OC J5)(H_:Draws prog w A BW f2 Cw OD J6)(ap:Rx z TI Bj B1 BW f1 f2)(hz:IU s.heap z TI Bj .none)(IN:Gl s.heap TI (.ref B1) (.ref BW))(Ik:Gl s.heap Bj a b)(h1:J5 i s.heap)(h2:J6 i s.heap)(d_:i=CP\/(i<CP/\i=Cw))(PC:∀h' e By,(∀c o,c≠z->c≠Bj->c≠B1->c≠BW->s.heap.get? c=some o->h'.get? c=some o)->(∃o,h'.get? e=some o/\o.cls=.type "StopIteration")->E (.ref e) { s with heap:=h',toks:=By }) :
  AV (Al prog w) A (Oo.«zip.__next__» ⟨[.ref z],[]⟩) Q E s:=by
 show AV _ _ (field (.ref z) 2>>=_) _ _ _;refine AL (Iz hz rfl (x:=.bool false) rfl ?_);show AV _ _ (field (.ref z) 3>>=_) _ _ _;refine AL (Iz hz rfl (x:=.ref TI) rfl ?_);refine AL (K2 IN rfl ?_);show AV _ _ (V_ (.ref z)>>=_) _ _ _;refine AL ?_;unfold V_;refine AL (Iz hz rfl (x:=.none) rfl (Aw ?_));simp only[if_true];refine AL (Ol ?_);refine AL (Iz hz rfl (x:=.ref Bj) rfl ?_);refine AL (RV hz (by simp) λKV PH MF=>?_);replace PH:IU KV z TI Bj .ellipsis:=PH;refine AL ?_;simp only[List.zipIdx_cons,List.zipIdx_nil,c5,List.forIn_nil];refine AL (AL (WD ?_));show AV _ _ (OZ (.ref B1)>>=_) _ _ _;have mT:J5 i KV:=LF Hs h1 MF ap.du;rcases d_ with A9|⟨CC,AE⟩
 .subst A9;refine AL (Hs.done _ _ _ mT λMG e KU he=>?_);obtain⟨UH,QF,Tt⟩:=he;have hH:IU MG z TI Bj .ellipsis:=KU _ _ ap.i1z.symm PH;have da:e≠z:=λx=>by subst x;rw[hH]at QF;cases QF;simp at Tt
  refine RV hH (by simp) λMg _ LK=>PC Mg e s.toks (λc o BR _ Ei _ x=>LK.extBut _ _ BR (KU _ _ Ei (MF.extBut _ _ BR x))) ⟨UH,LK.extBut _ _ da QF,Tt⟩
 .subst AE;refine AL (Hs.item _ _ _ _ CC mT λx MG nN AG ly KU=>Aw ?_);have TP:Gl MG Bj a b:=KU.extBut _ _ ap.TOi1 (MF.extBut _ _ ap.TOz Ik);refine AL (K2 TP rfl ?_);refine AL (bp TP λMg X2 LK=>?_);refine AL (wpAny_letGo (Aw ?_));refine AL (AL (WD ?_));show AV _ _ (OZ (.ref BW)>>=_) _ _ _;refine AL (H_.done _ _ _ (LF H_ (LF H_ (LF H_ h2 MF ap.dw) KU ap.fc) LK ap.dv) λUs e PF he=>?_);obtain⟨UH,QF,Tt⟩:=he;have hI:IU Us z TI Bj .ellipsis:=PF _ _ ap.i2z.symm (LK.extBut _ _ ap.TOz.symm (KU.extBut _ _ ap.i1z.symm PH));have da:e≠z:=λx=>by subst x;rw[hI]at QF;cases QF;simp at Tt
  refine RV hI (by simp) λHg _ PG=>PC Hg e nN (λc o BR C_ Ei N9 x=>PG.extBut _ _ BR (PF _ _ N9 (LK.extBut _ _ C_ (KU.extBut _ _ Ei (MF.extBut _ _ BR x))))) ⟨UH,PG.extBut _ _ da QF,Tt⟩
theorem zq {z TI Bj B1 BW:A4} {f1 f2:List A4} {CP Cw i:Nat} {OC OD:Nat->A3->Prop} {J5 J6:Nat->Ar->Prop} {a b:A3} {Q:Option A3->AJ->Prop} (Hs:Draws prog w A.in1 B1 f1 CP OC J5) (H_:Draws prog w A.in1 BW f2 Cw OD J6) (ap:Rx z TI Bj B1 BW f1 f2)(hz:IU s.heap z TI Bj .none) (IN:Gl s.heap TI (.ref B1) (.ref BW)) (Ik:Gl s.heap Bj a b) (h1:J5 i s.heap) (h2:J6 i s.heap) (CC:i<CP) (C8:i<Cw)(Dt:∀x y h' By,OC i x->OD i y->IU h' z TI Bj (Lk s.heap.objs.size)->Gl h' Bj x y->J5 (i+1) h'->J6 (i+1) h'->Gl h' s.heap.objs.size x y->h'.objs.size=s.heap.objs.size+1->
    (∀c o,c≠z->c≠Bj->c≠B1->c≠BW->s.heap.get? c=some o->h'.get? c=some o)->Q (some (.ref s.heap.objs.size)) { s with heap:=h',toks:=By }) :
  AV (Al prog w) A (K7 (.ref z)) Q E s:=by
 have DN:s.TypeIs (.ref z) "zip":=⟨_,hz,rfl⟩;unfold K7
 exact AL (WE (OY (name:=Q3 "__next__") DN Vy
  (Kl Vy DN F.entry_zip_next
    (aeJ Hs H_ ap hz IN Ik h1 h2 CC C8 λx y h' By a1 a2 Bi Hw J8 OH cm pc pd=>Aw (Dt x y h' By a1 a2 Bi Hw J8 OH cm pc pd)) (F.args_zip_next_1 _))))
theorem zR{z TI Bj B1 BW:A4}{f1 f2:List A4}{CP Cw i:Nat}{OC OD:Nat->A3->Prop}{J5 J6:Nat->Ar->Prop}{a b:A3}{Q:Option A3->AJ->Prop}(Hs:Draws prog w A.in1 B1 f1 CP OC J5)(H_:Draws prog w A.in1 BW f2 Cw OD J6)(ap:Rx z TI Bj B1 BW f1 f2)(hz:IU s.heap z TI Bj .none)(IN:Gl s.heap TI (.ref B1) (.ref BW))(Ik:Gl s.heap Bj a b)(h1:J5 i s.heap)(h2:J6 i s.heap)(d_:i=CP\/(i<CP/\i=Cw))(Dt:∀h' By,(∀c o,c≠z->c≠Bj->c≠B1->c≠BW->s.heap.get? c=some o->h'.get? c=some o)->Q none { s with heap:=h',toks:=By }):AV (Al prog w) A (K7 (.ref z)) Q E s:=by
 have DN:s.TypeIs (.ref z) "zip":=⟨_,hz,rfl⟩;unfold K7
 refine AL (WE (OY (name:=Q3 "__next__") DN Vy
  (Kl Vy DN F.entry_zip_next (ads Hs H_ ap hz IN Ik h1 h2 d_ λh' e By AK he=>?_) (F.args_zip_next_1 _))))
 obtain⟨o,ho,AD⟩:=he;refine AL (RX (T:="StopIteration") (b:=true) ⟨o,ho,AD⟩ isSubtype_stop ?_);exact Aw (Dt _ _ AK)
end
def Inv.Yg{X:Am}{pins:List (A4×Obj)}{σ :St}{H:A8}{s:AJ}{h':Ar}{t':Nat}{ch:List A4}(I:Inv X pins σ H s)(k:∀b o,b∉ch->s.heap.get? b=some o->h'.get? b=some o)(hf:∀b∈ch,Ju X pins H b):Inv X pins σ H { s with heap:=h',toks:=t' }:=by
 have Ox:∀b u,H b=some u->b∉ch:=λb u e z=>by rw[(hf b z).1]at e;cases e
 refine I.step (g':=s.gens) (d':=s.drawn) (ch:=ch) (λb A1=>?_) (λb o _ _ AD e _=>k b o AD e) (λb o _ _ AD e _=>⟨o.slots,k b o AD e⟩) (λ_ _ _ _ n=>n)
  (λb o AD e=>⟨o,k b o AD e⟩) (λ_ _ e=>e) (λ_ _ _ e=>e) (λb ps e=>⟨#[],by rw[e];simp⟩) (λm hm=>?_) (λb u e=>?_) I.bare
 .obtain⟨_,f1,_,F8,f4,GU⟩:=hf b A1;exact⟨F8,f1,f4,GU⟩
 .obtain⟨o,es,Ai,ho,r⟩:=hm;exact⟨o,es,Ai,k _ o (λz=>(hf _ z).2.1 rfl) ho,r⟩
 .refine(I.Ax b u e).Mx (λc v AD q=>k c v ?_ q) (λ_ q=>q) λ_ _ q=>q;rcases AD with z|z
  .rw[z];exact Ox b u e
  .exact Ox c _ z
def Inv.nL{X:Am}{pins:List (A4×Obj)}{σ :St}{H:A8}{s:AJ}{h':Ar}{t':Nat}{ch:List A4}{T:A4}{xs:List V}{its:List A3}(I:Inv X pins σ H s)(k:∀b o,b∉ch->s.heap.get? b=some o->h'.get? b=some o)(hf:∀b∈ch,Ju X pins H b)(DN:s.heap.objs.size<=T)(BQ:bc h' T its.toArray)(Bx:Vals xs its)(hz:xs.length<=Bu):Inv X pins σ (upd H T (.tup xs)) { s with heap:=h',toks:=t' }:=by
 have Ox:∀b u,H b=some u->b∉ch:=λb u e z=>by rw[(hf b z).1]at e;cases e
 have AW:H T=none:=I.Ax.fresh DN;have neT:∀b o,s.heap.get? b=some o->b≠T:=λb o e=>Ef (Fn (D3 e) DN)
 refine I.step (g':=s.gens) (d':=s.drawn) (ch:=ch) (λb A1=>?_) (λb o _ _ AD e _=>k b o AD e) (λb o _ _ AD e _=>⟨o.slots,k b o AD e⟩) (λb o _ e n=>by rw[D2 (neT b o e)];exact n)
  (λb o AD e=>⟨o,k b o AD e⟩) (λb ys e=>by rw[D2 (Kb e AW)];exact e) (λb _ _ e=>by rw[D2 (Kb e AW)];exact e) (λb ps e=>⟨#[],by rw[D2 (Kb e AW),e];simp⟩) (λm hm=>?_) (λb u e=>?_) I.bare
 .obtain⟨_,f1,_,F8,f4,GU⟩:=hf b A1;exact⟨F8,f1,f4,GU⟩
 .obtain⟨o,es,Ai,ho,r⟩:=hm;exact⟨o,es,Ai,k _ o (λz=>(hf _ z).2.1 rfl) ho,r⟩
 .by_cases A1:b=T
  .subst A1;rw[EX]at e;cases e;exact⟨hz,its,Bx,BQ⟩
  .rw[D2 A1]at e;refine(I.Ax b u e).Mx (λc v AD q=>k c v ?_ q) (λc q=>by rw[D2 (Kb q AW)];exact q) λc ys q=>by rw[D2 (Kb q AW)];exact q
   rcases AD with z|z
   .rw[z];exact Ox b u e
   .exact Ox c _ z
def dL(x:Str):It:=⟨λi _=>i<x.cps.size,λi H v A6=>A6=H/\∃c,x.cps[i]?=some c/\v=.str ⟨#[c]⟩,λi _=>i=x.cps.size⟩
def n4{prog:Bh}{w:BP}{A:CW}(hh:A.handled=none)(I:A4)(x:Str)(t:Tok):Walks prog w A I [I] [I] x.cps.size (SignAt x) (λi h=>h.IsStrIter I (Kq x) x t i):=by
 unfold Kq;cases AB:x.cps.all (· <128)
 .rw[if_neg JR];exact Walks.strWide hh I x t
 .rw[if_pos rfl];exact Walks.strAscii hh I x t
def fw{prog:Bh}{w:BP}{A:CW}(hh:A.handled=none)(I:A4)(x:Str)(t:Tok):Draws prog w A I [I] x.cps.size (λi v=>∃c u,x.cps[i]?=some c/\v=.str ⟨#[c]⟩ u) (λi h=>h.IsStrIter I (Kq x) x t i):=by
 unfold Kq;cases AB:x.cps.all (· <128)
 .rw[if_neg JR];exact Draws.strWide hh I x t
 .rw[if_pos rfl];exact Draws.strAscii hh I x t
def ac0(x:Str):["enumerate","zip","dict_itemiterator","dict_reverseitemiterator","odict_iterator","itertools.zip_longest","itertools.pairwise"].contains (Kq x)=false:=by
 unfold Kq
 split<;>decide
def abR{P:Bh}{w:BP}{K:Ad}{C0:At}(it:A4)(x:Str)(t:Tok):Turn P w K C0 (dL x) [it] it (λi h=>h.IsStrIter it (Kq x) x t i) where
 mem:=by simp
 obj:=λi h st b A1=>by
  have e:b=it:=by simpa using A1
  subst e;obtain⟨o,e,c,d⟩:=st;exact⟨o,e,λv z=>by rw[d]at z;cases z⟩
 keep:=λi h h' st k=>by obtain⟨o,e,r⟩:=st;exact⟨o,k it (by simp) o e,r⟩
 item:=by intro X DM hw AX AD i pins s σ H E I hf st Aj;subst DM hw AX;have W:=n4 (prog:=X.prog) (w:=X.w) (A:=X.A) (I.ok.hd AD) it x t;refine W.item i s _ _ Aj st λv h' By BB Jp FW=>?_;obtain⟨c,u,MC,rfl⟩:=BB;have Ab:Inv X pins σ H { s with heap:=h',toks:=By }:=I.Yg (ch:=[it]) FW hf;obtain⟨o,e,BR,d1⟩:=id Jp;exact⟨_,rfl,Ts (s:={ s with heap:=h',toks:=By }) e BR d1 (ac0 x) ⟨.str ⟨#[c]⟩,H,Ab,⟨u,rfl⟩,⟨rfl,c,MC,rfl⟩,Jp,λb A1=>(hf b A1).1⟩⟩
 done:=by intro X DM hw AX AD i pins s σ H E I hf st Aj;subst DM hw AX;have W:=n4 (prog:=X.prog) (w:=X.w) (A:=X.A) (I.ok.hd AD) it x t;have A7:i=x.cps.size:=Aj;subst A7;exact W.done s _ _ st λh' By FW=>⟨rfl,I.Yg (ch:=[it]) FW hf⟩
 self:=λA i s Q E st h=>by
  unfold Kq at st;cases AB:x.cps.all (· <128)
  .rw[AB,if_neg JR]at st;exact wpAny_pyIter_striter_wide st h
  .rw[AB,if_pos rfl]at st;exact wpAny_pyIter_striter_ascii st h
section
variable{X:Am}{C0:At}
end
noncomputable def dJ(K:Ad)(l:A4):It:=⟨λi H=>∃xs x,EL K H l xs/\xs[i]?=some x,λi H v A6=>∃p x,H p=none/\A6=upd H p (.tup [.int (i:Int),x])/\v=.ref p/\∀xs,EL K H l xs->xs[i]?=some x,λi H=>∃xs,EL K H l xs/\xs.length=i⟩
def acD{P:Bh}{w:BP}{K:Ad}{elts:List At}{FW:Nat}{pos:Pos}(e it l:A4)(h3:e≠it) :
  Turn P w K (.Tuple elts FW pos) (dJ K l) [e,it] e (λi h=>(∃old,IsEnum h e it i old)/\h.IsListIter it l i) where
 mem:=by simp
 obj:=λi h st b A1=>by
  obtain⟨⟨old,he⟩,o,A9,c,d⟩:=st;rcases List.mem_cons.mp A1 with z|z
  .subst z;exact⟨_,he,λv z=>by have FK:Data.fields _=TL v:=z;cases FK⟩
  .have z:b=it:=by simpa using z
   subst z;exact⟨o,A9,λv z=>by rw[d]at z;cases z⟩
 keep:=λi h h' st k=>by obtain⟨⟨old,he⟩,hit⟩:=st;exact⟨⟨old,k e (by simp) _ he⟩,hit.at λo x=>k it (by simp) o x⟩
 item:=by
  intro X DM hw AX AD i pins s σ H E I hf st Aj;subst DM hw AX;obtain⟨xs,x,AU,AG⟩:=Aj;obtain⟨its,Bx,pl,hz⟩:=I.list AU;obtain⟨⟨old,he⟩,hit⟩:=st;have G3:=pl.isList;have hle:l≠e:=λz=>by subst z;obtain⟨o,ho,JF,_⟩:=G3;rw[he]at ho;cases ho;have JF:NL "enumerate"=NL "list":=JF;injection JF with JF;exact absurd JF (by decide)
  have X9:l≠it:=λz=>by subst z;obtain⟨o,ho,JF,_⟩:=G3;obtain⟨o',F9,Nq,_⟩:=hit;rw[F9]at ho;cases ho;rw[JF]at Nq;injection Nq with Nq;exact absurd Nq (by decide)
  have W:=WalksT.enumerate (prog:=X.prog) (w:=X.w) (A:=X.A) (I.ok.hd AD) e it l h3 hle X9 its.toArray;have hlen:=Bx.length;have df:i<xs.length:=(List.getElem?_eq_some_iff.mp AG).1;refine W.item i s _ _ (by rw[DI,<-hlen];exact df) ⟨⟨old,he⟩,hit,G3⟩ λT vals h' By DM DN tW Nn AK=>?_;obtain⟨t,u,Av,rfl⟩:=DM;obtain⟨II,Ur,FZ⟩:=Bx.get AG;have FV:II=u:=by rw[ou]at Av;rw[Ur]at Av;exact Fd Av
  subst FV;refine⟨_,rfl,?_⟩;refine W.go elts FW pos i T { s with heap:=h',toks:=By } _ _ Nn λh2 LY Nt=>?_;have gr:T∉[e,it]:=W.apart i T h' Nn;have keep:∀b o,b∉[e,it]->s.heap.get? b=some o->h2.get? b=some o:=λb o A1 q=>Nt b o A1 (AK b o A1 q);have a4:bc h2 T (#[.int i t,II]:Array A3):=by obtain⟨o,ho,r⟩:=tW;exact⟨o,Nt T o gr ho,r⟩
  have AW:H T=none:=I.Ax.fresh DN;have BU:Inv X pins σ (upd H T (.tup [.int (i:Int),x])) { s with heap:=h2,toks:=By }:=I.nL (its:=[.int i t,II]) (ch:=[e,it]) keep hf DN a4 (.cons ⟨t,rfl⟩ (.cons FZ .nil)) (by show 2<=Bu;decide);refine⟨.ref T,upd H T (.tup [.int (i:Int),x]),BU,rfl,⟨T,x,AW,rfl,rfl,λys AN=>by rw[I.Zh AN AU];exact AG⟩,⟨LY.1,LY.2.1⟩,λb A1=>?_⟩;have nb:b≠T:=λz=>gr (z▸A1);rw[D2 nb];exact(hf b A1).1
 done:=by
  intro X DM hw AX AD i pins s σ H E I hf st Aj;subst DM hw AX;obtain⟨xs,AU,AG⟩:=Aj;obtain⟨its,Bx,pl,hz⟩:=I.list AU;obtain⟨⟨old,he⟩,hit⟩:=st;have G3:=pl.isList;have hle:l≠e:=λz=>by subst z;obtain⟨o,ho,JF,_⟩:=G3;rw[he]at ho;cases ho;have JF:NL "enumerate"=NL "list":=JF;injection JF with JF;exact absurd JF (by decide)
  have X9:l≠it:=λz=>by subst z;obtain⟨o,ho,JF,_⟩:=G3;obtain⟨o',F9,Nq,_⟩:=hit;rw[F9]at ho;cases ho;rw[JF]at Nq;injection Nq with Nq;exact absurd Nq (by decide)
  have W:=WalksT.enumerate (prog:=X.prog) (w:=X.w) (A:=X.A) (I.ok.hd AD) e it l h3 hle X9 its.toArray;have LC:i=its.toArray.size:=by rw[DI,<-Bx.length];exact AG.symm
  subst LC;exact W.done s _ _ ⟨⟨old,he⟩,hit,G3⟩ λh' By FW=>⟨rfl,I.Yg (ch:=[e,it]) FW hf⟩
 self:=λA i s Q E st h=>by obtain⟨⟨old,he⟩,_⟩:=st;exact wpAny_pyIter_enum he h
section
variable{X:Am}{elts:List At}{FW:Nat}{VN:Pos}
def ud(K:Ad)(Be:FM):TI:=λσ H R=>Be σ H λvs H1=>∃l,vs=[.ref l]/\(∃xs,EL K H1 l xs)/\R (dJ K l) H1
def aa3{a:At}{Be:FM}{p pos:Pos}(Aj:EJ X "enumerate")(hm:X.mg "enumerate"=none)(AB:Gv X [a] Be)(hs:CJ [a] X.env=[(false,Bb a X.env)]:=by rfl):Hc X (.Tuple elts FW VN) (.Call (.Name "enumerate" p) [a] [] pos) (ud X.K Be):=by
 have A1:NN "enumerate"=some (.type "enumerate"):=by kernel_rfl
 intro pins s σ H R I h;refine pI (Nx I Aj hm A1 (Pp (BG (AB pos pins s σ H _ I h) λus s1⟨vs,H1,Ab,Ak,q1⟩=>?_) hs rfl));obtain⟨l,e,⟨xs,AU⟩,q⟩:=q1;subst e;obtain⟨u,rfl,FZ⟩:=vals1 Ak;cases FZ;obtain⟨its,Bx,pl,hz⟩:=Ab.list AU;refine call_enumerate_list pl.isList λh' he hit hsz AK=>?_;have BU:Inv X pins σ H1 { s1 with heap:=h' }:=Ab.kept (t':=s1.toks) AK;refine wpAny_pyIter_enum he ?_;refine⟨s1.heap.objs.size+1,[s1.heap.objs.size+1,s1.heap.objs.size],_,_,H1,rfl,BU,acD _ _ l (Nat.succ_ne_self _),⟨⟨_,he⟩,hit⟩,λb A1=>?_,q⟩;have A1:b=s1.heap.objs.size+1\/b=s1.heap.objs.size:=by simpa using A1
 rcases A1 with z|z
 .subst z;exact Ab.Nm (Q5 _) (Ab.Ax.fresh (Q5 _))
 .subst z;exact Ab.Nm (C1 _) (Ab.Ax.fresh (C1 _))
end
abbrev Ys(h:Ar)(x:Str)(t:Tok):Ar:=h.push { cls:=.type (Kq x),data:=.fields #[.str x t,.int 0 0] }
abbrev Yt(h:Ar)(x:Str)(t:Tok)(l:A4):Ar:=(Ys h x t).push { cls:=.type "tuple_iterator",data:=.fields #[.ref l,.int 0 0] }
abbrev Yu(h:Ar)(x:Str)(t:Tok)(l:A4):Ar:=(Yt h x t l).push { cls:=.type "tuple",data:=.seq #[.ref h.objs.size,.ref (Ys h x t).objs.size] }
abbrev Yv(h:Ar)(x:Str)(t:Tok)(l:A4):Ar:=(Yu h x t l).push { cls:=.type "tuple",data:=.seq #[.none,.none] }
abbrev Qx(h:Ar)(x:Str)(t:Tok)(l:A4):Ar:=(Yv h x t l).push { cls:=.type "zip",data:=.fields #[.none,.bool false,.bool false,.ref (Yt h x t l).objs.size,.ref (Yu h x t l).objs.size] }
set_option maxHeartbeats 4000000 in
def wW(x:Str)(t:Tok)(C8:A4)(ys:Array A3) :
  Meets (Oo.«zip.__new__» ⟨[.type "zip",.str x t,.ref C8],[]⟩) (λ_ R s=>s.heap.IsTuple C8 ys/\R (.ok (.ret (.ref (Yv s.heap x t C8).objs.size))) { s with heap:=Qx s.heap x t C8 }):=
 .of_wp λprog w A R s h=>by
   obtain⟨AT,g,d,By,os⟩:=s;obtain⟨Sh,h⟩:=h;have Mf:=sub_zip;have uF:Heap.IsTuple (Shared.heap ⟨AT.push { cls:=.type (Kq x),data:=.fields #[.str x t,.int 0 0] },g,d,By,os⟩) C8 ys:=Heap.IsTuple.push Sh _
   wp_walk using wpAny_pyIter_strU,wpAny_pyIter_tuple uF
   exact⟨_,rfl,h⟩
theorem q_ {prog:Bh} {w:BP} {A:CW} {E:A3->AJ->Prop} {s:AJ} {x:Str} {t:Tok} {C8:A4} {ys:Array A3} {Q:A3->AJ->Prop} (Sh:s.heap.IsTuple C8 ys)(h:∀h',IU h' (s.heap.objs.size+4) (s.heap.objs.size+2) (s.heap.objs.size+3) .none->Gl h' (s.heap.objs.size+2) (.ref s.heap.objs.size) (.ref (s.heap.objs.size+1))->
    Gl h' (s.heap.objs.size+3) .none .none->h'.IsStrIter s.heap.objs.size (Kq x) x t 0->h'.IsTupleIter (s.heap.objs.size+1) C8 0->h'.objs.size=s.heap.objs.size+5->
    (∀c o,s.heap.get? c=some o->h'.get? c=some o)->Q (.ref (s.heap.objs.size+4)) { s with heap:=h' }) :
  AV (Al prog w) A (call (.type "zip") [.str x t,.ref C8]) Q E s:=by
 refine callType_new F.called_zip (by decide) (F.typeCall_zip_2 _ _) (F.newCall_zip_2 _ _) (λobj=>F.args_object_init_3 obj _ _) F.entry_zip_new (wW x t C8 ys) ⟨Sh,?_⟩;have HO:(Ys s.heap x t).objs.size=s.heap.objs.size+1:=K3 ..;have F5:(Yt s.heap x t C8).objs.size=s.heap.objs.size+2:=by rw[K3,HO]
 have bT:(Yu s.heap x t C8).objs.size=s.heap.objs.size+3:=by rw[K3,F5]
 have bU:(Yv s.heap x t C8).objs.size=s.heap.objs.size+4:=by rw[K3,bT]
 have bV:(Qx s.heap x t C8).objs.size=s.heap.objs.size+5:=by rw[K3,bU]
 have Mb:(Qx s.heap x t C8).get? (Yv s.heap x t C8).objs.size=some _:=Fc _ rfl;have g4:(Qx s.heap x t C8).get? (Yu s.heap x t C8).objs.size=some _:=Cz _ (Fc _ rfl);have g3:(Qx s.heap x t C8).get? (Yt s.heap x t C8).objs.size=some _:=Cz _ (Cz _ (Fc _ rfl));have g2:(Qx s.heap x t C8).get? (Ys s.heap x t).objs.size=some _:=Cz _ (Cz _ (Cz _ (Fc _ rfl)));have g1:(Qx s.heap x t C8).get? s.heap.objs.size=some _:=Cz _ (Cz _ (Cz _ (Cz _ (Fc _ rfl))));show _/\_;rw[F5,bT,bU]at Mb;rw[HO,F5]at g3;rw[bT]at g4;rw[HO]at g2;rw[bU];exact⟨⟨_,Mb,rfl⟩,h _ Mb g3 g4 ⟨_,g1,rfl,rfl⟩ ⟨_,g2,rfl,rfl⟩ bV λc o x=>
  Cz _ (Cz _ (Cz _ (Cz _ (Cz _ x))))⟩
noncomputable def fR(K:Ad)(x:Str)(l:A4):It:=⟨λi H=>i<x.cps.size/\∃ys y,EM K H l ys/\ys[i]?=some y,
 λi H v A6=>∃p c y,x.cps[i]?=some c/\H p=none/\A6=upd H p (.tup [.str ⟨#[c]⟩,y])/\v=.ref p/\∀ys,EM K H l ys->ys[i]?=some y,
 λi H=>∃ys,EM K H l ys/\i=min x.cps.size ys.length⟩
structure et(z TI Bj B1 BW:A4):Prop where
 TIz:TI≠z
 TOz:Bj≠z
 TITO:TI≠Bj
 TIi1:TI≠B1
 TIi2:TI≠BW
 TOi1:Bj≠B1
 TOi2:Bj≠BW
 i1z:B1≠z
 i2z:BW≠z
 i12:B1≠BW
def abT{P:Bh}{w:BP}{K:Ad}{elts:List At}{FW:Nat}{pos:Pos}(x:Str)(t:Tok)(l z TI Bj B1 BW:A4)(ap:et z TI Bj B1 BW) :
  Turn P w K (.Tuple elts FW pos) (fR K x l) [z,TI,Bj,B1,BW] z (λi h=>IU h z TI Bj .none/\Gl h TI (.ref B1) (.ref BW)/\(∃a b,Gl h Bj a b)/\h.IsStrIter B1 (Kq x) x t i/\h.IsTupleIter BW l i) where
 mem:=by simp
 obj:=λi h st b A1=>by
  obtain⟨hz,IN,⟨a,Fx,Ik⟩,⟨Dd,A9,BR,d1⟩,Cn,AE,C_,Ej⟩:=st;have A1:b=z\/b=TI\/b=Bj\/b=B1\/b=BW:=by simpa using A1
  rcases A1 with q|q|q|q|q<;>subst q
  .exact⟨_,hz,λv z=>by have FK:Data.fields _=TL v:=z;cases FK⟩
  .exact⟨_,IN,λv z=>by have FK:Data.seq _ _=TL v:=z;cases FK⟩
  .exact⟨_,Ik,λv z=>by have FK:Data.seq _ _=TL v:=z;cases FK⟩
  .exact⟨Dd,A9,λv z=>by rw[d1]at z;cases z⟩
  .exact⟨Cn,AE,λv z=>by rw[Ej]at z;cases z⟩
 keep:=λi h h' st k=>by obtain⟨hz,IN,⟨a,Fx,Ik⟩,⟨Dd,A9,Ak⟩,Cn,AE,B6⟩:=st;exact⟨k z (by simp) _ hz,k TI (by simp) _ IN,⟨a,Fx,k Bj (by simp) _ Ik⟩,⟨Dd,k B1 (by simp) _ A9,Ak⟩,Cn,k BW (by simp) _ AE,B6⟩
 item:=by
  intro X DM hw AX AD i pins s σ H E I hf st Aj;subst DM hw AX;obtain⟨A7,ys,y,AU,AN⟩:=Aj;obtain⟨its,Bx,BQ,uX⟩:=I.tuple AU;obtain⟨hz,IN,⟨a,Fx,Ik⟩,XH,Gp⟩:=st;have nl:∀b∈[z,TI,Bj,B1,BW],l≠b:=λb A1 q=>by
   subst q;rcases AU with(h|⟨o,h⟩)|⟨o,V1,n,h,_⟩
   .rw[(hf l A1).1]at h;cases h
   .rw[(hf l A1).1]at h;cases h
   .have h1:=I.ok.mod.Je l o h;rcases(hf l A1).2.2.2.1 with q|q
    .exact I.ok.RC l o h1 q
    .exact absurd (Fn (D3 (I.ok.bs l o h1).1) q) (Iw _)
  have hh:X.A.in1.handled=none:=I.ok.hd AD;have Hs:=fw (prog:=X.prog) (w:=X.w) (A:=X.A.in1) hh B1 x t;have H_:=fx (prog:=X.prog) (w:=X.w) (A:=X.A.in1) hh BW l (nl BW (by simp)) its.toArray;have hlen:=Bx.length;have df:i<ys.length:=(List.getElem?_eq_some_iff.mp AN).1
  have N5:Rx z TI Bj B1 BW [B1] [BW,l]:=⟨ap.TIz,ap.TOz,ap.TITO,ap.TIi1,ap.TIi2,ap.TOi1,ap.TOi2,ap.i1z,ap.i2z,ap.i12,by simpa using ap.i1z.symm,by simpa using ap.TOi1,by simpa using ap.i12.symm,
   by simp only[Gh,Km,or_false,not_or];exact⟨ap.i2z.symm,(nl z (by simp)).symm⟩,by simp only[Gh,Km,or_false,not_or];exact⟨ap.TOi2,(nl Bj (by simp)).symm⟩,by simp only[Gh,Km,or_false,not_or];exact⟨ap.i12,(nl B1 (by simp)).symm⟩⟩
  refine zq Hs H_ N5 hz IN Ik XH ⟨Gp,BQ⟩ A7 (by rw[DI,<-hlen];exact df) λafv nO h' By EW CL a1 a2 Bi Hw J8 OH AK=>?_;obtain⟨c,t1,tf,rfl⟩:=EW;obtain⟨II,Ur,FZ⟩:=Bx.get AN;have FV:II=nO:=by rw[ou]at CL;rw[Ur]at CL;exact Fd CL
  subst FV;refine⟨_,rfl,?_⟩;refine wpAny_letOwnedTupleGo_zip a1 λh2 uY Sk=>?_;have ac6:∀b∈[z,TI,Bj,B1,BW],b<s.heap.objs.size:=λb A1=>by
   have A1:b=z\/b=TI\/b=Bj\/b=B1\/b=BW:=by simpa using A1
   obtain⟨Dd,A9,_⟩:=XH;obtain⟨Cn,AE,_⟩:=Gp;rcases A1 with q|q|q|q|q<;>subst q
   .exact D3 hz
   .exact D3 IN
   .exact D3 Ik
   .exact D3 A9
   .exact D3 AE
  have jY:∀b∈[z,TI,Bj,B1,BW],b≠s.heap.objs.size:=λb A1=>Ef (ac6 b A1);have keep:∀b o,b∉[z,Bj,B1,BW]->s.heap.get? b=some o->h2.get? b=some o:=λb o A1 q=>by have A1:¬(b=z\/b=Bj\/b=B1\/b=BW):=λw=>A1 (by simpa using w);exact Sk.extBut b o (λw=>A1 (.inl w)) (AK b o (λw=>A1 (.inl w)) (λw=>A1 (.inr (.inl w))) (λw=>A1 (.inr (.inr (.inl w)))) (λw=>A1 (.inr (.inr (.inr w)))) q)
  have a4:bc h2 s.heap.objs.size ([.str ⟨#[c]⟩ t1,II]:List A3).toArray:=⟨_,Sk.extBut _ _ (jY z (by simp)).symm J8,rfl,_,rfl⟩;have AW:H s.heap.objs.size=none:=I.Ax.fresh (C1 _);have BU:Inv X pins σ (upd H s.heap.objs.size (.tup [.str ⟨#[c]⟩,y])) { s with heap:=h2,toks:=By }:=I.nL (its:=[.str ⟨#[c]⟩ t1,II]) (ch:=[z,Bj,B1,BW]) keep (λb A1=>hf b (by
   have A1:b=z\/b=Bj\/b=B1\/b=BW:=by simpa using A1
   rcases A1 with q|q|q|q<;>simp[q])) (C1 _) a4 (.cons ⟨t1,rfl⟩ (.cons FZ .nil)) (by show 2<=Bu;decide)
  refine⟨.ref s.heap.objs.size,_,BU,rfl,⟨s.heap.objs.size,c,y,tf,AW,rfl,rfl,λzs uZ=>by rw[I.aK uZ AU];exact AN⟩,?_,λb A1=>?_⟩
  .refine⟨uY,Sk.extBut _ _ ap.TIz (AK _ _ ap.TIz ap.TITO ap.TIi1 ap.TIi2 IN),⟨_,_,Sk.extBut _ _ ap.TOz a2⟩,?_,?_⟩
   .obtain⟨Dd,A9,Ak⟩:=Bi;exact⟨Dd,Sk.extBut _ _ ap.i1z A9,Ak⟩
   .obtain⟨⟨Cn,AE,B6⟩,_⟩:=Hw;exact⟨Cn,Sk.extBut _ _ ap.i2z AE,B6⟩
  .rw[D2 (jY b A1)];exact(hf b A1).1
 done:=by
  intro X DM hw AX AD i pins s σ H E I hf st Aj;subst DM hw AX;obtain⟨ys,AU,A7⟩:=Aj;obtain⟨its,Bx,BQ,uX⟩:=I.tuple AU;obtain⟨hz,IN,⟨a,Fx,Ik⟩,XH,Gp⟩:=st;have nl:∀b∈[z,TI,Bj,B1,BW],l≠b:=λb A1 q=>by
   subst q;rcases AU with(h|⟨o,h⟩)|⟨o,V1,n,h,_⟩
   .rw[(hf l A1).1]at h;cases h
   .rw[(hf l A1).1]at h;cases h
   .have h1:=I.ok.mod.Je l o h;rcases(hf l A1).2.2.2.1 with q|q
    .exact I.ok.RC l o h1 q
    .exact absurd (Fn (D3 (I.ok.bs l o h1).1) q) (Iw _)
  have hh:X.A.in1.handled=none:=I.ok.hd AD;have Hs:=fw (prog:=X.prog) (w:=X.w) (A:=X.A.in1) hh B1 x t;have H_:=fx (prog:=X.prog) (w:=X.w) (A:=X.A.in1) hh BW l (nl BW (by simp)) its.toArray;have hlen:=Bx.length
  have N5:Rx z TI Bj B1 BW [B1] [BW,l]:=⟨ap.TIz,ap.TOz,ap.TITO,ap.TIi1,ap.TIi2,ap.TOi1,ap.TOi2,ap.i1z,ap.i2z,ap.i12,by simpa using ap.i1z.symm,by simpa using ap.TOi1,by simpa using ap.i12.symm,
   by simp only[Gh,Km,or_false,not_or];exact⟨ap.i2z.symm,(nl z (by simp)).symm⟩,by simp only[Gh,Km,or_false,not_or];exact⟨ap.TOi2,(nl Bj (by simp)).symm⟩,by simp only[Gh,Km,or_false,not_or];exact⟨ap.i12,(nl B1 (by simp)).symm⟩⟩
  refine zR Hs H_ N5 hz IN Ik XH ⟨Gp,BQ⟩ ?_ λh' By FW=>⟨rfl,I.Yg (ch:=[z,Bj,B1,BW]) (λb o A1 q=>?_) λb A1=>hf b ?_⟩
  .have es:its.toArray.size=its.length:=by simp
   rw[es,<-hlen];lia
  .have A1:¬(b=z\/b=Bj\/b=B1\/b=BW):=λw=>A1 (by simpa using w);exact FW b o (λw=>A1 (.inl w)) (λw=>A1 (.inr (.inl w))) (λw=>A1 (.inr (.inr (.inl w)))) (λw=>A1 (.inr (.inr (.inr w)))) q
  .have A1:b=z\/b=Bj\/b=B1\/b=BW:=by simpa using A1
   rcases A1 with q|q|q|q<;>simp[q]
 self:=λA i s Q E st h=>wpAny_pyIter_zip st.1 h
section
variable{X:Am}{elts:List At}{FW:Nat}{VN:Pos}
def aeK(n:Nat):et (n+4) (n+2) (n+3) n (n+1):=
 ⟨(show n+2≠n+4 from Ef (show(n+2:Nat)<n+4 by lia)),
  (show n+3≠n+4 from Ef (show(n+3:Nat)<n+4 by lia)),
  (show n+2≠n+3 from Ef (show(n+2:Nat)<n+3 by lia)),
  (show n+2≠n from MP (show(n:Nat)<n+2 by lia)),
  (show n+2≠n+1 from MP (show(n+1:Nat)<n+2 by lia)),
  (show n+3≠n from MP (show(n:Nat)<n+3 by lia)),
  (show n+3≠n+1 from MP (show(n+1:Nat)<n+3 by lia)),
  (show n≠n+4 from Ef (show(n:Nat)<n+4 by lia)),
  (show n+1≠n+4 from Ef (show(n+1:Nat)<n+4 by lia)),
  (show n≠n+1 from Ef (show(n:Nat)<n+1 by lia))⟩
def ug(K:Ad)(Be:FM):TI:=λσ H R=>Be σ H λvs H1=>∃x l,vs=[.str x,.ref l]/\(∃ys,EM K H1 l ys)/\R (fR K x l) H1
def aa7{a b:At}{Be:FM}{p pos:Pos}(Aj:EJ X "zip")(hm:X.mg "zip"=none)(AB:Gv X [a,b] Be)(hs:CJ [a,b] X.env=[(false,Bb a X.env),(false,Bb b X.env)]:=by rfl)(Gp:CJ [b] X.env=[(false,Bb b X.env)]:=by rfl) :
  Hc X (.Tuple elts FW VN) (.Call (.Name "zip" p) [a,b] [] pos) (ug X.K Be):=by
 have A1:NN "zip"=some (.type "zip"):=by kernel_rfl
 intro pins s σ H R I h;refine pI (Nx I Aj hm A1 (Pp (BG (AB pos pins s σ H _ I h) λus s1⟨vs,H1,Ab,Ak,q1⟩=>?_) (by rw[hs,Gp]) (by rw[Gp];rfl)));obtain⟨x,l,e,⟨ys,AU⟩,q⟩:=q1;subst e;obtain⟨u,nO,rfl,⟨t,rfl⟩,FZ⟩:=vals2 Ak;cases FZ;obtain⟨its,Bx,BQ,hz⟩:=Ab.tuple AU;refine q_ (show s1.heap.IsTuple l its.toArray from BQ) λh' a1 a2 Bi Hw J8 OH AK=>?_;have BU:Inv X pins σ H1 { s1 with heap:=h' }:=Ab.kept (t':=s1.toks) AK;refine wpAny_pyIter_zip a1 ?_;refine⟨s1.heap.objs.size+4,[s1.heap.objs.size+4,s1.heap.objs.size+2,s1.heap.objs.size+3,s1.heap.objs.size,s1.heap.objs.size+1],_,_,H1,rfl,BU,abT x t l _ _ _ _ _ (aeK s1.heap.objs.size),⟨a1,a2,⟨_,_,Bi⟩,Hw,J8⟩,λb A1=>?_,q⟩;have A1:s1.heap.objs.size<=b:=by
  have A1:b=s1.heap.objs.size+4\/b=s1.heap.objs.size+2\/b=s1.heap.objs.size+3\/b=s1.heap.objs.size\/b=s1.heap.objs.size+1:=by simpa using A1
  rcases A1 with q|q|q|q|q
  .rw[q];exact Pt _ _
  .rw[q];exact Pt _ _
  .rw[q];exact Pt _ _
  .rw[q];exact C1 _
  .rw[q];exact Pt _ _
 exact Ab.Nm A1 (Ab.Ax.fresh A1)
end
end B8
namespace Kw
open PySem PySem.SetTable
theorem ci(xs:Array Nat)(j:Nat)(hs:xs.toList.Pairwise (· <·)):∀fuel lo A7,A7<=lo+fuel->lo<=A7->A7<=xs.size->(∀k,k<lo->xs.getD k j<j)->(∀k,A7<=k->k<xs.size->j<=xs.getD k j)->
  below.go xs j fuel lo A7<=xs.size/\(∀k,k<below.go xs j fuel lo A7->xs.getD k j<j)/\(∀k,below.go xs j fuel lo A7<=k->k<xs.size->j<=xs.getD k j)
 |0,lo,A7,h1,h2,B2,Ca,FQ=>by
  have e:lo=A7:=by lia
  subst e;exact⟨B2,Ca,FQ⟩
 |fuel+1,lo,A7,h1,h2,B2,Ca,FQ=>by
  have mono:∀a b,a<=b->b<xs.size->xs.getD a j<=xs.getD b j:=by
   intro a b No A1;rcases T5 No with rfl|No
   .exact C1 _
   have:=List.pairwise_iff_getElem.mp hs a b (by simp;lia) (by simpa using A1) No;simp only[Array.getElem_toList]at this;rw[Pq,Pq,Kn (by lia),Kn A1];exact Q2 this
  unfold below.go;by_cases h:lo<A7
  .rw[if_pos h];dsimp only;by_cases q:xs.getD ((lo+A7)/2) j<j
   .rw[if_pos q];refine ci xs j hs fuel _ A7 (by lia) (by lia) B2 (λk AK=>?_) FQ;exact Nat.lt_of_le_of_lt (mono k ((lo+A7)/2) (by lia) (by lia)) q
   .rw[if_neg q];refine ci xs j hs fuel lo _ (by lia) (by lia) (by lia) Ca λk AK JH=>?_;exact I8 (Nat.not_lt.mp q) (mono _ k AK JH)
  .rw[if_neg h];have e:lo=A7:=by lia
   subst e;exact⟨B2,Ca,FQ⟩
def fK{xs:Array Nat}(hs:xs.toList.Pairwise (· <·))(j:Nat):below xs j<=xs.size/\(∀y∈xs.toList.take (below xs j),y<j)/\(∀y∈xs.toList.drop (below xs j),j<=y):=by
 obtain⟨a,b,c⟩:=ci xs j hs xs.size 0 xs.size (by lia) (by lia) (C1 _) (λk AK=>absurd AK (Nat.not_lt_zero _)) (λk h1 h2=>absurd h2 (by lia));refine⟨a,λy AN=>?_,λy AN=>?_⟩
 .obtain⟨k,AK,rfl⟩:=Pv AN;have MD:k<below xs j/\k<xs.size:=by simpa[JS,Nat.lt_min]using AK
  have:=b k MD.1;rw[Pq,Kn MD.2]at this;simpa using this
 .obtain⟨k,AK,rfl⟩:=Pv AN;have MD:below xs j+k<xs.size:=by simp at AK;lia
  have:=c (below xs j+k) (Pt _ _) MD;rw[Pq,Kn MD]at this;simpa using this
def YH{α:Type}(xs:Array α)(p:Nat)(x:α):(insertAt xs p x).toList=xs.toList.take p++x::xs.toList.drop p:=by unfold insertAt;simp[Array.toList_extract,List.extract_eq_take_drop];exact List.take_of_length_le (by simp)
structure Tab(t:FF)(n:Nat):Prop where
 Th:t.dummies= #[]
 Mw:t.place.size=n
 S_:t.place.toList.Pairwise (· <·)
 le:∀j∈t.place.toList,j<=t.mask
def slot_of{t:FF}{n:Nat}(T:Tab t n)(j:Nat):(∃i,t.slot j=.live i/\t.place.toList[i]?=some j)\/(t.slot j=.empty/\j∉t.place.toList):=by
 obtain⟨a,b,c⟩:=fK T.S_ j;unfold slot;dsimp only;by_cases h:t.place[below t.place j]?=some j
 .left
  refine⟨below t.place j,?_,by simpa using h⟩;rw[h];simp
 .right
  constructor
  .have:(t.place[below t.place j]?==some j)=false:=by simpa using h
   rw[this,T.Th];simp[has]
  .intro m;have Cb:=m;rw[<-RQ (below t.place j) t.place.toList]at Cb;rcases List.mem_append.mp Cb with Cb|Cb
   .exact absurd (b j Cb) (Iw _)
   .cases hd:t.place.toList.drop (below t.place j)with
    |nil=>rw[hd]at Cb;cases Cb
    |cons y r=>
     have AN:t.place[below t.place j]?=some y:=by
      have:(t.place.toList.drop (below t.place j))[0]?=some y:=by rw[hd];rfl
      rw[be]at this;simpa using this
     have Ao:=T.S_;rw[<-RQ (below t.place j) t.place.toList,hd]at Ao;have Ao:=(List.pairwise_append.mp Ao).2.1;rw[hd]at Cb;rcases List.mem_cons.mp Cb with rfl|Cb
     .exact h AN
     .have h1:=(List.pairwise_cons.mp Ao).1 j Cb;have h2:=c y (by rw[hd];simp);lia
def mM{t:FF}{n:Nat}(T:Tab t n){j:Nat}(m:j∈t.place.toList):∃i,t.slot j=.live i/\t.place.toList[i]?=some j:=by
 rcases slot_of T j with h|h
 .exact h
 .exact absurd m h.2
def aao{t:FF}{n:Nat}(T:Tab t n){j:Nat}(m:j∉t.place.toList):t.slot j=.empty:=by
 rcases slot_of T j with⟨i,h,e⟩|h
 .exact absurd (Hn e) m
 .exact h.1
def zM{t:FF}{n:Nat}(T:Tab t n){j:Nat}(m:j∉t.place.toList)(Af:j<=t.mask):∃p,(t.put j).2=p/\p<=n/\Tab (t.put j).1 (n+1)/\(t.put j).1.place.toList=t.place.toList.take p++j::t.place.toList.drop p/\(t.put j).1={ t with place:=(t.put j).1.place }:=by
 obtain⟨a,b,c⟩:=fK T.S_ j;have e:(t.put j).1.place.toList=t.place.toList.take (below t.place j)++j::t.place.toList.drop (below t.place j):=by unfold put;exact YH _ _ _
 have CK:(t.put j).1.dummies= #[]:=by unfold put;simp[has,T.Th]
 have em:(t.put j).1.mask=t.mask:=rfl;refine⟨below t.place j,rfl,T.Mw▸a,⟨CK,?_,?_,?_⟩,e,?_⟩
 .have:(t.put j).1.place.toList.length=n+1:=by
    rw[e,EP,D7,JS,W5];have:=T.Mw;simp only[Oj];lia
  simpa using this
 .rw[e];have Ao:=T.S_;rw[<-RQ (below t.place j) t.place.toList]at Ao;obtain⟨Ak,B6,Ee⟩:=List.pairwise_append.mp Ao;refine List.pairwise_append.mpr ⟨Ak,List.pairwise_cons.mpr ⟨λy AN=>?_,B6⟩,λx AG y AN=>?_⟩
  .rcases T5 (c y AN)with q|q
   .exact absurd (q▸bq AN) m
   .exact q
  .rcases List.mem_cons.mp AN with rfl|AN
   .exact b x AG
   .exact Ee x AG y AN
 .intro y AN;rw[em];rw[e]at AN;rcases List.mem_append.mp AN with AN|AN
  .exact T.le y (pC AN)
  .rcases List.mem_cons.mp AN with rfl|AN
   .exact Af
   .exact T.le y (bq AN)
 .have Wt:(t.put j).1.dummies=t.dummies:=CK.trans T.Th.symm;show(t.put j).1=_;have:(t.put j).1={ t with place:=(t.put j).1.place,dummies:=(t.put j).1.dummies }:=rfl;rw[this,Wt]
noncomputable def L7(mask:Nat)(p:Probe):Probe:=
 if p.more>0 then{ p with j:=p.j+1,more:=p.more-1 }else
 { p with j:=(leap mask p.i p.perturb).1,more:=runEnd mask (leap mask p.i p.perturb).1-(leap mask p.i p.perturb).1,i:=(leap mask p.i p.perturb).1,perturb:=(leap mask p.i p.perturb).2 }
def ew(t:FF)(p:Probe):t.advance p=L7 t.mask p:=rfl
def kT(mask:Nat)(i q:Nat):Probe:={ j:=i,more:=runEnd mask i-i,i,perturb:=q,dummy:=none }
def C4(mask:Nat)(h:Int):Nat->Probe
 |0=>kT mask (bits h%(mask+1)) (bits h)
 |n+1=>L7 mask (C4 mask h n)
def B7(mask:Nat)(h:Int):Nat->Nat×Nat
 |0=>(bits h%(mask+1),bits h)
 |n+1=>leap mask (B7 mask h n).1 (B7 mask h n).2
def Ge(mask i:Nat):Nat:=runEnd mask i-i
def Dp(mask:Nat)(h:Int):Nat->Nat
 |0=>0
 |n+1=>Dp mask h n+Ge mask (B7 mask h n).1+1
def aaT(mask i:Nat):Ge mask i<=9:=by unfold Ge runEnd;split<;>lia
def aS(mask i:Nat):i<=runEnd mask i:=by unfold runEnd;split<;>lia
theorem mK(mask:Nat)(h:Int):∀n,Dp mask h n<=10*n
 |0=>C1 _
 |n+1=>by have:=mK mask h n;have:=aaT mask (B7 mask h n).1;unfold Dp;lia
def pi{mask i q r:Nat}(Ao:r<Ge mask i):L7 mask { j:=i+r,more:=Ge mask i-r,i:=i,perturb:=q,dummy:=none }={ j:=i+(r+1),more:=Ge mask i-(r+1),i:=i,perturb:=q,dummy:=none }:=by unfold L7;rw[if_pos (by show Ge mask i-r>0;lia)];simp only[Probe.mk.injEq];refine⟨by lia,by lia,trivial,trivial,trivial⟩
def pj{mask i q:Nat}:L7 mask { j:=i+Ge mask i,more:=Ge mask i-Ge mask i,i:=i,perturb:=q,dummy:=none }=kT mask (leap mask i q).1 (leap mask i q).2:=by unfold L7;rw[if_neg (by show¬(Ge mask i-Ge mask i>0);lia)];rfl
theorem SY(mask:Nat)(h:Int):∀L r,r<=Ge mask (B7 mask h L).1->C4 mask h (Dp mask h L+r)={ j:=(B7 mask h L).1+r,more:=Ge mask (B7 mask h L).1-r,i:=(B7 mask h L).1,perturb:=(B7 mask h L).2,dummy:=none }
 |0,0,_=>rfl
 |L,r+1,Ao=>by have:=SY mask h L r (by lia);show L7 mask (C4 mask h (Dp mask h L+r))=_;rw[this];exact pi (by lia)
 |L+1,0,_=>by have:=SY mask h L (Ge mask (B7 mask h L).1) (C1 _);show L7 mask (C4 mask h (Dp mask h L+Ge mask (B7 mask h L).1))=_;rw[this,pj];rfl
def r1(h:Int):bits h<2^64:=by unfold bits;have:=Int.emod_lt_of_pos h (b:=2^64) (by decide);have:=Int.emod_nonneg h (b:=2^64) (by decide);lia
theorem hr(mask:Nat)(h:Int):∀n,(B7 mask h n).2=bits h/32^n
 |0=>by simp[B7]
 |n+1=>by show(B7 mask h n).2/32=_;rw[hr mask h n,Nat.div_div_eq_div_mul,Nat.pow_succ]
def wo(mask:Nat)(h:Int)(n:Nat)(AW:13<=n):(B7 mask h n).2=0:=by
 rw[hr];apply Nat.div_eq_of_lt;have h1:=r1 h;have h2:32^13<=32^n:=Nat.pow_le_pow_right (by decide) AW;have B2:(2:Nat)^64<32^13:=by decide
 lia
def KX(mask:Nat):Nat->Nat->Nat
 |0,i=>i
 |n+1,i=>(KX mask n i*5+1)%(mask+1)
theorem hq(mask:Nat)(h:Int):∀m,(B7 mask h (13+m)).1=KX mask m (B7 mask h 13).1
 |0=>rfl
 |m+1=>by have e:(B7 mask h (13+(m+1))).2=0:=wo mask h _ (by lia);have AE:(B7 mask h (13+m)).2/32=0:=e;show((B7 mask h (13+m)).1*5+1+(B7 mask h (13+m)).2/32)%(mask+1)=_;rw[AE,hq mask h m];rfl
theorem YV(mask:Nat)(a:Nat):∀b i,KX mask (a+b) i=KX mask b (KX mask a i)
 |0,_=>rfl
 |b+1,i=>by show(KX mask (a+b) i*5+1)%(mask+1)=_;rw[YV mask a b i];rfl
def Yx(mask:Nat):Nat->Nat->List Nat
 |0,_=>[]
 |n+1,i=>i::Yx mask n ((i*5+1)%(mask+1))
theorem iJ(mask i:Nat):∀n,KX mask n ((i*5+1)%(mask+1))=KX mask (n+1) i
 |0=>rfl
 |n+1=>by show(KX mask n _*5+1)%_=_;rw[iJ mask i n];rfl
theorem ZO(mask:Nat):∀n i j,j∈Yx mask n i->∃m,m<n/\KX mask m i=j
 |0,_,_,h=>by cases h
 |n+1,i,j,h=>by
  rcases List.mem_cons.mp h with rfl|h
  .exact⟨0,by lia,rfl⟩
  .obtain⟨m,h1,h2⟩:=ZO mask n _ j h;exact⟨m+1,by lia,by rw[<-iJ];exact h2⟩
structure HP(mask:Nat):Prop where
 all:∀j,j<=mask->j∈Yx mask (mask+1) 0
 back:KX mask (mask+1) 0=0
def HP.reach{mask:Nat}(C:HP mask){i j:Nat}(A7:i<=mask)(Af:j<=mask):∃m,m<=mask/\KX mask m i=j:=by
 obtain⟨a,a1,a2⟩:=ZO _ _ _ _ (C.all i A7);obtain⟨b,D_,E9⟩:=ZO _ _ _ _ (C.all j Af);by_cases h:a<=b
 .refine⟨b-a,by lia,?_⟩;rw[<-a2,<-YV,show a+(b-a)=b by lia,E9]
 .refine⟨mask+1-a+b,by lia,?_⟩;rw[<-a2,<-YV,show a+(mask+1-a+b)=(mask+1)+b by lia,YV,C.back,E9]
def eL{mask:Nat}(h:(Cd (mask+1)).all (λj=>(Yx mask (mask+1) 0).contains j)=true)(b:KX mask (mask+1) 0=0):HP mask:=
 ⟨λj Af=>by have:=List.all_eq_true.mp h j (List.mem_range.mpr (by lia));exact List.contains_iff_mem.mp this,b⟩
def g_:HP 7:=eL (by decide+kernel) (by decide+kernel)
def gZ:HP 31:=eL (by decide+kernel) (by decide+kernel)
def gY:HP 127:=eL (by decide+kernel) (by decide+kernel)
def Zl(mask:Nat)(h:Int):∀n,(B7 mask h n).1<=mask
 |0=>c9 (TJ _ (by lia))
 |n+1=>c9 (TJ _ (by lia))
def HP.leap{mask:Nat}(C:HP mask)(h:Int){j:Nat}(Af:j<=mask):∃L,L<mask+15/\(B7 mask h L).1=j:=by obtain⟨m,h1,h2⟩:=C.reach (Zl mask h 13) Af;exact⟨13+m,by lia,by rw[hq];exact h2⟩
def HP.cover{mask:Nat}(C:HP mask)(h:Int){j:Nat}(Af:j<=mask):∃n,n<10*turns mask/\(C4 mask h n).j=j:=by
 obtain⟨L,h1,h2⟩:=C.leap h Af;refine⟨Dp mask h L,?_,?_⟩
 .have:=mK mask h L;unfold turns;lia
 .have:=SY mask h L 0 (Gi _);simp only[W7]at this;rw[this];exact h2
def tx{P:List Nat}{mask:Nat}(hs:P.Pairwise (· <·))(AW:P.length<=mask):∃j,j<=mask/\j∉P:=by
 apply O_;intro no;have all:∀j,j<=mask->j∈P:=λj Af=>O_ λz=>no ⟨j,Af,z⟩;have C3:(Cd (mask+1)).Nodup:=List.nodup_range;have sub:∀x∈Cd (mask+1),x∈P:=λx AG=>all x (by have:=List.mem_range.mp AG;lia);have key:∀(l:List Nat),l.Nodup->∀(P:List Nat),(∀x∈l,x∈P)->l.length<=P.length:=by
  intro l;induction l with
  |nil=>intro _ P _;simp
  |cons a r Bk=>intro C3 P sub;obtain⟨CP,Cw⟩:=List.nodup_cons.mp C3;have AB:=sub a (by simp);have:=Bk Cw (P.erase a) (λx AG=>(Vd (by intro e;subst e;exact CP AG)).mpr (sub x (by simp[AG])));rw[Vj AB]at this;have:0<P.length:=T0 AB;simp;lia
 have:=key _ C3 P sub;simp at this;lia
def least(p:Nat->Prop):(∃n,p n)->∃n,p n/\∀m,m<n->¬p m:=by
 rintro⟨n,h⟩;induction n using Nat.strongRecOn with
 |_ n Bk=>
  by_cases q:∃m,m<n/\p m
  .obtain⟨m,GY,HA⟩:=q;exact Bk m GY HA
  .exact⟨n,h,λm hm AT=>q ⟨m,hm,AT⟩⟩
def HP.first{mask:Nat}(C:HP mask){P:List Nat}(hs:P.Pairwise (· <·))(AW:P.length<=mask)(h:Int):∃N,N<10*turns mask/\(C4 mask h N).j∉P/\∀m,m<N->(C4 mask h m).j∈P:=by obtain⟨j,JI,Jd⟩:=tx hs AW;obtain⟨n,CP,Cw⟩:=C.cover h JI;obtain⟨N,Wh,U7⟩:=least (λn=>(C4 mask h n).j∉P) ⟨n,by rw[Cw];exact Jd⟩;refine⟨N,?_,Wh,λm hm=>O_ (U7 m hm)⟩;have:¬n<N:=λz=>U7 n z (by rw[Cw];exact Jd);lia
theorem hp(mask:Nat)(h:Int):∀n,(C4 mask h n).dummy=none
 |0=>rfl
 |n+1=>by
  show(L7 mask (C4 mask h n)).dummy=none;unfold L7
  split<;>exact hp mask h n
def aT{mask i:Nat}(A7:i<=mask):runEnd mask i<=mask:=by unfold runEnd;split<;>lia
structure fV(mask:Nat)(p:Probe):Prop where
 i:p.i<=mask
 j:p.j+p.more<=mask
theorem kZ(mask:Nat)(h:Int):∀n,fV mask (C4 mask h n)
 |0=>by have:=Zl mask h 0;have h2:=aT this;have B2:=aS mask (B7 mask h 0).1;exact⟨this,by show(B7 mask h 0).1+(runEnd mask (B7 mask h 0).1-(B7 mask h 0).1)<=mask;lia⟩
 |n+1=>by
  obtain⟨a,b⟩:=kZ mask h n;show fV mask (L7 mask (C4 mask h n));unfold L7
  split
  .rename_i q;refine⟨a,?_⟩;show(C4 mask h n).j+1+((C4 mask h n).more-1)<=mask;lia
  .have h1:(cS mask (C4 mask h n).i (C4 mask h n).perturb).1<=mask:=c9 (TJ _ (by lia));have h2:=aT h1;have B2:=aS mask (cS mask (C4 mask h n).i (C4 mask h n).perturb).1;refine⟨h1,?_⟩;show(cS mask (C4 mask h n).i (C4 mask h n).perturb).1+(runEnd mask _-_)<=mask;lia
def kY(mask:Nat)(h:Int)(n:Nat):(C4 mask h n).j<=mask:=by have:=(kZ mask h n).j;lia
section
variable{α:Type}
def Ha(t:FF)(es:Array (Int×α))(j:Nat)(e:Int×α):Prop:=∃i:Nat,t.place.toList[i]?=some j/\es.toList[i]?=some e
structure GR(t:FF)(es:Array (Int×α)):Prop where
 tab:Tab t es.size
 gX:HP t.mask
 room:es.size<=t.mask
 find:∀j e,Ha t es j e->∃n,(C4 t.mask e.1 n).j=j/\∀m,m<n->(C4 t.mask e.1 m).j∈t.place.toList
def GR.len{t:FF}{es:Array (Int×α)}(I:GR t es):t.place.toList.length=es.size:=by simpa using I.tab.Mw
theorem GR.first{t:FF}{es:Array (Int×α)}(I:GR t es)(h:Int):∃N,N<10*turns t.mask/\(C4 t.mask h N).j∉t.place.toList/\∀m,m<N->(C4 t.mask h m).j∈t.place.toList:=
 I.gX.first I.tab.S_ (by rw[I.len];exact I.room) h
def GR.ent{t:FF}{es:Array (Int×α)}(I:GR t es){j i:Nat}(e:t.place.toList[i]?=some j):∃x,es.toList[i]?=some x:=by have:i<t.place.toList.length:=(List.getElem?_eq_some_iff.mp e).1;rw[I.len]at this;exact⟨_,CF (by simpa using this)⟩
def iy{t:FF}{n:Nat}(T:Tab t n){i k j:Nat}(a:t.place.toList[i]?=some j)(b:t.place.toList[k]?=some j):i=k:=by
 obtain⟨a1,a2⟩:=List.getElem?_eq_some_iff.mp a;obtain⟨D_,E9⟩:=List.getElem?_eq_some_iff.mp b;have r:=List.pairwise_iff_getElem.mp T.S_;rcases RW i k with h|h|h
 .have:=r i k a1 D_ h;lia
 .exact h
 .have:=r k i D_ a1 h;lia
def Ha.inj{t:FF}{es:Array (Int×α)}{n:Nat}(T:Tab t n){j:Nat}{e BC:Int×α}(a:Ha t es j e)(b:Ha t es j BC):e=BC:=by obtain⟨i,a1,a2⟩:=a;obtain⟨k,D_,E9⟩:=b;have:=iy T a1 D_;subst this;rw[a2]at E9;exact Fd E9
theorem jP{t:FF}{es:Array (Int×α)}(I:GR t es){f:Nat->Int}(hf:∀(i:Nat) e,es.toList[i]?=some e->f i=e.1)(h:Int){N:Nat}(h1:(C4 t.mask h N).j∉t.place.toList)(h2:∀m,m<N->(C4 t.mask h m).j∈t.place.toList) :
  ∀fuel n,n<=N->N-n<fuel->
  (probe.go t f h fuel (C4 t.mask h n)=some (.empty (C4 t.mask h N).j none)/\∀m,n<=m->m<N->∀e,Ha t es (C4 t.mask h m).j e->e.1≠h)\/
  (∃m i e,n<=m/\m<N/\t.place.toList[i]?=some (C4 t.mask h m).j/\es.toList[i]?=some e/\e.1=h/\probe.go t f h fuel (C4 t.mask h n)=some (.candidate (C4 t.mask h m).j i (C4 t.mask h (m+1)))/\∀Cb,n<=Cb->Cb<m->∀e,Ha t es (C4 t.mask h Cb).j e->e.1≠h)
 |0,n,_,aeZ=>by lia
 |fuel+1,n,AW,hg=>by
  unfold probe.go;by_cases q:n=N
  .subst q
   left
   rw[aao I.tab h1];dsimp only;rw[hp];exact⟨rfl,λm a b=>by lia⟩
  .obtain⟨i,s1,s2⟩:=mM I.tab (h2 n (by lia));obtain⟨x,AG⟩:=I.ent s2;rw[s1];dsimp only;by_cases w:x.1=h
   .right
    refine⟨n,i,x,C1 _,by lia,s2,AG,w,?_,λCb a b=>by lia⟩;rw[if_pos (by rw[hf i x AG,w];simp),ew];rfl
   .rw[if_neg (by rw[hf i x AG];simpa using w),ew];have no:∀e,Ha t es (C4 t.mask h n).j e->e.1≠h:=λe he=>by
     rw[Ha.inj I.tab he ⟨i,s2,AG⟩];exact w
    rcases jP I hf h h1 h2 fuel (n+1) (by lia) (by lia)with⟨a,b⟩|⟨m,Uu,e,a1,a2,Bi,Hw,J8,OH,cm⟩
    .refine .inl ⟨a,λm c d=>?_⟩;rcases T5 c with rfl|c
     .exact no
     .exact b m c d
    .refine .inr ⟨m,Uu,e,by lia,a2,Bi,Hw,J8,OH,λCb c d=>?_⟩;rcases T5 c with rfl|c
     .exact no
     .exact cm Cb c d
def r_{t t':FF}{es:Array (Int×α)}(AF:t.place.toList.length=es.size){j p:Nat}{e:Int×α}(AT:p<=es.size)(DM:t'.place.toList=t.place.toList.take p++j::t.place.toList.drop p){V3:Nat}{BC:Int×α}(h:Ha t' (insertAt es p e) V3 BC):(V3=j/\BC=e)\/Ha t es V3 BC:=by
 obtain⟨i,a,b⟩:=h;rw[DM]at a;rw[YH]at b;have CC:(t.place.toList.take p).length=p:=by rw[JS,AF];lia
 have C8:(es.toList.take p).length=p:=by rw[JS,Oj];lia
 rcases RW i p with q|q|q
 .right
  rw[EZ (by lia),ba q]at a;rw[EZ (by lia),ba q]at b;exact⟨i,a,b⟩
 .left
  subst q;rw[H2 (by lia),CC,cK]at a;rw[H2 (by lia),C8,cK]at b;simp at a b;exact⟨a.symm,b.symm⟩
 .right
  obtain⟨k,rfl⟩:∃k,i=p+1+k:=⟨i-p-1,by lia⟩;rw[H2 (by lia),CC,show p+1+k-p=k+1 by lia,Dq,be]at a;rw[H2 (by lia),C8,show p+1+k-p=k+1 by lia,Dq,be]at b;exact⟨p+k,a,b⟩
theorem GR.put{t:FF}{es:Array (Int×α)}(I:GR t es){h:Int}{x:α}{N:Nat}(h1:(C4 t.mask h N).j∉t.place.toList)(h2:∀m,m<N->(C4 t.mask h m).j∈t.place.toList)(Ao:es.size+1<=t.mask) :
  GR (t.put (C4 t.mask h N).j).1 (insertAt es (t.put (C4 t.mask h N).j).2 (h,x))/\(t.put (C4 t.mask h N).j).2<=es.size/\(insertAt es (t.put (C4 t.mask h N).j).2 (h,x)).size=es.size+1:=by
 obtain⟨p,EW,CL,dU,DM,_⟩:=zM I.tab h1 (kY _ _ _);have hsz:(insertAt es p (h,x)).size=es.size+1:=by
  have:(insertAt es p (h,x)).toList.length=es.size+1:=by rw[YH,EP,D7,JS,W5,Oj];lia
  simpa using this
 rw[EW];have Mf:∀y∈t.place.toList,y∈(t.put (C4 t.mask h N).j).1.place.toList:=λy AN=>by
  rw[DM];rw[<-RQ p t.place.toList]at AN;rcases List.mem_append.mp AN with AN|AN
  .exact Hp _ AN
  .exact HT _ (FD _ AN)
 refine⟨⟨by rw[hsz];exact dU,I.gX,by rw[hsz];exact Ao,λj e he=>?_⟩,CL,hsz⟩;rcases r_ I.len CL DM he with⟨rfl,rfl⟩|he
 .exact⟨N,rfl,λm hm=>Mf _ (h2 m hm)⟩
 .obtain⟨n,CP,Cw⟩:=I.find j e he;exact⟨n,CP,λm hm=>Mf _ (Cw m hm)⟩
end
theorem mJ(mask:Nat)(h:Int):∀L m,m<Dp mask h L->∃GF r,GF<L/\r<=Ge mask (B7 mask h GF).1/\m=Dp mask h GF+r
 |0,m,hm=>by simp[Dp]at hm
 |L+1,m,hm=>by
  by_cases q:m<Dp mask h L
  .obtain⟨GF,r,a,b,c⟩:=mJ mask h L m q;exact⟨GF,r,by lia,b,c⟩
  .unfold Dp at hm;exact⟨L,m-Dp mask h L,by lia,by lia,by lia⟩
structure Own(M:Nat)(owner:Array (Option Nat))(a:List Nat):Prop where
 Mw:owner.size=M+1
 C3:a.Nodup
 le:∀j∈a,j<=M
 of:∀j k:Nat,owner[j]?=some (some k)↔a[k]?=some j
def Own.free{M:Nat}{owner:Array (Option Nat)}{a:List Nat}(O:Own M owner a){j:Nat}(Af:j<=M):(owner.getD j (some 0)).isNone=true↔j∉a:=by
 have hs:j<owner.size:=by have:=O.Mw;lia
 rw[Pq,Kn hs];constructor
 .intro h m;obtain⟨k,AK,rfl⟩:=Pv m;have:=(O.of _ k).mpr (CF AK);rw[Kn hs]at this;simp only[Oe]at h;rw[Fd this]at h;cases h
 .intro h;simp only[Oe];cases e:owner[j]with
  |none=>rfl
  |some k=>exfalso;have:=(O.of j k).mp (by rw[Kn hs,e]);exact h (Hn this)
theorem gG{M:Nat}{owner:Array (Option Nat)}{a:List Nat}(O:Own M owner a)(h:Int):∀fuel L,(∃KB,L<=KB/\KB<L+fuel/\(B7 M h KB).1∉a)->
  ∃GF k,layClean.free M owner fuel (B7 M h L).1 (B7 M h L).2=some ((B7 M h GF).1+k)/\k<=Ge M (B7 M h GF).1/\(B7 M h GF).1+k∉a/\L<=GF/\(∀N1,L<=N1->N1<GF->∀r,r<=Ge M (B7 M h N1).1->(B7 M h N1).1+r∈a)/\∀r,r<k->(B7 M h GF).1+r∈a
 |0,L,⟨KB,h1,h2,_⟩=>by lia
 |fuel+1,L,⟨KB,h1,h2,B2⟩=>by
  unfold layClean.free;have hle:=Zl M h L;have aef:=aT hle;have ae_:=aS M (B7 M h L).1;cases hf:(Cd (runEnd M (B7 M h L).1+1-(B7 M h L).1)).find? λk=>(owner.getD ((B7 M h L).1+k) (some 0)).isNone with
  |some k=>
   dsimp only;obtain⟨q1,as,bs,q2,EI⟩:=List.find?_eq_some_iff_append.mp hf;have AK:k∈Cd (runEnd M (B7 M h L).1+1-(B7 M h L).1):=by rw[q2];simp
   have AK:=List.mem_range.mp AK;refine⟨L,k,rfl,by unfold Ge;lia,(O.free (by lia)).mp q1,C1 _,λN1 c d=>by lia,λr Ao=>?_⟩;have:r∈as:=by
    have D1:as.length=k:=by
     have:=congrArg (·[as.length]?) q2;simp only[H2 (C1 _),cK,DJ]at this;have l:as.length<runEnd M (B7 M h L).1+1-(B7 M h L).1:=by have:=congrArg RZ q2;simp at this;lia
     rw[Pw l]at this;exact Fd this
    have:=congrArg (·[r]?) q2;rw[EZ (by lia),Pw (by lia)]at this;exact Hn this.symm
   have no:=EI r this;apply O_;intro z;rw[(O.free (by lia)).mpr z]at no;simp at no
  |none=>
   dsimp only;have all:∀r,r<=Ge M (B7 M h L).1->(B7 M h L).1+r∈a:=λr Ao=>by have:=List.find?_eq_none.mp hf r (List.mem_range.mpr (by unfold Ge at Ao;lia));apply O_;intro z;exact this ((O.free (by unfold Ge at Ao;lia)).mpr z)
   have ne:L≠KB:=by rintro rfl;exact B2 (by simpa using all 0 (Gi _))
   obtain⟨GF,k,a1,a2,Bi,Hw,J8,OH⟩:=gG O h fuel (L+1) ⟨KB,by lia,by lia,B2⟩;refine⟨GF,k,a1,a2,Bi,by lia,λN1 c d=>?_,OH⟩;rcases T5 c with rfl|c
   .exact all
   .exact J8 N1 c d
def tz{M:Nat}(C:HP M){owner:Array (Option Nat)}{a:List Nat}(O:Own M owner a)(AF:a.length<=M)(h:Int):∃N,layClean.free M owner (turns M) (bits h%(M+1)) (bits h)=some (C4 M h N).j/\(C4 M h N).j∉a/\∀m,m<N->(C4 M h m).j∈a:=by
 have:∃j,j<=M/\j∉a:=by
  apply O_;intro no;have all:∀j,j<=M->j∈a:=λj Af=>O_ λz=>no ⟨j,Af,z⟩;have key:∀(l:List Nat),l.Nodup->∀(P:List Nat),(∀x∈l,x∈P)->l.length<=P.length:=by
   intro l;induction l with
   |nil=>intro _ P _;simp
   |cons a r Bk=>intro C3 P sub;obtain⟨CP,Cw⟩:=List.nodup_cons.mp C3;have AB:=sub a (by simp);have:=Bk Cw (P.erase a) (λx AG=>(Vd (by intro e;subst e;exact CP AG)).mpr (sub x (by simp[AG])));rw[Vj AB]at this;have:0<P.length:=T0 AB;simp;lia
  have:=key (Cd (M+1)) List.nodup_range a (λx AG=>all x (by have:=List.mem_range.mp AG;lia));simp at this;lia
 obtain⟨j,JI,Jd⟩:=this;obtain⟨KB,CC,C8⟩:=C.leap h JI;obtain⟨GF,k,a1,a2,Bi,Hw,J8,OH⟩:=gG O h (turns M) 0 ⟨KB,Gi _,by unfold turns;lia,by rw[C8];exact Jd⟩;have e:=SY M h GF k a2;refine⟨Dp M h GF+k,by rw[e];exact a1,by rw[e];exact Bi,λm hm=>?_⟩;by_cases q:m<Dp M h GF
 .obtain⟨N1,r,D_,E9,P3⟩:=mJ M h GF m q;rw[P3,SY M h N1 r E9];exact J8 N1 (Gi _) D_ r E9
 .obtain⟨r,rfl⟩:∃r,m=Dp M h GF+r:=⟨m-Dp M h GF,by lia⟩;rw[SY M h GF r (by lia)];exact OH r (by lia)
noncomputable def ZF(M:Nat)(acc:Option (Array (Option Nat)×Nat))(h:Int):Option (Array (Option Nat)×Nat):=do
 let(owner,k) <-acc
 let j <-layClean.free M owner (turns M) (bits h%(M+1)) (bits h)
 pure (owner.setIfInBounds j (some k),k+1)
def w_(M:Nat)(hs:Array Int):layClean M hs=(hs.toList.foldl (ZF M) (some (Array.replicate (M+1) none,0))).map (·.1):=by unfold layClean;rw[<-Array.foldl_toList];rfl
structure Laid(M:Nat)(hs:List Int)(a:List Nat):Prop where
 len:a.length=hs.length
 find:∀(k:Nat) j h,a[k]?=some j->hs[k]?=some h->∃n,(C4 M h n).j=j/\∀m,m<n->(C4 M h m).j∈a
def Own.add{M:Nat}{owner:Array (Option Nat)}{a:List Nat}(O:Own M owner a){j:Nat}(Af:j<=M)(AW:j∉a):Own M (owner.setIfInBounds j (some a.length)) (a++[j]):=by
 have hs:j<owner.size:=by have:=O.Mw;lia
 refine⟨by simp[O.Mw],?_,?_,λi k=>?_⟩
 .refine List.nodup_append.mpr ⟨O.C3,by simp,λx AG y AN=>?_⟩;simp at AN;subst AN;intro e;subst e;exact AW AG
 .intro i A7;rcases List.mem_append.mp A7 with A7|A7
  .exact O.le i A7
  .simp at A7;lia
 .rw[Array.getElem?_setIfInBounds];by_cases q:j=i
  .subst q;rw[if_pos rfl,if_pos hs];constructor
   .intro e;have e:=Fd (Fd e);subst e;rw[H2 (C1 _)];simp
   .intro e;rcases RW k a.length with w|w|w
    .rw[EZ w]at e;exact absurd (Hn e) AW
    .rw[w]
    .rw[HF (by simp;lia)]at e;cases e
  .rw[if_neg q,O.of i k];rcases RW k a.length with w|w|w
   .rw[EZ w]
   .subst w;rw[H2 (C1 _),HF (C1 _)];simp;exact q
   .rw[HF (by lia),HF (by simp;lia)]
theorem fi{M:Nat}(C:HP M):∀(hs done:List Int)(owner:Array (Option Nat))(a:List Nat),Own M owner a->Laid M done a->done.length+hs.length<=M->
  ∃Yy GS,hs.foldl (ZF M) (some (owner,a.length))=some (Yy,GS.length)/\Own M Yy GS/\Laid M (done++hs) GS
 |[],done,owner,a,O,L,_=>⟨owner,a,rfl,O,by simpa using L⟩
 |h::hs,done,owner,a,O,L,AF=>by
  simp only[D7]at AF;obtain⟨N,f1,f2,F8⟩:=tz C O (by rw[L.len];lia) h;have U8:=O.add (kY M h N) f2;have GF:Laid M (done++[h]) (a++[(C4 M h N).j]):=by
   refine⟨by simp[L.len],λk j g h1 h2=>?_⟩;rcases RW k a.length with w|w|w
   .rw[EZ w]at h1;rw[EZ (by rw[<-L.len];exact w)]at h2;obtain⟨n,CP,Cw⟩:=L.find k j g h1 h2;exact⟨n,CP,λm hm=>Hp _ (Cw m hm)⟩
   .subst w;rw[H2 (C1 _)]at h1;rw[L.len,H2 (C1 _)]at h2;simp at h1 h2;subst h1;subst h2;exact⟨N,rfl,λm hm=>Hp _ (F8 m hm)⟩
   .rw[HF (by simp;lia)]at h1;cases h1
  have Df:ZF M (some (owner,a.length)) h=some (owner.setIfInBounds (C4 M h N).j (some a.length),(a++[(C4 M h N).j]).length):=by unfold ZF;simp only[Option.bind_eq_bind,bz,f1];simp
  obtain⟨Yy,GS,Ak,B6,Ee⟩:=fi C hs (done++[h]) _ _ U8 GF (by simp;lia);refine⟨Yy,GS,?_,B6,by simpa using Ee⟩;rw[Vx,Df];exact Ak
def wa{M:Nat}(C:HP M){hs:Array Int}(AF:hs.size<=M):∃owner a,layClean M hs=some owner/\Own M owner a/\Laid M hs.toList a:=by
 have O:Own M (Array.replicate (M+1) none) []:=⟨by simp,by simp,by simp,λj k=>by
  rw[Array.getElem?_replicate]
  split<;>simp⟩
 obtain⟨owner,a,Ak,B6,Ee⟩:=fi C hs.toList [] _ [] O ⟨rfl,by simp⟩ (by simpa using AF);refine⟨owner,a,?_,B6,by simpa using Ee⟩;rw[w_];have:(RZ ([]:List Nat))=0:=rfl;rw[this]at Ak;rw[Ak];rfl
def jf{l P:List Nat}(C3:l.Nodup)(sub:∀x∈l,x∈P):l.length<=P.length:=by
 induction l generalizing P with
 |nil=>simp
 |cons a r Bk=>obtain⟨CP,Cw⟩:=List.nodup_cons.mp C3;have AB:=sub a (by simp);have:=Bk Cw (P:=P.erase a) (λx AG=>(Vd (by intro e;subst e;exact CP AG)).mpr (sub x (by simp[AG])));rw[Vj AB]at this;have:0<P.length:=T0 AB;simp;lia
section
variable{α:Type}
theorem filterMap_get{es:List α}:∀{l:List Nat},(∀k∈l,k<es.length)->(l.filterMap (es[·]?)).length=l.length/\∀(i:Nat) e,(l.filterMap (es[·]?))[i]?=some e->∃k,l[i]?=some k/\es[k]?=some e
 |[],_=>⟨rfl,λi e h=>by simp at h⟩
 |k::l,AK=>by
  have tP:k<es.length:=AK k (by simp);have h0:es[k]?=some es[k]:=CF tP;obtain⟨a,b⟩:=filterMap_get (es:=es) (l:=l) λx AG=>AK x (by simp[AG]);rw[RR,h0];refine⟨by simp[a],λi e h=>?_⟩;cases i with
  |zero=>simp at h;exact⟨k,rfl,by rw[h0,h]⟩
  |succ i=>simpa using b i e (by simpa using h)
def xN{M:Nat}(C:HP M){es:Array (Int×α)}(AF:es.size<=M)(finger moves:Nat)(led plain:Bool) :
  ∃t' order,laid M finger moves led plain (es.map (·.1))=some (t',order)/\t'.mask=M/\t'.led=led/\t'.plain=plain/\t'.moves=moves/\t'.dummies= #[]/\
   (order.filterMap (es[·]?)).size=es.size/\GR t' (order.filterMap (es[·]?))/\∀e,e∈(order.filterMap (es[·]?)).toList↔e∈es.toList:=by
 obtain⟨owner,a,BR,O,L⟩:=wa C (hs:=es.map (·.1)) (by simpa using AF);have wl:a.length=es.size:=by rw[L.len];simp
 have yt:∀j,j<=M->∃x,owner[j]?=some x:=λj Af=>⟨_,Kn (by have:=O.Mw;lia)⟩;obtain⟨live,eW⟩:∃live,live=(Cd (M+1)).filterMap λj=>(owner.getD j none).map (j,·):=⟨_,rfl⟩;have mem:∀j k,(j,k)∈live↔a[k]?=some j:=by
  intro j k;rw[eW,List.mem_filterMap];constructor
  .rintro⟨i,A7,e⟩;obtain⟨x,AG⟩:=yt i (by have:=List.mem_range.mp A7;lia);rw[Pq,AG,Oe]at e;cases x with
   |none=>cases e
   |some y=>simp at e;obtain⟨rfl,rfl⟩:=e;exact(O.of _ _).mp AG
  .intro e;have Af:=O.le j (Hn e);refine⟨j,List.mem_range.mpr (by lia),?_⟩;rw[Pq,(O.of j k).mpr e];rfl
 have rise:(live.map (·.1)).Pairwise (· <·):=by
  rw[eW,T8];refine List.Pairwise.filterMap _ (R:=(· <·)) ?_ (by simpa using List.pairwise_lt_range);intro i Uu tN b A1 Fx Np;cases q:owner.getD i none with
  |none=>rw[q]at A1;simp at A1
  |some y=>
   cases Cc:owner.getD Uu none with
   |none=>rw[Cc]at Np;simp at Np
   |some SC=>rw[q]at A1;rw[Cc]at Np;simp at A1 Np;subst A1;subst Np;exact tN
 have yB:(live.map (·.1)).Nodup:=rise.imp (λh=>Ef h);have Im:live.length=es.size:=by
  apply Nat.le_antisymm
  .have:=jf yB (P:=a) (λx AG=>by
     obtain⟨p,EW,rfl⟩:=List.mem_map.mp AG;exact Hn ((mem p.1 p.2).mp EW))
   simp at this;lia
  .have:=jf O.C3 (P:=live.map (·.1)) (λx AG=>by
     obtain⟨k,AK,rfl⟩:=Pv AG;exact List.mem_map.mpr ⟨(a[k],k),(mem _ _).mpr (CF AK),rfl⟩)
   simp at this;lia
 have yZ:∀k∈live.map (·.2),k<es.toList.length:=λk AK=>by obtain⟨p,EW,rfl⟩:=List.mem_map.mp AK;have:=(List.getElem?_eq_some_iff.mp ((mem p.1 p.2).mp EW)).1;simp;lia
 have e1:((live.map (·.2)).toArray.filterMap (es[·]?)).toList=(live.map (·.2)).filterMap (es.toList[·]?):=by rw[Array.toList_filterMap];simp
 obtain⟨g1,g2⟩:=filterMap_get yZ;have hsz:((live.map (·.2)).toArray.filterMap (es[·]?)).size=es.size:=by
  have:((live.map (·.2)).toArray.filterMap (es[·]?)).toList.length=es.size:=by rw[e1,g1];simp[Im]
  simpa using this
 refine⟨_,_,by
  unfold laid;rw[BR];show some _=_;rw[<-eW],rfl,rfl,rfl,rfl,rfl,hsz,⟨⟨rfl,?_,?_,?_⟩,C,by rw[hsz];exact AF,?_⟩,λe=>?_⟩
 .rw[hsz];simp[Im]
 .simpa using rise
 .intro j Af;have Af:j∈live.map (·.1):=by simpa using Af
  obtain⟨p,EW,rfl⟩:=List.mem_map.mp Af;exact O.le _ (Hn ((mem p.1 p.2).mp EW))
 .rintro j e ⟨i,h1,h2⟩;have h1:(live.map (·.1))[i]?=some j:=by simpa using h1
  rw[e1]at h2;obtain⟨k,k1,k2⟩:=g2 i e h2;have AK:live[i]?=some (j,k):=by
   rw[Em]at h1 k1;cases q:live[i]? with
   |none=>rw[q]at h1;cases h1
   |some p=>rw[q]at h1 k1;simp at h1 k1;rw[<-h1,<-k1]
  have AK:=(mem j k).mp (Hn AK);obtain⟨n,CP,Cw⟩:=L.find k j e.1 AK (by simp at k2 |-;exact⟨_,k2⟩);refine⟨n,CP,λm hm=>?_⟩;have:=Cw m hm;obtain⟨k',MD,BC⟩:=Pv this;have:(C4 M e.1 m).j∈live.map (·.1):=List.mem_map.mpr ⟨((C4 M e.1 m).j,k'),(mem _ _).mpr (by rw[<-BC];exact CF MD),rfl⟩;simpa using this
 .rw[e1,List.mem_filterMap];constructor
  .rintro⟨k,_,q⟩;exact Hn q
  .intro q;obtain⟨k,AK,rfl⟩:=Pv q;refine⟨k,?_,CF AK⟩;have tQ:k<a.length:=by rw[wl];simpa using AK
   exact List.mem_map.mpr ⟨(a[k],k),(mem _ _).mpr (CF tQ),rfl⟩
end
section
variable{prog:Bh}{w:BP}{A:CW}{E:A3->AJ->Prop}{s:AJ}{K:Type}[DecidableEq K]{knd:KeyKind prog w K}
def jg{ks:List K}{a:A4}{n:Nat}{Q:Bool->AJ->Prop}(AK:GA knd s.heap ks a)(h:Q false s):AV (Al prog w) A (W2 (n+1) (.ref a)) Q E s:=by
 have DN:=AK.typeIs;obtain⟨o,items,m,ho,_,hd,A7⟩:=AK;unfold W2;refine AL (WA DN ?_);dsimp only;rw[if_pos (by rfl)];refine AL (Aw ?_);simp only[Ks,Gj,if_false];refine AL (K2 ho hd ?_);dsimp only;refine AL ?_;rw[<-RP];refine Od _ (λrest r s'=>r.1=none/\s'=s/\∀v∈rest,Om v=true) _ ?_ ?_ _ _ ⟨rfl,rfl,A7.byValue⟩
 .rintro v rest r s' ⟨Ao,rfl,al⟩;have e:W2 n v=pure false:=by
   have:=al v Fy;cases v<;>first|(simp[Om]at this;done)|(unfold W2;rfl)
  rw[e];refine AL (Aw ?_);simp only[Gj,if_false];exact Aw ⟨rfl,rfl,λu Av=>al u (FD _ Av)⟩
 .rintro⟨Ak,B6⟩ s' ⟨Ao,rfl,_⟩;simp only at Ao;subst Ao;exact Aw h
theorem rB{ks:List K}{a:A4}{Q:Bool->AJ->Prop}(AK:GA knd s.heap ks a)(h:∀b,Q b s):AV (Al prog w) A (NK 8 (.ref a)) Q E s:=by
 have DN:=AK.typeIs;obtain⟨o,items,m,ho,_,hd,A7⟩:=AK;unfold NK;refine AL (Of DN F.slot_tuple_hash.lookup ?_);dsimp only;refine AL (K2 ho hd ?_);simp only[Oe];refine AL ?_;rw[<-RP];refine Od _ (λrest r s'=>r.1=none/\s'=s/\∀v∈rest,Om v=true) _ ?_ ?_ _ _ ⟨rfl,rfl,A7.byValue⟩
 .rintro v rest r s' ⟨Ao,rfl,al⟩;have e:∃b,NK 7 v=pure b:=by
   have:=al v Fy;cases v<;>first|(simp[Om]at this;done)|(unfold NK;exact⟨_,rfl⟩)
  obtain⟨b,e⟩:=e;rw[e];refine AL (Aw ?_);cases b with
  |true=>exact Aw ⟨rfl,rfl,λu Av=>al u (FD _ Av)⟩
  |false=>exact Aw (Aw (h _))
 .rintro⟨Ak,B6⟩ s' ⟨Ao,rfl,_⟩;simp only at Ao;subst Ao;exact Aw (h _)
structure Tv(knd:KeyKind prog w K)(h:Ar)(es:List (Int×A3)):Prop where
 el:∀e∈es,∃ks b,e.2=.ref b/\GA knd h ks b/\e.1=ER knd ks
def W_(knd:KeyKind prog w K)(h:Ar)(es:List (Int×A3))(ks:List K):Prop:=∃e∈es,∃b,e.2=.ref b/\GA knd h ks b
def xo{ks:List K}{x:A4}(AG:GA knd s.heap ks x):∀(l:List A3),(∀y∈l,∃H9 b,y=.ref b/\GA knd s.heap H9 b)->∀{Q:Bool->AJ->Prop},Q false s->AV (Al prog w) A (searchCouldBeSeen (.ref x) l) Q E s:=by
 intro l AF Q h;unfold searchCouldBeSeen;refine AL ?_;refine Od _ (λrest r s'=>r.1=none/\s'=s/\∀y∈rest,∃H9 b,y=.ref b/\GA knd s.heap H9 b) _ ?_ ?_ _ _ ⟨rfl,rfl,AF⟩
 .rintro v rest r s' ⟨Ao,rfl,al⟩;obtain⟨H9,b,rfl,A1⟩:=al v Fy;have ey:=λu(Av:u∈rest)=>al u (FD _ Av);dsimp only;by_cases q:(x==b)=true
  .rw[if_pos (by simp[q])];exact Aw ⟨rfl,rfl,ey⟩
  .rw[if_neg (by simp[Om];simpa using q)];refine AL (wpAny_eqIsQuiet_tuple AG ?_);simp only[Ks,Gj,if_false];refine AL (wpAny_eqIsQuiet_tuple A1 ?_);simp only[Ks,Gj,if_false];refine AL (jg AG ?_);simp only[Gj,if_false];refine AL (jg A1 ?_);simp only[Gj,if_false];exact Aw ⟨rfl,rfl,ey⟩
 .rintro⟨Ak,B6⟩ s' ⟨Ao,rfl,_⟩;simp only at Ao;subst Ao;exact Aw h
end
section
variable{prog:Bh}{w:BP}{A:CW}{E:A3->AJ->Prop}{s:AJ}{K:Type}[DecidableEq K]{knd:KeyKind prog w K}
def Tv.at{h:Ar}{t:FF}{es:Array (Int×A3)}(X:Tv knd h es.toList){j:Nat}{e:Int×A3}(q:Ha t es j e):∃ks b,e.2=.ref b/\GA knd h ks b/\e.1=ER knd ks:=by obtain⟨i,_,q⟩:=q;exact X.el e (Hn q)
theorem GR.fits{t:FF}{es:Array (Int×A3)}(I:GR t es):t.fits es.size=true:=by unfold SetTable.fits SetTable.fill;rw[I.tab.Th,I.tab.Mw];have:=I.room;simp;lia
def GR.mem{t:FF}{es:Array (Int×A3)}(I:GR t es){e:Int×A3}(m:e∈es.toList):∃j,Ha t es j e:=by
 obtain⟨i,A7,rfl⟩:=Pv m;have:i<t.place.toList.length:=by rw[I.len];simpa using A7
 exact⟨_,i,CF this,CF A7⟩
theorem Ha.place{t:FF}{es:Array (Int×A3)}{j:Nat}{e:Int×A3}(q:Ha t es j e):j∈t.place.toList:=by obtain⟨i,q,_⟩:=q;exact Hn q
def GR.zD{t:FF}{es:Array (Int×A3)}(I:GR t es)(X:Tv knd s.heap es.toList){ks:List K}{N:Nat}(h1:(C4 t.mask (ER knd ks) N).j∉t.place.toList)(hh:W_ knd s.heap es.toList ks) :
  ∃m e b,m<N/\Ha t es (C4 t.mask (ER knd ks) m).j e/\e.1=ER knd ks/\e.2=.ref b/\GA knd s.heap ks b:=by
 obtain⟨e,SP,b,Au,HH⟩:=hh;obtain⟨j,q⟩:=I.mem SP;obtain⟨H9,Fx,A9,k1,AE⟩:=X.el e SP;rw[Au]at A9;cases A9;have:=HH.inj k1;subst this;obtain⟨n,CP,Cw⟩:=I.find j e q;rw[AE]at CP Cw;refine⟨n,e,b,?_,by rw[CP];exact q,AE,Au,HH⟩;rcases RW n N with z|z|z
 .exact z
 .subst z;exact absurd (by rw[CP];exact q.place) h1
 .exact absurd (Cw N z) h1
theorem mI{a x:A4}{o:Obj}{Ai:Nat}{t:FF}{es:Array (Int×A3)}{ks:List K}(Av:A.units<Cq)(ho:s.heap.get? a=some o)(hd:o.data=.set es Ai t)(I:GR t es)(X:Tv knd s.heap es.toList)(AG:GA knd s.heap ks x)(Xo:t.mask%2=1){N:Nat}(hN:N<10*turns t.mask)(h1:(C4 t.mask (ER knd ks) N).j∉t.place.toList)(h2:∀m,m<N->(C4 t.mask (ER knd ks) m).j∈t.place.toList){Q:SetFound->AJ->Prop}(yes:W_ knd s.heap es.toList ks->Q (.there none) s)(no:¬W_ knd s.heap es.toList ks->Q (.free (C4 t.mask (ER knd ks) N).j false) s) :
  ∀(fuel n:Nat)(st:Option Probe),n<=N->N-n<fuel->st.getD (t.probeStart (ER knd ks))=C4 t.mask (ER knd ks) n->
   (∀m,m<n->∀e,Ha t es (C4 t.mask (ER knd ks) m).j e->∀b,e.2=.ref b->¬GA knd s.heap ks b)->
   AV (Al prog w) A (setSearchFrom a (.ref x) (ER knd ks) true fuel st) Q E s
 |0,n,_,_,z,_,_=>by lia
 |fuel+1,n,st,AW,hf,HG,Md=>by
  unfold setSearchFrom;refine AL (T9 ho hd I.fits ?_);dsimp only;rw[if_neg (by unfold SetTable.gaveWay;simp[Xo])];rw[HG];unfold SetTable.probe;have G:=jP I (f:=λi=>(es[i]?.map (·.1)).getD 0) (λi e q=>by simp at q;simp[q]) (ER knd ks) h1 h2 (10*turns t.mask) n AW (by lia);generalize hz:probe.go t _ (ER knd ks) (10*turns t.mask) (C4 t.mask (ER knd ks) n)=z;rcases G with⟨g,g2⟩|⟨m,i,e,GY,HA,Sr,Ss,ww,g,g2⟩
  .have g:=hz.symm.trans g;subst g;dsimp only;refine Aw (no λhh=>?_);obtain⟨m,e,b,GY,q,q2,EI,JK⟩:=I.zD X h1 hh;by_cases z:m<n
   .exact Md m z e q b EI JK
   .exact g2 m (by lia) GY e q q2
  .have g:=hz.symm.trans g;subst g;dsimp only;have LB:Ha t es (C4 t.mask (ER knd ks) m).j e:=⟨i,Sr,Ss⟩;obtain⟨H9,b,Au,HH,_⟩:=X.at LB;have LC:es[i]?=some (e.1,.ref b):=by
    have:es[i]?=some e:=by simpa using Ss
    rw[this,<-Au]
   have C9:t.slot (C4 t.mask (ER knd ks) m).j=.live i:=by obtain⟨Uu,s1,s2⟩:=mM I.tab (Hn Sr);rw[s1,iy I.tab s2 Sr]
   have seen:∀y∈(Array.filter (λz:Int×A3=>z.1==ER knd ks) es).toList.map (·.2),∃H9 b,y=.ref b/\GA knd s.heap H9 b:=λy AN=>by
    obtain⟨e,he,rfl⟩:=List.mem_map.mp AN;have he:e∈es.toList:=by simp at he;simpa using he.1
    obtain⟨k2,E9,BR,C_,Ei⟩:=X.el e he;exact⟨k2,E9,BR,C_⟩
   cases AF:t.led
   all_goals first
    |rw[if_neg (show¬((!true)=true)by simp)]
    |(rw[if_pos (show(!false)=true from rfl)];refine AL (xo AG _ seen ?_);rw[if_neg (show¬(false=true)by simp)])
   all_goals
    rw[LC];dsimp only;refine AL (Iv (wpAny_eqBool_tuple Av HH AG ?_));refine AL (T9 ho hd I.fits ?_);dsimp only;by_cases q:H9=ks
    .subst q;rw[if_pos (by simp)];exact Aw (yes ⟨e,Hn Ss,b,Au,HH⟩)
    .rw[if_neg (by simp[q])];have rj:t.sameMemory t.moves t.mask=some true:=by unfold SetTable.sameMemory;simp
     rw[rj];dsimp only;rw[if_pos rfl,C9];dsimp only;rw[LC];dsimp only;refine AL (wpAny_isSame_ref_self ?_);rw[if_pos rfl];refine AL (Aw ?_);dsimp only;rw[if_neg (by simp[q])];refine mI Av ho hd I X AG Xo hN h1 h2 yes no fuel (m+1) _ (by lia) (by lia) rfl λCb hm BC he Fx Ws Z_=>?_;have key:∀e:Int×A3,Ha t es (C4 t.mask (ER knd ks) Cb).j e->e.2=.ref Fx->e.1=ER knd ks:=λe he Au=>by obtain⟨k2,E9,BR,C_,Ei⟩:=X.at he;rw[Au]at BR;cases BR;rw[Ei,C_.inj Z_]
     by_cases z:Cb<n
     .exact Md Cb z BC he Fx Ws Z_
     .by_cases F5:Cb<m
      .exact g2 Cb (by lia) F5 BC he (key BC he Ws)
      .have:Cb=m:=by lia
       subst this;have:=Ha.inj I.tab he LB;subst this;rw[Au]at Ws;cases Ws;exact q (HH.inj Z_)
end
section
variable{prog:Bh}{w:BP}{A:CW}{E:A3->AJ->Prop}{s:AJ}{K:Type}[DecidableEq K]{knd:KeyKind prog w K}
def Wj(mask n:Nat):Prop:=(mask=7/\n<5)\/(mask=31/\n<19)\/(mask=127/\n<77)
def qN{mask n:Nat}(h:Wj mask n):HP mask/\mask%2=1:=by
 rcases h with⟨rfl,_⟩|⟨rfl,_⟩|⟨rfl,_⟩
 .exact⟨g_,rfl⟩
 .exact⟨gZ,rfl⟩
 .exact⟨gY,rfl⟩
def dV(w:BP)(bv:Bool)(t:FF):Prop:=t.led=(!w.params.followText "set-order")/\(bv=true->t.plain=true)
def WV(knd:KeyKind prog w K)(bv:Bool):Prop:=bv=true->∀k v,knd.is k v=true->NK 7 v=pure true
structure J4(knd:KeyKind prog w K)(bv:Bool)(ok:A4->Prop)(h:Ar)(a:A4)(S:List (List K)):Prop where
 ex:∃o es Ai t,h.get? a=some o/\o.ExactSet/\o.data=.set es Ai t/\GR t es/\Tv knd h es.toList/\(∀ks,W_ knd h es.toList ks↔ks∈S)/\es.size=S.length/\Wj t.mask es.size/\dV w bv t/\∀e∈es.toList,∀b,e.2=.ref b->ok b
def YQ{h h':Ar}{a b:A4}{o:Obj}{ks:List K}{es:Array (Int×A3)}{Ai:Nat}{t:FF}(ho:h.get? a=some o)(hd:o.data=.set es Ai t)(GB:Hm a h h')(x:GA knd h ks b):GA knd h' ks b:=by
 obtain⟨o',items,n,F9,AD,JG,A7⟩:=x;have IQ:b≠a:=by rintro rfl;rw[ho]at F9;cases F9;rw[hd]at JG;cases JG
 exact⟨o',items,n,(GB.2 b IQ).trans F9,AD,JG,A7⟩
def vi{h h':Ar}{a b:A4}{o:Obj}{ks:List K}{es:Array (Int×A3)}{Ai:Nat}{t:FF}(ho:h'.get? a=some o)(hd:o.data=.set es Ai t)(GB:Hm a h h')(x:GA knd h' ks b):GA knd h ks b:=by
 obtain⟨o',items,n,F9,AD,JG,A7⟩:=x;have IQ:b≠a:=by rintro rfl;rw[ho]at F9;cases F9;rw[hd]at JG;cases JG
 exact⟨o',items,n,(GB.2 b IQ).symm.trans F9,AD,JG,A7⟩
def hW{h:Ar}{a:A4}{o:Obj}{es es':Array (Int×A3)}{Ai:Nat}{t t':FF}(ho:h.get? a=some o)(AG:o.ExactSet)(hd:o.data=.set es Ai t):∃o',(h.update a (Obj.putSet es' t')).get? a=some o'/\o'.ExactSet/\o'.data=.set es' (Ai+1) t':=by
 refine⟨_,Oi _ ho (by rw[putSet_of es' t' hd];rfl),?_,?_⟩
 .rw[putSet_of es' t' hd];exact AG
 .rw[putSet_of es' t' hd]
def i0{α:Type}{es:Array α}{p:Nat}{x e:α}:e∈(insertAt es p x).toList↔e=x\/e∈es.toList:=by
 rw[YH];constructor
 .intro h;rcases List.mem_append.mp h with h|h
  .exact .inr (pC h)
  .rcases List.mem_cons.mp h with h|h
   .exact .inl h
   .exact .inr (bq h)
 .rintro(rfl|h)
  .simp
  .rw[<-RQ p es.toList]at h;rcases List.mem_append.mp h with h|h
   .exact Hp _ h
   .exact HT _ (FD _ h)
def abA{a:A4}{o:Obj}{Ai:Nat}{t:FF}{es:Array (Int×A3)}{M wanted:Nat}{Q:Unit->AJ->Prop}(ho:s.heap.get? a=some o)(AG:o.ExactSet)(hd:o.data=.set es Ai t)(I:GR t es)(C:HP M)(AF:es.size<=M)(Nn:p4 wanted=M+1)(hm:M<=127)(h:∀es' t' o' h',Hm a s.heap h'->h'.get? a=some o'->o'.ExactSet->o'.data=.set es' (Ai+1) t'->t'.mask=M->t'.led=t.led->t'.plain=t.plain->GR t' es'->es'.size=es.size->(∀e,e∈es'.toList↔e∈es.toList)->Q () { s with heap:=h' }) :
  AV (Al prog w) A (setRelay a wanted) Q E s:=by
 unfold setRelay;refine AL (T9 ho hd I.fits ?_);dsimp only;rw[if_neg (by rw[Nn];show¬(M+1>Bu);rw[Li];lia)];obtain⟨t',order,Ak,B6,Ee,LS,P1,afl,RF,aar,aaw⟩:=xN C AF t.finger (t.movedTo M) t.led t.plain;have e:t.relaid (es.map (·.1)) wanted=some (t',order):=by unfold SetTable.relaid;rw[Nn];exact Ak
 rw[e];have Df:AV (Al prog w) A (if((order.filterMap (es[·]?)).size !=es.size)=true then(do unsupported "internal:set-table-lost-an-element";pure (order.filterMap (es[·]?),t'))else pure (order.filterMap (es[·]?),t')) (λr s'=>AV (Al prog w) A (storeSet a r.1 r.2) Q E s') E s:=by rw[if_neg (by rw[RF];simp)];refine Aw ?_;obtain⟨o',g1,g2,g3⟩:=hW (es':=order.filterMap (es[·]?)) (t':=t') ho AG hd;exact wpAny_storeSet_of ho hd (h _ t' o' _ (MN _ _ _) g1 g2 g3 B6 Ee LS aar RF aaw) (by rw[RF,Li];lia)
 exact AL Df
theorem rC{ks:List K}{a:A4}{bv:Bool}{Q:Bool->AJ->Prop}(BB:WV knd bv)(AK:GA knd s.heap ks a)(h:∀b,(bv=true->b=true)->Q b s):AV (Al prog w) A (NK 8 (.ref a)) Q E s:=by
 cases bv with
 |false=>exact rB AK λb=>h b λz=>nomatch z
 |true=>
  have DN:=AK.typeIs;obtain⟨o,items,m,ho,_,hd,A7⟩:=AK;unfold NK;refine AL (Of DN F.slot_tuple_hash.lookup ?_);dsimp only;refine AL (K2 ho hd ?_);simp only[Oe];refine AL ?_;rw[<-RP];have all:∀v∈items.toList,NK 7 v=pure true:=by
   generalize items.toList=l at A7;clear ho hd DN;induction A7 with
   |nil=>intro v BB;cases BB
   |cons p _ Bk=>
    intro v hm;rcases List.mem_cons.mp hm with rfl|hm
    .exact BB rfl _ _ p
    .exact Bk v hm
  refine Od _ (λrest r s'=>r.1=none/\s'=s/\∀v∈rest,NK 7 v=pure true) _ ?_ ?_ _ _ ⟨rfl,rfl,all⟩
  .rintro v rest r s' ⟨Ao,rfl,al⟩;rw[al v Fy];refine AL (Aw ?_);exact Aw ⟨rfl,rfl,λu Av=>al u (FD _ Av)⟩
  .rintro⟨Ak,B6⟩ s' ⟨Ao,rfl,_⟩;simp only at Ao;subst Ao;exact Aw (h true λ_=>rfl)
def pf{bv:Bool}(BB:WV knd bv){ok:A4->Prop}{a x:A4}{S:List (List K)}{ks:List K}{Q:Bool->AJ->Prop}(Av:A.units<Cq)(T:J4 knd bv ok s.heap a S)(AG:GA knd s.heap ks x)(Ax:ok x)(MB:S.length<76)(h:∀b h',Hm a s.heap h'->J4 knd bv ok h' a (if ks∈S then S else S++[ks])->Q b { s with heap:=h' }) :
  AV (Al prog w) A (setAddHashed a (.ref x) (ER knd ks)) Q E s:=by
 obtain⟨o,es,Ai,t,ho,hex,hd,I,X,hm,AW,Ao,By,AK⟩:=T.ex;obtain⟨C,Xo⟩:=qN Ao;obtain⟨N,pU,Wh,U7⟩:=I.first (ER knd ks);unfold setAddHashed setAddHashedIn;refine Iv (AL (T9 ho hd I.fits ?_));dsimp only;rw[if_neg (by simp[byScan,Value.scannable])];unfold setSearch;refine AL (mI Av ho hd I X AG Xo pU Wh U7 (λyes=>?_) (λno=>?_) 100000 0 none (Gi _) ?_ rfl λm hm=>absurd hm (Nat.not_lt_zero _))
 .dsimp only;refine Aw ?_;have:=h false s.heap (pA _ _) (by rw[if_pos ((hm ks).mp yes)];exact T);exact this
 .dsimp only;refine AL (T9 ho hd I.fits ?_);dsimp only;have hz:es.size+1<=t.mask:=by
   rcases Ao with⟨e,_⟩|⟨e,_⟩|⟨e,_⟩<;>lia
  obtain⟨D0,EW,CL⟩:=I.put (x:=Ce x) Wh U7 hz;have jd:ks∉S:=λz=>no ((hm ks).mpr z)
  have fin:∀(t1:FF),t1.mask=t.mask->t1.place=(t.put (C4 t.mask (ER knd ks) N).j).1.place->t1.dummies= #[]->dV w bv t1->
    AV (Al prog w) A (do
     storeSet a (W3 es (t.put (C4 t.mask (ER knd ks) N).j).2 (ER knd ks,Ce x)) t1
     if(!false&&t1.tooFull)=true then do
        setRelay a (SetTable.grown (es.size+1))
        pure true
      else pure true) Q E s:=by
   intro t1 A9 AE Er ax;have Ab:GR t1 (W3 es (t.put (C4 t.mask (ER knd ks) N).j).2 (ER knd ks,Ce x)):=by obtain⟨⟨a1,a2,Bi,Hw⟩,b,c,d⟩:=D0;have em:(t.put (C4 t.mask (ER knd ks) N).j).1.mask=t.mask:=rfl;rw[em]at Hw b c d;refine⟨⟨Er,by rw[AE];exact a2,by rw[AE];exact Bi,by rw[AE,A9];exact Hw⟩,by rw[A9];exact b,by rw[A9];exact c,λj e he=>?_⟩;rw[A9,AE];exact d j e (by obtain⟨i,B1,BW⟩:=he;exact⟨i,by rw[<-AE];exact B1,BW⟩)
   obtain⟨Dd,g1,g2,g3⟩:=hW (es':=W3 es (t.put (C4 t.mask (ER knd ks) N).j).2 (ER knd ks,Ce x)) (t':=t1) ho hex hd;have lM:=MN s.heap a (Obj.putSet (W3 es (t.put (C4 t.mask (ER knd ks) N).j).2 (ER knd ks,Ce x)) t1);have done:∀(h':Ar)(es':Array (Int×A3))(t':FF)(o':Obj)(Nj:Nat),Hm a s.heap h'->h'.get? a=some o'->o'.ExactSet->o'.data=.set es' Nj t'->GR t' es'->es'.size=es.size+1->(∀e,e∈es'.toList↔e=(ER knd ks,Ce x)\/e∈es.toList)->Wj t'.mask es'.size->dV w bv t'->Q true { s with heap:=h' }:=by
    intro h' es' t' o' Nj GB q1 q2 EI JK Nc Jk Jl RE;refine h true h' GB ⟨o',es',Nj,t',q1,q2,EI,JK,⟨λe he=>?_⟩,λk2=>?_,?_,Jl,RE,λe he b Au=>?_⟩
    .rcases(Jk e).mp he with rfl|he
     .exact⟨ks,x,rfl,YQ ho hd GB AG,rfl⟩
     .obtain⟨k3,P3,BR,C_,Ei⟩:=X.el e he;exact⟨k3,P3,BR,YQ ho hd GB C_,Ei⟩
    .rw[if_neg jd,Iq,<-hm k2];constructor
     .rintro⟨e,he,b,Au,HH⟩;have HH:=vi q1 EI GB HH;rcases(Jk e).mp he with rfl|he
      .cases Au;exact .inr (by rw[HH.inj AG];simp)
      .exact .inl ⟨e,he,b,Au,HH⟩
     .rintro(⟨e,he,b,Au,HH⟩|z)
      .exact⟨e,(Jk e).mpr (.inr he),b,Au,YQ ho hd GB HH⟩
      .simp at z;subst z;exact⟨_,(Jk _).mpr (.inl rfl),x,rfl,YQ ho hd GB AG⟩
    .rw[if_neg jd,Nc,AW];simp
    .rcases(Jk e).mp he with rfl|he
     .cases Au;exact Ax
     .exact AK e he b Au
   refine AL (wpAny_storeSet_of ho hd ?_ (by rw[CL,Li];lia));have nE:t1.tooFull=decide ((es.size+1)*5≥t.mask*3):=by
    unfold SetTable.tooFull SetTable.fill;have:t1.place.size=es.size+1:=by have:=Ab.tab.Mw;rw[CL]at this;exact this
    rw[this,A9,Er];simp
   by_cases full:(es.size+1)*5≥t.mask*3
   .rw[if_pos (by rw[nE];simpa using full)];have big:∃M,HP M/\p4 (SetTable.grown (es.size+1))=M+1/\M<=127/\es.size+1<=M/\Wj M (es.size+1):=by
     rcases Ao with⟨e,l⟩|⟨e,l⟩|⟨e,l⟩
     .have:es.size=4:=by lia
      rw[this];exact⟨31,gZ,by decide+kernel,by lia,by lia,.inr (.inl ⟨rfl,by lia⟩)⟩
     .have:es.size=18:=by lia
      rw[this];exact⟨127,gY,by decide+kernel,by lia,by lia,.inr (.inr ⟨rfl,by lia⟩)⟩
     .lia
    obtain⟨M,BR,C_,Ei,N9,T_⟩:=big;refine AL (abA g1 g2 g3 Ab BR (by rw[CL];exact N9) C_ Ei λes' t' o' h' GB q1 q2 EI JK aap aaq Nc Jk Jl=>Aw ?_);exact done h' es' t' o' _ (lM.trans GB) q1 q2 EI Nc (by rw[Jk,CL]) (λe=>by rw[Jl e,i0]) (by rw[JK,Jk,CL];exact T_) ⟨aap.trans ax.1,λz=>aaq.trans (ax.2 z)⟩
   .rw[if_neg (by rw[nE];simpa using full)];refine Aw (done _ _ t1 Dd _ lM g1 g2 g3 Ab CL (λe=>i0) ?_ ax);rw[A9,CL];rcases Ao with⟨e,l⟩|⟨e,l⟩|⟨e,l⟩
    .exact .inl ⟨e,by lia⟩
    .exact .inr (.inl ⟨e,by lia⟩)
    .exact .inr (.inr ⟨e,by lia⟩)
  have CK:(t.put (C4 t.mask (ER knd ks) N).j).1.dummies= #[]:=D0.tab.Th
  split
  .refine AL (rC BB AG λb A1=>?_);cases b
   .exact fin _ rfl rfl CK ⟨By.1,λz=>nomatch A1 z⟩
   .exact fin _ rfl rfl CK ⟨By.1,λz=>by have q:=By.2 z;first|exact q|(show(t.plain&&true)=true;rw[q];rfl)|rfl⟩
  .refine AL (Aw ?_);exact fin _ rfl rfl CK ⟨By.1,λz=>by have q:=By.2 z;first|exact q|(show(t.plain&&true)=true;rw[q];rfl)|rfl⟩
 .have:10*turns t.mask<=1420:=by
    rcases Ao with⟨e,_⟩|⟨e,_⟩|⟨e,_⟩<;>rw[e]<;>decide
  lia
end
end Kw
namespace Kw
open PySem PySem.Spec PyProof.Rows
section
variable{prog:Bh}{w:BP}{K:Type}[DecidableEq K]{knd:WC prog w K}
def OM(S:List (List K))(ks:List K):List (List K):=if ks∈S then S else S++[ks]
def JB(keys:List (List K)):List (List K):=keys.foldl OM []
def gd(keys:List (List K)):(JB keys).length<=keys.length:=by
 have:∀(l S:List (List K)),(l.foldl OM S).length<=S.length+l.length:=by
  intro l;induction l with
  |nil=>intro S;simp
  |cons k l Bk=>
   intro S;have:=Bk (OM S k);have h2:(OM S k).length<=S.length+1:=by unfold OM;split<;>simp
   simp only[Vx,D7];lia
 have:=this keys [];simpa[JB]using this
def ru{keys:List (List K)}{i:Nat}{ks:List K}(h:keys[i]?=some ks):JB (keys.take (i+1))=OM (JB (keys.take i)) ks:=by unfold JB;rw[List.take_add_one,h];simp[List.foldl_append]
section
variable{A:CW}{R:Result->AJ->Prop}{I:A4}{BA wr:List A4}{G:Array GenState->Array GenState->Prop}{n:Nat}{P:Nat->A3->Prop}{St:Nat->AJ->Prop}
def U0(knd:WC prog w K)(keys:List (List K))(P:Nat->A3->Prop)(no:List A4)(h:Ar):Prop:=∀i v,P i v->∃b ks,v=.ref b/\b∉no/\keys[i]?=some ks/\GA knd h ks b
def U0.but{keys:List (List K)}{no:List A4}{h h':Ar}(k:U0 knd keys P no h)(m:∀b o,b∉no->h.get? b=some o->h'.get? b=some o):U0 knd keys P no h':=λi v p=>by obtain⟨b,ks,e,nb,q,o,it,c,ho,r⟩:=k i v p;exact⟨b,ks,e,nb,q,o,it,c,m b o nb ho,r⟩
def J4.moved{bv:Bool}{ok:A4->Prop}{h h':Ar}{S:A4}{L:List (List K)}(T:J4 knd bv ok h S L)(wR:∀o,h.get? S=some o->h'.get? S=some o)(m:∀b o,ok b->h.get? b=some o->h'.get? b=some o):J4 knd bv ok h' S L:=by
 obtain⟨o,es,Ai,t,ho,hex,hd,pX,X,hm,AW,Ao,By,A1⟩:=T.ex;have Bd:∀e∈es.toList,∀b ks,e.2=.ref b->(GA knd h ks b↔GA knd h' ks b):=λe he b ks Au=>by
  have nb:=A1 e he b Au;obtain⟨k2,E9,BR,⟨Cn,it,c,g1,g2⟩,Ei⟩:=X.el e he;rw[Au]at BR;cases BR;have hL:=m b Cn nb g1;constructor
  .rintro⟨o',V1,F7,q1,q2⟩;rw[g1]at q1;cases q1;exact⟨Cn,V1,F7,hL,q2⟩
  .rintro⟨o',V1,F7,q1,q2⟩;rw[hL]at q1;cases q1;exact⟨Cn,V1,F7,g1,q2⟩
 refine⟨o,es,Ai,t,wR o ho,hex,hd,pX,⟨λe he=>?_⟩,λks=>?_,AW,Ao,By,A1⟩
 .obtain⟨k2,E9,BR,C_,Ei⟩:=X.el e he;exact⟨k2,E9,BR,(Bd e he E9 k2 BR).mp C_,Ei⟩
 .rw[<-hm ks];constructor
  .rintro⟨e,he,b,Au,HH⟩;exact⟨e,he,b,Au,(Bd e he b ks Au).mpr HH⟩
  .rintro⟨e,he,b,Au,HH⟩;exact⟨e,he,b,Au,(Bd e he b ks Au).mp HH⟩
def wn{bv:Bool}(BB:WV knd bv){ok:A4->Prop}(Ax:∀i b,P i (.ref b)->ok b)(W:WalksS prog w A.in1 I BA wr G n P St)(S:A4)(Qk:S∉BA)(keys:List (List K))(AW:keys.length=n)(A1:n<77)(Av:A.in1.units<Cq) :
  ∀(k i:Nat)(s:AJ),n-i=k->i<=n->St i s->U0 knd keys P (S::wr) s.heap->J4 knd bv (λb=>b∉S::wr/\ok b) s.heap S (JB (keys.take i))->
   (∀s',Moved (S::wr) G s s'->J4 knd bv (λb=>b∉S::wr/\ok b) s'.heap S (JB keys)->R (.ok (.ret .none)) s')->
   Lj (Al prog w) A (.builtin "set.update.loop" ⟨[.ref S,.ref I],[]⟩) R s:=by
 have tT:S∉wr:=λh=>Qk (W.sub _ h);have Mf:∀b∈wr,b∈S::wr:=λb A1=>FD _ A1;have keep:∀{s s':AJ}{L:List (List K)},Moved wr G s s'->J4 knd bv (λb=>b∉S::wr/\ok b) s.heap S L->J4 knd bv (λb=>b∉S::wr/\ok b) s'.heap S L:=λm T=>
  T.moved (λo e=>m.heap S o tT e) λb o nb e=>m.heap b o (λz=>nb.1 (Mf b z)) e
 intro k;induction k with
 |zero=>
  intro i s AK A7 HG YS T hR;have e:i=n:=by lia
  subst e;refine RT p3 ?_;rw[TB bZ _];show AV _ A.in1 (K7 (.ref I)>>=_) _ _ s;refine AL (W.done s _ _ HG λs' hm=>?_);show AV _ A.in1 (ret H3) _ _ s';rw[<-AW,List.take_length]at T;exact Aw (hR s' (hm.mono Mf) (keep hm T))
 |succ k Bk=>
  intro i s AK A7 HG YS T hR;have EG:i<n:=by lia
  refine RT p3 ?_;rw[TB bZ _];show AV _ A.in1 (K7 (.ref I)>>=_) _ _ s;refine AL (W.item i s _ _ EG HG λv s' DM vQ hm=>?_);have iF:U0 knd keys P (S::wr) s'.heap:=YS.but λb o nb e=>hm.heap b o (λz=>nb (Mf b z)) e;have dU:=keep hm T;obtain⟨b,ks,rfl,nb,D1,HH⟩:=iF i v DM;show AV _ A.in1 (JU [Ce b] (setAdd S (.ref b))>>=_) _ _ s';refine AL (Iv ?_);unfold setAdd;refine Iv (AL (wpAny_pyHash_tuple Av HH ?_));have room:(JB (keys.take i)).length<76:=by have:=gd (keys.take i);rw[JS]at this;lia
  refine pf BB (s:={ s' with toks:=s'.toks+(ks.length+1) }) Av dU HH ⟨nb,Ax i b DM⟩ room λc h' GB pY=>?_;have pZ:J4 knd bv (λb=>b∉S::wr/\ok b) h' S (JB (keys.take (i+1))):=by rw[ru D1];exact pY
  have Wx:∀Fx o,Fx∉S::wr->s'.heap.get? Fx=some o->h'.get? Fx=some o:=λFx o y9 e=>by rw[GB.2 Fx (λz=>y9 (by rw[z];exact Fy))];exact e
  refine Aw ⟨WF bZ _,Bk (i+1) _ (by lia) EG (W.frame _ s' _ _ vQ (Pt _ _) λFx Np o e=>?_) (iF.but Wx) pZ λJL uz uI=>?_⟩
  .rw[GB.2 Fx (λh:Fx=S=>Qk (by rw[<-h];exact Np))];exact e
  .refine hR JL (Moved.trans W.gtrans ((hm.mono Mf).then_heap (Pt _ _) λFx o Np e=>?_) uz) uI;rw[GB.2 Fx (λh:Fx=S=>Np (by rw[h];exact Fy))];exact e
end
end
section
variable{prog:Bh}{w:BP}{A:CW}{E:A3->AJ->Prop}{s:AJ}{K:Type}[DecidableEq K]{knd:WC prog w K}
def Jn(led:Bool):Obj:={ cls:=.type "set",dict:=none,data:=.set #[] 0 (.fresh 0 0 led) }
def J4.new{bv:Bool}{ok:A4->Prop}{h:Ar}{S:A4}{led:Bool}(el:led=!w.params.followText "set-order")(e:h.get? S=some (Jn led)):J4 knd bv ok h S []:=
 ⟨_,#[],0,_,e,⟨rfl,rfl,rfl⟩,rfl,⟨⟨rfl,rfl,by simp[SetTable.fresh],by simp[SetTable.fresh]⟩,g_,Gi _,λj e he=>by obtain⟨i,_,q⟩:=he;simp at q⟩,⟨λe he=>by simp at he⟩,λks=>⟨λ⟨e,he,_⟩=>by simp at he,λz=>by simp at z⟩,rfl,.inl ⟨rfl,by show 0<5;lia⟩,⟨el,λ_=>rfl⟩,λe he=>by simp at he⟩
theorem aai(a:A3){Q₁:A3->AJ->Prop}(h:Q₁ (.ref s.heap.objs.size) { s with heap:=s.heap.push (Jn (!w.params.followText "set-order")) }):Lj (Al prog w) A (.call (.builtin "set.__new__") { pos:=[.type "set",a] }) (wants Q₁ E) s:=by
 have Mf:=sub_set_self;refine codeAny_of_tree ?_;refine AL (wpAny_of_eq (F.newCall_set_1 a) (Aw ⟨WF F.plain_set_new _,RT F.entry_set_new ?_⟩));rw[TB F.plain_set_new _];obtain⟨AT,g,d,By,os⟩:=s;have nn:∀{A:CW}{Q:A3->AJ->Prop}{E:A3->AJ->Prop},Q (.ref AT.objs.size) ⟨AT.push (Jn (!w.params.followText "set-order")),g,d,By,os⟩->AV (Al prog w) A (newSet (.type "set")) Q E ⟨AT,g,d,By,os⟩:=λ{A Q E} AU=>by unfold newSet setsByText;exact AL (AL (wpAny_askSetting (Aw (Kp AU))))
 unfold Oo.«set.__new__»;generalize hN:newSet=af6 at nn |-
 wp_walk
 exact nn (Aw h)
set_option maxHeartbeats 3200000 in
theorem qW{bv:Bool}(BB:WV knd bv){l:A4}{items:Array A3}{keys:List (List K)}{Q:A3->AJ->Prop}(hh:A.handled=none)(Av:A.units+64<Cq)(AF:s.heap.IsList l items)(AK:keys.length=items.size)(A1:items.size<77)(A7:∀(i:Nat) v,items[i]?=some v->∃b ks,v=.ref b/\keys[i]?=some ks/\GA knd s.heap ks b)(h:∀(h':Ar)(By:Nat),J4 knd bv (λb=>∃i:Nat,items[i]?=some (.ref b)) h' s.heap.objs.size (JB keys)->(∀b o,s.heap.get? b=some o->h'.get? b=some o)->Q (.ref s.heap.objs.size) { s with heap:=h',toks:=By }) :
  AV (Al prog w) A (call (.type "set") [.ref l]) Q E s:=by
 obtain⟨c,IH,aed⟩:=F.called_set.mro;have aec:=F.called_set.made;have Mf:=F.called_set.sub;refine wpAny_call (codeAny_of_tree ?_);show AV _ _ (callAny (.type "set") _) _ _ _;refine Aw ⟨Code.quiet_builtin _ (by decide+kernel),RT F.entry_type_call ?_⟩;rw[Around.under_plain (weight_type_call_type "set" [.ref l] []) rfl];have h1:=F.called_set.notType;have h2:=F.called_set.canCreate;have aeY:=F.typeCall_set_1 (.ref l)
 repeat (any_goals (first|assumption|wp_step))
 refine R_ (aai (.ref l) (E:=E) (Q₁:=λobj CY=>∃led:Bool,led=(!w.params.followText "set-order")/\obj=.ref s.heap.objs.size/\CY={ s with heap:=s.heap.push (Jn led) }) ⟨_,rfl,rfl,rfl⟩) λr CY Ao=>?_;rcases r with e|Gm
 .exact Ao
 .cases Gm with
  |ret obj=>
   obtain⟨led,el,rfl,rfl⟩:=Ao;have MB:(s.heap.push (Jn led)).get? s.heap.objs.size=some (Jn led):=Fc _ rfl;have DN:Shared.TypeIs { s with heap:=s.heap.push (Jn led) } (.ref s.heap.objs.size) "set":=⟨_,MB,rfl⟩;have X9:=F.called_set.init.lookup;have X4:=F.called_set.init.bind (.ref s.heap.objs.size)
   repeat (any_goals (first|assumption|wp_step))
   refine R_ (codeAny_call_builtin (R:=wants (λr IW=>r=.none/\∃h' By,IW={ s with heap:=h',toks:=By }/\J4 knd bv (λb=>∃i:Nat,items[i]?=some (.ref b)) h' s.heap.objs.size (JB keys)/\(∀b o,s.heap.get? b=some o->h'.get? b=some o)) E) F.called_set.init.plain F.entry_set_init (check_set_init_1 DN ?_)) λaab IW Zx=>?_
   .obtain⟨ol,Sj,Ql,nl,S5⟩:=AF;obtain⟨aff,xX,afg,y_⟩:=ol;simp only at Ql S5;subst Ql;subst S5;have vF:(s.heap.push (Jn led)).get? l=some { cls:=.type "list",dict:=xX,data:=.seq items nl,slots:=y_ }:=Cz _ Sj;have aeh:=F.sub_list_set;have aeg:=F.sub_list_frozenset;have IQ:(NL "list"==NL "dict")=false:=by decide
    have dh:(s.heap.push (Jn led)).IsList l items:=⟨_,vF,rfl,nl,rfl⟩;unfold Oo.«set.__init__» noKeywords Builtin.Frozenset.updateFrom;generalize uG:pyIter=Hc
    wp_walk
    subst uG;refine cA dh ?_;refine AL (wpAny_runValue ?_);have h8:l<s.heap.objs.size:=D3 Sj;have dr:(s.heap.push (Jn led)).objs.size=s.heap.objs.size+1:=K3 _ _;have v7:l≠(s.heap.push (Jn led)).objs.size:=by rw[dr];exact Ef (W1 h8)
    have Qk:s.heap.objs.size∉[(s.heap.push (Jn led)).objs.size,l]:=by rw[dr];simp only[Gh,Va,Km,or_false,not_or];exact⟨Ef (Pr _),MP h8⟩
    have hT:∀b o,s.heap.get? b=some o->((s.heap.push (Jn led)).push { cls:=.type "list_iterator",data:=.fields #[.ref l,.int 0 0] }).get? b=some o:=λb o e=>Cz _ (Cz _ e);have Wx:∀b o,s.heap.get? b=some o->b∉s.heap.objs.size::[(s.heap.push (Jn led)).objs.size]:=λb o e=>by have:=D3 e;rw[dr];simp only[Gh,Va,Km,or_false,not_or];exact⟨Ef this,Ef (W1 this)⟩
    refine wn (knd:=knd) BB (ok:=λb=>∃i:Nat,items[i]?=some (.ref b)) (λi b p=>⟨i,p⟩) ((Walks.list (by simp[hh]) _ l v7 items).toS) s.heap.objs.size Qk keys AK A1 (by simp only[Around.in1_units];lia) (items.size-0) 0 _ (by lia) (Gi _)
     ⟨⟨_,Fc _ rfl,rfl,rfl⟩,(dh.push _)⟩ (λi v p=>?_) (J4.new (led:=led) el (Cz _ MB)) ?hR
    .obtain⟨b,ks,rfl,q,o,it,c,ho,r⟩:=A7 i v p;exact⟨b,ks,rfl,Wx b o ho,q,o,it,c,hT b o ho,r⟩
    case hR=>intro s' hm Rk;obtain⟨h',g',d',acB,b3⟩:=s';have eg:g'=s.gens:=hm.gens;have CK:d'=s.drawn:=hm.drawn;have G2:b3=s.os:=hm.os;subst eg;subst CK;subst G2;show AV _ _ _ _ _ _;refine Aw ?_;show AV _ _ (ret H3) _ _ _;obtain⟨o,es,Ai,t,q1,q2,EI,JK,Nc,Jk,Jl,RE,bE,Z5⟩:=Rk.ex;exact Aw ⟨rfl,h',acB,rfl,⟨o,es,Ai,t,q1,q2,EI,JK,Nc,Jk,Jl,RE,bE,λe he b Au=>(Z5 e he b Au).2⟩,λb o e=>hm.heap b o (Wx b o e) (hT b o e)⟩
   .rcases aab with e|sR
    .exact Zx
    .cases sR with
     |ret r=>
      obtain⟨rfl,h',By,rfl,Rk,MD⟩:=Zx
      repeat (any_goals (first|assumption|wp_step))
      exact h _ _ Rk MD
     |_=>cases Zx
  |_=>cases Ao
end
end Kw
namespace LT
open PySem PyProof.Rows
def K8(h:Ar)(d:A4)(es:Array MT)(Ai:Nat):Prop:=∃o,h.get? d=some o/\o.ExactDict/\o.data=.dict es Ai
def K8.at{h h':Ar}{d:A4}{es:Array MT}{Ai:Nat}(x:K8 h d es Ai)(e:∀o,h.get? d=some o->h'.get? d=some o):K8 h' d es Ai:=let⟨o,ho,r⟩:=x;⟨o,e _ ho,r⟩
def K8.typeIs{s:AJ}{d:A4}{es:Array MT}{Ai:Nat}(x:K8 s.heap d es Ai):s.TypeIs (.ref d) "dict":=let⟨o,ho,c,_⟩:=x;⟨o,ho,c.1⟩
def Ml(a b:Int):Bool:=decide (a<=b)
def IE(ks:List Int):List Int:=ks.mergeSort Ml
def wc(a b c:Int)(h1:Ml a b=true)(h2:Ml b c=true):Ml a c=true:=by unfold Ml at*;have h1:=of_decide_eq_true h1;have h2:=of_decide_eq_true h2;exact decide_eq_true (by lia)
def wb(a b:Int):(Ml a b||Ml b a)=true:=by
 unfold Ml;by_cases h:a<=b
 .simp[h]
 .have:b<=a:=by lia
  simp[this]
def abp{ks l:List Int}(p:l.Perm ks)(h:l.Pairwise λa b=>Ml a b=true):l=IE ks:=
 List.Perm.eq_of_pairwise (le:=λa b=>Ml a b=true) (λa b _ _ h1 h2=>by
  have h1:=of_decide_eq_true h1;have h2:=of_decide_eq_true h2
  lia) h (List.pairwise_mergeSort wc wb ks) (p.trans (Px _ _).symm)
theorem ZU:∀{vs:List A3}{ns:List Int},QE vs ns->vs.map numOf=ns/\∀v∈vs,∃k t,v=.int k t
 |_,_,.nil=>⟨rfl,λ_ h=>nomatch h⟩
 |_,_,.cons n t h=>⟨by rw[DB,(ZU h).1];rfl,λv BB=>by
  rcases List.mem_cons.mp BB with rfl|BB
  .exact⟨n,t,rfl⟩
  .exact(ZU h).2 v BB⟩
def mS{us:List A3}{out:Array A3}{ns:List Int}(a:QE out.toList ns)(p:ns.Perm (us.map numOf))(h:ns.Pairwise (· <=·)):out.toList.length=us.length/\(∀v∈out.toList,∃k t,v=.int k t)/\out.toList.map numOf=IE (us.map numOf):=by obtain⟨e,g⟩:=ZU a;have CC:=congrArg RZ e;have C8:=p.length_eq;rw[DV]at CC C8;exact⟨CC.trans C8,g,e.trans (abp p (h.imp decide_eq_true))⟩
section
variable{prog:Bh}{w:BP}{A:CW}{E:A3->AJ->Prop}{s:AJ}{es:Array MT}
theorem k8{d:A4}{Ai:Nat}{Q:A3->AJ->Prop}(hd:(d==Iu)=false)(hm:K8 s.heap d es Ai)(Dt:Q (.ref s.heap.objs.size) { s with heap:=s.heap.push { cls:=.type "dict_keyiterator",data:=.fields #[.ref d,.int 0 0,.int es.size 0,.int Ai 0] } }) :
  AV (Al prog w) A (pyIter (.ref d)) Q E s:=by
 have DN:s.TypeIs (.ref d) "dict":=hm.typeIs;obtain⟨o,ho,AD,gy⟩:=hm;refine wpAny_pyIter_slot DN F.slot_dict_iter (Kl F.slot_dict_iter DN F.entry_dict_iter ?_ (F.args_dict_iter_1 _));unfold Oo.«dict.__iter__»;refine AL ?_;unfold Builtin.Dict.dictSlotNone;refine AL (wpAny_notOrdered_dict DN ?_);show AV _ _ (pure (Ce d)) _ _ s;refine Aw ?_;show AV _ _ (ob d>>=_) _ _ s;unfold ob;rw[if_neg (by rw[hd];exact JR)];refine AL (Aw ?_);refine AL (cB ho gy ?_);refine AL (bt ho gy ?_);refine AL (Kp (Aw ⟨_,rfl,"dict_keyiterator",_,⟨_,Fc _ rfl,rfl⟩,F.slot_dict_keyiterator_next.lookup,?_⟩));simpa[Lk]using Dt
def k7{it d:A4}{i Ai:Nat}{Q:Option A3->AJ->Prop}(hit:s.heap.IsKeyIter it d i es.size Ai)(hm:K8 s.heap d es Ai)(uy:i<es.size)(Dt:∀h',h'.IsKeyIter it d (i+1) es.size Ai->Hm it s.heap h'->Q (some es[i].key) { s with heap:=h' }) :
  AV (Al prog w) A (K7 (.ref it)) Q E s:=by
 obtain⟨o,ho,AD,hd⟩:=id hit;obtain⟨Di,Uo,KR,Ul⟩:=id hm;unfold K7
 refine AL (WE (OY (name:=Q3 "__next__") hit.typeIs VZ
  (Kl VZ hit.typeIs oZ ?_ (oY _))))
 refine AL (Aw ?_);refine AL ?_;refine AL ?_
 first|refine AL (VY hit.typeIs (Aw ?_))|refine AL (Vk hit.typeIs (Aw ?_))
 refine AL (wpAny_fieldsOf ho hd ?_);have Zv:oN "dict_keyiterator"=false:=by decide
 simp only[Zv,Gj,if_false];show AV _ _ (if(Ce d==H3)=true then _ else _) _ _ s;rw[if_neg (show¬((Ce d==H3)=true)from JR)];refine AL (Aw ?_);refine AL (cB Uo Ul ?_);rw[if_neg (by simp)];refine AL (Aw ?_);refine AL (bt Uo Ul ?_);rw[if_neg (by simp)];refine Aw ?_;simp only[show¬((i:Int)<0)from by lia,if_false,Ob,Kn uy];refine AL ?_
 first|refine AL (VY hit.typeIs (Aw ?_))|refine AL (Vk hit.typeIs (Aw ?_))
 refine AL (wpAny_isOneOf_keyiter hit.typeIs ?_);show AV _ _ (setField (.ref it) 1 (Lk ((i:Int)+1))>>=_) _ _ s;refine AL (Vr ho hd (by simp) ?_);have Sg:(s.heap.update it (Obj.mapFields (·.setIfInBounds 1 (Lk ((i:Int)+1))))).IsKeyIter it d (i+1) es.size Ai:=
  ⟨_,Oi _ ho (ot (Ve hd _)),(Obj.cls_mapFields ..).trans AD,by rw[Ve hd];simp[Lk]⟩
 refine AL (Iv ?_);refine AL (wpAny_isOneOf_keyiter (s:={ s with heap:=s.heap.update it (Obj.mapFields (·.setIfInBounds 1 (Lk ((i:Int)+1)))) }) Sg.typeIs ?_);show AV _ _ (pure es[i].key) _ _ _;exact Aw (Aw ⟨_,rfl,Aw (Dt _ Sg (MN ..))⟩)
def k6{it d:A4}{Ai:Nat}{Q:Option A3->AJ->Prop}(hh:A.handled=none)(hit:s.heap.IsKeyIter it d es.size es.size Ai)(hm:K8 s.heap d es Ai)(Dt:∀h',Heap.ExtBut it s.heap h'->Q none { s with heap:=h' }):AV (Al prog w) A (K7 (.ref it)) Q E s:=by
 obtain⟨o,ho,AD,hd⟩:=id hit;obtain⟨Di,Uo,KR,Ul⟩:=id hm;unfold K7
 refine AL (WE (OY (name:=Q3 "__next__") hit.typeIs VZ
  (Kl VZ hit.typeIs oZ ?_ (oY _))))
 refine AL (Aw ?_);refine AL ?_;refine AL ?_
 first|refine AL (VY hit.typeIs (Aw ?_))|refine AL (Vk hit.typeIs (Aw ?_))
 refine AL (wpAny_fieldsOf ho hd ?_);have Zv:oN "dict_keyiterator"=false:=by decide
 simp only[Zv,Gj,if_false];show AV _ _ (if(Ce d==H3)=true then _ else _) _ _ s;rw[if_neg (show¬((Ce d==H3)=true)from JR)];refine AL (Aw ?_);refine AL (cB Uo Ul ?_);rw[if_neg (by simp)];refine AL (Aw ?_);refine AL (bt Uo Ul ?_);rw[if_neg (by simp)];refine Aw ?_;simp only[show¬((es.size:Int)<0)from by lia,if_false,Ob,Array.getElem?_eq_none (C1 es.size)];refine AL ?_
 first|refine AL (VY hit.typeIs (Aw ?_))|refine AL (Vk hit.typeIs (Aw ?_))
 show AV _ _ (setField (.ref it) 0 .none>>=_) _ _ s;refine AL (Vr ho hd (by simp) ?_);show AV _ _ (newExc (.type "StopIteration") []>>=_) _ _ _;refine AL ?_;simp only[newExc,newTuple];refine AL (Kp ?_ (by size_fits));refine AL (m:=Vs _ _) (wpAny_of_eq (a:=H3) (by first|rfl|(simp only[Vs];rfl)) ?_);refine Kp ?_ (by size_fits);simp only[raiseNew];refine AL (wpAny_handled ?_);rw[show A.in1.handled=none from hh];refine AL (Aw (wpAny_throw ?_));refine AL (RX (T:="StopIteration") (b:=true) ⟨_,Fc _ rfl,rfl⟩ isSubtype_stop ?_);exact Aw (Dt _ (((MN ..).extBut.push _).push _))
def ab6(hh:A.handled=none)(I d:A4)(IQ:d≠I)(es:Array MT)(Ai:Nat) :
  Walks prog w A I [I,d] [I] es.size (λi v=>es[i]?.map (·.key)=some v) (λi h=>h.IsKeyIter I d i es.size Ai/\K8 h d es Ai) where
 sub:=λb A1=>by simp at A1;simp[A1]
 frame:=λ_ _ _ st AK=>⟨st.1.at λo e=>AK I (by simp) o e,st.2.at λo e=>AK d (by simp) o e⟩
 item:=λi s Q E A7 st Dt=>k7 st.1 st.2 A7 λh' Sg JH=>
  Dt _ h' s.toks (by rw[Kn A7];rfl) ⟨Sg,st.2.at λo e=>JH.extBut d o IQ e⟩ λb o A1 e=>JH.extBut b o (λh=>A1 (by simp[h])) e
 done:=λs Q E st Dt=>k6 hh st.1 st.2 λh' tk=>Dt h' s.toks λb o A1 e=>tk b o (λh=>A1 (by simp[h])) e
 self:=λ_ _ _ _ st Dt=>wpAny_pyIter_keyiter st.1 Dt
def rx:typeLookup (.type "dict") "__len__"=pure (some (.builtin "dict.__len__")):=by rw[typeLookup_type,builtinLookup_eq_fast];kernel_rfl
def vo{acc:Array A3}{es:Array MT}(h:ItemsOf (λi v=>es[i]?.map (·.key)=some v) acc es.size):acc.toList=es.toList.map (·.key):=by
 apply cC;intro i;have A9:acc.toList[i]?=acc[i]?:=by simp
 rw[Em,A9];cases e:acc[i]? with
 |none=>
  have:acc.size<=i:=by simpa using e
  rw[h.1]at this;have AE:es.toList[i]?=none:=HF (by simpa using this);rw[AE];rfl
 |some v=>have:=h.2 i v e;rw[<-this];simp
theorem qk{d:A4}{Ai:Nat}{Q:List A3->AJ->Prop}(hh:A.handled=none)(hd:(d==Iu)=false)(hm:K8 s.heap d es Ai)(AW:es.size<=Bu)(Dt:∀h' By,(∀b o,s.heap.get? b=some o->h'.get? b=some o)->s.heap.objs.size<h'.objs.size->Q (es.toList.map (·.key)) { s with heap:=h',toks:=By }):AV (Al prog w) A (collect (.ref d)) Q E s:=by
 have EG:d<s.heap.objs.size:=by obtain⟨o,ho,_⟩:=hm;exact D3 ho
 have hl:s.heap.objs.size≠d:=λe=>Iw _ (e▸EG);unfold collect;refine AL (wpAny_runValue (RT F.entry_proto_collect ?_));rw[TB F.plain_proto_collect _];show AV _ A.in1 (newList []>>=λl=>again (.builtin "list.__iadd__" ⟨[l,.ref d],[]⟩)) _ _ s;refine AL (Kp ?_);refine Aw ⟨WF F.plain_list_iadd _,RT F.entry_list_iadd ?_⟩;rw[TB F.plain_list_iadd _];have XA:K8 (s.heap.push { cls:=.type "list",data:=.seq ([]:List A3).toArray }) d es Ai:=hm.at λo e=>Cz _ e;have hj:(s.heap.push { cls:=.type "list",data:=.seq ([]:List A3).toArray }).get? s.heap.objs.size=some { cls:=.type "list",data:=.seq ([]:List A3).toArray }:=Fc _ rfl;show AV _ A.in1 (oP (.ref s.heap.objs.size) (.ref d) (.ref s.heap.objs.size)) _ _ { s with heap:=s.heap.push { cls:=.type "list",data:=.seq ([]:List A3).toArray } };generalize Bo:s.heap.push { cls:=.type "list",data:=.seq ([]:List A3).toArray }=f1 at XA hj |-;unfold oP;refine AL (WA (s:={ s with heap:=f1 }) (XA.typeIs (s:={ s with heap:=f1 })) ?_);have h1:ox (.ref s.heap.objs.size) (.ref d)=false:=by simp[ox,hl]
 rw[if_neg (by rw[h1];decide)];refine AL (k8 (s:={ s with heap:=f1 }) hd XA ?_);dsimp only;have PD:(f1.push { cls:=.type "dict_keyiterator",data:=.fields #[.ref d,.int 0 0,.int es.size 0,.int Ai 0] }).IsKeyIter f1.objs.size d 0 es.size Ai:=⟨_,Fc _ rfl,rfl,rfl⟩;have ME:K8 (f1.push { cls:=.type "dict_keyiterator",data:=.fields #[.ref d,.int 0 0,.int es.size 0,.int Ai 0] }) d es Ai:=XA.at λo e=>Cz _ e;have eA:(f1.push { cls:=.type "dict_keyiterator",data:=.fields #[.ref d,.int 0 0,.int es.size 0,.int Ai 0] }).get? s.heap.objs.size=some { cls:=.type "list",data:=.seq ([]:List A3).toArray }:=Cz _ hj;have Nt:∀b o,s.heap.get? b=some o->(f1.push { cls:=.type "dict_keyiterator",data:=.fields #[.ref d,.int 0 0,.int es.size 0,.int Ai 0] }).get? b=some o:=λb o e=>Cz _ (by rw[<-Bo];exact Cz _ e);have hz:f1.objs.size=s.heap.objs.size+1:=by rw[<-Bo];exact size_push' _ _
 generalize f1.push { cls:=.type "dict_keyiterator",data:=.fields #[.ref d,.int 0 0,.int es.size 0,.int Ai 0] }=f2 at PD ME eA Nt |-;have y3:d≠f1.objs.size:=Ef (by rw[hz];exact W1 EG);have W:=(ab6 (prog:=prog) (w:=w) (A:=A.in1) hh f1.objs.size d y3 es Ai).toS;have Qk:s.heap.objs.size∉[f1.objs.size,d]:=λh=>by
  rcases List.mem_cons.mp h with e|h
  .lia
  .exact hl (List.mem_singleton.mp h)
 refine AL (Iv ?_);unfold Builtin.List.listLengthHint;refine AL (Of (s:={ s with heap:=f2 }) (ME.typeIs (s:={ s with heap:=f2 })) rx ?_)
 (generalize de:("dict.__len__" :String)=gq;(fail_if_success (clear de gq));wp_delta;rw[show splitId gq=some ("dict","__len__")from by subst de;decide+kernel];subst de)
 refine AL (RX (b:=true) (ME.typeIs (s:={ s with heap:=f2 })) (by rw[isSubtype_type];kernel_rfl) ?_);rw[if_neg (by simp)];dsimp only;rw[if_pos (by decide+kernel)];refine AL (WA (ME.typeIs (s:={ s with heap:=f2 })) ?_);refine Aw ?_;rw[if_pos (by decide+kernel)];refine AL (Ol (AL ?_));show AV _ A.in1 (updateSeq s.heap.objs.size (·.push .none)>>=λ_=>updateSeq s.heap.objs.size (·.pop)) _ _ { s with heap:=f2 };refine AL (wpAny_updateSeq (s:={ s with heap:=f2 }) eA rfl ?_);have hk:=Oi (NM (·.push H3)) eA rfl;refine wpAny_updateSeq hk rfl ?_;have uJ:=Oi (NM (·.pop)) hk rfl
 have NZ:∀b o,b≠s.heap.objs.size->f2.get? b=some o->
   ((f2.update s.heap.objs.size (NM (·.push H3))).update s.heap.objs.size (NM (·.pop))).get? b=some o:=
  λb o A1 e=>(Vn _ _ (Ku A1)).trans ((Vn _ _ (Ku A1)).trans e)
 refine Aw ⟨WF F.plain_extend_loop _,codeAny_extend_loopS W AW _ Qk _ es.size 0 _ _ _ (by lia) (Gi _)
  (W.frame 0 ({ s with heap:=f2 }:AJ) _ s.toks ⟨PD,ME⟩ (C1 _) λb A1 o e=>NZ b o (λh=>Qk (h▸A1)) e) uJ (ItemsOf.nil _) λs' WL F7 v5 Rk gt=>?_⟩
 show AV _ A (load s.heap.objs.size>>=_) _ _ s';refine AL (wpAny_load Rk ?_);refine Aw ?_;show Q WL.toList s';rw[vo gt];obtain⟨GY,HA,Sr,Ss,ww⟩:=v5;have G3:=D3 Rk;obtain⟨a1,a2,Bi,Hw,J8⟩:=s';dsimp only at GY HA Sr Ss G3;subst HA Sr Ss;refine Dt a1 Hw (λb o e=>?_) G3;have A1:=D3 e;exact GY b o (λz=>by
  rcases List.mem_cons.mp z with e|z
  .rw[e]at A1;exact Iw _ A1
  .rw[List.mem_singleton.mp z,hz]at A1;exact absurd A1 (Nat.not_lt.mpr (Q5 _))) (NZ b o (λz=>by rw[z]at A1;exact Iw _ A1) (Nt b o e))
def abn{d:A4}{Ai:Nat}{us:List A3}{Q:A3->AJ->Prop}(hh:A.handled=none)(hd:(d==Iu)=false)(hm:K8 s.heap d es Ai)(FV:es.toList.map (·.key)=us)(AW:us.length<64)(AK:∀v∈us,∃k t,v=.int k t)(h:∀(vs:List A3)(l:A4)(h':Ar) By e,vs.length=us.length->(∀v∈vs,∃k t,v=.int k t)->vs.map numOf=IE (us.map numOf)->s.heap.objs.size<=l->(∀b o,s.heap.get? b=some o->h'.get? b=some o)->h'.get? l=some (seqObj "list" vs.toArray e)->Q (.ref l) { s with heap:=h',toks:=By }) :
  AV (Al prog w) A (call (.builtin "sorted") [.ref d]) Q E s:=by
 have hz:es.size<=Bu:=by have:=congrArg RZ FV;rw[DV,Oj]at this;rw[Li];lia
 refine Calls.call_function_entry kind_sorted plain_sorted entry_sorted (args_sorted1 _) ?_;unfold Oo.«sorted»;refine AL (m:=checkCount "sorted" 1 1 _) (Aw (AL (qk (A:=A.in1) hh hd hm hz λf By Bd hz=>?_)));rw[FV];refine AL (wpAny_newList (hsz:=by rw[Li];lia) ?_);have g:(f.push (seqObj "list" us.toArray 0)).get? f.objs.size=some (seqObj "list" us.toArray 0):=Fc _ rfl;have hz:=Q2 hz;show AV _ _ _ _ _ { s with heap:=f.push (seqObj "list" us.toArray 0),toks:=By };refine AL (Iv (Kl slot_list_sort ⟨_,g,rfl⟩ entry_list_sort (list_sort_tree (s:={ s with heap:=f.push (seqObj "list" us.toArray 0),toks:=By }) g (intsAre_map us AK) AW λout ns' a1 a2 Bi=>⟨_,rfl,?_⟩) (args_list_sort _)));obtain⟨e,ge⟩:=sortedHeap_at (out:=out) g;obtain⟨Dd,Cn,Xi⟩:=mS (us:=us) a1 a2 Bi;refine Aw ⟨_,rfl,h out.toList _ _ By e Dd Cn Xi hz (λb o q=>?_) ge⟩;have ka:=Cz (seqObj "list" us.toArray 0) (Bd b o q);exact(sortedHeap_old (λz:b=f.objs.size=>absurd (z▸D3 q) (Nat.not_lt.mpr hz)) (D3 ka)).trans ka
end
end LT
namespace CG
open PySem B8
inductive W where
 |non|AM (b:Bool)|int (i:Int)|str (x:Str)|tup (ws:List W)|I1 (ws:List W)|Eb (ws:List W)|ref (n:Nat)|Nk (c:Str)
inductive PX where
 |lst|B3 (ks:List Key)|JA (ks:List Key)|Da (ks:List Cf)|ins (c:Str) (ns:List Str)
 deriving DecidableEq
structure O where
 k:PX
 ws:List W
abbrev A5:=List O
def I_(K:Ad)(c:Str)(C:A4):Prop:=Kr K Fm c=some (some (.ref C))
noncomputable def dT(K:Ad)(H:A8)(a:A4)(xs:List V):Prop:=(∃o,H a=some (.EF o (.lst xs)))\/∃(o:Obj)(its:Array A3)(n:Nat),K.lookup a=some o/\o.cls=.type "list"/\o.dict=none/\o.data=.seq its n/\its.size<=Bu/\Vals xs its.toList
def dT.Dj{K:Ad}{H:A8}{a:A4}{xs:List V}(h:dT K H a xs):EL K H a xs:=h.elim (λ⟨o,e⟩=>.inl (.inr ⟨o,e⟩)) .inr
mutual
noncomputable def AQ(K:Ad)(φ:List A4)(H:A8):W->V->Prop
 |.non,v=>v=.non
 |.AM b,v=>v=.AM b
 |.int i,v=>v=.int i
 |.str x,v=>v=.str x
 |.tup ws,v=>∃a xs,v=.ref a/\H a=some (.tup xs)/\Ac K φ H ws xs
 |.I1 ws,v=>∃a xs,v=.ref a/\EM K H a xs/\Ac K φ H ws xs
 |.Eb ws,v=>∃a xs,v=.ref a/\dT K H a xs/\Ac K φ H ws xs
 |.ref n,v=>∃a,v=.ref a/\φ[n]?=some a
 |.Nk c,v=>∃a C,v=.ref a/\I_ K c C/\H a=some (rl a (.ref C))
noncomputable def Ac(K:Ad)(φ:List A4)(H:A8):List W->List V->Prop
 |[],vs=>vs=[]
 |w::ws,vs=>∃v r,vs=v::r/\AQ K φ H w v/\Ac K φ H ws r
end
def Still:El->Prop
 |.tup _=>True
 |.EF _ _=>True
 |.ext _=>True
 |_=>False
structure Ag(φ:List A4)(H:A8)(BL:List A4)(A6:A8):Prop where
 p:φ<+: BL
 t:∀b o,H b=some o->Still o->A6 b=some o
section
variable{K:Ad}{φ BL CE:List A4}{H A6 AS:A8}
def Ag.refl(φ:List A4)(H:A8):Ag φ H φ H:=⟨T2,λ_ _ e _=>e⟩
theorem Ag.trans(a:Ag φ H BL A6)(b:Ag BL A6 CE AS):Ag φ H CE AS:=⟨a.p.trans b.p,λc o e s=>b.t c o (a.t c o e s) s⟩
def FY{α:Type}{l Zc:List α}(p:l<+: Zc){n:Nat}{a:α}(e:l[n]?=some a):Zc[n]?=some a:=by obtain⟨r,rfl⟩:=p;rw[EZ (List.getElem?_eq_some_iff.mp e).1];exact e
def EM.ex(x:Ag φ H BL A6){a:A4}{xs:List V}(h:EM K H a xs):EM K A6 a xs:=by
 rcases h with(h|⟨o,h⟩)|h
 .exact .inl (.inl (x.t _ _ h trivial))
 .exact .inl (.inr ⟨o,x.t _ _ h trivial⟩)
 .exact .inr h
mutual
theorem AQ.ex(x:Ag φ H BL A6):∀{w:W}{v:V},AQ K φ H w v->AQ K BL A6 w v
 |.non,_,h|.AM _,_,h|.int _,_,h|.str _,_,h=>by simpa only[AQ]using h
 |.tup _,_,h=>by simp only[AQ]at h |-;obtain⟨a,xs,e,q,r⟩:=h;exact⟨a,xs,e,x.t _ _ q trivial,Ac.ex x r⟩
 |.I1 _,_,h=>by simp only[AQ]at h |-;obtain⟨a,xs,e,q,r⟩:=h;exact⟨a,xs,e,EM.ex x q,Ac.ex x r⟩
 |.Eb _,_,h=>by simp only[AQ]at h |-;obtain⟨a,xs,e,q,r⟩:=h;exact⟨a,xs,e,q.elim (λ⟨o,q⟩=>.inl ⟨o,x.t _ _ q trivial⟩) .inr,Ac.ex x r⟩
 |.ref _,_,h=>by simp only[AQ]at h |-;obtain⟨a,e,q⟩:=h;exact⟨a,e,FY x.p q⟩
 |.Nk _,_,h=>by simp only[AQ]at h |-;obtain⟨a,C,e,c,q⟩:=h;exact⟨a,C,e,c,x.t _ _ q trivial⟩
theorem Ac.ex(x:Ag φ H BL A6):∀{ws:List W}{vs:List V},Ac K φ H ws vs->Ac K BL A6 ws vs
 |[],_,h=>by simpa only[Ac]using h
 |_::_,_,h=>by simp only[Ac]at h |-;obtain⟨v,r,e,q,t⟩:=h;exact⟨v,r,e,AQ.ex x q,Ac.ex x t⟩
end
def Ac.nil:Ac K φ H [] []:=by simp only[Ac]
def Ac.cons{w:W}{ws:List W}{v:V}{vs:List V}(a:AQ K φ H w v)(b:Ac K φ H ws vs):Ac K φ H (w::ws) (v::vs):=by simp only[Ac];exact⟨v,vs,rfl,a,b⟩
theorem Ac.length:∀{ws:List W}{vs:List V},Ac K φ H ws vs->ws.length=vs.length
 |[],_,h=>by simp only[Ac]at h;subst h;rfl
 |_::_,_,h=>by simp only[Ac]at h;obtain⟨v,r,rfl,_,t⟩:=h;simp[Ac.length t]
theorem Ac.get:∀{ws:List W}{vs:List V}{i:Nat}{w:W},Ac K φ H ws vs->ws[i]?=some w->∃v,vs[i]?=some v/\AQ K φ H w v
 |[],_,_,_,_,e=>by simp at e
 |_::_,_,0,_,h,e=>by simp only[Ac]at h;obtain⟨v,r,rfl,q,_⟩:=h;simp at e;subst e;exact⟨v,rfl,q⟩
 |_::_,_,i+1,w,h,e=>by simp only[Ac]at h;obtain⟨v,r,rfl,_,t⟩:=h;obtain⟨u,h1,h2⟩:=Ac.get (i:=i) (w:=w) t (by simpa using e);exact⟨u,by simpa using h1,h2⟩
theorem Ac.append:∀{ws us:List W}{vs ys:List V},Ac K φ H ws vs->Ac K φ H us ys->Ac K φ H (ws++us) (vs++ys)
 |[],_,_,_,h,t=>by simp only[Ac]at h;subst h;exact t
 |_::_,_,_,_,h,t=>by simp only[Ac]at h;obtain⟨v,r,rfl,q,s⟩:=h;exact .cons q (Ac.append s t)
theorem Ac.take:∀(n:Nat){ws:List W}{vs:List V},Ac K φ H ws vs->Ac K φ H (ws.take n) (vs.take n)
 |0,_,_,_=>by simpa using Ac.nil
 |_+1,[],_,h=>by simp only[Ac]at h;subst h;simpa using Ac.nil
 |n+1,_::_,_,h=>by simp only[Ac]at h;obtain⟨v,r,rfl,q,t⟩:=h;exact .cons q (Ac.take n t)
theorem Ac.drop:∀(n:Nat){ws:List W}{vs:List V},Ac K φ H ws vs->Ac K φ H (ws.drop n) (vs.drop n)
 |0,_,_,h=>h
 |_+1,[],_,h=>by simp only[Ac]at h;subst h;simpa using Ac.nil
 |n+1,_::_,_,h=>by simp only[Ac]at h;obtain⟨v,r,rfl,_,t⟩:=h;exact Ac.drop n t
theorem Ac.set{w:W}{v:V}(q:AQ K φ H w v):∀(n:Nat){ws:List W}{vs:List V},Ac K φ H ws vs->Ac K φ H (ws.set n w) (vs.set n v)
 |_,[],_,h=>by simp only[Ac]at h;subst h;simpa using Ac.nil
 |0,_::_,_,h=>by simp only[Ac]at h;obtain⟨u,r,rfl,_,t⟩:=h;exact .cons q t
 |n+1,_::_,_,h=>by simp only[Ac]at h;obtain⟨u,r,rfl,p,t⟩:=h;exact .cons p (Ac.set q n t)
end
noncomputable def M1(K:Ad)(H:A8)(a:A4)(xs:List V):PX->Prop
 |.lst=>H a=some (.lst xs)
 |.B3 ks=>∃AA,H a=some (.B3 AA)/\AA.map (·.1)=ks/\AA.map (·.2)=xs
 |.JA ks=>∃o AA,H a=some (.EF o (.B3 AA))/\AA.map (·.1)=ks/\AA.map (·.2)=xs
 |.Da ks=>∃AA,H a=some (.Da AA)/\AA.map (·.1)=ks/\AA.map (·.2)=xs
 |.ins c ns=>∃C BY Ay,I_ K c C/\H a=some (.ins C BY Ay)/\Ay.map (·.1)=ns/\Ay.map (·.2)=xs
structure Cr(K:Ad)(φ:List A4)(h:A5)(H:A8):Prop where
 C3:φ.Nodup
 len:φ.length=h.length
 Bc:∀(n:Nat) o a,h[n]?=some o->φ[n]?=some a->∃xs,M1 K H a xs o.k/\Ac K φ H o.ws xs
abbrev BI:=List (Option W)
structure D8 where
 K:Ad
 E5:List A4
 C2:A8
 Ly:Str->A8->Prop
structure Rel(F:D8)(φ:List A4)(h:A5)(H:A8)(σ :St)(ρ:BI):Prop where
 hd:Cr F.K φ h H
 x0:Ag F.E5 F.C2 φ H
 len: σ.length=ρ.length
 C9:∀(i:Nat) w,ρ[i]?=some (some w)->∃v,σ[i]?=some (some v)/\AQ F.K φ H w v
inductive R(α:Type) where
 |ok (a:α)|exc (c:Str) (h:A5)|bad
def R.bind{α β:Type}:R α->(α->R β)->R β
 |.ok a,k=>k a
 |.exc c h,_=>.exc c h
 |.bad,_=>.bad
abbrev M(α:Type):=BI->A5->R (α×A5)
def ZZ(F:D8)(φ:List A4)(H:A8)(c:Str)(h':A5):Prop:=∀BL A6,Ag φ H BL A6->Cr F.K BL h' A6->F.Ly c A6
noncomputable def Es{α β:Type}(rel:Ad->List A4->A8->α->β->Prop)(F:D8)(φ:List A4)(H:A8)(σ :St)(ρ:BI)(Q:β->A8->Prop):R (α×A5)->Prop
 |.ok (a,h')=>∀b BL A6,Rel F BL h' A6 σ ρ->Ag φ H BL A6->rel F.K BL A6 a b->Q b A6
 |.exc c h'=>ZZ F φ H c h'
 |.bad=>False
def O8{α β:Type}(rel:Ad->List A4->A8->α->β->Prop)(F:D8)(m:M α)(σ :St)(H:A8)(Q:β->A8->Prop):Prop:=∃φ ρ h,Rel F φ h H σ ρ/\Es rel F φ H σ ρ Q (m ρ h)
def ke(_:Ad)(_:List A4)(_:A8)(a b:Bool):Prop:=b=a
abbrev B9:=M W
abbrev DK:=M Bool
abbrev EK:=M (List W)
abbrev C6(F:D8)(m:B9):TE:=O8 AQ F m
abbrev HW(F:D8)(m:DK):TT:=O8 ke F m
abbrev GC(F:D8)(m:EK):FM:=O8 Ac F m
def bd{α β:Type}(m:M α)(k:α->M β):M β:=λρ h=>(m ρ h).bind λp=>k p.1 ρ p.2
section
variable{F:D8}{φ BL:List A4}{H A6:A8}{σ :St}{ρ:BI}{h:A5}{α β OW bY:Type}{rel:Ad->List A4->A8->α->β->Prop}{Z9:Ad->List A4->A8->OW->bY->Prop}
def Es.ex{Q:β->A8->Prop}(x:Ag φ H BL A6):∀{r:R (α×A5)},Es rel F φ H σ ρ Q r->Es rel F BL A6 σ ρ Q r
 |.ok (_,_),k=>λb CE AS r y z=>k b CE AS r (x.trans y) z
 |.exc _ _,k=>λCE AS y d=>k CE AS (x.trans y) d
 |.bad,k=>k
def Es.imp{Q Hv:β->A8->Prop}(f:∀b H,Q b H->Hv b H):∀{r:R (α×A5)},Es rel F φ H σ ρ Q r->Es rel F φ H σ ρ Hv r
 |.ok (_,_),k=>λb CE AS r y z=>f _ _ (k b CE AS r y z)
 |.exc _ _,k=>k
 |.bad,k=>k
theorem Es.bd{m:M α}{k:α->M OW}{Q:bY->A8->Prop}{Hv:β->A8->Prop}(q:Es Z9 F φ H σ ρ Q (bd m k ρ h))(f:∀a b C7 h1 H1,Rel F C7 h1 H1 σ ρ->Ag φ H C7 H1->rel F.K C7 H1 a b->Es Z9 F C7 H1 σ ρ Q (k a ρ h1)->Hv b H1):Es rel F φ H σ ρ Hv (m ρ h):=by
 unfold CG.bd at q;cases e:m ρ h with
 |ok p=>rw[e]at q;obtain⟨a,h1⟩:=p;exact λb C7 H1 r x z=>f a b C7 h1 H1 r x z (Es.ex x q)
 |exc c h'=>rw[e]at q;exact q
 |bad=>rw[e]at q;cases q
theorem O8.bd{m:M α}{k:α->M OW}{Q:bY->A8->Prop}{Hv:β->A8->Prop}(q:O8 Z9 F (bd m k) σ H Q)(f:∀a b C7 ρ h1 H1,Rel F C7 h1 H1 σ ρ->rel F.K C7 H1 a b->Es Z9 F C7 H1 σ ρ Q (k a ρ h1)->Hv b H1):O8 rel F m σ H Hv:=by obtain⟨φ,ρ,h,r,q⟩:=q;exact⟨φ,ρ,h,r,q.bd λa b C7 h1 H1 r x z q=>f a b C7 ρ h1 H1 r z q⟩
end
section
variable{K:Ad}{φ:List A4}{h:A5}{H:A8}{F:D8}{σ :St}{ρ:BI}
def M1.is{a:A4}{xs:List V}{k:PX}(q:M1 K H a xs k):∃o,H a=some o:=by
 cases k with
 |lst=>exact⟨_,q⟩
 |B3 ks=>obtain⟨_,e,_⟩:=q;exact⟨_,e⟩
 |JA ks=>obtain⟨_,_,e,_⟩:=q;exact⟨_,e⟩
 |Da ks=>obtain⟨_,e,_⟩:=q;exact⟨_,e⟩
 |ins c ns=>obtain⟨C,BY,Ay,_,e,_⟩:=q;exact⟨_,e⟩
def M1.same{A6:A8}{a:A4}{xs:List V}{k:PX}(q:M1 K H a xs k)(e:A6 a=H a):M1 K A6 a xs k:=by cases k<;>simp only[M1]at q |-<;>rw[e]<;>exact q
def Cr.has(d:Cr K φ h H){a:A4}(m:a∈φ):∃o,H a=some o:=by
 obtain⟨n,e⟩:=br m;have AW:n<h.length:=by rw[<-d.len];exact(List.getElem?_eq_some_iff.mp e).1
 obtain⟨xs,q,_⟩:=d.Bc n _ a (CF AW) e;exact q.is
def Cr.out(d:Cr K φ h H){p:A4}(AT:H p=none):p∉φ:=λm=>by obtain⟨o,e⟩:=d.has m;rw[AT]at e;cases e
def Ag.lay{p:A4}{o:El}(AT:H p=none):Ag φ H φ (upd H p o):=⟨T2,λb u e _=>by rw[D2 (Kb e AT)];exact e⟩
def Ag.UL{p:A4}{o:El}(AT:H p=none):Ag φ H (φ++[p]) (upd H p o):=⟨Gk _ _,(Ag.lay (φ:=φ) AT).t⟩
def Ag.put{p:A4}{o u:El}(e:H p=some u)(s:¬Still u):Ag φ H φ (upd H p o):=⟨T2,λb v q z=>by
 rw[D2]
 .exact q
 .rintro rfl;rw[e]at q;cases q;exact s z⟩
def Cr.over{A6:A8}(d:Cr K φ h H)(x:Ag φ H φ A6)(k:∀a∈φ,A6 a=H a):Cr K φ h A6:=⟨d.C3,d.len,λn o a A9 AE=>by obtain⟨xs,q,r⟩:=d.Bc n o a A9 AE;exact⟨xs,q.same (k a (Hn AE)),r.ex x⟩⟩
theorem Cr.lay{p:A4}{o:El}(d:Cr K φ h H)(AT:H p=none):Cr K φ h (upd H p o):=d.over (Ag.lay AT) λa m=>D2 λz=>d.out AT (z▸m)
def Cr.new{p:A4}{ho:El}{k:PX}{ws:List W}{xs:List V}(d:Cr K φ h H)(AT:H p=none)(q:M1 K (upd H p ho) p xs k)(r:Ac K φ H ws xs):Cr K (φ++[p]) (h++[⟨k,ws⟩]) (upd H p ho):=by
 have x:=Ag.UL (φ:=φ) (o:=ho) AT;refine⟨?_,by simp[d.len],λn o a A9 AE=>?_⟩
 .rw[c6];exact⟨d.C3,by simp,λa AB b A1 z=>d.out AT (by rw[<-List.mem_singleton.mp A1,<-z];exact AB)⟩
 .by_cases AW:n<h.length
  .rw[EZ AW]at A9;rw[EZ (by rw[d.len];exact AW)]at AE;obtain⟨ys,Cc,BK⟩:=d.Bc n o a A9 AE;exact⟨ys,Cc.same (D2 λz=>d.out AT (z▸Hn AE)),BK.ex x⟩
  .have Zt:n=h.length:=by
     have:=(List.getElem?_eq_some_iff.mp A9).1;simp at this;lia
   subst Zt;simp at A9;rw[<-d.len]at AE;simp at AE;subst A9 AE;exact⟨xs,q,r.ex x⟩
theorem Cr.put{n:Nat}{a:A4}{o o':O}{u ho:El}{xs:List V}(d:Cr K φ h H)(Az:h[n]?=some o)(Bg:φ[n]?=some a)(FV:H a=some u)(st:¬Still u)(q:M1 K (upd H a ho) a xs o'.k)(r:Ac K φ H o'.ws xs):Cr K φ (h.set n o') (upd H a ho):=by
 have x:Ag φ H φ (upd H a ho):=Ag.put FV st;refine⟨d.C3,by simp[d.len],λm Cn b A9 AE=>?_⟩;by_cases hm:n=m
 .subst hm;rw[JQ (List.getElem?_eq_some_iff.mp Az).1]at A9;rw[Bg]at AE;cases A9;cases AE;exact⟨xs,q,r.ex x⟩
 .rw[Lf hm]at A9;obtain⟨ys,Cc,BK⟩:=d.Bc m Cn b A9 AE;refine⟨ys,Cc.same (D2 λz=>?_),BK.ex x⟩;subst z;obtain⟨B1,JI⟩:=List.getElem?_eq_some_iff.mp Bg;obtain⟨BW,Jd⟩:=List.getElem?_eq_some_iff.mp AE;exact hm ((W4 d.C3).mp (JI.trans Jd.symm))
theorem Cr.at(d:Cr K φ h H){n:Nat}{o:O}{v:V}(e:h[n]?=some o)(q:AQ K φ H (.ref n) v):∃a xs,v=.ref a/\φ[n]?=some a/\M1 K H a xs o.k/\Ac K φ H o.ws xs:=by simp only[AQ]at q;obtain⟨a,rfl,Bg⟩:=q;obtain⟨xs,q,r⟩:=d.Bc n o a e Bg;exact⟨a,xs,rfl,Bg,q,r⟩
def Rel.to{BL:List A4}{h':A5}{A6:A8}(r:Rel F φ h H σ ρ)(d:Cr F.K BL h' A6)(x:Ag φ H BL A6):Rel F BL h' A6 σ ρ:=⟨d,r.x0.trans x,r.len,λi w e=>by obtain⟨v,A9,q⟩:=r.C9 i w e;exact⟨v,A9,q.ex x⟩⟩
theorem Rel.set{i:Nat}{w:W}{v:V}(r:Rel F φ h H σ ρ)(A7:i<ρ.length)(q:AQ F.K φ H w v):Rel F φ h H (σ.set i (some v)) (ρ.set i (some w)):=⟨r.hd,r.x0,by simp[r.len],λj CD e=>by
 by_cases Af:i=j
 .subst Af;rw[JQ A7]at e;cases e;exact⟨v,JQ (by rw[r.len];exact A7),q⟩
 .rw[Lf Af]at e |-;exact r.C9 j CD e⟩
def AQ.Gc{n:Nat}{a:A4}(e:φ[n]?=some a):AQ K φ H (.ref n) (.ref a):=by simp only[AQ];exact⟨a,rfl,e⟩
def YU{p:A4}(d:Cr K φ h H):(φ++[p])[h.length]?=some p:=by rw[<-d.len];simp
end
section
variable{F:D8}
abbrev FL(t' t:TE):Prop:=∀ σ H Q,t' σ H Q->t σ H Q
abbrev Qr(t' t:TT):Prop:=∀ σ H Q,t' σ H Q->t σ H Q
abbrev dI(t' t:FM):Prop:=∀ σ H Q,t' σ H Q->t σ H Q
abbrev Jv(t' t:F6):Prop:=∀Bv σ H,t' Bv σ H->t Bv σ H
def pu{α:Type}(a:α):M α:=λ_ h=>.ok (a,h)
def J(i:Nat):B9:=λρ h=>match ρ[i]? with
 |some (some w)=>.ok (w,h)
 |_=>.bad
def wC(i:Nat):FL (C6 F (J i)) (o6 i):=by
 rintro σ H Q ⟨φ,ρ,h,r,q⟩;unfold J at q
 split at q
 .rename_i w e;obtain⟨v,A9,a⟩:=r.C9 i w e;exact⟨v,A9,q v φ H r (Ag.refl _ _) a⟩
 .exact q.elim
def Uv{w:W}{v:V}(a:∀φ H,AQ F.K φ H w v):FL (C6 F (pu w)) (Pj v):=by rintro σ H Q ⟨φ,ρ,h,r,q⟩;exact q v φ H r (Ag.refl _ _) (a _ _)
def A0(f:W->W->A5->R (W×A5))(a b:B9):B9:=bd a λx=>bd b λy _ h=>f x y h
def Hb(F:D8)(r:ET)(f:W->W->A5->R (W×A5)):Prop:=∀ σ ρ φ h H x y G7 Gg Q,Rel F φ h H σ ρ->AQ F.K φ H G7 x->AQ F.K φ H Gg y->Es AQ F φ H σ ρ Q (f G7 Gg h)->r x y H Q
def FG{r:ET}{f:W->W->A5->R (W×A5)}{a b:B9}(ho:Hb F r f):FL (C6 F (A0 f a b)) (S6 r (C6 F a) (C6 F b)):=λσ H Q q=>
 q.bd λx v φ ρ h H1 r Dz q=>⟨φ,ρ,h,r,q.bd λy u CE h2 AS B6 CZ GI q=>ho σ ρ CE h2 AS v u x y Q B6 (Dz.ex CZ) GI q⟩
def Bf(f:W->A5->R (W×A5))(a:B9):B9:=bd a λx _ h=>f x h
def pb(F:D8)(r:V->A8->CA->Prop)(f:W->A5->R (W×A5)):Prop:=∀ σ ρ φ h H x w Q,Rel F φ h H σ ρ->AQ F.K φ H w x->Es AQ F φ H σ ρ Q (f w h)->r x H Q
def wB{r:V->A8->CA->Prop}{f:W->A5->R (W×A5)}{a:B9}(ho:pb F r f):FL (C6 F (Bf f a)) (o5 r (C6 F a)):=λσ H Q q=>
 q.bd λx v φ ρ h H1 r Dz q=>ho σ ρ φ h H1 v x Q r Dz q
def A2:EK:=pu []
def Z(a:B9)(r:EK):EK:=bd a λx=>bd r λxs=>pu (x::xs)
def XI:dI (GC F A2) Yc:=by rintro σ H Q ⟨φ,ρ,h,r,q⟩;exact q [] φ H r (Ag.refl _ _) .nil
def aA{a:B9}{m:EK}:dI (GC F (Z a m)) (Ya (C6 F a) (GC F m)):=λσ H Q q=>
 q.bd λx v φ ρ h H1 r Dz q=>⟨φ,ρ,h,r,q.bd λxs vs CE h2 AS B6 CZ as q=>q (v::vs) CE AS B6 (Ag.refl _ _) (.cons (Dz.ex CZ) as)⟩
def B4:Nat:=1000000
def Bn(m:EK):B9:=bd m λxs=>if xs.length<=B4 then pu (.tup xs)else λ_ _=>.bad
def wA{m:EK}:FL (C6 F (Bn m)) (o4 (GC F m)):=λσ H Q q=>
 q.bd λxs vs φ ρ h H1 r as q=>by
   by_cases AF:xs.length<=B4
   .rw[if_pos AF]at q;refine⟨by rw[<-as.length];exact I8 AF (by decide),λp AT=>?_⟩;refine q (.ref p) φ _ (r.to (r.hd.lay AT) (Ag.lay AT)) (Ag.lay AT) ?_;simp only[AQ];exact⟨p,vs,rfl,EX,as.ex (Ag.lay AT)⟩
   .rw[if_neg AF]at q;cases q
def nw(k:PX)(ws:List W)(h:A5):R (W×A5):=if ws.length<=B4 then .ok (.ref h.length,h++[⟨k,ws⟩])else .bad
def O6{φ:List A4}{h:A5}{H:A8}{σ :St}{ρ:BI}{Q:CA}{k:PX}{ws:List W}{xs:List V}{ho:El}{p:A4}(r:Rel F φ h H σ ρ)(q:Es AQ F φ H σ ρ Q (nw k ws h))(AT:H p=none)(o:M1 F.K (upd H p ho) p xs k)(as:Ac F.K φ H ws xs):Q (.ref p) (upd H p ho):=by
 unfold nw at q
 split at q
 .exact q (.ref p) (φ++[p]) _ (r.to (r.hd.new AT o as) (Ag.UL AT)) (Ag.UL AT) (.Gc (YU r.hd))
 .exact q.elim
def b0{φ:List A4}{h:A5}{H:A8}{σ :St}{ρ:BI}{Q:CA}{k:PX}{ws:List W}(q:Es AQ F φ H σ ρ Q (nw k ws h)):ws.length<=B4:=by
 unfold nw at q
 split at q
 .assumption
 .exact q.elim
def CO(m:EK):B9:=bd m λxs _ h=>nw .lst xs h
def uO{m:EK}:FL (C6 F (CO m)) (ni (GC F m)):=λσ H Q q=>
 q.bd λxs vs φ ρ h H1 r as q=>⟨by rw[<-as.length];exact I8 (b0 q) (by decide),λp AT=>O6 r q AT EX as⟩
def M5{α:Type}(k:Bool->M α):W->M α
 |.AM b=>k b
 |_=>λ_ _=>.bad
def A_(m:B9):DK:=bd m (M5 pu)
def UD{α β:Type}{rel:Ad->List A4->A8->α->β->Prop}{k:Bool->M α}{φ:List A4}{h:A5}{H:A8}{σ :St}{ρ:BI}{Q:β->A8->Prop}{w:W}{v:V}(a:AQ F.K φ H w v)(q:Es rel F φ H σ ρ Q (M5 k w ρ h)):∃c,v=.AM c/\Es rel F φ H σ ρ Q (k c ρ h):=by cases w<;>first|exact q.elim|(simp only[AQ]at a;exact⟨_,a,q⟩)
def J_{m:B9}:Qr (HW F (A_ m)) (ak (C6 F m)):=λσ H Q q=>
 q.bd λx v φ ρ h H1 r Dz q=>let⟨c,e,q⟩:=UD Dz q;⟨c,e,q c φ H1 r (Ag.refl _ _) rfl⟩
def HI(a b:DK):DK:=bd a λc=>if c=true then b else pu false
def EV(a b:DK):DK:=bd a λc=>if c=true then pu true else b
def DT(a:DK):DK:=bd a λc=>pu (!c)
def uh{a b:DK}:Qr (HW F (HI a b)) (m2 (HW F a) (HW F b)):=λσ H Q q=>
 q.bd λx c φ ρ h H1 r e q=>by
   cases e;cases x with
   |true=>exact⟨φ,ρ,h,r,q⟩
   |false=>exact q false φ H1 r (Ag.refl _ _) rfl
def uT{a b:DK}:Qr (HW F (EV a b)) (nu (HW F a) (HW F b)):=λσ H Q q=>
 q.bd λx c φ ρ h H1 r e q=>by
   cases e;cases x with
   |false=>exact⟨φ,ρ,h,r,q⟩
   |true=>exact q true φ H1 r (Ag.refl _ _) rfl
def uR{a:DK}:Qr (HW F (DT a)) (nr (HW F a)):=λσ H Q q=>
 q.bd λx c φ ρ h H1 r e q=>by cases e;exact q _ φ H1 r (Ag.refl _ _) rfl
def LO(a b:B9):B9:=bd a (M5 λc=>if c=true then b else pu (.AM false))
def US(a b:B9):B9:=bd a (M5 λc=>if c=true then pu (.AM true)else b)
def UR(a:B9):B9:=bd a (M5 λc=>pu (.AM (!c)))
def Mv{K:Ad}{φ:List A4}{H:A8}(b:Bool):AQ K φ H (.AM b) (.AM b):=by simp only[AQ]
def ui{a b:B9}:FL (C6 F (LO a b)) (m3 (C6 F a) (C6 F b)):=λσ H Q q=>
 q.bd λx v φ ρ h H1 r Dz q=>by
   obtain⟨c,e,q⟩:=UD Dz q;refine⟨c,e,?_⟩;cases c with
   |true=>exact⟨φ,ρ,h,r,q⟩
   |false=>exact q _ φ H1 r (Ag.refl _ _) (Mv _)
def uw{a b:B9}:FL (C6 F (US a b)) (nv (C6 F a) (C6 F b)):=λσ H Q q=>
 q.bd λx v φ ρ h H1 r Dz q=>by
   obtain⟨c,e,q⟩:=UD Dz q;refine⟨c,e,?_⟩;cases c with
   |false=>exact⟨φ,ρ,h,r,q⟩
   |true=>exact q _ φ H1 r (Ag.refl _ _) (Mv _)
def uS{a:B9}:FL (C6 F (UR a)) (nt (C6 F a)):=λσ H Q q=>
 q.bd λx v φ ρ h H1 r Dz q=>let⟨c,e,q⟩:=UD Dz q;⟨c,e,q _ φ H1 r (Ag.refl _ _) (Mv _)⟩
def Mo{α:Type}(c:DK)(a b:M α):M α:=bd c λk=>if k=true then a else b
def uL{c:DK}{a b:B9}:FL (C6 F (Mo c a b)) (ng (HW F c) (C6 F a) (C6 F b)):=λσ H Q q=>
 q.bd λx k φ ρ h H1 r e q=>by cases e;cases x<;>exact⟨φ,ρ,h,r,q⟩
inductive En where
 |AP (ρ:BI)|Do (w:W)|BF (ρ:BI)|Cv (ρ:BI)
abbrev An:=M En
noncomputable def EC(F:D8)(φ:List A4)(H:A8)(Bv:Ends):R (En×A5)->Prop
 |.ok (.AP Dx,h')=>∀ σ' BL A6,Rel F BL h' A6 σ' Dx->Ag φ H BL A6->Bv.AP σ' A6
 |.ok (.BF Dx,h')=>∀ σ' BL A6,Rel F BL h' A6 σ' Dx->Ag φ H BL A6->Bv.BF σ' A6
 |.ok (.Cv Dx,h')=>∀ σ' BL A6,Rel F BL h' A6 σ' Dx->Ag φ H BL A6->Bv.Cv σ' A6
 |.ok (.Do w,h')=>∀v BL A6,Cr F.K BL h' A6->Ag φ H BL A6->AQ F.K BL A6 w v->Bv.Do v A6
 |.exc c h'=>ZZ F φ H c h'
 |.bad=>False
def G6(F:D8)(m:An):F6:=λBv σ H=>∃φ ρ h,Rel F φ h H σ ρ/\EC F φ H Bv (m ρ h)
def EC.ex{φ BL:List A4}{H A6:A8}{Bv:Ends}(x:Ag φ H BL A6):∀{r:R (En×A5)},EC F φ H Bv r->EC F BL A6 Bv r
 |.ok (.AP _,_),k|.ok (.BF _,_),k|.ok (.Cv _,_),k=>λσ' CE AS r y=>k σ' CE AS r (x.trans y)
 |.ok (.Do _,_),k=>λv CE AS d y a=>k v CE AS d (x.trans y) a
 |.exc _ _,k=>λCE AS y d=>k CE AS (x.trans y) d
 |.bad,k=>k
theorem EC.bd{α β:Type}{rel:Ad->List A4->A8->α->β->Prop}{m:M α}{k:α->An}{φ:List A4}{h:A5}{H:A8}{σ :St}{ρ:BI}{Bv:Ends}{Hv:β->A8->Prop}(q:EC F φ H Bv (bd m k ρ h))(f:∀a b C7 h1 H1,Rel F C7 h1 H1 σ ρ->Ag φ H C7 H1->rel F.K C7 H1 a b->EC F C7 H1 Bv (k a ρ h1)->Hv b H1):Es rel F φ H σ ρ Hv (m ρ h):=by
 unfold CG.bd at q;cases e:m ρ h with
 |ok p=>rw[e]at q;obtain⟨a,h1⟩:=p;exact λb C7 H1 r x z=>f a b C7 h1 H1 r x z (EC.ex x q)
 |exc c h'=>rw[e]at q;exact q
 |bad=>rw[e]at q;cases q
theorem G6.bd{α β:Type}{rel:Ad->List A4->A8->α->β->Prop}{m:M α}{k:α->An}{H:A8}{σ :St}{Bv:Ends}{Hv:β->A8->Prop}(q:G6 F (bd m k) Bv σ H)(f:∀a b C7 ρ h1 H1,Rel F C7 h1 H1 σ ρ->rel F.K C7 H1 a b->EC F C7 H1 Bv (k a ρ h1)->Hv b H1):O8 rel F m σ H Hv:=by obtain⟨φ,ρ,h,r,q⟩:=q;exact⟨φ,ρ,h,r,EC.bd q λa b C7 h1 H1 r x z q=>f a b C7 ρ h1 H1 r z q⟩
def Br:An:=λρ h=>.ok (.AP ρ,h)
def AO(a b:An):An:=λρ h=>(a ρ h).bind λp=>match p with
 |(.AP Dx,h')=>b Dx h'
 |p=>.ok p
def aD:Jv (G6 F Br) Yb:=by rintro Bv σ H ⟨φ,ρ,h,r,q⟩;exact q σ φ H r (Ag.refl _ _)
def w6{a b:An}:Jv (G6 F (AO a b)) (o1 (G6 F a) (G6 F b)):=by
 rintro Bv σ H ⟨φ,ρ,h,r,q⟩;refine⟨φ,ρ,h,r,?_⟩;unfold AO at q;cases e:a ρ h with
 |ok p=>
  rw[e]at q;obtain⟨f,h1⟩:=p;cases f with
  |AP Dx=>exact λσ' BL A6 BK x=>⟨BL,Dx,h1,BK,EC.ex x q⟩
  |_=>exact q
 |exc c h'=>rw[e]at q;exact q
 |bad=>rw[e]at q;cases q
def Fs(a:B9):An:=bd a λ_=>Br
def ut{a:B9}:Jv (G6 F (Fs a)) (nd (C6 F a)):=λBv σ H q=>
 q.bd λx v φ ρ h H1 r Dz q=>q σ φ H1 r (Ag.refl _ _)
def B5(a:B9):An:=bd a λw _ h=>.ok (.Do w,h)
def w4{a:B9}:Jv (G6 F (B5 a)) (nz (C6 F a)):=λBv σ H q=>
 q.bd λx v φ ρ h H1 r Dz q=>q v φ H1 r.hd (Ag.refl _ _) Dz
def w5:Jv (G6 F (B5 (pu .non))) o0:=by rintro Bv σ H ⟨φ,ρ,h,r,q⟩;exact q .non φ H r.hd (Ag.refl _ _) (by simp only[AQ])
def Bp(c:DK)(a b:An):An:=bd c λk=>if k=true then a else b
def uM{c:DK}{a b:An}:Jv (G6 F (Bp c a b)) (nh (HW F c) (G6 F a) (G6 F b)):=λBv σ H q=>
 q.bd λx k φ ρ h H1 r e q=>by cases e;cases x<;>exact⟨φ,ρ,h,r,q⟩
abbrev DC:=W->An
def AC(i:Nat):DC:=λw ρ h=>if i<ρ.length then .ok (.AP (ρ.set i (some w)),h)else .bad
def Ng(F:D8)(g:DC):J7:=λv σ H Q=>∃φ ρ h w,Rel F φ h H σ ρ/\AQ F.K φ H w v/\EC F φ H ⟨Q,λ_ _=>False,λ_ _=>False,λ_ _=>False⟩ (g w ρ h)
abbrev Wa(t' t:J7):Prop:=∀v σ H Q,t' v σ H Q->t v σ H Q
def Uw(i:Nat):Wa (Ng F (AC i)) (X1 i):=by
 rintro v σ H Q ⟨φ,ρ,h,w,r,a,q⟩;unfold AC at q
 split at q
 .rename_i A7;exact q _ φ H (r.set A7 a) (Ag.refl _ _)
 .exact q.elim
def AZ(a:B9)(g:DC):An:=bd a g
end
end CG
namespace CG
open PySem PySem.Spec B8
inductive D4 where
 |non|AM (b:Bool)|int (i:Int)|str (x:Str)|Dj (t:Bool) (ds:List D4)
mutual
noncomputable def GD(K:Ad)(H:A8):D4->V->Prop
 |.non,v=>v=.non
 |.AM b,v=>v=.AM b
 |.int i,v=>v=.int i
 |.str x,v=>v=.str x
 |.Dj t ds,v=>∃a xs,v=.ref a/\(if t=true then EM K H a xs else EL K H a xs)/\HY K H ds xs
noncomputable def HY(K:Ad)(H:A8):List D4->List V->Prop
 |[],vs=>vs=[]
 |d::ds,vs=>∃v r,vs=v::r/\GD K H d v/\HY K H ds r
end
mutual
noncomputable def eqT:D4->D4->Bool
 |.non,d=>match d with
  |.non=>true
  |_=>false
 |.AM a,d=>match d with
  |.AM b=>a==b
  |.int b=>(if a then 1 else 0)==b
  |_=>false
 |.int a,d=>match d with
  |.AM b=>a==(if b then 1 else 0)
  |.int b=>a==b
  |_=>false
 |.str a,d=>match d with
  |.str b=>a==b
  |_=>false
 |.Dj t xs,d=>match d with
  |.Dj u ys=>t==u&&HS xs ys
  |_=>false
noncomputable def HS:List D4->List D4->Bool
 |[],ys=>ys.isEmpty
 |x::xs,ys=>match ys with
  |y::ys=>eqT x y&&HS xs ys
  |[]=>false
end
def Gy:Nat->D4->Bool
 |0,.Dj _ _=>false
 |n+1,.Dj _ ds=>ds.all (Gy n)
 |_,_=>true
def MV(K:Ad)(H:A8)(d:D4)(u:A3):Prop:=∃x,GD K H d x/\RelV x u
section
variable{X:Am}{pins:List (A4×Obj)}{σ :St}{H:A8}{s:AJ}{K:Ad}
theorem HY.length:∀{ds:List D4}{vs:List V},HY K H ds vs->ds.length=vs.length
 |[],_,h=>by simp only[HY]at h;subst h;rfl
 |_::_,_,h=>by simp only[HY]at h;obtain⟨v,r,rfl,_,t⟩:=h;simp[HY.length t]
theorem HY.get:∀{ds:List D4}{vs:List V}{i:Nat}{d:D4},HY K H ds vs->ds[i]?=some d->∃v,vs[i]?=some v/\GD K H d v
 |[],_,_,_,_,e=>by simp at e
 |_::_,_,0,_,h,e=>by simp only[HY]at h;obtain⟨v,r,rfl,q,_⟩:=h;simp at e;subst e;exact⟨v,rfl,q⟩
 |_::_,_,i+1,d,h,e=>by simp only[HY]at h;obtain⟨v,r,rfl,_,t⟩:=h;obtain⟨u,h1,h2⟩:=HY.get (i:=i) (d:=d) t (by simpa using e);exact⟨u,by simpa using h1,h2⟩
def iW{ds:List D4}{xs:List V}{its:List A3}(q:HY K H ds xs)(r:Vals xs its):∀(i:Nat) d u,ds[i]?=some d->its[i]?=some u->MV K H d u:=λi d u A9 AE=>by obtain⟨v,Er,a⟩:=q.get A9;obtain⟨II,Nh,Bx⟩:=r.get Er;rw[AE]at Nh;cases Nh;exact⟨v,a,Bx⟩
inductive QV(s:AJ)(P:D4->A3->Prop):D4->A3->Prop where
 |non:QV s P .non .none
 |AM (b:Bool):QV s P (.AM b) (.bool b)
 |int (i:Int) (t:Tok):QV s P (.int i) (.int i t)
 |str (x:Str) (t:Tok):QV s P (.str x) (.str x t)
 |tup (a:A4) (ds:List D4) (its:List A3) (h:s.heap.IsTuple a its.toArray) (l:ds.length=its.length) (p:∀(i:Nat) d u,ds[i]?=some d->its[i]?=some u->P d u):QV s P (.Dj true ds) (.ref a)
 |lst (a:A4) (ds:List D4) (its:List A3) (h:s.heap.IsList a its.toArray) (l:ds.length=its.length) (p:∀(i:Nat) d u,ds[i]?=some d->its[i]?=some u->P d u):QV s P (.Dj false ds) (.ref a)
def ZD(I:Inv X pins σ H s){d:D4}{u:A3}(h:MV X.K H d u):QV s (MV X.K H) d u:=by
 obtain⟨x,a,r⟩:=h;cases d with
 |non=>simp only[GD]at a;subst a;cases r;exact .non
 |AM b=>simp only[GD]at a;subst a;cases r;exact .AM b
 |int i=>simp only[GD]at a;subst a;obtain⟨t,rfl⟩:=r;exact .int i t
 |str i=>simp only[GD]at a;subst a;obtain⟨t,rfl⟩:=r;exact .str i t
 |Dj t ds=>
  simp only[GD]at a;obtain⟨p,xs,rfl,AU,al⟩:=a;cases r;cases t with
  |true=>obtain⟨its,Bx,BQ,_⟩:=I.tuple AU;exact .tup p ds its BQ (al.length.trans Bx.length) (iW al Bx)
  |false=>obtain⟨its,Bx,BQ,_⟩:=I.list AU;exact .lst p ds its BQ.isList (al.length.trans Bx.length) (iW al Bx)
theorem dk:∀{xs ys:List D4},xs.length≠ys.length->HS xs ys=false
 |[],[],h=>absurd rfl h
 |[],_::_,_=>by simp only[HS];rfl
 |_::_,[],_=>by simp only[HS]
 |x::xs,y::ys,h=>by simp only[HS];rw[dk (λe=>h (by simp[e])),TG]
def MH(xs ys:List D4)(j:Nat):Bool:=match xs[j]?,ys[j]? with
 |some x,some y=>eqT x y
 |_,_=>true
def pv(f:Nat->Bool)(n:Nat):(Cd (n+1)).all f=(f 0&&(Cd n).all λj=>f (j+1)):=by rw[List.range_succ_eq_map,WG,cL];rfl
theorem dm:∀{xs ys:List D4},xs.length=ys.length->(Cd xs.length).all (MH xs ys)=HS xs ys
 |[],[],_=>by simp[HS]
 |[],_::_,h=>by simp at h
 |_::_,[],h=>by simp at h
 |x::xs,y::ys,h=>by
  rw[D7,pv];have e:(λj=>MH (x::xs) (y::ys) (j+1))=MH xs ys:=by funext j;simp[MH]
  rw[e,dm (by simpa using h)];simp only[HS];rfl
def WM{f:D4->Bool}{ds:List D4}(h:ds.all f=true){i:Nat}{d:D4}(e:ds[i]?=some d):f d=true:=List.all_eq_true.mp h d (Hn e)
theorem gA:∀(n:Nat){d:D4},Gy n d=true->eqT d d=true
 |_,.non,_|_,.AM _,_|_,.int _,_|_,.str _,_=>by simp[eqT]
 |0,.Dj _ _,o=>by cases o
 |n+1,.Dj t ds,o=>by
  simp only[eqT,beq_self_eq_true,cE];have go:∀l:List D4,l.all (Gy n)=true->HS l l=true:=λl=>by
   induction l with
   |nil=>intro _;simp[HS]
   |cons x l Bk=>intro h;rw[WG,I7]at h;simp only[HS];rw[gA n h.1,Bk h.2];rfl
  exact go ds o
def f3(I:Inv X pins σ H s):∀(n:Nat){d1 Ej:D4}{x:V},Gy n d1=true->Gy n Ej=true->GD X.K H d1 x->GD X.K H Ej x->d1=Ej:=by
 intro n;induction n with
 |zero=>
  intro d1 Ej x Dd Cn a1 a2
  cases d1<;>cases Ej<;>simp only[GD]at a1 a2<;>first
   |(cases Dd;done)
   |(cases Cn;done)
   |(subst a1;cases a2;done)
   |(subst a1;cases a2;rfl)
 |succ n Bk=>
  intro d1 Ej x Dd Cn a1 a2
  cases d1<;>cases Ej<;>simp only[GD]at a1 a2<;>first
   |(subst a1;cases a2;done)
   |(subst a1;cases a2;rfl)
   |(obtain⟨_,_,e,_⟩:=a2;subst a1;cases e;done)
   |(obtain⟨_,_,e,_⟩:=a1;subst a2;cases e;done)
   |skip
  .rename_i t1 FN Ct FO;obtain⟨p,xs,rfl,h1,q1⟩:=a1;obtain⟨Gz,ys,e,h2,q2⟩:=a2;cases e;have key:t1=Ct/\xs=ys:=by
    cases t1<;>cases Ct
    .exact⟨rfl,I.Zh h1 h2⟩
    .obtain⟨_,_,CC,_⟩:=I.list h1;obtain⟨_,_,C8,_⟩:=I.tuple h2;exact absurd rfl (om CC.isList C8)
    .obtain⟨_,_,CC,_⟩:=I.tuple h1;obtain⟨_,_,C8,_⟩:=I.list h2;exact absurd rfl (om C8.isList CC)
    .exact⟨rfl,I.aK h1 h2⟩
   obtain⟨rfl,rfl⟩:=key;have:FN=FO:=by
    have AF:=q1.length.trans q2.length.symm;apply cC;intro i;by_cases A7:i<FN.length
    .have A9:=CF A7;have AE:=CF (l:=FO) (i:=i) (by lia);obtain⟨v,ev,E_⟩:=q1.get A9;obtain⟨I4,gE,bv⟩:=q2.get AE;rw[ev]at gE;cases gE;rw[A9,AE,Bk (WM Dd A9) (WM Cn AE) E_ bv]
    .rw[HF (by lia),HF (by lia)]
   rw[this]
def g9(I:Inv X pins σ H s):∀(n:Nat){d1 Ej:D4}{u v:A3}{A:CW},Gy n d1=true->Gy n Ej=true->MV X.K H d1 u->MV X.K H Ej v->A.units+n<Cq->
  WI A s u v (eqT d1 Ej)/\TK A s u v (eqT d1 Ej)/\SeqAt.RcNeAt A s u v (!eqT d1 Ej):=by
 intro n;induction n with
 |zero=>
  intro d1 Ej u v A Dd Cn a1 a2 Av;have h1:=ZD I a1;have h2:=ZD I a2
  cases h1<;>cases h2<;>first
   |(cases Dd;done)
   |(cases Cn;done)
   |(simp only[eqT,Ks,cN];refine⟨?_,?_,?_⟩<;>with_reducible first|exact .same _|exact .none_none|exact .none_bool _|exact .none_int _ _|exact .none_str _ _|exact .bool_none _|exact .bool_bool _ _|exact .bool_int _ _ _|exact .bool_str _ _ _|exact .int_none _ _|exact .int_bool _ _ _|exact .int_int _ _ _ _|exact .int_str _ _ _ _|exact .str_none _ _|exact .str_bool _ _ _|exact .str_int _ _ _ _|exact .str_str _ _ _ _)
 |succ n Bk=>
  intro d1 Ej u v A Dd Cn a1 a2 Av;have Fq:A.units<Cq:=by lia
  have h1:=ZD I a1;have h2:=ZD I a2
  have item:∀{FN FO:List D4}{Jb GW:List A3},FN.all (Gy n)=true->FO.all (Gy n)=true->FN.length=Jb.length->FO.length=GW.length->(∀(i:Nat) d u,FN[i]?=some d->Jb[i]?=some u->MV X.K H d u)->(∀(i:Nat) d u,FO[i]?=some d->GW[i]?=some u->MV X.K H d u)->
    ∀j(h1:j<Jb.toArray.size)(h2:j<GW.toArray.size),WI A.in1 s Jb.toArray[j] GW.toArray[j] (MH FN FO j):=λ{FN FO Jb GW} k1 k2 Im LN EW CL j h1 h2=>by
   have JI:j<FN.length:=by rw[Im];simpa using h1
   have Jd:j<FO.length:=by rw[LN];simpa using h2
   have:=(Bk (A:=A.in1) (WM k1 (CF JI)) (WM k2 (CF Jd)) (EW j _ Jb.toArray[j] (CF JI) (by simp at h1;simp[h1])) (CL j _ GW.toArray[j] (CF Jd) (by simp at h2;simp[h2])) (by show A.units+1+n<Cq;lia)).1;unfold MH;rw[CF JI,CF Jd];exact this
  have same:∀{EW CL:A4},u=.ref EW->v=.ref CL->TK A s (.ref EW) (.ref CL) (eqT d1 Ej)->WI A s (.ref EW) (.ref CL) (eqT d1 Ej):=λ{EW CL} A9 AE w=>by
   by_cases AT:EW=CL
   .subst AT A9 AE;obtain⟨D6,D_,Ak⟩:=id a1;obtain⟨CZ,E9,B6⟩:=id a2;have:D6=CZ:=RelV.inj Ak B6;subst this;rw[f3 I (n+1) Dd Cn D_ E9,gA _ Cn];exact SeqAt.EqAt.same _
   .exact SeqAt.EqAt.of_refs AT w
  cases h1<;>cases h2<;>first
   |(simp only[eqT,Ks,cN];refine⟨?_,?_,?_⟩<;>with_reducible first|exact .same _|exact .none_none|exact .none_bool _|exact .none_int _ _|exact .none_str _ _|exact .bool_none _|exact .bool_bool _ _|exact .bool_int _ _ _|exact .bool_str _ _ _|exact .int_none _ _|exact .int_bool _ _ _|exact .int_int _ _ _ _|exact .int_str _ _ _ _|exact .str_none _ _|exact .str_bool _ _ _|exact .str_int _ _ _ _|exact .str_str _ _ _ _|exact .none_tuple ‹_› Fq|exact .none_list ‹_› Fq|exact .bool_tuple _ ‹_› Fq|exact .bool_list _ ‹_› Fq|exact .int_tuple _ _ ‹_› Fq|exact .int_list _ _ ‹_› Fq|exact .str_tuple _ _ ‹_› Fq|exact .str_list _ _ ‹_› Fq|exact .tuple_none ‹_› Fq|exact .list_none ‹_› Fq|exact .tuple_bool _ ‹_› Fq|exact .list_bool _ ‹_› Fq|exact .tuple_int _ _ ‹_› Fq|exact .list_int _ _ ‹_› Fq|exact .tuple_str _ _ ‹_› Fq|exact .list_str _ _ ‹_› Fq)
   |skip
  .rename_i EW FN Jb t1 Im q1 CL FO GW Ct LN q2;have BR:=SeqAt.RcAt.tuples (e:=MH FN FO) t1 Ct Fq (item Dd Cn Im LN q1 q2);have C_:=SeqAt.RcNeAt.tuples (e:=MH FN FO) t1 Ct Fq (item Dd Cn Im LN q1 q2);have eq:((Cd (min Jb.toArray.size GW.toArray.size)).all (MH FN FO)&&Jb.toArray.size==GW.toArray.size)=eqT (.Dj true FN) (.Dj true FO):=by
    rw[DI,DI,<-Im,<-LN];simp only[eqT,beq_self_eq_true,cE];by_cases AF:FN.length=FO.length
    .rw[<-AF,Nat.min_self,dm AF,beq_self_eq_true,Bool.and_true]
    .rw[dk AF];have:(FN.length==FO.length)=false:=by simpa using AF
     rw[this,TG]
   rw[eq]at BR C_;exact⟨same rfl rfl BR,BR,C_⟩
  .rename_i EW FN Jb t1 Im q1 CL FO GW Ct LN q2;have BR:TK A s (.ref EW) (.ref CL) (eqT (.Dj true FN) (.Dj false FO)):=by simp only[eqT];exact SeqAt.RcAt.tuple_list t1 Ct Fq
   exact⟨same rfl rfl BR,BR,by simp only[eqT];exact SeqAt.RcNeAt.tuple_list t1 Ct Fq⟩
  .rename_i EW FN Jb t1 Im q1 CL FO GW Ct LN q2;have BR:TK A s (.ref EW) (.ref CL) (eqT (.Dj false FN) (.Dj true FO)):=by simp only[eqT];exact SeqAt.RcAt.list_tuple t1 Ct Fq
   exact⟨same rfl rfl BR,BR,by simp only[eqT];exact SeqAt.RcNeAt.list_tuple t1 Ct Fq⟩
  .rename_i EW FN Jb t1 Im q1 CL FO GW Ct LN q2;have hsz:(Jb.toArray.size=GW.toArray.size)=(FN.length=FO.length):=by rw[DI,DI,<-Im,<-LN]
   by_cases AF:FN.length=FO.length
   .have BR:=SeqAt.RcAt.lists (e:=MH FN FO) t1 Ct (by rw[hsz];exact AF) Fq (item Dd Cn Im LN q1 q2);have C_:=SeqAt.RcNeAt.lists (e:=MH FN FO) t1 Ct (by rw[hsz];exact AF) Fq (item Dd Cn Im LN q1 q2);rw[DI,<-Im,dm AF]at BR C_;have e:HS FN FO=eqT (.Dj false FN) (.Dj false FO):=by simp[eqT]
    rw[e]at BR C_;exact⟨same rfl rfl BR,BR,C_⟩
   .have hz:(Jb.toArray.size !=GW.toArray.size)=true:=by
      rw[DI,DI,<-Im,<-LN];simpa using AF
    have e:eqT (.Dj false FN) (.Dj false FO)=false:=by simp only[eqT];rw[dk AF,TG]
    have BR:TK A s (.ref EW) (.ref CL) (eqT (.Dj false FN) (.Dj false FO)):=by rw[e];exact SeqAt.RcAt.lists_lengths t1 Ct hz Fq
    exact⟨same rfl rfl BR,BR,by rw[e];exact SeqAt.RcNeAt.lists_lengths t1 Ct hz Fq⟩
open Classical in
noncomputable def N4(K:Ad)(H:A8)(d:D4)(u:A3):Bool:=if h:∃d',Gy 7 d'=true/\MV K H d' u then eqT (Classical.choose h) d else false
def px(I:Inv X pins σ H s){d d1:D4}{u:A3}(o:Gy 7 d=true)(h:MV X.K H d u):N4 X.K H d1 u=eqT d d1:=by have AG:∃d',Gy 7 d'=true/\MV X.K H d' u:=⟨d,o,h⟩;unfold N4;rw[dif_pos AG];obtain⟨o',Ev,GS,BK⟩:=Classical.choose_spec AG;obtain⟨x,a,r⟩:=h;have:Ev=x:=BK.inj r;subst this;rw[f3 I 7 o' o GS a]
theorem cq(I:Inv X pins σ H s){d1:D4}{x:V}{v:A3}{A:CW}(Av:A.units+8<Cq)(Dd:Gy 7 d1=true)(a1:GD X.K H d1 x)(Aq:RelV x v):∀{ds:List D4}{xs:List V}{its:List A3},HY X.K H ds xs->Vals xs its->ds.all (Gy 7)=true->
  (∀u∈its,WI A s u v (N4 X.K H d1 u))/\its.map (N4 X.K H d1)=ds.map λy=>eqT y d1
 |[],_,_,q,r,_=>by simp only[HY]at q;subst q;cases r;exact⟨(λu Av=>nomatch Av),rfl⟩
 |d::ds,_,_,q,r,o=>by
  simp only[HY]at q;obtain⟨w,wr,rfl,E_,pK⟩:=q;cases r with
  |cons Ak B6=>
   rw[WG,I7]at o;obtain⟨h1,h2⟩:=cq I Av Dd a1 Aq pK B6 o.2;have e:=px I (d1:=d1) o.1 ⟨w,E_,Ak⟩;refine⟨λII hm=>?_,by rw[DB,DB,e,h2]⟩;rcases List.mem_cons.mp hm with z|hm
   .subst z;rw[e];exact(g9 I 7 (A:=A) o.1 Dd ⟨w,E_,Ak⟩ ⟨x,a1,Aq⟩ (by lia)).1
   .exact h1 II hm
theorem any_map{α:Type}(l:List α)(f:α->Bool):l.any f=(l.map f).any id:=by simp[List.any_map]
def Z6(K:Ad)(b:Bool):ET:=λx y H Q=>∃d1 t ds,GD K H d1 x/\GD K H (.Dj t ds) y/\Gy 7 d1=true/\ds.all (Gy 7)=true/\Q (.AM (if b then ds.any (λy=>eqT y d1)else !ds.any λy=>eqT y d1)) H
def YE(Av:X.A.units+64<Cq):DQ X (Fb .In) (Z6 X.K true)/\DQ X (Fb .NotIn) (Z6 X.K false):=by
 refine⟨?_,?_⟩<;>
 .intro pins s σ H x y v u Q I Aq BS h;obtain⟨d1,t,ds,a1,a2,Dd,Cn,q⟩:=h;simp only[GD]at a2;obtain⟨p,xs,rfl,AU,al⟩:=a2;cases BS;cases t with
  |true=>
   obtain⟨its,Bx,BQ,_⟩:=I.tuple AU;obtain⟨h1,h2⟩:=cq I (A:=X.A.in1) (d1:=d1) (by show X.A.units+1+8<Cq;lia) Dd a1 Aq al Bx Cn;have e:its.any (N4 X.K H d1)=ds.any λy=>eqT y d1:=by rw[any_map,h2,<-any_map]
   simp only[if_true,Gj,if_false]at q;rw[<-e]at q
   first
    |exact SeqAt.in_tupleAt (N4 X.K H d1) BQ (λw hw=>h1 w (by simpa using hw)) ⟨.AM _,H,I,rfl,by simpa using q⟩
    |exact SeqAt.notIn_tupleAt (N4 X.K H d1) BQ (λw hw=>h1 w (by simpa using hw)) ⟨.AM _,H,I,rfl,by simpa using q⟩
  |false=>
   obtain⟨its,Bx,BQ,_⟩:=I.list AU;obtain⟨h1,h2⟩:=cq I (A:=X.A.in1) (d1:=d1) (by show X.A.units+1+8<Cq;lia) Dd a1 Aq al Bx Cn;have e:its.any (N4 X.K H d1)=ds.any λy=>eqT y d1:=by rw[any_map,h2,<-any_map]
   simp only[if_true,Gj,if_false]at q;rw[<-e]at q
   first
    |exact SeqAt.in_listAt (N4 X.K H d1) BQ.isList (λw hw=>h1 w (by simpa using hw)) ⟨.AM _,H,I,rfl,by simpa using q⟩
    |exact SeqAt.notIn_listAt (N4 X.K H d1) BQ.isList (λw hw=>h1 w (by simpa using hw)) ⟨.AM _,H,I,rfl,by simpa using q⟩
def bH(K:Ad)(b:Bool):ET:=λx y H Q=>∃d1 Ej,GD K H d1 x/\GD K H Ej y/\Gy 8 d1=true/\Gy 8 Ej=true/\Q (.AM (if b then eqT d1 Ej else !eqT d1 Ej)) H
def Xr(Av:X.A.units+64<Cq):DQ X (Fb .Eq) (bH X.K true)/\DQ X (Fb .NotEq) (bH X.K false):=by
 refine⟨?_,?_⟩<;>
 .intro pins s σ H x y v u Q I Aq BS h;obtain⟨d1,Ej,a1,a2,Dd,Cn,q⟩:=h;have z:=g9 I 8 (A:=X.A) Dd Cn ⟨x,a1,Aq⟩ ⟨y,a2,BS⟩ (by lia)
  first
   |exact z.2.1 X.prog X.w X.Ck _ ⟨.AM _,H,I,rfl,q⟩
   |exact z.2.2 X.prog X.w X.Ck _ ⟨.AM _,H,I,rfl,q⟩
end
def E3(h:A5):W->Option (Bool×List W)
 |.tup ws=>some (true,ws)
 |.I1 ws=>some (true,ws)
 |.Eb ws=>some (false,ws)
 |.ref n=>match h[n]? with
  |some ⟨.lst,ws⟩=>some (false,ws)
  |_=>none
 |_=>none
section
variable{K:Ad}{φ:List A4}{h:A5}{H:A8}{F:D8}{σ :St}{ρ:BI}{X:Am}
def ID(d:Cr K φ h H){w:W}{v:V}{t:Bool}{ws:List W}(a:AQ K φ H w v)(e:E3 h w=some (t,ws)):∃p xs,v=.ref p/\(if t=true then EM K H p xs else EL K H p xs)/\Ac K φ H ws xs:=by
 unfold E3 at e
 split at e
 .cases e;simp only[AQ]at a;obtain⟨p,xs,rfl,q,r⟩:=a;exact⟨p,xs,rfl,.inl (.inl q),r⟩
 .cases e;simp only[AQ]at a;obtain⟨p,xs,rfl,q,r⟩:=a;exact⟨p,xs,rfl,q,r⟩
 .cases e;simp only[AQ]at a;obtain⟨p,xs,rfl,q,r⟩:=a;exact⟨p,xs,rfl,q.Dj,r⟩
 .rename_i n
  split at e
  .rename_i Az;cases e;obtain⟨p,xs,rfl,_,q,r⟩:=d.at Az a;exact⟨p,xs,rfl,.inl (.inl q),r⟩
  .cases e
 .cases e
noncomputable def Dn:Nat->A5->W->Option D4
 |_,_,.non=>some .non
 |_,_,.AM b=>some (.AM b)
 |_,_,.int i=>some (.int i)
 |_,_,.str x=>some (.str x)
 |0,_,_=>none
 |n+1,h,w=>match E3 h w with
  |some (t,ws)=>(ws.mapM (Dn n h)).map (.Dj t)
  |none=>none
theorem kB{n:Nat}(Bk:∀{w:W}{v:V}{d:D4},Dn n h w=some d->AQ K φ H w v->GD K H d v/\Gy n d=true):∀{ws:List W}{xs:List V}{ds:List D4},ws.mapM (Dn n h)=some ds->Ac K φ H ws xs->HY K H ds xs/\ds.all (Gy n)=true
 |[],_,_,e,a=>by simp at e;subst e;simp only[Ac]at a;subst a;simp[HY]
 |w::ws,_,_,e,a=>by
  simp only[Ac]at a;obtain⟨v,r,rfl,a1,a2⟩:=a;rw[W0]at e;cases A9:Dn n h w with
  |none=>rw[A9]at e;cases e
  |some d=>
   rw[A9]at e;cases AE:ws.mapM (Dn n h)with
   |none=>rw[AE]at e;cases e
   |some ds=>rw[AE]at e;cases e;obtain⟨D_,E9⟩:=Bk A9 a1;obtain⟨BR,C_⟩:=kB Bk AE a2;exact⟨by simp only[HY];exact⟨v,r,rfl,D_,BR⟩,by rw[WG,E9,C_];rfl⟩
def Z8(d:Cr K φ h H):∀(n:Nat){w:W}{v:V}{t:D4},Dn n h w=some t->AQ K φ H w v->GD K H t v/\Gy n t=true:=by
 intro n;induction n with
 |zero=>
  intro w v t e a
  cases w<;>simp only[Dn]at e<;>first
   |(cases e;done)
   |(cases e;simp only[AQ]at a;exact⟨by simp only[GD];exact a,rfl⟩)
 |succ m Bk=>
  intro w v t e a;have Dj:∀w,(match E3 h w with|some (t,ws)=>(ws.mapM (Dn m h)).map (D4.Dj t)|none=>none)=some t->AQ K φ H w v->GD K H t v/\Gy (m+1) t=true:=λw e a=>by
   split at e
   .rename_i t' ws es;obtain⟨p,xs,rfl,q,r⟩:=ID d a es;cases AE:ws.mapM (Dn m h)with
    |none=>rw[AE]at e;cases e
    |some ds=>rw[AE]at e;cases e;obtain⟨BR,C_⟩:=kB (λe a=>Bk e a) AE r;exact⟨by simp only[GD];exact⟨p,xs,rfl,q,BR⟩,C_⟩
   .cases e
  cases w<;>simp only[Dn]at e<;>first
   |exact Dj _ e a
   |(cases e;simp only[AQ]at a;exact⟨by simp only[GD];exact a,rfl⟩)
def Ac.one{w:W}{vs:List V}(a:Ac K φ H [w] vs):∃v,vs=[v]/\AQ K φ H w v:=by simp only[Ac]at a;obtain⟨v,r,rfl,h,rfl⟩:=a;exact⟨v,rfl,h⟩
def Ac.two{w u:W}{vs:List V}(a:Ac K φ H [w,u] vs):∃v I4,vs=[v,I4]/\AQ K φ H w v/\AQ K φ H u I4:=by simp only[Ac]at a;obtain⟨v,r,rfl,h,I4,BK,rfl,h',rfl⟩:=a;exact⟨v,I4,rfl,h,h'⟩
abbrev GQ:=W->W->A5->R (W×A5)
def BH(b:Bool):GQ:=λx y h=>match Dn 8 h x,Dn 8 h y with
 |some d,some e=>.ok (.AM (if b then eqT d e else !eqT d e),h)
 |_,_=>.bad
def Xk(AX:F.K=X.K)(b:Bool):Hb F (bH X.K b) (BH b):=by
 intro σ ρ φ h H x y G7 Gg Q r a1 a2 q;unfold BH at q
 split at q
 .rename_i d e A9 AE;obtain⟨D_,BR⟩:=Z8 r.hd 8 A9 a1;obtain⟨E9,C_⟩:=Z8 r.hd 8 AE a2;rw[AX]at D_ E9;exact⟨d,e,D_,E9,BR,C_,q _ φ H r (Ag.refl _ _) (Mv _)⟩
 .exact q.elim
def YF(b:Bool):GQ:=λx y h=>match Dn 7 h x,Dn 8 h y with
 |some d,some (.Dj _ ds)=>.ok (.AM (if b then ds.any (λy=>eqT y d)else !ds.any λy=>eqT y d),h)
 |_,_=>.bad
def yy(AX:F.K=X.K)(b:Bool):Hb F (Z6 X.K b) (YF b):=by
 intro σ ρ φ h H x y G7 Gg Q r a1 a2 q;unfold YF at q
 split at q
 .rename_i d t ds A9 AE;obtain⟨D_,BR⟩:=Z8 r.hd 7 A9 a1;obtain⟨E9,C_⟩:=Z8 r.hd 8 AE a2;rw[AX]at D_ E9;exact⟨d,t,ds,D_,E9,BR,C_,q _ φ H r (Ag.refl _ _) (Mv _)⟩
 .exact q.elim
def Ja(f:Int->Int->Option W):GQ:=λx y h=>match x,y with
 |.int i,.int j=>match f i j with
  |some w=>.ok (w,h)
  |none=>.bad
 |_,_=>.bad
def Ky{g:Int->Int->V}{f:Int->Int->W}(e:∀i j K φ H,AQ K φ H (f i j) (g i j)):Hb F (Kf g) (Ja λi j=>some (f i j)):=by
 intro σ ρ φ h H x y G7 Gg Q r a1 a2 q;unfold Ja at q
 split at q
 .rename_i i j;simp only[AQ]at a1 a2;exact⟨i,j,a1,a2,q _ φ H r (Ag.refl _ _) (e _ _ _ _ _)⟩
 .exact q.elim
def Xm{C:Int->Int->Prop}[∀i j,Decidable (C i j)]{g:Int->Int->V}{f:Int->Int->W}(e:∀i j K φ H,AQ K φ H (f i j) (g i j)):Hb F (Ip C g) (Ja λi j=>if C i j then some (f i j)else none):=by
 intro σ ρ φ h H x y G7 Gg Q r a1 a2 q;unfold Ja at q
 split at q
 .rename_i i j;simp only[AQ]at a1 a2;dsimp only at q
  split at q
  .rename_i w hw
   split at hw
   .rename_i AD;cases hw;exact⟨i,j,a1,a2,AD,q _ φ H r (Ag.refl _ _) (e _ _ _ _ _)⟩
   .cases hw
  .exact q.elim
 .exact q.elim
instance(i j:Int):Decidable (Rn i j):=by unfold Rn;infer_instance
instance(i j:Int):Decidable (KJ i j):=by unfold KJ;infer_instance
instance(i j:Int):Decidable (NS i j):=by unfold NS;infer_instance
def Pg:=Ja λi j=>some (.int (i-j))
def CT:=Ja λi j=>if Rn i j then some (.int (i/j))else none
def BZ:=Ja λi j=>if 0<j then some (.int (i%j))else none
def Nb:=Ja λi j=>if NS i j then some (.int (i^j.toNat))else none
def R0:=Ja λi j=>some (.AM (decide (i<j)))
def LM:=Ja λi j=>some (.AM (decide (i<=j)))
def MA:=Ja λi j=>some (.AM (decide (j<i)))
def e3:=Ja λi j=>some (.AM (decide (j<=i)))
def aaI:=Ja λi j=>if 0<=j then some (.int (i/2^j.toNat))else none
def pw:=Ja λi j=>some (.int (Builtin.bitAnd i j))
def KY(h:A5):W->Option (Nat×List W)
 |.ref n=>match h[n]? with
  |some ⟨.lst,ws⟩=>some (n,ws)
  |_=>none
 |_=>none
def PQ(d:Cr K φ h H){w:W}{v:V}{n:Nat}{ws:List W}(a:AQ K φ H w v)(e:KY h w=some (n,ws)):∃p xs,v=.ref p/\h[n]?=some ⟨.lst,ws⟩/\φ[n]?=some p/\H p=some (.lst xs)/\Ac K φ H ws xs:=by
 unfold KY at e
 split at e
 .split at e
  .rename_i Az;cases e;obtain⟨p,xs,rfl,Bg,q,r⟩:=d.at Az a;exact⟨p,xs,rfl,Az,Bg,q,r⟩
  .cases e
 .cases e
noncomputable def addW:GQ:=λx y h=>match x,y with
 |.int i,.int j=>.ok (.int (i+j),h)
 |.str a,.str b=>if a.length+b.length<=B4 then .ok (.str (a++b),h)else .bad
 |.tup a,y=>match E3 h y with
  |some (true,b)=>if a≠[]/\a.length+b.length<=B4 then .ok (.tup (a++b),h)else .bad
  |_=>.bad
 |x,y=>match KY h x,KY h y with
  |some (_,a),some (_,b)=>nw .lst (a++b) h
  |_,_=>.bad
def kb(K:Ad):ET:=λx y H Q=>Kf (λi j=>.int (i+j)) x y H Q\/(∃i j,x=.str i/\y=.str j/\i.length+j.length<=Bu/\Q (.str (i++j)) H)\/kg K x y H Q\/kf x y H Q
def zF:DQ X (J0 .Add) (kb X.K):=zE.or (zG.or (yR.or yQ))
def big{n:Nat}(h:n<=B4):n<=Bu:=I8 h (by decide)
def yv(AX:F.K=X.K):Hb F (kb X.K) addW:=by
 intro σ ρ φ h H x y G7 Gg Q r a1 a2 q;unfold addW at q
 split at q
 .rename_i i j;simp only[AQ]at a1 a2;exact .inl ⟨i,j,a1,a2,q _ φ H r (Ag.refl _ _) (by simp only[AQ])⟩
 .rename_i i j;simp only[AQ]at a1 a2
  split at q
  .rename_i AF;exact .inr (.inl ⟨i,j,a1,a2,big AF,q _ φ H r (Ag.refl _ _) (by simp only[AQ])⟩)
  .exact q.elim
 .rename_i ws;simp only[AQ]at a1;obtain⟨p,xs,rfl,AB,BE⟩:=a1
  split at q
  .rename_i b Au;obtain⟨CL,ys,rfl,A1,rb⟩:=ID r.hd a2 Au;rw[AX]at A1
   split at q
   .rename_i AF;refine .inr (.inr (.inl ⟨p,CL,xs,ys,rfl,rfl,.inl (.inl AB),A1,λz=>AF.1 ?_,by rw[<-BE.length,<-rb.length];exact big AF.2,λz=>?_,λ_ Gz AT=>?_⟩))
    .have:=BE.length;rw[z]at this;exact o_ this
    .subst z;have:=rb.length;have:b=[]:=o_ this;subst this;exact q _ φ H r (Ag.refl _ _) (by simp only[AQ,MS];exact⟨p,xs,rfl,AB,BE⟩)
    .exact q _ φ _ (r.to (r.hd.lay AT) (Ag.lay AT)) (Ag.lay AT) (by simp only[AQ];exact⟨Gz,_,rfl,EX,(BE.append rb).ex (Ag.lay AT)⟩)
   .exact q.elim
  .exact q.elim
 .split at q
  .rename_i na a nb b A9 AE;obtain⟨p,xs,rfl,_,_,AB,BE⟩:=PQ r.hd a1 A9;obtain⟨CL,ys,rfl,_,_,A1,rb⟩:=PQ r.hd a2 AE;have SZ:=BE.append rb;refine .inr (.inr (.inr ⟨p,CL,xs,ys,rfl,rfl,AB,A1,?_,λGz AT=>O6 r q AT EX SZ⟩));have:=b0 q;rw[SZ.length,EP]at this;exact big this
  .exact q.elim
noncomputable def Hi:GQ:=λx y h=>match x,y with
 |.int i,.int j=>if KJ i j then .ok (.int (i*j),h)else .bad
 |x,.int k=>match KY h x with
  |some (_,a)=>if-(2^63)<=k/\k<2^63 then nw .lst (FE k.toNat a).flatten h else .bad
  |none=>.bad
 |_,_=>.bad
theorem Ac.rep{ws:List W}{xs:List V}(a:Ac K φ H ws xs):∀k:Nat,Ac K φ H (FE k ws).flatten (FE k xs).flatten
 |0=>by simpa using Ac.nil
 |k+1=>by rw[Pu,Pu,Oc,Oc];exact a.append (a.rep k)
def z4:Hb F (λx y H Q=>Ip KJ (λi j=>.int (i*j)) x y H Q\/kq x y H Q) Hi:=by
 intro σ ρ φ h H x y G7 Gg Q r a1 a2 q;unfold Hi at q
 split at q
 .rename_i i j;simp only[AQ]at a1 a2
  split at q
  .rename_i AD;exact .inl ⟨i,j,a1,a2,AD,q _ φ H r (Ag.refl _ _) (by simp only[AQ])⟩
  .exact q.elim
 .rename_i k _;simp only[AQ]at a2
  split at q
  .rename_i a A9;obtain⟨p,xs,rfl,_,_,AB,BE⟩:=PQ r.hd a1 A9
   split at q
   .rename_i AK;have LV:=BE.rep k.toNat;refine .inr ⟨p,k,xs,rfl,a2,AB,AK.1,AK.2,?_,λGz AT=>O6 r q AT EX LV⟩;have:=b0 q;rw[LV.length,len_rep]at this;rw[Nat.mul_comm];exact big this
   .exact q.elim
  .exact q.elim
 .exact q.elim
def Mi:W->Bool
 |.non=>true
 |_=>false
def EA(b:Bool):GQ:=λx y h=>match y with
 |.non=>.ok (.AM (if b then Mi x else !Mi x),h)
 |_=>.bad
def wL{w:W}{x:V}(a:AQ K φ H w x):Mi w=decide (x=.non):=by
 cases w<;>simp only[AQ,Mi]at a |-<;>first
  |(subst a;rfl)
  |(subst a;simp;done)
  |(obtain⟨_,_,rfl,_⟩:=a;simp;done)
  |(obtain⟨_,rfl,_⟩:=a;simp;done)
def Xn(b:Bool):Hb F (λx y H Q=>y=.non/\Q (.AM (if b then decide (x=.non)else !decide (x=.non))) H) (EA b):=by
 intro σ ρ φ h H x y G7 Gg Q r a1 a2 q;unfold EA at q
 split at q
 .simp only[AQ]at a2;rw[wL a1]at q;exact⟨a2,q _ φ H r (Ag.refl _ _) (Mv _)⟩
 .exact q.elim
noncomputable def PK:GQ:=λx y h=>match y with
 |.int i=>match x with
  |.str z=>if z.length<=B4 then match Ie z.cps.toList i with
      |some c=>.ok (.str ⟨#[c]⟩,h)
      |none=>.bad
   else .bad
  |x=>match E3 h x with
   |some (_,ws)=>match Ie ws i with
    |some w=>.ok (w,h)
    |none=>.bad
   |none=>.bad
 |_=>.bad
def pL{ws:List W}{xs:List V}{i:Int}{w:W}(a:Ac K φ H ws xs)(e:Ie ws i=some w):∃v,Ie xs i=some v/\AQ K φ H w v:=by
 unfold Ie at e |-;rw[<-a.length];cases Af:LL ws.length i with
 |none=>rw[Af]at e;cases e
 |some j=>rw[Af]at e;exact a.get e
def yz(AX:F.K=X.K):Hb F (bJ X.K) PK:=by
 intro σ ρ φ h H x y G7 Gg Q r a1 a2 q;unfold PK at q
 split at q
 .rename_i i;simp only[AQ]at a2;subst a2
  split at q
  .rename_i z;simp only[AQ]at a1
   split at q
   .rename_i AF
    split at q
    .rename_i c ec;exact .inr (.inr ⟨z,i,c,a1,rfl,big AF,ec,q _ φ H r (Ag.refl _ _) (by simp only[AQ])⟩)
    .exact q.elim
   .exact q.elim
  .split at q
   .rename_i t ws es;obtain⟨p,xs,rfl,AU,BE⟩:=ID r.hd a1 es;rw[AX]at AU
    split at q
    .rename_i w DD;obtain⟨v,ev,E_⟩:=pL BE DD;have q:=q v φ H r (Ag.refl _ _) E_;cases t with
     |true=>exact .inr (.inl ⟨p,xs,i,v,rfl,rfl,AU,ev,q⟩)
     |false=>exact .inl ⟨p,xs,i,v,rfl,rfl,AU,ev,q⟩
    .exact q.elim
   .exact q.elim
 .exact q.elim
end
abbrev K9:=List W->A5->R (W×A5)
def B0(f:K9)(m:EK):B9:=bd m λws _ h=>f ws h
section
variable{K:Ad}{φ:List A4}{h:A5}{H:A8}{F:D8}{σ :St}{ρ:BI}{X:Am}{ma:EK}
def NT(F:D8)(r:List V->A8->CA->Prop)(f:K9):Prop:=∀ σ ρ φ h H xs ws Q,Rel F φ h H σ ρ->Ac F.K φ H ws xs->Es AQ F φ H σ ρ Q (f ws h)->r xs H Q
def PI{r:List V->A8->CA->Prop}{f:K9}(hf:NT F r f):FL (C6 F (B0 f ma)) (VK r (GC F ma)):=λσ H Q q=>
 q.bd λws xs φ ρ h H1 r as q=>hf σ ρ φ h H1 xs ws Q r as q
def Bw:K9:=λws h=>match ws with
 |[.str x]=>if x.length<=B4 then .ok (.int x.length,h)else .bad
 |[w]=>match E3 h w with
  |some (_,us)=>.ok (.int us.length,h)
  |none=>.bad
 |_=>.bad
def z1(AX:F.K=X.K):NT F (λxs H Q=>∃x n,xs=[x]/\fT X.K x H n/\Q (.int n) H) Bw:=by
 intro σ ρ φ h H xs ws Q r as q;unfold Bw at q
 split at q
 .rename_i x;obtain⟨v,rfl,a⟩:=as.one;simp only[AQ]at a;subst a
  split at q
  .rename_i AF;exact⟨_,x.length,rfl,⟨big AF,rfl⟩,q _ φ H r (Ag.refl _ _) (by simp only[AQ])⟩
  .exact q.elim
 .obtain⟨v,rfl,a⟩:=as.one
  split at q
  .rename_i t us es;obtain⟨p,xs,rfl,AU,BE⟩:=ID r.hd a es;rw[AX]at AU;rw[BE.length]at q;refine⟨_,xs.length,rfl,?_,q _ φ H r (Ag.refl _ _) (by simp only[AQ])⟩;cases t with
   |true=>exact .inr ⟨xs,AU,rfl⟩
   |false=>exact .inl ⟨xs,AU,rfl⟩
  .exact q.elim
 .exact q.elim
def Db:K9:=λws h=>match ws with
 |[w]=>match E3 h w with
  |some (_,us)=>nw .lst us h
  |none=>.bad
 |_=>.bad
def z2(AX:F.K=X.K):NT F (λxs H Q=>∃p ys,xs=[.ref p]/\(EL X.K H p ys\/EM X.K H p ys)/\∀l,H l=none->Q (.ref l) (upd H l (.lst ys))) Db:=by
 intro σ ρ φ h H xs ws Q r as q;unfold Db at q
 split at q
 .obtain⟨v,rfl,a⟩:=as.one
  split at q
  .rename_i t us es;obtain⟨p,xs,rfl,AU,BE⟩:=ID r.hd a es;rw[AX]at AU;refine⟨p,xs,rfl,?_,λl AF=>O6 r q AF EX BE⟩;cases t with
   |true=>exact .inr AU
   |false=>exact .inl AU
  .exact q.elim
 .exact q.elim
def OQ:K9:=λws h=>match ws with
 |[w]=>match E3 h w with
  |some (false,us)=>.ok (.tup us,h)
  |some (true,_)=>.ok (w,h)
  |none=>.bad
 |_=>.bad
def z9(AX:F.K=X.K):NT F (λxs H Q=>∃p ys,xs=[.ref p]/\((EL X.K H p ys/\∀l,H l=none->Q (.ref l) (upd H l (.tup ys)))\/(EM X.K H p ys/\Q (.ref p) H))) OQ:=by
 intro σ ρ φ h H xs ws Q r as q;unfold OQ at q
 split at q
 .obtain⟨v,rfl,a⟩:=as.one
  split at q
  .rename_i us es;obtain⟨p,xs,rfl,AU,BE⟩:=ID r.hd a es;rw[AX]at AU;exact⟨p,xs,rfl,.inl ⟨AU,λl AF=>q _ φ _ (r.to (r.hd.lay AF) (Ag.lay AF)) (Ag.lay AF) (by simp only[AQ];exact⟨l,_,rfl,EX,BE.ex (Ag.lay AF)⟩)⟩⟩
  .rename_i us es;obtain⟨p,xs,rfl,AU,BE⟩:=ID r.hd a es;rw[AX]at AU;exact⟨p,xs,rfl,.inr ⟨AU,q _ φ H r (Ag.refl _ _) a⟩⟩
  .exact q.elim
 .exact q.elim
def Pe:K9:=λws h=>match ws with
 |[.int i]=>if i.natAbs.log2<1920 then .ok (.str (toString i),h)else .bad
 |_=>.bad
def z7:NT F (λxs H Q=>∃i,xs=[.int i]/\i.natAbs.log2<1920/\Q (.str (toString i)) H) Pe:=by
 intro σ ρ φ h H xs ws Q r as q;unfold Pe at q
 split at q
 .rename_i i;obtain⟨v,rfl,a⟩:=as.one;simp only[AQ]at a;subst a
  split at q
  .rename_i AF;exact⟨i,rfl,AF,q _ φ H r (Ag.refl _ _) (by simp only[AQ])⟩
  .exact q.elim
 .exact q.elim
def aJ:K9:=λws h=>match ws with
 |[.int i]=>.ok (.int i,h)
 |[.AM b]=>.ok (.int (if b then 1 else 0),h)
 |_=>.bad
def z8:NT F (λxs H Q=>(∃i,xs=[.int i]/\Q (.int i) H)\/∃k,xs=[.AM k]/\Q (.int (if k then 1 else 0)) H) aJ:=by
 intro σ ρ φ h H xs ws Q r as q;unfold aJ at q
 split at q
 .rename_i i;obtain⟨v,rfl,a⟩:=as.one;simp only[AQ]at a;subst a;exact .inl ⟨i,rfl,q _ φ H r (Ag.refl _ _) (by simp only[AQ])⟩
 .rename_i i;obtain⟨v,rfl,a⟩:=as.one;simp only[AQ]at a;subst a;exact .inr ⟨i,rfl,q _ φ H r (Ag.refl _ _) (by simp only[AQ])⟩
 .exact q.elim
noncomputable def Ls(h:A5):W->Option String
 |.non=>some "NoneType"
 |.AM _=>some "bool"
 |.int _=>some "int"
 |.str _=>some "str"
 |.tup _=>some "tuple"
 |.I1 _=>some "tuple"
 |.ref n=>match h[n]? with
  |some ⟨.lst,_⟩=>some "list"
  |some ⟨.B3 _,_⟩=>some "dict"
  |some ⟨.Da _,_⟩=>some "dict"
  |_=>none
 |_=>none
def ai(T U:String):Bool:=T==U||(T=="bool"&&U=="int")
def dY(K:Ad)(U:String):Prop:=∀T,T="NoneType"\/T="bool"\/T="int"\/T="str"\/T="list"\/T="tuple"\/T="dict"->Vq K (.type T) (.type U)=some (ai T U)
def VO(K:Ad){U:String}(h:U="int"\/U="bool"\/U="str"\/U="list"\/U="tuple"\/U="dict"):dY K U:=λT t=>by rcases h with rfl|rfl|rfl|rfl|rfl|rfl<;>rcases t with rfl|rfl|rfl|rfl|rfl|rfl|rfl<;>kernel_rfl
def abW{w:W}{T:String}(e:Ls h w=some T):T="NoneType"\/T="bool"\/T="int"\/T="str"\/T="list"\/T="tuple"\/T="dict":=by
 unfold Ls at e
 split at e<;>first
  |(cases e;simp;done)
  |(split at e<;>first|(cases e;simp;done)|(cases e;done))
  |(cases e;done)
def wN{pins:List (A4×Obj)}{s:AJ}{Q:A3->AJ->Prop}{E:A3->AJ->Prop}{w:W}{x:V}{u:A3}{T U:String}{k:Bool}(I:Inv X pins σ H s)(d:Cr X.K φ h H)(a:AQ X.K φ H w x)(Aq:RelV x u)(e:Ls h w=some T)(tt:Vq X.K (.type T) (.type U)=some k)(AU:∀By,Q (.bool k) { s with toks:=By }):AV (Al X.prog X.w) X.A (call (.builtin "isinstance") [u,.type U]) Q E s:=by
 have S7:∀{p:A4}{xs:List V},EM X.K H p xs->Vq X.K (.type "tuple") (.type U)=some k->AV (Al X.prog X.w) X.A (call (.builtin "isinstance") [.ref p,.type U]) Q E s:=λhs tt=>by obtain⟨its,_,⟨o,A9,AE,_⟩,_⟩:=I.tuple hs;exact IT pG I.EH ⟨o,A9,AE⟩ tt (λz=>nomatch z) AU
 unfold Ls at e
 split at e
 .cases e;simp only[AQ]at a;subst a;cases Aq;exact IT p5 I.EH IA tt (λz=>nomatch z) AU
 .cases e;simp only[AQ]at a;subst a;cases Aq;exact IT p6 I.EH IA tt (λz=>nomatch z) AU
 .cases e;simp only[AQ]at a;subst a;obtain⟨t,rfl⟩:=Aq;exact IT PySem.W.kitx_int I.EH IA tt (λz=>nomatch z) AU
 .cases e;simp only[AQ]at a;subst a;obtain⟨t,rfl⟩:=Aq;exact IT PySem.W.kitx_str I.EH IA tt (λz=>nomatch z) AU
 .cases e;simp only[AQ]at a;obtain⟨p,xs,rfl,hs,_⟩:=a;cases Aq;exact S7 (.inl (.inl hs)) tt
 .cases e;simp only[AQ]at a;obtain⟨p,xs,rfl,hs,_⟩:=a;cases Aq;exact S7 hs tt
 .split at e
  .rename_i Az;cases e;obtain⟨p,xs,rfl,_,hs,_⟩:=d.at Az a;cases Aq;exact ZY (x:=.ref p) I rfl (.lst hs) tt AU
  .rename_i Az;cases e;obtain⟨p,xs,rfl,_,⟨AA,hs,_⟩,_⟩:=d.at Az a;cases Aq;exact ZY (x:=.ref p) I rfl (.B3 hs) tt AU
  .rename_i Az;cases e;obtain⟨p,xs,rfl,_,⟨AA,hs,_⟩,_⟩:=d.at Az a;cases Aq;exact ZY (x:=.ref p) I rfl (.Da hs) tt AU
  .cases e
 .cases e
def ki(K:Ad)(U:String):List V->A8->CA->Prop:=λxs H Q=>∃φ h w x T,Cr K φ h H/\xs=[x,.ty U]/\AQ K φ H w x/\Ls h w=some T/\Q (.AM (ai T U)) H
def qR{U:String}(tt:dY X.K U):IZ X (.builtin "isinstance") (ki X.K U):=by intro pins s σ H xs us Q I r h;obtain⟨φ,hh,w,x,T,d,rfl,a,e,q⟩:=h;obtain⟨u,CD,rfl,Aq,FZ⟩:=vals2 r;obtain rfl:CD=NL U:=FZ;exact wN I d a Aq e (tt T (abW e)) λBy=>⟨.AM _,H,I.tok By,rfl,q⟩
def D5(U:String):W->A5->R (W×A5):=λw h=>match Ls h w with
 |some T=>.ok (.AM (ai T U),h)
 |none=>.bad
def uN{U:String}{m:B9}(AX:F.K=X.K):FL (C6 F (Bf (D5 U) m)) (VK (ki X.K U) (Ya (C6 F m) (Ya (Pj (.ty U)) Yc))):=λσ H Q q=>
 q.bd λw v φ ρ h H1 r a q=>by
   unfold D5 at q
   split at q
   .rename_i T sI;have GS:=a;have d:=r.hd;rw[AX]at GS d;exact⟨φ,h,w,v,T,d,rfl,GS,sI,q _ φ H1 r (Ag.refl _ _) (Mv _)⟩
   .exact q.elim
def bools:List W->Option (List Bool)
 |[]=>some []
 |.AM b::ws=>(bools ws).map (b::·)
 |_=>none
theorem fM:∀{ws:List W}{xs:List V}{bs:List Bool},bools ws=some bs->Ac K φ H ws xs->xs=bs.map V.AM
 |[],_,_,e,a=>by simp only[bools]at e;cases e;simp only[Ac]at a;exact a
 |w::ws,_,_,e,a=>by
  simp only[Ac]at a;obtain⟨v,r,rfl,a1,a2⟩:=a;cases w<;>simp only[bools]at e<;>try (cases e;done)
  rename_i b;cases AE:bools ws with
  |none=>rw[AE]at e;cases e
  |some bs=>rw[AE]at e;cases e;simp only[AQ]at a1;rw[a1,fM AE a2];rfl
noncomputable def Jm(all:Bool):K9:=λws h=>match ws with
 |[w]=>match E3 h w with
  |some (false,us)=>match bools us with
   |some bs=>.ok (.AM (if all then bs.all id else bs.any id),h)
   |none=>.bad
  |_=>.bad
 |_=>.bad
def z5(AX:F.K=X.K)(b:Bool):NT F (λxs H Q=>∃(p:A4)(bs:List Bool),xs=[.ref p]/\EL X.K H p (bs.map V.AM)/\Q (.AM (if b then bs.all id else bs.any id)) H) (Jm b):=by
 intro σ ρ φ h H xs ws Q r as q;unfold Jm at q
 split at q
 .obtain⟨v,rfl,a⟩:=as.one
  split at q
  .rename_i us es;obtain⟨p,xs,rfl,AU,BE⟩:=ID r.hd a es
   split at q
   .rename_i bs Au;have:=fM Au BE;subst this;rw[AX]at AU;exact⟨p,bs,rfl,AU,q _ φ H r (Ag.refl _ _) (Mv _)⟩
   .exact q.elim
  .exact q.elim
 .exact q.elim
abbrev QQ:=M (Option Int)
def aaz(_:Ad)(_:List A4)(_:A8)(a b:Option Int):Prop:=b=a
abbrev VM(F:D8)(m:QQ):Bj:=O8 aaz F m
def Ft(m:B9):QQ:=bd m λw=>match w with
 |.int i=>pu (some i)
 |_=>λ_ _=>.bad
def uQ:∀ σ H Q,VM F (pu none) σ H Q->nq σ H Q:=λσ H Q q=>let⟨φ,ρ,h,r,q⟩:=q;q none φ H r (Ag.refl _ _) rfl
def w2{m:B9}:∀ σ H Q,VM F (Ft m) σ H Q->nx (C6 F m) σ H Q:=λσ H Q q=>
 q.bd λw v φ ρ h H1 r a q=>by
   cases w with
   |int i=>simp only[AQ]at a;exact⟨i,a,q _ φ H1 r (Ag.refl _ _) rfl⟩
   |_=>cases q
def M6(ws:List W)(lo A7:Option Int):List W:=(ws.drop (Ez.CS ws.length 0 lo)).take (Ez.CS ws.length ws.length A7-Ez.CS ws.length 0 lo)
def Ac.cut{ws:List W}{xs:List V}(a:Ac K φ H ws xs)(lo A7:Option Int):Ac K φ H (M6 ws lo A7) (P7 xs lo A7):=by unfold M6 P7;rw[a.length];exact(a.drop _).take _
noncomputable def RG(w:W)(lo A7:Option Int):M W:=λ_ h=>match E3 h w with
 |some (false,ws)=>nw .lst (M6 ws lo A7) h
 |some (true,ws)=>if Ez.CS ws.length 0 lo=0/\Ez.CS ws.length ws.length A7=ws.length then .bad else .ok (.tup (M6 ws lo A7),h)
 |none=>.bad
def HJ(m:B9)(lo A7:QQ):B9:=bd m λw=>bd lo λl=>bd A7 λu=>RG w l u
def w7(AX:F.K=X.K){m:B9}{lo A7:QQ}:FL (C6 F (HJ m lo A7)) (o2 (λx lo A7 H Q=>jw X.K x lo A7 H Q\/jx X.K x lo A7 H Q) (C6 F m) (VM F lo) (VM F A7)):=λσ H Q q=>
 q.bd λw v φ ρ h H1 r a q=>⟨φ,ρ,h,r,q.bd λl Zc CE h2 AS B6 CZ e q=>by
   cases e;exact⟨CE,ρ,h2,B6,q.bd λu II JO B2 Bl Ee Ew e q=>by
    cases e;have a:=a.ex (CZ.trans Ew);unfold RG at q
    split at q
    .rename_i ws es;obtain⟨p,xs,rfl,AU,BE⟩:=ID Ee.hd a es;rw[AX]at AU;exact .inl ⟨p,xs,rfl,AU,λGz AT=>O6 Ee q AT EX (BE.cut l u)⟩
    .rename_i ws es;obtain⟨p,xs,rfl,AU,BE⟩:=ID Ee.hd a es;rw[AX]at AU
     split at q
     .exact q.elim
     .rename_i AW;rw[BE.length]at AW;exact .inr ⟨p,xs,rfl,AU,AW,λGz AT=>q _ JO _ (Ee.to (Ee.hd.lay AT) (Ag.lay AT)) (Ag.lay AT) (by simp only[AQ];exact⟨Gz,_,rfl,EX,(BE.cut l u).ex (Ag.lay AT)⟩)⟩
    .exact q.elim⟩⟩
end
section
variable{K:Ad}{φ:List A4}{h:A5}{H:A8}{F:D8}{σ :St}{ρ:BI}{X:Am}{ma:EK}{m:B9}
abbrev Mz:=List W->List W->Option (W×List W)
def Xu(f:Mz)(w:W)(us:List W):B9:=λ_ h=>match KY h w with
 |some (n,ws)=>match f ws us with
  |some (r,ws')=>if ws'.length<=B4 then .ok (r,h.set n ⟨.lst,ws'⟩)else .bad
  |none=>.bad
 |none=>.bad
def YJ{α:Type}(w:W)(m:M α):M α:=λρ h=>match KY h w with
 |some _=>m ρ h
 |none=>.bad
def E1(f:Mz)(o:B9)(ma:EK):B9:=bd o λw=>YJ w (bd ma λus=>Xu f w us)
def Xv{n:Nat}{p:A4}{ws ws':List W}{xs Le:List V}{r:W}{v:V}{Q:CA}(LU:Rel F φ h H σ ρ)(Az:h[n]?=some ⟨.lst,ws⟩)(Ai:φ[n]?=some p)(AT:H p=some (.lst xs))(BE:Ac F.K φ H ws' Le)(Bx:AQ F.K φ H r v)(q:Es AQ F φ H σ ρ Q (.ok (r,h.set n ⟨.lst,ws'⟩))):Q v (upd H p (.lst Le)):=by have x:Ag φ H φ (upd H p (.lst Le)):=Ag.put AT λz=>z;exact q v φ _ (LU.to (LU.hd.put Az Ai AT (λz=>z) (o':=⟨.lst,ws'⟩) EX BE) x) x (Bx.ex x)
noncomputable def U5(F:D8)(r:V->List V->A8->CA->Prop)(f:Mz):Prop:=∀ σ ρ φ h H n p ws us xs vs Q CD ws',Rel F φ h H σ ρ->h[n]?=some ⟨.lst,ws⟩->φ[n]?=some p->H p=some (.lst xs)->Ac F.K φ H ws xs->Ac F.K φ H us vs->f ws us=some (CD,ws')->ws'.length<=B4->Es AQ F φ H σ ρ Q (.ok (CD,h.set n ⟨.lst,ws'⟩))->r (.ref p) vs H Q
def aC(AX:F.K=X.K){r:V->List V->A8->CA->Prop}{f:Mz}(hf:U5 F r f):FL (C6 F (E1 f m ma)) (m4 X.K "list" r (C6 F m) (GC F ma)):=λσ H Q q=>
 q.bd λw v φ ρ h H1 LU a q=>by
   unfold YJ at q
   split at q
   .rename_i nw e;obtain⟨n,ws⟩:=nw;obtain⟨p,xs,rfl,Az,Ai,AT,BE⟩:=PQ LU.hd a e;refine⟨.inl ⟨rfl,xs,.inl (.inl AT)⟩,φ,ρ,h,LU,q.bd λus vs CE h2 AS B6 CZ as q=>?_⟩;unfold Xu at q
    split at q
    .rename_i Cw ws2 AE;obtain⟨CL,ae1,Nj,rX,rd,Up,SZ⟩:=PQ B6.hd (a.ex CZ) AE;cases Nj
     split at q
     .rename_i CD ws' Bo
      split at q
      .rename_i AF;exact hf σ ρ CE h2 AS Cw p ws2 us ae1 vs Q CD ws' B6 rX rd Up SZ as Bo AF q
      .exact q.elim
     .exact q.elim
    .exact q.elim
   .exact q.elim
def gn(AX:F.K=X.K){r:V->List V->A8->CA->Prop}{f:Mz}(hf:U5 F r f):FL (C6 F (E1 f m A2)) (m5 X.K "list" r (C6 F m)):=λσ H Q q=>by have z:=aC (X:=X) AX hf (m:=m) (ma:=A2) σ H Q q;obtain⟨φ,ρ,h,r,z⟩:=z;refine⟨φ,ρ,h,r,z.imp λv H1⟨ty,φ,ρ,h,r,z⟩=>⟨ty,z [] φ H1 r (Ag.refl _ _) .nil⟩⟩
def FU:Mz:=λws us=>match us with
 |[w]=>some (.non,ws++[w])
 |_=>none
def bN:AQ K φ H .non .non:=by simp only[AQ]
def yw:U5 F kd FU:=by
 intro σ ρ φ h H n p ws us xs vs Q CD ws' LU Az Ai AT BE as Bo AF q;unfold FU at Bo
 split at Bo
 .cases Bo;obtain⟨v,rfl,E_⟩:=as.one;rw[EP,BE.length]at AF;exact⟨p,xs,v,rfl,rfl,AT,Fn (Nat.lt_of_succ_le AF) (by decide),Xv LU Az Ai AT (BE.append (.cons E_ .nil)) bN q⟩
 .cases Bo
noncomputable def L0:Mz:=λws us=>match us with
 |[]=>(ws[ws.length-1]?).map λw=>(w,ws.dropLast)
 |[.int i]=>if-(2^63)<=i/\i<2^63 then match Rc i ws.length with
    |some k=>(ws[k]?).map λw=>(w,ws.eraseIdx k)
    |none=>none
  else none
 |_=>none
def Ac.erase{ws:List W}{xs:List V}(a:Ac K φ H ws xs)(k:Nat):Ac K φ H (ws.eraseIdx k) (xs.eraseIdx k):=by rw[oX,oX];exact(a.take k).append (a.drop (k+1))
theorem Ac.dropLast{ws:List W}{xs:List V}(a:Ac K φ H ws xs):Ac K φ H ws.dropLast xs.dropLast:=by rw[oc,oc,a.length];exact a.take _
def j5:U5 F (λx vs H Q=>ko x vs H Q\/kp x vs H Q) L0:=by
 intro σ ρ φ h H n p ws us xs vs Q CD ws' LU Az Ai AT BE as Bo AF q;unfold L0 at Bo
 split at Bo
 .simp only[Ac]at as;subst as;cases e:ws[ws.length-1]? with
  |none=>rw[e]at Bo;cases Bo
  |some w=>rw[e]at Bo;cases Bo;obtain⟨v,ev,E_⟩:=BE.get e;rw[BE.length]at ev;exact .inl ⟨p,xs,v,rfl,rfl,AT,ev,Xv LU Az Ai AT BE.dropLast E_ q⟩
 .rename_i i;obtain⟨v,rfl,E_⟩:=as.one;simp only[AQ]at E_;subst E_
  split at Bo
  .rename_i A7
   split at Bo
   .rename_i k D1;cases e:ws[k]? with
    |none=>rw[e]at Bo;cases Bo
    |some w=>rw[e]at Bo;cases Bo;obtain⟨v,ev,E_⟩:=BE.get e;rw[BE.length]at D1;exact .inr ⟨p,xs,i,k,v,rfl,rfl,AT,A7.1,A7.2,D1,ev,Xv LU Az Ai AT (BE.erase k) E_ q⟩
   .cases Bo
  .cases Bo
 .cases Bo
def OL:Mz:=λ_ us=>match us with
 |[]=>some (.non,[])
 |_=>none
def yx:U5 F kh OL:=by
 intro σ ρ φ h H n p ws us xs vs Q CD ws' LU Az Ai AT BE as Bo AF q;unfold OL at Bo
 split at Bo
 .cases Bo;simp only[Ac]at as;subst as;exact⟨p,xs,rfl,rfl,AT,Xv LU Az Ai AT .nil bN q⟩
 .cases Bo
def Z2(o i v:W):An:=λρ h=>match KY h o,i with
 |some (n,ws),.int k=>match LL ws.length k with
  |some j=>.ok (.AP ρ,h.set n ⟨.lst,ws.set j v⟩)
  |none=>.bad
 |_,_=>.bad
def Ri(o i:B9):DC:=λv=>bd o λUK=>bd i λiX=>Z2 UK iX v
def w3{o i:B9}:Wa (Ng F (Ri o i)) (hQ (C6 F o) (C6 F i) jv):=by
 rintro v σ H Q ⟨φ,ρ,h,w,r,a,q⟩;refine⟨φ,ρ,h,r,EC.bd q λUK x C7 h1 H1 Ak D6 Dz q=>⟨C7,ρ,h1,Ak,EC.bd q λiX y CE h2 AS B6 CZ GI q=>?_⟩⟩;unfold Z2 at q
 split at q
 .rename_i n ws k e;obtain⟨p,xs,rfl,Az,Ai,AT,BE⟩:=PQ B6.hd (Dz.ex CZ) e;simp only[AQ]at GI
  split at q
  .rename_i j Hz;have AE:Ag CE AS CE (upd AS p (.lst (xs.set j v))):=Ag.put AT λz=>z;rw[BE.length]at Hz;exact⟨p,xs,k,j,rfl,GI,AT,Hz,q σ CE _ (B6.to (B6.hd.put Az Ai AT (λz=>z) (o':=⟨.lst,ws.set j w⟩) EX (BE.set (a.ex (D6.trans CZ)) j)) AE) AE⟩
  .exact q.elim
 .exact q.elim
def keyOf:W->Option Key
 |.int i=>some (.inl i)
 |.str x=>some (.inr x)
 |_=>none
def Zq:W->Option Jw
 |.tup ws=>(ws.mapM keyOf).map .inr
 |w=>(keyOf w).map .inl
def RB:W->Option Cf
 |.tup ws=>ws.mapM Zq
 |_=>none
def QL{w:W}{v:V}{k:Key}(e:keyOf w=some k)(a:AQ K φ H w v):v=CU k:=by cases w<;>simp only[keyOf]at e<;>first|(cases e;done)|(cases e;simp only[AQ]at a;exact a)
theorem ZL{α:Type}{f:W->Option α}{P:α->V->Prop}(hf:∀{w v k},f w=some k->AQ K φ H w v->P k v):∀{ws:List W}{xs:List V}{ks:List α},ws.mapM f=some ks->Ac K φ H ws xs->Paired P ks xs
 |[],_,_,e,a=>by simp at e;subst e;simp only[Ac]at a;subst a;exact .nil
 |w::ws,_,_,e,a=>by
  simp only[Ac]at a;obtain⟨v,r,rfl,a1,a2⟩:=a;rw[W0]at e;cases A9:f w with
  |none=>rw[A9]at e;cases e
  |some k=>
   rw[A9]at e;cases AE:ws.mapM f with
   |none=>rw[AE]at e;cases e
   |some ks=>rw[AE]at e;cases e;exact .cons (hf A9 a1) (ZL hf AE a2)
theorem jI:∀{ks:List Key}{xs:List V},Paired (λk v=>v=CU k) ks xs->xs=ks.map CU
 |_,_,.nil=>rfl
 |_,_,.cons e t=>by rw[e,jI t];rfl
def xi{w:W}{v:V}{k:Jw}(e:Zq w=some k)(a:AQ K φ H w v):Pa H k v:=by
 unfold Zq at e
 split at e
 .rename_i ws;cases A9:ws.mapM keyOf with
  |none=>rw[A9]at e;cases e
  |some ks=>rw[A9]at e;cases e;simp only[AQ]at a;obtain⟨b,xs,rfl,A1,BE⟩:=a;exact⟨b,rfl,by rw[A1,jI (ZL QL A9 BE)]⟩
 .cases A9:keyOf w with
  |none=>rw[A9]at e;cases e
  |some k=>rw[A9]at e;cases e;exact QL A9 a
def jc{w:W}{v:V}{k:Cf}(e:RB w=some k)(a:AQ K φ H w v):∃b,v=.ref b/\N2 H k b:=by
 unfold RB at e
 split at e
 .simp only[AQ]at a;obtain⟨b,xs,rfl,A1,BE⟩:=a;exact⟨b,rfl,xs,A1,ZL xi e BE⟩
 .cases e
section
variable{B_:Type}[DecidableEq B_]
def Dk:List B_->List W->B_->Option W
 |k'::ks,w::ws,k=>if k'=k then some w else Dk ks ws k
 |_,_,_=>none
def Lq:List B_->List W->B_->W->List W
 |k'::ks,w::ws,k,u=>(if k'=k then u else w)::Lq ks ws k u
 |_,_,_,_=>[]
def NC:List B_->List W->B_->List W
 |k'::ks,w::ws,k=>if k'=k then NC ks ws k else w::NC ks ws k
 |_,_,_=>[]
def UA(K:Ad)(φ:List A4)(H:A8):Option W->Option V->Prop
 |some w,some v=>AQ K φ H w v
 |none,none=>True
 |_,_=>False
theorem RO(k:B_):∀{AA:List (B_×V)}{ws:List W},Ac K φ H ws (AA.map (·.2))->UA K φ H (Dk (AA.map (·.1)) ws k) (HE AA k)
 |[],ws,a=>by
  have:=a.length;cases ws with
  |nil=>simp[Dk,abf,UA]
  |cons _ _=>simp at this
 |(k',v)::AA,ws,a=>by
  cases ws with
  |nil=>have:=a.length;simp at this
  |cons w ws=>
   simp only[DB,Ac]at a;obtain⟨I4,r,e,a1,a2⟩:=a;cases e;simp only[DB,Dk];by_cases AK:k'=k
   .rw[if_pos AK,VV AK];exact a1
   .rw[if_neg AK,VU AK];exact RO k a2
theorem kH{k:B_}{u:W}{x:V}(b:AQ K φ H u x):∀{AA:List (B_×V)}{ws:List W},Ac K φ H ws (AA.map (·.2))->Ac K φ H (Lq (AA.map (·.1)) ws k u) ((AA.map λCh=>if Ch.1=k then(Ch.1,x)else Ch).map (·.2))
 |[],ws,a=>by
  cases ws with
  |nil=>exact .nil
  |cons _ _=>have:=a.length;simp at this
 |(k',v)::AA,ws,a=>by
  cases ws with
  |nil=>have:=a.length;simp at this
  |cons w ws=>
   simp only[DB,Ac]at a;obtain⟨I4,r,e,a1,a2⟩:=a;cases e;simp only[DB,Lq];refine .cons ?_ (kH b a2);by_cases AK:k'=k
   .rw[if_pos AK,if_pos AK];exact b
   .rw[if_neg AK,if_neg AK];exact a1
theorem ft{k:B_}:∀{AA:List (B_×V)}{ws:List W},Ac K φ H ws (AA.map (·.2))->Ac K φ H (NC (AA.map (·.1)) ws k) ((M7 AA k).map (·.2))
 |[],ws,a=>by
  cases ws with
  |nil=>exact .nil
  |cons _ _=>have:=a.length;simp at this
 |(k',v)::AA,ws,a=>by
  cases ws with
  |nil=>have:=a.length;simp at this
  |cons w ws=>
   simp only[DB,Ac]at a;obtain⟨I4,r,e,a1,a2⟩:=a;cases e;have Bk:=ft (k:=k) a2;unfold M7 at Bk |-;simp only[DB,NC];by_cases AK:k'=k
   .rw[if_pos AK,List.filter_cons_of_neg (by simp[AK])];exact Bk
   .rw[if_neg AK,List.filter_cons_of_pos (by simp[AK])];exact .cons a1 Bk
def s6(AA:List (B_×V))(k:B_):(M7 AA k).map (·.1)=(AA.map (·.1)).filter λx=>decide (x≠k):=by unfold M7;rw[List.filter_map];rfl
def Mu(ks:List B_)(ws:List W)(k:B_)(w:W):List B_×List W:=if k∈ks then(ks,Lq ks ws k w)else(ks++[k],ws++[w])
def pJ(AA:List (B_×V))(k:B_):(AA.any λCh=>decide (Ch.1=k))=decide (k∈AA.map (·.1)):=by rw[bu];simp only[List.any_eq_true,decide_eq_true_eq,W8]
def kV{k:B_}{u:W}{x:V}{AA:List (B_×V)}{ws:List W}(b:AQ K φ H u x)(a:Ac K φ H ws (AA.map (·.2))):(putK AA k x).map (·.1)=(Mu (AA.map (·.1)) ws k u).1/\Ac K φ H (Mu (AA.map (·.1)) ws k u).2 ((putK AA k x).map (·.2)):=by
 unfold putK Mu;rw[pJ];by_cases AK:k∈AA.map (·.1)
 .rw[if_pos (decide_eq_true AK),if_pos AK];refine⟨?_,kH b a⟩;rw[List.map_map];apply List.map_congr_left;intro Ch _;simp only[cF]
  split<;>rfl
 .rw[if_neg (by simp only[decide_eq_true_eq];exact AK),if_neg AK];exact⟨by simp,by rw[K1];exact a.append (.cons b .nil)⟩
end
noncomputable def Gx(h:A5)(d k:W):Option (Option W):=match d with
 |.ref n=>match h[n]? with
  |some ⟨.B3 ks,ws⟩=>(keyOf k).map (Dk ks ws)
  |some ⟨.JA ks,ws⟩=>(keyOf k).map (Dk ks ws)
  |some ⟨.Da ks,ws⟩=>(RB k).map (Dk ks ws)
  |_=>none
 |_=>none
def Xf(d:Cr K φ h H){Ih kw:W}{x y:V}{o:Option W}(e:Gx h Ih kw=some o)(Dz:AQ K φ H Ih x)(GI:AQ K φ H kw y):∃a CQ,x=.ref a/\Ia H a y CQ/\UA K φ H o CQ:=by
 unfold Gx at e
 split at e
 .split at e
  .rename_i ks ws Az;obtain⟨a,xs,rfl,_,⟨AA,AB,rfl,rfl⟩,BE⟩:=d.at Az Dz;cases D1:keyOf kw with
   |none=>rw[D1]at e;cases e
   |some k=>rw[D1]at e;cases e;rw[QL D1 GI];exact⟨a,_,rfl,Ia.k AB,RO k BE⟩
  .rename_i ks ws Az;obtain⟨a,xs,rfl,_,⟨o,AA,AB,rfl,rfl⟩,BE⟩:=d.at Az Dz;cases D1:keyOf kw with
   |none=>rw[D1]at e;cases e
   |some k=>rw[D1]at e;cases e;rw[QL D1 GI];exact⟨a,_,rfl,.inl ⟨AA,k,.inr ⟨o,AB⟩,rfl,rfl⟩,RO k BE⟩
  .rename_i ks ws Az;obtain⟨a,xs,rfl,_,⟨AA,AB,rfl,rfl⟩,BE⟩:=d.at Az Dz;cases D1:RB kw with
   |none=>rw[D1]at e;cases e
   |some k=>rw[D1]at e;cases e;obtain⟨b,rfl,tb⟩:=jc D1 GI;exact⟨a,_,rfl,Ia.t AB tb,RO k BE⟩
  .cases e
 .cases e
def eN:GQ:=λd k h=>match Gx h d k with
 |some (some w)=>.ok (w,h)
 |_=>.bad
def uo{d k:B9}:FL (C6 F (A0 eN d k)) (mX (C6 F d) (C6 F k)):=λσ H Q q=>
 q.bd λIh x φ ρ h H1 r Dz q=>⟨φ,ρ,h,r,q.bd λkw y CE h2 AS B6 CZ GI q=>by
   unfold eN at q
   split at q
   .rename_i w e;obtain⟨a,CQ,rfl,g,FH⟩:=Xf B6.hd e (Dz.ex CZ) GI;cases CQ with
    |none=>cases FH
    |some v=>exact⟨a,v,rfl,g,q v CE AS B6 (Ag.refl _ _) FH⟩
   .exact q.elim⟩
def afB(b:Bool):GQ:=λk d h=>match Gx h d k with
 |some o=>.ok (.AM (if b then o.isSome else !o.isSome),h)
 |none=>.bad
def UA.is{o:Option W}{CQ:Option V}(r:UA K φ H o CQ):o.isSome=CQ.isSome:=by cases o<;>cases CQ<;>first|rfl|cases r
noncomputable def ON(d k v:W):An:=λρ h=>match d with
 |.ref n=>match h[n]? with
  |some ⟨.B3 ks,ws⟩=>match keyOf k with
   |some k=>if ws.length<B4 then .ok (.AP ρ,h.set n ⟨.B3 (Mu ks ws k v).1,(Mu ks ws k v).2⟩)else .bad
   |none=>.bad
  |some ⟨.Da ks,ws⟩=>match RB k with
   |some k=>if ws.length<B4 then .ok (.AP ρ,h.set n ⟨.Da (Mu ks ws k v).1,(Mu ks ws k v).2⟩)else .bad
   |none=>.bad
  |_=>.bad
 |_=>.bad
def Jg(d k v:B9):An:=bd v λOU=>bd d λIh=>bd k λkw=>ON Ih kw OU
def ur{d k v:B9}:Jv (G6 F (Jg d k v)) (kM (C6 F d) (C6 F k) (C6 F v)):=λBv σ H q=>
 q.bd λOU z φ ρ h H1 r N5 q=>⟨φ,ρ,h,r,EC.bd q λIh x C7 h1 AS Ak D6 Dz q=>⟨C7,ρ,h1,Ak,EC.bd q λkw y CE h2 Bl B6 CZ GI q=>by
   have N5:=N5.ex (D6.trans CZ);have Dz:=Dz.ex CZ;unfold ON at q
   split at q
   .split at q
    .rename_i ks ws Az;obtain⟨a,xs,rfl,Bg,⟨AA,AB,rfl,rfl⟩,BE⟩:=B6.hd.at Az Dz
     split at q
     .rename_i k D1
      split at q
      .rename_i AF;rw[BE.length,DV]at AF;obtain⟨A9,AE⟩:=kV (k:=k) N5 BE;have Ew:Ag CE Bl CE (upd Bl a (.B3 (putK AA k z))):=Ag.put AB λz=>z;rw[QL D1 GI];exact⟨a,_,rfl,PW.k AB (Fn AF (by decide)),q σ CE _ (B6.to (B6.hd.put Az Bg AB (λz=>z) (o':=⟨.B3 _,_⟩) ⟨_,EX,A9,rfl⟩ AE) Ew) Ew⟩
      .exact q.elim
     .exact q.elim
    .rename_i ks ws Az;obtain⟨a,xs,rfl,Bg,⟨AA,AB,rfl,rfl⟩,BE⟩:=B6.hd.at Az Dz
     split at q
     .rename_i k D1
      split at q
      .rename_i AF;rw[BE.length,DV]at AF;obtain⟨A9,AE⟩:=kV (k:=k) N5 BE;have Ew:Ag CE Bl CE (upd Bl a (.Da (putK AA k z))):=Ag.put AB λz=>z;obtain⟨b,rfl,tb⟩:=jc D1 GI;exact⟨a,_,rfl,PW.t AB tb (Fn AF (by decide)),q σ CE _ (B6.to (B6.hd.put Az Bg AB (λz=>z) (o':=⟨.Da _,_⟩) ⟨_,EX,A9,rfl⟩ AE) Ew) Ew⟩
      .exact q.elim
     .exact q.elim
    .exact q.elim
   .exact q.elim⟩⟩
def Nv(h:A5):W->Bool
 |.ref n=>match h[n]? with
  |some ⟨.B3 _,_⟩=>true
  |some ⟨.Da _,_⟩=>true
  |_=>false
 |_=>false
def iS(d:Cr K φ h H){w:W}{x:V}(a:AQ K φ H w x)(e:Nv h w=true):∃p,x=.ref p/\Wb H p:=by
 unfold Nv at e
 split at e
 .split at e
  .rename_i Az;obtain⟨p,xs,rfl,_,⟨AA,AT,_⟩,_⟩:=d.at Az a;exact⟨p,rfl,.inl ⟨AA,.inl AT⟩⟩
  .rename_i Az;obtain⟨p,xs,rfl,_,⟨AA,AT,_⟩,_⟩:=d.at Az a;exact⟨p,rfl,.inr ⟨AA,.inl AT⟩⟩
  .cases e
 .cases e
def PJ{α:Type}(w:W)(m:M α):M α:=λρ h=>if Nv h w=true then m ρ h else .bad
def UP(d k:B9):B9:=bd d λIh=>PJ Ih (bd k λkw _ h=>match Gx h Ih kw with
 |some o=>.ok (o.getD .non,h)
 |none=>.bad)
def um{d k:B9}:FL (C6 F (UP d k)) (nZ (C6 F d) (C6 F k)):=λσ H Q q=>
 q.bd λIh x φ ρ h H1 r Dz q=>by
   unfold PJ at q
   split at q
   .rename_i e;obtain⟨p,rfl,AT⟩:=iS r.hd Dz e;refine⟨p,rfl,AT,φ,ρ,h,r,q.bd λkw y CE h2 AS B6 CZ GI q=>?_⟩
    split at q
    .rename_i o G2;obtain⟨a,CQ,Bg,g,FH⟩:=Xf B6.hd G2 (Dz.ex CZ) GI;cases Bg;refine⟨CQ,g,q _ CE AS B6 (Ag.refl _ _) ?_⟩;cases o<;>cases CQ<;>first|exact bN|exact FH|cases FH
    .exact q.elim
   .exact q.elim
noncomputable def Tf(Ih kw:W):B9:=λ_ h=>match Ih with
 |.ref n=>match h[n]? with
  |some ⟨.B3 ks,ws⟩=>match keyOf kw with
   |some k=>match Dk ks ws k with
    |some w=>.ok (w,h.set n ⟨.B3 (ks.filter λx=>decide (x≠k)),NC ks ws k⟩)
    |none=>.bad
   |none=>.bad
  |_=>.bad
 |_=>.bad
def R1(d k:B9):B9:=bd d λIh=>PJ Ih (bd k λkw=>Tf Ih kw)
def uq{d k:B9}:FL (C6 F (R1 d k)) (nc (C6 F d) (C6 F k)):=λσ H Q q=>
 q.bd λIh x φ ρ h H1 r Dz q=>by
   unfold PJ at q
   split at q
   .rename_i e;obtain⟨p,rfl,AT⟩:=iS r.hd Dz e;refine⟨p,rfl,AT,φ,ρ,h,r,q.bd λkw y CE h2 AS B6 CZ GI q=>?_⟩;unfold Tf at q
    split at q
    .split at q
     .rename_i ks ws Az;obtain⟨a,xs,Bg,rR,⟨AA,AB,rfl,rfl⟩,BE⟩:=B6.hd.at Az (Dz.ex CZ);cases Bg
      split at q
      .rename_i k D1
       split at q
       .rename_i w DD;have FH:=RO k BE;rw[DD]at FH;cases ev:HE AA k with
        |none=>rw[ev]at FH;cases FH
        |some v=>rw[ev]at FH;have Ew:Ag CE AS CE (upd AS p (.B3 (M7 AA k))):=Ag.put AB λz=>z;exact⟨AA,k,v,AB,QL D1 GI,ev,q v CE _ (B6.to (B6.hd.put Az rR AB (λz=>z) (o':=⟨.B3 _,_⟩) ⟨_,EX,s6 AA k,rfl⟩ (ft BE)) Ew) Ew (AQ.ex Ew FH)⟩
       .exact q.elim
      .exact q.elim
     .exact q.elim
    .exact q.elim
   .exact q.elim
def Jf(t:Bool):B9:=λ_ h=>nw (if t then .Da []else .B3 []) [] h
def uk:FL (C6 F (Jf false)) aq:=λσ H Q⟨φ,ρ,h,r,q⟩ p AT=>O6 r q AT ⟨[],EX,rfl,rfl⟩ .nil
def ul:FL (C6 F (Jf true)) n_:=λσ H Q⟨φ,ρ,h,r,q⟩ p AT=>O6 r q AT ⟨[],EX,rfl,rfl⟩ .nil
end
abbrev HQ:=Nat->A5->Option (Option W)
noncomputable def Ip(K:Ad)(E5:List A4)(C2:A8)(it:HQ)(BO:It):Prop:=∀i φ h H,Cr K φ h H->Ag E5 C2 φ H->(it i h=some none->BO.stop i H)/\∀w,it i h=some (some w)->BO.go i H/\∀x A6,BO.V9 i H x A6->Cr K φ h A6/\Ag φ H φ A6/\AQ K φ A6 w x
abbrev Fw:=M HQ
abbrev au(F:D8)(m:Fw):TI:=O8 Ip F m
noncomputable def NF(it:HQ)(g:DC)(b:An):Nat->Nat->An
 |0,_=>λ_ _=>.bad
 |f+1,i=>λρ h=>match it i h with
  |some none=>.ok (.AP ρ,h)
  |some (some w)=>(g w ρ h).bind λp=>match p with
   |(.AP CI,h1)=>(b CI h1).bind λp=>match p with
    |(.AP DA,h2)=>NF it g b f (i+1) DA h2
    |(.Cv DA,h2)=>NF it g b f (i+1) DA h2
    |(.BF DA,h2)=>.ok (.AP DA,h2)
    |(.Do w,h2)=>.ok (.Do w,h2)
   |_=>.bad
  |none=>.bad
def Jt:Nat:=1000
def O1(mi:Fw)(g:DC)(b:An):An:=bd mi λit=>NF it g b Jt 0
section
variable{F:D8}{K:Ad}{φ:List A4}{h:A5}{H:A8}{σ :St}{ρ:BI}{X:Am}
def gj{mi:Fw}{g:DC}{b:An}:Jv (G6 F (O1 mi g b)) (ar (au F mi) (Ng F g) (G6 F b)):=λBv σ H q=>
 q.bd λit BO C7 CI h1 H1 Ak io q=>by
   refine⟨λi m σ H=>∃φ ρ h,Rel F φ h H σ ρ/\Ag C7 H1 φ H/\EC F φ H Bv (NF it g b m i ρ h),⟨Jt,C7,CI,h1,Ak,Ag.refl _ _,q⟩,?_⟩;rintro i m σ H ⟨φ,ρ,h,r,x,q⟩;cases m with
   |zero=>cases q
   |succ m=>
    unfold NF at q;obtain⟨B1,BW⟩:=io i φ h H r.hd x
    split at q
    .rename_i e;exact .inl ⟨B1 e,q σ φ H r (Ag.refl _ _)⟩
    .rename_i w e;obtain⟨go,bS⟩:=BW w e;refine .inr ⟨go,λσ' A6=>∃φ ρ h,Rel F φ h A6 σ' ρ/\Ag C7 H1 φ A6/\EC F φ A6 Bv (NF it g b m (i+1) ρ h),λσ' A6 n=>⟨m,Pr _,n⟩,λy A6 AN=>?_⟩;obtain⟨d',Ev,TU⟩:=bS y A6 AN;refine⟨φ,ρ,h,w,r.to d' Ev,TU,?_⟩;have q:=EC.ex Ev q;cases eg:g w ρ h with
     |bad=>rw[eg]at q;cases q
     |exc c h'=>rw[eg]at q;exact q
     |ok p=>
      rw[eg]at q;obtain⟨f,h2⟩:=p;cases f with
      |AP DA=>
       intro σ2 CE AS B6 CZ;refine⟨CE,DA,h2,B6,?_⟩;have q:=EC.ex CZ q;have Qu:=x.trans (Ev.trans CZ);simp only[R.bind]at q;cases Au:b DA h2 with
       |bad=>rw[Au]at q;cases q
       |exc c h'=>rw[Au]at q;exact q
       |ok p=>
        rw[Au]at q;obtain⟨f,B2⟩:=p;cases f with
        |AP OX=>exact λσ3 JO Bl Ee Ew=>⟨JO,OX,B2,Ee,Qu.trans Ew,EC.ex Ew q⟩
        |Cv OX=>exact λσ3 JO Bl Ee Ew=>⟨JO,OX,B2,Ee,Qu.trans Ew,EC.ex Ew q⟩
        |BF OX=>exact q
        |Do w=>exact q
      |_=>cases q
    .exact q.elim
noncomputable def Pl(c:DK)(b:An):Nat->An
 |0=>λ_ _=>.bad
 |f+1=>bd c λk=>if k=true then λρ h=>(b ρ h).bind λp=>match p with
   |(.AP DA,h2)=>Pl c b f DA h2
   |(.Cv DA,h2)=>Pl c b f DA h2
   |(.BF DA,h2)=>.ok (.AP DA,h2)
   |(.Do w,h2)=>.ok (.Do w,h2)
  else Br
def Su(c:DK)(b:An):An:=Pl c b Jt
def wD{c:DK}{b:An}:Jv (G6 F (Su c b)) (o7 (HW F c) (G6 F b)):=by
 rintro Bv σ H ⟨φ,ρ,h,r,q⟩;refine⟨λm σ H=>∃φ ρ h,Rel F φ h H σ ρ/\EC F φ H Bv (Pl c b m ρ h),⟨Jt,φ,ρ,h,r,q⟩,?_⟩;rintro m σ H ⟨φ,ρ,h,r,q⟩;cases m with
 |zero=>cases q
 |succ m=>
  unfold Pl at q;refine⟨φ,ρ,h,r,EC.bd q λk k' C7 h1 H1 Ak D6 e q=>?_⟩;cases e;cases k with
  |false=>exact q σ C7 H1 Ak (Ag.refl _ _)
  |true=>
   refine⟨λσ' A6=>∃φ ρ h,Rel F φ h A6 σ' ρ/\EC F φ A6 Bv (Pl c b m ρ h),λσ' A6 n=>⟨m,Pr _,n⟩,C7,ρ,h1,Ak,?_⟩;rw[if_pos rfl]at q;cases Au:b ρ h1 with
   |bad=>rw[Au]at q;cases q
   |exc c h'=>rw[Au]at q;exact q
   |ok p=>
    rw[Au]at q;obtain⟨f,B2⟩:=p;cases f with
    |AP OX=>exact λσ3 JO Bl Ee Ew=>⟨JO,OX,B2,Ee,EC.ex Ew q⟩
    |Cv OX=>exact λσ3 JO Bl Ee Ew=>⟨JO,OX,B2,Ee,EC.ex Ew q⟩
    |BF OX=>exact q
    |Do w=>exact q
def S8:List DC->List W->An
 |[],[]=>Br
 |g::Fp,w::ws=>AO (g w) (S8 Fp ws)
 |_,_=>λ_ _=>.bad
def FP(Fp:List DC):DC:=λw ρ h=>match E3 h w with
 |some (true,ws)=>if Fp.length=ws.length then S8 Fp ws ρ h else .bad
 |_=>.bad
def VL(F:D8)(Fp:List DC):OE:=λvs σ H Q=>∃φ ρ h ws,Rel F φ h H σ ρ/\Ac F.K φ H ws vs/\EC F φ H ⟨Q,λ_ _=>False,λ_ _=>False,λ_ _=>False⟩ (S8 Fp ws ρ h)
def gk:∀vs σ H Q,VL F [] vs σ H Q->hP vs σ H Q:=by
 rintro vs σ H Q ⟨φ,ρ,h,ws,r,as,q⟩;cases ws with
 |nil=>simp only[Ac]at as;exact⟨as,q σ φ H r (Ag.refl _ _)⟩
 |cons _ _=>cases q
def aB{g:DC}{Fp:List DC}:∀vs σ H Q,VL F (g::Fp) vs σ H Q->hO (Ng F g) (VL F Fp) vs σ H Q:=by
 rintro vs σ H Q ⟨φ,ρ,h,ws,r,as,q⟩;cases ws with
 |nil=>cases q
 |cons w ws=>
  simp only[Ac]at as;obtain⟨v,nX,rfl,a1,a2⟩:=as;refine⟨v,nX,rfl,φ,ρ,h,w,r,a1,?_⟩;unfold S8 AO at q;cases e:g w ρ h with
  |bad=>rw[e]at q;cases q
  |exc c h'=>rw[e]at q;exact q
  |ok p=>
   rw[e]at q;obtain⟨f,h1⟩:=p;cases f with
   |AP Dx=>exact λσ' BL A6 BK x=>⟨BL,Dx,h1,ws,BK,a2.ex x,EC.ex x q⟩
   |_=>exact q
def gm(AX:F.K=X.K){Fp:List DC}{n:Nat}(AW:Fp.length=n):Wa (Ng F (FP Fp)) (hS X.K n (VL F Fp)):=by
 rintro v σ H Q ⟨φ,ρ,h,w,r,a,q⟩;unfold FP at q
 split at q
 .rename_i ws e;obtain⟨p,xs,rfl,hs,BE⟩:=ID r.hd a e;rw[AX]at hs
  split at q
  .rename_i AF;exact⟨p,xs,rfl,hs,by rw[<-BE.length,<-AF];exact AW,φ,ρ,h,ws,r,BE,q⟩
  .exact q.elim
 .exact q.elim
def G4(w:W):HQ:=λi h=>match E3 h w with
 |some (_,ws)=>some ws[i]?
 |none=>none
def wu(AX:F.K=X.K){w:W}{v:V}{p:A4}(a:AQ F.K φ H w v)(e:v=.ref p)(hs:∀CE h2 AS,Cr F.K CE h2 AS->Ag φ H CE AS->∀t ws,E3 h2 w=some (t,ws)->t=false):Ip F.K φ H (G4 w) (dK X.K p):=λi CE h2 AS d x=>by
 unfold G4;cases es:E3 h2 w with
 |none=>exact⟨λz=>(nomatch z),λw z=>(nomatch z)⟩
 |some RM=>
  obtain⟨t,ws⟩:=RM;have BQ:=hs CE h2 AS d x t ws es;subst BQ;obtain⟨Gz,xs,BC,AU,BE⟩:=ID d (a.ex x) es;rw[e]at BC;cases BC;have AU:EL F.K AS p xs:=AU;rw[AX]at AU;refine⟨λz=>⟨xs,AU,?_⟩,λCD z=>?_⟩
  .have:ws[i]?=none:=Fd z;rw[<-BE.length];exact List.getElem?_eq_none_iff.mp this
  .have:ws[i]?=some CD:=Fd z;obtain⟨v,ev,E_⟩:=BE.get this;exact⟨⟨xs,v,AU,ev⟩,λy A6 AN=>by obtain⟨rfl,AN⟩:=AN;have:=AN xs AU;rw[ev]at this;cases this;exact⟨d,Ag.refl _ _,E_⟩⟩
def Zm(AX:F.K=X.K){w:W}{v:V}{p:A4}(a:AQ F.K φ H w v)(e:v=.ref p)(hs:∀h2 t ws,E3 h2 w=some (t,ws)->t=true):Ip F.K φ H (G4 w) (dM X.K p):=λi CE h2 AS d x=>by
 unfold G4;cases es:E3 h2 w with
 |none=>exact⟨λz=>(nomatch z),λw z=>(nomatch z)⟩
 |some RM=>
  obtain⟨t,ws⟩:=RM;have BQ:=hs h2 t ws es;subst BQ;obtain⟨Gz,xs,BC,AU,BE⟩:=ID d (a.ex x) es;rw[e]at BC;cases BC;have AU:EM F.K AS p xs:=AU;rw[AX]at AU;refine⟨λz=>⟨xs,AU,?_⟩,λCD z=>?_⟩
  .have:ws[i]?=none:=Fd z;rw[<-BE.length];exact List.getElem?_eq_none_iff.mp this
  .have:ws[i]?=some CD:=Fd z;obtain⟨v,ev,E_⟩:=BE.get this;exact⟨⟨xs,v,AU,ev⟩,λy A6 AN=>by obtain⟨rfl,AN⟩:=AN;have:=AN xs AU;rw[ev]at this;cases this;exact⟨d,Ag.refl _ _,E_⟩⟩
def V0:W->Bool
 |.ref _=>true
 |.Eb _=>true
 |_=>false
def ZE{w:W}{t:Bool}{ws:List W}(e:E3 h w=some (t,ws)):(t=false↔V0 w=true):=by
 unfold E3 at e
 split at e
 .cases e;simp[V0]
 .cases e;simp[V0]
 .cases e;simp[V0]
 .split at e<;>first|(cases e;simp[V0];done)|(cases e;done)
 .cases e
def Kh(lo:Int)(n:Nat):HQ:=λi _=>some (if i<n then some (.int (lo+i))else none)
def kF(lo:Int)(n:Nat):Ip K φ H (Kh lo n) (Tx lo n):=λi CE h2 AS d x=>by
 unfold Kh;by_cases A7:i<n
 .rw[if_pos A7];exact⟨λz=>(nomatch z),λw z=>by cases z;exact⟨A7,λy A6 AN=>by obtain⟨rfl,rfl⟩:=AN;exact⟨d,Ag.refl _ _,by simp only[AQ]⟩⟩⟩
 .rw[if_neg A7];exact⟨λ_=>(show n<=i by lia),λw z=>(nomatch z)⟩
def P4(nl:Nat)(caps:List Nat)(ρ:BI):BI:=FE nl none++caps.map λj=>ρ.getD j none
noncomputable def K0(it:HQ)(g:DC)(I3:DK)(elt:B9)(n:Nat):Nat->Nat->BI->A5->R A5
 |0,_,_,_=>.bad
 |f+1,i,ρ,h=>match it i h with
  |some none=>.ok h
  |some (some w)=>(g w ρ h).bind λp=>match p with
   |(.AP CI,h1)=>(I3 CI h1).bind λp=>if p.1=true then(elt CI p.2).bind λp=>match p.2[n]? with
      |some ⟨.lst,ws⟩=>if ws.length<B4 then K0 it g I3 elt n f (i+1) CI (p.2.set n ⟨.lst,ws++[p.1]⟩)else .bad
      |_=>.bad
    else K0 it g I3 elt n f (i+1) CI p.2
   |_=>.bad
  |none=>.bad
def EO(nl:Nat)(caps:List Nat)(mi:Fw)(g:DC)(I3:DK)(elt:B9):B9:=bd mi λit ρ h=>match K0 it g I3 elt h.length Jt 0 (P4 nl caps ρ) (h++[⟨.lst,[]⟩])with
 |.ok h'=>.ok (.ref h.length,h')
 |_=>.bad
def LG(K:Ad)(φ:List A4)(H:A8):D8:=⟨K,φ,H,λ_ _=>False⟩
abbrev D8.AP(F:D8):D8:=LG F.K F.E5 F.C2
theorem Rel.AP(r:Rel F φ h H σ ρ):Rel F.AP φ h H σ ρ:=⟨r.hd,r.x0,r.len,r.C9⟩
def Rel.r2(r:Rel F φ h H σ ρ)(nl:Nat)(caps:List Nat):Rel F.AP φ h H (N8 nl caps σ) (P4 nl caps ρ):=by
 refine⟨r.hd,r.x0,by simp[N8,P4],λi w e=>?_⟩;unfold P4 at e;unfold N8;by_cases A7:i<nl
 .rw[EZ (by simpa using A7),Vl,if_pos A7]at e;cases e
 .rw[H2 (by simpa using A7),TA,Em]at e;rw[H2 (by simpa using A7),TA,Em];cases Hz:caps[i-nl]? with
  |none=>rw[Hz]at e;cases e
  |some j=>
   rw[Hz]at e;have es:ρ.getD j none=some w:=Fd e;rw[Ex]at es;cases BJ:ρ[j]? with
   |none=>rw[BJ]at es;cases es
   |some t=>rw[BJ]at es;have:t=some w:=es;subst this;obtain⟨v,A9,q⟩:=r.C9 j w BJ;exact⟨v,by show some (σ.getD j none)=_;rw[Ex,A9];rfl,q⟩
def gi{nl:Nat}{caps:List Nat}{mi:Fw}{g:DC}{I3:DK}{elt:B9}:FL (C6 F (EO nl caps mi g I3 elt)) (ao (au F mi) (λx σ H Q=>∃E5 C2,Ng (LG F.K E5 C2) g x σ H Q) (λσ H Q=>∃E5 C2,HW (LG F.K E5 C2) I3 σ H Q) (λσ H Q=>∃E5 C2,C6 (LG F.K E5 C2) elt σ H Q) nl caps):=λσ H Q q=>
 q.bd λit BO C7 CI h1 H1 Ak io q acc AB=>by
   split at q
   .rename_i h' BJ;have x0:Ag C7 H1 (C7++[acc]) (upd H1 acc (.lst [])):=Ag.UL AB
    refine⟨λi m σ2 AS=>∃φ ρ h,Rel F.AP φ h AS σ2 ρ/\Ag (C7++[acc]) (upd H1 acc (.lst [])) φ AS/\K0 it g I3 elt h1.length m i ρ h=.ok h',
     ⟨Jt,C7++[acc],_,_,(Ak.to (Ak.hd.new AB (ho:=.lst []) (k:=.lst) EX .nil) x0).r2 nl caps,Ag.refl _ _,BJ⟩,?_⟩
    rintro i m σ2 AS ⟨φ,ρ,h,r,x,BJ⟩;have rS:φ[h1.length]?=some acc:=FY x.p (YU Ak.hd);cases m with
    |zero=>cases BJ
    |succ m=>
     unfold K0 at BJ;obtain⟨B1,BW⟩:=io i φ h AS r.hd (x0.trans x)
     split at BJ
     .rename_i e;cases BJ;exact .inl ⟨B1 e,q _ φ AS ⟨r.hd,Ak.x0.trans (x0.trans x),Ak.len,λj w e=>let⟨v,A9,a⟩:=Ak.C9 j w e;⟨v,A9,a.ex (x0.trans x)⟩⟩ (x0.trans x) (.Gc rS)⟩
     .rename_i w e;obtain⟨go,bS⟩:=BW w e;refine .inr ⟨go,λy A6 AN=>?_⟩;obtain⟨d',Ev,TU⟩:=bS y A6 AN;refine⟨F.E5,F.C2,φ,ρ,h,w,r.to d' Ev,TU,?_⟩;cases eg:g w ρ h with
      |bad=>rw[eg]at BJ;cases BJ
      |exc c h'=>rw[eg]at BJ;cases BJ
      |ok p=>
       rw[eg]at BJ;obtain⟨f,h2⟩:=p;cases f with
       |AP DA=>
        intro σ3 JO Bl Ee Ew;refine⟨F.E5,F.C2,JO,DA,h2,Ee,?_⟩;have nB:=x.trans (Ev.trans Ew);have BJ:((I3 DA h2).bind λp=>if p.1=true then(elt DA p.2).bind λp=>match p.2[h1.length]? with
          |some ⟨.lst,ws⟩=>if ws.length<B4 then K0 it g I3 elt h1.length m (i+1) DA (p.2.set h1.length ⟨.lst,ws++[p.1]⟩)else .bad
          |_=>.bad
         else K0 it g I3 elt h1.length m (i+1) DA p.2)=.ok h':=BJ
        cases NE:I3 DA h2 with
        |bad=>rw[NE]at BJ;cases BJ
        |exc c h'=>rw[NE]at BJ;cases BJ
        |ok p=>
         rw[NE]at BJ;obtain⟨b,Ca⟩:=p;intro Fx YW CM LS SB Au;cases Au;have BJ:(if b=true then(elt DA Ca).bind λp=>match p.2[h1.length]? with
           |some ⟨.lst,ws⟩=>if ws.length<B4 then K0 it g I3 elt h1.length m (i+1) DA (p.2.set h1.length ⟨.lst,ws++[p.1]⟩)else .bad
           |_=>.bad
          else K0 it g I3 elt h1.length m (i+1) DA Ca)=.ok h':=BJ
         cases b with
         |false=>exact⟨m,Pr _,YW,DA,Ca,LS,nB.trans SB,BJ⟩
         |true=>
          rw[if_pos rfl]at BJ;refine⟨F.E5,F.C2,YW,DA,Ca,LS,?_⟩;cases LB:elt DA Ca with
          |bad=>rw[LB]at BJ;cases BJ
          |exc c h'=>rw[LB]at BJ;cases BJ
          |ok p=>
           rw[LB]at BJ;obtain⟨Ym,FQ⟩:=p;intro bR YX DX P1 abG J8;have BJ:(match FQ[h1.length]? with
            |some ⟨.lst,ws⟩=>if ws.length<B4 then K0 it g I3 elt h1.length m (i+1) DA (FQ.set h1.length ⟨.lst,ws++[Ym]⟩)else .bad
            |_=>.bad)=.ok h':=BJ
           split at BJ
           .rename_i ws Az
            split at BJ
            .rename_i AF;have nC:=nB.trans (SB.trans abG);have Ni:YX[h1.length]?=some acc:=FY nC.p (YU Ak.hd);obtain⟨ys,AN,BE⟩:=P1.hd.Bc _ _ _ Az Ni;have AN:DX acc=some (.lst ys):=AN;have x6:Ag YX DX YX (upd DX acc (.lst (ys++[bR]))):=Ag.put AN λz=>z;rw[BE.length]at AF;exact⟨ys,AN,Fn AF (by decide),m,Pr _,YX,DA,_,P1.to (P1.hd.put Az Ni AN (λz=>z) (o':=⟨.lst,ws++[Ym]⟩) EX (BE.append (.cons J8 .nil))) x6,nC.trans x6,BJ⟩
            .cases BJ
           .cases BJ
       |_=>cases BJ
     .cases BJ
   .exact q.elim
end
mutual
noncomputable def DP:W->Bool
 |.ref _=>false
 |.tup ws=>G_ ws
 |.I1 ws=>G_ ws
 |.Eb ws=>G_ ws
 |_=>true
noncomputable def G_:List W->Bool
 |[]=>true
 |w::ws=>DP w&&G_ ws
end
mutual
noncomputable def Ig:W->W->Bool
 |.non,.non=>true
 |.AM a,.AM b=>a==b
 |.int a,.int b=>a==b
 |.str a,.str b=>a==b
 |.tup a,.tup b=>KI a b
 |.I1 a,.I1 b=>KI a b
 |.Eb a,.Eb b=>KI a b
 |.ref a,.ref b=>a==b
 |.Nk a,.Nk b=>a==b
 |_,_=>false
noncomputable def KI:List W->List W->Bool
 |[],[]=>true
 |x::xs,y::ys=>Ig x y&&KI xs ys
 |_,_=>false
end
mutual
theorem qv:∀{a b:W},Ig a b=true->a=b
 |.non,b,h=>by cases b<;>simp_all[Ig]
 |.AM _,b,h=>by cases b<;>simp_all[Ig]
 |.int _,b,h=>by cases b<;>simp_all[Ig]
 |.str _,b,h=>by cases b<;>simp_all[Ig]
 |.tup _,b,h=>by cases b<;>simp only[Ig]at h<;>first|(cases h;done)|rw[TX h]
 |.I1 _,b,h=>by cases b<;>simp only[Ig]at h<;>first|(cases h;done)|rw[TX h]
 |.Eb _,b,h=>by cases b<;>simp only[Ig]at h<;>first|(cases h;done)|rw[TX h]
 |.ref _,b,h=>by cases b<;>simp_all[Ig]
 |.Nk _,b,h=>by cases b<;>simp_all[Ig]
theorem TX:∀{a b:List W},KI a b=true->a=b
 |[],b,h=>by cases b<;>simp_all[KI]
 |x::xs,b,h=>by
  cases b with
  |nil=>simp[KI]at h
  |cons y ys=>simp only[KI,I7]at h;rw[qv h.1,TX h.2]
end
mutual
theorem qw:∀(a:W),Ig a a=true
 |.non|.AM _|.int _|.str _|.ref _|.Nk _=>by simp[Ig]
 |.tup a=>by simp only[Ig];exact Qa a
 |.I1 a=>by simp only[Ig];exact Qa a
 |.Eb a=>by simp only[Ig];exact Qa a
theorem Qa:∀(a:List W),KI a a=true
 |[]=>by simp[KI]
 |x::xs=>by simp only[KI];rw[qw x,Qa xs];rfl
end
def Gb:A5->A5->Bool
 |[],_=>true
 |o::h,o'::h'=>decide (o.k=o'.k)&&KI o.ws o'.ws&&Gb h h'
 |_,_=>false
theorem bA:∀{h h':A5},Gb h h'=true->h<+: h'
 |[],_,_=>List.nil_prefix
 |o::h,[],e=>by simp[Gb]at e
 |⟨k,ws⟩::h,⟨k',ws'⟩::h',e=>by simp only[Gb,I7,decide_eq_true_eq]at e;rw[e.1.1,TX e.1.2];exact List.cons_prefix_cons.mpr ⟨rfl,bA e.2⟩
theorem b9:∀(h g:A5),Gb h (h++g)=true
 |[],_=>by simp[Gb]
 |o::h,g=>by simp only[Ho,Gb];rw[Qa,b9 h g];simp
def zX(h:A5):Gb h h=true:=by simpa using b9 h []
noncomputable def settle(h:A5)(w:W)(h1:A5):R (W×A5):=
 if Gb h h1=true then
  if DP w=true then .ok (w,h)else match w with
   |.ref n=>if h.length<=n then match h1[n]? with
       |some ⟨.lst,ws⟩=>if G_ ws=true then .ok (.ref h.length,h++[⟨.lst,ws⟩])else .ok (w,h1)
       |_=>.ok (w,h1)
    else .ok (w,h)
   |_=>.ok (w,h1)
 else .ok (w,h1)
section
variable{K:Ad}{φ C7:List A4}{h h1:A5}{H H1:A8}
mutual
theorem AQ.DP{BL:List A4}:∀{w:W}{v:V},CG.DP w=true->AQ K φ H w v->AQ K BL H w v
 |.non,_,_,a|.AM _,_,_,a|.int _,_,_,a|.str _,_,_,a|.Nk _,_,_,a=>by simpa only[AQ]using a
 |.tup _,_,n,a=>by simp only[AQ,CG.DP]at a n |-;obtain⟨p,xs,e,q,r⟩:=a;exact⟨p,xs,e,q,Ac.DP n r⟩
 |.I1 _,_,n,a=>by simp only[AQ,CG.DP]at a n |-;obtain⟨p,xs,e,q,r⟩:=a;exact⟨p,xs,e,q,Ac.DP n r⟩
 |.Eb _,_,n,a=>by simp only[AQ,CG.DP]at a n |-;obtain⟨p,xs,e,q,r⟩:=a;exact⟨p,xs,e,q,Ac.DP n r⟩
 |.ref _,_,n,_=>by simp[CG.DP]at n
theorem Ac.DP{BL:List A4}:∀{ws:List W}{vs:List V},G_ ws=true->Ac K φ H ws vs->Ac K BL H ws vs
 |[],_,_,a=>by simpa only[Ac]using a
 |_::_,_,n,a=>by simp only[Ac,G_,I7]at a n |-;obtain⟨v,r,e,q,t⟩:=a;exact⟨v,r,e,AQ.DP n.1 q,Ac.DP n.2 t⟩
end
mutual
theorem AQ.back(p:φ<+: C7):∀{w:W}{v v0:V},AQ K φ H w v0->AQ K C7 H1 w v->AQ K φ H1 w v
 |.non,_,_,_,a|.AM _,_,_,_,a|.int _,_,_,_,a|.str _,_,_,_,a|.Nk _,_,_,_,a=>by simpa only[AQ]using a
 |.tup _,_,_,b,a=>by simp only[AQ]at a b |-;obtain⟨q,xs,e,t,r⟩:=a;obtain⟨Cc,Le,BC,t',BK⟩:=b;exact⟨q,xs,e,t,Ac.back p BK r⟩
 |.I1 _,_,_,b,a=>by simp only[AQ]at a b |-;obtain⟨q,xs,e,t,r⟩:=a;obtain⟨Cc,Le,BC,t',BK⟩:=b;exact⟨q,xs,e,t,Ac.back p BK r⟩
 |.Eb _,_,_,b,a=>by simp only[AQ]at a b |-;obtain⟨q,xs,e,t,r⟩:=a;obtain⟨Cc,Le,BC,t',BK⟩:=b;exact⟨q,xs,e,t,Ac.back p BK r⟩
 |.ref _,_,_,b,a=>by simp only[AQ]at a b |-;obtain⟨q,e,t⟩:=a;obtain⟨Cc,BC,t'⟩:=b;have:=FY p t';rw[t]at this;cases this;exact⟨q,e,t'⟩
theorem Ac.back(p:φ<+: C7):∀{ws:List W}{vs v0:List V},Ac K φ H ws v0->Ac K C7 H1 ws vs->Ac K φ H1 ws vs
 |[],_,_,_,a=>by simpa only[Ac]using a
 |_::_,_,_,b,a=>by simp only[Ac]at a b |-;obtain⟨v,r,e,q,t⟩:=a;obtain⟨I4,BK,BC,Cc,t'⟩:=b;exact⟨v,r,e,AQ.back p Cc q,Ac.back p t' t⟩
end
def Cr.cut(d:Cr K φ h H)(d1:Cr K C7 h1 H1)(p:φ<+: C7)(b8:h<+: h1):Cr K φ h H1:=⟨d.C3,d.len,λn o a A9 AE=>by obtain⟨xs,q,r⟩:=d1.Bc n o a (FY b8 A9) (FY p AE);obtain⟨ys,_,BK⟩:=d.Bc n o a A9 AE;exact⟨xs,q,Ac.back p BK r⟩⟩
def aZ{w CD:W}{v:V}{h':A5}(d:Cr K φ h H)(x:Ag φ H C7 H1)(d1:Cr K C7 h1 H1)(a:AQ K C7 H1 w v)(e:settle h w h1=.ok (CD,h')):∃BL,Ag φ H BL H1/\Cr K BL h' H1/\AQ K BL H1 CD v:=by
 have same:(CD,h')=(w,h1)->∃BL,Ag φ H BL H1/\Cr K BL h' H1/\AQ K BL H1 CD v:=λz=>by cases z;exact⟨C7,x,d1,a⟩
 have x0:Ag φ H φ H1:=⟨T2,x.t⟩;unfold settle at e
 split at e
 .rename_i AT;have b8:=bA AT;have Hy:=d.cut d1 x.p b8
  split at e
  .rename_i AW;cases e;exact⟨φ,x0,Hy,AQ.DP AW a⟩
  .split at e
   .rename_i n _
    split at e
    .rename_i AF
     split at e
     .rename_i ws Az
      split at e
      .rename_i hw;cases e;obtain⟨b,xs,rfl,Au,q,r⟩:=d1.at Az a;have nb:b∉φ:=λm=>by
        obtain⟨j,Hz⟩:=br m;have A9:=FY x.p Hz;obtain⟨B1,JI⟩:=List.getElem?_eq_some_iff.mp A9;obtain⟨BW,Jd⟩:=List.getElem?_eq_some_iff.mp Au;have:j=n:=(W4 d1.C3).mp (JI.trans Jd.symm);have:j<φ.length:=(List.getElem?_eq_some_iff.mp Hz).1;rw[d.len]at this;lia
       refine⟨φ++[b],⟨Gk _ _,x.t⟩,⟨?_,by simp[d.len],λm o c A9 AE=>?_⟩,.Gc (by rw[<-d.len];simp)⟩
       .rw[c6];exact⟨d.C3,by simp,λc AD F7 MC z=>nb (by rw[<-List.mem_singleton.mp MC,<-z];exact AD)⟩
       .by_cases hm:m<h.length
        .rw[EZ hm]at A9;rw[EZ (by rw[d.len];exact hm)]at AE;obtain⟨ys,Cc,BK⟩:=Hy.Bc m o c A9 AE;exact⟨ys,Cc,Ac.ex (⟨Gk _ _,λ_ _ e _=>e⟩:Ag φ H1 (φ++[b]) H1) BK⟩
        .have Zr:m=h.length:=by
           have:=(List.getElem?_eq_some_iff.mp A9).1;simp at this;lia
         subst Zr;simp at A9;rw[<-d.len]at AE;simp at AE;subst A9 AE;exact⟨xs,q,Ac.DP hw r⟩
      .cases e;exact same rfl
     .cases e;exact same rfl
    .rename_i AF;cases e;have AW:n<φ.length:=by rw[d.len];lia
     simp only[AQ]at a |-;obtain⟨b,rfl,Au⟩:=a;obtain⟨c,ec⟩:∃c,φ[n]?=some c:=⟨_,CF AW⟩;have:=FY x.p ec;rw[Au]at this;cases this;exact⟨φ,x0,Hy,b,rfl,ec⟩
   .cases e;exact same rfl
 .cases e;exact same rfl
end
section
variable{F:D8}
def CB(m:B9):B9:=λρ h=>(m ρ h).bind λp=>settle h p.1 p.2
def aY(h:A5)(w:W)(h1:A5):∃CD h',settle h w h1=.ok (CD,h'):=by
 unfold settle
 repeat' split
 all_goals exact⟨_,_,rfl⟩
def w8{m:B9}:FL (C6 F (CB m)) (C6 F m):=by
 rintro σ H Q ⟨φ,ρ,h,r,q⟩;refine⟨φ,ρ,h,r,?_⟩;unfold CB at q;cases e:m ρ h with
 |bad=>rw[e]at q;cases q
 |exc c h'=>rw[e]at q;exact q
 |ok p=>rw[e]at q;obtain⟨w,h1⟩:=p;intro v C7 H1 Ak x a;obtain⟨CD,h',es⟩:=aY h w h1;have q:Es AQ F φ H σ ρ Q (settle h w h1):=q;rw[es]at q;obtain⟨BL,Ev,d',GS⟩:=aZ r.hd x Ak.hd a es;exact q v BL H1 (r.to d' Ev) Ev GS
def IB(m:DK):DK:=λρ h=>(m ρ h).bind λp=>.ok (p.1,if Gb h p.2=true then h else p.2)
def w9{m:DK}:Qr (HW F (IB m)) (HW F m):=by
 rintro σ H Q ⟨φ,ρ,h,r,q⟩;refine⟨φ,ρ,h,r,?_⟩;unfold IB at q;cases e:m ρ h with
 |bad=>rw[e]at q;cases q
 |exc c h'=>rw[e]at q;exact q
 |ok p=>
  rw[e]at q;obtain⟨b,h1⟩:=p;intro Fx C7 H1 Ak x a;cases a;have q:Es ke F φ H σ ρ Q (.ok (b,if Gb h h1=true then h else h1)):=q
  split at q
  .rename_i AT;have Ev:Ag φ H φ H1:=⟨T2,x.t⟩;exact q b φ H1 (r.to (r.hd.cut Ak.hd x.p (bA AT)) Ev) Ev rfl
  .exact q b C7 H1 Ak x rfl
def Qw(K:Ad):FT->Str->A8->Prop:=λE c H=>∃C,I_ K c C/\∀a,H a=none->E (.ref C) (some a) H
def Rh(K:Ad)(φ:List A4)(H:A8)(E:FT):D8:=⟨K,φ,H,Qw K E⟩
abbrev Bz:=List W->A5->R (W×A5)
noncomputable def IR(K:Ad)(φ:List A4)(H:A8)(Q:CA)(Ly:Str->A8->Prop):R (W×A5)->Prop
 |.ok (w,h')=>∀v BL A6,Cr K BL h' A6->Ag φ H BL A6->AQ K BL A6 w v->Q v A6
 |.exc c h'=>∀BL A6,Ag φ H BL A6->Cr K BL h' A6->Ly c A6
 |.bad=>False
def LX(K:Ad)(n:Nat)(DO:Bz):Dg:=λvs H Q E=>∃φ h ws,Cr K φ h H/\Ac K φ H ws vs/\ws.length=n/\IR K φ H Q (Qw K E) (DO ws h)
def abo{K:Ad}{n:Nat}{DO:Bz}:∀vs H Q E,LX K n DO vs H Q E->vs.length=n:=λvs H Q E q=>by obtain⟨φ,h,ws,_,a,l,_⟩:=q;rw[<-a.length];exact l
def Mh(N:Nat)(ws:List W):BI:=ws.map some++FE (N-ws.length) none
def outF:En×A5->R (W×A5)
 |(.AP _,h)=>.ok (.non,h)
 |(.Do w,h)=>.ok (w,h)
 |_=>.bad
def FX(N:Nat)(m:An):Bz:=λws h=>(m (Mh N ws) h).bind outF
def Dh(N:Nat)(m:An):Bz:=λws h=>(FX N m ws h).bind λp=>settle h p.1 p.2
def mQ{K:Ad}{N n:Nat}{m:An}:∀vs H Q E,LX K n (Dh N m) vs H Q E->LX K n (FX N m) vs H Q E:=λvs H Q E q=>by
 obtain⟨φ,h,ws,d,a,l,k⟩:=q;refine⟨φ,h,ws,d,a,l,?_⟩;unfold Dh at k;cases e:FX N m ws h with
 |bad=>rw[e]at k;cases k
 |exc c h'=>rw[e]at k;exact k
 |ok p=>rw[e]at k;obtain⟨w,h1⟩:=p;intro v C7 H1 d1 x a1;obtain⟨CD,h',es⟩:=aY h w h1;have k:IR K φ H Q (Qw K E) (settle h w h1):=k;rw[es]at k;obtain⟨BL,Ev,d',GS⟩:=aZ d x d1 a1 es;exact k v BL H1 d' Ev GS
def ab9{K:Ad}{φ:List A4}{h:A5}{H:A8}{E:FT}{N:List Str}{ws:List W}{vs:List V}(d:Cr K φ h H)(a:Ac K φ H ws vs):Rel (Rh K φ H E) φ h H (B8.start N vs) (Mh N.length ws):=by
 have AF:=a.length;refine⟨d,Ag.refl _ _,by simp[B8.start,Mh,AF],λi w e=>?_⟩;unfold Mh at e;unfold B8.start;by_cases A7:i<ws.length
 .rw[EZ (by simpa using A7),Em]at e;cases DD:ws[i]? with
  |none=>rw[DD]at e;cases e
  |some CD=>
   rw[DD]at e;have:CD=w:=by simpa using e
   subst this;obtain⟨v,ev,E_⟩:=a.get DD;exact⟨v,by rw[EZ (by simp;lia),Em,ev];rfl,E_⟩
 .rw[H2 (by simpa using A7),Vl]at e
  split at e<;>cases e
def r4{K:Ad}{n:Nat}{N:List Str}{m:An}{vs:List V}{H:A8}{Q:CA}{E:FT}(q:LX K n (FX N.length m) vs H Q E) :
  ∃φ,G6 (Rh K φ H E) m { AP:=λ_ A6=>Q .non A6,Do:=Q } (B8.start N vs) H:=by
 obtain⟨φ,h,ws,d,a,l,k⟩:=q;refine⟨φ,φ,Mh N.length ws,h,ab9 d a,?_⟩;unfold FX at k;cases e:m (Mh N.length ws) h with
 |bad=>rw[e]at k;cases k
 |exc c h'=>rw[e]at k;exact k
 |ok p=>
  rw[e]at k;obtain⟨f,h1⟩:=p;cases f with
  |AP ρ=>exact λσ' BL A6 r x=>k .non BL A6 r.hd x (by simp only[AQ])
  |Do w=>exact λv BL A6 d' x GS=>k v BL A6 d' x GS
  |BF _=>cases k
  |Cv _=>cases k
structure Aa(X:Am)(F:D8)(e:At)(m:B9):Prop where
 p:Ae X e (C6 F m)
structure Fg(X:Am)(F:D8)(e:At)(m:DK):Prop where
 p:E8 X e (HW F m)
structure H5(X:Am)(F:D8)(e:List At)(m:EK):Prop where
 p:Gv X e (GC F m)
structure H6(X:Am)(F:D8)(s:BM)(m:An):Prop where
 p:DL X s (G6 F m)
structure M3(X:Am)(F:D8)(s:List BM)(m:An):Prop where
 p:H4 X s (G6 F m)
structure Pc(X:Am)(F:D8)(C0 e:At)(m:Fw):Prop where
 p:Hc X C0 e (au F m)
structure QX(X:Am)(F:D8)(e:At)(m:DC):Prop where
 p:Gw X e (Ng F m)
structure Dl(K:Ad)(mg:Str->Option A3)(x:Str)(st:BM)(ps:List Str):Prop where
 ex:∃(f:A4)(fd:HU),NV K x x st f fd/\mg x=some (.ref f)/\Binds K fd ps []
structure Dr(P:Bh)(w:BP)(K:Ad)(mg:Str->Option A3)(base:Ar)(x:Str)(n k:Nat)(DO:Bz):Prop where
 ex:∃(f:A4)(fd:HU)(ps:List Str),ps.length=n/\IL P w K mg base (IY P w K) k f fd ps (LX K n DO)/\mg x=some (.ref f)/\JP K (.ref f)=true/\Binds K fd ps []
abbrev CN(P:Bh)(w:BP)(K:Ad)(mg:Str->Option A3)(base:Ar)(x:Str)(st:BM)(N:List Str)(k:Nat)(m:An):Prop:=∀(f:A4)(F1:A3)(A:CW)(outer:List Env)(s:AJ)(H:A8)(E:FT),Cu k (A.deeper (PyProof.Rows.envOfC x (Bt st) s.heap.objs.size f F1))->∀φ C2,M3 (JW (IY P w K) P w K mg base N x (Bt st) f F1 A outer s H E) (Rh K φ C2 E) (JX st) m
def Tr{P:Bh}{w:BP}{K:Ad}{mg:Str->Option A3}{base:Ar}{x qual:Str}{st:BM}{N ps:List Str}{k:Nat}{m:An}{f:A4}{fd:HU}(fn:NV K x qual st f fd)(S:CH N ps (Bt st))(A1:CN P w K mg base qual st N k m) :
  IL P w K mg base (IY P w K) (k+1) f fd ps (LX K ps.length (FX N.length m)):=by
 obtain⟨Fu,Di,CU,doc,pm,an,F1,Cv,NY,rfl,lk,KR⟩:=fn.ex;refine fh lk KR S abo λA outer s H vs Q E Ao hs=>?_;obtain⟨φ,BQ⟩:=r4 hs;exact⟨_,(A1 f F1 A outer s H E Ao φ H).p,BQ⟩
def Qv{P:Bh}{w:BP}{K:Ad}{mg:Str->Option A3}{base:Ar}{x:Str}{st:BM}{N ps:List Str}{k:Nat}{m:An}(d:Dl K mg x st ps)(S:CH N ps (Bt st))(A1:CN P w K mg base x st N k m) :
  Dr P w K mg base x ps.length (k+1) (FX N.length m):=by
 obtain⟨f,fd,fn,hm,X4⟩:=d.ex;exact⟨f,fd,ps,rfl,Tr fn S A1,hm,fn.Bd,X4⟩
def FC{P:Bh}{w:BP}{K:Ad}{mg:Str->Option A3}{base:Ar}{x:Str}{st:BM}{N ps:List Str}{k:Nat}{m:An}(d:Dl K mg x st ps)(S:CH N ps (Bt st))(A1:CN P w K mg base x st N k m) :
  Dr P w K mg base x ps.length (k+1) (Dh N.length m):=by
 obtain⟨f,fd,fn,hm,X4⟩:=d.ex;exact⟨f,fd,ps,rfl,(Tr fn S A1).imp mQ,hm,fn.Bd,X4⟩
def Ap(n:Nat)(DO:Bz)(m:EK):B9:=bd m λws _ h=>if ws.length=n then DO ws h else .bad
structure Rt(X:Am)(F:D8):Prop where
 ex:∃E,Passes (IY X.prog X.w X.K) X E/\∀c H,F.Ly c H->Qw X.K E c H
def ib{φ:List A4}{h:A5}{H:A8}{σ :St}{ρ:BI}{Q:CA}{K:Ad}{Ly:Str->A8->Prop}(AX:F.K=K)(r:Rel F φ h H σ ρ)(he:∀c H,F.Ly c H->Ly c H):∀{rs:R (W×A5)},Es AQ F φ H σ ρ Q rs->IR K φ H Q Ly rs
 |.ok (w,h'),q=>λv BL A6 d x a=>by subst AX;exact q v BL A6 (r.to d x) x a
 |.exc c h',q=>λBL A6 x d=>by subst AX;exact he c A6 (q BL A6 x d)
 |.bad,q=>q
def uj{X:Am}{n:Nat}{DO:Bz}{m:EK}{E:FT}(AX:F.K=X.K)(he:∀c H,F.Ly c H->Qw X.K E c H):FL (C6 F (Ap n DO m)) (m6 (LX X.K n DO) [] E (GC F m)):=λσ H Q q=>
 q.bd λws vs φ ρ h H1 r as q=>by
   split at q
   .rename_i AW;rw[MS];exact⟨φ,h,ws,AX▸r.hd,AX▸as,AW,ib AX r he q⟩
   .exact q.elim
end
structure PV(K:Ad)(c:Str)(Ay:List Str):Prop where
 ex:∃C,I_ K c C/\Js K C/\∀f∈Ay,QS K C f
def I_.inj{K:Ad}{c:Str}{C Qp:A4}(a:I_ K c C)(b:I_ K c Qp):C=Qp:=by unfold I_ at a b;rw[a]at b;cases b;rfl
theorem Zk(f:Str):∀Ay:List (Str×V),Ay.lookup f=HE Ay f
 |[]=>rfl
 |(g,x)::r=>by
  by_cases h:g=f
  .subst h;rw[VV rfl];simp[W6]
  .rw[VU h,<-Zk f r];have:(f==g)=false:=by simpa using λz:f=g=>h z.symm
   simp[W6,this]
def QH(h:A5)(c:Str):W->Option (Nat×List Str×List W)
 |.ref n=>match h[n]? with
  |some ⟨.ins F7 ns,ws⟩=>if F7=c then some (n,ns,ws)else none
  |_=>none
 |_=>none
def Re:List Str->Str->List Str
 |[],f=>[f]
 |g::r,f=>if g=f then g::r else g::Re r f
def Qg:List Str->List W->Str->W->List W
 |g::r,w::ws,f,u=>if g=f then u::ws else w::Qg r ws f u
 |_,ws,_,u=>ws++[u]
section
variable{K:Ad}{φ:List A4}{h:A5}{H:A8}{F:D8}{σ :St}{ρ:BI}{X:Am}{m:B9}{ma:EK}
def aH(d:Cr K φ h H){w:W}{v:V}{c:Str}{n:Nat}{ns:List Str}{ws:List W}(a:AQ K φ H w v)(e:QH h c w=some (n,ns,ws)):∃p C BY Ay,v=.ref p/\h[n]?=some ⟨.ins c ns,ws⟩/\φ[n]?=some p/\I_ K c C/\H p=some (.ins C BY Ay)/\Ay.map (·.1)=ns/\Ac K φ H ws (Ay.map (·.2)):=by
 unfold QH at e
 split at e
 .split at e
  .rename_i Az
   split at e
   .rename_i AD;cases e;subst AD;obtain⟨p,xs,rfl,Ai,⟨C,BY,Ay,AD,AT,A9,rfl⟩,BE⟩:=d.at Az a;exact⟨p,C,BY,Ay,rfl,Az,Ai,AD,AT,A9,BE⟩
   .cases e
  .cases e
 .cases e
def Bq(c f:Str):W->A5->R (W×A5):=λw h=>match QH h c w with
 |some (_,ns,ws)=>match Dk ns ws f with
  |some u=>.ok (u,h)
  |none=>.bad
 |none=>.bad
def uu{c f:Str}{Ay:List Str}(AX:F.K=X.K)(cl:PV X.K c Ay)(hf:f∈Ay):FL (C6 F (Bf (Bq c f) m)) (nf X.K (C6 F m) f):=λσ H Q q=>
 q.bd λw v φ ρ h H1 r a q=>by
   unfold Bq at q
   split at q
   .rename_i n ns ws e;obtain⟨p,C,BY,NG,rfl,Az,Ai,AD,AT,rfl,BE⟩:=aH r.hd a e;obtain⟨Qp,BR,C_,Ei⟩:=cl.ex;rw[AX]at AD;have:=AD.inj BR;subst this
    split at q
    .rename_i u FV;have FH:=RO f BE;rw[FV]at FH;cases ev:HE NG f with
     |none=>rw[ev]at FH;cases FH
     |some x=>rw[ev]at FH;exact⟨p,C,BY,NG,x,rfl,AT,C_,Ei f hf,by rw[Zk];exact ev,q x φ H1 r (Ag.refl _ _) FH⟩
    .exact q.elim
   .exact q.elim
theorem fj{f:Str}{u:W}{x:V}(b:AQ K φ H u x):∀{Ay:List (Str×V)}{ws:List W},Ac K φ H ws (Ay.map (·.2))->(HC f x Ay).map (·.1)=Re (Ay.map (·.1)) f/\Ac K φ H (Qg (Ay.map (·.1)) ws f u) ((HC f x Ay).map (·.2))
 |[],ws,a=>by
  cases ws with
  |nil=>exact⟨rfl,by simp only[Iy,Qg,HC];exact .cons b .nil⟩
  |cons _ _=>have:=a.length;simp at this
 |(g,v)::Ay,ws,a=>by
  cases ws with
  |nil=>have:=a.length;simp at this
  |cons w ws=>
   simp only[DB,Ac]at a;obtain⟨I4,r,e,a1,a2⟩:=a;cases e;obtain⟨B1,BW⟩:=fj b a2;simp only[DB,Re,Qg,HC];by_cases Aj:g=f
   .rw[if_pos Aj,if_pos Aj,if_pos Aj];exact⟨rfl,.cons b a2⟩
   .rw[if_neg Aj,if_neg Aj,if_neg Aj];exact⟨by rw[DB,B1],.cons a1 BW⟩
def Tq(c f:Str)(o v:W):An:=λρ h=>match QH h c o with
 |some (n,ns,ws)=>if ns.length<1000 then .ok (.AP ρ,h.set n ⟨.ins c (Re ns f),Qg ns ws f v⟩)else .bad
 |none=>.bad
def Ec(c f:Str)(o v:B9):An:=bd v λOU=>bd o λUK=>Tq c f UK OU
def uv{c f:Str}{Ay:List Str}{o v:B9}(AX:F.K=X.K)(cl:PV X.K c Ay)(hf:f∈Ay):Jv (G6 F (Ec c f o v)) (kN X.K (C6 F o) (C6 F v) f):=λBv σ H q=>
 q.bd λOU y φ ρ h H1 r GI q=>⟨φ,ρ,h,r,EC.bd q λUK x C7 h1 AS Ak D6 Dz q=>by
   unfold Tq at q
   split at q
   .rename_i n ns ws e;obtain⟨p,C,BY,NG,rfl,Az,Ai,AD,AT,rfl,BE⟩:=aH Ak.hd Dz e;obtain⟨Qp,BR,C_,Ei⟩:=cl.ex;have MC:=AD;rw[AX]at AD;have:=AD.inj BR;subst this
    split at q
    .rename_i AF;obtain⟨B1,BW⟩:=fj (f:=f) (GI.ex D6) BE;have CZ:Ag C7 AS C7 (upd AS p (.ins C BY (HC f y NG))):=Ag.put AT λz=>z;refine⟨p,C,BY,NG,rfl,AT,C_,Ei f hf,by simpa using AF,q σ C7 _ (Ak.to (Ak.hd.put Az Ai AT (λz=>z) (o':=⟨.ins c _,_⟩) ⟨C,BY,_,MC,EX,B1,rfl⟩ BW) CZ) CZ⟩
    .exact q.elim
   .exact q.elim⟩
structure InK(K:Ad)(mg:Str->Option A3)(DS qual:Str)(st:BM)(ps:List Str):Prop where
 ex:∃(C f:A4)(fd:HU),I_ K DS C/\Wg K C f/\NV K "__init__" qual st f fd/\mg DS=some (.ref C)/\Binds K fd ps []
structure U1(P:Bh)(w:BP)(K:Ad)(mg:Str->Option A3)(base:Ar)(DS:Str)(n k:Nat)(DO:Bz):Prop where
 ex:∃(C f:A4)(fd:HU)(ps:List Str),ps.length=n+1/\I_ K DS C/\Wg K C f/\IL P w K mg base (IY P w K) k f fd ps (LX K (n+1) DO)/\mg DS=some (.ref C)/\Binds K fd ps []
def bP{P:Bh}{w:BP}{K:Ad}{mg:Str->Option A3}{base:Ar}{qual DS Kd:Str}{st:BM}{N ps:List Str}{k:Nat}{m:An}(d:InK K mg DS qual st (Kd::ps))(S:CH N (Kd::ps) (Bt st))(A1:CN P w K mg base qual st N k m) :
  U1 P w K mg base DS ps.length (k+1) (FX N.length m):=by
 obtain⟨C,f,fd,h1,h2,B2,Ca,FQ⟩:=d.ex;exact⟨C,f,fd,Kd::ps,rfl,h1,h2,Tr B2 S A1,Ca,FQ⟩
def wx(n:Nat):W×A5->R (W×A5)
 |(.non,h)=>.ok (.ref n,h)
 |_=>.bad
def IS(c:Str)(n:Nat)(DO:Bz)(m:EK):B9:=bd m λws _ h=>if ws.length=n then(DO (.ref h.length::ws) (h++[⟨.ins c [],[]⟩])).bind (wx h.length)else .bad
def uP{c:Str}{C:A4}{n:Nat}{DO:Bz}{E:FT}(AX:F.K=X.K)(AD:I_ X.K c C)(he:∀c H,F.Ly c H->Qw X.K E c H):FL (C6 F (IS c n DO ma)) (nj C (LX X.K (n+1) DO) [] E (GC F ma)):=λσ H Q q=>
 q.bd λws vs φ ρ h H1 r as q x BY AG hd IQ=>by
   split at q
   .rename_i AW;have D6:Ag φ H1 φ (upd H1 BY (.own x)):=Ag.lay hd;have d1:=r.hd.lay (o:=.own x) hd;have hD:upd H1 BY (.own x) x=none:=by rw[D2 (Ku IQ)];exact AG
    have Ej:=d1.new (ho:=.ins C BY []) (k:=.ins c []) hD ⟨C,BY,[],AX▸AD,EX,rfl,rfl⟩ .nil;have CZ:Ag φ (upd H1 BY (.own x)) (φ++[x]) (upd (upd H1 BY (.own x)) x (.ins C BY [])):=Ag.UL hD;have Qu:=D6.trans CZ;have ex:(φ++[x])[h.length]?=some x:=YU r.hd;rw[MS];refine⟨φ++[x],_,.ref h.length::ws,AX▸Ej,.cons (.Gc ex) (AX▸as.ex Qu),by simp[AW],?_⟩;cases e:DO (.ref h.length::ws) (h++[⟨.ins c [],[]⟩])with
    |bad=>rw[e]at q;cases q
    |exc F7 h'=>rw[e]at q;exact λBL A6 Ev d'=>he F7 A6 (q BL A6 (Qu.trans Ev) (AX▸d'))
    |ok p=>
     rw[e]at q;obtain⟨w,h'⟩:=p;cases w<;>try cases q
     intro v BL A6 d' Ev GS;simp only[AQ]at GS;exact⟨GS,q _ BL A6 (r.to (AX▸d') (Qu.trans Ev)) (Qu.trans Ev) (.Gc (FY Ev.p ex))⟩
   .exact q.elim
structure L5(K:Ad)(DS x qual:Str)(st:BM)(ps:List Str):Prop where
 ex:∃(C f:A4)(fd:HU),I_ K DS C/\Js K C/\Meth K C x f/\NV K x qual st f fd/\Binds K fd ps []
structure Ib(P:Bh)(w:BP)(K:Ad)(mg:Str->Option A3)(base:Ar)(DS x:Str)(n k:Nat)(DO:Bz):Prop where
 ex:∃(C f:A4)(fd:HU)(ps:List Str),ps.length=n+1/\I_ K DS C/\Js K C/\Meth K C x f/\IL P w K mg base (IY P w K) k f fd ps (LX K (n+1) DO)/\Binds K fd ps []
def MZ{P:Bh}{w:BP}{K:Ad}{mg:Str->Option A3}{base:Ar}{x qual DS Kd:Str}{st:BM}{N ps:List Str}{k:Nat}{m:An}(d:L5 K DS x qual st (Kd::ps))(S:CH N (Kd::ps) (Bt st))(A1:CN P w K mg base qual st N k m) :
  Ib P w K mg base DS x ps.length (k+1) (FX N.length m):=by
 obtain⟨C,f,fd,h1,h2,B2,Ca,FQ⟩:=d.ex;exact⟨C,f,fd,Kd::ps,rfl,h1,h2,B2,Tr Ca S A1,FQ⟩
def Ib.st{P:Bh}{w:BP}{K:Ad}{mg:Str->Option A3}{base:Ar}{x DS:Str}{N n k:Nat}{m:An}(d:Ib P w K mg base DS x n k (FX N m)):Ib P w K mg base DS x n k (Dh N m):=by obtain⟨C,f,fd,ps,h0,h1,h2,B2,Ca,FQ⟩:=d.ex;exact⟨C,f,fd,ps,h0,h1,h2,B2,Ca.imp mQ,FQ⟩
def Uz{α:Type}(c x:Str)(w:W)(m:M α):M α:=λρ h=>match QH h c w with
 |some (_,ns,ws)=>match Dk ns ws x with
  |none=>m ρ h
  |some _=>.bad
 |none=>.bad
def ED(c x:Str)(n:Nat)(DO:Bz)(o:B9)(ma:EK):B9:=bd o λw=>Uz c x w (bd ma λws _ h=>if ws.length=n then DO (w::ws) h else .bad)
def gp{c x:Str}{C:A4}{n:Nat}{DO:Bz}{E:FT}{o:B9}(AX:F.K=X.K)(AD:I_ X.K c C)(he:∀c H,F.Ly c H->Qw X.K E c H):FL (C6 F (ED c x n DO o ma)) (av C x (LX X.K (n+1) DO) [] E (C6 F o) (GC F ma)):=λσ H Q q=>
 q.bd λw v φ ρ h H1 r a q=>by
   unfold Uz at q
   split at q
   .rename_i nn ns ws e;obtain⟨p,Qp,BY,NG,rfl,Az,Ai,MC,AT,rfl,BE⟩:=aH r.hd a e;rw[AX]at MC;have:=AD.inj MC;subst this
    split at q
    .rename_i FV;have FH:=RO x BE;rw[FV]at FH;cases ev:HE NG x with
     |some _=>rw[ev]at FH;cases FH
     |none=>
      refine⟨p,BY,NG,rfl,AT,by rw[Zk];exact ev,φ,ρ,h,r,q.bd λus vs CE h2 AS B6 CZ as q=>?_⟩
      split at q
      .rename_i AW;rw[MS];exact⟨CE,h2,w::us,AX▸B6.hd,.cons (AX▸a.ex CZ) (AX▸as),by simp[AW],ib AX B6 he q⟩
      .exact q.elim
    .exact q.elim
   .exact q.elim
structure Rp(K:Ad)(mg:Str->Option A3)(c:Str):Prop where
 ex:∃C,I_ K c C/\mg c=some (.ref C)/\TH K C [.type "ValueError",.type "Exception",.type "BaseException",.type "object"] "ValueError.__new__"=true
def O2(c:Str):An:=λ_ h=>.exc c h
end
section
variable{P:Bh}{w:BP}{K:Ad}{mg:Str->Option A3}{base:Ar}{N:List Str}{qual:Str}{scope:Ey}{f:A4}{cd:A3}{A:CW}{outer:List Env}{s0:AJ}{NW:A8}{E:FT}{φ:List A4}{C2:A8}
def Yp{x:Str}{np EN pos Xb:Pos}{m:Str}{j:Nat}(k:Rp K mg x)(Aj:EJ (JW (IY P w K) P w K mg base N qual scope f cd A outer s0 NW E) x:=by rfl)(hd:(x==("__debug__" :Str))=false:=by decide) :
  H6 (JW (IY P w K) P w K mg base N qual scope f cd A outer s0 NW E) (Rh K φ C2 E) (.Raise (some (.Call (.Name x np) [.Constant (.str m) j Xb] [] EN)) none pos) (O2 x):=by
 obtain⟨C,h1,h2,B2⟩:=k.ex;refine⟨λpins s σ H D I q=>zf (X:=JW (IY P w K) P w K mg base N qual scope f cd A outer s0 NW E) PySem.F.excBase_ValueError B2 h2 rfl Aj hd pins s σ H D I ?_⟩;obtain⟨BL,ρ,h,r,q⟩:=q;obtain⟨Qp,BR,C_⟩:=(show ZZ (Rh K φ C2 E) BL H x h from q) BL H (Ag.refl _ _) r.hd;have:=h1.inj BR;subst this;exact acZ C_
def Z4:Rt (JW (IY P w K) P w K mg base N qual scope f cd A outer s0 NW E) (Rh K φ C2 E):=⟨E,yf,λ_ _ q=>q⟩
end
def Z3{X:Am}{K:Ad}{φ:List A4}{H:A8}:Rt X (LG K φ H):=⟨λ_ _ _=>False,λ_ _ _ _ _ _ _ z=>by obtain⟨_,_,_,_,_,_,_,z⟩:=z;exact z.elim,λ_ _ q=>q.elim⟩
def notStar:At->Bool
 |.Starred .. =>false
 |_=>true
def mW(e:At)(es:List At)(env:Env)(h:notStar e=true):CJ (e::es) env=(false,Bb e env)::CJ es env:=by cases e<;>first|rfl|(cases h)
def SS:At->Bool
 |.ListComp .. =>false
 |.SetComp .. =>false
 |.DictComp .. =>false
 |_=>true
def ZI(e:At)(t:Option At)(l:Nat)(env:Env)(h:SS e=true):QB e t l env=pure false:=by cases e<;>first|rfl|(cases h)
def xp:At->Bool
 |.Slice .. =>false
 |_=>true
def bD{b:At}(h:xp b=true:=by rfl):dR b:=λo i=>by cases b<;>first|rfl|(cases h)
section
variable{X:Am}{F:D8}{e a b c o:At}{es:List At}{pos p CL apos:Pos}{m n l:B9}{ma:EK}{st:BM}{Pf:List BM}{C0 iter:At}{mg:DC}
def Ae.imp{t t':TE}(h:Ae X e t)(i:FL t' t):Ae X e t':=λpins s σ H Q I hw=>h pins s σ H Q I (i σ H Q hw)
def E8.imp{t t':TT}(h:E8 X e t)(i:Qr t' t):E8 X e t':=λpins s σ H Q I hw=>h pins s σ H Q I (i σ H Q hw)
def J2.imp{t t':TT}(h:J2 X e t)(i:Qr t' t):J2 X e t':=λOV pins s σ H Q I hw=>h OV pins s σ H Q I (i σ H Q hw)
def Gv.imp{t t':FM}(h:Gv X es t)(i:dI t' t):Gv X es t':=λp pins s σ H Q I hw=>h p pins s σ H Q I (i σ H Q hw)
def DL.imp{t t':F6}(h:DL X st t)(i:Jv t' t):DL X st t':=λpins s σ H Bv I hw=>h pins s σ H Bv I (i Bv σ H hw)
def H4.imp{t t':F6}(h:H4 X Pf t)(i:Jv t' t):H4 X Pf t':=λpins s σ H Bv I hw=>h pins s σ H Bv I (i Bv σ H hw)
def Hc.imp{t t':TI}(h:Hc X C0 e t)(i:∀ σ H R,t' σ H R->t σ H R):Hc X C0 e t':=λpins s σ H Q I hw=>h pins s σ H Q I (i σ H Q hw)
def Gw.imp{t t':J7}(h:Gw X C0 t)(i:Wa t' t):Gw X C0 t':=λpins s σ H v u Q I r hw=>h pins s σ H v u Q I r (i v σ H Q hw)
def KD.imp{t t':OE}(h:KD X es t)(i:∀vs σ H Q,t' vs σ H Q->t vs σ H Q):KD X es t':=λpins s σ H v u Q I r hw=>h pins s σ H v u Q I r (i v σ H Q hw)
structure pV(X:Am)(i:Nat)(x:Str):Prop where
 N:X.N[i]?=some x:=by rfl
 v:Wl X.env.scope x:=by first|exact Or.inl rfl|exact Or.inr (Or.inl rfl)|exact Or.inr (Or.inr rfl)
 d:(x==("__debug__" :Str))=false:=by decide
 cd:(x==("__classdict__" :Str))=false:=by decide
structure Ns(X:Am)(i:Nat)(x:Str):Prop where
 N:X.N[i]?=some x:=by rfl
 l:Loc X.env.scope x:=by first|exact Or.inl rfl|exact Or.inr rfl
 f:X.fn x=true\/X.env.scope.names.lookup x=some .local:=by first|exact .inl rfl|exact .inr rfl
def acJ(i:Nat){x:Str}(k:pV X i x:=by exact{}):Aa X F (.Name x pos) (J i):=⟨Ae.imp (zz k.N k.v k.d k.cd) (wC i)⟩
def adA{i:Int}{j}:Aa X F (.Constant (.int i) j pos) (pu (.int i)):=⟨Ae.imp yK (Uv λ_ _=>by simp only[AQ])⟩
def acv{i:Bool}{j}:Aa X F (.Constant (.bool i) j pos) (pu (.AM i)):=⟨Ae.imp yh (Uv λ_ _=>by simp only[AQ])⟩
def aco{i:Str}{j}:Aa X F (.Constant (.str i) j pos) (pu (.str i)):=⟨Ae.imp jO (Uv λ_ _=>by simp only[AQ])⟩
def aca{j}:Aa X F (.Constant .none j pos) (pu .non):=⟨Ae.imp zr (Uv λ_ _=>by simp only[AQ])⟩
structure Lx(K:Ad)(mg:Str->Option A3)(x:Str)(w:W):Prop where
 ex:∃(v:V)(u:A3),mg x=some u/\RelV v u/\∀φ H,AQ K φ H w v
def Pm{x:Str}{w:W}(k:Lx X.K X.mg x w)(AX:F.K=X.K:=by rfl)(Aj:EJ X x:=by rfl)(hd:(x==("__debug__" :Str))=false:=by decide):Aa X F (.Name x pos) (pu w):=by obtain⟨v,u,h1,h2,B2⟩:=k.ex;exact⟨Ae.imp (yI Aj h1 h2 hd) (Uv (by rw[AX];exact B2))⟩
def acn(h:Aa X F e m):Aa X F e (CB m):=⟨Ae.imp h.p w8⟩
def adi{k:DK}(h:Fg X F e k):Fg X F e (IB k):=⟨E8.imp h.p w9⟩
def abM:H5 X F [] A2:=⟨Gv.imp VC XI⟩
def abL(h:Aa X F e m)(t:H5 X F es ma)(hs:notStar e=true:=by rfl):H5 X F (e::es) (Z m ma):=⟨Gv.imp (SV h.p t.p (mW e es X.env hs)) aA⟩
def acH{k}(h:H5 X F es ma):Aa X F (.Tuple es k pos) (Bn ma):=⟨Ae.imp (zx h.p) wA⟩
def acP(h:H5 X F es ma):Aa X F (.List es pos) (CO ma):=⟨Ae.imp (yN h.p) uO⟩
structure QY(X:Am)(F:D8)(e:At)(m:DK):Prop where
 p:J2 X e (HW F m)
def adj(h:Aa X F e m)(he:∀whole,isTrue e X.env whole=(do let v <-whole;NQ e.pos;JU [v] (truthy v)):=by intro _;rfl):Fg X F e (A_ m):=⟨E8.imp (zJ h.p he) J_⟩
def adm{k:DK}(h:Fg X F a k):QY X F (.BoolOp .And [a] pos) k:=⟨zO h.p⟩
def ado{k:DK}(h:Fg X F a k):QY X F (.BoolOp .Or [a] pos) k:=⟨zQ h.p⟩
def adl{k j:DK}(h:Fg X F a k)(t:QY X F (.BoolOp .And (b::es) pos) j):QY X F (.BoolOp .And (a::b::es) pos) (HI k j):=⟨J2.imp (zN h.p t.p) uh⟩
def adn{k j:DK}(h:Fg X F a k)(t:QY X F (.BoolOp .Or (b::es) pos) j):QY X F (.BoolOp .Or (a::b::es) pos) (EV k j):=⟨J2.imp (zP h.p t.p) uT⟩
def adk{k:DK}(h:QY X F e k):Fg X F e k:=⟨J2.pt h.p⟩
def adg{k:DK}(h:Fg X F a k):Fg X F (.UnaryOp .Not a pos) (DT k):=⟨E8.imp (zI h.p) uR⟩
def ace{op}(h:Aa X F a m):Aa X F (.BoolOp op [a] pos) m:=⟨zu h.p⟩
def acr(h:Aa X F a m)(k:Aa X F (.BoolOp .And (b::es) pos) n):Aa X F (.BoolOp .And (a::b::es) pos) (LO m n):=⟨Ae.imp (yg h.p k.p) ui⟩
def acf(h:Aa X F a m)(k:Aa X F (.BoolOp .Or (b::es) pos) n):Aa X F (.BoolOp .Or (a::b::es) pos) (US m n):=⟨Ae.imp (zv h.p k.p) uw⟩
def acb(h:Aa X F a m):Aa X F (.UnaryOp .Not a pos) (UR m):=⟨Ae.imp (zt h.p) uS⟩
def ad8{k:DK}(h:Fg X F c k)(AB:Aa X F a m)(A1:Aa X F b n):Aa X F (.IfExp c a b pos) (Mo k m n):=⟨Ae.imp (yJ h.p AB.p A1.p) uL⟩
def aeC:M3 X F [] Br:=⟨H4.imp zn aD⟩
def ae5{u v:An}(h:H6 X F st u)(k:M3 X F Pf v):M3 X F (st::Pf) (AO u v):=⟨H4.imp (zl h.p k.p) w6⟩
def aeD{u:An}(h:H6 X F st u):M3 X F [st] u:=⟨zo h.p⟩
def aeE:H6 X F (.Pass pos) Br:=⟨DL.imp ze aD⟩
def ae6{x j CL}:H6 X F (.Expr (.Constant (.str x) j pos) CL) Br:=⟨DL.imp zZ aD⟩
def ae8(h:Aa X F e m)(hs:SS e=true:=by rfl):H6 X F (.Expr e pos) (Fs m):=⟨DL.imp (za h.p (ZI _ _ _ _ hs)) ut⟩
def aeG(h:Aa X F e m):H6 X F (.Return (some e) pos) (B5 m):=⟨DL.imp (zg h.p) w4⟩
def aeH:H6 X F (.Return none pos) (B5 (pu .non)):=⟨DL.imp zh w5⟩
def aeB{k:DK}{u v:An}{xs ys:List BM}(h:Fg X F c k)(AB:M3 X F xs u)(A1:M3 X F ys v):H6 X F (.If c xs ys pos) (Bp k u v):=⟨DL.imp (zc h.p AB.p A1.p) uM⟩
def aeI(i:Nat){x:Str}(hN:X.N.Nodup)(he:Aa X F e m)(k:Ns X i x:=by exact{})(hs:SS e=true:=by rfl):H6 X F (.Assign [.Name x p] e pos) (AZ m (AC i)):=⟨DL.imp (zi hN k.N k.l he.p (ZI _ _ _ _ hs) k.f) λBv σ H q=>
 q.bd λw v φ ρ h H1 r a q=>by
   unfold AC at q
   split at q
   .rename_i A7;exact q _ φ H1 (r.set A7 a) (Ag.refl _ _)
   .exact q.elim⟩
def acM(i:Nat){x:Str}(hN:X.N.Nodup)(k:Ns X i x:=by exact{}):QX X F (.Name x pos) (AC i):=⟨Gw.imp (VG hN k.N k.l k.f) (Uw i)⟩
structure WK(X:Am)(F:D8)(es:List At)(Fp:List DC):Prop where
 p:KD X es (VL F Fp)
def acN:WK X F [] []:=⟨KD.imp ir gk⟩
def acL{g:DC}{Fp:List DC}(h:QX X F e g)(t:WK X F es Fp)(hs:(Kt (e::es) X.env).map (·.2)=K6 e X.env::(Kt es X.env).map (·.2):=by rfl):WK X F (e::es) (g::Fp):=⟨KD.imp (b7 h.p t.p hs) aB⟩
def acp{k:Nat}{Fp:List DC}(h:WK X F es Fp)(AD:X.calm=true:=by rfl)(AX:F.K=X.K:=by rfl)(AW:(Kt es X.env).length=Fp.length:=by rfl)(HG:(Kt es X.env).findIdx? (·.1)=none:=by rfl):QX X F (.Tuple es k pos) (FP Fp):=⟨Gw.imp (iq AD h.p AW HG) (gm AX rfl)⟩
def abm(AB:Aa X F a m)(A1:Aa X F b n)(AX:F.K=X.K:=by rfl):Aa X F (.BinOp a .Add b pos) (A0 addW m n):=⟨Ae.imp (P0 zF AB.p A1.p) (FG (yv AX))⟩
def acF(AB:Aa X F a m)(A1:Aa X F b n)(AX:F.K=X.K:=by rfl):Aa X F (.BinOp a .Sub b pos) (A0 Pg m n):=⟨Ae.imp (P0 yY AB.p A1.p) (FG (Ky λ_ _ _ _ _=>by simp only[AQ]))⟩
def acV(AB:Aa X F a m)(A1:Aa X F b n)(AX:F.K=X.K:=by rfl):Aa X F (.BinOp a .Mult b pos) (A0 Hi m n):=⟨Ae.imp (P0 (yU.or yW) AB.p A1.p) (FG z4)⟩
def ad5(AB:Aa X F a m)(A1:Aa X F b n)(AX:F.K=X.K:=by rfl):Aa X F (.BinOp a .FloorDiv b pos) (A0 CT m n):=⟨Ae.imp (P0 yS AB.p A1.p) (FG (Xm λ_ _ _ _ _=>by simp only[AQ]))⟩
def acU(AB:Aa X F a m)(A1:Aa X F b n)(AX:F.K=X.K:=by rfl):Aa X F (.BinOp a .Mod b pos) (A0 BZ m n):=⟨Ae.imp (P0 yT AB.p A1.p) (FG (Xm λ_ _ _ _ _=>by simp only[AQ]))⟩
def aci(AB:Aa X F a m)(A1:Aa X F b n)(AX:F.K=X.K:=by rfl):Aa X F (.BinOp a .Pow b pos) (A0 Nb m n):=⟨Ae.imp (P0 yV AB.p A1.p) (FG (Xm λ_ _ _ _ _=>by simp only[AQ]))⟩
def acj(AB:Aa X F a m)(A1:Aa X F b n)(AX:F.K=X.K:=by rfl):Aa X F (.BinOp a .RShift b pos) (A0 aaI m n):=⟨Ae.imp (P0 yX AB.p A1.p) (FG (Xm λ_ _ _ _ _=>by simp only[AQ]))⟩
def acs(AB:Aa X F a m)(A1:Aa X F b n)(AX:F.K=X.K:=by rfl):Aa X F (.BinOp a .BitAnd b pos) (A0 pw m n):=⟨Ae.imp (P0 zH AB.p A1.p) (FG (Ky λ_ _ _ _ _=>by simp only[AQ]))⟩
def acQ(AB:Aa X F a m)(A1:Aa X F b n)(AX:F.K=X.K:=by rfl):Aa X F (.Compare a [.Lt] [b] pos) (A0 R0 m n):=⟨Ae.imp (Kz Yw AB.p A1.p (HK _)) (FG (Ky λ_ _ _ _ _=>by simp only[AQ]))⟩
def ada(AB:Aa X F a m)(A1:Aa X F b n)(AX:F.K=X.K:=by rfl):Fg X F (.Compare a [.Lt] [b] pos) (A_ (A0 R0 m n)):=⟨E8.imp (L1 Yw AB.p A1.p (HK _)) λσ H Q q=>let⟨φ,ρ,h,r,z⟩:=J_ σ H Q q;FG (Ky λ_ _ _ _ _=>by simp only[AQ]) σ H _ ⟨φ,ρ,h,r,z⟩⟩
def adD(AB:Aa X F a m)(A1:Aa X F b n)(AX:F.K=X.K:=by rfl):Aa X F (.Compare a [.LtE] [b] pos) (A0 LM m n):=⟨Ae.imp (Kz Oz AB.p A1.p (HK _)) (FG (Ky λ_ _ _ _ _=>by simp only[AQ]))⟩
def ad_(AB:Aa X F a m)(A1:Aa X F b n)(AX:F.K=X.K:=by rfl):Fg X F (.Compare a [.LtE] [b] pos) (A_ (A0 LM m n)):=⟨E8.imp (L1 Oz AB.p A1.p (HK _)) λσ H Q q=>let⟨φ,ρ,h,r,z⟩:=J_ σ H Q q;FG (Ky λ_ _ _ _ _=>by simp only[AQ]) σ H _ ⟨φ,ρ,h,r,z⟩⟩
def ad7(AB:Aa X F a m)(A1:Aa X F b n)(AX:F.K=X.K:=by rfl):Aa X F (.Compare a [.Gt] [b] pos) (A0 MA m n):=⟨Ae.imp (Kz jB AB.p A1.p (HK _)) (FG (Ky λ_ _ _ _ _=>by simp only[AQ]))⟩
def adX(AB:Aa X F a m)(A1:Aa X F b n)(AX:F.K=X.K:=by rfl):Fg X F (.Compare a [.Gt] [b] pos) (A_ (A0 MA m n)):=⟨E8.imp (L1 jB AB.p A1.p (HK _)) λσ H Q q=>let⟨φ,ρ,h,r,z⟩:=J_ σ H Q q;FG (Ky λ_ _ _ _ _=>by simp only[AQ]) σ H _ ⟨φ,ρ,h,r,z⟩⟩
def ad6(AB:Aa X F a m)(A1:Aa X F b n)(AX:F.K=X.K:=by rfl):Aa X F (.Compare a [.GtE] [b] pos) (A0 e3 m n):=⟨Ae.imp (Kz jA AB.p A1.p (HK _)) (FG (Ky λ_ _ _ _ _=>by simp only[AQ]))⟩
def adW(AB:Aa X F a m)(A1:Aa X F b n)(AX:F.K=X.K:=by rfl):Fg X F (.Compare a [.GtE] [b] pos) (A_ (A0 e3 m n)):=⟨E8.imp (L1 jA AB.p A1.p (HK _)) λσ H Q q=>let⟨φ,ρ,h,r,z⟩:=J_ σ H Q q;FG (Ky λ_ _ _ _ _=>by simp only[AQ]) σ H _ ⟨φ,ρ,h,r,z⟩⟩
def ad3(Av:X.A.units+64<Cq)(AB:Aa X F a m)(A1:Aa X F b n)(AX:F.K=X.K:=by rfl):Aa X F (.Compare a [.Eq] [b] pos) (A0 (BH true) m n):=⟨Ae.imp (Kz (Xr Av).1 AB.p A1.p (HK _)) (FG (Xk AX true))⟩
def adU(Av:X.A.units+64<Cq)(AB:Aa X F a m)(A1:Aa X F b n)(AX:F.K=X.K:=by rfl):Fg X F (.Compare a [.Eq] [b] pos) (A_ (A0 (BH true) m n)):=⟨E8.imp (L1 (Xr Av).1 AB.p A1.p (HK _)) λσ H Q q=>let⟨φ,ρ,h,r,z⟩:=J_ σ H Q q;FG (Xk AX true) σ H _ ⟨φ,ρ,h,r,z⟩⟩
def acW(Av:X.A.units+64<Cq)(AB:Aa X F a m)(A1:Aa X F b n)(AX:F.K=X.K:=by rfl):Aa X F (.Compare a [.NotEq] [b] pos) (A0 (BH false) m n):=⟨Ae.imp (Kz (Xr Av).2 AB.p A1.p (HK _)) (FG (Xk AX false))⟩
def adb(Av:X.A.units+64<Cq)(AB:Aa X F a m)(A1:Aa X F b n)(AX:F.K=X.K:=by rfl):Fg X F (.Compare a [.NotEq] [b] pos) (A_ (A0 (BH false) m n)):=⟨E8.imp (L1 (Xr Av).2 AB.p A1.p (HK _)) λσ H Q q=>let⟨φ,ρ,h,r,z⟩:=J_ σ H Q q;FG (Xk AX false) σ H _ ⟨φ,ρ,h,r,z⟩⟩
def adB(AB:Aa X F a m)(A1:Aa X F b n)(AX:F.K=X.K:=by rfl):Aa X F (.Compare a [.Is] [b] pos) (A0 (EA true) m n):=⟨Ae.imp (Kz jC AB.p A1.p (HK _)) (FG (Xn true))⟩
def adZ(AB:Aa X F a m)(A1:Aa X F b n)(AX:F.K=X.K:=by rfl):Fg X F (.Compare a [.Is] [b] pos) (A_ (A0 (EA true) m n)):=⟨E8.imp (L1 jC AB.p A1.p (HK _)) λσ H Q q=>let⟨φ,ρ,h,r,z⟩:=J_ σ H Q q;FG (Xn true) σ H _ ⟨φ,ρ,h,r,z⟩⟩
def acd(AB:Aa X F a m)(A1:Aa X F b n)(AX:F.K=X.K:=by rfl):Aa X F (.Compare a [.IsNot] [b] pos) (A0 (EA false) m n):=⟨Ae.imp (Kz jE AB.p A1.p (HK _)) (FG (Xn false))⟩
def adh(AB:Aa X F a m)(A1:Aa X F b n)(AX:F.K=X.K:=by rfl):Fg X F (.Compare a [.IsNot] [b] pos) (A_ (A0 (EA false) m n)):=⟨E8.imp (L1 jE AB.p A1.p (HK _)) λσ H Q q=>let⟨φ,ρ,h,r,z⟩:=J_ σ H Q q;FG (Xn false) σ H _ ⟨φ,ρ,h,r,z⟩⟩
def YA:W->A5->R (W×A5):=λw h=>match w with
 |.int i=>.ok (.int (-i),h)
 |_=>.bad
def acY(AB:Aa X F a m):Aa X F (.UnaryOp .USub a pos) (Bf YA m):=⟨Ae.imp (zy abY AB.p) (wB λσ ρ φ h H x w Q r a q=>by
 cases w with
 |int i=>simp only[AQ]at a;exact⟨i,a,q _ φ H r (Ag.refl _ _) (by simp only[AQ])⟩
 |_=>cases q)⟩
def O0(f g:GQ)(a b c:B9):B9:=bd a λx=>bd b λy=>bd (λ_ h=>f x y h) (M5 λk=>if k=true then bd c λz _ h=>g y z h else pu (.AM false))
def gh{r BK:ET}{f g:GQ}(hf:Hb F r f)(Aj:Hb F BK g):FL (C6 F (O0 f g m n l)) (am r BK (C6 F m) (C6 F n) (C6 F l)):=λσ H Q q=>
 q.bd λx v φ ρ h H1 Ak Dz q=>⟨φ,ρ,h,Ak,q.bd λy u CE h2 AS B6 CZ GI q=>hf σ ρ CE h2 AS v u x y _ B6 (Dz.ex CZ) GI (q.bd λk Ch JO B2 Bl Ee Ew pk q=>by
   obtain⟨c,e,q⟩:=UD pk q;refine⟨c,e,?_⟩;cases c with
   |false=>exact q _ JO Bl Ee (Ag.refl _ _) (Mv _)
   |true=>have q:Es AQ F JO Bl σ ρ Q (bd l (λz _ h=>g y z h) ρ B2):=q;exact⟨JO,ρ,B2,Ee,q.bd λz aeM YW Ca CM LS SB N5 q=>Aj σ ρ YW Ca CM u aeM y z Q LS (GI.ex (Ew.trans SB)) N5 q⟩)⟩
def nD{op JJ:CmpOp}{r BK:ET}{f g:GQ}(ho:DQ X (Fb op) r)(F9:DQ X (Fb JJ) BK)(hf:Hb F r f)(Aj:Hb F BK g)(AB:Aa X F a m)(A1:Aa X F b n)(AD:Aa X F c l)(hm:lastMarks [op,JJ] [b,c]=false:=by with_unfolding_all rfl):Aa X F (.Compare a [op,JJ] [b,c] pos) (O0 f g m n l):=⟨Ae.imp (ym ho F9 AB.p A1.p AD.p hm) (gh hf Aj)⟩
def SU:Hb F (Kf λi j=>.AM (decide (i<=j))) LM:=Ky λ_ _ _ _ _=>by simp only[AQ]
def j4:Hb F (Kf λi j=>.AM (decide (i<j))) R0:=Ky λ_ _ _ _ _=>by simp only[AQ]
def nY{op JJ:CmpOp}{r BK:ET}{f g:GQ}(ho:DQ X (Fb op) r)(F9:DQ X (Fb JJ) BK)(hf:Hb F r f)(Aj:Hb F BK g)(AB:Aa X F a m)(A1:Aa X F b n)(AD:Aa X F c l)(hm:lastMarks [op,JJ] [b,c]=false:=by with_unfolding_all rfl):Fg X F (.Compare a [op,JJ] [b,c] pos) (A_ (O0 f g m n l)):=⟨E8.imp (zp ho F9 AB.p A1.p AD.p hm) λσ H Q q=>gh hf Aj σ H _ (J_ σ H Q q)⟩
structure KG(X:Am)(F:D8)(e:Option At)(k:QQ):Prop where
 p:U9 X e (VM F k)
def ady:KG X F none (pu none):=⟨λpins s σ H Q I q=>zT pins s σ H Q I (uQ σ H Q q)⟩
def adz(h:Aa X F e m):KG X F (some e) (Ft m):=⟨λpins s σ H Q I q=>zU h.p pins s σ H Q I (w2 σ H Q q)⟩
def ack{lo A7:Option At}{k j:QQ}(AB:Aa X F a m)(AF:KG X F lo k)(hh:KG X F A7 j)(AX:F.K=X.K:=by rfl):Aa X F (.Subscript a (.Slice lo A7 none CL) pos) (HJ m k j):=⟨Ae.imp (zw (aaM.or aaN) AB.p AF.p hh.p) (w7 AX)⟩
structure M2(X:Am)(e:At)(es:List At)(pos:Pos):Prop where
 he:CJ (e::es) X.env=(false,Bb e X.env)::CJ es X.env:=by rfl
 GL:(GO pos (CJ es X.env)).any (·.1)=false:=by rfl
def adE(hm:X.mg "len"=none)(AB:H5 X F [e] ma)(AX:F.K=X.K:=by rfl)(Aj:EJ X "len":=by rfl)(s:M2 X e [] pos:=by exact{}):Aa X F (.Call (.Name "len" p) [e] [] pos) (B0 Bw ma):=⟨Ae.imp (VD qS Aj hm PySem.boot_len AB.p (by decide) (by decide) s.he s.GL) (PI (z1 AX))⟩
def adG(hm:X.mg "list"=none)(AB:H5 X F [e] ma)(AX:F.K=X.K:=by rfl)(Aj:EJ X "list":=by rfl)(s:M2 X e [] pos:=by exact{}):Aa X F (.Call (.Name "list" p) [e] [] pos) (B0 Db ma):=⟨Ae.imp (VE qU Aj hm (by kernel_rfl) AB.p (by decide) (by decide) s.he s.GL) (PI (z2 AX))⟩
def acI(hm:X.mg "tuple"=none)(AB:H5 X F [e] ma)(AX:F.K=X.K:=by rfl)(Aj:EJ X "tuple":=by rfl)(s:M2 X e [] pos:=by exact{}):Aa X F (.Call (.Name "tuple" p) [e] [] pos) (B0 OQ ma):=⟨Ae.imp (VE qZ Aj hm (by kernel_rfl) AB.p (by decide) (by decide) s.he s.GL) (PI (z9 AX))⟩
def acE(hm:X.mg "str"=none)(AB:H5 X F [e] ma)(Aj:EJ X "str":=by rfl)(s:M2 X e [] pos:=by exact{}):Aa X F (.Call (.Name "str" p) [e] [] pos) (B0 Pe ma):=⟨Ae.imp (VE qY Aj hm (by kernel_rfl) AB.p (by decide) (by decide) s.he s.GL) (PI z7)⟩
def acG(hm:X.mg "int"=none)(AB:H5 X F [e] ma)(Aj:EJ X "int":=by rfl)(s:M2 X e [] pos:=by exact{}):Aa X F (.Call (.Name "int" p) [e] [] pos) (B0 aJ ma):=⟨Ae.imp (VE qQ Aj hm (by kernel_rfl) AB.p (by decide) (by decide) s.he s.GL) (PI z8)⟩
def V8{U:Str}{T:String}(tt:dY X.K T)(hm:X.mg "isinstance"=none)(v3:X.mg U=none)(tX:NN U=some (.type T))(AB:Aa X F a m)(AX:F.K=X.K:=by rfl)(Aj:EJ X "isinstance":=by rfl)(tr:EJ X U:=by rfl)(v6:U≠"__name__":=by decide)(ti:(U==("__debug__" :Str))=false:=by decide)(hs:notStar a=true:=by rfl)(s:M2 X a [.Name U CL] pos:=by exact{}):Aa X F (.Call (.Name "isinstance" p) [a,.Name U CL] [] pos) (Bf (D5 T) m):=
 ⟨Ae.imp (VD (qR tt) Aj hm (by kernel_rfl) (SV AB.p (SV (yi (v:=.ty T) tr v3 tX rfl v6 ti) VC) (mW _ _ _ hs)) (by decide) (by decide) s.he s.GL) (uN AX)⟩
structure QP(X:Am)(o:At)(x:Str)(apos EN:Pos)(e:At):Prop where
 b:NH o x X.env (Bb o X.env)=Bb o X.env:=by rfl
 l:(apos.endLine==EN.line)=true:=by rfl
 f:((GO EN (CJ [e] X.env)).all (λx=>!x.1)&&(NO EN (NJ [] X.env)).all (λx=>x.1.isSome)&&decide (([e]:List At).length+([]:List QD).length+(if([]:List QD).isEmpty then 0 else 1)<30))=true:=by rfl
 s:CJ [e] X.env=(false,Bb e X.env)::CJ [] X.env:=by rfl
 h:(GO EN (CJ [] X.env)).any (·.1)=false:=by rfl
def acu(ho:Aa X F o m)(AB:Aa X F e n)(AX:F.K=X.K:=by rfl)(k:QP X o "append" apos pos e:=by exact{}):Aa X F (.Call (.Attribute o "append" apos) [e] [] pos) (E1 FU m (Z n A2)):=⟨Ae.imp (jM Vm PySem.F.slot_list_append PySem.F.type_list_append jQ ho.p (SV AB.p VC k.s) k.b k.f k.l k.s k.h) λσ H Q q=>aC AX yw σ H Q q|>λ⟨φ,ρ,h,r,z⟩=>⟨φ,ρ,h,r,z.imp λv H1⟨ty,t⟩=>⟨ty,aA σ H1 _ t|>λ⟨φ,ρ,h,r,z⟩=>⟨φ,ρ,h,r,z.imp λv AS t=>XI σ AS _ t⟩⟩⟩⟩
def ach(ho:Aa X F o m)(AB:Aa X F e n)(AX:F.K=X.K:=by rfl)(k:QP X o "pop" apos pos e:=by exact{}):Aa X F (.Call (.Attribute o "pop" apos) [e] [] pos) (E1 L0 m (Z n A2)):=⟨Ae.imp (jM Vm od oe (PY.or jR jS) ho.p (SV AB.p VC k.s) k.b k.f k.l k.s k.h) λσ H Q q=>aC AX j5 σ H Q q|>λ⟨φ,ρ,h,r,z⟩=>⟨φ,ρ,h,r,z.imp λv H1⟨ty,t⟩=>⟨ty,aA σ H1 _ t|>λ⟨φ,ρ,h,r,z⟩=>⟨φ,ρ,h,r,z.imp λv AS t=>XI σ AS _ t⟩⟩⟩⟩
def acg(ho:Aa X F o m)(AX:F.K=X.K:=by rfl)(A1:NH o "pop" X.env (Bb o X.env)=Bb o X.env:=by rfl)(AF:(apos.endLine==pos.line)=true:=by rfl):Aa X F (.Call (.Attribute o "pop" apos) [] [] pos) (E1 L0 m A2):=⟨Ae.imp (jN Vm od oe (PY.or jR jS) ho.p A1 AF) (gn AX j5)⟩
def acx(ho:Aa X F o m)(AX:F.K=X.K:=by rfl)(A1:NH o "clear" X.env (Bb o X.env)=Bb o X.env:=by rfl)(AF:(apos.endLine==pos.line)=true:=by rfl):Aa X F (.Call (.Attribute o "clear" apos) [] [] pos) (E1 OL m A2):=⟨Ae.imp (jN Vm PySem.F.slot_list_clear PySem.F.type_list_clear xz ho.p A1 AF) (gn AX yx)⟩
def aeF {i v:At} {Ci:B9} (BB:Aa X F v Ci) (ho:Aa X F o m) (A7:Aa X F i n) (hs:SS v=true:=by rfl) (h1:swapsWithSole [.Subscript o i p] v pos.line X.env=pure false:=by rfl) (h2:swappedStores [.Subscript o i p] v X.env=pure none:=by rfl) (B2:(Kt [.Subscript o i p] X.env).map (·.2)=[K6 (.Subscript o i p) X.env]:=by rfl)(AB:∀v,K6 (.Subscript o i p) X.env v=(do
    let CQ <-JU [v] (Bb o X.env)
    let GX <-JU [v,CQ] (Bb i X.env)
    NQ p
    JU [v,CQ,GX] (setItem CQ GX v)
    release [v,CQ,GX] []):=by intro _;rfl):H6 X F (.Assign [.Subscript o i p] v pos) (AZ Ci (Ri m n)):=⟨DL.imp (kR BB.p (aa1 ho.p A7.p set_list AB) h1 h2 B2) λBv σ H q=>
 q.bd λw x φ ρ h H1 r a q=>by
   refine w3 x σ H1 Bv.AP ⟨φ,ρ,h,w,r,a,?_⟩;have AP:∀r:R (En×A5),(∀f h',r=.ok (f,h')->∃Dx,f=.AP Dx)->EC F φ H1 Bv r->EC F φ H1 ⟨Bv.AP,λ_ _=>False,λ_ _=>False,λ_ _=>False⟩ r:=λr g k=>by
    cases r with
    |ok p=>obtain⟨f,h'⟩:=p;obtain⟨Dx,rfl⟩:=g f h' rfl;exact k
    |exc c h'=>exact k
    |bad=>exact k
   refine AP _ (λf h' e=>?_) q;unfold Ri bd at e;cases A9:m ρ h with
   |ok p=>
    rw[A9]at e;cases AE:n ρ p.2 with
    |ok CL=>
     simp only[R.bind,AE]at e;unfold Z2 at e
     split at e
     .split at e
      .cases e;exact⟨_,rfl⟩
      .cases e
     .cases e
    |exc c h2=>simp only[R.bind,AE]at e;cases e
    |bad=>simp only[R.bind,AE]at e;cases e
   |exc c h2=>rw[A9]at e;cases e
   |bad=>rw[A9]at e;cases e⟩
def ad0:Aa X F (.Dict [] [] pos) (Jf false):=⟨Ae.imp VF uk⟩
def ad1:Aa X F (.Dict [] [] pos) (Jf true):=⟨Ae.imp yq ul⟩
def afZ(Av:X.A.units+64<Cq)(ho:Aa X F o m)(he:Aa X F e n)(hs:dP e):Aa X F (.Subscript o e pos) (A0 eN m n):=⟨Ae.imp (yo (by lia) ho.p he.p hs) uo⟩
def ae7{v:At}{Ci:B9}(Av:X.A.units+64<Cq)(ho:Aa X F o m)(A7:Aa X F e n)(BB:Aa X F v Ci)(hs:SS v=true:=by rfl):H6 X F (.Assign [.Subscript o e p] v pos) (Jg m n Ci):=⟨DL.imp (z_ (by lia) ho.p A7.p BB.p (ZI _ _ _ _ hs)) ur⟩
def ay{DS f:Str}{Ay:List Str}(cl:PV X.K DS Ay)(AB:Aa X F a m)(hf:f∈Ay:=by decide)(AX:F.K=X.K:=by rfl)(A1:NH a f X.env (Bb a X.env)=Bb a X.env:=by rfl):Aa X F (.Attribute a f pos) (Bf (Bq DS f) m):=⟨Ae.imp (yH AB.p A1) (uu AX cl hf)⟩
def bQ{DS f:Str}{Ay:List Str}{v:At}{Ci:B9}(cl:PV X.K DS Ay)(ho:Aa X F o m)(BB:Aa X F v Ci)(hf:f∈Ay:=by decide)(AX:F.K=X.K:=by rfl)(hs:SS v=true:=by rfl):H6 X F (.Assign [.Attribute o f p] v pos) (Ec DS f m Ci):=⟨DL.imp (zb ho.p BB.p (ZI _ _ _ _ hs)) (uv AX cl hf)⟩
def acw{x:Str}{k j:Nat}{DO:Bz}(c:Dr X.prog X.w X.K X.mg X.base x k j DO)(Ao:Cu j X.A)(AB:H5 X F (e::es) ma)(P:Rt X F:=by first|exact Z4|exact Z3)(AX:F.K=X.K:=by rfl)(Aj:EJ X x:=by rfl)(KS:(x==("__debug__" :Str))=false:=by decide)(s:M2 X e es pos:=by exact{}):Aa X F (.Call (.Name x p) (e::es) [] pos) (Ap k DO ma):=by obtain⟨f,fd,ps,AW,Nl,hm,AK,A1⟩:=c.ex;obtain⟨E,h1,h2⟩:=P.ex;exact⟨Ae.imp (yj Nl Ao Aj hm AK A1 .nil h1 AB.p KS s.he s.GL) (uj AX h2)⟩
def acR{DS:Str}{k j:Nat}{DO:Bz}(c:U1 X.prog X.w X.K X.mg X.base DS k j DO)(Ao:Cu (j+1) X.A)(AB:H5 X F (e::es) ma)(P:Rt X F:=by first|exact Z4|exact Z3)(AX:F.K=X.K:=by rfl)(Aj:EJ X DS:=by rfl)(KS:(DS==("__debug__" :Str))=false:=by decide)(s:M2 X e es pos:=by exact{}):Aa X F (.Call (.Name DS p) (e::es) [] pos) (IS DS k DO ma):=by obtain⟨C,f,fd,ps,AW,AD,mk,Nl,hm,A1⟩:=c.ex;obtain⟨E,h1,h2⟩:=P.ex;exact⟨Ae.imp (yO mk Nl Ao Aj hm A1 .nil h1 AB.p KS s.he s.GL) (uP AX AD h2)⟩
end
section
variable{X:Am}{F:D8}{e a b c o elt:At}{es ifs:List At}{pos p CL apos EN:Pos}{m n l:B9}{ma:EK}{C0 iter:At}{g:DC}{scope:Ey}{mi:Fw}{mt:DK}
def Jz(sc:Ey)(N3:List Str)(nl:Nat)(caps:List Nat):List Str:=((sc.names.drop 1).take nl).map (·.1)++caps.map λj=>N3.getD j ""
def Rm(X:Am)(scope:Ey)(N:List Str)(C0:At)(g:DC):Prop:=∀cl C s H BA E5 C2,QX (G0 X scope N cl C s H BA) (LG X.K E5 C2) C0 g
def cU(X:Am)(scope:Ey)(N:List Str)(e:At)(m:B9):Prop:=∀cl C s H BA E5 C2,Aa (G0 X scope N cl C s H BA) (LG X.K E5 C2) e m
def BT(X:Am)(scope:Ey)(N:List Str)(ifs:List At)(k:DK):Prop:=∀cl C s H BA E5 C2,PZ (G0 X scope N cl C s H BA) ifs (HW (LG X.K E5 C2) k)
def r9{N:List Str}:BT X scope N [] (pu true):=λcl C s H BA E5 C2 pins s' σ A6 Q I q=>by obtain⟨φ,ρ,h,r,k⟩:=q;exact zK pins s' σ A6 Q I (k true φ A6 r (Ag.refl _ _) rfl)
def r8{N:List Str}(h:∀cl C s H BA E5 C2,Fg (G0 X scope N cl C s H BA) (LG X.K E5 C2) c mt):BT X scope N [c] mt:=λcl C s H BA E5 C2=>zL (h cl C s H BA E5 C2).p
def qz(i:Nat){N:List Str}{x:Str}(hN:N.Nodup:=by decide+kernel)(A7:N[i]?=some x:=by rfl)(AF:(Kv scope X.env).names.lookup x=some .local:=by rfl):Rm X scope N (.Name x pos) (AC i):=λcl C s H BA E5 C2=>
 ⟨Gw.imp (VG (X:=G0 X scope N cl C s H BA) hN A7 (.inl AF) (.inr AF)) (Uw i)⟩
def qy(i:Nat){N:List Str}{x:Str}(hN:N.Nodup:=by decide+kernel)(A7:N[i]?=some x:=by rfl)(AF:(Kv scope X.env).names.lookup x=some .cell:=by rfl)(hs:(scope.names.lookup x==some .cell)=true:=by rfl):Rm X scope N (.Name x pos) (AC i):=λcl C s H BA E5 C2=>
 ⟨Gw.imp (VG (X:=G0 X scope N cl C s H BA) hN A7 (.inr AF) (.inl hs)) (Uw i)⟩
def r0(i j:Nat){N:List Str}{x y:Str}{bD py:Pos}{k:Nat}(AD:X.calm=true:=by rfl)(hN:N.Nodup:=by decide+kernel)(A7:N[i]?=some x:=by rfl)(Af:N[j]?=some y:=by rfl)(AF:(Kv scope X.env).names.lookup x=some .local:=by rfl)(hm:(Kv scope X.env).names.lookup y=some .local:=by rfl) :
  Rm X scope N (.Tuple [.Name x bD,.Name y py] k pos) (FP [AC i,AC j]):=λcl C s H BA E5 C2=>
 ⟨Gw.imp (iq (X:=G0 X scope N cl C s H BA) AD (KD.imp (b7 (Gw.imp (VG (X:=G0 X scope N cl C s H BA) hN A7 (.inl AF) (.inr AF)) (Uw i)) (KD.imp (b7 (Gw.imp (VG (X:=G0 X scope N cl C s H BA) hN Af (.inl hm) (.inr hm)) (Uw j)) (KD.imp ir gk) rfl) aB) rfl) aB) rfl rfl) (gm rfl rfl)⟩
def gR(nl:Nat)(caps:List Nat)(AX:F.K=X.K)(Aj:Rm X scope (Jz scope X.N nl caps) C0 g)(BQ:BT X scope (Jz scope X.N nl caps) ifs mt)(he:cU X scope (Jz scope X.N nl caps) elt m) :
  (∀cl C s H BA,Gw (G0 X scope (Jz scope X.N nl caps) cl C s H BA) C0 (λx σ H Q=>∃E5 C2,Ng (LG F.K E5 C2) g x σ H Q))/\(∀cl C s H BA,PZ (G0 X scope (Jz scope X.N nl caps) cl C s H BA) ifs (λσ H Q=>∃E5 C2,HW (LG F.K E5 C2) mt σ H Q))/\(∀cl C s H BA,Ae (G0 X scope (Jz scope X.N nl caps) cl C s H BA) elt (λσ H Q=>∃E5 C2,C6 (LG F.K E5 C2) m σ H Q)):=by
 rw[AX];exact⟨λcl C s H BA pins s' σ A6 v u Q I r⟨E5,C2,q⟩=>(Aj cl C s H BA E5 C2).p pins s' σ A6 v u Q I r q,λcl C s H BA pins s' σ A6 Q I⟨E5,C2,q⟩=>BQ cl C s H BA E5 C2 pins s' σ A6 Q I q,λcl C s H BA pins s' σ A6 Q I⟨E5,C2,q⟩=>(he cl C s H BA E5 C2).p pins s' σ A6 Q I q⟩
def acy(nl:Nat)(caps:List Nat)(S:XZ X.env.scope X.N scope (Jz scope X.N nl caps) nl caps=true)(A7:Pc X F C0 iter mi)(Aj:Rm X scope (Jz scope X.N nl caps) C0 g)(BQ:BT X scope (Jz scope X.N nl caps) ifs mt)(he:cU X scope (Jz scope X.N nl caps) elt m)(AD:X.calm=true:=by rfl)(AX:F.K=X.K:=by rfl)(hs:∀x,Pz iter X.env x=pure x:=by intro _;rfl) :
  Aa X F (.ListComp elt [⟨C0,iter,ifs,0⟩] scope pos) (EO nl caps mi g mt m):=by
 obtain⟨h1,h2,B2⟩:=gR nl caps AX Aj BQ he;exact⟨Ae.imp (yn (Lw.of S) AD A7.p h1 h2 B2 hs) gi⟩
def ae4(i:Nat)(nl:Nat)(caps:List Nat){y:Str}{py:Pos}(hN:X.N.Nodup)(S:XZ X.env.scope X.N scope (Jz scope X.N nl caps) nl caps=true)(A7:Pc X F C0 iter mi)(Aj:Rm X scope (Jz scope X.N nl caps) C0 g)(BQ:BT X scope (Jz scope X.N nl caps) ifs mt)(he:cU X scope (Jz scope X.N nl caps) elt m)(AN:X.N[i]?=some y:=by rfl)(AF:X.env.kindOf y=some .local:=by rfl)(Zz:QB (.ListComp elt [⟨C0,iter,ifs,0⟩] scope EN) (some (.Name y py)) pos.line X.env=pure true:=by rfl)(AD:X.calm=true:=by rfl)(AX:F.K=X.K:=by rfl)(hs:∀x,Pz iter X.env x=pure x:=by intro _;rfl) :
  H6 X F (.Assign [.Name y py] (.ListComp elt [⟨C0,iter,ifs,0⟩] scope EN) pos) (AZ (EO nl caps mi g mt m) (AC i)):=by
 obtain⟨h1,h2,B2⟩:=gR nl caps AX Aj BQ he;refine⟨DL.imp (zY (Lw.of S) AD hN AN AF A7.p h1 h2 B2 Zz hs) λBv σ H q=>?_⟩;obtain⟨φ,ρ,h,r,q⟩:=q;refine gi σ H _ ⟨φ,ρ,h,r,EC.bd q λw v C7 h1 H1 Ak D6 a q=>?_⟩;unfold AC at q
 split at q
 .rename_i A7;exact q _ C7 H1 (Ak.set A7 a) (Ag.refl _ _)
 .exact q.elim
def adR{st:BM}{i:Nat}(h:H6 X F st (AZ m (AC i))):H6 X F st (AZ (CB m) (AC i)):=⟨DL.imp h.p λBv σ H q=>by
 obtain⟨φ,ρ,h,r,q⟩:=q;refine⟨φ,ρ,h,r,?_⟩;unfold AZ bd CB at*;cases e:m ρ h with
 |bad=>rw[e]at q;cases q
 |exc c h'=>rw[e]at q;exact q
 |ok p=>
  rw[e]at q;obtain⟨w,h1⟩:=p;obtain⟨CD,h',es⟩:=aY h w h1;simp only[R.bind]at q |-;rw[es]at q;unfold AC at q |-;dsimp only at q |-
  split at q
  .rename_i A7;rw[if_pos A7];intro σ' C7 H1 Ak D6;obtain⟨v,ev,E_⟩:=Ak.C9 i w (JQ A7);obtain⟨BL,Ev,d',GS⟩:=aZ r.hd D6 Ak.hd E_ es;refine q σ' BL H1 ⟨d',r.x0.trans Ev,by simpa using Ak.len,λj u Hz=>?_⟩ Ev;by_cases Af:i=j
   .subst Af;rw[JQ A7]at Hz;cases Hz;exact⟨v,ev,GS⟩
   .rw[Lf Af]at Hz;obtain⟨v0,_,He⟩:=r.C9 j u Hz;obtain⟨v1,A9,a1⟩:=Ak.C9 j u (by rw[Lf Af];exact Hz);exact⟨v1,A9,AQ.ex (⟨Ev.p,λ_ _ e _=>e⟩:Ag φ H1 BL H1) (AQ.back D6.p He a1)⟩
  .exact q.elim⟩
def acS {DS x:Str} {k j:Nat} {DO:Bz} {pl:Sem Bool} (c:Ib X.prog X.w X.K X.mg X.base DS x k j DO) (Ao:Cu j X.A) (ho:Aa X F o m) (AB:H5 X F (e::es) ma) (P:Rt X F:=by first|exact Z4|exact Z3) (AX:F.K=X.K:=by rfl) (s:M2 X e es pos:=by exact{}) (BQ:Bb (.Call (.Attribute o x apos) (e::es) [] pos) X.env=(do
   let CQ <-Bb o X.env
   NQ apos.atName
   let(f,first) <-JU [CQ] (QC CQ x pl)
   Rd pos f first (GO pos (CJ (e::es) X.env)) (NO pos (NJ [] X.env))):=by rfl):Aa X F (.Call (.Attribute o x apos) (e::es) [] pos) (ED DS x k DO m ma):=by
 obtain⟨C,f,fd,ps,AW,AD,C_,Ei,Nl,A1⟩:=c.ex;obtain⟨E,h1,h2⟩:=P.ex;exact⟨Ae.imp (yP (pl:=pl) ho.p C_ Ei Nl Ao A1 .nil h1 AB.p s.he s.GL BQ) (gp AX AD h2)⟩
def acT {DS x:Str} {j:Nat} {DO:Bz} {pl:Sem Bool} (c:Ib X.prog X.w X.K X.mg X.base DS x 0 j DO) (Ao:Cu j X.A) (ho:Aa X F o m) (P:Rt X F:=by first|exact Z4|exact Z3) (AX:F.K=X.K:=by rfl) (BQ:Bb (.Call (.Attribute o x apos) [] [] pos) X.env=(do
   let CQ <-Bb o X.env
   NQ apos.atName
   let(f,first) <-JU [CQ] (QC CQ x pl)
   Rd pos f first (GO pos (CJ [] X.env)) (NO pos (NJ [] X.env))):=by rfl):Aa X F (.Call (.Attribute o x apos) [] [] pos) (ED DS x 0 DO m A2):=by
 obtain⟨C,f,fd,ps,AW,AD,C_,Ei,Nl,A1⟩:=c.ex;obtain⟨E,h1,h2⟩:=P.ex;refine⟨Ae.imp (yr (pl:=pl) ho.p C_ Ei Nl Ao A1 .nil h1 BQ) λσ H Q q=>?_⟩;obtain⟨φ,ρ,h,r,z⟩:=gp (X:=X) AX AD h2 σ H Q q;exact⟨φ,ρ,h,r,z.imp λv H1⟨a,BY,Ay,A9,AE,Er,t⟩=>⟨a,BY,Ay,A9,AE,Er,XI σ H1 _ t⟩⟩
def acz(Av:X.A.units+64<Cq)(ho:Aa X F o m)(he:Aa X F e n)(k:B8.QP X o "get" apos e EN:=by exact⟨rfl,rfl,rfl,rfl⟩):Aa X F (.Call (.Attribute o "get" apos) [e] [] EN) (UP m n):=⟨Ae.imp (yp (by lia) ho.p he.p k) um⟩
def ad2(ho:Aa X F o m)(he:Aa X F e n)(k:B8.QP X o "pop" apos e EN:=by exact⟨rfl,rfl,rfl,rfl⟩):Aa X F (.Call (.Attribute o "pop" apos) [e] [] EN) (R1 m n):=⟨Ae.imp (yG ho.p he.p k) uq⟩
def E2(ma:EK):Fw:=bd ma λws=>match ws with
 |[.int j]=>if-(2^62)<=j/\j<2^62 then pu (Kh 0 j.toNat)else λ_ _=>.bad
 |_=>λ_ _=>.bad
def adv(hm:X.mg "range"=none)(AB:H5 X F [a] ma)(Aj:EJ X "range":=by rfl)(hs:CJ [a] X.env=[(false,Bb a X.env)]:=by rfl):Pc X F C0 (.Call (.Name "range" p) [a] [] pos) (E2 ma):=⟨Hc.imp (aa5 Aj hm AB.p hs) λσ H R q=>
 q.bd λws vs φ ρ h H1 r as q=>by
   split at q
   .rename_i j;obtain⟨v,rfl,a⟩:=as.one;simp only[AQ]at a;subst a
    split at q
    .rename_i Af;exact⟨j,rfl,Af.1,Af.2,q _ φ H1 r (Ag.refl _ _) (kF _ _)⟩
    .exact q.elim
   .exact q.elim⟩
def wQ(ma:EK):Fw:=bd ma λws=>match ws with
 |[.int i,.int j]=>if-(2^62)<=i/\i<2^62/\-(2^62)<=j/\j<2^62 then pu (Kh i (j-i).toNat)else λ_ _=>.bad
 |_=>λ_ _=>.bad
def adw(hm:X.mg "range"=none)(AB:H5 X F [a,b] ma)(Aj:EJ X "range":=by rfl)(hs:CJ [a,b] X.env=[(false,Bb a X.env),(false,Bb b X.env)]:=by rfl)(Gp:CJ [b] X.env=[(false,Bb b X.env)]:=by rfl):Pc X F C0 (.Call (.Name "range" p) [a,b] [] pos) (wQ ma):=⟨Hc.imp (aa6 Aj hm AB.p hs Gp) λσ H R q=>
 q.bd λws vs φ ρ h H1 r as q=>by
   split at q
   .rename_i i j;obtain⟨v,I4,rfl,a,b⟩:=as.two;simp only[AQ]at a b;subst a b
    split at q
    .rename_i Af;exact⟨i,j,rfl,Af,q _ φ H1 r (Ag.refl _ _) (kF _ _)⟩
    .exact q.elim
   .exact q.elim⟩
def RJ(x:Str):HQ:=λi _=>if i=x.cps.size then some none else(x.cps[i]?).map λc=>some (.str ⟨#[c]⟩)
def aeo(m:B9):Fw:=bd m λw=>match w with
 |.str x=>pu (RJ x)
 |_=>λ_ _=>.bad
def ac1{K:Ad}{φ:List A4}{H:A8}(x:Str):Ip K φ H (RJ x) (dL x):=λi CE h2 AS d _=>by
 unfold RJ;by_cases A7:i=x.cps.size
 .rw[if_pos A7];exact⟨λ_=>A7,λw z=>by cases z⟩
 .rw[if_neg A7];cases e:x.cps[i]? with
  |none=>exact⟨(λz=>by cases z),λw z=>by cases z⟩
  |some c=>exact⟨(λz=>by cases z),λw z=>by
     cases z;exact⟨(Array.getElem?_eq_some_iff.mp e).1,λy A6 AN=>by obtain⟨rfl,F7,BC,rfl⟩:=AN;rw[e]at BC;cases BC;exact⟨d,Ag.refl _ _,by simp only[AQ]⟩⟩⟩
def PB(w:W):HQ:=λi h=>match KY h w with
 |some (_,ws)=>if i=ws.length then some none else(ws[i]?).map λx=>some (.tup [.int i,x])
 |none=>none
def PR(ma:EK):Fw:=bd ma λws ρ h=>match ws with
 |[w]=>match KY h w with
  |some _=>.ok (PB w,h)
  |none=>.bad
 |_=>.bad
def oA{K:Ad}{φ:List A4}{h:A5}{H:A8}{q:A4}{ws:List W}{xs:List V}(d:Cr K φ h H)(AT:H q=none)(a:Ac K φ H ws xs):Cr K φ h (upd H q (.tup xs))/\Ag φ H φ (upd H q (.tup xs))/\AQ K φ (upd H q (.tup xs)) (.tup ws) (.ref q):=
 ⟨d.lay AT,Ag.lay AT,by simp only[AQ];exact⟨q,xs,rfl,EX,a.ex (Ag.lay AT)⟩⟩
def rc{φ:List A4}{H:A8}{w:W}{q:A4}(AX:F.K=X.K)(a:AQ F.K φ H w (.ref q)):Ip F.K φ H (PB w) (dJ X.K q):=λi CE h2 AS d x=>by
 unfold PB;cases es:KY h2 w with
 |none=>exact⟨(λz=>by cases z),λw z=>by cases z⟩
 |some RM=>
  obtain⟨n,ws⟩:=RM;obtain⟨Gz,xs,BC,_,_,AU,BE⟩:=PQ d (a.ex x) es;cases BC;have AU:EL X.K AS q xs:=.inl (.inl AU);dsimp only;by_cases A7:i=ws.length
  .rw[if_pos A7];exact⟨λ_=>⟨xs,AU,by rw[<-BE.length,A7]⟩,λw z=>by cases z⟩
  .rw[if_neg A7];cases DD:ws[i]? with
   |none=>exact⟨(λz=>by cases z),λw z=>by cases z⟩
   |some u=>
    obtain⟨v,ev,E_⟩:=BE.get DD;exact⟨(λz=>by cases z),λCD z=>by
     cases z;exact⟨⟨xs,v,AU,ev⟩,λy A6 AN=>by obtain⟨b,Ev,A1,rfl,rfl,g⟩:=AN;have:=g xs AU;rw[ev]at this;cases this;exact oA d A1 (.cons (by simp only[AQ]) (.cons E_ .nil))⟩⟩
def adu{elts:List At}{k:Nat}{S7:Pos}(hm:X.mg "enumerate"=none)(AB:H5 X F [a] ma)(AX:F.K=X.K:=by rfl)(Aj:EJ X "enumerate":=by rfl)(hs:CJ [a] X.env=[(false,Bb a X.env)]:=by rfl):Pc X F (.Tuple elts k S7) (.Call (.Name "enumerate" p) [a] [] pos) (PR ma):=⟨Hc.imp (aa3 Aj hm AB.p hs) λσ H R q=>
 q.bd λws vs φ ρ h H1 r as q=>by
   split at q
   .obtain⟨v,rfl,a⟩:=as.one
    split at q
    .rename_i nw es;obtain⟨n,us⟩:=nw;obtain⟨Cc,xs,rfl,_,_,AU,BE⟩:=PQ r.hd a es;exact⟨Cc,rfl,⟨xs,.inl (.inl AU)⟩,q _ φ H1 r (Ag.refl _ _) (rc AX a)⟩
    .exact q.elim
   .exact q.elim⟩
def Yr(x:Str)(us:List W):HQ:=λi _=>if i=min x.cps.size us.length then some none else match x.cps[i]?,us[i]? with
 |some c,some u=>some (some (.tup [.str ⟨#[c]⟩,u]))
 |_,_=>none
def UT(ma:EK):Fw:=bd ma λws ρ h=>match ws with
 |[.str x,w]=>match E3 h w with
  |some (true,us)=>.ok (Yr x us,h)
  |_=>.bad
 |_=>.bad
def adx{elts:List At}{k:Nat}{S7:Pos}(hm:X.mg "zip"=none)(AB:H5 X F [a,b] ma)(AX:F.K=X.K:=by rfl)(Aj:EJ X "zip":=by rfl)(hs:CJ [a,b] X.env=[(false,Bb a X.env),(false,Bb b X.env)]:=by rfl)(Gp:CJ [b] X.env=[(false,Bb b X.env)]:=by rfl):Pc X F (.Tuple elts k S7) (.Call (.Name "zip" p) [a,b] [] pos) (UT ma):=⟨Hc.imp (aa7 Aj hm AB.p hs Gp) λσ H R q=>
 q.bd λws vs φ ρ h H1 r as q=>by
   split at q
   .rename_i x w;obtain⟨v,I4,rfl,a,b⟩:=as.two;simp only[AQ]at a;subst a
    split at q
    .rename_i us es;obtain⟨Cc,ys,rfl,AU,BE⟩:=ID r.hd b es;have AU:EM F.K H1 Cc ys:=AU;refine⟨x,Cc,rfl,⟨ys,AX▸AU⟩,q _ φ H1 r (Ag.refl _ _) λi CE h2 AS d CZ=>?_⟩;have Zw:EM X.K AS Cc ys:=AX▸EM.ex CZ AU;have SZ:=BE.ex CZ;unfold Yr;by_cases A7:i=min x.cps.size us.length
     .rw[if_pos A7];exact⟨λ_=>⟨ys,Zw,by rw[<-BE.length];exact A7⟩,λw z=>by cases z⟩
     .rw[if_neg A7];cases A9:x.cps[i]? with
      |none=>exact⟨(λz=>by cases z),λw z=>by cases z⟩
      |some c=>
       cases AE:us[i]? with
       |none=>exact⟨(λz=>by cases z),λw z=>by cases z⟩
       |some u=>
        obtain⟨y,D9,GI⟩:=SZ.get AE;exact⟨(λz=>by cases z),λCD z=>by
         cases z;exact⟨⟨(Array.getElem?_eq_some_iff.mp A9).1,ys,y,Zw,D9⟩,λv A6 AN=>by obtain⟨Fx,F7,SC,f1,f2,rfl,rfl,GU⟩:=AN;rw[A9]at f1;cases f1;have:=GU ys Zw;rw[D9]at this;cases this;exact oA d f2 (.cons (by simp only[AQ]) (.cons GI .nil))⟩⟩
    .exact q.elim
   .exact q.elim⟩
end
end CG
namespace CG
open PySem PySem.Spec B8 PyProof.Rows
section
variable{X:Am}{F:D8}{e a b c o:At}{es:List At}{pos p CL apos EN:Pos}{m n l:B9}{ma:EK}{C0 iter:At}{st:BM}
def ae3:H6 X F st (λ_ _=>.bad):=⟨DL.imp zd λBv σ H⟨_,_,_,_,q⟩=>q⟩
def abN{Pf:List BM}:M3 X F Pf (λ_ _=>.bad):=⟨H4.imp zm λBv σ H⟨_,_,_,_,q⟩=>q⟩
def kj:ET:=λx y H Q=>∃q v,x=.ref q/\Ia H q y (some v)/\Q v H
def wP(Av:X.A.units+64<Cq):N0 X kj:=by intro value slice pins s σ H x y v u Q I Aq BS h hs;obtain⟨q,z,rfl,g,h⟩:=h;obtain rfl:v=Ce q:=Aq;exact tail_any (fm I g) PySem.F.slot_dict_getitem.lookup (gb (by lia) I g BS λCD s3 DZ Hl=>⟨z,H,DZ,Hl,h⟩) hs
def AI:GQ:=λx y h=>match Gx h x y with
 |some (some w)=>.ok (w,h)
 |some none=>.bad
 |none=>PK x y h
def z0(AX:F.K=X.K):Hb F (λx y H Q=>kj x y H Q\/bJ X.K x y H Q) AI:=by
 intro σ ρ φ h H x y G7 Gg Q r a1 a2 q;unfold AI at q
 split at q
 .rename_i w e;obtain⟨k,CQ,rfl,g,FH⟩:=Xf r.hd e a1 a2;cases CQ with
  |none=>cases FH
  |some v=>exact .inl ⟨k,v,rfl,g,q v φ H r (Ag.refl _ _) FH⟩
 .exact q.elim
 .exact .inr (yz AX σ ρ φ h H x y G7 Gg Q r a1 a2 q)
def adC(Av:X.A.units+64<Cq)(AB:Aa X F a m)(A1:Aa X F b n)(hs:dR b)(AX:F.K=X.K:=by rfl):Aa X F (.Subscript a b pos) (A0 AI m n):=⟨Ae.imp (yL ((wP Av).or vc) AB.p A1.p hs) (FG (z0 AX))⟩
def bG(k:Bool):ET:=λx y H Q=>∃q CQ,y=.ref q/\Ia H q x CQ/\Q (.AM (if k then CQ.isSome else !CQ.isSome)) H
def Xq(Av:X.A.units+64<Cq):DQ X (Fb .In) (bG true)/\DQ X (Fb .NotIn) (bG false):=by
 refine⟨?_,?_⟩<;>
 .intro pins s σ H x y v u Q I Aq BS h;obtain⟨q,CQ,rfl,g,h⟩:=h;obtain rfl:u=Ce q:=BS
  first
   |exact ro (by lia) I g Aq λs3 DZ=>⟨.AM CQ.isSome,H,DZ,rfl,h⟩
   |exact rp (by lia) I g Aq λs3 DZ=>⟨.AM (!CQ.isSome),H,DZ,rfl,h⟩
def E0(k:Bool):GQ:=λx y h=>match Gx h y x with
 |some o=>.ok (.AM (if k then o.isSome else !o.isSome),h)
 |none=>YF k x y h
def Xl(AX:F.K=X.K)(k:Bool):Hb F (λx y H Q=>bG k x y H Q\/Z6 X.K k x y H Q) (E0 k):=by
 intro σ ρ φ h H x y G7 Gg Q r a1 a2 q;unfold E0 at q
 split at q
 .rename_i o e;obtain⟨d,CQ,rfl,g,FH⟩:=Xf r.hd e a2 a1;rw[FH.is]at q;exact .inl ⟨d,CQ,rfl,g,q _ φ H r (Ag.refl _ _) (Mv _)⟩
 .exact .inr (yy AX k σ ρ φ h H x y G7 Gg Q r a1 a2 q)
def ad9(Av:X.A.units+64<Cq)(AB:Aa X F a m)(A1:Aa X F b n)(AX:F.K=X.K:=by rfl)(hm:Lg .In b=false:=by with_unfolding_all rfl):Aa X F (.Compare a [.In] [b] pos) (A0 (E0 true) m n):=⟨Ae.imp (Kz ((Xq Av).1.or (YE Av).1) AB.p A1.p hm) (FG (Xl AX true))⟩
def adY(Av:X.A.units+64<Cq)(AB:Aa X F a m)(A1:Aa X F b n)(AX:F.K=X.K:=by rfl)(hm:Lg .In b=false:=by with_unfolding_all rfl):Fg X F (.Compare a [.In] [b] pos) (A_ (A0 (E0 true) m n)):=⟨E8.imp (L1 ((Xq Av).1.or (YE Av).1) AB.p A1.p hm) λσ H Q q=>FG (Xl AX true) σ H _ (J_ σ H Q q)⟩
def ac_(Av:X.A.units+64<Cq)(AB:Aa X F a m)(A1:Aa X F b n)(AX:F.K=X.K:=by rfl)(hm:Lg .NotIn b=false:=by with_unfolding_all rfl):Aa X F (.Compare a [.NotIn] [b] pos) (A0 (E0 false) m n):=⟨Ae.imp (Kz ((Xq Av).2.or (YE Av).2) AB.p A1.p hm) (FG (Xl AX false))⟩
def adf(Av:X.A.units+64<Cq)(AB:Aa X F a m)(A1:Aa X F b n)(AX:F.K=X.K:=by rfl)(hm:Lg .NotIn b=false:=by with_unfolding_all rfl):Fg X F (.Compare a [.NotIn] [b] pos) (A_ (A0 (E0 false) m n)):=⟨E8.imp (L1 ((Xq Av).2.or (YE Av).2) AB.p A1.p hm) λσ H Q q=>FG (Xl AX false) σ H _ (J_ σ H Q q)⟩
def uc(K:Ad)(IH:TE):TI:=λσ H R=>IH σ H λx H1=>(∃q,x=.ref q/\(∃xs,EL K H1 q xs)/\R (dK K q) H1)\/(∃q,x=.ref q/\(∃xs,EM K H1 q xs)/\R (dM K q) H1)\/∃z,x=.str z/\R (dL z) H1
def aa2{e:At}{IH:TE}(AF:Ae X e IH):Hc X C0 e (uc X.K IH):=by
 intro pins s σ H R I h;refine BG (AF pins s σ H _ I h) λv s1⟨x,H1,Ab,Ak,q1⟩=>?_;rcases q1 with⟨q,rfl,⟨xs,AU⟩,k⟩|⟨q,rfl,⟨xs,AU⟩,k⟩|⟨z,rfl,k⟩
 .cases Ak;obtain⟨its,Bx,pl,hz⟩:=Ab.list AU;refine cA pl.isList ?_;refine⟨s1.heap.objs.size,[s1.heap.objs.size],_,_,H1,rfl,Ab.kept (t':=s1.toks) λb o e=>Cz _ e,abP q _,⟨_,Fc _ rfl,rfl,rfl⟩,λb A1=>?_,k⟩;have e:b=s1.heap.objs.size:=by simpa using A1
  subst e;exact Ab.Nm (C1 _) (Ab.Ax.fresh (C1 _))
 .cases Ak;obtain⟨its,Bx,pl,hz⟩:=Ab.tuple AU;refine wpAny_pyIter_tuple (show s1.heap.IsTuple q its.toArray from pl) ?_;refine⟨s1.heap.objs.size,[s1.heap.objs.size],_,_,H1,rfl,Ab.kept (t':=s1.toks) λb o e=>Cz _ e,abS q _,⟨_,Fc _ rfl,rfl,rfl⟩,λb A1=>?_,k⟩;have e:b=s1.heap.objs.size:=by simpa using A1
  subst e;exact Ab.Nm (C1 _) (Ab.Ax.fresh (C1 _))
 .obtain⟨t,rfl⟩:=Ak;refine wpAny_pyIter_strU ?_;refine⟨s1.heap.objs.size,[s1.heap.objs.size],_,_,H1,rfl,Ab.kept (t':=s1.toks) λb o e=>Cz _ e,abR _ z t,⟨_,Fc _ rfl,rfl,rfl⟩,λb A1=>?_,k⟩;have e:b=s1.heap.objs.size:=by simpa using A1
  subst e;exact Ab.Nm (C1 _) (Ab.Ax.fresh (C1 _))
def Dc(m:B9):Fw:=bd m λw ρ h=>match w with
 |.str x=>.ok (RJ x,h)
 |w=>match E3 h w with
  |some _=>.ok (G4 w,h)
  |none=>.bad
def adt(h:Aa X F e m)(AX:F.K=X.K:=by rfl):Pc X F C0 e (Dc m):=⟨Hc.imp (aa2 h.p) λσ H R q=>
 q.bd λw v φ ρ h H1 r a q=>by
   split at q
   .rename_i x;simp only[AQ]at a;exact .inr (.inr ⟨x,a,q _ φ H1 r (Ag.refl _ _) (ac1 x)⟩)
   .split at q
    .rename_i RM es;obtain⟨t,ws⟩:=RM;obtain⟨Cc,xs,rfl,AU,BE⟩:=ID r.hd a es;cases t with
     |false=>have hw:=(ZE es).mp rfl;exact .inl ⟨Cc,rfl,⟨xs,AX▸AU⟩,q _ φ H1 r (Ag.refl _ _) (wu AX a rfl λCE h2 AS _ _ t ws e=>(ZE e).mpr hw)⟩
     |true=>
      refine .inr (.inl ⟨Cc,rfl,⟨xs,AX▸AU⟩,q _ φ H1 r (Ag.refl _ _) (Zm AX a rfl λh2 t ws' AE=>?_)⟩);cases t with
      |true=>rfl
      |false=>have hw:=(ZE AE).mp rfl;exact(ZE es).mpr hw|>.symm
    .exact q.elim⟩
theorem nT:∀{bs:List Bool}{us:List A3},Vals (bs.map V.AM) us->us=bs.map Q8
 |[],_,r=>by cases r;rfl
 |b::bs,_,r=>by
  cases r with
  |cons Ak B6=>cases Ak;rw[nT B6];rfl
def qP(AD:X.calm=true)(Ql:X.A.handled=none):IZ X (.builtin "all") (λxs H Q=>∃(p:A4)(bs:List Bool),xs=[.ref p]/\EL X.K H p (bs.map V.AM)/\Q (.AM (bs.all id)) H):=by
 intro pins s σ H xs us Q I r h;obtain⟨p,bs,rfl,AU,q⟩:=h;obtain⟨u,rfl,FZ⟩:=vals1 r;cases FZ;obtain⟨its,Bx,pl,hz⟩:=I.list AU;have LC:=nT Bx;refine call_all_walk (cA pl.isList ?_);have IQ:p≠s.heap.objs.size:=by obtain⟨o,ho,_⟩:=pl.isList;exact Ef (D3 ho)
 refine⟨s.heap.objs.size,_,_,_,_,_,λi=>(bs[i]?).getD true,rfl,Walks.list (prog:=X.prog) (w:=X.w) (A:=X.A.in1) Ql s.heap.objs.size p IQ its.toArray,⟨⟨_,Fc _ rfl,rfl,rfl⟩,pl.isList.push _⟩,?_,λh' By FW=>?_⟩
 .intro i v s' Hv af0 DM e9;rw[LC]at DM;have DM:(bs.map Q8)[i]?=some v:=by simpa using DM
  rw[Em]at DM;cases Au:bs[i]? with
  |none=>rw[Au]at DM;cases DM
  |some b=>rw[Au]at DM;have ev:Q8 b=v:=Fd DM;subst ev;dsimp only at e9;rw[Au]at e9;exact Ko e9
 .have Rl:(Cd its.toArray.size).all (λi=>(bs[i]?).getD true)=bs.all id:=by
    have AF:its.toArray.size=bs.length:=by rw[LC];simp
    rw[AF,bu,bx,bx];constructor
    .intro hh x AG;obtain⟨i,A7,rfl⟩:=List.mem_iff_getElem.mp AG;have:=hh i (List.mem_range.mpr A7);rw[CF A7]at this;exact this
    .intro hh i A7;have A7:=List.mem_range.mp A7;rw[CF A7];exact hh _ (Lh A7)
  rw[Rl];exact⟨.AM _,H,I.kept (t':=By) λb o AE=>FW b o (by
   intro z;have z:b=s.heap.objs.size:=by simpa using z
   exact absurd (D3 AE) (by rw[z];exact Iw _)) (Cz _ AE),rfl,q⟩
def acq{k:Nat}(Ao:Cu k X.A)(hm:X.mg "all"=none)(AB:H5 X F [e] ma)(AD:X.calm=true:=by rfl)(AX:F.K=X.K:=by rfl)(Aj:EJ X "all":=by rfl)(s:M2 X e [] pos:=by exact{}):Aa X F (.Call (.Name "all" p) [e] [] pos) (B0 (Jm true) ma):=⟨Ae.imp (VD (qP AD Ao.hd) Aj hm (by kernel_rfl) AB.p (by decide) (by decide) s.he s.GL) (PI (z5 AX true))⟩
end
end CG
namespace B8
open PySem PySem.Spec PyProof.Rows
section
variable{X:Am}{a e:At}{Be:FM}{pos p pos' Gz:Pos}
theorem nV:∀{xs:List V}{us:List A3},xs.length=us.length->(∀(i:Nat) x y,xs[i]?=some x->us[i]?=some y->RelV x y)->Vals xs us
 |[],[],_,_=>.nil
 |[],_::_,h,_=>by simp at h
 |_::_,[],h,_=>by simp at h
 |x::xs,u::us,h,f=>.cons (f 0 x u (by simp) (by simp)) (nV (by simpa using h) λi a b A9 AE=>f (i+1) a b (by simpa using A9) (by simpa using AE))
def wj{pins:List (A4×Obj)}{σ :St}{H1:A8}{s2:AJ}{Q:CA}{r:A4}{j:Int}{t u v:Tok}(BU:Inv X pins σ H1 s2)(AD:X.calm=true)(Ao:IsRange s2.heap r 0 j 1 t u v)(q1: -(2^62)<=j)(q2:j<=1000000)(q:∀l,H1 l=none->Q (.ref l) (upd H1 l (.lst ((Cd j.toNat).map λi=>.int (i:Nat))))):AV (Al X.prog X.w) X.A (call (.type "list") [.ref r]) (Gs X pins σ Q) X.Ck s2:=by
 have AW:oy 0 j 1=(j.toNat:Nat):=by rw[rangeSize_one];split<;>lia
 refine call_list_range (BU.ok.hd AD) Ao (small_one (by lia) (by lia) (by lia) (by lia)) AW (by lia) λh' By WL F7 Bd e it=>?_;obtain⟨acc,rfl⟩:∃l:List A3,WL=l.toArray:=⟨WL.toList,by simp⟩;have BB:Vals ((Cd j.toNat).map λi=>V.int ((i:Nat):Int)) acc:=by
  have AF:acc.length=j.toNat:=by simpa using it.1
  refine nV ?_ ?_
  .simp[AF]
  .intro i x y A9 AE;rw[Em]at A9;have A7:i<j.toNat:=by rw[<-AF];exact(List.getElem?_eq_some_iff.mp AE).1
   rw[Pw A7]at A9;cases A9;obtain⟨tt,rfl⟩:=it.2 i y (by simpa using AE);exact⟨tt,by simp⟩
 exact⟨.ref _,_,BU.laid (t':=By) Bd (C1 _) (show Ds X.prog X.w X.K _ h' _ (.lst _)from⟨I8 (m:=1000000) (by simp;lia) (by decide),acc,F7,BB,e⟩),rfl,q _ (BU.Ax.fresh (C1 _))⟩
def kn:List V->A8->CA->Prop:=λvs H1 Q=>∃j:Int,vs=[.int j]/\-(2^62)<=j/\j<=1000000/\∀l,H1 l=none->Q (.ref l) (upd H1 l (.lst ((Cd j.toNat).map λi=>.int (i:Nat))))
def yM(Aj:EJ X "list")(hm:X.mg "list"=none)(Um:EJ X "range")(ME:X.mg "range"=none)(AD:X.calm=true)(AB:Gv X [a] Be)(hs:CJ [a] X.env=[(false,Bb a X.env)]:=by rfl)(Gp:CJ [.Call (.Name "range" Gz) [a] [] pos'] X.env=[(false,Bb (.Call (.Name "range" Gz) [a] [] pos') X.env)]:=by rfl) :
  Ae X (.Call (.Name "list" p) [.Call (.Name "range" Gz) [a] [] pos'] [] pos) (VK kn Be):=by
 intro pins s σ H Q I h;refine T4 (Nx (u:=.type "list") I Aj hm (by kernel_rfl) ?_);refine Pp ?_ Gp rfl;rw[Gp];refine TC ?_;refine Call_ (Nx I Um ME boot_range (Pp (BG (AB pos' pins s σ H _ I h) λus s1⟨vs,H1,Ab,Ak,q1⟩=>?_) hs rfl));obtain⟨j,e,q1,q2,q⟩:=q1;subst e;cases Ak with
 |cons r LV=>cases LV;obtain⟨t,rfl⟩:=r;refine call_range_1 (T7 ?_);exact wj (Ab.kept λb o e=>Cz _ e) AD (IsRange.new ..) q1 q2 q
theorem jk:∀{ks:List Int}{us:List A3},Vals (ks.map V.int) us->us.map numOf=ks/\∀v∈us,∃k t,v=.int k t
 |[],us,r=>by cases r;exact⟨rfl,λv BB=>by simp at BB⟩
 |k::ks,us,r=>by
  rw[DB]at r;cases r with
  |cons a b=>
   obtain⟨t,rfl⟩:=a;obtain⟨e,g⟩:=jk b;refine⟨by rw[DB,e];rfl,λv BB=>?_⟩;rcases List.mem_cons.mp BB with rfl|BB
   .exact⟨k,t,rfl⟩
   .exact g v BB
theorem ZW:∀{vs:List A3},(∀v∈vs,∃k t,v=.int k t)->Vals ((vs.map numOf).map V.int) vs
 |[],_=>.nil
 |v::vs,h=>by obtain⟨k,t,rfl⟩:=h v (by simp);exact .cons ⟨t,rfl⟩ (ZW λu Av=>h u (by simp[Av]))
theorem jJ{P:Bh}{w:BP}:∀{es:List MT}{vs:List (Key×A3)}{AA:List (Key×V)}{ks:List Int},Pairs (Fi P w) es vs->Fe AA vs->AA.map (·.1)=ks.map K5->(es.map (·.key)).map numOf=ks/\∀v∈es.map (·.key),∃k t,v=.int k t
 |_,_,_,ks,.nil,.nil,e=>by
  cases ks with
  |nil=>exact⟨rfl,λ_ h=>nomatch h⟩
  |cons _ _=>cases e
 |_,_,_,ks,.cons a _ p,.cons b r,e=>by
  cases ks with
  |nil=>cases e
  |cons k ks=>
   simp only[DB,Vt]at e;obtain⟨A9,AE⟩:=e;obtain⟨B1,BW⟩:=jJ p r AE;rw[iP,<-b.1,A9]at a;rcases KW a with⟨i,t,z,KN⟩|⟨x,t,z,KN⟩
   .cases z;refine⟨by rw[DB,DB,B1,KN];rfl,λv BB=>?_⟩;rcases List.mem_cons.mp BB with rfl|BB
    .exact⟨k,t,KN⟩
    .exact BW v BB
   .cases z
noncomputable def jy(K:Ad):List V->A8->CA->Prop:=λxs H Q=>∃p ks,xs=[.ref p]/\(EL K H p (ks.map V.int)\/∃AA,J3 H p (.B3 AA)/\AA.map (·.1)=ks.map K5)/\ks.length<64/\
 ∀l,H l=none->Q (.ref l) (upd H l (.lst ((LT.IE ks).map V.int)))
def qX(AD:X.calm=true):IZ X (.builtin "sorted") (jy X.K):=by
 intro pins s σ H xs us Q I r h;obtain⟨p,ks,rfl,AU,AW,q⟩:=h;obtain⟨u,rfl,Aq⟩:=vals1 r;cases Aq;have aen:(LT.IE ks).length=ks.length:=(Px _ _).length_eq;rcases AU with AU|⟨AA,AU,D1⟩
 .obtain⟨its,BK,pl,hz⟩:=I.list AU;have hlen:=BK.length;rw[DV]at hlen;obtain⟨Az,e6⟩:=jk BK;refine sorted_ints pl.isList (intsAre_map its e6) (by lia) λout ns' a1 a2 Bi=>?_;obtain⟨Dd,Cn,Xi⟩:=LT.mS a1 a2 Bi;rw[Az]at Xi;have V6:=ZW Cn;rw[Xi]at V6;obtain⟨Ai,he⟩:=sortedAll_at s.heap its out;exact⟨.ref (s.heap.objs.size+1),_,I.laid (a:=s.heap.objs.size+1) (t':=s.toks) (λb o e=>sortedAll_old e) (Q5 _) (show Ds X.prog X.w X.K _ _ _ (.lst ((LT.IE ks).map V.int))from⟨by rw[DV,Li];lia,out.toList,Ai,V6,by simpa using he⟩),rfl,q _ (I.Ax.fresh (Q5 _))⟩
 .obtain⟨z,hd,vs,rel,o,es,Ai,g1,g2,g3,g4,Mb,hM⟩:=NB I.Ax AU;obtain⟨Az,e6⟩:=jJ Mb rel D1;have AF:=congrArg RZ Az;rw[DV]at AF;refine LT.abn (I.ok.hd AD) hd ⟨o,g1,g2,g3⟩ rfl (by lia) e6 λvs l h' By e lv GX ev AT Bd gl=>?_;rw[Az]at ev;have V6:=ZW GX;rw[ev]at V6;exact⟨.ref l,_,I.laid (a:=l) (t':=By) Bd AT (show Ds X.prog X.w X.K _ _ _ (.lst ((LT.IE ks).map V.int))from⟨by rw[DV,Li];lia,vs,e,V6,gl⟩),rfl,q l (I.Ax.fresh AT)⟩
end
end B8
namespace CG
open PySem PySem.Spec B8
def Cy{N P:List Str}{sc:Ey}(a:sc.kind=.function:=by rfl)(b:sc.isCoroutine=false:=by rfl)(c:sc.isGenerator=false:=by rfl)(d:N.Nodup:=by decide+kernel)(e:N.take P.length=P:=by rfl)(f:∀x∈P,sc.names.lookup x=some .local\/sc.names.lookup x=some .cell:=by decide+kernel)(g:∀y∈sc.names,y.2≠.free:=by decide+kernel):CH N P sc:=⟨a,b,c,d,e,f,g⟩
section
variable{X:Am}{F:D8}{e a b o:At}{es:List At}{pos p CL:Pos}{m n:B9}{ma:EK}{C0:At}{g:DC}
def YD:R (En×A5)->R (En×A5)
 |.ok (.AP ρ,h)=>.ok (.AP ρ,h)
 |.ok _=>.bad
 |.exc c h=>.exc c h
 |.bad=>.bad
def xt{φ:List A4}{H:A8}{Bv:Ends}:∀{r:R (En×A5)},EC F φ H Bv (YD r)->EC F φ H ⟨Bv.AP,λ_ _=>False,λ_ _=>False,λ_ _=>False⟩ r
 |.ok (.AP _,_),k=>k
 |.ok (.Do _,_),k|.ok (.BF _,_),k|.ok (.Cv _,_),k=>k.elim
 |.exc _ _,k=>k
 |.bad,k=>k
def Mn(m:B9)(g:DC):An:=bd m λw ρ h=>YD (g w ρ h)
def ae2(BB:Aa X F e m)(Aj:QX X F C0 g)(h1:swapsWithSole [C0] e pos.line X.env=pure false:=by rfl)(h2:swappedStores [C0] e X.env=pure none:=by rfl)(B2:(Kt [C0] X.env).map (·.2)=[K6 C0 X.env]:=by rfl):H6 X F (.Assign [C0] e pos) (Mn m g):=⟨DL.imp (kR BB.p Aj.p h1 h2 B2) λBv σ H q=>
 q.bd λw x φ ρ h H1 r a q=>⟨φ,ρ,h,w,r,a,xt q⟩⟩
def HL(ks:List Int):List W:=ks.map W.int
theorem ZV{K:Ad}{φ:List A4}{H:A8}:∀ks:List Int,Ac K φ H (HL ks) (ks.map V.int)
 |[]=>.nil
 |_::ks=>.cons (by simp only[AQ]) (ZV ks)
def Ny:K9:=λws h=>match ws with
 |[.int j]=>if-(2^62)<=j/\j<=1000000 then nw .lst (HL ((Cd j.toNat).map λi:Nat=>(i:Int))) h else .bad
 |_=>.bad
def z3:NT F kn Ny:=by
 intro σ ρ φ h H xs ws Q r as q;unfold Ny at q
 split at q
 .rename_i j;obtain⟨v,rfl,a⟩:=as.one;simp only[AQ]at a;subst a
  split at q
  .rename_i Af;refine⟨j,rfl,Af.1,Af.2,λl AF=>O6 r q AF EX ?_⟩;have:=ZV (K:=F.K) (φ:=φ) (H:=H) ((Cd j.toNat).map λi:Nat=>(i:Int));rw[List.map_map]at this;exact this
  .exact q.elim
 .exact q.elim
def acO(hm:X.mg "list"=none)(ME:X.mg "range"=none)(AB:H5 X F [a] ma)(AD:X.calm=true:=by rfl)(Aj:EJ X "list":=by rfl)(Um:EJ X "range":=by rfl){Gz pos':Pos}(hs:CJ [a] X.env=[(false,Bb a X.env)]:=by rfl)(Gp:CJ [.Call (.Name "range" Gz) [a] [] pos'] X.env=[(false,Bb (.Call (.Name "range" Gz) [a] [] pos') X.env)]:=by rfl) :
  Aa X F (.Call (.Name "list" p) [.Call (.Name "range" Gz) [a] [] pos'] [] pos) (B0 Ny ma):=⟨Ae.imp (yM Aj hm Um ME AD AB.p hs Gp) (PI z3)⟩
def intsOf:List W->Option (List Int)
 |[]=>some []
 |.int i::ws=>(intsOf ws).map (i::·)
 |_=>none
theorem iQ{K:Ad}{φ:List A4}{H:A8}:∀{ws:List W}{ks:List Int}{xs:List V},intsOf ws=some ks->Ac K φ H ws xs->xs=ks.map V.int
 |[],ks,xs,e,a=>by simp only[intsOf]at e;cases e;simp only[Ac]at a;exact a
 |w::ws,ks,xs,e,a=>by
  cases w<;>simp only[intsOf]at e<;>first|(cases e;done)|skip
  simp only[Ac,AQ]at a;obtain⟨v,r,rfl,rfl,t⟩:=a;cases BC:intsOf ws with
  |none=>rw[BC]at e;cases e
  |some QK=>rw[BC]at e;cases e;rw[iQ BC t];rfl
def PN:List Key->Option (List Int)
 |[]=>some []
 |.inl i::ks=>(PN ks).map (i::·)
 |_=>none
theorem ik:∀{ks:List Key}{QK:List Int},PN ks=some QK->ks=QK.map K5
 |[],QK,e=>by simp only[PN]at e;cases e;rfl
 |k::ks,QK,e=>by
  cases k<;>simp only[PN]at e<;>first|(cases e;done)|skip
  cases BC:PN ks with
  |none=>rw[BC]at e;cases e
  |some QK=>rw[BC]at e;cases e;rw[ik BC];rfl
def YC(h:A5)(w:W):Option (List Int):=match w with
 |.ref n=>match h[n]? with
  |some ⟨.B3 ks,_⟩=>PN ks
  |_=>(E3 h w).bind λp=>if p.1=false then intsOf p.2 else none
 |_=>none
def LW:K9:=λws h=>match ws with
 |[w]=>match YC h w with
  |some ks=>if ks.length<64 then nw .lst (HL (LT.IE ks)) h else .bad
  |none=>.bad
 |_=>.bad
def xr{K:Ad}{φ:List A4}{h:A5}{H:A8}{w:W}{v:V}{ks:List Int}(d:Cr K φ h H)(a:AQ K φ H w v)(e:YC h w=some ks):∃p,v=.ref p/\(EL K H p (ks.map V.int)\/∃AA,J3 H p (.B3 AA)/\AA.map (·.1)=ks.map K5):=by
 unfold YC at e
 split at e
 .split at e
  .rename_i QK ws Az;obtain⟨q,xs,rfl,_,⟨AA,AB,A9,AE⟩,BE⟩:=d.at Az a;exact⟨q,rfl,.inr ⟨AA,.inl AB,A9.trans (ik e)⟩⟩
  .cases es:E3 h (.ref _)with
   |none=>rw[es]at e;cases e
   |some p=>
    obtain⟨t,us⟩:=p;rw[es]at e;obtain⟨q,xs,rfl,AU,BE⟩:=ID d a es;cases t with
    |true=>cases e
    |false=>have e:intsOf us=some ks:=e;rw[iQ e BE]at AU;exact⟨q,rfl,.inl AU⟩
 .cases e
def z6(AX:F.K=X.K):NT F (jy X.K) LW:=by
 intro σ ρ φ h H xs ws Q r as q;unfold LW at q
 split at q
 .obtain⟨v,rfl,a⟩:=as.one
  split at q
  .rename_i ks e;obtain⟨p,rfl,AT⟩:=xr r.hd a e;rw[AX]at AT
   split at q
   .rename_i AF;exact⟨p,ks,rfl,AT,AF,λl AF=>O6 r q AF EX (ZV _)⟩
   .exact q.elim
  .exact q.elim
 .exact q.elim
def acm(hm:X.mg "sorted"=none)(AB:H5 X F [e] ma)(AD:X.calm=true:=by rfl)(AX:F.K=X.K:=by rfl)(Aj:EJ X "sorted":=by rfl)(s:M2 X e [] pos:=by exact{}):Aa X F (.Call (.Name "sorted" p) [e] [] pos) (B0 LW ma):=⟨Ae.imp (VD (qX AD) Aj hm (by kernel_rfl) AB.p (by decide) (by decide) s.he s.GL) (PI (z6 AX))⟩
end
end CG
namespace B8
open PySem PySem.Spec PyProof.Rows
section
variable{X:Am}{st:BM}{t:F6}
theorem DL.HB(h:DL X.HB st t):DL X st t:=λpins s σ H D I hw=>
 I9 (h pins s σ H D (I.KO _) hw) (λ_ _ q=>q.Lu) λ_ _ z=>Hq z
end
section
variable{X:Am}{pins:List (A4×Obj)}{σ :St}{H:A8}{s:AJ}{r:A4}
def Inv.swap(I:Inv X pins σ H s){o o':El}(e:H r=some o)(ok:Ds X.prog X.w X.K (upd H r o') s.heap r o')(CP:∀xs,o≠.tup xs)(Cw:∀x,o≠.own x)(LQ:∀ps,o≠.OP ps)(O4:∀Bc u,X.M0 r≠some (.EF Bc u)):Inv X pins σ (upd H r o') s:=by
 have ne:∀{b:A4},H b=none->b≠r:=λz q=>by subst q;rw[e]at z;cases z
 have Bd:∀{b:A4}{u:El},H b=some u->u≠o->upd H r o' b=some u:=λ{b u} z q=>by
  by_cases A1:b=r
  .subst A1;rw[e]at z;cases z;exact absurd rfl q
  .rw[D2 A1];exact z
 refine⟨I.ok,I.os,I.bare,⟨I.base.keep,I.base.slot,λb Bc h1 h2 B2=>?_,I.base.there,λb xs q=>Bd (I.base.Kk b xs q) λz=>CP xs z.symm,λb Bc u q=>?_,λb ps q=>?_⟩,I.loc,I.cell,?_,λx c q=>?_,λp AT=>?_,λa u q=>?_,I.len⟩
 .have:=I.base.free b Bc h1 h2 B2;rw[D2 (ne this)];exact this
 .by_cases A1:b=r
  .subst A1;exact absurd q (O4 Bc u)
  .rw[D2 A1];exact I.base.JE b Bc u q
 .obtain⟨more,q⟩:=I.base.Kj b ps q;exact⟨more,Bd q λz=>LQ _ z.symm⟩
 .rw[D2 (ne I.free)];exact I.free
 .rw[D2 (ne (I.LD x c q))];exact I.LD x c q
 .obtain⟨h1,h2,B2⟩:=I.pin p AT;exact⟨h1,by rw[D2 (ne h2)];exact h2,B2⟩
 .by_cases AB:a=r
  .subst AB;rw[EX]at q;cases q;exact ok
  .rw[D2 AB]at q;exact(I.Ax a u q).Mx (λ_ _ _ z=>z) (λb z=>Bd z λy=>Cw _ y.symm) λb xs z=>Bd z λy=>CP _ y.symm
end
def Wc(a:A4)(o:Obj)(AA:List (Key×V)):It:=
 ⟨λi H=>H a=some (.EF o (.B3 AA))/\i<AA.length,λi H x A6=>A6=H/\∃Ch,AA[i]?=some Ch/\x=CU Ch.1,λi H=>H a=some (.EF o (.B3 AA))/\i=AA.length⟩
theorem jK{P:Bh}{w:BP}:∀{es:List MT}{vs:List (Key×A3)}{AA:List (Key×V)},Pairs (Fi P w) es vs->Fe AA vs->es.length=AA.length/\∀(i:Nat) e,es[i]?=some e->∃Ch,AA[i]?=some Ch/\RelV (CU Ch.1) e.key
 |_,_,_,.nil,.nil=>⟨rfl,λi e h=>by simp at h⟩
 |_,_,Ch::_,.cons a _ p,.cons b r=>by
  obtain⟨l,g⟩:=jK p r;refine⟨by simp[l],λi e h=>?_⟩;cases i with
  |zero=>
   simp at h;subst h;refine⟨Ch,rfl,?_⟩;rw[iP,<-b.1]at a;rcases KW a with⟨j,t,A9,AE⟩|⟨x,t,A9,AE⟩
   .rw[A9,AE];exact⟨t,rfl⟩
   .rw[A9,AE];exact⟨t,rfl⟩
  |succ i=>obtain⟨iE,h1,h2⟩:=g i e (by simpa using h);exact⟨iE,by simpa using h1,h2⟩
def abO{P:Bh}{w:BP}{K:Ad}{C0:At}{a it:A4}{o:Obj}{AA:List (Key×V)}{es:Array MT}{Ai:Nat}(IQ:a≠it)(AG:o.ExactDict)(hd:o.data=.dict es Ai)(AF:es.size=AA.length)(AK:∀(i:Nat) e,es.toList[i]?=some e->∃Ch,AA[i]?=some Ch/\RelV (CU Ch.1) e.key) :
  Turn P w K C0 (Wc a o AA) [it] it (λi h=>h.IsKeyIter it a i es.size Ai) where
 mem:=by simp
 obj:=λi h st b A1=>by
  have e:b=it:=by simpa using A1
  subst e;obtain⟨o,e,c,d⟩:=st;exact⟨o,e,λv z=>by rw[d]at z;cases z⟩
 keep:=λi h h' st k=>st.at λo e=>k it (by simp) o e
 item:=by
  intro X DM hw AX AD i pins s σ H E I hf st Aj;subst DM hw AX;obtain⟨AU,A7⟩:=Aj;have ho:s.heap.get? a=some o:=(show Ds X.prog X.w X.K H s.heap a (.EF o (.B3 AA))from I.Ax a _ AU).1;obtain⟨f0,f1,f2,F8,f4,GU⟩:=hf it (by simp);have h6:i<es.size:=by lia
  refine LT.k7 st ⟨o,ho,AG,hd⟩ h6 λh' Jp GB=>?_;have Ab:Inv X pins σ H { s with heap:=h' }:=I.turned (t':=s.toks) (λb o A1 e=>(GB.2 b A1).trans e) f0 f1 F8 f4 GU;obtain⟨Ch,A9,AE⟩:=AK i es[i] (by simp[h6]);obtain⟨o',e,c,d⟩:=id Jp;exact⟨_,rfl,Ts (s:={ s with heap:=h' }) e c d (by decide) ⟨CU Ch.1,H,Ab,AE,⟨rfl,Ch,A9,rfl⟩,Jp,λb A1=>(hf b A1).1⟩⟩
 done:=by intro X DM hw AX AD i pins s σ H E I hf st Aj;subst DM hw AX;obtain⟨AU,A7⟩:=Aj;have ho:s.heap.get? a=some o:=(show Ds X.prog X.w X.K H s.heap a (.EF o (.B3 AA))from I.Ax a _ AU).1;obtain⟨f0,f1,f2,F8,f4,GU⟩:=hf it (by simp);rw[A7,<-AF]at st;exact LT.k6 (I.ok.hd AD) st ⟨o,ho,AG,hd⟩ λh' Au=>⟨rfl,I.turned (t':=s.toks) (λb o A1 e=>Au b o A1 e) f0 f1 F8 f4 GU⟩
 self:=λ_ _ _ _ _ st h=>wpAny_pyIter_keyiter st h
section
variable{X:Am}{C0:At}
def gg(X:Am)(IH:TE):TI:=λσ H R=>IH σ H λx H1=>∃a AA,x=.ref a/\H1 a=some (.B3 AA)/\∀o,(∀Bc u,X.M0 a≠some (.EF Bc u))->R (Wc a o AA) (upd H1 a (.EF o (.B3 AA)))
def aa4{e:At}{IH:TE}(AF:Ae X e IH):Hc X C0 e (gg X IH):=by
 intro pins s σ H R I h;refine BG (AF pins s σ H _ I h) λv s1⟨x,H1,Ab,Ak,q1⟩=>?_;obtain⟨a,AA,rfl,AB,k⟩:=q1;cases Ak;obtain⟨z,hd,vs,rel,dd⟩:=S3 Ab.Ax AB;obtain⟨o,es,Ai,g1,g2,g3,g4,Mb,hM⟩:=id dd;obtain⟨l,g⟩:=jK Mb rel;have hz:es.size=AA.length:=by rw[<-l];simp
 have O4:∀Bc u,X.M0 a≠some (.EF Bc u):=λBc u q=>by have:=Ab.base.JE a Bc u q;rw[AB]at this;cases this
 refine LT.k8 hd ⟨o,g1,g2,g3⟩ ?_;have IQ:a≠s1.heap.objs.size:=Ef (D3 g1);have BU:=Ab.swap (o':=.EF o (.B3 AA)) AB ⟨g1,z,hd,vs,rel,dd⟩ (λ_ q=>nomatch q) (λ_ q=>nomatch q) (λ_ q=>nomatch q) O4;refine⟨s1.heap.objs.size,[s1.heap.objs.size],_,_,_,rfl,BU.kept (t':=s1.toks) λb o e=>Cz _ e,abO IQ g2 g3 hz g,⟨_,Fc _ rfl,rfl,rfl⟩,λb A1=>?_,k o O4⟩;have e:b=s1.heap.objs.size:=by simpa using A1
 subst e;exact BU.Nm (C1 _) (BU.Ax.fresh (C1 _))
def dX(X:Am)(Q:A8->Prop)(H:A8):Prop:=∃r o AA,(∀Bc u,X.M0 r≠some (.EF Bc u))/\H r=some (.EF o (.B3 AA))/\Q (upd H r (.B3 AA))
def Ends.IG(X:Am)(D:Ends):Ends:=⟨λσ =>dX X (D.AP σ),λv=>dX X (D.Do v),λ_ _=>False,λ_ _=>False⟩
def nG{pins:List (A4×Obj)}{σ :St}{H:A8}{s:AJ}{Q:A8->Prop}(I:Inv X pins σ H s)(q:dX X Q H):∃A6,Inv X pins σ A6 s/\Q A6:=by obtain⟨r,o,AA,O4,e,q⟩:=q;exact⟨_,I.swap (o':=.B3 AA) e (show Ds X.prog X.w X.K (upd H r (.B3 AA)) s.heap r (.B3 AA)from(show Ds X.prog X.w X.K H s.heap r (.EF o (.B3 AA))from I.Ax r _ e).2) (λ_ q=>nomatch q) (λ_ q=>nomatch q) (λ_ q=>nomatch q) O4,q⟩
def zj{st:BM}{t:F6}(h:DL X st t):DL X st (λD σ H=>t (D.IG X) σ H):=λpins s σ H D I hw=>
 BG (h pins s σ H _ I hw) λf s' q=>by
  cases f with
  |next=>obtain⟨σ',A6,D0,q⟩:=q;obtain⟨AS,BU,q2⟩:=nG D0 q;exact⟨σ',AS,BU,q2⟩
  |brk=>obtain⟨σ',A6,D0,q⟩:=q;cases q
  |cont=>obtain⟨σ',A6,D0,q⟩:=q;cases q
  |ret u=>obtain⟨v,σ',A6,D0,r,q⟩:=q;obtain⟨AS,BU,q2⟩:=nG D0 q;exact⟨v,σ',AS,BU,r,q2⟩
end
end B8
namespace CG
open PySem PySem.Spec B8
section
variable{X:Am}{F:D8}{e a b o:At}{es:List At}{pos p CL:Pos}{m n:B9}{ma:EK}{C0 iter c:At}{g:DC}{body:List BM}{mi:Fw}{GZ:An}{SO:DK}
def Ga:R (En×A5)->R (En×A5)
 |.exc _ _=>.bad
 |r=>r
def UQ(m:An):An:=λρ h=>Ga (m ρ h)
def Rel.aM{φ:List A4}{h:A5}{H:A8}{σ :St}{ρ:BI}(r:Rel F.AP φ h H σ ρ):Rel F φ h H σ ρ:=⟨r.hd,r.x0,r.len,r.C9⟩
def aE{m:An}:Jv (G6 F (UQ m)) (G6 F.AP m):=λBv σ H⟨φ,ρ,h,r,q⟩=>by
 refine⟨φ,ρ,h,r.AP,?_⟩;unfold UQ at q;cases e:m ρ h with
 |bad=>rw[e]at q;exact q
 |exc c h'=>rw[e]at q;cases q
 |ok p=>
  rw[e]at q;obtain⟨f,h1⟩:=p;cases f with
  |AP Dx=>exact λσ' BL A6 r x=>q σ' BL A6 r.aM x
  |BF Dx=>exact λσ' BL A6 r x=>q σ' BL A6 r.aM x
  |Cv Dx=>exact λσ' BL A6 r x=>q σ' BL A6 r.aM x
  |Do w=>exact q
def Ed(mi:Fw)(g:DC)(b:An):An:=UQ (O1 mi g b)
def Xz(c:DK)(b:An):An:=UQ (Su c b)
def aeA(A7:Pc X.HB F.AP C0 iter mi)(Aj:QX X.HB F.AP C0 g)(A1:M3 X.HB F.AP body GZ)(AD:X.calm=true:=by rfl)(hs:∀x,Pz iter X.env x=pure x:=by intro _;rfl):H6 X F (.For C0 iter body [] pos) (Ed mi g GZ):=
 ⟨DL.imp (DL.HB (kS bw AD A7.p Aj.p A1.p hs)) λBv σ H q=>gj Bv σ H (aE Bv σ H q)⟩
def adS(AD:Fg X.HB F.AP c SO)(A1:M3 X.HB F.AP body GZ):H6 X F (.While c body [] pos) (Xz SO GZ):=
 ⟨DL.imp (DL.HB (zk bw AD.p A1.p)) λBv σ H q=>wD Bv σ H (aE Bv σ H q)⟩
def Za:Key->W
 |.inl i=>.int i
 |.inr x=>.str x
def PL(ks:List Key):HQ:=λi _=>if i=ks.length then some none else(ks[i]?).map λk=>some (Za k)
noncomputable def nF(n:Nat):R (En×A5)->R (En×A5)
 |.ok (.AP ρ,h)=>match h[n]? with
  |some ⟨.JA ks,ws⟩=>.ok (.AP ρ,h.set n ⟨.B3 ks,ws⟩)
  |_=>.bad
 |.ok (.Do w,h)=>match h[n]? with
  |some ⟨.JA ks,ws⟩=>.ok (.Do w,h.set n ⟨.B3 ks,ws⟩)
  |_=>.bad
 |_=>.bad
def Xx(m:B9)(g:DC)(b:An):An:=bd m λw ρ h=>match w with
 |.ref n=>match h[n]? with
  |some ⟨.B3 ks,ws⟩=>nF n (NF (PL ks) g b Jt 0 ρ (h.set n ⟨.JA ks,ws⟩))
  |_=>.bad
 |_=>.bad
section
variable{K:Ad}{φ:List A4}{H:A8}{d:A4}{Bc:Obj}{AA:List (Key×V)}{u:El}
mutual
theorem AQ.IG(e:H d=some (.EF Bc (.B3 AA))):∀{w:W}{v:V},AQ K φ H w v->AQ K φ (upd H d u) w v
 |.non,_,h|.AM _,_,h|.int _,_,h|.str _,_,h|.ref _,_,h=>by simpa only[AQ]using h
 |.tup _,_,h=>by simp only[AQ]at h |-;obtain⟨a,xs,A9,q,r⟩:=h;exact⟨a,xs,A9,by rw[D2 λz=>by subst z;rw[e]at q;cases q];exact q,Ac.IG e r⟩
 |.I1 _,_,h=>by
  simp only[AQ]at h |-;obtain⟨a,xs,A9,q,r⟩:=h;refine⟨a,xs,A9,?_,Ac.IG e r⟩;rcases q with(q|⟨o,q⟩)|q
  .exact .inl (.inl (by rw[D2 λz=>by subst z;rw[e]at q;cases q];exact q))
  .exact .inl (.inr ⟨o,by rw[D2 λz=>by subst z;rw[e]at q;cases q];exact q⟩)
  .exact .inr q
 |.Eb _,_,h=>by
  simp only[AQ]at h |-;obtain⟨a,xs,A9,q,r⟩:=h;refine⟨a,xs,A9,?_,Ac.IG e r⟩;rcases q with⟨o,q⟩|q
  .exact .inl ⟨o,by rw[D2 λz=>by subst z;rw[e]at q;cases q];exact q⟩
  .exact .inr q
 |.Nk _,_,h=>by simp only[AQ]at h |-;obtain⟨a,C,A9,c,q⟩:=h;exact⟨a,C,A9,c,by rw[D2 λz=>by subst z;rw[e]at q;cases q];exact q⟩
theorem Ac.IG(e:H d=some (.EF Bc (.B3 AA))):∀{ws:List W}{vs:List V},Ac K φ H ws vs->Ac K φ (upd H d u) ws vs
 |[],_,h=>by simpa only[Ac]using h
 |_::_,_,h=>by simp only[Ac]at h |-;obtain⟨v,r,A9,q,t⟩:=h;exact⟨v,r,A9,AQ.IG e q,Ac.IG e t⟩
end
theorem Cr.IG{h:A5}{n:Nat}{ks:List Key}{ws:List W}(x:Cr K φ h H)(Az:h[n]?=some ⟨.JA ks,ws⟩)(Bg:φ[n]?=some d)(e:H d=some (.EF Bc (.B3 AA))):Cr K φ (h.set n ⟨.B3 ks,ws⟩) (upd H d (.B3 AA)):=by
 refine⟨x.C3,by simp[x.len],λm Cn b A9 AE=>?_⟩;by_cases hm:n=m
 .subst hm;rw[JQ (List.getElem?_eq_some_iff.mp Az).1]at A9;rw[Bg]at AE;cases A9;cases AE;obtain⟨xs,⟨o,aej,q,q1,q2⟩,r⟩:=x.Bc n _ d Az Bg;rw[e]at q;cases q;exact⟨xs,⟨AA,EX,q1,q2⟩,Ac.IG e r⟩
 .rw[Lf hm]at A9;obtain⟨ys,Cc,BK⟩:=x.Bc m Cn b A9 AE;refine⟨ys,Cc.same (D2 λz=>?_),Ac.IG e BK⟩;subst z;obtain⟨B1,JI⟩:=List.getElem?_eq_some_iff.mp Bg;obtain⟨BW,Jd⟩:=List.getElem?_eq_some_iff.mp AE;exact hm ((W4 x.C3).mp (JI.trans Jd.symm))
end
def vp{K:Ad}{φ:List A4}{H:A8}{a:A4}{o:Obj}{AA:List (Key×V)}(e:H a=some (.EF o (.B3 AA))):Ip K φ H (PL (AA.map (·.1))) (Wc a o AA):=λi CE h2 AS d x=>by
 have AE:=x.t a _ e trivial;unfold PL;by_cases A7:i=AA.length
 .rw[if_pos (by simpa using A7)];exact⟨λ_=>⟨AE,A7⟩,λw z=>by cases z⟩
 .rw[if_neg (by simpa using A7)];cases D1:AA[i]? with
  |none=>simp[D1]
  |some Ch=>refine⟨(λz=>by simp[D1]at z),λw z=>?_⟩;simp[D1]at z;subst z;refine⟨⟨AE,(List.getElem?_eq_some_iff.mp D1).1⟩,λy A6 AN=>?_⟩;obtain⟨rfl,iE,BC,rfl⟩:=AN;rw[D1]at BC;cases BC;refine⟨d,Ag.refl _ _,?_⟩;cases Ch.1<;>simp only[Za,AQ,CU]
def uK:Jv (G6 F (Xx m g GZ)) (λBv σ H=>ar (gg X (C6 F m)) (Ng F g) (G6 F GZ) (Bv.IG X) σ H):=λBv σ H q=>by
 obtain⟨φ,ρ,h,r,q⟩:=q;refine⟨φ,ρ,h,r,EC.bd q λw v C7 h1 H1 Ak D6 E_ q=>?_⟩
 split at q
 .rename_i n
  split at q
  .rename_i ks ws Az;obtain⟨a,xs,rfl,Bg,⟨AA,AB,rfl,rfl⟩,BE⟩:=Ak.hd.at Az E_;refine⟨a,AA,rfl,AB,λo O4=>?_⟩;have ns:¬Still (.B3 AA):=λz=>z;have acK:Ag C7 H1 C7 (upd H1 a (.EF o (.B3 AA))):=Ag.put AB ns;have Gc:=Ak.to (Ak.hd.put (o':=⟨.JA _,ws⟩) Az Bg AB ns ⟨o,AA,EX,rfl,rfl⟩ BE) acK;have BF:∀BL A6,Ag C7 (upd H1 a (.EF o (.B3 AA))) BL A6->A6 a=some (.EF o (.B3 AA))/\BL[n]?=some a/\Ag C7 H1 BL (upd A6 a (.B3 AA)):=λBL A6 x=>⟨x.t a _ EX trivial,FY x.p Bg,x.p,λb u e s=>by
    have nb:b≠a:=λz=>by subst z;rw[AB]at e;cases e;exact s
    rw[D2 nb];exact x.t b u (by rw[D2 nb];exact e) s⟩
   obtain⟨BL,Dx,h',BK,k⟩:=gj (mi:=pu (PL (AA.map (·.1)))) (g:=g) (b:=GZ) (Bv.IG X) σ _ ⟨C7,ρ,_,Gc,by
    unfold O1 bd pu;simp only[R.bind];cases e:NF (PL (AA.map (·.1))) g GZ Jt 0 ρ (h1.set n ⟨.JA (AA.map (·.1)),ws⟩)with
    |bad=>rw[e]at q;cases q
    |exc c h'=>rw[e]at q;cases q
    |ok p=>
     rw[e]at q;obtain⟨f,h2⟩:=p;cases f with
     |AP DA=>
      intro σ2 CE AS B6 CZ;obtain⟨D_,E9,P3⟩:=BF CE AS CZ;have q:EC F C7 H1 Bv (match h2[n]? with
       |some ⟨.JA ks,ws⟩=>.ok (.AP DA,h2.set n ⟨.B3 ks,ws⟩)
       |_=>.bad):=q
      split at q
      .rename_i H9 ws' eY;refine⟨a,o,AA,O4,D_,q σ2 CE _ ⟨B6.hd.IG eY E9 D_,Ak.x0.trans P3,B6.len,λi w e=>?_⟩ P3⟩;obtain⟨v,A9,q1⟩:=B6.C9 i w e;exact⟨v,A9,AQ.IG D_ q1⟩
      .exact q.elim
     |Do w=>
      intro v CE AS Ej CZ a2;obtain⟨D_,E9,P3⟩:=BF CE AS CZ;have q:EC F C7 H1 Bv (match h2[n]? with
       |some ⟨.JA ks,ws⟩=>.ok (.Do w,h2.set n ⟨.B3 ks,ws⟩)
       |_=>.bad):=q
      split at q
      .rename_i H9 ws' eY;exact⟨a,o,AA,O4,D_,q v CE _ (Ej.IG eY E9 D_) P3 (AQ.IG D_ a2)⟩
      .exact q.elim
     |BF _=>cases q
     |Cv _=>exact q.elim⟩
   exact k (Wc a o AA) BL _ BK (Ag.refl _ _) (vp EX)
  .exact q.elim
 .exact q.elim
def Xy(m:B9)(g:DC)(b:An):An:=UQ (Xx m g b)
def ae9(A7:Aa X.HB F.AP iter m)(Aj:QX X.HB F.AP C0 g)(A1:M3 X.HB F.AP body GZ)(AD:X.calm=true:=by rfl)(hs:∀x,Pz iter X.env x=pure x:=by intro _;rfl):H6 X F (.For C0 iter body [] pos) (Xy m g GZ):=
 ⟨DL.imp (DL.HB (zj (kS bw AD (aa4 A7.p) Aj.p A1.p hs))) λBv σ H q=>uK Bv σ H (aE Bv σ H q)⟩
end
end CG
namespace B8
open PySem PySem.Spec PyProof.Rows
section
variable{X:Am}
def f_(a:A4)(n:Nat)(h:Ar):Prop:=∃o es Ai t,h.get? a=some o/\o.ExactSet/\o.data=.set es Ai t/\t.fits es.size=true/\es.size=n
def YY(a:A4)(n:Nat):El:=.ext (f_ a n)
def ac5{P:Bh}{w:BP}{K:Ad}{H:A8}{h:Ar}{a:A4}{n:Nat}(x:f_ a n h):Ds P w K H h a (YY a n):=
 ⟨x,by obtain⟨o,_,_,_,e,_⟩:=x;exact⟨o,e⟩,λh1 h2 y k=>by obtain⟨o,es,Ai,t,e,r⟩:=y;exact⟨o,es,Ai,t,k o e,r⟩⟩
def fS(H:A8)(ys:List V)(keys:List (List Key)):Prop:=keys.length=ys.length/\∀(i:Nat) y k,ys[i]?=some y->keys[i]?=some k->∃b,y=.ref b/\H b=some (.tup (k.map CU))
def ab0(K:Ad):List V->A8->CA->Prop:=λxs H Q=>∃p ys keys,xs=[.ref p]/\EL K H p ys/\ys.length<77/\fS H ys keys/\∀l,H l=none->Q (.ref l) (upd H l (YY l (Kw.JB keys).length))
def qV(hh:X.A.handled=none)(Av:X.A.units+64<Cq):IZ X (.type "set") (ab0 X.K):=by
 intro pins s σ H xs us Q I r h;obtain⟨p,ys,keys,rfl,AU,AW,⟨AF,AK⟩,q⟩:=h;obtain⟨u,rfl,Aq⟩:=vals1 r;cases Aq;obtain⟨its,BK,pl,hz⟩:=I.list AU;have hlen:=BK.length;refine Kw.qW (bv:=false) (λz=>nomatch z) (knd:=Fi X.prog X.w) (items:=its.toArray) (keys:=keys) hh Av pl.isList (by rw[DI];lia) (by rw[DI];lia) (λi v BB=>?_) λh' By T Bd=>?_
 .have BB:its[i]?=some v:=by simpa using BB
  have A7:=(List.getElem?_eq_some_iff.mp BB).1;have D9:ys[i]?=some ys[i]:=CF (by lia);have D1:keys[i]?=some keys[i]:=CF (by lia);obtain⟨b,A9,AE⟩:=AK i _ _ D9 D1;obtain⟨I4,Wp,Bx⟩:=BK.get D9;rw[BB]at Wp;cases Wp;rw[A9]at Bx;cases Bx;exact⟨b,_,rfl,D1,ii I.Ax AE⟩
 .obtain⟨o,es,Ai,t,g1,g2,g3,g4,Mb,hM,u2,afI⟩:=T.ex;exact⟨.ref s.heap.objs.size,_,I.laid (t':=By) Bd (C1 _) (ac5 ⟨o,es,Ai,t,g1,g2,g3,g4.fits,u2⟩),rfl,q _ (I.Ax.fresh (C1 _))⟩
def aay:List V->A8->CA->Prop:=λxs H Q=>∃a n,xs=[.ref a]/\H a=some (YY a n)/\n<1000/\Q (.int n) H
def qT:IZ X (.builtin "len") aay:=by intro pins s σ H xs us Q I r h;obtain⟨a,n,rfl,AB,AW,q⟩:=h;obtain⟨u,rfl,Aq⟩:=vals1 r;cases Aq;obtain⟨⟨o,es,Ai,t,g1,g2,g3,g4,Mb⟩,_⟩:=(show Ds X.prog X.w X.K H s.heap a (YY a n)from I.Ax a _ AB);subst Mb;exact call_len_set g1 g2 g3 g4 (by lia) ⟨.int es.size,H,I.tok _,⟨_,rfl⟩,q⟩
def bI(b:Bool):ET:=λx y H Q=>∃p q AA,x=.ref p/\y=.ref q/\J3 H p (.B3 AA)/\H q=some (.B3 [])/\Q (.AM (AA.isEmpty==b)) H
def j9(Av:X.A.units+64<Cq):DQ X (Fb .Eq) (bI true):=by
 intro pins s σ H x y v u Q I Aq BS h;obtain⟨p,q,AA,rfl,rfl,AT,AU,h⟩:=h;obtain rfl:v=Ce p:=Aq;obtain rfl:u=Ce q:=BS;obtain⟨HO,d1,vs,Ak,GY⟩:=NB I.Ax AT;obtain⟨F5,Ej,us,B6,HA⟩:=S3 I.Ax AU;have FV:us=[]:=by cases B6;rfl
 subst FV;have AK:(vs.length==([]:List (Key×A3)).length&&true)=AA.isEmpty:=by cases Ak<;>rfl
 refine PySem.W.keq_eq (r:=true) d1 Ej GY HA (by lia) (λe=>?_) ?_
 .cases vs with
  |nil=>exact .nil
  |cons _ _=>simp at e
 .rw[AK];exact⟨.AM _,H,I,rfl,by simpa using h⟩
def jD(Av:X.A.units+64<Cq):DQ X (Fb .NotEq) (bI false):=by
 intro pins s σ H x y v u Q I Aq BS h;obtain⟨p,q,AA,rfl,rfl,AT,AU,h⟩:=h;obtain rfl:v=Ce p:=Aq;obtain rfl:u=Ce q:=BS;obtain⟨HO,d1,vs,Ak,GY⟩:=NB I.Ax AT;obtain⟨F5,Ej,us,B6,HA⟩:=S3 I.Ax AU;have FV:us=[]:=by cases B6;rfl
 subst FV;have AK:(vs.length==([]:List (Key×A3)).length&&true)=AA.isEmpty:=by cases Ak<;>rfl
 refine PySem.W.keq_ne (r:=true) d1 Ej GY HA (by lia) (λe=>?_) ?_
 .cases vs with
  |nil=>exact .nil
  |cons _ _=>simp at e
 .rw[AK];exact⟨.AM _,H,I,rfl,by simpa using h⟩
end
end B8
namespace CG
open PySem PySem.Spec B8
section
variable{X:Am}{F:D8}{e a b o:At}{es:List At}{pos p CL Gz pos':Pos}{m n:B9}{ma:EK}
def ND(b:Bool):W->A5->R (W×A5):=λw h=>match w with
 |.ref n=>match h[n]? with
  |some ⟨.B3 ks,_⟩=>.ok (.AM (ks.isEmpty==b),h)
  |some ⟨.JA ks,_⟩=>.ok (.AM (ks.isEmpty==b),h)
  |_=>.bad
 |_=>.bad
def Wr(b:Bool):FL (C6 F (Bf (ND b) m)) (S6 (bI b) (C6 F m) aq):=λσ H Q q=>
 q.bd λw v φ ρ h H1 r E_ q p AT=>by
   have B6:=r.to (r.hd.lay (o:=.B3 []) AT) (Ag.lay AT);unfold ND at q
   split at q
   .split at q
    .rename_i ks ws Az;obtain⟨d,xs,rfl,CK,⟨AA,AB,rfl,rfl⟩,BE⟩:=r.hd.at Az E_;refine⟨d,p,AA,rfl,rfl,.inl (by rw[D2 (Kb AB AT)];exact AB),EX,q _ φ _ B6 (Ag.lay AT) ?_⟩;simp only[AQ];cases AA<;>rfl
    .rename_i ks ws Az;obtain⟨d,xs,rfl,CK,⟨o,AA,AB,rfl,rfl⟩,BE⟩:=r.hd.at Az E_;refine⟨d,p,AA,rfl,rfl,.inr ⟨o,by rw[D2 (Kb AB AT)];exact AB⟩,EX,q _ φ _ B6 (Ag.lay AT) ?_⟩;simp only[AQ];cases AA<;>rfl
    .exact q.elim
   .exact q.elim
def ad4(Av:X.A.units+64<Cq)(AB:Aa X F a m):Aa X F (.Compare a [.Eq] [.Dict [] [] CL] pos) (Bf (ND true) m):=⟨Ae.imp (Kz (j9 Av) AB.p VF (HK _)) (Wr true)⟩
def adV(Av:X.A.units+64<Cq)(AB:Aa X F a m):Fg X F (.Compare a [.Eq] [.Dict [] [] CL] pos) (A_ (Bf (ND true) m)):=⟨E8.imp (L1 (j9 Av) AB.p VF (HK _)) λσ H Q q=>Wr true σ H _ (J_ σ H Q q)⟩
def acX(Av:X.A.units+64<Cq)(AB:Aa X F a m):Aa X F (.Compare a [.NotEq] [.Dict [] [] CL] pos) (Bf (ND false) m):=⟨Ae.imp (Kz (jD Av) AB.p VF (HK _)) (Wr false)⟩
def ade(Av:X.A.units+64<Cq)(AB:Aa X F a m):Fg X F (.Compare a [.NotEq] [.Dict [] [] CL] pos) (A_ (Bf (ND false) m)):=⟨E8.imp (L1 (jD Av) AB.p VF (HK _)) λσ H Q q=>Wr false σ H _ (J_ σ H Q q)⟩
def RL:List W->Option (List (List Key))
 |[]=>some []
 |.tup us::ws=>match us.mapM keyOf,RL ws with
  |some k,some ks=>some (k::ks)
  |_,_=>none
 |_=>none
theorem im{K:Ad}{φ:List A4}{H:A8}:∀{ws:List W}{ks:List Key}{xs:List V},ws.mapM keyOf=some ks->Ac K φ H ws xs->xs=ks.map CU
 |[],ks,xs,e,a=>by simp at e;subst e;simp only[Ac]at a;exact a
 |w::ws,ks,xs,e,a=>by
  simp only[Ac]at a;obtain⟨v,r,rfl,a1,a2⟩:=a;rw[W0]at e;cases A9:keyOf w with
  |none=>rw[A9]at e;cases e
  |some k=>
   cases AE:ws.mapM keyOf with
   |none=>rw[A9,AE]at e;cases e
   |some H9=>rw[A9,AE]at e;cases e;rw[im AE a2,QL A9 a1];rfl
theorem nJ{K:Ad}{φ:List A4}{H:A8}:∀{ws:List W}{ks:List (List Key)}{xs:List V},RL ws=some ks->Ac K φ H ws xs->fS H xs ks
 |[],ks,xs,e,a=>by simp only[RL]at e;cases e;simp only[Ac]at a;subst a;exact⟨rfl,λi y k A9=>by simp at A9⟩
 |w::ws,ks,xs,e,a=>by
  cases w<;>simp only[RL]at e<;>first|(cases e;done)|skip
  split at e
  .rename_i k H9 A9 AE;cases e;simp only[Ac,AQ]at a;obtain⟨v,r,rfl,⟨b,ys,rfl,g,q⟩,a2⟩:=a;obtain⟨CC,C8⟩:=nJ AE a2;refine⟨by simp[CC],λi y k' q1 q2=>?_⟩;cases i with
   |succ i=>exact C8 i y k' (by simpa using q1) (by simpa using q2)
   |zero=>simp at q1 q2;subst q1 q2;exact⟨b,rfl,by rw[g,im A9 q]⟩
  .cases e
noncomputable def UN:K9:=λws h=>match ws with
 |[w]=>match E3 h w with
  |some (false,us)=>if us.length<77 then match RL us with
   |some ks=>.ok (.int (Kw.JB ks).length,h)
   |none=>.bad
   else .bad
  |_=>.bad
 |_=>.bad
def adF{k:Nat}(Ao:Cu k X.A)(hm:X.mg "len"=none)(ME:X.mg "set"=none)(AB:H5 X F [e] ma)(AX:F.K=X.K:=by rfl)(Aj:EJ X "len":=by rfl)(Um:EJ X "set":=by rfl)(hs:CJ [.Call (.Name "set" Gz) [e] [] pos'] X.env=(false,Bb (.Call (.Name "set" Gz) [e] [] pos') X.env)::CJ [] X.env:=by rfl)(he:CJ [e] X.env=(false,Bb e X.env)::CJ [] X.env:=by rfl)(GL:(GO pos (CJ [] X.env)).any (·.1)=false:=by rfl)(vJ:(GO pos' (CJ [] X.env)).any (·.1)=false:=by rfl) :
  Aa X F (.Call (.Name "len" p) [.Call (.Name "set" Gz) [e] [] pos'] [] pos) (B0 UN ma):=
 ⟨Ae.imp (VD qT Aj hm PySem.boot_len (SV (VE (qV Ao.hd Ao.units) Um ME (by kernel_rfl) AB.p (by decide) (by decide) he vJ) VC hs) (by decide) (by decide) hs GL) λσ H Q q=>
   q.bd λws vs φ ρ h H1 r as q=>by
     unfold UN at q
     split at q
     .obtain⟨v,rfl,E_⟩:=as.one
      split at q
      .rename_i us es;obtain⟨d,xs,rfl,AU,BE⟩:=ID r.hd E_ es
       split at q
       .rename_i AF
        split at q
        .rename_i ks D1;have kt:=nJ D1 BE;have Ah:=BE.length;have AU:EL F.K H1 d xs:=AU;refine⟨d,xs,ks,rfl,AX▸AU,by lia,kt,λl LI=>?_⟩;have:=Kw.gd ks;have:=kt.1;refine⟨l,_,rfl,EX,by lia,q _ φ _ (r.to (r.hd.lay LI) (Ag.lay LI)) (Ag.lay LI) (by simp only[AQ])⟩
        .exact q.elim
       .exact q.elim
      .exact q.elim
     .exact q.elim⟩
end
section
variable{α β:Type}
def Ends{α:Type}(r:R (α×A5))(T:α->A5->Prop):Prop:=∃a h,r=.ok (a,h)/\T a h
@[simp] theorem AH(a:α)(k:α->R β):(R.ok a).bind k=k a:=rfl
@[simp] theorem afX(k:α->R β):(R.bad:R α).bind k=.bad:=rfl
@[simp] theorem afY(c:Str)(h:A5)(k:α->R β):(R.exc c h:R α).bind k=.exc c h:=rfl
@[simp] theorem Tk(a:α)(h:A5)(T:α->A5->Prop):Ends (.ok (a,h)) T↔T a h:=⟨λ⟨b,g,e,t⟩=>by cases e;exact t,λt=>⟨a,h,rfl,t⟩⟩
@[simp] theorem afC(T:α->A5->Prop):Ends (.bad:R (α×A5)) T↔False:=⟨λ⟨b,g,e,t⟩=>(nomatch e),Hq⟩
@[simp] theorem afD(c:Str)(h:A5)(T:α->A5->Prop):Ends (.exc c h:R (α×A5)) T↔False:=⟨λ⟨b,g,e,t⟩=>(nomatch e),Hq⟩
theorem Ends.bind{r:R (α×A5)}{k:α×A5->R (β×A5)}{S:α->A5->Prop}{T:β->A5->Prop}(h:Ends r S)(g:∀a h,S a h->Ends (k (a,h)) T):Ends (r.bind k) T:=by obtain⟨a,h',e,s⟩:=h;rw[e];exact g a h' s
def Ends.mono{r:R (α×A5)}{S T:α->A5->Prop}(h:Ends r S)(g:∀a h,S a h->T a h):Ends r T:=by obtain⟨a,h',e,s⟩:=h;exact⟨a,h',e,g a h' s⟩
def Ends.done{r:R (α×A5)}{a:α}{h:A5}(e:Ends r λb g=>b=a/\g=h):r=.ok (a,h):=by obtain⟨b,g,e,rfl,rfl⟩:=e;exact e
@[simp] theorem JN(m:M α)(k:α->M β)(ρ:BI)(h:A5):bd m k ρ h=(m ρ h).bind λp=>k p.1 ρ p.2:=rfl
@[simp] theorem E4(a:α)(ρ:BI)(h:A5):pu a ρ h=.ok (a,h):=rfl
end
section
variable(ρ:BI)(h g:A5)(m n:B9)(a:EK)(s t:An)(c d:DK)
def OU:Option (Option W)->A5->R (W×A5)
 |some (some w),h=>.ok (w,h)
 |_,_=>.bad
@[simp] theorem DH(w:W):OU (some (some w)) h=.ok (w,h):=rfl
@[simp] theorem v_var(i:Nat):J i ρ h=OU ρ[i]? h:=by
  unfold J OU;cases ρ[i]? with
  |none=>rfl
  |some o=>cases o<;>rfl
@[simp] theorem Dw(f:GQ):A0 f m n ρ h=(m ρ h).bind λp=>(n ρ p.2).bind λq=>f p.1 q.1 q.2:=rfl
@[simp] theorem OT(f:W->A5->R (W×A5)):Bf f m ρ h=(m ρ h).bind λp=>f p.1 p.2:=rfl
@[simp] theorem DG:A2 ρ h=.ok ([],h):=rfl
@[simp] theorem DF:Z m a ρ h=(m ρ h).bind λp=>(a ρ p.2).bind λq=>.ok (p.1::q.1,q.2):=rfl
@[simp] theorem aO:Bn a ρ h=(a ρ h).bind λp=>if p.1.length<=B4 then .ok (.tup p.1,p.2)else .bad:=by unfold Bn bd;congr;funext p;dsimp only;split<;>rfl
@[simp] theorem MX:CO a ρ h=(a ρ h).bind λp=>nw .lst p.1 p.2:=rfl
@[simp] theorem HN(f:K9):B0 f a ρ h=(a ρ h).bind λp=>f p.1 p.2:=rfl
@[simp] theorem IX(k:Nat)(f:Bz):Ap k f a ρ h=(a ρ h).bind λp=>if p.1.length=k then f p.1 p.2 else .bad:=by unfold Ap bd;congr
def TV:W->A5->R (Bool×A5)
 |.AM b,h=>.ok (b,h)
 |_,_=>.bad
@[simp] theorem OI(b:Bool):TV (.AM b) h=.ok (b,h):=rfl
@[simp] theorem OS:A_ m ρ h=(m ρ h).bind λp=>TV p.1 p.2:=by unfold A_ bd;congr;funext p;cases p.1<;>rfl
@[simp] theorem v_and:HI c d ρ h=(c ρ h).bind λp=>if p.1=true then d ρ p.2 else .ok (false,p.2):=by unfold HI bd;congr;funext p;dsimp only;split<;>rfl
@[simp] theorem v_or:EV c d ρ h=(c ρ h).bind λp=>if p.1=true then .ok (true,p.2)else d ρ p.2:=by unfold EV bd;congr;funext p;dsimp only;split<;>rfl
@[simp] theorem v_not:DT c ρ h=(c ρ h).bind λp=>.ok (!p.1,p.2):=rfl
@[simp] theorem afQ:LO m n ρ h=(m ρ h).bind λp=>(TV p.1 p.2).bind λq=>if q.1=true then n ρ q.2 else .ok (.AM false,q.2):=by unfold LO bd;congr;funext p;cases p.1<;>first|rfl|(rename_i b;cases b<;>rfl)
@[simp] theorem afU:US m n ρ h=(m ρ h).bind λp=>(TV p.1 p.2).bind λq=>if q.1=true then .ok (.AM true,q.2)else n ρ q.2:=by unfold US bd;congr;funext p;cases p.1<;>first|rfl|(rename_i b;cases b<;>rfl)
@[simp] theorem afT:UR m ρ h=(m ρ h).bind λp=>(TV p.1 p.2).bind λq=>.ok (.AM (!q.1),q.2):=by unfold UR bd;congr;funext p;cases p.1<;>rfl
@[simp] theorem ab_:Mo c m n ρ h=(c ρ h).bind λp=>if p.1=true then m ρ p.2 else n ρ p.2:=by unfold Mo bd;congr;funext p;dsimp only;split<;>rfl
def Nf(t:An):En×A5->R (En×A5)
 |(.AP ρ,h)=>t ρ h
 |p=>.ok p
@[simp] theorem BN:Nf t (.AP ρ,h)=t ρ h:=rfl
@[simp] theorem afm(w:W):Nf t (.Do w,h)=.ok (.Do w,h):=rfl
@[simp] theorem BD:AO s t ρ h=(s ρ h).bind (Nf t):=by unfold AO;congr
@[simp] theorem IJ:Br ρ h=.ok (.AP ρ,h):=rfl
@[simp] theorem Lc:Fs m ρ h=(m ρ h).bind λp=>.ok (.AP ρ,p.2):=rfl
@[simp] theorem Pk:B5 m ρ h=(m ρ h).bind λp=>.ok (.Do p.1,p.2):=rfl
@[simp] theorem F4:Bp c s t ρ h=(c ρ h).bind λp=>if p.1=true then s ρ p.2 else t ρ p.2:=by unfold Bp bd;congr;funext p;dsimp only;split<;>rfl
@[simp] theorem RN(i:Nat)(w:W):AC i w ρ h=if i<ρ.length then .ok (.AP (ρ.set i (some w)),h)else .bad:=rfl
@[simp] theorem EY(f:DC):AZ m f ρ h=(m ρ h).bind λp=>f p.1 ρ p.2:=rfl
@[simp] theorem afR(f:DC):Mn m f ρ h=(m ρ h).bind λp=>YD (f p.1 ρ p.2):=rfl
@[simp] theorem aeW:YD (.ok (.AP ρ,h))=.ok (.AP ρ,h):=rfl
@[simp] theorem afS(N:Nat)(ws:List W):FX N s ws h=(s (Mh N ws) h).bind outF:=rfl
@[simp] theorem VR(N:Nat)(ws:List W):Dh N s ws h=(s (Mh N ws) h).bind λp=>(outF p).bind λq=>settle h q.1 q.2:=by unfold Dh FX;cases s (Mh N ws) h<;>rfl
@[simp] theorem jF:outF (.AP ρ,h)=.ok (.non,h):=rfl
@[simp] theorem UJ(w:W):outF (.Do w,h)=.ok (w,h):=rfl
@[simp] theorem IK:CB m ρ h=(m ρ h).bind λp=>settle h p.1 p.2:=rfl
@[simp] theorem abe:IB c ρ h=(c ρ h).bind λp=>.ok (p.1,if Gb h p.2=true then h else p.2):=rfl
@[simp] theorem aba(f:Mz):E1 f m a ρ h=(m ρ h).bind λp=>YJ p.1 (bd a λus=>Xu f p.1 us) ρ p.2:=rfl
@[simp] theorem afV(x:Str):O2 x ρ h=.exc x h:=rfl
@[simp] theorem xj(p:En×A5):Ga (.ok p)=.ok p:=rfl
@[simp] theorem Ld(mi:Fw)(f:DC):Ed mi f s ρ h=Ga (O1 mi f s ρ h):=rfl
@[simp] theorem afW:Xz c s ρ h=Ga (Su c s ρ h):=rfl
@[simp] theorem Uy(N:Nat)(ws:List W):Mh N ws=ws.map some++FE (N-ws.length) none:=rfl
end
section
variable(h g:A5)
@[simp] theorem PE(k:Nat):(h++g)[h.length+k]?=g[k]?:=by rw[H2 (by lia)];congr 1;lia
@[simp] theorem Go:(h++g)[h.length]?=g[0]?:=PE h g 0
@[simp] theorem tY(k:Nat)(o:O):(h++g).set (h.length+k) o=h++g.set k o:=by rw[og _ _ (by lia)];congr 2;lia
@[simp] theorem TR(o:O):(h++g).set h.length o=h++g.set 0 o:=tY h g 0 o
def Cp{n:Nat}{o:O}(e:h[n]?=some o)(g:A5):(h++g)[n]?=some o:=by rw[EZ (List.getElem?_eq_some_iff.mp e).1];exact e
@[simp] theorem zzA(h g:A5):Gb h (h++g)=true:=b9 h g
@[simp] theorem zzB(h:A5):Gb h h=true:=zX h
@[simp] theorem afq(w:W)(e:DP w=true):settle h w h=.ok (w,h):=by unfold settle;simp[e]
@[simp] theorem mV(w:W)(e:DP w=true):settle h w (h++g)=.ok (w,h):=by unfold settle;simp[e]
theorem j1:∀(h a b:A5),Gb (h++a) (h++b)=Gb a b
 |[],_,_=>rfl
 |o::h,a,b=>by simp only[Ho,Gb,Qa,j1 h a b];simp
@[simp] theorem zzC(h a b:A5):Gb (h++a) (h++b)=Gb a b:=j1 h a b
@[simp] theorem zzD(a:List W):KI a a=true:=Qa a
@[simp] theorem afj(h:A5):Gb [] h=true:=by simp[Gb]
@[simp] theorem afi(o o':O)(h g:A5):Gb (o::h) (o'::g)=(decide (o.k=o'.k)&&KI o.ws o'.ws&&Gb h g):=by simp[Gb]
@[simp] theorem afp(w:W)(e:DP w=true)(p:Gb h g=true):settle h w g=.ok (w,h):=by unfold settle;simp[e,p]
def RI{n:Nat}{ws:List W}(p:Gb h g=true)(l:h.length<=n)(e:g[n]?=some ⟨.lst,ws⟩)(UG:G_ ws=true):settle h (.ref n) g=.ok (.ref h.length,h++[⟨.lst,ws⟩]):=by unfold settle;simp[p,l,e,UG,DP]
def abx(k:Nat){ws:List W}(e:g[k]?=some ⟨.lst,ws⟩)(n:G_ ws=true):settle h (.ref (h.length+k)) (h++g)=.ok (.ref h.length,h++[⟨.lst,ws⟩]):=by unfold settle;simp[e,n,DP]
def RH{ws:List W}(e:g[0]?=some ⟨.lst,ws⟩)(n:G_ ws=true):settle h (.ref h.length) (h++g)=.ok (.ref h.length,h++[⟨.lst,ws⟩]):=abx h g 0 e n
@[simp] theorem VJ(ws:List W):E3 h (.tup ws)=some (true,ws):=by simp[E3]
@[simp] theorem afo(ws:List W):E3 h (.I1 ws)=some (true,ws):=by simp[E3]
def I2{n:Nat}{ws:List W}(e:h[n]?=some ⟨.lst,ws⟩):E3 h (.ref n)=some (false,ws):=by simp[E3,e]
@[simp] theorem aa(ws:List W):E3 h (.Eb ws)=some (false,ws):=by simp[E3]
def Mm{n:Nat}{ws:List W}(e:h[n]?=some ⟨.lst,ws⟩):KY h (.ref n)=some (n,ws):=by simp[KY,e]
@[simp] theorem aes(i:Int):DP (.int i)=true:=by simp[DP]
@[simp] theorem aeP(i:Str):DP (.str i)=true:=by simp[DP]
@[simp] theorem aer(i:Bool):DP (.AM i)=true:=by simp[DP]
@[simp] theorem aev:DP .non=true:=by simp[DP]
@[simp] theorem aeR(ws:List W):DP (.tup ws)=G_ ws:=by simp[DP]
@[simp] theorem aeu(ws:List W):DP (.I1 ws)=G_ ws:=by simp[DP]
@[simp] theorem aet(ws:List W):DP (.Eb ws)=G_ ws:=by simp[DP]
@[simp] theorem aeU:G_ []=true:=by simp[G_]
@[simp] theorem aeS(w:W)(ws:List W):G_ (w::ws)=(DP w&&G_ ws):=by simp[G_]
theorem Y7:∀{ws:List W},G_ ws=true↔∀w∈ws,DP w=true
 |[]=>by simp
 |w::ws=>by simp[Y7 (ws:=ws)]
def Hj{ws:List W}(e:ws.length<=B4):nw .lst ws h=.ok (.ref h.length,h++[⟨.lst,ws⟩]):=if_pos e
end
section
variable(i j:Int)(h:A5)
@[simp] theorem RD:addW (.int i) (.int j) h=.ok (.int (i+j),h):=rfl
@[simp] theorem afd:Pg (.int i) (.int j) h=.ok (.int (i-j),h):=rfl
@[simp] theorem xV:Hi (.int i) (.int j) h=if KJ i j then .ok (.int (i*j),h)else .bad:=rfl
@[simp] theorem Kx:BZ (.int i) (.int j) h=if 0<j then .ok (.int (i%j),h)else .bad:=by show(match(if 0<j then some (W.int (i%j))else none)with|some w=>R.ok (w,h)|none=>R.bad)=_;by_cases AD:0<j<;>simp[AD]
@[simp] theorem Mt:CT (.int i) (.int j) h=if 0<j/\j<1073741824 then .ok (.int (i/j),h)else .bad:=by show(match(if Rn i j then some (W.int (i/j))else none)with|some w=>R.ok (w,h)|none=>R.bad)=_;unfold Rn;by_cases AD:0<j/\j<1073741824<;>simp[AD]
@[simp] theorem afc:Nb (.int i) (.int j) h=if NS i j then .ok (.int (i^j.toNat),h)else .bad:=by show(match(if NS i j then some (W.int (i^j.toNat))else none)with|some w=>R.ok (w,h)|none=>R.bad)=_;by_cases AD:NS i j<;>simp[AD]
@[simp] theorem xU:R0 (.int i) (.int j) h=.ok (.AM (decide (i<j)),h):=rfl
@[simp] theorem j3:LM (.int i) (.int j) h=.ok (.AM (decide (i<=j)),h):=rfl
@[simp] theorem xT:MA (.int i) (.int j) h=.ok (.AM (decide (j<i)),h):=rfl
@[simp] theorem afa:e3 (.int i) (.int j) h=.ok (.AM (decide (j<=i)),h):=rfl
@[simp] theorem jl:BH true (.int i) (.int j) h=.ok (.AM (decide (i=j)),h):=by simp only[BH,Dn,eqT];by_cases e:i=j<;>simp[e]
@[simp] theorem afb:BH false (.int i) (.int j) h=.ok (.AM (!decide (i=j)),h):=by simp only[BH,Dn,eqT];by_cases e:i=j<;>simp[e]
def V2{t:Bool}{x:W}{ws:List W}{k:Nat}{w:W}(e:E3 h x=some (t,ws))(AG:ws[k]?=some w):AI x (.int (k:Int)) h=.ok (w,h):=by
 have AK:k<ws.length:=(List.getElem?_eq_some_iff.mp AG).1;have ex:PK x (.int (k:Int)) h=.ok (w,h):=by
  have:Ie ws (k:Int)=some w:=by unfold Ie LL;rw[if_pos (by lia),if_pos (by lia)];simpa using AG
  unfold PK;cases x<;>first|(simp[e,this];done)|(simp[E3]at e)
 unfold AI;have hd:Gx h x (.int (k:Int))=none:=by
  unfold Gx;cases x<;>first|rfl|skip
  rename_i n;unfold E3 at e;dsimp only at e |-
  split at e<;>rename_i Az<;>first|(rw[Az];done)|(cases e;done)
 rw[hd];exact ex
end
def L2(I:BI->A5->Prop)(T:En->A5->Prop):En->A5->Prop
 |.AP ρ,h=>I ρ h
 |.Cv ρ,h=>I ρ h
 |.BF ρ,h=>T (.AP ρ) h
 |.Do w,h=>T (.Do w) h
@[simp] theorem WU(I:BI->A5->Prop)(T:En->A5->Prop)(ρ:BI)(h:A5):L2 I T (.AP ρ) h↔I ρ h:=Iff.rfl
@[simp] theorem aey(I:BI->A5->Prop)(T:En->A5->Prop)(ρ:BI)(h:A5):L2 I T (.Cv ρ) h↔I ρ h:=Iff.rfl
@[simp] theorem aex(I:BI->A5->Prop)(T:En->A5->Prop)(ρ:BI)(h:A5):L2 I T (.BF ρ) h↔T (.AP ρ) h:=Iff.rfl
@[simp] theorem q3(I:BI->A5->Prop)(T:En->A5->Prop)(w:W)(h:A5):L2 I T (.Do w) h↔T (.Do w) h:=Iff.rfl
theorem Ends.Ga{r:R (En×A5)}{T:En->A5->Prop}(h:Ends r T):Ends (CG.Ga r) T:=by obtain⟨a,g,e,t⟩:=h;rw[e];exact⟨a,g,rfl,t⟩
theorem Wz{it:HQ}{g:DC}{b:An}(n:Nat)(I:Nat->BI->A5->Prop)(T:En->A5->Prop)(Df:∀j ρ h,I j ρ h->(it j h=some none/\T (.AP ρ) h)\/(∃w,it j h=some (some w)/\j<n/\∃CI h1,g w ρ h=.ok (.AP CI,h1)/\Ends (b CI h1) (L2 (I (j+1)) T))) :
  ∀f j ρ h,I j ρ h->n-j<f->Ends (NF it g b f j ρ h) T
 |0,j,ρ,h,i,l=>by lia
 |f+1,j,ρ,h,i,l=>by
  unfold NF;rcases Df j ρ h i with⟨e,t⟩|⟨w,e,Af,CI,h1,eg,Gm,h2,Au,t⟩
  .rw[e];exact⟨_,_,rfl,t⟩
  .rw[e];simp only[eg,AH,Au];cases Gm with
   |AP DA=>exact Wz n I T Df f (j+1) DA h2 t (by lia)
   |Cv DA=>exact Wz n I T Df f (j+1) DA h2 t (by lia)
   |BF DA=>exact⟨_,_,rfl,t⟩
   |Do w=>exact⟨_,_,rfl,t⟩
def eZ{mi:Fw}{it:HQ}{g:DC}{b:An}{ρ:BI}{h h0:A5}(n:Nat)(AW:n<1000)(I:Nat->BI->A5->Prop){T:En->A5->Prop}(A7:mi ρ h=.ok (it,h0))(FA:I 0 ρ h0)(Df:∀j ρ h,I j ρ h->(it j h=some none/\T (.AP ρ) h)\/(∃w,it j h=some (some w)/\j<n/\∃CI h1,g w ρ h=.ok (.AP CI,h1)/\Ends (b CI h1) (L2 (I (j+1)) T))):Ends (O1 mi g b ρ h) T:=by unfold O1;simp only[JN,A7,AH];exact Wz n I T Df 1000 0 ρ h0 FA (by lia)
def PA{mi:Fw}{g:DC}{b:An}{ρ:BI}{h h0:A5}(lo:Int)(n:Nat)(AW:n<1000)(I:Nat->BI->A5->Prop){T:En->A5->Prop}(A7:mi ρ h=.ok (Kh lo n,h0))(FA:I 0 ρ h0)(Df:∀j ρ h,j<n->I j ρ h->∃CI h1,g (.int (lo+j)) ρ h=.ok (.AP CI,h1)/\Ends (b CI h1) (L2 (I (j+1)) T))(fin:∀ρ h,I n ρ h->T (.AP ρ) h):Ends (O1 mi g b ρ h) T:=by
 refine eZ n AW (λj ρ h=>j<=n/\I j ρ h) A7 ⟨Gi _,FA⟩ λj ρ h⟨l,i⟩=>?_;by_cases Af:j<n
 .obtain⟨CI,h1,e,t⟩:=Df j ρ h Af i;exact .inr ⟨_,by simp[Kh,Af],Af,CI,h1,e,t.mono λf h' q=>by cases f<;>first|exact⟨Af,q⟩|exact q⟩
 .have:j=n:=by lia
  subst this;exact .inl ⟨by simp[Kh],fin ρ h i⟩
def Wu{mi:Fw}{it:HQ}{g:DC}{b:An}{ρ:BI}{h h0:A5}(ws:List W)(AW:ws.length<1000)(I:Nat->BI->A5->Prop){T:En->A5->Prop}(A7:mi ρ h=.ok (it,h0))(hit:∀j ρ h,j<=ws.length->I j ρ h->it j h=some ws[j]?)(FA:I 0 ρ h0)(Df:∀j w ρ h,ws[j]?=some w->I j ρ h->∃CI h1,g w ρ h=.ok (.AP CI,h1)/\Ends (b CI h1) (L2 (I (j+1)) T))(fin:∀ρ h,I ws.length ρ h->T (.AP ρ) h):Ends (O1 mi g b ρ h) T:=by
 refine eZ ws.length AW (λj ρ h=>j<=ws.length/\I j ρ h) A7 ⟨Gi _,FA⟩ λj ρ h⟨l,i⟩=>?_;have Ep:=hit j ρ h l i;by_cases Af:j<ws.length
 .obtain⟨CI,h1,e,t⟩:=Df j ws[j] ρ h (CF Af) i;exact .inr ⟨_,by rw[Ep,CF Af],Af,CI,h1,e,t.mono λf h' q=>by cases f<;>first|exact⟨Af,q⟩|exact q⟩
 .have:j=ws.length:=by lia
  subst this;exact .inl ⟨by rw[Ep];simp,fin ρ h i⟩
theorem aR{c:DK}{b:An}(I:Nat->BI->A5->Prop)(T:En->A5->Prop)(Df:∀n ρ h,I n ρ h->∃k h1,c ρ h=.ok (k,h1)/\(k=false->T (.AP ρ) h1)/\(k=true->Ends (b ρ h1) (L2 (λDx h'=>∃m,m<n/\I m Dx h') T))):∀f n ρ h,I n ρ h->n<f->Ends (Pl c b f ρ h) T
 |0,n,ρ,h,i,l=>by lia
 |f+1,n,ρ,h,i,l=>by
  unfold Pl;obtain⟨k,h1,e,t1,Ct⟩:=Df n ρ h i;simp only[JN,e,AH];cases k with
  |false=>simpa using t1 rfl
  |true=>
   obtain⟨Gm,h2,Au,t⟩:=Ct rfl;simp only[if_true,Au,AH];cases Gm with
   |AP DA=>obtain⟨m,hm,t⟩:=t;exact aR I T Df f m DA h2 t (by lia)
   |Cv DA=>obtain⟨m,hm,t⟩:=t;exact aR I T Df f m DA h2 t (by lia)
   |BF DA=>exact⟨_,_,rfl,t⟩
   |Do w=>exact⟨_,_,rfl,t⟩
def rZ{c:DK}{b:An}{ρ:BI}{h:A5}(I:Nat->BI->A5->Prop){T:En->A5->Prop}{n:Nat}(AW:n<1000)(FA:I n ρ h)(Df:∀n ρ h,I n ρ h->∃k h1,c ρ h=.ok (k,h1)/\(k=false->T (.AP ρ) h1)/\(k=true->Ends (b ρ h1) (L2 (λDx h'=>∃m,m<n/\I m Dx h') T))):Ends (Su c b ρ h) T:=
 aR I T Df 1000 n ρ h FA AW
theorem eJ{it:HQ}{g:DC}{t:DK}{e:B9}{h:A5}(ws:List W)(p:W->Bool)(f:W->W)(BO:BI->Prop)(AF:ws.length<1000)(hit:∀j acc,j<=ws.length->it j (h++[⟨.lst,acc⟩])=some ws[j]?)(Df:∀w∈ws,∀ρ acc,BO ρ->∃CI,g w ρ (h++[⟨.lst,acc⟩])=.ok (.AP CI,h++[⟨.lst,acc⟩])/\BO CI/\t CI (h++[⟨.lst,acc⟩])=.ok (p w,h++[⟨.lst,acc⟩])/\(p w=true->e CI (h++[⟨.lst,acc⟩])=.ok (f w,h++[⟨.lst,acc⟩]))) :
  ∀k j ρ acc,j<=ws.length->ws.length-j<k->acc.length<=j->BO ρ->K0 it g t e h.length k j ρ (h++[⟨.lst,acc⟩])=.ok (h++[⟨.lst,acc++((ws.drop j).filter p).map f⟩])
 |0,j,ρ,acc,Af,l,Hh,i=>by lia
 |k+1,j,ρ,acc,Af,l,Hh,i=>by
  unfold K0;rw[hit _ _ Af];by_cases EG:j<ws.length
  .have CK:=Vg EG;rw[CF EG];obtain⟨CI,A9,B1,AE,Er⟩:=Df ws[j] (Lh EG) ρ acc i;simp only[A9,AH,AE];cases AT:p ws[j]with
   |false=>rw[if_neg (by simp),eJ ws p f BO AF hit Df k (j+1) CI acc EG (by lia) (by lia) B1,CK];simp only[Ps,AT,Gj,if_false]
   |true=>rw[if_pos rfl,Er AT];simp only[AH,Go,DJ,TR,MR];rw[if_pos (show acc.length<B4 by unfold B4;lia),eJ ws p f BO AF hit Df k (j+1) CI (acc++[f ws[j]]) EG (by lia) (by simp;lia) B1,CK];simp only[Ps,AT,if_true,DB,FS,Ho,Oh]
  .have:j=ws.length:=by lia
   subst this;simp
def X_{mi:Fw}{it:HQ}{g:DC}{t:DK}{e:B9}{ρ:BI}{h h0:A5}{nl:Nat}{caps:List Nat}(ws:List W)(p:W->Bool)(f:W->W)(BO:BI->Prop)(AF:ws.length<1000)(A7:mi ρ h0=.ok (it,h))(FA:BO (P4 nl caps ρ))(hit:∀j acc,j<=ws.length->it j (h++[⟨.lst,acc⟩])=some ws[j]?)(Df:∀w∈ws,∀ρ acc,BO ρ->∃CI,g w ρ (h++[⟨.lst,acc⟩])=.ok (.AP CI,h++[⟨.lst,acc⟩])/\BO CI/\t CI (h++[⟨.lst,acc⟩])=.ok (p w,h++[⟨.lst,acc⟩])/\(p w=true->e CI (h++[⟨.lst,acc⟩])=.ok (f w,h++[⟨.lst,acc⟩]))) :
  EO nl caps mi g t e ρ h0=.ok (.ref h.length,h++[⟨.lst,(ws.filter p).map f⟩]):=by
 unfold EO;simp only[JN,A7,AH];rw[eJ ws p f BO AF hit Df Jt 0 _ [] (Gi _) (by unfold Jt;lia) (C1 _) FA];simp
def Xa{mi:Fw}{e:B9}{ρ:BI}{h h0:A5}{caps:List Nat}(lo:Int)(n:Nat)(f:Nat->W)(AF:n<1000)(A7:mi ρ h0=.ok (Kh lo n,h))(Df:∀j,j<n->∀acc,e (some (.int (lo+j))::caps.map λj=>ρ.getD j none) (h++[⟨.lst,acc⟩])=.ok (f j,h++[⟨.lst,acc⟩])) :
  EO 1 caps mi (AC 0) (pu true) e ρ h0=.ok (.ref h.length,h++[⟨.lst,(Cd n).map f⟩]):=by
 let F3:W->Nat:=λw=>match w with
  |.int i=>(i-lo).toNat
  |_=>0
 have AG:∀j:Nat,(lo+(j:Int)-lo).toNat=j:=λj=>by lia
 have:=X_ (mi:=mi) (g:=AC 0) (t:=pu true) (e:=e) (ρ:=ρ) (nl:=1) (caps:=caps) ((Cd n).map λj:Nat=>W.int (lo+(j:Int))) (λ_=>true) (λw=>f (F3 w)) (λDx=>∃x,Dx=x::caps.map λj=>ρ.getD j none) (by simpa using AF) A7 ⟨none,rfl⟩ (λj acc _=>by
  simp only[Kh,Em,Pw];by_cases Af:j<n
  .simp[Af]
  .simp[Af]) λw hw Dx acc⟨x,AG⟩=>by obtain⟨j,Af,rfl⟩:=List.mem_map.mp hw;subst AG;refine⟨some (.int (lo+j))::caps.map λj=>ρ.getD j none,by simp,⟨_,rfl⟩,rfl,λ_=>?_⟩;rw[Df j (List.mem_range.mp Af) acc];simp[F3,AG]
 rw[this];simp[F3,AG,List.filter_eq_self.mpr,Q0]
@[simp] theorem abd(ma:EK)(ρ:BI)(h:A5):E2 ma ρ h=(ma ρ h).bind λp=>match p.1 with
  |[.int j]=>if-(2^62)<=j/\j<2^62 then .ok (Kh 0 j.toNat,p.2)else .bad
  |_=>.bad:=by
  unfold E2 bd;congr;funext p;obtain⟨ws,g⟩:=p;rcases ws with _|⟨w,_|⟨u,r⟩⟩
  .rfl
  .cases w<;>first|rfl|(dsimp only;split<;>rfl)
  .cases w<;>rfl
def kE{n:Nat}(AW:n<1000): -(2^62)<=(n:Int)/\(n:Int)<2^62:=by
 have:(2:Int)^62=4611686018427387904:=by decide
 rw[this];lia
def Kg{ma:EK}{ρ:BI}{h h0:A5}{n:Nat}(e:ma ρ h0=.ok ([.int (n:Int)],h))(AW:n<1000):E2 ma ρ h0=.ok (Kh 0 n,h):=by rw[abd,e,AH];exact if_pos (kE AW)
def Yi{P:List A3->Prop}(h:P []):∀us:List A3,us.length=0->P us
 |[],_=>h
def Yj{P:List A3->Prop}{n:Nat}(h:∀a us,us.length=n->P (a::us)):∀us:List A3,us.length=n+1->P us
 |a::us,e=>h a us (Nat.succ.inj e)
def VQ:A3->Option W
 |.int i _=>some (.int i)
 |.str x _=>some (.str x)
 |_=>none
theorem nQ{K:Ad}:∀{us:List A3}{ws:List W},us.mapM VQ=some ws->∃xs,Vals xs us/\∀φ H,Ac K φ H ws xs
 |[],ws,e=>by simp at e;subst e;exact⟨[],.nil,λ_ _=>.nil⟩
 |u::us,ws,e=>by
  rw[W0]at e;cases FV:VQ u with
  |none=>rw[FV]at e;cases e
  |some w=>
   cases BJ:us.mapM VQ with
   |none=>rw[FV,BJ]at e;cases e
   |some r=>
    rw[FV,BJ]at e;cases e;obtain⟨xs,v,a⟩:=nQ (K:=K) BJ;cases u<;>simp only[VQ]at FV<;>first|(cases FV;done)|skip
    .cases FV;exact⟨.int _::xs,.cons ⟨_,rfl⟩ v,λφ H=>.cons (by simp only[AQ]) (a φ H)⟩
    .cases FV;exact⟨.str _::xs,.cons ⟨_,rfl⟩ v,λφ H=>.cons (by simp only[AQ]) (a φ H)⟩
section
variable{K:Ad}{h:Ar}{mg:Str->Option A3}{x qual DS:Str}{C f:A4}{st:BM}{ps Ay:List Str}{Di an:Option A4}{C9:Array (Option A3)}{Fu CU Hy pm cd Cv:A3}
abbrev WT(x qual:Str)(st:BM)(ps:List Str):Prop:=∀(CU doc pm:A3)(an:Option A4)(F1 Cv:A3)(us:List A3),us.length=ps.length->bindArgs (JT x qual (LA st) (JX st) (Bt st) .none CU doc pm an F1 Cv) ⟨us,[]⟩=pure (ps.zip us)
def sv(X:K.In h)(G:h.Ns Fm mg)(a:Kr K Fm x=some (some (.ref f)))(l:K.lookup f=some ⟨Fu,Di,.func (JT x x (LA st) (JX st) (Bt st) .none CU Hy pm an cd Cv),C9⟩)(c:MQ K cd x=true)(k:JP K (.ref f)=true)(b:WT x x st ps:=by intro _ _ _ _ _ _;(repeat refine Yj λ_=>?_);exact Yi rfl):Dl K mg x st ps:=⟨⟨f,_,Qi (st:=st) l c k,RS X G a,(Qi (st:=st) l c k).binds b⟩⟩
def xv(n:Kr K Fm DS=some (some (.ref C)))(g1:RY K C Str.empty=true)(g2:T6 K C=true)(g3:Vb K C=true)(g4:Ir K (.ref C) "__setattr__"=some (some (.builtin "object.__setattr__")))(a:Ir K (.ref C) x=some (some (.ref f)))(l:K.lookup f=some ⟨Fu,Di,.func (JT x qual (LA st) (JX st) (Bt st) .none CU Hy pm an cd Cv),C9⟩)(c:MQ K cd qual=true)(k:JP K (.ref f)=true)(i:TF K (.ref f)=true)(b:WT x qual st ps:=by intro _ _ _ _ _ _;(repeat refine Yj λ_=>?_);exact Yi rfl):L5 K DS x qual st ps:=⟨⟨C,f,_,n,⟨g1,g2,g3,g4⟩,⟨a,i,k⟩,Qi (st:=st) l c k,(Qi (st:=st) l c k).binds b⟩⟩
def wX(X:K.In h)(G:h.Ns Fm mg)(n:Kr K Fm DS=some (some (.ref C)))(mk:c1 K C=true)(kc:JP K (.ref C)=true)(a:Ir K (.ref C) "__init__"=some (some (.ref f)))(l:K.lookup f=some ⟨Fu,Di,.func (JT "__init__" qual (LA st) (JX st) (Bt st) .none CU Hy pm an cd Cv),C9⟩)(c:MQ K cd qual=true)(k:JP K (.ref f)=true)(i:TF K (.ref f)=true)(b:WT "__init__" qual st ps:=by intro _ _ _ _ _ _;(repeat refine Yj λ_=>?_);exact Yi rfl):InK K mg DS qual st ps:=⟨⟨C,f,_,n,⟨mk,a,i,kc⟩,Qi (st:=st) l c k,RS X G n,(Qi (st:=st) l c k).binds b⟩⟩
def qf(n:Kr K Fm DS=some (some (.ref C)))(g1:RY K C Str.empty=true)(g2:T6 K C=true)(g3:Vb K C=true)(g4:Ir K (.ref C) "__setattr__"=some (some (.builtin "object.__setattr__")))(u:∀f∈Ay,Ir K (.ref C) f=some none):PV K DS Ay:=⟨⟨C,n,⟨g1,g2,g3,g4⟩,u⟩⟩
def rk(X:K.In h)(G:h.Ns Fm mg)(n:Kr K Fm DS=some (some (.ref C)))(e:TH K C [.type "ValueError",.type "Exception",.type "BaseException",.type "object"] "ValueError.__new__"=true):Rp K mg DS:=⟨⟨C,n,RS X G n,e⟩⟩
def qg{i:Int}{t:Tok}(X:K.In h)(G:h.Ns Fm mg)(z:Kr K Fm x=some (some (.int i t))):Lx K mg x (.int i):=⟨⟨.int i,_,RS X G z,⟨t,rfl⟩,λ_ _=>by simp only[AQ]⟩⟩
def qK{its:Array A3}{m:Nat}{ws:List W}(X:K.In h)(G:h.Ns Fm mg)(z:Kr K Fm x=some (some (.ref C)))(y:K.lookup C=some ⟨.type "tuple",Di,.seq its m,C9⟩)(hz:its.size<=Bu)(e:its.toList.mapM VQ=some ws):Lx K mg x (.I1 ws):=by obtain⟨xs,v,a⟩:=nQ (K:=K) e;refine⟨⟨.ref C,_,RS X G z,rfl,λφ H=>?_⟩⟩;simp only[AQ];exact⟨C,xs,rfl,.inr ⟨_,its,m,y,rfl,rfl,hz,v⟩,a φ H⟩
end
def aX(ns:List Int):W:=.Eb (ns.map W.int)
theorem mG{K:Ad}{φ:List A4}{H:A8}:∀ns:List Int,Ac K φ H (ns.map W.int) (ns.map V.int)
 |[]=>.nil
 |_::ns=>.cons (by simp only[AQ]) (mG ns)
def qM{P:Bh}{w:BP}{K:Ad}{H:A8}{s:AJ}{e:A3}{s':AJ}(h:IY P w K [] H s (λ_ _ _=>False) e s'):False:=by obtain⟨a,C,He,B,A6,_,_,z⟩:=h;exact z
def abi{l:c4}{q:Bh}{loose:List Str}{KG:(Str->Option A3)->Ar->Prop}{M4:BP->Ar->Prop}{d:DefRec}{K:Params->Ad}{st:BM}{x p:Str}{N:List Str}{k:Nat}{m:An}(AW:l.most=some 63)(Qm:d.params.defaults=[])(Ao:Cu (k+1) Os)(S:CH N [p] (Bt st))(hd:d.name=x)(TQ:∀(w:BP)(h:Ar),M4 w h->(K w.params).In h)(T:∀(w:BP)(mg:Str->Option A3)(h:Ar),(K w.params).In h->h.Ns Fm mg->(∃(f:A4)(Fu:A3)(Di an:Option A4)(CU Hy pm cd Cv:A3)(C9:Array (Option A3)),Kr (K w.params) Fm x=some (some (.ref f))/\(K w.params).lookup f=some ⟨Fu,Di,.func (JT x x (LA st) (JX st) (Bt st) .none CU Hy pm an cd Cv),C9⟩/\MQ (K w.params) cd x=true/\JP (K w.params) (.ref f)=true)/\∀base:Ar,CN l.prog w (K w.params) mg base x st N k m)(BQ:∀ns:List Int,ns.length<=63->Ends (FX N.length m [aX ns] []) λw _=>w=.AM true)(b:WT x x st [p]:=by intro _ _ _ _ _ _;(repeat refine Yj λ_=>?_);exact Yi rfl) :
  cR q loose KG M4 l.row.toRowW d [] (λf vs=>WH f vs):=by
 refine B8.abk (n:=63) (k:=k+1) (x:=p) (CX:=λw=>IY l.prog w (K w.params)) (sp:=λw=>LX (K w.params) 1 (FX N.length m)) AW (by decide) Qm Ao TQ (λw mg JD h Ht G h4=>?_) (λw H a ns AF Rj MB=>?_) λw H s e s' z=>qM z
 .obtain⟨⟨f,Fu,Di,an,CU,Hy,pm,cd,Cv,C9,Bg,lk,c,Bd⟩,A1⟩:=T w mg h Ht G;rw[hd]at h4;have e:=h4.symm.trans (RS Ht G Bg);cases e;exact⟨_,λs v=>.of_eq (b CU Hy pm an cd Cv [v] rfl),λbase _ _=>Tr (Qi (st:=st) lk c Bd) S (A1 base)⟩
 .obtain⟨v,h',e,rfl⟩:=BQ ns AF;refine⟨[],[],[aX ns],⟨RU,rfl,(λn o a e=>by cases e)⟩,.cons ?_ .nil,rfl,?_⟩
  .unfold aX;simp only[AQ];refine⟨a,ns.map V.int,rfl,?_,mG ns⟩;rcases MB with(z|z)|z
   .rcases Rj a with y|⟨o,xs,y⟩
    .rw[z]at y;cases y
    .rw[z]at y;cases y
   .exact .inl z
   .exact .inr z
  .rw[e];intro v BL A6 _ _ E_;simpa only[AQ]using E_
end CG
namespace Fo
open PySem PySem.Spec B8 CG
def top(i:Nat):BM:=PySem.Challenge.pw_nohalfway_k31_come_and_go.main.body.getD i (.Pass ⟨0,0,0,0⟩)
abbrev l6:BM:=top 49
abbrev lD:BM:=top 50
abbrev l8:BM:=top 51
abbrev l9:BM:=top 52
abbrev lH:BM:=top 53
abbrev lr:BM:=top 54
abbrev lF:BM:=top 55
abbrev lB:BM:=top 57
abbrev lG:BM:=top 56
abbrev l4:BM:=top 58
abbrev l5:BM:=top 59
abbrev lh:BM:=top 25
abbrev lm:BM:=top 8
abbrev lp:BM:=top 9
abbrev lb:BM:=top 29
abbrev lj:BM:=top 30
abbrev lZ:BM:=top 31
abbrev jm:BM:=inClass (top 18) 1
abbrev l_:BM:=top 32
abbrev lJ:BM:=top 33
abbrev ll:BM:=top 40
abbrev li:BM:=top 41
abbrev lK:BM:=top 42
abbrev lT:BM:=top 13
abbrev lg:BM:=top 14
abbrev la:BM:=top 15
abbrev lq:BM:=top 16
abbrev lW:BM:=top 17
abbrev jn:BM:=inClass (top 18) 0
abbrev jq:BM:=inClass (top 18) 2
abbrev lV:BM:=top 19
abbrev lU:BM:=top 45
abbrev jt:BM:=inClass (top 47) 0
abbrev lY:BM:=top 24
abbrev jo:BM:=inClass (top 18) 5
abbrev jp:BM:=inClass (top 18) 6
abbrev kO:BM:=inClass (top 46) 0
abbrev jr:BM:=inClass (top 47) 2
abbrev ju:BM:=inClass (top 47) 5
abbrev lX:BM:=top 26
abbrev lL:BM:=top 34
abbrev kP:BM:=inClass (top 18) 3
abbrev lI:BM:=top 36
abbrev lS:BM:=inClass (top 47) 4
abbrev js:BM:=inClass (top 47) 3
abbrev kQ:BM:=inClass (top 47) 1
abbrev lA:BM:=top 60
abbrev lE:BM:=top 61
abbrev lC:BM:=top 62
abbrev l7:BM:=top 63
abbrev JM:BM:=top 64
def Ta:W:=.int 15
def Rz:W:=.int 4
def S0:W:=.int 6
def Tb:W:=.int 12
def S1:W:=.int 40
def Qb:W:=.I1 [.str (As "0"),.str (As "1"),.str (As "x")]
def OJ:W:=.I1 [.str (As "wait")]
def OK:W:=.I1 [.int 8,.int 4,.int 2,.int 1]
structure DR(K:Ad)(mg:Str->Option A3):Prop where
 sZ:Dl K mg "_law_cell_at" l6 ["_law_script","_law_k"]
 sg:Dl K mg "_law_mixed" lD ["_law_cell","_law_k"]
 sa:Dl K mg "_law_counts" l8 ["_law_cell"]
 sb:Dl K mg "_law_doors" l9 ["_law_counts_here"]
 sk:Dl K mg "_law_wires" lH ["_law_cell","_law_counts_here"]
 sW:Dl K mg "_law_beyond" lr ["_law_wires_here","_law_door"]
 si:Dl K mg "_law_outer" lF ["_law_counts_here","_law_wires_here"]
 se:Dl K mg "_law_free_book" lB ["_law_number","_law_count"]
 sj:Dl K mg "_law_row" lG ["_law_cell","_law_k","_law_count"]
 sX:Dl K mg "_law_books" l4 ["_law_cells","_law_counts_here","_law_shift"]
 sY:Dl K mg "_law_both" l5 ["_law_script","_law_counts_here"]
 tG:Dl K mg "is_pattern" lh ["thing"]
 sT:Dl K mg "is_whole" lm ["thing"]
 sU:Dl K mg "is_whole_within" lp ["thing","least","greatest"]
 tE:Dl K mg "is_number_or_none" lb ["thing","doors"]
 tI:Dl K mg "is_row" lj ["thing","doors"]
 tB:Dl K mg "is_book" lZ ["thing","doors"]
 rK:L5 K "Net" "count" "Net.count" jm ["self","house"]
 tC:Dl K mg "is_books" l_ ["thing","net"]
 sm:Dl K mg "refuse_unless_books" lJ ["thing","net"]
 tJ:Dl K mg "is_step" ll ["thing","net"]
 tH:Dl K mg "is_plan" li ["thing","net"]
 sq:Dl K mg "refuse_unless_plan" lK ["net","old","new","plan"]
 t5:Dl K mg "are_counts" lT ["thing"]
 tF:Dl K mg "is_pair" lg ["thing"]
 tD:Dl K mg "is_door_among" la ["counts","thing"]
 sV:Dl K mg "is_wire_among" lq ["counts","thing"]
 t8:Dl K mg "far_doors" lW ["counts","wires"]
 rL:InK K mg "Net" "Net.__init__" jn ["self","counts","wires"]
 rn:L5 K "Net" "wires" "Net.wires" jq ["self"]
 t7:Dl K mg "copied_net" lV ["net"]
 t6:Dl K mg "copied_books" lU ["books"]
 sz:InK K mg "Run" "Run.__init__" jt ["self","net","old","new","plan"]
 tA:Dl K mg "is_address" lY ["thing"]
 rM:L5 K "Net" "is_door" "Net.is_door" jo ["self","thing"]
 rN:L5 K "Net" "is_outer" "Net.is_outer" jp ["self","thing"]
 rI:InK K mg "Letter" "Letter.__init__" kO ["self","mark","door","address"]
 sx:L5 K "Run" "come" "Run.come" jr ["self","door","address"]
 t0:L5 K "Run" "knows" "Run.knows" ju ["self","house","mark"]
 t9:Dl K mg "fits" lX ["pattern","address"]
 sr:Dl K mg "taken" lL ["book","door","address"]
 rJ:L5 K "Net" "beyond" "Net.beyond" kP ["self","door"]
 sl:Dl K mg "onward" lI ["net","book","door","address"]
 t4:L5 K "Run" "next_of" "Run.next_of" lS ["self","letter"]
 sy:L5 K "Run" "go" "Run.go" js ["self","number"]
 t2:L5 K "Run" "move" "Run.move" kQ ["self","move"]
 sd:Dl K mg "_law_fits" lA ["_law_pattern","_law_address"]
 sh:Dl K mg "_law_next" lE ["_law_wires_here","_law_book","_law_door","_law_address"]
 sf:Dl K mg "_law_gone" lC ["_law_run","_law_wires_here","_law_old","_law_letters","_law_number"]
 s_:Dl K mg "_law_cleared" l7 ["_law_run","_law_wires_here","_law_old","_law_letters"]
 afH:Dl K mg "law" JM ["_law_script"]
 ic:PV K "Letter" ["address","doors","mark"]
 ie:PV K "Net" ["counts","far","joined","many"]
 ig:PV K "Run" ["books","came","done","ended","letters","net","plan"]
 qo:mg "all"=none
 qp:mg "bool"=none
 qq:mg "enumerate"=none
 f8:mg "int"=none
 TW:mg "isinstance"=none
 fF:mg "len"=none
 cb:mg "list"=none
 cc:mg "range"=none
 qr:mg "set"=none
 qs:mg "sorted"=none
 fG:mg "str"=none
 fI:mg "tuple"=none
 qt:mg "zip"=none
 Ta:Lx K mg "GREATEST_ADDRESS" Ta
 Rz:Lx K mg "MOST_DOORS" Rz
 S0:Lx K mg "MOST_HOUSES" S0
 Tb:Lx K mg "MOST_ROWS" Tb
 S1:Lx K mg "MOST_STEPS" S1
 Qb:Lx K mg "SIGNS" Qb
 OJ:Lx K mg "WAIT" OJ
 OK:Lx K mg "WORTHS" OK
 abH:Rp K mg "NoBooks"
 abI:Rp K mg "NoMove"
 abJ:Rp K mg "NoNet"
 abK:Rp K mg "NoPlan"
def my:CH ["_law_script","_law_k"] ["_law_script","_law_k"] (Bt l6):=Cy
def XR:An:=
    (AO (Bp (A_ (A0 R0 (J 1) (B0 Bw (Z (J 0) A2)))) (B5 (A0 AI (J 0) (J 1))) Br)
    (B5 (pu (.int 0))))
def KZ:Bz:=Dh 2 XR
def m8:CH ["_law_cell","_law_k","_law_factor","_law_prime"] ["_law_cell","_law_k"] (Bt lD):=Cy
noncomputable def cY:An:=
    (AO (AZ (CB (A0 AI (CO (Z (pu (.int 48271)) (Z (pu (.int 69621)) (Z (pu (.int 16807)) (Z (pu (.int 39373)) (Z (pu (.int 40692)) (Z (pu (.int 742938285)) (Z (pu (.int 950706376)) (Z (pu (.int 1343714438)) A2))))))))) (A0 BZ (J 1) (pu (.int 8))))) (AC 2))
    (AO (AZ (CB (A0 AI (CO (Z (pu (.int 2147483647)) (Z (pu (.int 2147483629)) (Z (pu (.int 2147483587)) (Z (pu (.int 2147483579)) (Z (pu (.int 2147483563)) A2)))))) (A0 BZ (J 1) (pu (.int 5))))) (AC 3))
    (B5 (A0 CT (A0 BZ (A0 Hi (A0 addW (A0 addW (A0 BZ (J 0) (A0 Nb (pu (.int 10)) (pu (.int 30)))) (A0 Hi (pu (.int 31)) (J 1))) (pu (.int 7))) (J 2)) (J 3)) (pu (.int 7))))))
def Dv:Bz:=Dh 4 cY
def n0:CH ["_law_cell","_law_number"] ["_law_cell"] (Bt l8):=Cy
noncomputable def XS:An:=
    (AO (Bp (A_ (A0 (BH true) (A0 BZ (J 0) (pu (.int 2))) (pu (.int 1)))) (AO (AZ (A0 BZ (A0 CT (J 0) (pu (.int 2))) (A0 Nb (pu (.int 10)) (pu (.int 60)))) (AC 1))
    (B5 (EO 1 [1] (E2 (Z (A0 addW (pu (.int 1)) (A0 BZ (J 1) (pu (.int 6)))) A2)) (AC 0) (pu true) (CB (A0 addW (pu (.int 1)) (A0 BZ (A0 CT (A0 CT (J 1) (pu (.int 6))) (A0 AI (CO (Z (pu (.int 1)) (Z (pu (.int 4)) (Z (pu (.int 16)) (Z (pu (.int 64)) (Z (pu (.int 256)) (Z (pu (.int 1024)) A2))))))) (J 0))) (pu (.int 4)))))))) Br)
    (B5 (EO 1 [0] (E2 (Z (A0 addW (pu (.int 1)) (A0 BZ (Ap 2 Dv (Z (J 0) (Z (pu (.int 0)) A2))) (pu (.int 6)))) A2)) (AC 0) (pu true) (A0 addW (pu (.int 1)) (A0 BZ (Ap 2 Dv (Z (J 1) (Z (A0 addW (pu (.int 1)) (J 0)) A2))) (pu (.int 4)))))))
def R8:Bz:=Dh 2 XS
def n1:CH ["_law_counts_here","_law_doors_here","_law_house"] ["_law_counts_here"] (Bt l9):=Cy
noncomputable def dD:An:=
    (AO (AZ (CO A2) (AC 1))
    (AO (Ed (E2 (Z (B0 Bw (Z (J 0) A2)) A2)) (AC 2) (AZ (CB (A0 addW (J 1) (EO 1 [2] (E2 (Z (A0 AI (J 0) (J 2)) A2)) (AC 0) (pu true) (Bn (Z (J 1) (Z (J 0) A2)))))) (AC 1)))
    (B5 (J 1))))
def R9:Bz:=Dh 3 dD
def mC:CH ["_law_cell","_law_counts_here","_law_doors_here","_law_wires_here","_law_number","_law_keep","_law_k","_law_picks","_law_one","_law_other"] ["_law_cell","_law_counts_here"] (Bt lH):=Cy
noncomputable def ca:An:=
    (AO (AZ (Ap 1 R9 (Z (J 1) A2)) (AC 2))
    (AO (AZ (CO A2) (AC 3))
    (AO (AZ (A0 CT (A0 BZ (A0 CT (J 0) (pu (.int 2))) (A0 Nb (pu (.int 10)) (pu (.int 60)))) (pu (.int 24576))) (AC 4))
    (AO (AZ (A0 addW (pu (.int 1)) (A0 BZ (Ap 2 Dv (Z (J 0) (Z (pu (.int 8)) A2))) (pu (.int 3)))) (AC 5))
    (AO (Bp (A_ (A0 (BH true) (A0 BZ (J 0) (pu (.int 2))) (pu (.int 1)))) (AO (AZ (A0 addW (pu (.int 1)) (A0 BZ (J 4) (pu (.int 24)))) (AC 5))
    (AZ (A0 CT (J 4) (pu (.int 24))) (AC 4))) Br)
    (AO (AZ (pu (.int 9)) (AC 6))
    (AO (Xz (A_ (A0 MA (B0 Bw (Z (J 2) A2)) (A0 addW (J 5) (pu (.int 1))))) (AO (AZ (CO (Z (Ap 2 Dv (Z (J 0) (Z (J 6) A2))) (Z (Ap 2 Dv (Z (J 0) (Z (A0 addW (J 6) (pu (.int 1))) A2))) A2))) (AC 7))
    (AO (Bp (A_ (A0 (BH true) (A0 BZ (J 0) (pu (.int 2))) (pu (.int 1)))) (AO (AZ (CO (Z (J 4) (Z (A0 CT (J 4) (B0 Bw (Z (J 2) A2))) A2))) (AC 7))
    (AZ (A0 CT (A0 CT (J 4) (B0 Bw (Z (J 2) A2))) (A0 Pg (B0 Bw (Z (J 2) A2)) (pu (.int 1)))) (AC 4))) Br)
    (AO (AZ (E1 L0 (J 2) (Z (A0 BZ (A0 AI (J 7) (pu (.int 0))) (B0 Bw (Z (J 2) A2))) A2)) (AC 8))
    (AO (AZ (E1 L0 (J 2) (Z (A0 BZ (A0 AI (J 7) (pu (.int 1))) (B0 Bw (Z (J 2) A2))) A2)) (AC 9))
    (AO (Fs (E1 FU (J 3) (Z (Bn (Z (J 8) (Z (J 9) A2))) A2)))
    (AZ (A0 addW (J 6) (pu (.int 2))) (AC 6))))))))
    (B5 (J 3)))))))))
def Mq:Bz:=Dh 10 ca
def mv:CH ["_law_wires_here","_law_door","_law_one","_law_other"] ["_law_wires_here","_law_door"] (Bt lr):=Cy
def dC:An:=
    (AO (Ed (Dc (J 0)) (FP [(AC 2),(AC 3)]) (AO (Bp (A_ (A0 (BH true) (J 2) (J 1))) (B5 (J 3)) Br)
    (Bp (A_ (A0 (BH true) (J 3) (J 1))) (B5 (J 2)) Br)))
    (B5 (pu (.non))))
def Ou:Bz:=Dh 4 dC
def mA:CH ["_law_counts_here","_law_wires_here"] ["_law_counts_here","_law_wires_here"] (Bt lF):=Cy
def cZ:An:=
    (B5 (EO 1 [1] (Dc (Ap 1 R9 (Z (J 0) A2))) (AC 0) (A_ (A0 (EA true) (Ap 2 Ou (Z (J 1) (Z (J 0) A2))) (pu (.non)))) (J 0)))
def SN:Bz:=Dh 2 cZ
def n3:CH ["_law_number","_law_count","_law_book","_law_many","_law_choices","_law_k","_law_pattern","_law_j"] ["_law_number","_law_count"] (Bt lB):=Cy
noncomputable def fD:An:=
    (AO (AZ (CO A2) (AC 2))
    (AO (AZ (A0 BZ (J 0) (pu (.int 13))) (AC 3))
    (AO (AZ (A0 CT (J 0) (pu (.int 13))) (AC 0))
    (AO (AZ (CB (A0 addW (CO (Z (pu (.non)) A2)) (B0 Ny (Z (J 1) A2)))) (AC 4))
    (AO (Ed (E2 (Z (J 3) A2)) (AC 5) (AO (AZ (pu (.str (As ""))) (AC 6))
    (AO (Ed (E2 (Z (pu (.int 4)) A2)) (AC 7) (AO (AZ (A0 addW (J 6) (A0 AI (pu (.str (As "01x"))) (A0 BZ (J 0) (pu (.int 3))))) (AC 6))
    (AZ (A0 CT (J 0) (pu (.int 3))) (AC 0))))
    (AO (Fs (E1 FU (J 2) (Z (Bn (Z (J 6) (Z (A0 AI (J 4) (A0 BZ (J 0) (A0 addW (J 1) (pu (.int 1))))) (Z (A0 AI (J 4) (A0 BZ (A0 CT (J 0) (A0 addW (J 1) (pu (.int 1)))) (A0 addW (J 1) (pu (.int 1))))) A2)))) A2)))
    (AZ (A0 CT (A0 CT (J 0) (A0 addW (J 1) (pu (.int 1)))) (A0 addW (J 1) (pu (.int 1)))) (AC 0))))))
    (B5 (J 2)))))))
def SM:Bz:=Dh 8 fD
def mB:CH ["_law_cell","_law_k","_law_count","_law_number","_law_pattern","_law_j","_law_door","_law_out"] ["_law_cell","_law_k","_law_count"] (Bt lG):=Cy
noncomputable def c_:An:=
    (AO (AZ (Ap 2 Dv (Z (J 0) (Z (J 1) A2))) (AC 3))
    (AO (AZ (pu (.str (As ""))) (AC 4))
    (AO (Ed (E2 (Z (pu (.int 4)) A2)) (AC 5) (AO (AZ (CB (A0 addW (J 4) (A0 AI (CO (Z (pu (.str (As "x"))) (Z (pu (.str (As "x"))) (Z (pu (.str (As "0"))) (Z (pu (.str (As "1"))) (Z (pu (.str (As "x"))) A2)))))) (A0 BZ (J 3) (pu (.int 5)))))) (AC 4))
    (AZ (A0 CT (J 3) (pu (.int 5))) (AC 3))))
    (AO (AZ (pu (.non)) (AC 6))
    (AO (Bp (A_ (A0 (BH true) (A0 BZ (J 3) (pu (.int 3))) (pu (.int 0)))) (AZ (A0 BZ (A0 CT (J 3) (pu (.int 3))) (J 2)) (AC 6)) Br)
    (AO (AZ (A0 BZ (A0 CT (J 3) (pu (.int 20))) (J 2)) (AC 7))
    (AO (Bp (A_ (A0 (BH true) (A0 BZ (A0 CT (J 3) (pu (.int 100))) (pu (.int 9))) (pu (.int 0)))) (AZ (pu (.non)) (AC 7)) Br)
    (B5 (Bn (Z (J 4) (Z (J 6) (Z (J 7) A2))))))))))))
def Uc:Bz:=Dh 8 c_
def mw:CH ["_law_cells","_law_counts_here","_law_shift","_law_books_here","_law_house","_law_cell","_law_many"] ["_law_cells","_law_counts_here","_law_shift"] (Bt l4):=Cy
noncomputable def f9:An:=
    (AO (AZ (CO A2) (AC 3))
    (AO (Ed (E2 (Z (B0 Bw (Z (J 1) A2)) A2)) (AC 4) (AO (AZ (A0 addW (A0 addW (pu (.int 17)) (A0 Hi (pu (.int 5)) (J 4))) (J 2)) (AC 5))
    (AO (Bp (IB (A_ (A0 (BH false) (J 0) (CO A2)))) (AZ (A0 AI (J 0) (A0 BZ (A0 addW (J 4) (J 2)) (B0 Bw (Z (J 0) A2)))) (AC 5)) Br)
    (Bp (IB (HI (A_ (A0 (BH false) (J 0) (CO A2))) (A_ (A0 (BH true) (A0 BZ (J 5) (pu (.int 2))) (pu (.int 1)))))) (Fs (E1 FU (J 3) (Z (Ap 2 SM (Z (A0 BZ (A0 CT (J 5) (pu (.int 2))) (A0 Nb (pu (.int 10)) (pu (.int 60)))) (Z (A0 AI (J 1) (J 4)) A2))) A2))) (AO (AZ (A0 addW (J 5) (A0 Hi (pu (.int 3)) (J 4))) (AC 5))
    (AO (AZ (CB (A0 AI (CO (Z (pu (.int 1)) (Z (pu (.int 2)) (Z (pu (.int 3)) (Z (pu (.int 0)) (Z (pu (.int 2)) (Z (pu (.int 4)) (Z (pu (.int 12)) A2)))))))) (A0 BZ (Ap 2 Dv (Z (J 5) (Z (pu (.int 3)) A2))) (pu (.int 7))))) (AC 6))
    (Fs (E1 FU (J 3) (Z (EO 1 [5,1,4,2] (E2 (Z (J 6) A2)) (AC 0) (pu true) (Ap 3 Uc (Z (J 1) (Z (A0 addW (A0 addW (pu (.int 4)) (J 4)) (A0 Hi (pu (.int 3)) (J 0))) (Z (A0 AI (J 2) (J 3)) A2))))) A2)))))))))
    (B5 (J 3))))
def MK:Bz:=FX 7 f9
def mx:CH ["_law_script","_law_counts_here","_law_old","_law_new","_law_house"] ["_law_script","_law_counts_here"] (Bt l5):=Cy
noncomputable def fA:An:=
    (AO (AZ (Ap 3 MK (Z (CB (HJ (J 0) (Ft (pu (.int 2))) (Ft (pu (.int 9))))) (Z (J 1) (Z (pu (.int 0)) A2)))) (AC 2))
    (AO (AZ (Ap 3 MK (Z (CB (HJ (J 0) (Ft (pu (.int 9))) (Ft (pu (.int 16))))) (Z (J 1) (Z (pu (.int 1)) A2)))) (AC 3))
    (AO (Ed (E2 (Z (B0 Bw (Z (J 1) A2)) A2)) (AC 4) (Bp (A_ (A0 (BH true) (A0 BZ (Ap 2 Dv (Z (Ap 2 KZ (Z (J 0) (Z (pu (.int 1)) A2))) (Z (J 4) A2))) (pu (.int 4))) (pu (.int 0)))) (AZ (B0 Db (Z (A0 AI (J 2) (J 4)) A2)) (Ri (J 3) (J 4))) Br))
    (B5 (Bn (Z (J 2) (Z (J 3) A2)))))))
def SK:Bz:=FX 5 fA
def mj:CH ["thing"] ["thing"] (Bt lh):=Cy
noncomputable def d8:An:=
    (AO (Bp (EV (DT (A_ (Bf (D5 "str") (J 0)))) (A_ (A0 (BH false) (B0 Bw (Z (J 0) A2)) (B0 Bw (Z (pu OK) A2))))) (B5 (pu (.AM false))) Br)
    (B5 (CB (B0 (Jm true) (Z (EO 1 [] (Dc (J 0)) (AC 0) (pu true) (A0 (E0 true) (J 0) (pu Qb))) A2)))))
def Ua:Bz:=Dh 1 d8
def mq:CH ["thing"] ["thing"] (Bt lm):=Cy
def dA:An:=
    (B5 (LO (Bf (D5 "int") (J 0)) (UR (Bf (D5 "bool") (J 0)))))
def SI:Bz:=Dh 1 dA
def mr:CH ["thing","least","greatest"] ["thing","least","greatest"] (Bt lp):=Cy
def XQ:An:=
    (B5 (LO (Ap 1 SI (Z (J 0) A2)) (O0 LM LM (J 1) (J 0) (J 2))))
def MJ:Bz:=Dh 3 XQ
def mf:CH ["thing","doors"] ["thing","doors"] (Bt lb):=Cy
def XN:An:=
    (B5 (US (A0 (EA true) (J 0) (pu (.non))) (Ap 3 MJ (Z (J 0) (Z (pu (.int 0)) (Z (A0 Pg (J 1) (pu (.int 1))) A2))))))
def SH:Bz:=Dh 2 XN
def mm:CH ["thing","doors"] ["thing","doors"] (Bt lj):=Cy
noncomputable def d9:An:=
    (AO (Bp (EV (DT (A_ (Bf (D5 "tuple") (J 0)))) (A_ (A0 (BH false) (B0 Bw (Z (J 0) A2)) (pu (.int 3))))) (B5 (pu (.AM false))) Br)
    (AO (Bp (DT (A_ (Ap 1 Ua (Z (A0 AI (J 0) (pu (.int 0))) A2)))) (B5 (pu (.AM false))) Br)
    (B5 (LO (Ap 2 SH (Z (A0 AI (J 0) (pu (.int 1))) (Z (J 1) A2))) (Ap 2 SH (Z (A0 AI (J 0) (pu (.int 2))) (Z (J 1) A2)))))))
def Ub:Bz:=Dh 2 d9
def mc:CH ["thing","doors"] ["thing","doors"] (Bt lZ):=Cy
noncomputable def d4:An:=
    (AO (Bp (EV (DT (A_ (Bf (D5 "list") (J 0)))) (A_ (A0 MA (B0 Bw (Z (J 0) A2)) (pu Tb)))) (B5 (pu (.AM false))) Br)
    (B5 (CB (B0 (Jm true) (Z (EO 1 [1] (Dc (J 0)) (AC 0) (pu true) (Ap 2 Ub (Z (J 0) (Z (J 1) A2)))) A2)))))
def U_:Bz:=Dh 2 d4
def lP:CH ["self","house"] ["self","house"] (Bt jm):=Cy
def cw:An:=
    (B5 (Mo (A_ (O0 LM R0 (pu (.int 0)) (J 1) (Bf (Bq "Net" "many") (J 0)))) (A0 AI (Bf (Bq "Net" "counts") (J 0)) (J 1)) (pu (.int 0))))
def Sv:Bz:=Dh 2 cw
def md:CH ["thing","net"] ["thing","net"] (Bt l_):=Cy
noncomputable def d5:An:=
    (AO (Bp (EV (DT (A_ (Bf (D5 "list") (J 0)))) (A_ (A0 (BH false) (B0 Bw (Z (J 0) A2)) (Bf (Bq "Net" "many") (J 1))))) (B5 (pu (.AM false))) Br)
    (B5 (CB (B0 (Jm true) (Z (EO 2 [1] (PR (Z (J 0) A2)) (FP [(AC 0),(AC 1)]) (pu true) (Ap 2 U_ (Z (J 1) (Z (ED "Net" "count" 1 Sv (J 2) (Z (J 0) A2)) A2)))) A2)))))
def Y0:Bz:=Dh 2 d5
def mE:CH ["thing","net"] ["thing","net"] (Bt lJ):=Cy
def cf:An:=
    (Bp (DT (A_ (Ap 2 Y0 (Z (J 0) (Z (J 1) A2))))) (O2 "NoBooks") Br)
def Ue:Bz:=Dh 2 cf
def mn:CH ["thing","net"] ["thing","net"] (Bt ll):=Cy
noncomputable def XP:An:=
    (AO (Bp (EV (DT (A_ (Bf (D5 "tuple") (J 0)))) (EV (A_ (A0 (E0 false) (B0 Bw (Z (J 0) A2)) (Bn (Z (pu (.int 1)) (Z (pu (.int 2)) A2))))) (DT (A_ (Bf (D5 "str") (A0 AI (J 0) (pu (.int 0)))))))) (B5 (pu (.AM false))) Br)
    (AO (Bp (A_ (A0 (BH true) (B0 Bw (Z (J 0) A2)) (pu (.int 1)))) (B5 (A0 (BH true) (A0 AI (J 0) (pu (.int 0))) (pu (.str (As "wait"))))) Br)
    (B5 (LO (A0 (E0 true) (A0 AI (J 0) (pu (.int 0))) (Bn (Z (pu (.str (As "teach"))) (Z (pu (.str (As "turn"))) (Z (pu (.str (As "forget"))) A2))))) (Ap 3 MJ (Z (A0 AI (J 0) (pu (.int 1))) (Z (pu (.int 0)) (Z (A0 Pg (Bf (Bq "Net" "many") (J 1)) (pu (.int 1))) A2))))))))
def R6:Bz:=Dh 2 XP
def ml:CH ["thing","net","once"] ["thing","net"] (Bt li):=Cy
noncomputable def XO:An:=
    (AO (Bp (EV (DT (A_ (Bf (D5 "list") (J 0)))) (A_ (A0 MA (B0 Bw (Z (J 0) A2)) (pu S1)))) (B5 (pu (.AM false))) Br)
    (AO (Bp (IB (DT (A_ (B0 (Jm true) (Z (EO 1 [1] (Dc (J 0)) (AC 0) (pu true) (Ap 2 R6 (Z (J 0) (Z (J 1) A2)))) A2))))) (B5 (pu (.AM false))) Br)
    (AO (AZ (EO 1 [] (Dc (J 0)) (AC 0) (A_ (A0 (BH false) (J 0) (pu OJ))) (J 0)) (AC 2))
    (B5 (A0 (BH true) (B0 UN (Z (J 2) A2)) (B0 Bw (Z (J 2) A2)))))))
def Y1:Bz:=Dh 3 XO
def mF:CH ["net","old","new","plan"] ["net","old","new","plan"] (Bt lK):=Cy
def cg:An:=
    (AO (Fs (Ap 2 Ue (Z (J 1) (Z (J 0) A2))))
    (AO (Fs (Ap 2 Ue (Z (J 2) (Z (J 0) A2))))
    (Bp (DT (A_ (Ap 2 Y1 (Z (J 3) (Z (J 0) A2))))) (O2 "NoPlan") Br)))
def Uf:Bz:=Dh 4 cg
def l3:CH ["thing"] ["thing"] (Bt lT):=Cy
noncomputable def d0:An:=
    (AO (Bp (EV (DT (A_ (Bf (D5 "list") (J 0)))) (DT (A_ (O0 LM LM (pu (.int 1)) (B0 Bw (Z (J 0) A2)) (pu S0))))) (B5 (pu (.AM false))) Br)
    (B5 (CB (B0 (Jm true) (Z (EO 1 [] (Dc (J 0)) (AC 0) (pu true) (Ap 3 MJ (Z (J 0) (Z (pu (.int 1)) (Z (pu Rz) A2))))) A2)))))
def UW:Bz:=Dh 1 d0
def mh:CH ["thing"] ["thing"] (Bt lg):=Cy
def d7:An:=
    (B5 (LO (Bf (D5 "tuple") (J 0)) (A0 (BH true) (B0 Bw (Z (J 0) A2)) (pu (.int 2)))))
def R5:Bz:=Dh 1 d7
def me:CH ["counts","thing"] ["counts","thing"] (Bt la):=Cy
noncomputable def d6:An:=
    (AO (Bp (EV (DT (A_ (Ap 1 R5 (Z (J 1) A2)))) (DT (A_ (Ap 3 MJ (Z (A0 AI (J 1) (pu (.int 0))) (Z (pu (.int 0)) (Z (A0 Pg (B0 Bw (Z (J 0) A2)) (pu (.int 1))) A2))))))) (B5 (pu (.AM false))) Br)
    (B5 (Ap 3 MJ (Z (A0 AI (J 1) (pu (.int 1))) (Z (pu (.int 0)) (Z (A0 Pg (A0 AI (J 0) (A0 AI (J 1) (pu (.int 0)))) (pu (.int 1))) A2))))))
def SG:Bz:=Dh 2 d6
def ms:CH ["counts","thing","both"] ["counts","thing"] (Bt lq):=Cy
noncomputable def dB:An:=
    (AO (Bp (DT (A_ (Ap 1 R5 (Z (J 1) A2)))) (B5 (pu (.AM false))) Br)
    (AO (AZ (LO (Ap 2 SG (Z (J 0) (Z (A0 AI (J 1) (pu (.int 0))) A2))) (Ap 2 SG (Z (J 0) (Z (A0 AI (J 1) (pu (.int 1))) A2)))) (AC 2))
    (B5 (LO (J 2) (A0 (BH false) (A0 AI (J 1) (pu (.int 0))) (A0 AI (J 1) (pu (.int 1))))))))
def SJ:Bz:=Dh 3 dB
def mZ:CH ["counts","wires","far","wire"] ["counts","wires"] (Bt lW):=Cy
noncomputable def f7:An:=
    (AO (AZ (Jf true) (AC 2))
    (AO (Ed (Dc (J 1)) (AC 3) (AO (Bp (DT (A_ (Ap 2 SJ (Z (J 0) (Z (J 3) A2))))) (λ_ _=>.bad) Br)
    (AO (Bp (EV (A_ (A0 (E0 true) (A0 AI (J 3) (pu (.int 0))) (J 2))) (A_ (A0 (E0 true) (A0 AI (J 3) (pu (.int 1))) (J 2)))) (λ_ _=>.bad) Br)
    (AO (Jg (J 2) (A0 AI (J 3) (pu (.int 0))) (A0 AI (J 3) (pu (.int 1))))
    (Jg (J 2) (A0 AI (J 3) (pu (.int 1))) (A0 AI (J 3) (pu (.int 0))))))))
    (B5 (J 2))))
def UY:Bz:=FX 4 f7
def lQ:CH ["self","counts","wires"] ["self","counts","wires"] (Bt jn):=Cy
noncomputable def WQ:An:=
    (AO (Bp (DT (A_ (Ap 1 UW (Z (J 1) A2)))) (O2 "NoNet") Br)
    (AO (Bp (DT (A_ (Bf (D5 "list") (J 2)))) (O2 "NoNet") Br)
    (AO (Ec "Net" "many" (J 0) (B0 Bw (Z (J 1) A2)))
    (AO (Ec "Net" "counts" (J 0) (B0 OQ (Z (J 1) A2)))
    (AO (Ec "Net" "joined" (J 0) (B0 OQ (Z (J 2) A2)))
    (Ec "Net" "far" (J 0) (Ap 2 UY (Z (Bf (Bq "Net" "counts") (J 0)) (Z (Bf (Bq "Net" "joined") (J 0)) A2)))))))))
def Mp:Bz:=FX 3 WQ
def kv:CH ["self"] ["self"] (Bt jq):=Cy
def cz:An:=
    (B5 (B0 Db (Z (Bf (Bq "Net" "joined") (J 0)) A2)))
def PS:Bz:=Dh 1 cz
def mY:CH ["net"] ["net"] (Bt lV):=Cy
def f6:An:=
    (B5 (IS "Net" 2 Mp (Z (B0 Db (Z (Bf (Bq "Net" "counts") (J 0)) A2)) (Z (ED "Net" "wires" 0 PS (J 0) A2) A2))))
def UX:Bz:=FX 1 f6
def lR:CH ["books"] ["books"] (Bt lU):=Cy
def f5:An:=
    (B5 (EO 1 [] (Dc (J 0)) (AC 0) (pu true) (CB (B0 Db (Z (J 0) A2)))))
def R4:Bz:=FX 1 f5
def kz:CH ["self","net","old","new","plan"] ["self","net","old","new","plan"] (Bt jt):=Cy
noncomputable def Wm:An:=
    (AO (Fs (Ap 4 Uf (Z (J 1) (Z (J 2) (Z (J 3) (Z (J 4) A2))))))
    (AO (Ec "Run" "net" (J 0) (Ap 1 UX (Z (J 1) A2)))
    (AO (Ec "Run" "books" (J 0) (Bn (Z (Ap 1 R4 (Z (J 2) A2)) (Z (Ap 1 R4 (Z (J 3) A2)) A2))))
    (AO (Ec "Run" "plan" (J 0) (B0 Db (Z (J 4) A2)))
    (AO (Ec "Run" "done" (J 0) (CO A2))
    (AO (Ec "Run" "came" (J 0) (pu (.int 0)))
    (AO (Ec "Run" "letters" (J 0) (Jf false))
    (Ec "Run" "ended" (J 0) (CO A2)))))))))
def R3:Bz:=FX 5 Wm
def mb:CH ["thing"] ["thing"] (Bt lY):=Cy
def d3:An:=
    (B5 (Ap 3 MJ (Z (J 0) (Z (pu (.int 0)) (Z (pu Ta) A2)))))
def SF:Bz:=Dh 1 d3
def kr:CH ["self","thing"] ["self","thing"] (Bt jo):=Cy
def cx:An:=
    (B5 (Ap 2 SG (Z (Bf (Bq "Net" "counts") (J 0)) (Z (J 1) A2))))
def UV:Bz:=Dh 2 cx
def ku:CH ["self","thing"] ["self","thing"] (Bt jp):=Cy
def cy:An:=
    (B5 (LO (ED "Net" "is_door" 1 UV (J 0) (Z (J 1) A2)) (A0 (E0 false) (J 1) (Bf (Bq "Net" "far") (J 0)))))
def Sw:Bz:=Dh 2 cy
def lN:CH ["self","mark","door","address"] ["self","mark","door","address"] (Bt kO):=Cy
def WP:An:=
    (AO (Ec "Letter" "mark" (J 0) (J 1))
    (AO (Ec "Letter" "address" (J 0) (J 3))
    (Ec "Letter" "doors" (J 0) (CO (Z (J 2) A2)))))
def UU:Bz:=FX 4 WP
def kx:CH ["self","door","address","number","mark"] ["self","door","address"] (Bt jr):=Cy
noncomputable def WR:An:=
    (AO (Bp (EV (DT (A_ (ED "Net" "is_outer" 1 Sw (Bf (Bq "Run" "net") (J 0)) (Z (J 1) A2)))) (DT (A_ (Ap 1 SF (Z (J 2) A2))))) (O2 "NoMove") Br)
    (AO (AZ (Bf (Bq "Run" "came") (J 0)) (AC 3))
    (AO (AZ (Mo (A_ (A0 (E0 true) (Bn (Z (pu (.str (As "turn"))) (Z (A0 AI (J 1) (pu (.int 0))) A2))) (Bf (Bq "Run" "done") (J 0)))) (pu (.int 1)) (pu (.int 0))) (AC 4))
    (AO (Jg (Bf (Bq "Run" "letters") (J 0)) (J 3) (IS "Letter" 3 UU (Z (J 4) (Z (J 1) (Z (J 2) A2)))))
    (AO (Ec "Run" "came" (J 0) (A0 addW (J 3) (pu (.int 1))))
    (B5 (J 3)))))))
def Sx:Bz:=FX 5 WR
def l0:CH ["self","house","mark"] ["self","house","mark"] (Bt ju):=Cy
noncomputable def XJ:An:=
    (AO (Bp (A_ (A0 (BH true) (J 2) (pu (.int 1)))) (B5 (A0 (E0 true) (Bn (Z (pu (.str (As "teach"))) (Z (J 1) A2))) (Bf (Bq "Run" "done") (J 0)))) Br)
    (B5 (A0 (E0 false) (Bn (Z (pu (.str (As "forget"))) (Z (J 1) A2))) (Bf (Bq "Run" "done") (J 0)))))
def Sz:Bz:=Dh 3 XJ
def m_:CH ["pattern","address"] ["pattern","address"] (Bt lX):=Cy
noncomputable def d2:An:=
    (AO (Bp (EV (DT (A_ (Ap 1 Ua (Z (J 0) A2)))) (DT (A_ (Ap 1 SF (Z (J 1) A2))))) (B5 (pu (.AM false))) Br)
    (B5 (CB (B0 (Jm true) (Z (EO 2 [1] (UT (Z (J 0) (Z (pu OK) A2))) (FP [(AC 0),(AC 1)]) (pu true) (A0 (E0 true) (J 0) (Bn (Z (pu (.str (As "x"))) (Z (B0 Pe (Z (A0 BZ (A0 CT (J 2) (J 1)) (pu (.int 2))) A2)) A2))))) A2)))))
def UZ:Bz:=Dh 2 d2
def mH:CH ["book","door","address","number","row"] ["book","door","address"] (Bt lL):=Cy
noncomputable def fH:An:=
    (AO (Ed (PR (Z (J 0) A2)) (FP [(AC 3),(AC 4)]) (Bp (HI (EV (A_ (A0 (EA true) (A0 AI (J 4) (pu (.int 1))) (pu (.non)))) (A_ (A0 (BH true) (A0 AI (J 4) (pu (.int 1))) (J 1)))) (A_ (Ap 2 UZ (Z (A0 AI (J 4) (pu (.int 0))) (Z (J 2) A2))))) (B5 (J 3)) Br))
    (B5 (pu (.non))))
def Ug:Bz:=Dh 5 fH
def lO:CH ["self","door"] ["self","door"] (Bt kP):=Cy
def cv:An:=
    (B5 (UP (Bf (Bq "Net" "far") (J 0)) (J 1)))
def R2:Bz:=Dh 2 cv
def mD:CH ["net","book","door","address","number","out","far"] ["net","book","door","address"] (Bt lI):=Cy
noncomputable def XU:An:=
    (AO (AZ (Ap 3 Ug (Z (J 1) (Z (A0 AI (J 2) (pu (.int 1))) (Z (J 3) A2)))) (AC 4))
    (AO (AZ (Mo (A_ (A0 (EA true) (J 4) (pu (.non)))) (pu (.non)) (A0 AI (A0 AI (J 1) (J 4)) (pu (.int 2)))) (AC 5))
    (AO (Bp (A_ (A0 (EA true) (J 5) (pu (.non)))) (B5 (Bn (Z (pu (.str (As "drop"))) (Z (A0 AI (J 2) (pu (.int 0))) A2)))) Br)
    (AO (AZ (ED "Net" "beyond" 1 R2 (J 0) (Z (Bn (Z (A0 AI (J 2) (pu (.int 0))) (Z (J 5) A2))) A2)) (AC 6))
    (AO (Bp (A_ (A0 (EA true) (J 6) (pu (.non)))) (B5 (Bn (Z (pu (.str (As "out"))) (Z (A0 AI (J 2) (pu (.int 0))) (Z (J 5) A2))))) Br)
    (B5 (Bn (Z (pu (.str (As "at"))) (Z (A0 AI (J 6) (pu (.int 0))) (Z (A0 AI (J 6) (pu (.int 1))) A2))))))))))
def Ud:Bz:=Dh 7 XU
def l2:CH ["self","letter","door"] ["self","letter"] (Bt lS):=Cy
noncomputable def XM:An:=
    (AO (AZ (A0 AI (Bf (Bq "Letter" "doors") (J 1)) (Bf YA (pu (.int 1)))) (AC 2))
    (AO (Bp (DT (A_ (ED "Run" "knows" 2 Sz (J 0) (Z (A0 AI (J 2) (pu (.int 0))) (Z (Bf (Bq "Letter" "mark") (J 1)) A2))))) (B5 (Bn (Z (pu (.str (As "lost"))) (Z (A0 AI (J 2) (pu (.int 0))) A2)))) Br)
    (B5 (Ap 4 Ud (Z (Bf (Bq "Run" "net") (J 0)) (Z (A0 AI (A0 AI (Bf (Bq "Run" "books") (J 0)) (Bf (Bq "Letter" "mark") (J 1))) (A0 AI (J 2) (pu (.int 0)))) (Z (J 2) (Z (Bf (Bq "Letter" "address") (J 1)) A2))))))))
def SE:Bz:=Dh 3 XM
def ky:CH ["self","number","letter","told"] ["self","number"] (Bt js):=Cy
noncomputable def WS:An:=
    (AO (Bp (EV (DT (A_ (Ap 1 SI (Z (J 1) A2)))) (A_ (A0 (E0 false) (J 1) (Bf (Bq "Run" "letters") (J 0))))) (O2 "NoMove") Br)
    (AO (AZ (A0 AI (Bf (Bq "Run" "letters") (J 0)) (J 1)) (AC 2))
    (AO (AZ (ED "Run" "next_of" 1 SE (J 0) (Z (J 2) A2)) (AC 3))
    (AO (Bp (A_ (A0 (BH true) (A0 AI (J 3) (pu (.int 0))) (pu (.str (As "at"))))) (Fs (E1 FU (Bf (Bq "Letter" "doors") (J 2)) (Z (Bn (Z (A0 AI (J 3) (pu (.int 1))) (Z (A0 AI (J 3) (pu (.int 2))) A2))) A2))) (AO (Fs (R1 (Bf (Bq "Run" "letters") (J 0)) (J 1)))
    (Fs (E1 FU (Bf (Bq "Run" "ended") (J 0)) (Z (Bn (Z (J 1) (Z (J 2) (Z (J 3) A2)))) A2)))))
    (B5 (J 3))))))
def Sy:Bz:=FX 4 WS
def l1:CH ["self","move"] ["self","move"] (Bt kQ):=Cy
noncomputable def XK:An:=
    (AO (Bp (HI (A_ (Bf (D5 "tuple") (J 1))) (HI (A_ (A0 MA (B0 Bw (Z (J 1) A2)) (pu (.int 0)))) (A_ (Bf (D5 "str") (A0 AI (J 1) (pu (.int 0))))))) (AO (Bp (HI (A_ (A0 (BH true) (A0 AI (J 1) (pu (.int 0))) (pu (.str (As "come"))))) (A_ (A0 (BH true) (B0 Bw (Z (J 1) A2)) (pu (.int 3))))) (B5 (ED "Run" "come" 2 Sx (J 0) (Z (A0 AI (J 1) (pu (.int 1))) (Z (A0 AI (J 1) (pu (.int 2))) A2)))) Br)
    (AO (Bp (HI (A_ (A0 (BH true) (A0 AI (J 1) (pu (.int 0))) (pu (.str (As "go"))))) (A_ (A0 (BH true) (B0 Bw (Z (J 1) A2)) (pu (.int 2))))) (B5 (ED "Run" "go" 1 Sy (J 0) (Z (A0 AI (J 1) (pu (.int 1))) A2))) Br)
    (λ_ _=>.bad))) Br)
    (O2 "NoMove"))
def LP:Bz:=FX 2 XK
def n2:CH ["_law_pattern","_law_address","_law_k","_law_figure"] ["_law_pattern","_law_address"] (Bt lA):=Cy
noncomputable def fC:An:=
    (AO (Ed (E2 (Z (pu (.int 4)) A2)) (AC 2) (AO (AZ (CB (A0 BZ (A0 CT (J 1) (A0 AI (CO (Z (pu (.int 8)) (Z (pu (.int 4)) (Z (pu (.int 2)) (Z (pu (.int 1)) A2))))) (J 2))) (pu (.int 2)))) (AC 3))
    (Bp (HI (A_ (A0 (BH false) (A0 AI (J 0) (J 2)) (pu (.str (As "x"))))) (A_ (A0 (BH false) (A0 AI (J 0) (J 2)) (A0 AI (pu (.str (As "01"))) (J 3))))) (B5 (pu (.AM false))) Br)))
    (B5 (pu (.AM true))))
def SL:Bz:=Dh 4 fC
def m9:CH ["_law_wires_here","_law_book","_law_door","_law_address","_law_pattern","_law_inward","_law_out","_law_behind"] ["_law_wires_here","_law_book","_law_door","_law_address"] (Bt lE):=Cy
noncomputable def fE:An:=
    (AO (Ed (Dc (J 1)) (FP [(AC 4),(AC 5),(AC 6)]) (Bp (HI (A_ (Ap 2 SL (Z (J 4) (Z (J 3) A2)))) (EV (A_ (A0 (EA true) (J 5) (pu (.non)))) (A_ (A0 (BH true) (J 5) (A0 AI (J 2) (pu (.int 1))))))) (AO (Bp (A_ (A0 (EA true) (J 6) (pu (.non)))) (B5 (Bn (Z (pu (.str (As "drop"))) (Z (A0 AI (J 2) (pu (.int 0))) A2)))) Br)
    (AO (AZ (Ap 2 Ou (Z (J 0) (Z (Bn (Z (A0 AI (J 2) (pu (.int 0))) (Z (J 6) A2))) A2))) (AC 7))
    (AO (Bp (A_ (A0 (EA true) (J 7) (pu (.non)))) (B5 (Bn (Z (pu (.str (As "out"))) (Z (A0 AI (J 2) (pu (.int 0))) (Z (J 6) A2))))) Br)
    (B5 (A0 addW (Bn (Z (pu (.str (As "at"))) A2)) (J 7)))))) Br))
    (B5 (Bn (Z (pu (.str (As "drop"))) (Z (A0 AI (J 2) (pu (.int 0))) A2)))))
def O3:Bz:=Dh 8 fE
def m7:CH ["_law_run","_law_wires_here","_law_old","_law_letters","_law_number","_law_door","_law_address","_law_due"] ["_law_run","_law_wires_here","_law_old","_law_letters","_law_number"] (Bt lC):=Cy
noncomputable def XT:An:=
    (AO (Mn (A0 AI (J 3) (J 4)) (FP [(AC 5),(AC 6)]))
    (AO (AZ (Ap 4 O3 (Z (J 1) (Z (A0 AI (J 2) (A0 AI (J 5) (pu (.int 0)))) (Z (J 5) (Z (J 6) A2))))) (AC 7))
    (AO (Bp (A_ (A0 (BH true) (A0 AI (J 7) (pu (.int 0))) (pu (.str (As "at"))))) (Jg (J 3) (J 4) (CB (Bn (Z (CB (HJ (J 7) (Ft (pu (.int 1))) (pu none))) (Z (J 6) A2))))) (Fs (R1 (J 3) (J 4))))
    (B5 (A0 (BH true) (ED "Run" "move" 1 LP (J 0) (Z (Bn (Z (pu (.str (As "go"))) (Z (J 4) A2))) A2)) (J 7))))))
def Ov:Bz:=FX 8 XT
def mz:CH ["_law_run","_law_wires_here","_law_old","_law_letters","_law_k","_law_number","_law_door","_law_address","_law_told"] ["_law_run","_law_wires_here","_law_old","_law_letters"] (Bt l7):=Cy
noncomputable def fB:An:=
    (AO (Ed (E2 (Z (pu (.int 25)) A2)) (AC 4) (Ed (Dc (B0 LW (Z (J 3) A2))) (AC 5) (Bp (DT (A_ (Ap 5 Ov (Z (J 0) (Z (J 1) (Z (J 2) (Z (J 3) (Z (J 5) A2)))))))) (B5 (pu (.AM false))) Br)))
    (AO (Xy (J 3) (AC 5) (AO (Mn (A0 AI (J 3) (J 5)) (FP [(AC 6),(AC 7)]))
    (Ed (E2 (Z (pu (.int 25)) A2)) (AC 4) (AO (AZ (Ap 4 O3 (Z (J 1) (Z (A0 AI (J 2) (A0 AI (J 6) (pu (.int 0)))) (Z (J 6) (Z (J 7) A2))))) (AC 8))
    (AO (Bp (A_ (A0 (BH false) (A0 AI (J 8) (pu (.int 0))) (pu (.str (As "at"))))) (B5 (pu (.AM false))) Br)
    (AZ (CB (HJ (J 8) (Ft (pu (.int 1))) (pu none))) (AC 6)))))))
    (B5 (pu (.AM true)))))
def R7:Bz:=FX 9 fB
def mu:CH ["_law_script","_law_cell","_law_counts_here","_law_wires_here","_law_outer_here","_law_old","_law_new","_law_plan","_law_handed","_law_run","_law_letters","_law_came","_law_number","_law_door","_law_address","_law_found","_law_going"] ["_law_script"] (Bt JM):=Cy
noncomputable def Q_:An:=
    (AO (AZ (Ap 2 KZ (Z (J 0) (Z (pu (.int 0)) A2))) (AC 1))
    (AO (AZ (Ap 1 R8 (Z (J 1) A2)) (AC 2))
    (AO (AZ (Ap 2 Mq (Z (J 1) (Z (J 2) A2))) (AC 3))
    (AO (AZ (Ap 2 SN (Z (J 2) (Z (J 3) A2))) (AC 4))
    (AO (Mn (Ap 2 SK (Z (J 0) (Z (J 2) A2))) (FP [(AC 5),(AC 6)]))
    (AO (AZ (CB (A0 Hi (CO (Z (Bn (Z (pu (.str (As "teach"))) (Z (pu (.int 0)) A2))) (Z (Bn (Z (pu (.str (As "turn"))) (Z (pu (.int 0)) A2))) A2))) (A0 BZ (Ap 2 Dv (Z (J 1) (Z (pu (.int 6)) A2))) (pu (.int 2))))) (AC 7))
    (AO (AZ (CB (CO (Z (EO 1 [] (Dc (J 5)) (AC 0) (pu true) (CB (B0 Db (Z (J 0) A2)))) (Z (EO 1 [] (Dc (J 6)) (AC 0) (pu true) (CB (B0 Db (Z (J 0) A2)))) (Z (B0 Db (Z (J 7) A2)) A2))))) (AC 8))
    (AO (AZ (IS "Run" 4 R3 (Z (IS "Net" 2 Mp (Z (B0 Db (Z (J 2) A2)) (Z (B0 Db (Z (J 3) A2)) A2))) (Z (A0 AI (J 8) (pu (.int 0))) (Z (A0 AI (J 8) (pu (.int 1))) (Z (A0 AI (J 8) (pu (.int 2))) A2))))) (AC 9))
    (AO (Fs (E1 OL (A0 AI (A0 AI (J 8) (pu (.int 0))) (pu (.int 0))) A2))
    (AO (Fs (E1 OL (A0 AI (J 8) (pu (.int 1))) A2))
    (AO (Fs (E1 FU (A0 AI (J 8) (pu (.int 2))) (Z (Bn (Z (pu (.str (As "wait"))) A2)) A2)))
    (AO (AZ (Jf false) (AC 10))
    (AO (AZ (pu (.int 0)) (AC 11))
    (AO (Ed (Dc (CB (A0 addW (CO (Z (pu (.int 1)) (Z (pu (.int 8)) A2))) (HJ (J 0) (Ft (pu (.int 16))) (pu none))))) (AC 1) (AO (AZ (Ap 2 Dv (Z (J 1) (Z (pu (.int 0)) A2))) (AC 12))
    (Bp (IB (EV (A_ (A0 (BH true) (A0 BZ (J 12) (pu (.int 3))) (pu (.int 0)))) (A_ (Bf (ND true) (J 10))))) (AO (AZ (A0 AI (J 4) (A0 BZ (A0 CT (J 12) (pu (.int 3))) (B0 Bw (Z (J 4) A2)))) (AC 13))
    (AO (AZ (A0 BZ (A0 CT (J 12) (pu (.int 12))) (pu (.int 16))) (AC 14))
    (AO (AZ (ED "Run" "move" 1 LP (J 9) (Z (Bn (Z (pu (.str (As "come"))) (Z (J 13) (Z (J 14) A2)))) A2)) (AC 15))
    (AO (Bp (EV (DT (A_ (Bf (D5 "int") (J 15)))) (EV (A_ (Bf (D5 "bool") (J 15))) (A_ (A0 (BH false) (J 15) (J 11))))) (B5 (pu (.AM false))) Br)
    (AO (Jg (J 10) (J 11) (Bn (Z (J 13) (Z (J 14) A2))))
    (AZ (A0 addW (J 11) (pu (.int 1))) (AC 11))))))) (AO (AZ (B0 LW (Z (J 10) A2)) (AC 16))
    (Bp (DT (A_ (Ap 5 Ov (Z (J 9) (Z (J 3) (Z (J 5) (Z (J 10) (Z (A0 AI (J 16) (A0 BZ (A0 CT (J 12) (pu (.int 3))) (B0 Bw (Z (J 16) A2)))) A2)))))))) (B5 (pu (.AM false))) Br)))))
    (B5 (Ap 4 R7 (Z (J 9) (Z (J 3) (Z (J 5) (Z (J 10) A2))))))))))))))))))))
def hx:Bz:=FX 17 Q_
section
variable(P:Bh)(w:BP){K:Ad}{mg:Str->Option A3}(base:Ar)(T:DR K mg)
include T
set_option maxHeartbeats 4000000
def i9:Dr P w K mg base "_law_cell_at" 2 1 KZ:=by have h:=FC (P:=P) (w:=w) (base:=base) (k:=0) (m:=XR) T.sZ my;exact h (by have:=my;unfold CN;intros;ac_rfl)
def Sp:Dr P w K mg base "_law_mixed" 2 1 Dv:=by have h:=FC (P:=P) (w:=w) (base:=base) (k:=0) (m:=cY) T.sg m8;exact h (by have:=m8;unfold CN;intros;ac_rfl)
def x5:Dr P w K mg base "_law_counts" 1 2 R8:=by have h:=FC (P:=P) (w:=w) (base:=base) (k:=1) (m:=XS) T.sa n0;exact h (by have:=n0;have:=Sp P w base T;unfold CN;intros;ac_rfl)
def iA:Dr P w K mg base "_law_doors" 1 1 R9:=by have h:=FC (P:=P) (w:=w) (base:=base) (k:=0) (m:=dD) T.sb n1;exact h (by have:=n1;unfold CN;intros;ac_rfl)
def xD:Dr P w K mg base "_law_wires" 2 2 Mq:=by have h:=FC (P:=P) (w:=w) (base:=base) (k:=1) (m:=ca) T.sk mC;exact h (by have:=mC;have:=iA P w base T;have:=Sp P w base T;unfold CN;intros;ac_rfl)
def i8:Dr P w K mg base "_law_beyond" 2 1 Ou:=by have h:=FC (P:=P) (w:=w) (base:=base) (k:=0) (m:=dC) T.sW mv;exact h (by have:=mv;unfold CN;intros;ac_rfl)
def xB:Dr P w K mg base "_law_outer" 2 2 SN:=by have h:=FC (P:=P) (w:=w) (base:=base) (k:=1) (m:=cZ) T.si mA;exact h (by have:=mA;have:=i8 P w base T;have:=iA P w base T;unfold CN;intros;ac_rfl)
def xA:Dr P w K mg base "_law_free_book" 2 1 SM:=by have h:=FC (P:=P) (w:=w) (base:=base) (k:=0) (m:=fD) T.se n3;exact h (by have:=n3;unfold CN;intros;ac_rfl)
def xC:Dr P w K mg base "_law_row" 3 2 Uc:=by have h:=FC (P:=P) (w:=w) (base:=base) (k:=1) (m:=c_) T.sj mB;exact h (by have:=mB;have:=Sp P w base T;unfold CN;intros;ac_rfl)
def x2:Dr P w K mg base "_law_books" 3 3 MK:=by have h:=Qv (P:=P) (w:=w) (base:=base) (k:=2) (m:=f9) T.sX mw;exact h (by have:=mw;have:=xA P w base T;have:=Sp P w base T;have:=xC P w base T;unfold CN;intros;ac_rfl)
def x3:Dr P w K mg base "_law_both" 2 4 SK:=by have h:=Qv (P:=P) (w:=w) (base:=base) (k:=3) (m:=fA) T.sY mx;exact h (by have:=mx;have:=x2 P w base T;have:=i9 P w base T;have:=Sp P w base T;unfold CN;intros;ac_rfl)
def i6:Dr P w K mg base "is_pattern" 1 1 Ua:=by have h:=FC (P:=P) (w:=w) (base:=base) (k:=0) (m:=d8) T.tG mj;exact h (by have:=mj;unfold CN;intros;ac_rfl)
def i7:Dr P w K mg base "is_whole" 1 1 SI:=by have h:=FC (P:=P) (w:=w) (base:=base) (k:=0) (m:=dA) T.sT mq;exact h (by have:=mq;unfold CN;intros;ac_rfl)
def V5:Dr P w K mg base "is_whole_within" 3 2 MJ:=by have h:=FC (P:=P) (w:=w) (base:=base) (k:=1) (m:=XQ) T.sU mr;exact h (by have:=mr;have:=i7 P w base T;unfold CN;intros;ac_rfl)
def v_:Dr P w K mg base "is_number_or_none" 2 3 SH:=by have h:=FC (P:=P) (w:=w) (base:=base) (k:=2) (m:=XN) T.tE mf;exact h (by have:=mf;have:=V5 P w base T;unfold CN;intros;ac_rfl)
def wy:Dr P w K mg base "is_row" 2 4 Ub:=by have h:=FC (P:=P) (w:=w) (base:=base) (k:=3) (m:=d9) T.tI mm;exact h (by have:=mm;have:=v_ P w base T;have:=i6 P w base T;unfold CN;intros;ac_rfl)
def vY:Dr P w K mg base "is_book" 2 5 U_:=by have h:=FC (P:=P) (w:=w) (base:=base) (k:=4) (m:=d4) T.tB mc;exact h (by have:=mc;have:=wy P w base T;unfold CN;intros;ac_rfl)
def vu:Ib P w K mg base "Net" "count" 1 1 Sv:=by have h:=MZ (P:=P) (w:=w) (mg:=mg) (base:=base) (k:=0) (m:=cw) T.rK lP;exact(h (by have:=lP;unfold CN;intros;ac_rfl)).st
def vZ:Dr P w K mg base "is_books" 2 6 Y0:=by have h:=FC (P:=P) (w:=w) (base:=base) (k:=5) (m:=d5) T.tC md;exact h (by have:=md;have:=vu P w base T;have:=vY P w base T;unfold CN;intros;ac_rfl)
def xF:Dr P w K mg base "refuse_unless_books" 2 7 Ue:=by have h:=FC (P:=P) (w:=w) (base:=base) (k:=6) (m:=cf) T.sm mE;exact h (by have:=mE;have:=vZ P w base T;unfold CN;intros;ac_rfl)
def wz:Dr P w K mg base "is_step" 2 3 R6:=by have h:=FC (P:=P) (w:=w) (base:=base) (k:=2) (m:=XP) T.tJ mn;exact h (by have:=mn;have:=V5 P w base T;unfold CN;intros;ac_rfl)
def w1:Dr P w K mg base "is_plan" 2 4 Y1:=by have h:=FC (P:=P) (w:=w) (base:=base) (k:=3) (m:=XO) T.tH ml;exact h (by have:=ml;have:=wz P w base T;unfold CN;intros;ac_rfl)
def xG:Dr P w K mg base "refuse_unless_plan" 4 8 Uf:=by have h:=FC (P:=P) (w:=w) (base:=base) (k:=7) (m:=cg) T.sq mF;exact h (by have:=mF;have:=w1 P w base T;have:=xF P w base T;unfold CN;intros;ac_rfl)
def vT:Dr P w K mg base "are_counts" 1 3 UW:=by have h:=FC (P:=P) (w:=w) (base:=base) (k:=2) (m:=d0) T.t5 l3;exact h (by have:=l3;have:=V5 P w base T;unfold CN;intros;ac_rfl)
def i5:Dr P w K mg base "is_pair" 1 1 R5:=by have h:=FC (P:=P) (w:=w) (base:=base) (k:=0) (m:=d7) T.tF mh;exact h (by have:=mh;unfold CN;intros;ac_rfl)
def i4:Dr P w K mg base "is_door_among" 2 3 SG:=by have h:=FC (P:=P) (w:=w) (base:=base) (k:=2) (m:=d6) T.tD me;exact h (by have:=me;have:=i5 P w base T;have:=V5 P w base T;unfold CN;intros;ac_rfl)
def x1:Dr P w K mg base "is_wire_among" 2 4 SJ:=by have h:=FC (P:=P) (w:=w) (base:=base) (k:=3) (m:=dB) T.sV ms;exact h (by have:=ms;have:=i4 P w base T;have:=i5 P w base T;unfold CN;intros;ac_rfl)
def vW:Dr P w K mg base "far_doors" 2 5 UY:=by have h:=Qv (P:=P) (w:=w) (base:=base) (k:=4) (m:=f7) T.t8 mZ;exact h (by have:=mZ;have:=x1 P w base T;unfold CN;intros;ac_rfl)
def ip:U1 P w K mg base "Net" 2 6 Mp:=by have h:=bP (P:=P) (w:=w) (base:=base) (k:=5) (m:=WQ) T.rL lQ;exact h (by have:=lQ;have:=vT P w base T;have:=vW P w base T;unfold CN;intros;ac_rfl)
def vx:Ib P w K mg base "Net" "wires" 0 1 PS:=by have h:=MZ (P:=P) (w:=w) (mg:=mg) (base:=base) (k:=0) (m:=cz) T.rn kv;exact(h (by have:=kv;unfold CN;intros;ac_rfl)).st
def vV:Dr P w K mg base "copied_net" 1 8 UX:=by have h:=Qv (P:=P) (w:=w) (base:=base) (k:=7) (m:=f6) T.t7 mY;exact h (by have:=mY;have:=ip P w base T;have:=vx P w base T;unfold CN;intros;ac_rfl)
def vU:Dr P w K mg base "copied_books" 1 1 R4:=by have h:=Qv (P:=P) (w:=w) (base:=base) (k:=0) (m:=f5) T.t6 lR;exact h (by have:=lR;unfold CN;intros;ac_rfl)
def w0:U1 P w K mg base "Run" 4 9 R3:=by have h:=bP (P:=P) (w:=w) (base:=base) (k:=8) (m:=Wm) T.sz kz;exact h (by have:=kz;have:=vU P w base T;have:=vV P w base T;have:=xG P w base T;unfold CN;intros;ac_rfl)
def i3:Dr P w K mg base "is_address" 1 3 SF:=by have h:=FC (P:=P) (w:=w) (base:=base) (k:=2) (m:=d3) T.tA mb;exact h (by have:=mb;have:=V5 P w base T;unfold CN;intros;ac_rfl)
def vv:Ib P w K mg base "Net" "is_door" 1 4 UV:=by have h:=MZ (P:=P) (w:=w) (mg:=mg) (base:=base) (k:=3) (m:=cx) T.rM kr;exact(h (by have:=kr;have:=i4 P w base T;unfold CN;intros;ac_rfl)).st
def vw:Ib P w K mg base "Net" "is_outer" 1 5 Sw:=by have h:=MZ (P:=P) (w:=w) (mg:=mg) (base:=base) (k:=4) (m:=cy) T.rN ku;exact(h (by have:=ku;have:=vv P w base T;unfold CN;intros;ac_rfl)).st
def vr:U1 P w K mg base "Letter" 3 1 UU:=by have h:=bP (P:=P) (w:=w) (base:=base) (k:=0) (m:=WP) T.rI lN;exact h (by have:=lN;unfold CN;intros;ac_rfl)
def vy:Ib P w K mg base "Run" "come" 2 6 Sx:=by have h:=MZ (P:=P) (w:=w) (mg:=mg) (base:=base) (k:=5) (m:=WR) T.sx kx;exact(h (by have:=kx;have:=vr P w base T;have:=vw P w base T;have:=i3 P w base T;unfold CN;intros;ac_rfl))
def vR:Ib P w K mg base "Run" "knows" 2 1 Sz:=by have h:=MZ (P:=P) (w:=w) (mg:=mg) (base:=base) (k:=0) (m:=XJ) T.t0 l0;exact(h (by have:=l0;unfold CN;intros;ac_rfl)).st
def vX:Dr P w K mg base "fits" 2 4 UZ:=by have h:=FC (P:=P) (w:=w) (base:=base) (k:=3) (m:=d2) T.t9 m_;exact h (by have:=m_;have:=i3 P w base T;have:=i6 P w base T;unfold CN;intros;ac_rfl)
def xH:Dr P w K mg base "taken" 3 5 Ug:=by have h:=FC (P:=P) (w:=w) (base:=base) (k:=4) (m:=fH) T.sr mH;exact h (by have:=mH;have:=vX P w base T;unfold CN;intros;ac_rfl)
def vt:Ib P w K mg base "Net" "beyond" 1 1 R2:=by have h:=MZ (P:=P) (w:=w) (mg:=mg) (base:=base) (k:=0) (m:=cv) T.rJ lO;exact(h (by have:=lO;unfold CN;intros;ac_rfl)).st
def xE:Dr P w K mg base "onward" 4 6 Ud:=by have h:=FC (P:=P) (w:=w) (base:=base) (k:=5) (m:=XU) T.sl mD;exact h (by have:=mD;have:=vt P w base T;have:=xH P w base T;unfold CN;intros;ac_rfl)
def vS:Ib P w K mg base "Run" "next_of" 1 7 SE:=by have h:=MZ (P:=P) (w:=w) (mg:=mg) (base:=base) (k:=6) (m:=XM) T.t4 l2;exact(h (by have:=l2;have:=vR P w base T;have:=xE P w base T;unfold CN;intros;ac_rfl)).st
def vz:Ib P w K mg base "Run" "go" 1 8 Sy:=by have h:=MZ (P:=P) (w:=w) (mg:=mg) (base:=base) (k:=7) (m:=WS) T.sy ky;exact(h (by have:=ky;have:=vS P w base T;have:=i7 P w base T;unfold CN;intros;ac_rfl))
def i2:Ib P w K mg base "Run" "move" 1 9 LP:=by have h:=MZ (P:=P) (w:=w) (mg:=mg) (base:=base) (k:=8) (m:=XK) T.t2 l1;exact(h (by have:=l1;have:=vy P w base T;have:=vz P w base T;unfold CN;intros;ac_rfl))
def x9:Dr P w K mg base "_law_fits" 2 1 SL:=by have h:=FC (P:=P) (w:=w) (base:=base) (k:=0) (m:=fC) T.sd n2;exact h (by have:=n2;unfold CN;intros;ac_rfl)
def iC:Dr P w K mg base "_law_next" 4 2 O3:=by have h:=FC (P:=P) (w:=w) (base:=base) (k:=1) (m:=fE) T.sh m9;exact h (by have:=m9;have:=i8 P w base T;have:=x9 P w base T;unfold CN;intros;ac_rfl)
def iB:Dr P w K mg base "_law_gone" 5 10 Ov:=by have h:=Qv (P:=P) (w:=w) (base:=base) (k:=9) (m:=XT) T.sf m7;exact h (by have:=m7;have:=i2 P w base T;have:=iC P w base T;unfold CN;intros;ac_rfl)
def x4:Dr P w K mg base "_law_cleared" 4 11 R7:=by have h:=Qv (P:=P) (w:=w) (base:=base) (k:=10) (m:=fB) T.s_ mz;exact h (by have:=mz;have:=iB P w base T;have:=iC P w base T;unfold CN;intros;ac_rfl)
def r3:CN P w K mg base "law" JM ["_law_script","_law_cell","_law_counts_here","_law_wires_here","_law_outer_here","_law_old","_law_new","_law_plan","_law_handed","_law_run","_law_letters","_law_came","_law_number","_law_door","_law_address","_law_found","_law_going"] 11 Q_:=by have:=mu;have:=ip P w base T;have:=w0 P w base T;have:=i2 P w base T;have:=x3 P w base T;have:=i9 P w base T;have:=x4 P w base T;have:=x5 P w base T;have:=iB P w base T;have:=Sp P w base T;have:=xB P w base T;have:=xD P w base T;unfold CN;intros;ac_rfl
end
end Fo
namespace Fo
open PySem PySem.Spec B8 CG
def Ka(x:Int){n:Nat}(h:0<n):∃j:Nat,j<n/\x%(n:Int)=(j:Int):=by have h1:=Int.emod_nonneg x (show(n:Int)≠0 by lia);have h2:=Int.emod_lt_of_pos x (show(0:Int)<n by lia);exact⟨(x%(n:Int)).toNat,by lia,by lia⟩
def Ba(ks:List Int):List W:=ks.map W.int
def gI(h:A5)(ns:List Int)(k:Nat):∃c:Int,KZ [.Eb (Ba ns),.int k] h=.ok (.int c,h):=by
 have es:=aa h (Ba ns);by_cases AK:k<ns.length
 .refine⟨ns[k],?_⟩;have ex:AI (.Eb (Ba ns)) (.int (k:Int)) h=.ok (.int ns[k],h):=V2 h es (by simp[Ba,AK]);have Ah:(Ba ns).length=ns.length:=by simp[Ba]
  simp[KZ,XR,Bw,es,Ah,AK,ex]
 .have Ah:(Ba ns).length=ns.length:=by simp[Ba]
  exact⟨0,by simp[KZ,XR,Bw,es,Ah,AK]⟩
def iu(l:List Int)(x:Int){n:Nat}(AW:l.length=n)(h0:0<n):∃f∈l,∀h g:A5,g[0]?=some ⟨.lst,Ba l⟩->AI (.ref h.length) (.int (x%(n:Int))) (h++g)=.ok (.int f,h++g):=by obtain⟨j,Af,e⟩:=Ka x h0;rw[e];exact⟨l[j],Lh _,λh g eg=>V2 _ (I2 _ (by rw[Go];exact eg)) (by simp[Ba,AW,Af])⟩
def Mr(c:Int)(k:Nat)(AK:k<1000):∃y:Int,∀h,Dv [.int c,.int k] h=.ok (.int y,h):=by
 obtain⟨f,hf,Bo⟩:=iu [48271,69621,16807,39373,40692,742938285,950706376,1343714438] k (n:=8) rfl (by decide);obtain⟨p,AT,Ai⟩:=iu [2147483647,2147483629,2147483587,2147483579,2147483563] k (n:=5) rfl (by decide);have f0:0<f/\f<18446744073709551616:=(by decide:∀f∈([48271,69621,16807,39373,40692,742938285,950706376,1343714438]:List Int),0<f/\f<18446744073709551616) f hf;have Kd:0<p:=(by decide:∀p∈([2147483647,2147483629,2147483587,2147483579,2147483563]:List Int),0<p) p AT;refine⟨((c%10^30+31*k+7)*f%p)/7,λh=>?_⟩;have Bo:=Bo h [⟨.lst,Ba [48271,69621,16807,39373,40692,742938285,950706376,1343714438]⟩] rfl;have Ai:=Ai h [⟨.lst,Ba [2147483647,2147483629,2147483587,2147483579,2147483563]⟩] rfl;simp only[Ba,DB,Iy,Int.cast_ofNat_Int]at Bo Ai;have BR:∀x:Int,KJ x f:=λx=>.inr (by constructor<;>lia);have C_:KJ 31 (k:Int):=.inl (by decide);have Ei:NS 10 30:=by decide
 simp[Dv,cY,nw,B4,Bo,Ai,BR,C_,Ei,Kd]
def BX(cs:List Nat):List W:=cs.map λ(c:Nat)=>W.int (c:Int)
abbrev AY:=Nat×Nat
def AR(d:AY):W:=.tup [.int (d.1:Nat),.int (d.2:Nat)]
def Bs(w:AY×AY):W:=.tup [AR w.1,AR w.2]
def ends(ws:List (AY×AY)):List AY:=(ws.map λw=>[w.1,w.2]).flatten
theorem dq{α:Type}:∀(l:List α)(i:Nat)(h:i<l.length),List.Perm (l[i]::l.eraseIdx i) l
 |x::l,0,_=>List.Perm.refl _
 |x::l,i+1,h=>by have Bk:=dq l i (by simpa using h);simp only[List.getElem_cons_succ,p0];exact(List.Perm.swap x _ _).trans (Bk.cons x)
def OO(cs:List Nat)(h:Nat):List AY:=(Cd (cs.getD h 0)).map λk=>(h,k)
def Cg(cs:List Nat)(n:Nat):List AY:=(Cd n).flatMap (OO cs)
def cn(cs:List Nat)(n:Nat):Cg cs (n+1)=Cg cs n++OO cs n:=by unfold Cg;rw[Vz,List.flatMap_append];simp
def ZN{cs:List Nat}{h:Nat}{d:AY}:d∈OO cs h↔d.1=h/\d.2<cs.getD h 0:=by
 unfold OO;rw[W8];constructor
 .rintro⟨k,AK,rfl⟩;exact⟨rfl,List.mem_range.mp AK⟩
 .rintro⟨rfl,h2⟩;exact⟨d.2,List.mem_range.mpr h2,rfl⟩
def Uh{cs:List Nat}{n:Nat}{d:AY}:d∈Cg cs n↔d.1<n/\d.2<cs.getD d.1 0:=by
 unfold Cg;rw[List.mem_flatMap];constructor
 .rintro⟨h,hh,hd⟩;obtain⟨rfl,h2⟩:=ZN.mp hd;exact⟨List.mem_range.mp hh,h2⟩
 .rintro⟨h1,h2⟩;exact⟨d.1,List.mem_range.mpr h1,ZN.mpr ⟨rfl,h2⟩⟩
def s8(cs:List Nat)(h:Nat):(OO cs h).Nodup:=by unfold OO;rw[T1,T8];exact List.nodup_range.imp λNo z=>No (Prod.mk.inj z).2
theorem ez(cs:List Nat):∀n,(Cg cs n).Nodup
 |0=>RU
 |n+1=>by rw[cn];refine List.nodup_append.mpr ⟨ez cs n,s8 cs n,λa AB b A1 z=>?_⟩;subst z;have h1:=(Uh.mp AB).1;have h2:=(ZN.mp A1).1;lia
def hU{cs:List Nat}(h:∀c∈cs,c<=4)(k:Nat):cs.getD k 0<=4:=by
 rw[Ex];cases e:cs[k]? with
 |none=>simp
 |some c=>simpa using h c (Hn e)
def s7{cs:List Nat}(h:∀c∈cs,1<=c/\c<=4)(k:Nat):(OO cs k).length<=4:=by unfold OO;rw[DV,cD];exact hU (λc AD=>(h c AD).2) k
theorem UC{cs:List Nat}(h:∀c∈cs,1<=c/\c<=4):∀n,(Cg cs n).length<=4*n
 |0=>by simp[Cg]
 |n+1=>by rw[cn,EP];have:=UC h n;have:=s7 h n;lia
def Te{cs:List Nat}{h:Nat}(hh:h<cs.length):(BX cs)[h]?=some (.int (cs.getD h 0:Nat)):=by simp[BX,CF hh,Ex]
structure KC(cs:List Nat)(ws:List (AY×AY)):Prop where
 h1:1<=cs.length
 FR:cs.length<=6
 c:∀c∈cs,1<=c/\c<=4
 C3:(ends ws).Nodup
 sub:∀d∈ends ws,d∈Cg cs cs.length
 few:ws.length<100
def head_mem{cs:List Nat}(h1:1<=cs.length)(c:∀c∈cs,1<=c/\c<=4):((0,0):AY)∈Cg cs cs.length:=by
 refine Uh.mpr ⟨h1,?_⟩;cases cs with
 |nil=>simp at h1
 |cons x r=>exact(c x (Fy ..)).1
@[simp] theorem aeT(cs:List Nat):G_ (BX cs)=true:=Y7.mpr λw hw=>by obtain⟨c,_,rfl⟩:=List.mem_map.mp hw;simp
@[simp] theorem jV(d:AY):DP (AR d)=true:=by simp[AR]
@[simp] theorem jX(w:AY×AY):DP (Bs w)=true:=by simp[Bs]
def Lm{α:Type}(f:α->W)(l:List α)(e:∀a,DP (f a)=true):G_ (l.map f)=true:=Y7.mpr λw hw=>by obtain⟨c,_,rfl⟩:=List.mem_map.mp hw;exact e c
def Z0:NS 10 60:=by decide
def qI(cell:Int):∃cs:List Nat,(1<=cs.length/\cs.length<=6)/\(∀c∈cs,1<=c/\c<=4)/\∀h,R8 [.int cell] h=.ok (.ref h.length,h++[⟨.lst,BX cs⟩]):=by
 by_cases ho:cell%2=1
 .obtain⟨N,hN⟩:∃N:Int,cell/2%1000000000000000000000000000000000000000000000000000000000000=N:=⟨_,rfl⟩;obtain⟨m,hm,em⟩:=Ka (N) (n:=6) (by decide);have eX:(1:Int)+N%6=(m:Int)+1:=by have:N%6=(m:Int):=em;lia
  let G:Nat->Int:=λk=>([1,4,16,64,256,1024]:List Int).getD k 1
  have Aj:∀k,0<G k/\G k<1073741824:=λk=>by
   by_cases AK:k<6
   .rcases(by lia:k=0\/k=1\/k=2\/k=3\/k=4\/k=5)with rfl|rfl|rfl|rfl|rfl|rfl<;>exact⟨by decide,by decide⟩
   .have:G k=1:=by simp only[G];rw[Ex,HF (by simp;lia)];rfl
    rw[this];decide
  let L9:Nat->Nat:=λk=>(1+N/6/G k%4).toNat
  have Td:∀k,1<=L9 k/\L9 k<=4/\1+N/6/G k%4=(L9 k:Int):=λk=>by simp only[L9];lia
  refine⟨(Cd (m+1)).map L9,⟨by simp,by simp;lia⟩,λc AD=>?_,λh=>?_⟩
  .obtain⟨k,_,rfl⟩:=List.mem_map.mp AD;exact⟨(Td k).1,(Td k).2.1⟩
  .have c:=Xa (mi:=E2 (Z (A0 addW (pu (.int 1)) (A0 BZ (J 1) (pu (.int 6)))) A2)) (e:=CB (A0 addW (pu (.int 1)) (A0 BZ (A0 CT (A0 CT (J 1) (pu (.int 6))) (A0 AI (CO (Z (pu (.int 1)) (Z (pu (.int 4)) (Z (pu (.int 16)) (Z (pu (.int 64)) (Z (pu (.int 256)) (Z (pu (.int 1024)) A2))))))) (J 0))) (pu (.int 4)))))
     (ρ:=[some (.int cell),some (.int (N))]) (h:=h) (h0:=h) (caps:=[1]) 0 (m+1) (λk=>.int (L9 k:Nat)) (by lia) (Kg (n:=m+1) (by
       simp[eX]) (by lia)) (λk AK acc=>by
       have ex:AI (.ref (h.length+1)) (.int (k:Int)) (h++[⟨.lst,acc⟩,⟨.lst,Ba [1,4,16,64,256,1024]⟩])=.ok (.int (G k),h++[⟨.lst,acc⟩,⟨.lst,Ba [1,4,16,64,256,1024]⟩]):=V2 (ws:=Ba [1,4,16,64,256,1024]) _ (I2 _ (by simp)) (by rcases(by lia:k=0\/k=1\/k=2\/k=3\/k=4\/k=5)with rfl|rfl|rfl|rfl|rfl|rfl<;>rfl)
       simp only[Ba,DB,Iy]at ex;have:=(Td k).2.2;simp[nw,B4,ex,Aj k,this])
   simp[R8,XS,ho,Z0,hN];rw[c];simp;rw[RH h _ rfl (by exact Lm _ _ λa=>by simp)];simp[BX,Q0]
 .obtain⟨y,D9⟩:=Mr cell 0 (by decide);obtain⟨m,hm,em⟩:=Ka y (n:=6) (by decide);have eX:(1:Int)+y%6=(m:Int)+1:=by have:y%6=(m:Int):=em;lia
  have ex:∀k:Nat,∃c:Nat,(1<=c/\c<=4)/\(k<10->∃z:Int,(∀h,Dv [.int cell,.int (1+(k:Int))] h=.ok (.int z,h))/\1+z%4=(c:Int)):=λk=>by
   by_cases AK:k<10
   .obtain⟨z,KN⟩:=Mr cell (1+k) (by lia);exact⟨(1+z%4).toNat,by lia,λ_=>⟨z,λh=>by rw[<-KN h];simp,by lia⟩⟩
   .exact⟨1,by lia,λh=>absurd h AK⟩
  let L9:Nat->Nat:=λk=>(ex k).choose
  have Td:∀k,1<=L9 k/\L9 k<=4:=λk=>(ex k).choose_spec.1;have qe:∀k:Nat,k<10->∃z:Int,(∀h,Dv [.int cell,.int (1+(k:Int))] h=.ok (.int z,h))/\1+z%4=(L9 k:Int):=λk=>(ex k).choose_spec.2;refine⟨(Cd (m+1)).map L9,⟨by simp,by simp;lia⟩,λc AD=>?_,λh=>?_⟩
  .obtain⟨k,_,rfl⟩:=List.mem_map.mp AD;exact Td k
  .have rF:Dv [.int cell,.int 0] h=.ok (.int y,h):=D9 h
   have c:=Xa (mi:=E2 (Z (A0 addW (pu (.int 1)) (A0 BZ (Ap 2 Dv (Z (J 0) (Z (pu (.int 0)) A2))) (pu (.int 6)))) A2)) (e:=A0 addW (pu (.int 1)) (A0 BZ (Ap 2 Dv (Z (J 1) (Z (A0 addW (pu (.int 1)) (J 0)) A2))) (pu (.int 4))))
    (ρ:=[some (.int cell),none]) (h:=h) (h0:=h) (caps:=[0]) 0 (m+1) (λk=>.int (L9 k:Nat)) (by lia) (Kg (n:=m+1) (by
      simp[rF,eX]) (by lia)) (λk AK acc=>by
      obtain⟨z,A9,AE⟩:=qe k (by lia);simp[A9,AE])
   simp[R8,XS,ho];rw[c];simp;rw[RH h _ rfl (by exact Lm _ _ λa=>by simp)];simp[BX,Q0]
end Fo
namespace CG
open PySem PySem.Spec B8
def SX{h g:A5}(p:h<+: g):Gb h g=true:=by obtain⟨r,rfl⟩:=p;simp
def Ke{h g:A5}(p:h<+: g)(r:A5):h<+: g++r:=p.trans (Gk _ _)
def b1{h:A5}{i j:Nat}{a b:List W}(A9:h[i]?=some ⟨.lst,a⟩)(AE:h[j]?=some ⟨.lst,b⟩)(l:a.length+b.length<=B4):addW (.ref i) (.ref j) h=.ok (.ref h.length,h++[⟨.lst,a++b⟩]):=by have f1:=Mm h A9;have f2:=Mm h AE;unfold addW;simp only[f1,f2];exact Hj h (by simpa using l)
def Io{h:A5}{n:Nat}{ws:List W}(e:h[n]?=some ⟨.lst,ws⟩):Bw [.ref n] h=.ok (.int ws.length,h):=by simp[Bw,I2 h e]
def GM{h:A5}{n k:Nat}{ws:List W}{w:W}(e:h[n]?=some ⟨.lst,ws⟩)(x:ws[k]?=some w):AI (.ref n) (.int (k:Int)) h=.ok (w,h):=V2 h (I2 h e) x
end CG
namespace Fo
open PySem PySem.Spec B8 CG
def fo{cs:List Nat}(FR:cs.length<=6)(Fh:∀c∈cs,1<=c/\c<=4){h:A5}{n:Nat}(Az:h[n]?=some ⟨.lst,BX cs⟩):R9 [.ref n] h=.ok (.ref h.length,h++[⟨.lst,(Cg cs cs.length).map AR⟩]):=by
 apply Ends.done;have lcs:(BX cs).length=cs.length:=by simp[BX]
 simp only[R9,VR,dD,BD,EY,MX,DG,AH,Hj h (show([]:List W).length<=B4 by simp),RN,Ld];simp only[Uy,DB,Iy,D7,EQ,Ho,Oh,G9,TD,FE,Py,MR,Q4,if_true,AH,BN,BD,Ld]
 have B7:=PA (mi:=E2 (Z (B0 Bw (Z (J 0) A2)) A2)) (g:=AC 2) (b:=AZ (CB (A0 addW (J 1) (EO 1 [2] (E2 (Z (A0 AI (J 0) (J 2)) A2)) (AC 0) (pu true) (Bn (Z (J 1) (Z (J 0) A2)))))) (AC 1))
  (ρ:=[some (.ref n),some (.ref h.length),none]) (h:=h++[⟨.lst,[]⟩]) (h0:=h++[⟨.lst,[]⟩]) 0 cs.length (by lia)
  (λj ρ h'=>∃a s2,ρ=[some (.ref n),some (.ref a),s2]/\h'[n]?=some ⟨.lst,BX cs⟩/\h'[a]?=some ⟨.lst,(Cg cs j).map AR⟩/\h.length<=a/\h<+: h')
  (T:=λf h'=>∃a s2,f=.AP [some (.ref n),some (.ref a),s2]/\h'[a]?=some ⟨.lst,(Cg cs cs.length).map AR⟩/\h.length<=a/\h<+: h')
  (Kg (n:=cs.length) (by simp[Io (Cp h Az _),lcs]) (by lia)) ⟨h.length,none,rfl,Cp h Az _,by simp[Cg],C1 _,Gk _ _⟩ ?_ ?_
 .obtain⟨f,h',Bo,a,s2,rfl,Bg,Hh,pr⟩:=B7.Ga;rw[Bo];simp[RI h h' (SX pr) Hh Bg (Lm _ _ jV)]
 .rintro j _ H1 Af ⟨a,s2,rfl,A9,AE,Hh,pr⟩;refine⟨[some (.ref n),some (.ref a),some (.int (j:Int))],H1,by simp,?_⟩;have ael:=hU (λc AD=>(Fh c AD).2) j;have Ah:=UC Fh j
  have c:=Xa (mi:=E2 (Z (A0 AI (J 0) (J 2)) A2)) (e:=Bn (Z (J 1) (Z (J 0) A2))) (ρ:=[some (.ref n),some (.ref a),some (.int (j:Int))]) (h:=H1) (h0:=H1) (caps:=[2]) 0 (cs.getD j 0) (λk=>AR (j,k)) (by lia)
   (Kg (by simp only[DF,Dw,v_var,DJ,Dq,DH,AH,GM A9 (Te Af),DG]) (by lia)) (λk AK acc=>by simp[B4,AR])
  simp only[EY,IK,Dw,v_var,Dq,DJ,DH,AH,c];rw[b1 (b:=(Cd (cs.getD j 0)).map λk=>AR (j,k)) (Cp H1 AE _) (by simp) (by simp only[DV,cD,B4];lia)];have es:=RI H1 (H1++[⟨.lst,(Cd (cs.getD j 0)).map λk=>AR (j,k)⟩]++[⟨.lst,(Cg cs j).map AR++(Cd (cs.getD j 0)).map λk=>AR (j,k)⟩]) (n:=H1.length+1) (ws:=(Cg cs j).map AR++(Cd (cs.getD j 0)).map λk=>AR (j,k)) (by simp) (by lia) (by simp) (Y7.mpr λw hw=>by
   rcases List.mem_append.mp hw with hw|hw
   .obtain⟨d,_,rfl⟩:=List.mem_map.mp hw;simp
   .obtain⟨d,_,rfl⟩:=List.mem_map.mp hw;simp)
  simp only[AH,EP,D7,EQ,Nat.zero_add,es];simp only[RN,D7,EQ,G9,Q4,if_true,Tk,WU,Py,MR];refine⟨H1.length,some (.int (j:Int)),rfl,Cp H1 A9 _,?_,List.IsPrefix.length_le pr,Ke pr _⟩;rw[cn];simp[OO]
 .rintro _ h' ⟨a,s2,rfl,A9,AE,Hh,pr⟩;exact⟨a,s2,rfl,AE,Hh,pr⟩
end Fo
namespace CG
open PySem PySem.Spec B8
def Mj{h:A5}{n:Nat}{ws:List W}{m:B9}{ρ:BI}{h0:A5}(e:h[n]?=some ⟨.lst,ws⟩)(em:m ρ h0=.ok (.ref n,h)):Dc m ρ h0=.ok (G4 (.ref n),h):=by unfold Dc;simp only[JN,em,AH,I2 h e]
def Qo{h:A5}{n:Nat}{ws:List W}(e:h[n]?=some ⟨.lst,ws⟩)(j:Nat):G4 (.ref n) j h=some ws[j]?:=by simp only[G4,I2 h e]
@[simp] theorem afO(f g:DC)(x y:W)(ρ:BI)(h:A5):FP [f,g] (.tup [x,y]) ρ h=(f x ρ h).bind (Nf λρ h=>(g y ρ h).bind (Nf Br)):=by
  simp only[FP,VJ,D7,EQ,S8,BD];rw[if_pos trivial]
  congr
end CG
namespace Fo
open PySem PySem.Spec B8 CG
def Z7(h:A5)(d:AY):Dn 8 h (AR d)=some (.Dj true [.int (d.1:Nat),.int (d.2:Nat)]):=by simp[AR,Dn]
def Wv(h:A5)(a b:AY):BH true (AR a) (AR b) h=.ok (.AM (decide (a=b)),h):=by
 unfold BH;rw[Z7,Z7];simp only[eqT,HS]
 congr 3
 obtain⟨a1,a2⟩:=a;obtain⟨D_,E9⟩:=b;by_cases h1:a1=D_<;>by_cases h2:a2=E9<;>simp[h1,h2]
 all_goals lia
def EE:List (AY×AY)->AY->Option AY
 |[],_=>none
 |w::ws,d=>if w.1=d then some w.2 else if w.2=d then some w.1 else EE ws d
def Hk:Option AY->W
 |none=>.non
 |some d=>AR d
@[simp] theorem aeN(o:Option AY):DP (Hk o)=true:=by cases o<;>simp[Hk]
def fL{ws:List (AY×AY)}(AF:ws.length<100){h:A5}{n:Nat}(Az:h[n]?=some ⟨.lst,ws.map Bs⟩)(d:AY):Ou [.ref n,AR d] h=.ok (Hk (EE ws d),h):=by
 apply Ends.done
 have B7:=Wu (mi:=Dc (J 0)) (it:=G4 (.ref n)) (g:=FP [(AC 2),(AC 3)]) (b:=AO (Bp (A_ (A0 (BH true) (J 2) (J 1))) (B5 (J 3)) Br) (Bp (A_ (A0 (BH true) (J 3) (J 1))) (B5 (J 2)) Br))
  (ρ:=[some (.ref n),some (AR d),none,none]) (h:=h) (h0:=h) (ws.map Bs) (by simp;lia)
  (λj ρ h'=>∃s2 s3,ρ=[some (.ref n),some (AR d),s2,s3]/\h'=h/\EE (ws.drop j) d=EE ws d)
  (T:=λf h'=>h'=h/\((∃ρ,f=.AP ρ/\EE ws d=none)\/f=.Do (Hk (EE ws d))))
  (Mj Az (by simp)) (λj ρ h' _⟨_,_,_,e,_⟩=>by rw[e];exact Qo Az j) ⟨none,none,rfl,rfl,rfl⟩ ?_ ?_
 .obtain⟨f,h',Bo,rfl,q⟩:=B7.Ga;simp only[Ou,VR,dC,BD,Ld,Uy,DB,Iy,D7,EQ,Ho,Oh,G9,TD,FE,Bo,AH];rcases q with⟨ρ,rfl,e⟩|rfl
  .simp[e,Hk]
  .simp
 .rintro j w _ H1 DD ⟨s2,s3,rfl,G1,e⟩;subst G1;rw[Em]at DD;cases CK:ws[j]? with
  |none=>rw[CK]at DD;cases DD
  |some p=>
   rw[CK]at DD;cases DD;have Af:j<ws.length:=(List.getElem?_eq_some_iff.mp CK).1;have hd:ws.drop j=p::ws.drop (j+1):=by rw[Vg Af];have:=(List.getElem?_eq_some_iff.mp CK).2;rw[this]
   rw[hd]at e;refine⟨[some (.ref n),some (AR d),some (AR p.1),some (AR p.2)],H1,by simp[Bs],?_⟩;simp only[EE]at e;by_cases h1:p.1=d
   .rw[if_pos h1]at e;simp[Wv,h1,<-e,Hk]
   .rw[if_neg h1]at e;by_cases h2:p.2=d
    .rw[if_pos h2]at e;simp[Wv,h1,h2,<-e,Hk]
    .rw[if_neg h2]at e;simp[Wv,h1,h2,e]
 .rintro _ _ ⟨s2,s3,rfl,rfl,e⟩;refine⟨rfl,.inl ⟨_,rfl,?_⟩⟩;rw[<-e];simp[EE]
def wM(h:A5)(o:Option AY):EA true (Hk o) .non h=.ok (.AM o.isNone,h):=by cases o<;>rfl
def yb{cs:List Nat}{ws:List (AY×AY)}(N:KC cs ws){h:A5}{n k:Nat}(Az:h[n]?=some ⟨.lst,BX cs⟩)(D1:h[k]?=some ⟨.lst,ws.map Bs⟩) :
  SN [.ref n,.ref k] h=.ok (.ref h.length,h++[⟨.lst,((Cg cs cs.length).filter λd=>(EE ws d).isNone).map AR⟩]):=by
 have JC:=fo N.FR N.c Az;have Ah:=UC N.c cs.length;have xM:=N.FR
 have c:=X_ (mi:=Dc (Ap 1 R9 (Z (J 0) A2))) (it:=G4 (.ref h.length)) (g:=AC 0) (t:=A_ (A0 (EA true) (Ap 2 Ou (Z (J 1) (Z (J 0) A2))) (pu (.non)))) (e:=J 0) (ρ:=[some (.ref n),some (.ref k)]) (h:=h++[⟨.lst,(Cg cs cs.length).map AR⟩]) (h0:=h) (nl:=1) (caps:=[1])
  ((Cg cs cs.length).map AR) (λw=>match w with
    |.tup [.int a,.int b]=>(EE ws (a.toNat,b.toNat)).isNone
    |_=>false) id (λρ=>∃x,ρ=[x,some (.ref k)]) (by simp;lia) (Mj (ws:=(Cg cs cs.length).map AR) (by simp) (by simp[JC])) ⟨none,rfl⟩ (λj acc _=>Qo (by rw[FS];simp) j) (by
    rintro w hw ρ acc ⟨x,rfl⟩;obtain⟨d,hd,rfl⟩:=List.mem_map.mp hw;refine⟨[some (AR d),some (.ref k)],by simp,⟨_,rfl⟩,?_,λ_=>by simp⟩;have b:=fL N.few (Cp _ (Cp h D1 [⟨.lst,(Cg cs cs.length).map AR⟩]) [⟨.lst,acc⟩]) d;simp only[OS,Dw,IX,DF,v_var,DJ,Dq,DH,AH,DG,D7,EQ,G9,if_true,b,E4,wM,OI];simp[AR])
 simp only[SN,VR,cZ,Pk,Uy,DB,Iy,D7,EQ,Ho,Oh,G9,TD,FE,MS,c,AH,UJ];have Bo:(((Cg cs cs.length).map AR).filter λw=>match w with
   |.tup [.int a,.int b]=>(EE ws (a.toNat,b.toNat)).isNone
   |_=>false)=((Cg cs cs.length).filter λd=>(EE ws d).isNone).map AR:=by
  rw[List.filter_map]
  congr 1
 rw[Bo,List.map_id];exact RI h _ (SX (Ke (Gk _ _) _)) (by simp) (by simp) (Lm _ _ jV)
end Fo
namespace CG
open PySem PySem.Spec B8
theorem dp{α β:Type}(f:α->β):∀(l:List α)(k:Nat),(l.map f).eraseIdx k=(l.eraseIdx k).map f
 |[],_=>by simp
 |x::l,0=>by simp
 |x::l,k+1=>by simp[dp f l k]
def j0:(2:Int)^63=9223372036854775808:=by decide
def iz{ws:List W}{k:Nat}(AK:k<ws.length)(AF:ws.length<1000):L0 ws [.int (k:Int)]=some (ws[k],ws.eraseIdx k):=by
 have c: -(2^63)<=(k:Int)/\(k:Int)<2^63:=by rw[j0];lia
 have e:Rc (k:Int) ws.length=some k:=by unfold Rc;simp[show¬(k:Int)<0 by lia,AK]
 simp only[L0,if_pos c,e,CF AK,T3]
def MI{f:Mz}{m:B9}{a:EK}{ρ:BI}{h h1 h2:A5}{n:Nat}{ws ws2 ws' us:List W}{r:W}(em:m ρ h=.ok (.ref n,h1))(A9:h1[n]?=some ⟨.lst,ws⟩)(Bg:a ρ h1=.ok (us,h2))(AE:h2[n]?=some ⟨.lst,ws2⟩)(Bo:f ws2 us=some (r,ws'))(AF:ws'.length<=B4) :
  E1 f m a ρ h=.ok (r,h2.set n ⟨.lst,ws'⟩):=by
 rw[aba,em];simp only[AH,YJ,Mm h1 A9,JN,Bg,Xu,Mm h2 AE,Bo];exact if_pos AF
def Z1{h g:A5}(p:h<+: g){n:Nat}(l:h.length<=n)(o:O):h<+: g.set n o:=by obtain⟨r,rfl⟩:=p;rw[og _ _ l];exact Gk _ _
def FJ{h:A5}{i j:Nat}(ne:i≠j)(o:O):(h.set i o)[j]?=h[j]?:=Lf ne
def Jo{h:A5}{i:Nat}{o o':O}(e:h[i]?=some o'):(h.set i o)[i]?=some o:=JQ (List.getElem?_eq_some_iff.mp e).1
def KH{h:A5}{i:Nat}{o:O}(e:h[i]?=some o):i<h.length:=(List.getElem?_eq_some_iff.mp e).1
end CG
namespace Fo
open PySem PySem.Spec B8 CG
def rY(ws:List (AY×AY))(w:AY×AY):ends (ws++[w])=ends ws++[w.1,w.2]:=by simp[ends]
def e_(ws:List (AY×AY)):(ends ws).length=2*ws.length:=by
 induction ws with
 |nil=>rfl
 |cons w ws Bk=>simp[ends]at Bk |-;lia
noncomputable def aQ:An:=AO (AZ (E1 L0 (J 2) (Z (A0 BZ (A0 AI (J 7) (pu (.int 0))) (B0 Bw (Z (J 2) A2))) A2)) (AC 8))
    (AO (AZ (E1 L0 (J 2) (Z (A0 BZ (A0 AI (J 7) (pu (.int 1))) (B0 Bw (Z (J 2) A2))) A2)) (AC 9))
    (AO (Fs (E1 FU (J 3) (Z (Bn (Z (J 8) (Z (J 9) A2))) A2)))
    (AZ (A0 addW (J 6) (pu (.int 2))) (AC 6))))
def Eg(cell:Int)(n a b:Nat)(nm Bd:Int)(k:Nat)(Cj DE F_:Option W):BI:=[some (.int cell),some (.ref n),some (.ref a),some (.ref b),some (.int nm),some (.int Bd),some (.int (k:Int)),Cj,DE,F_]
structure OF(h:A5)(a b:Nat)(R:List AY)(ws:List (AY×AY))(h':A5):Prop where
 Bg:h'[a]?=some ⟨.lst,R.map AR⟩
 Au:h'[b]?=some ⟨.lst,ws.map Bs⟩
 ne:a≠b
 Hh:h.length<=a
 Il:h.length<=b
 pr:h<+: h'
def OF.more{h:A5}{a b:Nat}{R:List AY}{ws:List (AY×AY)}{h':A5}(w:OF h a b R ws h')(g:A5):OF h a b R ws (h'++g):=⟨Cp _ w.Bg g,Cp _ w.Au g,w.ne,w.Hh,w.Il,Ke w.pr g⟩
noncomputable def ck(cell:Int)(n:Nat)(h:A5)(al:List AY)(Bd:Int)(m:Nat)(ρ:BI)(h':A5):Prop:=∃(a b:Nat)(ws:List (AY×AY))(R:List AY)(nm:Int)(Cj DE F_:Option W),(ends ws++R).Perm al/\1<=R.length/\m=R.length/\OF h a b R ws h'/\ρ=Eg cell n a b nm Bd (9+2*ws.length) Cj DE F_
def n9{cell:Int}{n a b p:Nat}{h AS:A5}{al R:List AY}{ws:List (AY×AY)}{nm Bd:Int}{DE F_:Option W}{q1 q2:Int}(T:En->A5->Prop)(pm:(ends ws++R).Perm al)(PO:3<=R.length)(Zd:al.length<=100)(w:OF h a b R ws AS)(Ai:AS[p]?=some ⟨.lst,[.int q1,.int q2]⟩)(Uk:p≠a) :
  Ends (aQ (Eg cell n a b nm Bd (9+2*ws.length) (some (.ref p)) DE F_) AS) (L2 (λDx h'=>∃m,m<R.length/\ck cell n h al Bd m Dx h') T):=by
 have Ah:(ends ws).length+R.length=al.length:=by have:=pm.length_eq;simpa using this
 rw[e_]at Ah;obtain⟨k1,dg,rU⟩:=Ka q1 (n:=R.length) (by lia);have PP:(R.eraseIdx k1).length=R.length-1:=oU dg;obtain⟨k2,Nt,rV⟩:=Ka q2 (n:=(R.eraseIdx k1).length) (by lia);have wp:((R.eraseIdx k1).eraseIdx k2).length=R.length-2:=by rw[oU Nt];lia
 obtain⟨Bl,Er⟩:∃Bl,Bl=AS.set a ⟨.lst,(R.eraseIdx k1).map AR⟩:=⟨_,rfl⟩;have f1:Bl[a]?=some ⟨.lst,(R.eraseIdx k1).map AR⟩:=by rw[Er];exact Jo w.Bg
 have f2:Bl[p]?=some ⟨.lst,[.int q1,.int q2]⟩:=by rw[Er,FJ Uk.symm];exact Ai
 have F8:Bl[b]?=some ⟨.lst,ws.map Bs⟩:=by rw[Er,FJ w.ne];exact w.Au
 have t1:E1 L0 (J 2) (Z (A0 BZ (A0 AI (J 7) (pu (.int 0))) (B0 Bw (Z (J 2) A2))) A2) (Eg cell n a b nm Bd (9+2*ws.length) (some (.ref p)) DE F_) AS=.ok (AR R[k1],Bl):=by
  rw[Er];have FA:AI (.ref p) (.int 0) AS=.ok (.int q1,AS):=GM (k:=0) Ai rfl;refine MI (ws:=R.map AR) (ws2:=R.map AR) (us:=[.int (k1:Int)]) (h1:=AS) (h2:=AS) (by simp[Eg]) w.Bg ?_ w.Bg ?_ (by simp[B4];lia)
  .simp[Eg,FA,Io w.Bg,show 0<R.length by lia];exact rU
  .rw[iz (by simpa using dg) (by simp;lia)];simp[dp]
 obtain⟨CM,Nh⟩:∃CM,CM=Bl.set a ⟨.lst,((R.eraseIdx k1).eraseIdx k2).map AR⟩:=⟨_,rfl⟩;have g1:CM[a]?=some ⟨.lst,((R.eraseIdx k1).eraseIdx k2).map AR⟩:=by rw[Nh];exact Jo f1
 have g3:CM[b]?=some ⟨.lst,ws.map Bs⟩:=by rw[Nh,FJ w.ne];exact F8
 have Ct:∀kL,E1 L0 (J 2) (Z (A0 BZ (A0 AI (J 7) (pu (.int 1))) (B0 Bw (Z (J 2) A2))) A2) (Eg cell n a b nm Bd (9+2*ws.length) (some (.ref p)) kL F_) Bl=.ok (AR (R.eraseIdx k1)[k2],CM):=λkL=>by
  rw[Nh];have B1:AI (.ref p) (.int 1) Bl=.ok (.int q2,Bl):=GM (k:=1) f2 rfl;refine MI (ws:=(R.eraseIdx k1).map AR) (ws2:=(R.eraseIdx k1).map AR) (us:=[.int (k2:Int)]) (h1:=Bl) (h2:=Bl) (by simp[Eg]) f1 ?_ f1 ?_ (by simp[B4];lia)
  .have:0<(R.eraseIdx k1).length:=by lia
   simp only[Eg,DF,Dw,HN,v_var,E4,DG,Dq,DJ,DH,AH,B1,Io f1,Kx,DV];rw[if_pos (by lia)];simp only[AH,rV]
  .rw[iz (by simpa using Nt) (by simp;lia)];simp[dp]
 have t3:E1 FU (J 3) (Z (Bn (Z (J 8) (Z (J 9) A2))) A2) (Eg cell n a b nm Bd (9+2*ws.length) (some (.ref p)) (some (AR R[k1])) (some (AR (R.eraseIdx k1)[k2]))) CM=.ok (.non,CM.set b ⟨.lst,(ws++[(R[k1],(R.eraseIdx k1)[k2])]).map Bs⟩):=
  MI (ws:=ws.map Bs) (ws2:=ws.map Bs) (us:=[Bs (R[k1],(R.eraseIdx k1)[k2])]) (h1:=CM) (h2:=CM) (by simp[Eg]) g3 (by simp[Eg,B4,Bs]) g3 (by simp[FU]) (by simp[B4];lia)
 have CD:OF h a b ((R.eraseIdx k1).eraseIdx k2) (ws++[(R[k1],(R.eraseIdx k1)[k2])]) (CM.set b ⟨.lst,(ws++[(R[k1],(R.eraseIdx k1)[k2])]).map Bs⟩):=⟨by rw[FJ w.ne.symm];exact g1,Jo g3,w.ne,w.Hh,w.Il,Z1 (by rw[Nh];exact Z1 (by rw[Er];exact Z1 w.pr w.Hh _) w.Hh _) w.Il _⟩;unfold aQ;simp only[BD,EY,t1,AH];have HO:AC 8 (AR R[k1]) (Eg cell n a b nm Bd (9+2*ws.length) (some (.ref p)) DE F_) Bl=.ok (.AP (Eg cell n a b nm Bd (9+2*ws.length) (some (.ref p)) (some (AR R[k1])) F_),Bl):=rfl;have F5:AC 9 (AR (R.eraseIdx k1)[k2]) (Eg cell n a b nm Bd (9+2*ws.length) (some (.ref p)) (some (AR R[k1])) F_) CM=.ok (.AP (Eg cell n a b nm Bd (9+2*ws.length) (some (.ref p)) (some (AR R[k1])) (some (AR (R.eraseIdx k1)[k2]))),CM):=rfl;rw[HO];simp only[AH,BN,BD,EY,Ct];rw[F5];simp only[AH,BN,BD,Lc,t3,EY];refine⟨.AP (Eg cell n a b nm Bd (9+2*ws.length+2) (some (.ref p)) (some (AR R[k1])) (some (AR (R.eraseIdx k1)[k2]))),CM.set b ⟨.lst,(ws++[(R[k1],(R.eraseIdx k1)[k2])]).map Bs⟩,by simp[Eg],?_⟩;refine⟨R.length-2,by lia,a,b,ws++[(R[k1],(R.eraseIdx k1)[k2])],(R.eraseIdx k1).eraseIdx k2,nm,_,_,_,?_,by lia,wp.symm,CD,by rw[EP];rfl⟩;rw[rY,FS];refine List.Perm.trans (ov _ ?_) pm;exact((dq (R.eraseIdx k1) k2 Nt).cons _).trans (dq R k1 dg)
def eh{α β OW:Type}(r:CG.R α)(f:α->CG.R β)(g:β->CG.R OW):(r.bind f).bind g=r.bind λa=>(f a).bind g:=by cases r<;>rfl
def aP:An:=AO (AZ (CO (Z (J 4) (Z (A0 CT (J 4) (B0 Bw (Z (J 2) A2))) A2))) (AC 7))
    (AZ (A0 CT (A0 CT (J 4) (B0 Bw (Z (J 2) A2))) (A0 Pg (B0 Bw (Z (J 2) A2)) (pu (.int 1)))) (AC 4))
noncomputable def V7:An:=AO (AZ (CO (Z (Ap 2 Dv (Z (J 0) (Z (J 6) A2))) (Z (Ap 2 Dv (Z (J 0) (Z (A0 addW (J 6) (pu (.int 1))) A2))) A2))) (AC 7))
    (AO (Bp (A_ (A0 (BH true) (A0 BZ (J 0) (pu (.int 2))) (pu (.int 1)))) aP Br) aQ)
def Yn:DK:=A_ (A0 MA (B0 Bw (Z (J 2) A2)) (A0 addW (J 5) (pu (.int 1))))
def abl{cell:Int}{n a b:Nat}{h H1:A5}{al R:List AY}{ws:List (AY×AY)}{nm Bd:Int}{Cj DE F_:Option W}(T:En->A5->Prop)(pm:(ends ws++R).Perm al)(PO:3<=R.length)(Zd:al.length<=100)(w:OF h a b R ws H1) :
  Ends (V7 (Eg cell n a b nm Bd (9+2*ws.length) Cj DE F_) H1) (L2 (λDx h'=>∃m,m<R.length/\ck cell n h al Bd m Dx h') T):=by
 have Ah:(ends ws).length+R.length=al.length:=by have:=pm.length_eq;simpa using this
 rw[e_]at Ah;obtain⟨Lv,f1⟩:=Mr cell (9+2*ws.length) (by lia);obtain⟨M_,f2⟩:=Mr cell (9+2*ws.length+1) (by lia);have rH:∀h,Dv [.int cell,.int (((9+2*ws.length:Nat):Int)+1)] h=.ok (.int M_,h):=f2;have Hh:=KH w.Bg;have s1:AZ (CO (Z (Ap 2 Dv (Z (J 0) (Z (J 6) A2))) (Z (Ap 2 Dv (Z (J 0) (Z (A0 addW (J 6) (pu (.int 1))) A2))) A2))) (AC 7) (Eg cell n a b nm Bd (9+2*ws.length) Cj DE F_) H1=.ok (.AP (Eg cell n a b nm Bd (9+2*ws.length) (some (.ref H1.length)) DE F_),H1++[⟨.lst,[.int Lv,.int M_]⟩]):=by simp only[Eg,EY,MX,DF,IX,Dw,v_var,E4,DG,Dq,DJ,DH,AH,D7,EQ,G9,if_true,RD,f1,rH,Hj H1 (show([.int Lv,.int M_]:List W).length<=B4 by simp[B4]),RN,Q4,Py,MR]
 unfold V7;simp only[BD,s1,AH,BN];by_cases ho:cell%2=1
 .have xK:(0:Int)<(R.length:Int)/\(R.length:Int)<1073741824:=by lia
  have CC:(0:Int)<(R.length:Int)-1/\(R.length:Int)-1<1073741824:=by lia
  have A9:∀g,(H1++g)[a]?=some ⟨.lst,R.map AR⟩:=λg=>Cp H1 w.Bg g;have c:A_ (A0 (BH true) (A0 BZ (J 0) (pu (.int 2))) (pu (.int 1))) (Eg cell n a b nm Bd (9+2*ws.length) (some (.ref H1.length)) DE F_) (H1++[⟨.lst,[.int Lv,.int M_]⟩])=.ok (true,H1++[⟨.lst,[.int Lv,.int M_]⟩]):=by simp[Eg,ho]
  have s2:aP (Eg cell n a b nm Bd (9+2*ws.length) (some (.ref H1.length)) DE F_) (H1++[⟨.lst,[.int Lv,.int M_]⟩])=.ok (.AP (Eg cell n a b (nm/R.length/((R.length:Int)-1)) Bd (9+2*ws.length) (some (.ref (H1.length+1))) DE F_),H1++[⟨.lst,[.int Lv,.int M_]⟩,⟨.lst,[.int nm,.int (nm/R.length)]⟩]):=by simp[aP,Eg,Io (A9 _),xK,CC,show 0<R.length by lia,show 1<R.length by lia,show(1:Int)<(R.length:Int)by lia,nw,B4]
  simp only[F4,c,AH,if_true,s2,BN];exact n9 (q1:=nm) (q2:=nm/R.length) T pm PO Zd (w.more _) (by simp) (by lia)
 .have c:A_ (A0 (BH true) (A0 BZ (J 0) (pu (.int 2))) (pu (.int 1))) (Eg cell n a b nm Bd (9+2*ws.length) (some (.ref H1.length)) DE F_) (H1++[⟨.lst,[.int Lv,.int M_]⟩])=.ok (false,H1++[⟨.lst,[.int Lv,.int M_]⟩]):=by simp[Eg,ho]
  simp only[F4,c,AH,Gj,if_false,IJ,BN];exact n9 (q1:=Lv) (q2:=M_) T pm PO Zd (w.more _) (by simp) (by lia)
def abF(cell:Int)(cs:List Nat)(h1:1<=cs.length)(FR:cs.length<=6)(Fh:∀c∈cs,1<=c/\c<=4){h:A5}{n:Nat}(Az:h[n]?=some ⟨.lst,BX cs⟩) :
  ∃ws,KC cs ws/\(∃d∈Cg cs cs.length,d∉ends ws)/\Mq [.int cell,.ref n] h=.ok (.ref h.length,h++[⟨.lst,ws.map Bs⟩]):=by
 have CR:1<=(Cg cs cs.length).length:=T0 (head_mem h1 Fh);have af2:=UC Fh cs.length;have yD:=ez cs cs.length;have JC:=fo FR Fh Az;obtain⟨o9,sF⟩:=Mr cell 8 (by decide);have g0:∀h,Dv [.int cell,.int 8] h=.ok (.int o9,h):=sF;obtain⟨N,hN⟩:∃N:Int,cell/2%1000000000000000000000000000000000000000000000000000000000000/24576=N:=⟨_,rfl⟩;suffices hs:∃ws,KC cs ws/\(∃d∈Cg cs cs.length,d∉ends ws)/\Ends (Mq [.int cell,.ref n] h) (λw h'=>w=.ref h.length/\h'=h++[⟨.lst,ws.map Bs⟩])by
  obtain⟨ws,a,b,c⟩:=hs;exact⟨ws,a,b,c.done⟩
 obtain⟨C2,EU⟩:∃C2,C2=h++[⟨.lst,(Cg cs cs.length).map AR⟩,⟨.lst,[]⟩]:=⟨_,rfl⟩;have OV:OF h h.length (h.length+1) (Cg cs cs.length) [] C2:=⟨by rw[EU];simp,by rw[EU];simp,by lia,C1 _,by lia,by rw[EU];exact Gk _ _⟩;have B7:∀(nm Bd:Int),1<=Bd->Ends (Su Yn V7 (Eg cell n h.length (h.length+1) nm Bd 9 none none none) C2) (λf h'=>∃a b ws R nm Cj DE F_,f=.AP (Eg cell n a b nm Bd (9+2*ws.length) Cj DE F_)/\(ends ws++R).Perm (Cg cs cs.length)/\1<=R.length/\OF h a b R ws h'):=λnm Bd h7=>by refine rZ (ck cell n h (Cg cs cs.length) Bd) (n:=(Cg cs cs.length).length) (by lia) ⟨h.length,h.length+1,[],Cg cs cs.length,nm,none,none,none,.refl _,CR,rfl,OV,rfl⟩ ?_;rintro m _ H1 ⟨a,b,ws,R,nm,Cj,DE,F_,pm,CC,rfl,w,rfl⟩;refine⟨decide (Bd+1<(R.length:Int)),H1,by simp[Yn,Eg,Io w.Bg],λ_=>⟨a,b,ws,R,nm,Cj,DE,F_,rfl,pm,CC,w⟩,λBQ=>abl _ pm (by have:=of_decide_eq_true BQ;lia) (by lia) w⟩
 have fin:∀(nm Bd:Int),1<=Bd->(Mq [.int cell,.ref n] h=(Ga (Su Yn V7 (Eg cell n h.length (h.length+1) nm Bd 9 none none none) C2)).bind λp=>(Nf (B5 (J 3)) p).bind λp=>(outF p).bind λq=>settle h q.1 q.2)->∃ws,KC cs ws/\(∃d∈Cg cs cs.length,d∉ends ws)/\Ends (Mq [.int cell,.ref n] h) (λw h'=>w=.ref h.length/\h'=h++[⟨.lst,ws.map Bs⟩]):=λnm Bd h7 e=>by
  obtain⟨f,h',Bo,a,b,ws,R,aeV,Cj,DE,F_,rfl,pm,CC,w⟩:=(B7 nm Bd h7).Ga;have Ah:(ends ws).length+R.length=(Cg cs cs.length).length:=by have:=pm.length_eq;simpa using this
  rw[e_]at Ah;have C3:(ends ws++R).Nodup:=pm.nodup_iff.mpr yD;have hR:R[0]∈R:=Lh _;refine⟨ws,⟨h1,FR,Fh,(List.nodup_append.mp C3).1,λd hd=>pm.mem_iff.mp (Hp _ hd),by lia⟩,⟨R[0],pm.mem_iff.mp (HT _ hR),λz=>(List.nodup_append.mp C3).2.2 _ z _ hR rfl⟩,?_⟩;rw[e,Bo];simp[Eg,RI h h' (SX w.pr) w.Il w.Au (Lm _ _ jX)]
 have Au:ca=AO (AZ (Ap 1 R9 (Z (J 1) A2)) (AC 2))
  (AO (AZ (CO A2) (AC 3))
  (AO (AZ (A0 CT (A0 BZ (A0 CT (J 0) (pu (.int 2))) (A0 Nb (pu (.int 10)) (pu (.int 60)))) (pu (.int 24576))) (AC 4))
  (AO (AZ (A0 addW (pu (.int 1)) (A0 BZ (Ap 2 Dv (Z (J 0) (Z (pu (.int 8)) A2))) (pu (.int 3)))) (AC 5))
  (AO (Bp (A_ (A0 (BH true) (A0 BZ (J 0) (pu (.int 2))) (pu (.int 1)))) (AO (AZ (A0 addW (pu (.int 1)) (A0 BZ (J 4) (pu (.int 24)))) (AC 5)) (AZ (A0 CT (J 4) (pu (.int 24))) (AC 4))) Br)
  (AO (AZ (pu (.int 9)) (AC 6))
  (AO (Xz Yn V7) (B5 (J 3)))))))):=rfl
 by_cases ho:cell%2=1
 .refine fin (N/24) (1+N%24) (by lia) ?_;simp[Mq,Au,JC,nw,B4,Z0,hN,g0,ho];rw[EU];exact eh _ _ _
 .refine fin N (1+o9%3) (by lia) ?_;simp[Mq,Au,JC,nw,B4,Z0,hN,g0,ho];rw[EU];exact eh _ _ _
def KF(c:Nat):Prop:=c=48\/c=49\/c=120
structure QU(x:Str):Prop where
 l:x.cps.toList.length=4
 s:∀c∈x.cps.toList,KF c
def pg{x y:Str}(h:A5)(l:x.length+y.length<=B4):addW (.str x) (.str y) h=.ok (.str (x++y),h):=if_pos l
def gS(x:Str)(c:Nat):(x++(⟨#[c]⟩:Str)).cps.toList=x.cps.toList++[c]:=by show(x.cps++ #[c]).toList=_;simp
structure Cs where
 p:Str
 a:Option Nat
 b:Option Nat
def Co:Option Nat->W
 |none=>.non
 |some k=>.int (k:Int)
def E6(r:Cs):W:=.tup [.str r.p,Co r.a,Co r.b]
@[simp] theorem aeO(o:Option Nat):DP (Co o)=true:=by cases o<;>simp[Co]
@[simp] theorem jW(r:Cs):DP (E6 r)=true:=by simp[E6]
structure Rv(c:Nat)(r:Cs):Prop where
 p:QU r.p
 a:∀k,r.a=some k->k<c
 b:∀k,r.b=some k->k<c
def MM(c:Nat)(b:List Cs):Prop:=b.length<=12/\∀r∈b,Rv c r
def hV{cs:List Nat}(h:∀c∈cs,1<=c/\c<=4){k:Nat}(AK:k<cs.length):1<=cs.getD k 0/\cs.getD k 0<=4:=by have:=h (cs[k]) (Lh _);simpa[AK]using this
def HM(z:Int):Nat:=if z%5=2 then 48 else if z%5=3 then 49 else 120
def aal(z:Int):KF (HM z):=by
 unfold HM KF
 split
 .exact .inl rfl
 .split
  .exact .inr (.inl rfl)
  .exact .inr (.inr rfl)
def pt(q:Int)(Dp:Int->Nat):Nat->Int->Str×Int
 |0,y=>(As "",y)
 |j+1,y=>((pt q Dp j y).1++(⟨#[Dp (pt q Dp j y).2]⟩:Str),(pt q Dp j y).2/q)
theorem bC(q:Int)(Dp:Int->Nat):∀j y,(pt q Dp j y).1.cps.toList.length=j
 |0,y=>by simp only[pt];decide
 |j+1,y=>by simp only[pt];rw[gS,EP,bC q Dp j y];rfl
theorem kX{q:Int}{Dp:Int->Nat}(ok:∀z,KF (Dp z)):∀j y,∀c∈(pt q Dp j y).1.cps.toList,KF c
 |0,y,c,h=>nomatch (show c∈([]:List Nat)from h)
 |j+1,y,c,h=>by
  simp only[pt]at h;rw[gS]at h;rcases List.mem_append.mp h with h|h
  .exact kX ok j y c h
  .rw[List.mem_singleton.mp h];exact ok _
def kW{q:Int}{Dp:Int->Nat}(ok:∀z,KF (Dp z))(y:Int):QU (pt q Dp 4 y).1:=⟨bC q Dp 4 y,kX ok 4 y⟩
def kU(h:A5)(q:Int)(Dp:Int->Nat)(j:Nat)(Af:j<1000)(y:Int):addW (.str (pt q Dp j y).1) (.str ⟨#[Dp (pt q Dp j y).2]⟩) h=.ok (.str (pt q Dp (j+1) y).1,h):=by refine pg h ?_;have A9:(pt q Dp j y).1.length=j:=bC q Dp j y;have AE:(⟨#[Dp (pt q Dp j y).2]⟩:Str).length=1:=rfl;rw[A9,AE];unfold B4;lia
abbrev five:List W:=[.str (As "x"),.str (As "x"),.str (As "0"),.str (As "1"),.str (As "x")]
def aaA(z:Int):∃k:Nat,z%5=(k:Int)/\five[k]?=some (.str ⟨#[HM z]⟩):=by
 have h:z%5=0\/z%5=1\/z%5=2\/z%5=3\/z%5=4:=by lia
 unfold HM;rcases h with h|h|h|h|h<;>rw[h]
 .exact⟨0,rfl,rfl⟩
 .exact⟨1,rfl,rfl⟩
 .exact⟨2,rfl,rfl⟩
 .exact⟨3,rfl,rfl⟩
 .exact⟨4,rfl,rfl⟩
noncomputable def rowOf(y:Int)(c:Nat):Cs:=⟨(pt 5 HM 4 y).1,if(pt 5 HM 4 y).2%3=0 then some ((pt 5 HM 4 y).2/3%(c:Int)).toNat else none,if(pt 5 HM 4 y).2/100%9=0 then none else some ((pt 5 HM 4 y).2/20%(c:Int)).toNat⟩
def Y6(x:Int){c:Nat}(AD:1<=c):(x%(c:Int)).toNat<c/\(((x%(c:Int)).toNat:Nat):Int)=x%(c:Int):=by obtain⟨k,AK,e⟩:=Ka x (n:=c) (by lia);rw[e];simp[AK]
def aaV(y:Int){c:Nat}(AD:1<=c):Rv c (rowOf y c):=by
 refine⟨kW aal y,λk e=>?_,λk e=>?_⟩
 .simp only[rowOf]at e
  split at e
  .cases e;exact(Y6 _ AD).1
  .cases e
 .simp only[rowOf]at e
  split at e
  .cases e
  .cases e;exact(Y6 _ AD).1
def aaW{cell y:Int}{k c:Nat}(D9:∀h,Dv [.int cell,.int k] h=.ok (.int y,h))(AD:1<=c)(TS:c<=4)(h:A5):Uc [.int cell,.int k,.int (c:Int)] h=.ok (E6 (rowOf y c),h):=by
 apply Ends.done;obtain⟨z,KN⟩:∃z,z=(pt 5 HM 4 y).2:=⟨_,rfl⟩
 have B7:=PA (mi:=E2 (Z (pu (.int 4)) A2)) (g:=AC 5) (b:=AO (AZ (CB (A0 addW (J 4) (A0 AI (CO (Z (pu (.str (As "x"))) (Z (pu (.str (As "x"))) (Z (pu (.str (As "0"))) (Z (pu (.str (As "1"))) (Z (pu (.str (As "x"))) A2)))))) (A0 BZ (J 3) (pu (.int 5)))))) (AC 4)) (AZ (A0 CT (J 3) (pu (.int 5))) (AC 3)))
  (ρ:=[some (.int cell),some (.int k),some (.int c),some (.int y),some (.str (As "")),none,none,none]) (h:=h) (h0:=h) 0 4 (by lia)
  (λj ρ h'=>h'=h/\∃s5,ρ=[some (.int cell),some (.int k),some (.int c),some (.int (pt 5 HM j y).2),some (.str (pt 5 HM j y).1),s5,none,none])
  (T:=λf h'=>h'=h/\∃s5,f=.AP [some (.int cell),some (.int k),some (.int c),some (.int z),some (.str (pt 5 HM 4 y).1),s5,none,none])
  (Kg (n:=4) (by simp) (by lia)) ⟨rfl,none,rfl⟩ ?_ ?_
 .obtain⟨f,h',Bo,rfl,s5,rfl⟩:=B7.Ga;simp only[Uc,VR,c_,BD,EY,IX,DF,DG,v_var,E4,Uy,DB,Iy,D7,EQ,Ho,Oh,G9,TD,FE,DJ,Dq,DH,AH,if_true,D9,RN,Q4,Py,MR,BN,Ld,Bo];have GY:=Y6 (z/3) AD;have HA:=Y6 (z/20) AD;have TZ:(0:Int)<(c:Int):=by lia
  by_cases B2:z%3=0<;>by_cases uE:z/100%9=0<;>simp[B2,uE,TZ,show 0<c by lia,B4,E6,rowOf,<-KN,Co,GY.2,HA.2]
 .rintro j _ _ Af ⟨rfl,s5,rfl⟩;rename_i H1;refine⟨[some (.int cell),some (.int k),some (.int c),some (.int (pt 5 HM j y).2),some (.str (pt 5 HM j y).1),some (.int (j:Int)),none,none],H1,by simp,?_⟩;obtain⟨p,Ai,ex⟩:=aaA (pt 5 HM j y).2;have F3:AI (.ref H1.length) (.int (p:Int)) (H1++[⟨.lst,five⟩])=.ok (.str ⟨#[HM (pt 5 HM j y).2]⟩,H1++[⟨.lst,five⟩]):=GM (by simp) ex;simp only[BD,EY,IK,Dw,MX,DF,DG,v_var,E4,DJ,Dq,DH,AH,Hj H1 (show five.length<=B4 by simp[B4]),Kx,show(0:Int)<5 by decide,if_true,Ai,F3,kU _ 5 HM j (by lia) y,mV H1 [⟨.lst,five⟩] (.str (pt 5 HM (j+1) y).1) (by simp),RN,D7,EQ,G9,Q4,Py,MR,BN,Mt];simp[pt]
 .rintro _ _ ⟨rfl,s5,rfl⟩;exact⟨rfl,s5,by rw[KN]⟩
def H0(z:Int):Nat:=if z%3=0 then 48 else if z%3=1 then 49 else 120
def aak(z:Int):KF (H0 z):=by
 unfold H0 KF
 split
 .exact .inl rfl
 .split
  .exact .inr (.inl rfl)
  .exact .inr (.inr rfl)
def aa9(h:A5)(z:Int):AI (.str (As "01x")) (.int (z%3)) h=.ok (.str ⟨#[H0 z]⟩,h):=by
 have e:z%3=0\/z%3=1\/z%3=2:=by lia
 unfold H0;rcases e with e|e|e<;>rw[e]<;>rfl
def J9(c:Nat):List W:=.non::(Cd c).map λi:Nat=>W.int (i:Int)
def choice{c:Nat}{h:A5}{n:Nat}(Az:h[n]?=some ⟨.lst,J9 c⟩)(y:Int):∃o:Option Nat,(∀k,o=some k->k<c)/\AI (.ref n) (.int (y%((c:Int)+1))) h=.ok (Co o,h):=by
 obtain⟨k,AK,e⟩:=Ka y (n:=c+1) (by lia);have e:y%((c:Int)+1)=(k:Int):=by rw[<-e];simp
 rw[e];cases k with
 |zero=>exact⟨none,(λ_ h=>nomatch h),GM (k:=0) Az rfl⟩
 |succ k=>exact⟨some k,(λj h=>by cases h;lia),GM (k:=k+1) Az (by simp[J9,Co,show k<c by lia])⟩
def fe:An:=Ed (E2 (Z (pu (.int 4)) A2)) (AC 7) (AO (AZ (A0 addW (J 6) (A0 AI (pu (.str (As "01x"))) (A0 BZ (J 0) (pu (.int 3))))) (AC 6)) (AZ (A0 CT (J 0) (pu (.int 3))) (AC 0)))
noncomputable def fBody:An:=AO (AZ (pu (.str (As ""))) (AC 6)) (AO fe
    (AO (Fs (E1 FU (J 2) (Z (Bn (Z (J 6) (Z (A0 AI (J 4) (A0 BZ (J 0) (A0 addW (J 1) (pu (.int 1))))) (Z (A0 AI (J 4) (A0 BZ (A0 CT (J 0) (A0 addW (J 1) (pu (.int 1)))) (A0 addW (J 1) (pu (.int 1))))) A2)))) A2)))
    (AZ (A0 CT (A0 CT (J 0) (A0 addW (J 1) (pu (.int 1)))) (A0 addW (J 1) (pu (.int 1)))) (AC 0))))
def Fv(z:Int)(c b m ch:Nat)(s5 C5 Cj:Option W):BI:=[some (.int z),some (.int c),some (.ref b),some (.int m),some (.ref ch),s5,C5,Cj]
def sK(y:Int)(c b m ch:Nat)(s5 Cj:Option W)(h:A5):∃VI,fe (Fv y c b m ch s5 (some (.str (As ""))) Cj) h=.ok (.AP (Fv (pt 3 H0 4 y).2 c b m ch s5 (some (.str (pt 3 H0 4 y).1)) VI),h):=by
 have B7:=PA (mi:=E2 (Z (pu (.int 4)) A2)) (g:=AC 7) (b:=AO (AZ (A0 addW (J 6) (A0 AI (pu (.str (As "01x"))) (A0 BZ (J 0) (pu (.int 3))))) (AC 6)) (AZ (A0 CT (J 0) (pu (.int 3))) (AC 0)))
  (ρ:=Fv y c b m ch s5 (some (.str (As ""))) Cj) (h:=h) (h0:=h) 0 4 (by lia)
  (λj ρ h'=>h'=h/\∃Cj,ρ=Fv (pt 3 H0 j y).2 c b m ch s5 (some (.str (pt 3 H0 j y).1)) Cj)
  (T:=λf h'=>h'=h/\∃Cj,f=.AP (Fv (pt 3 H0 4 y).2 c b m ch s5 (some (.str (pt 3 H0 4 y).1)) Cj))
  (Kg (n:=4) (by simp) (by lia)) ⟨rfl,Cj,rfl⟩ ?_ ?_
 .obtain⟨f,h',Bo,rfl,s,rfl⟩:=B7.Ga;exact⟨s,Bo⟩
 .rintro j _ H1 Af ⟨G1,s,rfl⟩;subst G1;refine⟨Fv (pt 3 H0 j y).2 c b m ch s5 (some (.str (pt 3 H0 j y).1)) (some (.int (j:Int))),H1,by simp[Fv],?_⟩;simp only[Fv,BD,EY,Dw,v_var,E4,DJ,Dq,DH,AH,Kx,show(0:Int)<3 by decide,if_true,aa9,kU _ 3 H0 j (by lia) y,RN,D7,EQ,G9,Q4,Py,MR,BN,Mt];simp[pt]
 .rintro _ H1 ⟨G1,s,rfl⟩;exact⟨G1,s,rfl⟩
def sw(y:Int){c:Nat}(AD:1<=c)(TS:c<=4)(h:A5){m:Nat}(hm:m<13):∃(b:List Cs)(ρ:BI),b.length=m/\(∀r∈b,Rv c r)/\ρ[2]?=some (some (.ref h.length))/\Ga (O1 (E2 (Z (J 3) A2)) (AC 5) fBody (Fv (y/13) c h.length m (h.length+1) none none none) (h++[⟨.lst,[]⟩,⟨.lst,J9 c⟩]))=.ok (.AP ρ,h++[⟨.lst,b.map E6⟩,⟨.lst,J9 c⟩]):=by
 have B7:=PA (mi:=E2 (Z (J 3) A2)) (g:=AC 5) (b:=fBody) (ρ:=Fv (y/13) c h.length m (h.length+1) none none none) (h:=h++[⟨.lst,[]⟩,⟨.lst,J9 c⟩]) (h0:=h++[⟨.lst,[]⟩,⟨.lst,J9 c⟩]) 0 m (by lia)
  (λj ρ h'=>∃(z:Int)(b:List Cs)(s5 C5 Cj:Option W),b.length=j/\(∀r∈b,Rv c r)/\ρ=Fv z c h.length m (h.length+1) s5 C5 Cj/\h'=h++[⟨.lst,b.map E6⟩,⟨.lst,J9 c⟩])
  (T:=λf h'=>∃(b:List Cs)(ρ:BI),b.length=m/\(∀r∈b,Rv c r)/\f=.AP ρ/\ρ[2]?=some (some (.ref h.length))/\h'=h++[⟨.lst,b.map E6⟩,⟨.lst,J9 c⟩])
  (Kg (n:=m) (by simp[Fv]) (by lia)) ⟨_,[],_,_,_,rfl,(λ_ h=>nomatch h),rfl,rfl⟩ ?_ ?_
 .obtain⟨f,h',Bo,b,ρ,AF,A1,rfl,AE,rfl⟩:=B7.Ga;exact⟨b,ρ,AF,A1,AE,Bo⟩
 .rintro j _ _ Af ⟨z,b,s5,C5,Cj,AF,A1,rfl,rfl⟩;obtain⟨H,EU⟩:∃H,H=h++[⟨.lst,b.map E6⟩,⟨.lst,J9 c⟩]:=⟨_,rfl⟩;refine⟨Fv z c h.length m (h.length+1) (some (.int (j:Int))) C5 Cj,H,by rw[EU];simp[Fv],?_⟩;have Au:H[h.length]?=some ⟨.lst,b.map E6⟩:=by rw[EU];simp
  have ec:H[h.length+1]?=some ⟨.lst,J9 c⟩:=by rw[EU];simp
  obtain⟨VI,LC⟩:=sK z c h.length m (h.length+1) (some (.int (j:Int))) Cj H;obtain⟨FK,KN⟩:∃FK,FK=(pt 3 H0 4 z).2:=⟨_,rfl⟩;rw[<-KN]at LC;obtain⟨Dd,h1,A9⟩:=choice ec FK;obtain⟨Cn,h2,AE⟩:=choice ec (FK/((c:Int)+1));have BR:(0:Int)<(c:Int)+1:=by lia
  have C_:(0:Int)<(c:Int)+1/\(c:Int)+1<1073741824:=by lia
  have s1:AZ (pu (.str (As ""))) (AC 6) (Fv z c h.length m (h.length+1) (some (.int (j:Int))) C5 Cj) H=.ok (.AP (Fv z c h.length m (h.length+1) (some (.int (j:Int))) (some (.str (As ""))) Cj),H):=rfl;have s3:E1 FU (J 2) (Z (Bn (Z (J 6) (Z (A0 AI (J 4) (A0 BZ (J 0) (A0 addW (J 1) (pu (.int 1))))) (Z (A0 AI (J 4) (A0 BZ (A0 CT (J 0) (A0 addW (J 1) (pu (.int 1)))) (A0 addW (J 1) (pu (.int 1))))) A2)))) A2) (Fv FK c h.length m (h.length+1) (some (.int (j:Int))) (some (.str (pt 3 H0 4 z).1)) VI) H=.ok (.non,H.set h.length ⟨.lst,(b++[(⟨(pt 3 H0 4 z).1,Dd,Cn⟩:Cs)]).map E6⟩):=
   MI (ws:=b.map E6) (ws2:=b.map E6) (us:=[E6 (⟨(pt 3 H0 4 z).1,Dd,Cn⟩:Cs)]) (h1:=H) (h2:=H) (by simp[Fv]) Au (by simp only[Fv,DF,aO,Dw,v_var,E4,DG,DJ,Dq,DH,AH,RD,Kx,Mt,if_pos BR,if_pos C_,A9,AE];simp[B4,E6]) Au (by simp[FU]) (by simp[B4];lia)
  have s5:AZ (A0 CT (A0 CT (J 0) (A0 addW (J 1) (pu (.int 1)))) (A0 addW (J 1) (pu (.int 1)))) (AC 0) (Fv FK c h.length m (h.length+1) (some (.int (j:Int))) (some (.str (pt 3 H0 4 z).1)) VI) (H.set h.length ⟨.lst,(b++[(⟨(pt 3 H0 4 z).1,Dd,Cn⟩:Cs)]).map E6⟩)=.ok (.AP (Fv (FK/((c:Int)+1)/((c:Int)+1)) c h.length m (h.length+1) (some (.int (j:Int))) (some (.str (pt 3 H0 4 z).1)) VI),H.set h.length ⟨.lst,(b++[(⟨(pt 3 H0 4 z).1,Dd,Cn⟩:Cs)]).map E6⟩):=by simp only[Fv,EY,Dw,v_var,E4,DJ,Dq,DH,AH,RD,Mt,if_pos C_,RN,D7,EQ,G9,Q4,if_true,MR]
  unfold fBody;simp only[BD,s1,AH,BN,LC,Lc,s3,s5,Tk,WU];refine⟨_,b++[(⟨(pt 3 H0 4 z).1,Dd,Cn⟩:Cs)],_,_,_,by simp[AF],λr Ao=>?_,rfl,by rw[EU];simp⟩;rcases List.mem_append.mp Ao with Ao|Ao
  .exact A1 r Ao
  .rw[List.mem_singleton.mp Ao];exact⟨kW aak z,h1,h2⟩
 .rintro ρ h' ⟨z,b,s5,C5,Cj,AF,A1,rfl,rfl⟩;exact⟨b,_,AF,A1,rfl,rfl,rfl⟩
def wq{c:Nat}(AD:c<1000)(h:A5):Ny [.int (c:Int)] h=.ok (.ref h.length,h++[⟨.lst,(Cd c).map λi:Nat=>W.int (i:Int)⟩]):=by
 have l:(HL ((Cd c).map λi:Nat=>(i:Int))).length<=B4:=by simp[HL,B4];lia
 have C_:(c:Int)<=1000000:=by lia
 have BR: -(2^62)<=(c:Int)/\(c:Int)<=1000000:=⟨(kE AD).1,C_⟩;simp only[Ny,if_pos BR,Ob];rw[Hj h l];simp[HL,Q0]
theorem tw(z:Int){c:Nat}(TS:c<=4)(m:Nat)(h:A5):CB (A0 addW (CO (Z (pu (.non)) A2)) (B0 Ny (Z (J 1) A2))) (Fv z c h.length m 0 none none none|>.set 4 none) (h++[⟨.lst,[]⟩])=.ok (.ref (h.length+1),h++[⟨.lst,[]⟩,⟨.lst,J9 c⟩]):=by simp only[Fv,Py,MR,IK,Dw,MX,DF,DG,E4,AH,Hj (h++[⟨.lst,[]⟩]) (show([.non]:List W).length<=B4 by simp[B4]),HN,v_var,Dq,DJ,DH,wq (show c<1000 by lia)];rw[b1 (a:=[.non]) (b:=(Cd c).map λi:Nat=>W.int (i:Int)) (by simp) (by simp) (by simp[B4];lia)];simp only[AH];rw[RI (ws:=J9 c) _ _ (by simp) (by simp) (by simp[J9]) (by simp[J9];exact Lm _ _ λa=>by simp)];simp
def tv(y:Int){c:Nat}(AD:1<=c)(TS:c<=4)(h:A5):∃b,MM c b/\SM [.int y,.int (c:Int)] h=.ok (.ref h.length,h++[⟨.lst,b.map E6⟩]):=by
 obtain⟨m,hm,em⟩:=Ka y (n:=13) (by decide);have em:y%13=(m:Int):=em;obtain⟨b,ρ,AF,A1,AE,Bo⟩:=sw y AD TS h hm;refine⟨b,⟨by lia,A1⟩,?_⟩;have TZ:(0:Int)<13:=by lia
 have rD:(0:Int)<13/\(13:Int)<1073741824:=by lia
 have s1:AZ (CO A2) (AC 2) [some (.int y),some (.int (c:Int)),none,none,none,none,none,none] h=.ok (.AP [some (.int y),some (.int (c:Int)),some (.ref h.length),none,none,none,none,none],h++[⟨.lst,[]⟩]):=by simp only[EY,MX,DG,AH,Hj h (show([]:List W).length<=B4 by simp)];rfl
 have s2:AZ (A0 BZ (J 0) (pu (.int 13))) (AC 3) [some (.int y),some (.int (c:Int)),some (.ref h.length),none,none,none,none,none] (h++[⟨.lst,[]⟩])=.ok (.AP [some (.int y),some (.int (c:Int)),some (.ref h.length),some (.int (m:Int)),none,none,none,none],h++[⟨.lst,[]⟩]):=by simp only[EY,Dw,v_var,E4,DJ,DH,AH,Kx,if_pos TZ,em];rfl
 have s3:AZ (A0 CT (J 0) (pu (.int 13))) (AC 0) [some (.int y),some (.int (c:Int)),some (.ref h.length),some (.int (m:Int)),none,none,none,none] (h++[⟨.lst,[]⟩])=.ok (.AP [some (.int (y/13)),some (.int (c:Int)),some (.ref h.length),some (.int (m:Int)),none,none,none,none],h++[⟨.lst,[]⟩]):=by simp only[EY,Dw,v_var,E4,DJ,DH,AH,Mt,if_pos rD];rfl
 have s4:AZ (CB (A0 addW (CO (Z (pu (.non)) A2)) (B0 Ny (Z (J 1) A2)))) (AC 4) [some (.int (y/13)),some (.int (c:Int)),some (.ref h.length),some (.int (m:Int)),none,none,none,none] (h++[⟨.lst,[]⟩])=.ok (.AP (Fv (y/13) c h.length m (h.length+1) none none none),h++[⟨.lst,[]⟩,⟨.lst,J9 c⟩]):=by have:=tw (y/13) TS m h;rw[EY,show([some (.int (y/13)),some (.int (c:Int)),some (.ref h.length),some (.int (m:Int)),none,none,none,none]:BI)=(Fv (y/13) c h.length m 0 none none none).set 4 none from rfl,this];rfl
 have e:SM [.int y,.int (c:Int)] h=((((AO (AZ (CO A2) (AC 2))
   (AO (AZ (A0 BZ (J 0) (pu (.int 13))) (AC 3))
   (AO (AZ (A0 CT (J 0) (pu (.int 13))) (AC 0))
   (AO (AZ (CB (A0 addW (CO (Z (pu (.non)) A2)) (B0 Ny (Z (J 1) A2)))) (AC 4))
   (AO (Ed (E2 (Z (J 3) A2)) (AC 5) fBody) (B5 (J 2))))))) [some (.int y),some (.int (c:Int)),none,none,none,none,none,none] h).bind outF).bind λq=>settle h q.1 q.2):=rfl
 rw[e,BD,s1,AH,BN,BD,s2,AH,BN,BD,s3,AH,BN,BD,s4,AH,BN,BD,Ld,Bo,AH,BN,Pk,v_var,AE,DH,AH,AH,UJ,AH];exact RH h _ rfl (Lm _ _ jW)
def n6(i:Int)(h:A5):SI [.int i] h=.ok (.AM true,h):=by have A9:D5 "int" (.int i) h=.ok (.AM true,h):=rfl;have AE:D5 "bool" (.int i) h=.ok (.AM false,h):=rfl;simp[SI,dA,A9,AE]
def Yk(f g:GQ)(a b c:B9)(ρ:BI)(h:A5):O0 f g a b c ρ h=(a ρ h).bind λp=>(b ρ p.2).bind λq=>(f p.1 q.1 q.2).bind λr=>M5 (λk=>if k=true then bd c λz _ h=>g q.1 z h else pu (.AM false)) r.1 ρ r.2:=rfl
def SA(i a b:Int)(h:A5):MJ [.int i,.int a,.int b] h=.ok (.AM (decide (a<=i)&&decide (i<=b)),h):=by
 have e:=n6 i h;by_cases AB:a<=i
 .simp[MJ,XQ,e,Yk,M5,AB]
 .simp[MJ,XQ,e,Yk,M5,AB]
end Fo
namespace CG
open PySem PySem.Spec B8
theorem mapM_some{α β OW:Type}(f:α->Option β)(g:OW->α)(k:OW->β)(e:∀c,f (g c)=some (k c)):∀l:List OW,(l.map g).mapM f=some (l.map k)
 |[]=>rfl
 |c::l=>by simp[e,mapM_some f g k e l]
def k9{h:A5}{n:Nat}{l:List Int}(k:Nat)(e:h[n]?=some ⟨.lst,l.map W.int⟩):Dn (k+1) h (.ref n)=some (.Dj false (l.map D4.int)):=by have es:=I2 h e;simp only[Dn,es];rw[mapM_some (Dn k h) W.int D4.int (λc=>by cases k<;>rfl) l];rfl
def eq_nil{h:A5}{n m:Nat}{l:List Int}(b:Bool)(e:h[n]?=some ⟨.lst,l.map W.int⟩)(BC:h[m]?=some ⟨.lst,[]⟩):BH b (.ref n) (.ref m) h=.ok (.AM (if b then l.isEmpty else !l.isEmpty),h):=by unfold BH;rw[k9 7 e,k9 (l:=[]) 7 BC];cases l<;>simp[eqT,HS]
end CG
namespace Fo
open PySem PySem.Spec B8 CG
def F0(b:List Cs):O:=⟨.lst,b.map E6⟩
def Gd(a n:Nat):List W:=(Cd n).map λi=>.ref (a+i)
def kD(a n:Nat):Gd a (n+1)=Gd a n++[.ref (a+n)]:=by simp[Gd,Vz]
def kC(a n:Nat):(Gd a n).length=n:=by simp[Gd]
def ZC:List W:=[.int 1,.int 2,.int 3,.int 0,.int 2,.int 4,.int 12]
def aaB(z:Int):∃k m:Nat,z%7=(k:Int)/\ZC[k]?=some (.int (m:Int))/\m<=12:=by
 have h:z%7=0\/z%7=1\/z%7=2\/z%7=3\/z%7=4\/z%7=5\/z%7=6:=by lia
 rcases h with h|h|h|h|h|h|h<;>rw[h]
 .exact⟨0,1,rfl,rfl,by lia⟩
 .exact⟨1,2,rfl,rfl,by lia⟩
 .exact⟨2,3,rfl,rfl,by lia⟩
 .exact⟨3,0,rfl,rfl,by lia⟩
 .exact⟨4,2,rfl,rfl,by lia⟩
 .exact⟨5,4,rfl,rfl,by lia⟩
 .exact⟨6,12,rfl,rfl,by lia⟩
def DW(a n:Nat)(s:Int)(b:Nat)(s4 s5 C5:Option W):BI:=[some (.ref a),some (.ref n),some (.int s),some (.ref b),s4,s5,C5]
def WO:B9:=EO 1 [5,1,4,2] (E2 (Z (J 6) A2)) (AC 0) (pu true) (Ap 3 Uc (Z (J 1) (Z (A0 addW (A0 addW (pu (.int 4)) (J 4)) (A0 Hi (pu (.int 3)) (J 0))) (Z (A0 AI (J 2) (J 3)) A2))))
def aaY{cs:List Nat}(Fh:∀c∈cs,1<=c/\c<=4){H:A5}{a n b j s m:Nat}{z:Int}(Az:H[n]?=some ⟨.lst,BX cs⟩)(Af:j<cs.length)(hs:s<=1)(hm:m<=12) :
  ∃BF,MM (cs.getD j 0) BF/\WO (DW a n s b (some (.int (j:Int))) (some (.int z)) (some (.int (m:Int)))) H=.ok (.ref H.length,H++[F0 BF]):=by
 have c:=hV Fh Af;have ex:∀k:Nat,∃y:Int,k<=12->∀h,Dv [.int z,.int ((4+s+3*k:Nat):Int)] h=.ok (.int y,h):=λk=>by
  by_cases AK:k<=12
  .obtain⟨y,e⟩:=Mr z (4+s+3*k) (by lia);exact⟨y,λ_=>e⟩
  .exact⟨0,λh=>absurd h AK⟩
 refine⟨(Cd m).map λk=>rowOf (ex k).choose (cs.getD j 0),⟨by simpa using hm,λr Ao=>?_⟩,?_⟩
 .obtain⟨k,_,rfl⟩:=List.mem_map.mp Ao;exact aaV _ c.1
 .unfold WO;rw[Xa (ρ:=DW a n s b (some (.int (j:Int))) (some (.int z)) (some (.int (m:Int)))) (h:=H) (h0:=H) 0 m (λk=>E6 (rowOf (ex k).choose (cs.getD j 0))) (by lia) (Kg (n:=m) (by simp[DW]) (by lia)) (λk AK acc=>by
   have F3:AI (.ref n) (.int (j:Int)) (H++[⟨.lst,acc⟩])=.ok (.int (cs.getD j 0:Nat),H++[⟨.lst,acc⟩]):=GM (Cp H Az _) (Te Af);have e:=aaW (ex k|>.choose_spec (by lia)) c.1 c.2 (H++[⟨.lst,acc⟩]);have Ei:KJ 3 (k:Int):=.inl (by decide);have D1:(4:Int)+(s:Int)+3*(0+(k:Int))=((4+s+3*k:Nat):Int):=by lia
   simp only[DW,DB,Iy,List.getD_cons_succ,List.getD_cons_zero,IX,DF,Dw,v_var,E4,DG,DJ,Dq,DH,AH,RD,xV,Int.zero_add,if_pos Ei,F3];rw[show(4:Int)+(s:Int)+3*(k:Int)=((4+s+3*k:Nat):Int)by lia];simp only[D7,EQ,G9,if_true,e])]
  simp[F0,Q0]
noncomputable def ct:An:=AO (AZ (A0 addW (J 5) (A0 Hi (pu (.int 3)) (J 4))) (AC 5))
    (AO (AZ (CB (A0 AI (CO (Z (pu (.int 1)) (Z (pu (.int 2)) (Z (pu (.int 3)) (Z (pu (.int 0)) (Z (pu (.int 2)) (Z (pu (.int 4)) (Z (pu (.int 12)) A2)))))))) (A0 BZ (Ap 2 Dv (Z (J 5) (Z (pu (.int 3)) A2))) (pu (.int 7))))) (AC 6))
    (Fs (E1 FU (J 3) (Z WO A2))))
def cu:An:=Fs (E1 FU (J 3) (Z (Ap 2 SM (Z (A0 BZ (A0 CT (J 5) (pu (.int 2))) (A0 Nb (pu (.int 10)) (pu (.int 60)))) (Z (A0 AI (J 1) (J 4)) A2))) A2))
noncomputable def WN:An:=AO (AZ (A0 addW (A0 addW (pu (.int 17)) (A0 Hi (pu (.int 5)) (J 4))) (J 2)) (AC 5))
    (AO (Bp (IB (A_ (A0 (BH false) (J 0) (CO A2)))) (AZ (A0 AI (J 0) (A0 BZ (A0 addW (J 4) (J 2)) (B0 Bw (Z (J 0) A2)))) (AC 5)) Br)
    (Bp (IB (HI (A_ (A0 (BH false) (J 0) (CO A2))) (A_ (A0 (BH true) (A0 BZ (J 5) (pu (.int 2))) (pu (.int 1)))))) cu ct))
def gF{cs:List Nat}(Fh:∀c∈cs,1<=c/\c<=4){H:A5}{a n b j s:Nat}{z:Int}(Az:H[n]?=some ⟨.lst,BX cs⟩)(Af:j<cs.length)(hs:s<=1){ws:List W}(Au:H[b]?=some ⟨.lst,ws⟩)(lw:ws.length<100)(C5:Option W):∃BF Lr aW,MM (cs.getD j 0) BF/\ct (DW a n s b (some (.int (j:Int))) (some (.int z)) C5) H=.ok (.AP (DW a n s b (some (.int (j:Int))) Lr aW),(H++[F0 BF]).set b ⟨.lst,ws++[.ref H.length]⟩):=by
 obtain⟨y,D9⟩:=Mr (z+3*(j:Int)) 3 (by lia);have D9:∀h,Dv [.int (z+3*(j:Int)),.int 3] h=.ok (.int y,h):=D9;obtain⟨k,m,D1,sE,hm⟩:=aaB y;obtain⟨BF,A1,BJ⟩:=aaY (a:=a) (b:=b) (z:=z+3*(j:Int)) Fh Az Af hs hm;refine⟨BF,some (.int (z+3*(j:Int))),some (.int (m:Int)),A1,?_⟩;have Ei:KJ 3 (j:Int):=.inl (by decide);have F3:AI (.ref H.length) (.int (k:Int)) (H++[⟨.lst,ZC⟩])=.ok (.int (m:Int),H++[⟨.lst,ZC⟩]):=GM (by simp) sE;have s1:AZ (A0 addW (J 5) (A0 Hi (pu (.int 3)) (J 4))) (AC 5) (DW a n s b (some (.int (j:Int))) (some (.int z)) C5) H=.ok (.AP (DW a n s b (some (.int (j:Int))) (some (.int (z+3*(j:Int)))) C5),H):=by simp[DW,Ei]
 have s2:AZ (CB (A0 AI (CO (Z (pu (.int 1)) (Z (pu (.int 2)) (Z (pu (.int 3)) (Z (pu (.int 0)) (Z (pu (.int 2)) (Z (pu (.int 4)) (Z (pu (.int 12)) A2)))))))) (A0 BZ (Ap 2 Dv (Z (J 5) (Z (pu (.int 3)) A2))) (pu (.int 7))))) (AC 6) (DW a n s b (some (.int (j:Int))) (some (.int (z+3*(j:Int)))) C5) H=.ok (.AP (DW a n s b (some (.int (j:Int))) (some (.int (z+3*(j:Int)))) (some (.int (m:Int)))),H):=by simp only[ZC]at F3;simp[DW,nw,B4,D9,D1,F3]
 have s3:E1 FU (J 3) (Z WO A2) (DW a n s b (some (.int (j:Int))) (some (.int (z+3*(j:Int)))) (some (.int (m:Int)))) H=.ok (.non,(H++[F0 BF]).set b ⟨.lst,ws++[.ref H.length]⟩):=
  MI (ws:=ws) (ws2:=ws) (us:=[.ref H.length]) (h1:=H) (h2:=H++[F0 BF]) (by simp[DW]) Au (by rw[DF,BJ];rfl) (Cp H Au _) (by simp[FU]) (by simp[B4];lia)
 unfold ct;rw[BD,s1,AH,BN,BD,s2,AH,BN,Lc,s3,AH]
def xW{cs:List Nat}(Fh:∀c∈cs,1<=c/\c<=4){H:A5}{a n b j s:Nat}{z:Int}(Az:H[n]?=some ⟨.lst,BX cs⟩)(Af:j<cs.length)(hs:s<=1){ws:List W}(Au:H[b]?=some ⟨.lst,ws⟩)(lw:ws.length<100)(C5:Option W):∃BF,MM (cs.getD j 0) BF/\cu (DW a n s b (some (.int (j:Int))) (some (.int z)) C5) H=.ok (.AP (DW a n s b (some (.int (j:Int))) (some (.int z)) C5),(H++[F0 BF]).set b ⟨.lst,ws++[.ref H.length]⟩):=by
 have c:=hV Fh Af;obtain⟨N,hN⟩:∃N:Int,z/2%1000000000000000000000000000000000000000000000000000000000000=N:=⟨_,rfl⟩;obtain⟨BF,A1,Bo⟩:=tv N c.1 c.2 H;have F3:AI (.ref n) (.int (j:Int)) H=.ok (.int (cs.getD j 0:Nat),H):=GM Az (Te Af);refine⟨BF,A1,?_⟩;have s3:E1 FU (J 3) (Z (Ap 2 SM (Z (A0 BZ (A0 CT (J 5) (pu (.int 2))) (A0 Nb (pu (.int 10)) (pu (.int 60)))) (Z (A0 AI (J 1) (J 4)) A2))) A2) (DW a n s b (some (.int (j:Int))) (some (.int z)) C5) H=.ok (.non,(H++[F0 BF]).set b ⟨.lst,ws++[.ref H.length]⟩):=
  MI (ws:=ws) (ws2:=ws) (us:=[.ref H.length]) (h1:=H) (h2:=H++[F0 BF]) (by simp[DW]) Au (by simp[DW,Z0,hN,F3,Bo,F0,-Ex]) (Cp H Au _) (by simp[FU]) (by simp[B4];lia)
 unfold cu;rw[Lc,s3,AH]
def qu{cs:List Nat}(Fh:∀c∈cs,1<=c/\c<=4){H:A5}{a n b j s:Nat}(Az:H[n]?=some ⟨.lst,BX cs⟩)(Af:j<cs.length)(hs:s<=1){ws:List W}(Au:H[b]?=some ⟨.lst,ws⟩)(lw:ws.length<100){l:List Int}(Bg:H[a]?=some ⟨.lst,Ba l⟩)(s5 C5:Option W):∃BF Lr aW,MM (cs.getD j 0) BF/\WN (DW a n s b (some (.int (j:Int))) s5 C5) H=.ok (.AP (DW a n s b (some (.int (j:Int))) Lr aW),(H++[F0 BF]).set b ⟨.lst,ws++[.ref H.length]⟩):=by
 have T_:KJ 5 (j:Int):=.inl (by decide);have s1:AZ (A0 addW (A0 addW (pu (.int 17)) (A0 Hi (pu (.int 5)) (J 4))) (J 2)) (AC 5) (DW a n s b (some (.int (j:Int))) s5 C5) H=.ok (.AP (DW a n s b (some (.int (j:Int))) (some (.int (17+5*(j:Int)+s))) C5),H):=by simp[DW,T_]
 have q:BH false (.ref a) (.ref H.length) (H++[⟨.lst,[]⟩])=.ok (.AM (!l.isEmpty),H++[⟨.lst,[]⟩]):=eq_nil false (Cp H Bg _) (by simp);unfold WN;rw[BD,s1,AH,BN];cases l with
 |nil=>
  obtain⟨BF,Lb,Jr,A1,e⟩:=gF (a:=a) (z:=17+5*(j:Int)+s) Fh Az Af hs Au lw C5;refine⟨BF,Lb,Jr,A1,?_⟩;have t1:IB (A_ (A0 (BH false) (J 0) (CO A2))) (DW a n s b (some (.int (j:Int))) (some (.int (17+5*(j:Int)+s))) C5) H=.ok (false,H):=by simp[DW,nw,q]
  have Ct:IB (HI (A_ (A0 (BH false) (J 0) (CO A2))) (A_ (A0 (BH true) (A0 BZ (J 5) (pu (.int 2))) (pu (.int 1))))) (DW a n s b (some (.int (j:Int))) (some (.int (17+5*(j:Int)+s))) C5) H=.ok (false,H):=by simp[DW,nw,q]
  rw[BD,F4,t1,AH,if_neg (by simp),IJ,AH,BN,F4,Ct,AH,if_neg (by simp),e]
 |cons x l=>
  obtain⟨k,AK,D1⟩:=Ka ((j:Int)+s) (n:=(x::l).length) (by simp);have F3:AI (.ref a) (.int (k:Int)) H=.ok (.int (x::l)[k],H):=GM Bg (by simp only[Ba];rw[Em,CF AK];rfl);obtain⟨v,ev⟩:∃v,v=(x::l)[k]:=⟨_,rfl⟩;rw[<-ev]at F3;have t1:IB (A_ (A0 (BH false) (J 0) (CO A2))) (DW a n s b (some (.int (j:Int))) (some (.int (17+5*(j:Int)+s))) C5) H=.ok (true,H):=by simp[DW,nw,q]
  have rT:((j:Int)+s)%((Ba (x::l)).length:Int)=(k:Int):=by rw[<-D1];simp[Ba]
  have B7:(0:Int)<((Ba (x::l)).length:Int):=by simp only[Ba,DV,D7];lia
  have s2:AZ (A0 AI (J 0) (A0 BZ (A0 addW (J 4) (J 2)) (B0 Bw (Z (J 0) A2)))) (AC 5) (DW a n s b (some (.int (j:Int))) (some (.int (17+5*(j:Int)+s))) C5) H=.ok (.AP (DW a n s b (some (.int (j:Int))) (some (.int v)) C5),H):=by simp only[DW,EY,Dw,HN,DF,DG,v_var,DJ,Dq,DH,AH,RD,Io Bg,Kx,if_pos B7,rT,F3];rfl
  rw[BD,F4,t1,AH,if_pos rfl,s2,AH,BN,F4];by_cases ho:v%2=1
  .obtain⟨BF,A1,e⟩:=xW (a:=a) (z:=v) Fh Az Af hs Au lw C5;refine⟨BF,some (.int v),C5,A1,?_⟩;have Ct:IB (HI (A_ (A0 (BH false) (J 0) (CO A2))) (A_ (A0 (BH true) (A0 BZ (J 5) (pu (.int 2))) (pu (.int 1))))) (DW a n s b (some (.int (j:Int))) (some (.int v)) C5) H=.ok (true,H):=by
    simp[DW,nw,q,ho]
   rw[Ct,AH,if_pos rfl,e]
  .obtain⟨BF,Lb,Jr,A1,e⟩:=gF (a:=a) (z:=v) Fh Az Af hs Au lw C5;refine⟨BF,Lb,Jr,A1,?_⟩;have Ct:IB (HI (A_ (A0 (BH false) (J 0) (CO A2))) (A_ (A0 (BH true) (A0 BZ (J 5) (pu (.int 2))) (pu (.int 1))))) (DW a n s b (some (.int (j:Int))) (some (.int v)) C5) H=.ok (false,H):=by
    simp[DW,nw,q,ho]
   rw[Ct,AH,if_neg (by simp),e]
def u4{α:Type}{l r:List α}{d:α}{i:Nat}(h:i<l.length):(l++r).getD i d=l.getD i d:=by rw[Ex,EZ h,<-Ex]
def u5{α:Type}{l:List α}{x d:α}:(l++[x]).getD l.length d=x:=by rw[Ex];simp
def abD{a n i:Nat}(h:i<n):(Gd a n)[i]?=some (.ref (a+i)):=by simp[Gd,h]
structure ES(h:A5)(n:Nat)(B:List (List Cs)):Prop where
 ex:∃rs:List Nat,h[n]?=some ⟨.lst,rs.map W.ref⟩/\rs.length=B.length/\∀(i r:Nat),rs[i]?=some r->h[r]?=some (F0 (B.getD i []))
def Hr(cs:List Nat)(B:List (List Cs)):Prop:=B.length=cs.length/\∀i,i<cs.length->MM (cs.getD i 0) (B.getD i [])
def en{cs:List Nat}(h1:1<=cs.length)(FR:cs.length<=6)(Fh:∀c∈cs,1<=c/\c<=4){h:A5}{a n s:Nat}{l:List Int}(hs:s<=1)(Az:h[n]?=some ⟨.lst,BX cs⟩)(Bg:h[a]?=some ⟨.lst,Ba l⟩) :
  ∃B,Hr cs B/\MK [.ref a,.ref n,.int s] h=.ok (.ref h.length,h++(⟨.lst,Gd (h.length+1) cs.length⟩::B.map F0)):=by
 have lcs:(BX cs).length=cs.length:=by simp[BX]
 have B7:=PA (mi:=E2 (Z (B0 Bw (Z (J 1) A2)) A2)) (g:=AC 4) (b:=WN) (ρ:=DW a n s h.length none none none) (h:=h++[⟨.lst,[]⟩]) (h0:=h++[⟨.lst,[]⟩]) 0 cs.length (by lia)
  (λj ρ h'=>∃B s4 s5 C5,B.length=j/\(∀i,i<j->MM (cs.getD i 0) (B.getD i []))/\ρ=DW a n s h.length s4 s5 C5/\h'=h++(⟨.lst,Gd (h.length+1) j⟩::B.map F0))
  (T:=λf h'=>∃B s4 s5 C5,Hr cs B/\f=.AP (DW a n s h.length s4 s5 C5)/\h'=h++(⟨.lst,Gd (h.length+1) cs.length⟩::B.map F0))
  (Kg (n:=cs.length) (by simp[DW,Io (Cp h Az _),lcs]) (by lia)) ⟨[],none,none,none,rfl,λi A7=>by lia,rfl,by simp[Gd]⟩ ?_ ?_
 .obtain⟨f,h',Bo,B,s4,s5,C5,GV,rfl,rfl⟩:=B7.Ga;refine⟨B,GV,?_⟩;have e:MK [.ref a,.ref n,.int s] h=(AO (AZ (CO A2) (AC 3)) (AO (Ed (E2 (Z (B0 Bw (Z (J 1) A2)) A2)) (AC 4) WN) (B5 (J 3))) [some (.ref a),some (.ref n),some (.int s),none,none,none,none] h).bind outF:=rfl;have s1:AZ (CO A2) (AC 3) [some (.ref a),some (.ref n),some (.int s),none,none,none,none] h=.ok (.AP (DW a n s h.length none none none),h++[⟨.lst,[]⟩]):=by
   simp only[EY,MX,DG,AH,Hj h (show([]:List W).length<=B4 by simp)];rfl
  rw[e,BD,s1,AH,BN,BD,Ld,Bo,AH,BN];rfl
 .rintro j _ _ Af ⟨B,s4,s5,C5,AF,GV,rfl,rfl⟩;obtain⟨H,EU⟩:∃H,H=h++(⟨.lst,Gd (h.length+1) j⟩::B.map F0):=⟨_,rfl⟩;have iH:H.length=h.length+1+j:=by rw[EU];simp[AF];lia
  refine⟨DW a n s h.length (some (.int (j:Int))) s5 C5,H,by rw[EU];simp[DW],?_⟩;obtain⟨BF,Lb,Jr,A1,e⟩:=qu (H:=H) (a:=a) (n:=n) (l:=l) (b:=h.length) Fh (by rw[EU];exact Cp h Az _) Af hs (ws:=Gd (h.length+1) j) (by rw[EU];simp) (by rw[kC];lia) (by rw[EU];exact Cp h Bg _) s5 C5;refine⟨_,_,e,B++[BF],_,Lb,Jr,by simp[AF],λi A7=>?_,rfl,?_⟩
  .by_cases JZ:i<j
   .rw[u4 (by lia)];exact GV i JZ
   .have:i=j:=by lia
    subst this;rw[<-AF,u5];rw[AF];exact A1
  .rw[iH,EU,FS,TR];simp[kD]
 .rintro _ _ ⟨B,s4,s5,C5,AF,GV,rfl,rfl⟩;exact⟨B,s4,s5,C5,⟨AF,GV⟩,rfl,rfl⟩
def ES.more{h:A5}{n:Nat}{B:List (List Cs)}(b:ES h n B)(g:A5):ES (h++g) n B:=by obtain⟨rs,e,l,r⟩:=b.ex;exact⟨rs,Cp h e g,l,λi q AU=>Cp h (r i q AU) g⟩
def eF{B:List (List Cs)}{m:Nat}(AF:B.length=m)(h:A5):ES (h++(⟨.lst,Gd (h.length+1) m⟩::B.map F0)) h.length B:=by
 refine⟨(Cd m).map λi=>h.length+1+i,by simp[Gd,Q0],by simp[AF],λi r e=>?_⟩;rw[Em]at e;by_cases A7:i<m
 .rw[Pw A7]at e;cases e;show(h++_)[h.length+1+i]?=_;rw[show h.length+1+i=h.length+(i+1)by lia,PE];simp[Ex,show i<B.length by lia]
 .rw[HF (by simpa using A7)]at e;cases e
def gV(ns:List Int)(lo A7:Option Int):∃l,M6 (Ba ns) lo A7=Ba l:=by unfold M6 Ba;exact⟨_,by rw[<-List.map_drop,<-List.map_take]⟩
def qL(ws:List W)(lo A7:Option Int):(M6 ws lo A7).length<=ws.length:=by unfold M6;simp;lia
@[simp] theorem ZP(ns:List Int):G_ (Ba ns)=true:=Lm _ _ λa=>by simp
def VT(m:B9)(lo A7:QQ)(ρ:BI)(h:A5):HJ m lo A7 ρ h=(m ρ h).bind λp=>(lo ρ p.2).bind λl=>(A7 ρ l.2).bind λu=>RG p.1 l.1 u.1 ρ u.2:=rfl
def VS(i:Int)(ρ:BI)(h:A5):Ft (pu (.int i)) ρ h=.ok (some i,h):=rfl
def gW{ns:List Int}(AF:ns.length<=63)(h:A5)(lo:Option Int)(A7:Option Int)(ρ:BI):∃l:List Int,l.length<=63/\RG (.Eb (Ba ns)) lo A7 ρ h=.ok (.ref h.length,h++[⟨.lst,Ba l⟩]):=by
 obtain⟨l,e⟩:=gV ns lo A7;have:=qL (Ba ns) lo A7;rw[e]at this;have LI:l.length<=63:=by simp[Ba]at this;lia
 refine⟨l,LI,?_⟩;unfold RG;rw[aa];dsimp only;rw[e,Hj h (by simp[Ba,B4];lia)]
noncomputable def Xj:An:=Bp (A_ (A0 (BH true) (A0 BZ (Ap 2 Dv (Z (Ap 2 KZ (Z (J 0) (Z (pu (.int 1)) A2))) (Z (J 4) A2))) (pu (.int 4))) (pu (.int 0)))) (AZ (B0 Db (Z (A0 AI (J 2) (J 4)) A2)) (Ri (J 3) (J 4))) Br
def Jx(ns:List Int)(n a b:Nat)(s4:Option W):BI:=[some (.Eb (Ba ns)),some (.ref n),some (.ref a),some (.ref b),s4]
def wO{m k:Nat}(h:k<m):LL m (k:Int)=some k:=by unfold LL;simp[h]
def r7{ns:List Int}(AF:ns.length<=63){cs:List Nat}(h1:1<=cs.length)(FR:cs.length<=6)(Fh:∀c∈cs,1<=c/\c<=4){h:A5}{n:Nat}(Az:h[n]?=some ⟨.lst,BX cs⟩) :
  ∃a b g A B,Hr cs A/\Hr cs B/\ES (h++g) a A/\ES (h++g) b B/\SK [.Eb (Ba ns),.ref n] h=.ok (.tup [.ref a,.ref b],h++g):=by
 have lcs:(BX cs).length=cs.length:=by simp[BX]
 obtain⟨CC,dh,BR⟩:=gW AF h (some 2) (some 9) [some (.Eb (Ba ns)),some (.ref n),none,none,none];obtain⟨A,I0,Qd⟩:=en h1 FR Fh (s:=0) (by lia) (Cp h Az ([⟨.lst,Ba CC⟩]:A5)) (a:=h.length) (l:=CC) (by simp);obtain⟨H1,q1⟩:∃H1,H1=(h++([⟨.lst,Ba CC⟩]:A5))++(⟨.lst,Gd ((h++([⟨.lst,Ba CC⟩]:A5)).length+1) cs.length⟩::A.map F0):=⟨_,rfl⟩;have EW:h<+: H1:=by rw[q1,FS];exact Gk _ _
 have N7:ES H1 (h++([⟨.lst,Ba CC⟩]:A5)).length A:=by rw[q1];exact eF I0.1 _
 rw[<-q1]at Qd;obtain⟨C8,Sh,C_⟩:=gW AF H1 (some 9) (some 16) [some (.Eb (Ba ns)),some (.ref n),some (.ref (h++([⟨.lst,Ba CC⟩]:A5)).length),none,none];obtain⟨B,GV,eR⟩:=en h1 FR Fh (s:=1) (by lia) (Cp H1 (FY EW Az) [⟨.lst,Ba C8⟩]) (a:=H1.length) (l:=C8) (by simp);obtain⟨AS,q2⟩:∃AS,AS=(H1++([⟨.lst,Ba C8⟩]:A5))++(⟨.lst,Gd ((H1++([⟨.lst,Ba C8⟩]:A5)).length+1) cs.length⟩::B.map F0):=⟨_,rfl⟩;have CL:H1<+: AS:=by rw[q2,FS];exact Gk _ _
 have pP:ES AS (h++([⟨.lst,Ba CC⟩]:A5)).length A:=by rw[q2,FS];exact N7.more _
 have QZ:ES AS (H1++([⟨.lst,Ba C8⟩]:A5)).length B:=by rw[q2];exact eF GV.1 _
 rw[<-q2]at eR;obtain⟨a,Bg⟩:∃a,a=(h++([⟨.lst,Ba CC⟩]:A5)).length:=⟨_,rfl⟩;obtain⟨b,Au⟩:∃b,b=(H1++([⟨.lst,Ba C8⟩]:A5)).length:=⟨_,rfl⟩;rw[<-Bg]at Qd N7 pP C_;rw[<-Au]at eR QZ;have Il:H1.length<=b:=by rw[Au];simp
 have B7:=PA (mi:=E2 (Z (B0 Bw (Z (J 1) A2)) A2)) (g:=AC 4) (b:=Xj) (ρ:=Jx ns n a b none) (h:=AS) (h0:=AS) 0 cs.length (by lia)
  (λj ρ h'=>∃C s4,Hr cs C/\ρ=Jx ns n a b s4/\H1<+: h'/\ES h' b C)
  (T:=λf h'=>∃C s4,Hr cs C/\f=.AP (Jx ns n a b s4)/\H1<+: h'/\ES h' b C)
  (Kg (n:=cs.length) (by simp[Jx,Io (FY CL (FY EW Az)),lcs]) (by lia)) ⟨B,none,GV,rfl,CL,QZ⟩ ?_ ?_
 .obtain⟨f,h',Bo,C,s4,Ij,rfl,N_,Ry⟩:=B7.Ga;obtain⟨g,rfl⟩:=EW.trans N_;obtain⟨g3,Er⟩:=N_;refine⟨a,b,g,A,C,I0,Ij,by rw[<-Er];exact N7.more _,Ry,?_⟩
  have e:SK [.Eb (Ba ns),.ref n] h=(AO (AZ (Ap 3 MK (Z (CB (HJ (J 0) (Ft (pu (.int 2))) (Ft (pu (.int 9))))) (Z (J 1) (Z (pu (.int 0)) A2)))) (AC 2))
   (AO (AZ (Ap 3 MK (Z (CB (HJ (J 0) (Ft (pu (.int 9))) (Ft (pu (.int 16))))) (Z (J 1) (Z (pu (.int 1)) A2)))) (AC 3))
   (AO (Ed (E2 (Z (B0 Bw (Z (J 1) A2)) A2)) (AC 4) Xj) (B5 (Bn (Z (J 2) (Z (J 3) A2)))))) [some (.Eb (Ba ns)),some (.ref n),none,none,none] h).bind outF:=rfl
  have sG:MK [.ref h.length,.ref n,.int 0] (h++([⟨.lst,Ba CC⟩]:A5))=.ok (.ref a,H1):=Qd;have sH:MK [.ref H1.length,.ref n,.int 1] (H1++([⟨.lst,Ba C8⟩]:A5))=.ok (.ref b,AS):=eR;have s1:AZ (Ap 3 MK (Z (CB (HJ (J 0) (Ft (pu (.int 2))) (Ft (pu (.int 9))))) (Z (J 1) (Z (pu (.int 0)) A2)))) (AC 2) [some (.Eb (Ba ns)),some (.ref n),none,none,none] h=.ok (.AP [some (.Eb (Ba ns)),some (.ref n),some (.ref a),none,none],H1):=by simp only[EY,IX,DF,IK,VT,VS,v_var,E4,DG,DJ,Dq,DH,AH,BR,RH h [⟨.lst,Ba CC⟩] rfl (ZP CC),D7,EQ,G9,if_true,sG];rfl
  have s2:AZ (Ap 3 MK (Z (CB (HJ (J 0) (Ft (pu (.int 9))) (Ft (pu (.int 16))))) (Z (J 1) (Z (pu (.int 1)) A2)))) (AC 3) [some (.Eb (Ba ns)),some (.ref n),some (.ref a),none,none] H1=.ok (.AP (Jx ns n a b none),AS):=by simp only[EY,IX,DF,IK,VT,VS,v_var,E4,DG,DJ,Dq,DH,AH,C_,RH H1 [⟨.lst,Ba C8⟩] rfl (ZP C8),D7,EQ,G9,if_true,sH];rfl
  rw[e,BD,s1,AH,BN,BD,s2,AH,BN,BD,Ld,Bo,AH,BN];rfl
 .rintro j _ H Af ⟨C,s4,Ij,rfl,N_,Ry⟩;refine⟨Jx ns n a b (some (.int (j:Int))),H,by simp[Jx],?_⟩;obtain⟨c,ec⟩:=gI H ns 1;have ec:KZ [.Eb (Ba ns),.int 1] H=.ok (.int c,H):=ec;obtain⟨y,D9⟩:=Mr c j (by lia);by_cases Ca:y%4=0
  .obtain⟨BE,A9,Hh,ga⟩:=N7.ex;obtain⟨rb,AE,iI,u3⟩:=Ry.ex;have iZ:j<BE.length:=by rw[Hh,I0.1];exact Af
   have i_:j<rb.length:=by rw[iI,Ij.1];exact Af
   have f1:=FY N_ A9;have f2:=FY N_ (ga j BE[j] (CF iZ));have F3:AI (.ref a) (.int (j:Int)) H=.ok (.ref BE[j],H):=GM f1 (by rw[Em,CF iZ];rfl);have AM:((A.getD j []).map E6).length<=B4:=by have:=(I0.2 j Af).1;rw[DV];unfold B4;lia
   have ls:Db [.ref BE[j]] H=.ok (.ref H.length,H++[F0 (A.getD j [])]):=by unfold Db;simp only[I2 H f2];exact Hj H AM
   have iH:b<H.length:=KH AE;refine⟨.AP (Jx ns n a b (some (.int (j:Int)))),(H++[F0 (A.getD j [])]).set b ⟨.lst,(rb.set j H.length).map W.ref⟩,?_,C.set j (A.getD j []),_,⟨by simp[Ij.1],λi A7=>?_⟩,rfl,Z1 (Ke N_ _) Il _,⟨rb.set j H.length,Jo (Cp H AE _),by simp[iI],λi r BJ=>?_⟩⟩
   .unfold Xj;have sD:=Cp H AE [F0 (A.getD j [])];have t:A_ (A0 (BH true) (A0 BZ (Ap 2 Dv (Z (Ap 2 KZ (Z (J 0) (Z (pu (.int 1)) A2))) (Z (J 4) A2))) (pu (.int 4))) (pu (.int 0))) (Jx ns n a b (some (.int (j:Int)))) H=.ok (true,H):=by
     simp[Jx,ec,D9,Ca]
    rw[F4,t,AH,if_pos rfl];simp only[Jx,EY,HN,DF,Dw,v_var,DG,DJ,Dq,DH,AH,F3,ls,Ri,JN,Z2,Mm _ sD,DV,wO i_,List.map_set]
   .by_cases JZ:j=i
    .subst JZ;have:(C.set j (A.getD j [])).getD j []=A.getD j []:=by
      rw[Ex,JQ (by rw[Ij.1];exact Af)];rfl
     rw[this];exact I0.2 j Af
    .have:(C.set j (A.getD j [])).getD i []=C.getD i []:=by
       rw[Ex,Lf JZ,<-Ex]
     rw[this];exact Ij.2 i A7
   .by_cases JZ:j=i
    .subst JZ;rw[JQ i_]at BJ;cases BJ;have:(C.set j (A.getD j [])).getD j []=A.getD j []:=by
      rw[Ex,JQ (by rw[Ij.1];exact Af)];rfl
     rw[this,FJ (by lia)];simp
    .rw[Lf JZ]at BJ;have:(C.set j (A.getD j [])).getD i []=C.getD i []:=by
      rw[Ex,Lf JZ,<-Ex]
     have g:=u3 i r BJ;have nb:b≠r:=by
      intro z;subst z;rw[AE]at g;have g1:rb.map W.ref=(C.getD i []).map E6:=congrArg O.ws (Fd g);obtain⟨x,r,ex⟩:=List.exists_cons_of_length_pos (show 0<rb.length by lia);rw[ex]at g1;cases eq:C.getD i []with
      |nil=>rw[eq]at g1;cases g1
      |cons y s=>rw[eq]at g1;cases(List.cons.inj g1).1
     rw[this,FJ nb];exact Cp H g _
  .refine⟨.AP (Jx ns n a b (some (.int (j:Int)))),H,?_,C,_,Ij,rfl,N_,Ry⟩;unfold Xj;have t:A_ (A0 (BH true) (A0 BZ (Ap 2 Dv (Z (Ap 2 KZ (Z (J 0) (Z (pu (.int 1)) A2))) (Z (J 4) A2))) (pu (.int 4))) (pu (.int 0))) (Jx ns n a b (some (.int (j:Int)))) H=.ok (false,H):=by
    simp[Jx,ec,D9,Ca]
   rw[F4,t,AH,if_neg (by simp)];rfl
 .rintro _ h' ⟨C,s4,Ij,rfl,N_,Ry⟩;exact⟨C,s4,Ij,rfl,N_,Ry⟩
end Fo
namespace CG
open PySem PySem.Spec B8
theorem gH{α:Type}(p:α->Bool):∀l:List α,bools (l.map λa=>W.AM (p a))=some (l.map p)
 |[]=>rfl
 |a::l=>by simp[bools,gH p l]
def cp{mi:Fw}{it:HQ}{g:DC}{e:B9}{ρ:BI}{h:A5}{nl:Nat}{caps:List Nat}(ws:List W)(p:W->Bool)(BO:BI->Prop)(AF:ws.length<1000)(A7:mi ρ h=.ok (it,h))(FA:BO (P4 nl caps ρ))(hit:∀j acc,j<=ws.length->it j (h++[⟨.lst,acc⟩])=some ws[j]?)(Df:∀w∈ws,∀ρ acc,BO ρ->∃CI,g w ρ (h++[⟨.lst,acc⟩])=.ok (.AP CI,h++[⟨.lst,acc⟩])/\BO CI/\e CI (h++[⟨.lst,acc⟩])=.ok (.AM (p w),h++[⟨.lst,acc⟩])) :
  B0 (Jm true) (Z (EO nl caps mi g (pu true) e) A2) ρ h=.ok (.AM (ws.all p),h++[⟨.lst,ws.map λw=>.AM (p w)⟩]):=by
 have c:=X_ (mi:=mi) (it:=it) (g:=g) (t:=pu true) (e:=e) (ρ:=ρ) (h:=h) (h0:=h) (nl:=nl) (caps:=caps) ws (λ_=>true) (λw=>.AM (p w)) BO AF A7 FA hit λw hw ρ acc j=>by obtain⟨CI,A9,JI,AE⟩:=Df w hw ρ acc j;exact⟨CI,A9,JI,rfl,λ_=>AE⟩
 rw[List.filter_eq_self.mpr (λ_ _=>rfl)]at c;have q:E3 (h++[⟨.lst,ws.map λw=>W.AM (p w)⟩]) (.ref h.length)=some (false,ws.map λw=>W.AM (p w)):=I2 _ (by simp);simp only[HN,DF,DG,c,AH,Jm,q,gH p ws,if_true];rw[cL];rfl
def Yq{mi:Fw}{it:HQ}{g:DC}{e:B9}{ρ:BI}{h:A5}{nl:Nat}{caps:List Nat}(ws:List W)(BO:BI->Prop)(AF:ws.length<1000)(A7:mi ρ h=.ok (it,h))(FA:BO (P4 nl caps ρ))(hit:∀j acc,j<=ws.length->it j (h++[⟨.lst,acc⟩])=some ws[j]?)(Df:∀w∈ws,∀ρ acc,BO ρ->∃CI,g w ρ (h++[⟨.lst,acc⟩])=.ok (.AP CI,h++[⟨.lst,acc⟩])/\BO CI/\e CI (h++[⟨.lst,acc⟩])=.ok (.AM true,h++[⟨.lst,acc⟩])) :
  CB (B0 (Jm true) (Z (EO nl caps mi g (pu true) e) A2)) ρ h=.ok (.AM true,h):=by
 rw[IK,cp ws (λ_=>true) BO AF A7 FA hit Df,List.all_eq_true.mpr (λ_ _=>rfl)];simp
def abz{x:Str}{j:Nat}(h:A5)(Af:j<=x.cps.toList.length):RJ x j h=some (x.cps.toList.map λc=>W.str ⟨#[c]⟩)[j]?:=by
 unfold RJ;rw[Oj]at Af;by_cases e:j=x.cps.size
 .rw[if_pos e,Em,HF (by simp;lia)];rfl
 .rw[if_neg e,Em,bl];have:j<x.cps.size:=by lia
  rw[Kn this];rfl
def Ux{h:A5}{x y:W}{d:D4}{t:Bool}{ds:List D4}(AN:Gx h y x=none)(A9:Dn 7 h x=some d)(AE:Dn 8 h y=some (.Dj t ds))(b:Bool):E0 b x y h=.ok (.AM (if b then ds.any (λy=>eqT y d)else !ds.any λy=>eqT y d),h):=by unfold E0;rw[AN];unfold YF;rw[A9,AE]
end CG
namespace Fo
open PySem PySem.Spec B8 CG
def aaJ{c:Nat}(s:KF c)(h:A5):E0 true (.str ⟨#[c]⟩) Qb h=.ok (.AM true,h):=by rw[Ux (d:=.str ⟨#[c]⟩) (t:=true) (ds:=[.str (As "0"),.str (As "1"),.str (As "x")]) rfl (by simp[Dn]) (by simp[Qb,Dn,E3])];rcases s with rfl|rfl|rfl<;>rfl
def str_len(x:Str):x.length=x.cps.toList.length:=rfl
def jL{x:Str}(p:QU x)(h:A5):Ua [.str x] h=.ok (.AM true,h):=by
 have a:=Yq (mi:=Dc (J 0)) (it:=RJ x) (g:=AC 0) (e:=A0 (E0 true) (J 0) (pu Qb)) (ρ:=[some (.str x)]) (h:=h) (nl:=1) (caps:=[]) (x.cps.toList.map λc=>W.str ⟨#[c]⟩) (λρ=>∃s,ρ=[s]) (by rw[DV,p.l];lia) (by simp[Dc]) ⟨none,rfl⟩ (λj acc Af=>abz _ (by simpa using Af)) (by rintro w hw ρ acc ⟨s,rfl⟩;obtain⟨c,AD,rfl⟩:=List.mem_map.mp hw;exact⟨[some (.str ⟨#[c]⟩)],by simp,⟨_,rfl⟩,by simp[aaJ (p.s c AD)]⟩)
 have CC:Bw [.str x] h=.ok (.int 4,h):=by unfold Bw;dsimp only;rw[str_len,p.l];rfl
 have C8:Bw [OK] h=.ok (.int 4,h):=rfl;have B1:D5 "str" (.str x) h=.ok (.AM true,h):=rfl;simp[-IK,Ua,d8,B1,CC,C8,a]
def jj{o:Option Nat}{c:Nat}(AD:∀k,o=some k->k<c)(h:A5):SH [Co o,.int (c:Int)] h=.ok (.AM true,h):=by
 cases o with
 |none=>simp[SH,XN,Co,EA,Mi]
 |some k=>have:=AD k rfl;have w:=SA (k:Int) 0 ((c:Int)-1) h;rw[decide_eq_true (show(0:Int)<=(k:Int)by lia),decide_eq_true (show(k:Int)<=(c:Int)-1 by lia)]at w;simp[SH,XN,Co,EA,Mi,w]
def QJ{ws:List W}{k:Nat}{w:W}(h:A5)(e:ws[k]?=some w):AI (.tup ws) (.int (k:Int)) h=.ok (w,h):=V2 h (VJ h ws) e
def Gq(h:A5)(x:W)(ws:List W):AI (.tup (x::ws)) (.int 0) h=.ok (x,h):=QJ (k:=0) h rfl
def Jc(h:A5)(x y:W)(ws:List W):AI (.tup (x::y::ws)) (.int 1) h=.ok (y,h):=QJ (k:=1) h rfl
def YL(h:A5)(x y z:W)(ws:List W):AI (.tup (x::y::z::ws)) (.int 2) h=.ok (z,h):=QJ (k:=2) h rfl
def QN(h:A5)(ws:List W):Bw [.tup ws] h=.ok (.int ws.length,h):=by simp[Bw]
def aaX{r:Cs}{c:Nat}(ok:Rv c r)(h:A5):Ub [E6 r,.int (c:Int)] h=.ok (.AM true,h):=by have B1:D5 "tuple" (E6 r) h=.ok (.AM true,h):=rfl;have CC:Bw [E6 r] h=.ok (.int 3,h):=QN h _;have Ep:AI (E6 r) (.int 0) h=.ok (.str r.p,h):=Gq h _ _;have A9:AI (E6 r) (.int 1) h=.ok (Co r.a,h):=Jc h _ _ _;have AE:AI (E6 r) (.int 2) h=.ok (Co r.b,h):=YL h _ _ _ _;simp[Ub,d9,B1,CC,Ep,A9,AE,jL ok.p,jj ok.a,jj ok.b]
def Xw{h:A5}{n:Nat}{ws:List W}(e:h[n]?=some ⟨.lst,ws⟩)(g:A5)(j:Nat):G4 (.ref n) j (h++g)=some ws[j]?:=Qo (Cp h e g) j
def r6{b:List Cs}{c:Nat}(ok:MM c b){h:A5}{n:Nat}(Az:h[n]?=some (F0 b)):U_ [.ref n,.int (c:Int)] h=.ok (.AM true,h):=by
 have a:=Yq (mi:=Dc (J 0)) (it:=G4 (.ref n)) (g:=AC 0) (e:=Ap 2 Ub (Z (J 0) (Z (J 1) A2))) (ρ:=[some (.ref n),some (.int (c:Int))]) (h:=h) (nl:=1) (caps:=[1]) (b.map E6) (λρ=>∃s,ρ=[s,some (.int (c:Int))]) (by rw[DV];have:=ok.1;lia) (Mj Az (by simp)) ⟨none,rfl⟩ (λj acc _=>Xw Az _ j) (by rintro w hw ρ acc ⟨s,rfl⟩;obtain⟨r,Ao,rfl⟩:=List.mem_map.mp hw;exact⟨[some (E6 r),some (.int (c:Int))],by simp,⟨_,rfl⟩,by simp[aaX (ok.2 r Ao)]⟩)
 have B1:D5 "list" (.ref n) h=.ok (.AM true,h):=by simp only[D5,Ls,Az,F0];rfl
 have CC:Bw [.ref n] h=.ok (.int b.length,h):=by rw[Io Az];simp
 have:=ok.1;have g1:MA (.int (b.length:Int)) Tb h=.ok (.AM false,h):=by show MA (.int (b.length:Int)) (.int 12) h=_;rw[xT,decide_eq_false (by lia)]
 simp[-IK,U_,d4,B1,CC,g1,a]
end Fo
namespace CG
open PySem PySem.Spec B8
def aG{h:A5}{n:Nat}{c:Str}{ns:List Str}{ws:List W}(e:h[n]?=some ⟨.ins c ns,ws⟩):QH h c (.ref n)=some (n,ns,ws):=by simp only[QH,e,if_true]
def GJ{h:A5}{n:Nat}{c f:Str}{ns:List Str}{ws:List W}{u:W}(e:h[n]?=some ⟨.ins c ns,ws⟩)(v:Dk ns ws f=some u):Bq c f (.ref n) h=.ok (u,h):=by unfold Bq;rw[aG e];dsimp only;rw[v]
def Rf{h:A5}{n:Nat}{c f:Str}{ns ns':List Str}{ws ws':List W}{v:W}{ρ:BI}(e:h[n]?=some ⟨.ins c ns,ws⟩)(l:ns.length<1000)(A9:Re ns f=ns')(AE:Qg ns ws f v=ws'):Tq c f (.ref n) v ρ h=.ok (.AP ρ,h.set n ⟨.ins c ns',ws'⟩):=by unfold Tq;rw[aG e];dsimp only;rw[if_pos l,A9,AE]
def S9(c f:Str)(o v:B9)(ρ:BI)(h:A5):Ec c f o v ρ h=(v ρ h).bind λp=>(o ρ p.2).bind λq=>Tq c f q.1 p.1 ρ q.2:=rfl
def abb(c x:Str)(n:Nat)(DO:Bz)(o:B9)(ma:EK)(ρ:BI)(h:A5):ED c x n DO o ma ρ h=(o ρ h).bind λp=>Uz c x p.1 (bd ma λws _ h=>if ws.length=n then DO (p.1::ws) h else .bad) ρ p.2:=rfl
def wK{α:Type}{h:A5}{n:Nat}{c x:Str}{ns:List Str}{ws:List W}{m:M α}{ρ:BI}(e:h[n]?=some ⟨.ins c ns,ws⟩)(v:Dk ns ws x=none):Uz c x (.ref n) m ρ h=m ρ h:=by unfold Uz;rw[aG e];dsimp only;rw[v]
def ML{h h1:A5}{n k:Nat}{c x:Str}{ns:List Str}{ws us:List W}{DO:Bz}{o:B9}{ma:EK}{ρ:BI}{r:R (W×A5)}(G2:o ρ h=.ok (.ref n,h))(e:h[n]?=some ⟨.ins c ns,ws⟩)(v:Dk ns ws x=none)(Bg:ma ρ h=.ok (us,h1))(l:us.length=k)(BJ:DO (.ref n::us) h1=r):ED c x k DO o ma ρ h=r:=by rw[abb,G2,AH,wK e v,JN,Bg,AH,if_pos l,BJ]
def Y2{h h1 h2:A5}{c:Str}{k:Nat}{DO:Bz}{ma:EK}{ρ:BI}{us:List W}(Bg:ma ρ h=.ok (us,h1))(l:us.length=k)(BJ:DO (.ref h1.length::us) (h1++[⟨.ins c [],[]⟩])=.ok (.non,h2)):IS c k DO ma ρ h=.ok (.ref h1.length,h2):=by unfold IS;rw[JN,Bg,AH];dsimp only;rw[if_pos l,BJ];rfl
def fs{h:A5}{n:Nat}{ks:List Cf}{vs:List W}{k v:W}{FW:Cf}{ρ:BI}(e:h[n]?=some ⟨.Da ks,vs⟩)(D1:RB k=some FW)(ZT:FW∉ks)(l:vs.length<B4):ON (.ref n) k v ρ h=.ok (.AP ρ,h.set n ⟨.Da (ks++[FW]),vs++[v]⟩):=by unfold ON;simp only[e,D1,if_pos l,Mu,if_neg ZT]
def Yl(d k v:B9)(ρ:BI)(h:A5):Jg d k v ρ h=(v ρ h).bind λp=>(d ρ p.2).bind λq=>(k ρ q.2).bind λr=>ON q.1 r.1 p.1 ρ r.2:=rfl
def rt{K:Type}[DecidableEq K](keys:List (List K))(h:keys.Nodup):Kw.JB keys=keys:=by
 have:∀(l acc:List (List K)),(acc++l).Nodup->l.foldl Kw.OM acc=acc++l:=by
  intro l;induction l with
  |nil=>intro acc _;simp
  |cons k l Bk=>
   intro acc AW;have AK:k∉acc:=λz=>(List.nodup_append.mp AW).2.2 k z k (Fy ..) rfl;have:Kw.OM acc k=acc++[k]:=by unfold Kw.OM;simp[AK]
   rw[Vx,this,Bk _ (by simpa using AW)];simp
 have:=this keys [] (by simpa using h);simpa[Kw.JB]using this
end CG
namespace Fo
open PySem PySem.Spec B8 CG
def yE(h:A5)(a b:AY):BH false (AR a) (AR b) h=.ok (.AM (!decide (a=b)),h):=by
 have:=Wv h a b;unfold BH at this |-;rw[Z7,Z7]at this |-;simp only[if_true,Gj,if_false]at this |-;have:eqT (D4.Dj true [D4.int (a.1:Int),D4.int (a.2:Int)]) (D4.Dj true [D4.int (b.1:Int),D4.int (b.2:Int)])=decide (a=b):=by injection this with this;injection this with this _;injection this
 rw[this]
def jH(h:A5)(x y:W):R5 [.tup [x,y]] h=.ok (.AM true,h):=by have B1:D5 "tuple" (.tup [x,y]) h=.ok (.AM true,h):=rfl;simp[R5,d7,B1,QN]
def wh(h:A5)(cs:List Nat):Bw [.tup (BX cs)] h=.ok (.int cs.length,h):=by rw[QN];simp[BX]
def eP{cs:List Nat}{d:AY}(hd:d∈Cg cs cs.length)(h:A5):SG [.tup (BX cs),AR d] h=.ok (.AM true,h):=by obtain⟨h1,h2⟩:=Uh.mp hd;have p:R5 [AR d] h=.ok (.AM true,h):=jH h _ _;have Ep:AI (AR d) (.int 0) h=.ok (.int (d.1:Int),h):=Gq h _ _;have A9:AI (AR d) (.int 1) h=.ok (.int (d.2:Int),h):=Jc h _ _ _;have AE:AI (.tup (BX cs)) (.int (d.1:Int)) h=.ok (.int (cs.getD d.1 0:Nat),h):=QJ h (Te h1);have G7:=SA (d.1:Int) 0 ((cs.length:Int)-1) h;have Gg:=SA (d.2:Int) 0 ((cs.getD d.1 0:Nat)-1:Int) h;rw[decide_eq_true (show(0:Int)<=(d.1:Int)by lia),decide_eq_true (show(d.1:Int)<=(cs.length:Int)-1 by lia)]at G7;rw[decide_eq_true (show(0:Int)<=(d.2:Int)by lia),decide_eq_true (show(d.2:Int)<=((cs.getD d.1 0:Nat):Int)-1 by lia)]at Gg;simp[SG,d6,p,Ep,A9,AE,wh,G7,Gg,-Ex]
def abE{cs:List Nat}{w:AY×AY}(h1:w.1∈Cg cs cs.length)(h2:w.2∈Cg cs cs.length)(ne:w.1≠w.2)(h:A5):SJ [.tup (BX cs),Bs w] h=.ok (.AM true,h):=by have p:R5 [Bs w] h=.ok (.AM true,h):=jH h _ _;have Ep:AI (Bs w) (.int 0) h=.ok (AR w.1,h):=Gq h _ _;have A9:AI (Bs w) (.int 1) h=.ok (AR w.2,h):=Jc h _ _ _;simp[SJ,dB,p,Ep,A9,eP h1,eP h2,yE,ne]
def IR(d:AY):Cf:=[.inl (.inl (d.1:Int)),.inl (.inl (d.2:Int))]
def az(d:AY):RB (AR d)=some (IR d):=rfl
def YN{a b:AY}(h:IR a=IR b):a=b:=by obtain⟨a1,a2⟩:=a;obtain⟨D_,E9⟩:=b;simp only[IR,Vt,W9,and_true]at h;obtain⟨h1,h2⟩:=h;rw[Prod.mk.injEq];lia
def KP(ws:List (AY×AY)):List Cf:=(ends ws).map IR
def KQ(ws:List (AY×AY)):List W:=(ws.map λw=>[AR w.2,AR w.1]).flatten
def H8(ws:List (AY×AY)):O:=⟨.Da (KP ws),KQ ws⟩
def sO(ws:List (AY×AY))(w:AY×AY):KP (ws++[w])=KP ws++[IR w.1]++[IR w.2]:=by simp[KP,ends]
def u1(ws:List (AY×AY))(w:AY×AY):KQ (ws++[w])=KQ ws++[AR w.2]++[AR w.1]:=by simp[KQ]
def u0(ws:List (AY×AY)):(KQ ws).length=2*ws.length:=by
 induction ws with
 |nil=>rfl
 |cons w ws Bk=>simp[KQ]at Bk |-;lia
def hy{ws:List (AY×AY)}{d:AY}:IR d∈KP ws↔d∈ends ws:=by unfold KP;rw[W8];exact⟨λ⟨a,h,e⟩=>YN e▸h,λh=>⟨d,h,rfl⟩⟩
theorem nW(d:AY):∀ws:List (AY×AY),Dk (KP ws) (KQ ws) (IR d)=(EE ws d).map AR
 |[]=>rfl
 |w::ws=>by
  have A9:KP (w::ws)=IR w.1::IR w.2::KP ws:=by simp[KP,ends]
  have AE:KQ (w::ws)=AR w.2::AR w.1::KQ ws:=by simp[KQ]
  rw[A9,AE];simp only[Dk,EE];by_cases h1:w.1=d
  .rw[if_pos (by rw[h1]),if_pos h1];rfl
  .rw[if_neg (λz=>h1 (YN z)),if_neg h1];by_cases h2:w.2=d
   .rw[if_pos (by rw[h2]),if_pos h2];rfl
   .rw[if_neg (λz=>h2 (YN z)),if_neg h2];exact nW d ws
def eM{h:A5}{f:Nat}{ws:List (AY×AY)}(e:h[f]?=some (H8 ws))(d:AY):Gx h (.ref f) (AR d)=some ((EE ws d).map AR):=by unfold Gx;simp only[e,H8,az,T3,nW]
def af7{ws:List (AY×AY)}{d:AY}(h:EE ws d=none):d∉ends ws:=by
 induction ws with
 |nil=>simp[ends]
 |cons w ws Bk=>
  simp only[EE]at h
  split at h
  .cases h
  .split at h
   .cases h
   .rename_i h1 h2;have:=Bk h;simp only[ends,DB,Oc,Iq,Gh,Km,or_false]at this |-;rintro((rfl|rfl)|z)
    .exact h1 rfl
    .exact h2 rfl
    .exact this z
def cj{ws:List (AY×AY)}{d e:AY}(h:EE ws d=some e):d∈ends ws/\e∈ends ws:=by
 induction ws with
 |nil=>simp[EE]at h
 |cons w ws Bk=>
  simp only[EE]at h;simp only[ends,DB,Oc,Iq,Gh,Km,or_false]
  split at h
  .rename_i h1;cases h;exact⟨.inl (.inl h1.symm),.inl (.inr rfl)⟩
  .split at h
   .rename_i h1 h2;cases h;exact⟨.inl (.inr h2.symm),.inl (.inl rfl)⟩
   .have:=Bk h;exact⟨.inr this.1,.inr this.2⟩
noncomputable def dx:An:=AO (Bp (DT (A_ (Ap 2 SJ (Z (J 0) (Z (J 3) A2))))) (λ_ _=>.bad) Br)
    (AO (Bp (EV (A_ (A0 (E0 true) (A0 AI (J 3) (pu (.int 0))) (J 2))) (A_ (A0 (E0 true) (A0 AI (J 3) (pu (.int 1))) (J 2)))) (λ_ _=>.bad) Br)
    (AO (Jg (J 2) (A0 AI (J 3) (pu (.int 0))) (A0 AI (J 3) (pu (.int 1))))
    (Jg (J 2) (A0 AI (J 3) (pu (.int 1))) (A0 AI (J 3) (pu (.int 0))))))
def Zm(ws:List W)(j:Nat)(h:A5):G4 (.tup ws) j h=some ws[j]?:=by simp[G4]
def ss{cs:List Nat}{ws:List (AY×AY)}(N:KC cs ws)(h:A5):UY [.tup (BX cs),.tup (ws.map Bs)] h=.ok (.ref h.length,h++[H8 ws]):=by
 have few:=N.few
 have B7:=Wu (mi:=Dc (J 1)) (it:=G4 (.tup (ws.map Bs))) (g:=AC 3) (b:=dx) (ρ:=[some (.tup (BX cs)),some (.tup (ws.map Bs)),some (.ref h.length),none]) (h:=h++[⟨.Da [],[]⟩]) (h0:=h++[⟨.Da [],[]⟩]) (ws.map Bs) (by simp;lia)
  (λj ρ h'=>(∃s3,ρ=[some (.tup (BX cs)),some (.tup (ws.map Bs)),some (.ref h.length),s3])/\h'=h++[H8 (ws.take j)])
  (T:=λf h'=>(∃s3,f=.AP [some (.tup (BX cs)),some (.tup (ws.map Bs)),some (.ref h.length),s3])/\h'=h++[H8 ws])
  (by simp[Dc]) (λj ρ h' _ _=>Zm _ j h') ⟨⟨none,rfl⟩,by simp[H8,KP,KQ,ends]⟩ ?_ ?_
 .obtain⟨f,h',Bo,⟨s3,rfl⟩,rfl⟩:=B7.Ga;have e:UY [.tup (BX cs),.tup (ws.map Bs)] h=(AO (AZ (Jf true) (AC 2)) (AO (Ed (Dc (J 1)) (AC 3) dx) (B5 (J 2))) [some (.tup (BX cs)),some (.tup (ws.map Bs)),none,none] h).bind outF:=rfl;have s1:AZ (Jf true) (AC 2) [some (.tup (BX cs)),some (.tup (ws.map Bs)),none,none] h=.ok (.AP [some (.tup (BX cs)),some (.tup (ws.map Bs)),some (.ref h.length),none],h++[⟨.Da [],[]⟩]):=rfl;rw[e,BD,s1,AH,BN,BD,Ld,Bo,AH,BN];rfl
 .rintro j w _ _ DD ⟨⟨s3,rfl⟩,rfl⟩;rw[Em]at DD;cases CK:ws[j]? with
  |none=>rw[CK]at DD;cases DD
  |some p=>
   rw[CK]at DD;cases DD;have Af:j<ws.length:=(List.getElem?_eq_some_iff.mp CK).1;have ix:ws[j]=p:=(List.getElem?_eq_some_iff.mp CK).2;have Wo:ws.take (j+1)=ws.take j++[p]:=by rw[oK Af,ix]
   have LJ:ends ws=ends (ws.take j)++([p.1,p.2]++ends (ws.drop (j+1))):=by
    have:ws=ws.take j++p::ws.drop (j+1):=by rw[<-ix,<-Vg Af,RQ]
    conv=>lhs;rw[this]
    simp[ends]
   have C3:=N.C3;rw[LJ]at C3;have ZQ:=List.nodup_append.mp C3;have yC:=List.nodup_append.mp ZQ.2.1;have jU:p.1≠p.2:=λz=>by have:=yC.1;rw[z]at this;simp at this
   have Dd:p.1∉ends (ws.take j):=λz=>ZQ.2.2 _ z _ (by simp) rfl;have Cn:p.2∉ends (ws.take j):=λz=>ZQ.2.2 _ z _ (by simp) rfl;have GY:p.1∈Cg cs cs.length:=N.sub _ (by rw[LJ];simp);have HA:p.2∈Cg cs cs.length:=N.sub _ (by rw[LJ];simp);obtain⟨H,EU⟩:∃H,H=h++[H8 (ws.take j)]:=⟨_,rfl⟩;have Bo:H[h.length]?=some (H8 (ws.take j)):=by rw[EU];simp
   refine⟨[some (.tup (BX cs)),some (.tup (ws.map Bs)),some (.ref h.length),some (Bs p)],H,by rw[EU];simp,?_⟩;have Ep:∀h,AI (Bs p) (.int 0) h=.ok (AR p.1,h):=λh=>Gq h _ _;have A9:∀h,AI (Bs p) (.int 1) h=.ok (AR p.2,h):=λh=>Jc h _ _ _;have D_:∀d,d∉ends (ws.take j)->E0 true (AR d) (.ref h.length) H=.ok (.AM false,H):=λd hd=>by
    unfold E0;rw[eM Bo];cases q:EE (ws.take j) d with
    |none=>rfl
    |some x=>exact absurd (cj q).1 hd
   have Ah:=u0 (ws.take j);rw[JS]at Ah;have EW:=fs (v:=AR p.2) (ρ:=[some (.tup (BX cs)),some (.tup (ws.map Bs)),some (.ref h.length),some (Bs p)]) Bo (az p.1) (λz=>Dd (hy.mp z)) (by unfold B4;lia);have Tj:(H.set h.length ⟨.Da (KP (ws.take j)++[IR p.1]),KQ (ws.take j)++[AR p.2]⟩)[h.length]?=some ⟨.Da (KP (ws.take j)++[IR p.1]),KQ (ws.take j)++[AR p.2]⟩:=Jo Bo;have CL:=fs (v:=AR p.1) (ρ:=[some (.tup (BX cs)),some (.tup (ws.map Bs)),some (.ref h.length),some (Bs p)]) Tj (az p.2) (λz=>by
    rcases List.mem_append.mp z with z|z
    .exact Cn (hy.mp z)
    .exact jU (YN (List.mem_singleton.mp z)).symm) (by rw[EP];unfold B4;simp;lia)
   have t1:DT (A_ (Ap 2 SJ (Z (J 0) (Z (J 3) A2)))) [some (.tup (BX cs)),some (.tup (ws.map Bs)),some (.ref h.length),some (Bs p)] H=.ok (false,H):=by simp[abE GY HA jU]
   have Ct:EV (A_ (A0 (E0 true) (A0 AI (J 3) (pu (.int 0))) (J 2))) (A_ (A0 (E0 true) (A0 AI (J 3) (pu (.int 1))) (J 2))) [some (.tup (BX cs)),some (.tup (ws.map Bs)),some (.ref h.length),some (Bs p)] H=.ok (false,H):=by simp[Ep,A9,D_ _ Dd,D_ _ Cn]
   unfold dx;rw[BD,F4,t1,AH,if_neg (by simp),IJ,AH,BN,BD,F4,Ct,AH,if_neg (by simp),IJ,AH,BN,BD];simp only[Yl,Dw,v_var,E4,DJ,Dq,DH,AH,Ep,A9,EW,BN,CL,Tk,WU];refine⟨⟨_,rfl⟩,?_⟩;rw[Wo,EU];simp[H8,sO,u1]
 .rintro _ _ ⟨⟨s3,rfl⟩,rfl⟩;refine⟨⟨_,rfl⟩,?_⟩;rw[DV,List.take_length]
def qJ{cs:List Nat}(h1:1<=cs.length)(FR:cs.length<=6)(Fh:∀c∈cs,1<=c/\c<=4){h:A5}{n:Nat}(Az:h[n]?=some ⟨.lst,BX cs⟩):UW [.ref n] h=.ok (.AM true,h):=by
 have lcs:(BX cs).length=cs.length:=by simp[BX]
 have a:=Yq (mi:=Dc (J 0)) (it:=G4 (.ref n)) (g:=AC 0) (e:=Ap 3 MJ (Z (J 0) (Z (pu (.int 1)) (Z (pu Rz) A2)))) (ρ:=[some (.ref n)]) (h:=h) (nl:=1) (caps:=[]) (BX cs) (λρ=>∃s,ρ=[s]) (by lia) (Mj Az (by simp)) ⟨none,rfl⟩ (λj acc _=>Xw Az _ j) (by rintro w hw ρ acc ⟨s,rfl⟩;obtain⟨c,AD,rfl⟩:=List.mem_map.mp hw;have AD:=Fh c AD;have w:=SA (c:Int) 1 4 (h++[⟨.lst,acc⟩]);rw[decide_eq_true (show(1:Int)<=(c:Int)by lia),decide_eq_true (show(c:Int)<=4 by lia)]at w;exact⟨[some (.int (c:Int))],by simp,⟨_,rfl⟩,by simp[Rz,w]⟩)
 have B1:D5 "list" (.ref n) h=.ok (.AM true,h):=by simp only[D5,Ls,Az];rfl
 have CC:Bw [.ref n] h=.ok (.int cs.length,h):=by rw[Io Az,lcs]
 have BR:O0 LM LM (pu (.int 1)) (B0 Bw (Z (J 0) A2)) (pu S0) [some (.ref n)] h=.ok (.AM true,h):=by simp only[Yk,E4,HN,DF,DG,v_var,DJ,DH,AH,CC,j3,decide_eq_true (show(1:Int)<=(cs.length:Int)by lia),M5,if_true,JN,S0,decide_eq_true (show(cs.length:Int)<=6 by lia)]
 simp[-IK,UW,d0,B1,BR,a]
def Ln(cs:List Nat)(ws:List (AY×AY))(f:Nat):O:=⟨.ins "Net" ["many","counts","joined","far"],[.int cs.length,.tup (BX cs),.tup (ws.map Bs),.ref f]⟩
def jb{cs:List Nat}{ws:List (AY×AY)}(N:KC cs ws){h:A5}{a b:Nat}(Bg:h[a]?=some ⟨.lst,BX cs⟩)(Au:h[b]?=some ⟨.lst,ws.map Bs⟩) :
  Mp [.ref h.length,.ref a,.ref b] (h++[⟨.ins "Net" [],[]⟩])=.ok (.non,h++[Ln cs ws (h.length+1),H8 ws]):=by
 have lcs:(BX cs).length=cs.length:=by simp[BX]
 have e:Mp [.ref h.length,.ref a,.ref b] (h++[⟨.ins "Net" [],[]⟩])=(WQ [some (.ref h.length),some (.ref a),some (.ref b)] (h++[⟨.ins "Net" [],[]⟩])).bind outF:=rfl;rw[e];obtain⟨ρ,F2⟩:∃ρ:BI,ρ=[some (.ref h.length),some (.ref a),some (.ref b)]:=⟨_,rfl⟩;rw[<-F2];have v0:J 0 ρ=λh'=>.ok (.ref h.length,h'):=by rw[F2];rfl
 have v1:J 1 ρ=λh'=>.ok (.ref a,h'):=by rw[F2];rfl
 have v2:J 2 ρ=λh'=>.ok (.ref b,h'):=by rw[F2];rfl
 have A:∀o:O,(h++[o])[a]?=some ⟨.lst,BX cs⟩:=λo=>Cp h Bg _;have B:∀o:O,(h++[o])[b]?=some ⟨.lst,ws.map Bs⟩:=λo=>Cp h Au _;have t1:DT (A_ (Ap 1 UW (Z (J 1) A2))) ρ (h++[⟨.ins "Net" [],[]⟩])=.ok (false,h++[⟨.ins "Net" [],[]⟩]):=by simp[-v_var,v1,qJ N.h1 N.FR N.c (A _)]
 have B1:D5 "list" (.ref b) (h++[⟨.ins "Net" [],[]⟩])=.ok (.AM true,h++[⟨.ins "Net" [],[]⟩]):=by simp only[D5,Ls,B];rfl
 have Ct:DT (A_ (Bf (D5 "list") (J 2))) ρ (h++[⟨.ins "Net" [],[]⟩])=.ok (false,h++[⟨.ins "Net" [],[]⟩]):=by simp[-v_var,v2,B1]
 have s3:Ec "Net" "many" (J 0) (B0 Bw (Z (J 1) A2)) ρ (h++[⟨.ins "Net" [],[]⟩])=.ok (.AP ρ,h++[⟨.ins "Net" ["many"],[.int cs.length]⟩]):=by rw[S9];simp only[HN,DF,DG,v1,v0,AH,Io (A _),lcs];rw[Rf (ns':=["many"]) (ws':=[.int cs.length]) (Go h _) (by decide) rfl rfl];simp
 have nI:∀(h':A5)(n:Nat)(us:List W),h'[n]?=some ⟨.lst,us⟩->OQ [.ref n] h'=.ok (.tup us,h'):=λh' n us q=>by simp only[OQ,I2 h' q]
 have s4:Ec "Net" "counts" (J 0) (B0 OQ (Z (J 1) A2)) ρ (h++[⟨.ins "Net" ["many"],[.int cs.length]⟩])=.ok (.AP ρ,h++[⟨.ins "Net" ["many","counts"],[.int cs.length,.tup (BX cs)]⟩]):=by rw[S9];simp only[HN,DF,DG,v1,v0,AH,nI _ _ _ (A _)];rw[Rf (ns':=["many","counts"]) (ws':=[.int cs.length,.tup (BX cs)]) (Go h _) (by decide) rfl rfl];simp
 have s5:Ec "Net" "joined" (J 0) (B0 OQ (Z (J 2) A2)) ρ (h++[⟨.ins "Net" ["many","counts"],[.int cs.length,.tup (BX cs)]⟩])=.ok (.AP ρ,h++[⟨.ins "Net" ["many","counts","joined"],[.int cs.length,.tup (BX cs),.tup (ws.map Bs)]⟩]):=by rw[S9];simp only[HN,DF,DG,v2,v0,AH,nI _ _ _ (B _)];rw[Rf (ns':=["many","counts","joined"]) (ws':=[.int cs.length,.tup (BX cs),.tup (ws.map Bs)]) (Go h _) (by decide) rfl rfl];simp
 have C5:Ec "Net" "far" (J 0) (Ap 2 UY (Z (Bf (Bq "Net" "counts") (J 0)) (Z (Bf (Bq "Net" "joined") (J 0)) A2))) ρ (h++[⟨.ins "Net" ["many","counts","joined"],[.int cs.length,.tup (BX cs),.tup (ws.map Bs)]⟩])=.ok (.AP ρ,h++[Ln cs ws (h.length+1),H8 ws]):=by rw[S9];have f1:Bq "Net" "counts" (.ref h.length) (h++[⟨.ins "Net" ["many","counts","joined"],[.int cs.length,.tup (BX cs),.tup (ws.map Bs)]⟩])=.ok (.tup (BX cs),_):=GJ (Go h _) rfl;have f2:Bq "Net" "joined" (.ref h.length) (h++[⟨.ins "Net" ["many","counts","joined"],[.int cs.length,.tup (BX cs),.tup (ws.map Bs)]⟩])=.ok (.tup (ws.map Bs),_):=GJ (Go h _) rfl;simp only[IX,DF,DG,OT,v0,AH,f1,f2,D7,EQ,G9,if_true,ss N];rw[Rf (ns':=["many","counts","joined","far"]) (ws':=[.int cs.length,.tup (BX cs),.tup (ws.map Bs),.ref (h.length+1)]) (Cp _ (Go h _) _) (by decide) rfl (by simp[EP];rfl)];rw[FS,TR];rfl
 unfold WQ;rw[BD,F4,t1,AH,if_neg (by simp),IJ,AH,BN,BD,F4,Ct,AH,if_neg (by simp),IJ,AH,BN,BD,s3,AH,BN,BD,s4,AH,BN,BD,s5,AH,BN,C5];rfl
structure Ic(h:A5)(n:Nat)(cs:List Nat)(ws:List (AY×AY)):Prop where
 ex:∃f,h[n]?=some (Ln cs ws f)/\h[f]?=some (H8 ws)
def Ic.more{h:A5}{n:Nat}{cs:List Nat}{ws:List (AY×AY)}(b:Ic h n cs ws)(g:A5):Ic (h++g) n cs ws:=by obtain⟨f,e,r⟩:=b.ex;exact⟨f,Cp h e g,Cp h r g⟩
def QO{h:A5}{w:W}{t:Bool}{us:List W}(e:E3 h w=some (t,us))(l:us.length<=B4):Db [w] h=.ok (.ref h.length,h++[⟨.lst,us⟩]):=by simp only[Db,e];exact Hj h l
def x_{cs:List Nat}{ws:List (AY×AY)}(N:KC cs ws){h:A5}{n:Nat}(A:Ic h n cs ws):UX [.ref n] h=.ok (.ref (h.length+2),h++[⟨.lst,BX cs⟩,⟨.lst,ws.map Bs⟩,Ln cs ws (h.length+3),H8 ws]):=by
 obtain⟨f,A9,AE⟩:=A.ex;have few:=N.few;have xM:=N.FR;have f1:Bq "Net" "counts" (.ref n) h=.ok (.tup (BX cs),h):=GJ A9 rfl;have f2:Bq "Net" "joined" (.ref n) (h++[⟨.lst,BX cs⟩])=.ok (.tup (ws.map Bs),_):=GJ (Cp h A9 _) rfl;have CC:Db [.tup (BX cs)] h=.ok (.ref h.length,h++[⟨.lst,BX cs⟩]):=QO (VJ _ _) (by simp[BX,B4];lia);have C8:Db [.tup (ws.map Bs)] (h++[⟨.lst,BX cs⟩])=.ok (.ref (h.length+1),h++[⟨.lst,BX cs⟩,⟨.lst,ws.map Bs⟩]):=by rw[QO (VJ _ _) (by simp[B4];lia)];simp
 have G7:PS [.ref n] (h++[⟨.lst,BX cs⟩])=.ok (.ref (h.length+1),h++[⟨.lst,BX cs⟩,⟨.lst,ws.map Bs⟩]):=by simp only[PS,VR,cz,Pk,HN,DF,DG,OT,v_var,Uy,DB,Iy,D7,EQ,Ho,Oh,G9,TD,FE,MS,DJ,DH,AH,f2,C8,UJ];have:=RH (h++[⟨.lst,BX cs⟩]) [⟨.lst,ws.map Bs⟩] rfl (Lm _ _ jX);rw[FS]at this;simpa using this
 have ma:Z (B0 Db (Z (Bf (Bq "Net" "counts") (J 0)) A2)) (Z (ED "Net" "wires" 0 PS (J 0) A2) A2) [some (.ref n)] h=.ok ([.ref h.length,.ref (h.length+1)],h++[⟨.lst,BX cs⟩,⟨.lst,ws.map Bs⟩]):=by have Fj:ED "Net" "wires" 0 PS (J 0) A2 [some (.ref n)] (h++[⟨.lst,BX cs⟩])=.ok (.ref (h.length+1),h++[⟨.lst,BX cs⟩,⟨.lst,ws.map Bs⟩]):=ML (us:=[]) rfl (Cp h A9 _) rfl rfl rfl G7;simp only[DF,HN,OT,DG,v_var,DJ,DH,AH,f1,CC,Fj]
 obtain⟨H,EU⟩:∃H:A5,H=h++[⟨.lst,BX cs⟩,⟨.lst,ws.map Bs⟩]:=⟨_,rfl⟩;have nm:=jb N (h:=H) (a:=h.length) (b:=h.length+1) (by rw[EU];simp) (by rw[EU];simp);rw[<-EU]at ma;have mk:IS "Net" 2 Mp (Z (B0 Db (Z (Bf (Bq "Net" "counts") (J 0)) A2)) (Z (ED "Net" "wires" 0 PS (J 0) A2) A2)) [some (.ref n)] h=.ok (.ref H.length,H++[Ln cs ws (H.length+1),H8 ws]):=Y2 ma rfl nm;have e:UX [.ref n] h=((B5 (IS "Net" 2 Mp (Z (B0 Db (Z (Bf (Bq "Net" "counts") (J 0)) A2)) (Z (ED "Net" "wires" 0 PS (J 0) A2) A2)))) [some (.ref n)] h).bind outF:=rfl;rw[e,Pk,mk,AH,AH,UJ,EU,FS,EP];rfl
def qH{cs:List Nat}{ws:List (AY×AY)}{h:A5}{n:Nat}(A:Ic h n cs ws){k:Nat}(AK:k<cs.length):Sv [.ref n,.int (k:Int)] h=.ok (.int (cs.getD k 0:Nat),h):=by
 obtain⟨f,A9,AE⟩:=A.ex;have f1:Bq "Net" "counts" (.ref n) h=.ok (.tup (BX cs),h):=GJ A9 rfl;have f2:Bq "Net" "many" (.ref n) h=.ok (.int cs.length,h):=GJ A9 rfl;have F3:AI (.tup (BX cs)) (.int (k:Int)) h=.ok (.int (cs.getD k 0:Nat),h):=QJ h (Te AK);have BR:O0 LM R0 (pu (.int 0)) (J 1) (Bf (Bq "Net" "many") (J 0)) [some (.ref n),some (.int (k:Int))] h=.ok (.AM true,h):=by simp only[Yk,E4,OT,v_var,DJ,Dq,DH,AH,j3,decide_eq_true (show(0:Int)<=(k:Int)by lia),M5,if_true,JN,f2,xU,decide_eq_true (show(k:Int)<(cs.length:Int)by lia)]
 simp[Sv,cw,BR,f1,F3,-Ex]
def eo{cs:List Nat}{ws:List (AY×AY)}(FR:cs.length<=6){B:List (List Cs)}(ok:Hr cs B){h:A5}{n b:Nat}(A:Ic h n cs ws)(TM:ES h b B):Ue [.ref b,.ref n] h=.ok (.non,h):=by
 obtain⟨f,A9,AE⟩:=A.ex;obtain⟨rs,Au,PP,BJ⟩:=TM.ex;have YT:=ok.1
 have a:=Yq (mi:=PR (Z (J 0) A2)) (it:=PB (.ref b)) (g:=FP [(AC 0),(AC 1)]) (e:=Ap 2 U_ (Z (J 1) (Z (ED "Net" "count" 1 Sv (J 2) (Z (J 0) A2)) A2))) (ρ:=[some (.ref b),some (.ref n)]) (h:=h) (nl:=2) (caps:=[1])
  (rs.mapIdx λi r=>.tup [.int (i:Int),.ref r]) (λρ=>∃s t,ρ=[s,t,some (.ref n)]) (by rw[bf];lia) (by simp[PR,Mm h Au]) ⟨none,none,rfl⟩ (λj acc Af=>by
    rw[bf]at Af;simp only[PB,Mm _ (Cp h Au _),DV];by_cases q:j=rs.length
    .rw[if_pos q,HF (by rw[bf];lia)]
    .have:j<rs.length:=by lia
     rw[if_neg q,Em,List.getElem?_mapIdx,CF this];rfl) (by
  rintro w hw ρ acc ⟨s,t,rfl⟩;obtain⟨i,A7,rfl⟩:=List.mem_mapIdx.mp hw;refine⟨[some (.int (i:Int)),some (.ref rs[i]),some (.ref n)],by simp,⟨_,_,rfl⟩,?_⟩;have c:=qH (A.more [⟨.lst,acc⟩]) (k:=i) (by lia);have y:=r6 (ok.2 i (by lia)) (Cp h (BJ i rs[i] (CF A7)) [⟨.lst,acc⟩]);have Fj:ED "Net" "count" 1 Sv (J 2) (Z (J 0) A2) [some (.int (i:Int)),some (.ref rs[i]),some (.ref n)] (h++[⟨.lst,acc⟩])=.ok (.int (cs.getD i 0:Nat),h++[⟨.lst,acc⟩]):=ML (us:=[.int (i:Int)]) rfl (Cp h A9 _) rfl rfl rfl c;simp only[IX,DF,DG,v_var,DJ,Dq,DH,AH,Fj,D7,EQ,G9,if_true,y])
 have B1:D5 "list" (.ref b) h=.ok (.AM true,h):=by simp only[D5,Ls,Au];rfl
 have CC:Bw [.ref b] h=.ok (.int cs.length,h):=by rw[Io Au,DV,PP,YT]
 have f2:Bq "Net" "many" (.ref n) h=.ok (.int cs.length,h):=GJ A9 rfl;have q:Y0 [.ref b,.ref n] h=.ok (.AM true,h):=by simp[-IK,Y0,d5,B1,CC,f2,a]
 simp[Ue,cf,q]
end Fo
namespace CG
open PySem PySem.Spec B8
@[simp] theorem j2(b:Bool)(x y:Str)(h:A5):BH b (.str x) (.str y) h=.ok (.AM (if b then x==y else !(x==y)),h):=by simp[BH,Dn,eqT]
theorem gP{it:HQ}{g:DC}{e:B9}{h:A5}(Gc:Nat->Nat->List W)(XF:∀a n,Gc a (n+1)=Gc a n++[.ref (a+n)])(XG:∀a n,(Gc a n).length=n)(ws:List W)(f:W->O)(BO:BI->Prop)(AF:ws.length<1000)(hit:∀j H,h<+: H->j<=ws.length->it j H=some ws[j]?)(Df:∀w∈ws,∀ρ H,BO ρ->h<+: H->∃CI,g w ρ H=.ok (.AP CI,H)/\BO CI/\e CI H=.ok (.ref H.length,H++[f w])) :
  ∀k j ρ,j<=ws.length->ws.length-j<k->BO ρ->K0 it g (pu true) e h.length k j ρ (h++(⟨.lst,Gc (h.length+1) j⟩::(ws.take j).map f))=.ok (h++(⟨.lst,Gc (h.length+1) ws.length⟩::ws.map f))
 |0,j,ρ,Af,l,i=>by lia
 |k+1,j,ρ,Af,l,i=>by
  unfold K0;rw[hit _ _ (Gk _ _) Af];by_cases EG:j<ws.length
  .rw[CF EG];obtain⟨CI,A9,B1,AE⟩:=Df ws[j] (Lh EG) ρ _ i (Gk h (⟨.lst,Gc (h.length+1) j⟩::(ws.take j).map f));simp only[A9,AH,E4,if_true,AE];rw[FS,Go,Ho,DJ];have Ao:=XG (h.length+1) j;simp only[Ao,if_pos (show j<B4 by unfold B4;lia),TR,MR];have:=gP Gc XF XG ws f BO AF hit Df k (j+1) CI EG (by lia) B1;rw[XF,oK EG,K1]at this;have G3:(h++(⟨.lst,Gc (h.length+1) j⟩::(ws.take j).map f)).length=h.length+1+j:=by simp;lia
   rw[G3];exact this
  .have:j=ws.length:=by lia
   subst this;simp
def qG{mi:Fw}{it:HQ}{g:DC}{e:B9}{ρ:BI}{h h0:A5}{nl:Nat}{caps:List Nat}(Gc:Nat->Nat->List W)(vL:∀a,Gc a 0=[])(XF:∀a n,Gc a (n+1)=Gc a n++[.ref (a+n)])(XG:∀a n,(Gc a n).length=n)(ws:List W)(f:W->O)(BO:BI->Prop)(AF:ws.length<1000)(A7:mi ρ h0=.ok (it,h))(FA:BO (P4 nl caps ρ))(hit:∀j H,h<+: H->j<=ws.length->it j H=some ws[j]?)(Df:∀w∈ws,∀ρ H,BO ρ->h<+: H->∃CI,g w ρ H=.ok (.AP CI,H)/\BO CI/\e CI H=.ok (.ref H.length,H++[f w])) :
  EO nl caps mi g (pu true) e ρ h0=.ok (.ref h.length,h++(⟨.lst,Gc (h.length+1) ws.length⟩::ws.map f)):=by
 unfold EO;simp only[JN,A7,AH];have:=gP Gc XF XG ws f BO AF hit Df Jt 0 _ (Gi _) (by unfold Jt;lia) FA;rw[vL]at this;simp only[List.take_zero,Iy]at this;rw[this]
end CG
namespace Fo
open PySem PySem.Spec B8 CG
def Eh(a:Nat)(B:List (List Cs)):A5:=⟨.lst,Gd (a+1) B.length⟩::B.map F0
def L8(a:Nat)(B:List (List Cs)):(Eh a B).length=B.length+1:=by simp[Eh]
def eK{cs:List Nat}{B:List (List Cs)}(FR:cs.length<=6)(ok:Hr cs B){h:A5}{b i:Nat}(TM:ES h b B){ρ:BI}(A7:ρ[i]?=some (some (.ref b))):EO 1 [] (Dc (J i)) (AC 0) (pu true) (CB (B0 Db (Z (J 0) A2))) ρ h=.ok (.ref h.length,h++Eh h.length B):=by
 obtain⟨rs,Au,PP,BJ⟩:=TM.ex;have YT:=ok.1;have c:=qG (mi:=Dc (J i)) (it:=G4 (.ref b)) (g:=AC 0) (e:=CB (B0 Db (Z (J 0) A2))) (ρ:=ρ) (h:=h) (h0:=h) (nl:=1) (caps:=[]) Gd (λa=>rfl) kD kC (rs.map W.ref) (λw=>match w with
  |.ref r=>(h[r]?).getD ⟨.lst,[]⟩
  |_=>⟨.lst,[]⟩) (λρ=>∃s,ρ=[s]) (by rw[DV];lia) (Mj Au (by rw[v_var,A7];rfl)) ⟨none,rfl⟩ (λj H p _=>Qo (FY p Au) j) (by
   rintro w hw ρ H ⟨s,rfl⟩ p;obtain⟨r,Ao,rfl⟩:=List.mem_map.mp hw;obtain⟨k,AK⟩:=br Ao;have q:=BJ k r AK;have MD:k<cs.length:=by have:=(List.getElem?_eq_some_iff.mp AK).1;lia
   have Ah:=(ok.2 k MD).1;refine⟨[some (.ref r)],by simp,⟨_,rfl⟩,?_⟩;have lw:Db [.ref r] H=.ok (.ref H.length,H++[F0 (B.getD k [])]):=QO (I2 _ (FY p q)) (by rw[DV];unfold B4;lia);simp only[IK,HN,DF,DG,v_var,DJ,DH,AH,lw,q,Oe];exact RH H _ rfl (Lm _ _ jW))
 rw[c];have:(rs.map W.ref).map (λw=>match w with
  |.ref r=>(h[r]?).getD ⟨.lst,[]⟩
  |_=>⟨.lst,[]⟩)=B.map F0:=by
  apply cC;intro k;simp only[Em];by_cases AK:k<rs.length
  .rw[CF AK,CF (by lia)];have q:=BJ k rs[k] (CF AK);simp only[T3,q,Oe];rw[Ex,CF (by lia)];rfl
  .rw[HF (by lia),HF (by lia)];rfl
 rw[this,DV,PP];rfl
def ei{B:List (List Cs)}(h:A5):ES (h++Eh h.length B) h.length B:=eF rfl h
def ek{cs:List Nat}{B:List (List Cs)}(FR:cs.length<=6)(ok:Hr cs B){h:A5}{b:Nat}(TM:ES h b B):R4 [.ref b] h=.ok (.ref h.length,h++Eh h.length B):=by have c:=eK (i:=0) FR ok TM (ρ:=[some (.ref b)]) rfl;have e:R4 [.ref b] h=(B5 (EO 1 [] (Dc (J 0)) (AC 0) (pu true) (CB (B0 Db (Z (J 0) A2)))) [some (.ref b)] h).bind outF:=rfl;rw[e,Pk,c];rfl
abbrev Dg:=Option (Nat×Nat)
def I5(k:Nat):Str:=if k=0 then As "teach" else if k=1 then As "turn" else As "forget"
def CV:Dg->W
 |none=>.tup [.str (As "wait")]
 |some p=>.tup [.str (I5 p.1),.int (p.2:Int)]
@[simp] theorem y4(s:Dg):DP (CV s)=true:=by cases s<;>simp[CV]
structure Ru(n:Nat)(ps:List Dg):Prop where
 l:ps.length<=40
 k:∀p,some p∈ps->p.1<3/\p.2<n
 C3:(ps.filterMap id).Nodup
def hJ(h:A5)(k:Int)(AK:k=1\/k=2):E0 false (.int k) (.tup [.int 1,.int 2]) h=.ok (.AM false,h):=by rw[Ux (d:=.int k) (t:=true) (ds:=[.int 1,.int 2]) rfl (by simp[Dn]) (by simp[Dn])];rcases AK with rfl|rfl<;>rfl
def aby{n:Nat}{cs:List Nat}{ws:List (AY×AY)}{h:A5}{m:Nat}(A:Ic h m cs ws){s:Dg}(hs:∀p,s=some p->p.1<3/\p.2<cs.length):R6 [CV s,.ref m] h=.ok (.AM true,h):=by
 obtain⟨f,A9,AE⟩:=A.ex;have f2:Bq "Net" "many" (.ref m) h=.ok (.int cs.length,h):=GJ A9 rfl;have is:∀x,D5 "str" (.str x) h=.ok (.AM true,h):=λx=>rfl;cases s with
 |none=>have B1:D5 "tuple" (CV none) h=.ok (.AM true,h):=rfl;have CC:Bw [CV none] h=.ok (.int 1,h):=QN h _;have x0:AI (CV none) (.int 0) h=.ok (.str (As "wait"),h):=Gq h _ _;simp[R6,XP,B1,CC,x0,hJ,is,B4]
 |some p=>
  have AT:=hs p rfl;have B1:D5 "tuple" (CV (some p)) h=.ok (.AM true,h):=rfl;have CC:Bw [CV (some p)] h=.ok (.int 2,h):=QN h _;have x0:AI (CV (some p)) (.int 0) h=.ok (.str (I5 p.1),h):=Gq h _ _;have D6:AI (CV (some p)) (.int 1) h=.ok (.int (p.2:Int),h):=Jc h _ _ _;have w:=SA (p.2:Int) 0 ((cs.length:Int)-1) h;rw[decide_eq_true (show(0:Int)<=(p.2:Int)by lia),decide_eq_true (show(p.2:Int)<=(cs.length:Int)-1 by lia)]at w;have I6:E0 true (.str (I5 p.1)) (.tup [.str (As "teach"),.str (As "turn"),.str (As "forget")]) h=.ok (.AM true,h):=by
   rw[Ux (d:=.str (I5 p.1)) (t:=true) (ds:=[.str (As "teach"),.str (As "turn"),.str (As "forget")]) rfl (by simp[Dn]) (by simp[Dn])];have:p.1=0\/p.1=1\/p.1=2:=by lia
   rcases this with e|e|e<;>rw[e]<;>rfl
  simp[R6,XP,B1,CC,x0,D6,hJ,is,B4,f2,w,I6]
def QI:W->Bool
 |.tup [_,_]=>true
 |_=>false
def xZ(h:A5)(s:Dg):BH false (CV s) OJ h=.ok (.AM (QI (CV s)),h):=by
 cases s with
 |none=>simp[BH,CV,OJ,Dn,eqT,HS,QI]
 |some p=>simp[BH,CV,OJ,Dn,eqT,HS,QI]
def n5{a b:Nat}(AB:a<3)(A1:b<3)(h:I5 a=I5 b):a=b:=by
 have a1:a=0\/a=1\/a=2:=by lia
 have D_:b=0\/b=1\/b=2:=by lia
 rcases a1 with rfl|rfl|rfl<;>rcases D_ with rfl|rfl|rfl<;>first|rfl|exact absurd h (by decide)
def stK(p:Nat×Nat):List Key:=[.inr (I5 p.1),.inl (p.2:Int)]
theorem nK:∀l:List (Nat×Nat),RL (l.map λp=>CV (some p))=some (l.map stK)
 |[]=>rfl
 |p::l=>by simp only[DB,CV,RL];have:=nK l;simp only[CV]at this;rw[this];rfl
theorem ag:∀ps:List Dg,(ps.map CV).filter QI=(ps.filterMap id).map λp=>CV (some p)
 |[]=>rfl
 |none::ps=>by rw[DB,Ps,if_neg (by simp[CV,QI]),ag ps];rfl
 |some p::ps=>by rw[DB,Ps,if_pos (by simp[CV,QI]),ag ps];rfl
def zS{cs:List Nat}{ws:List (AY×AY)}{h:A5}{m q:Nat}(A:Ic h m cs ws){ps:List Dg}(P:Ru cs.length ps)(eq:h[q]?=some ⟨.lst,ps.map CV⟩):Y1 [.ref q,.ref m] h=.ok (.AM true,h):=by
 have iG:=P.l;have B1:D5 "list" (.ref q) h=.ok (.AM true,h):=by simp only[D5,Ls,eq];rfl
 have CC:Bw [.ref q] h=.ok (.int ps.length,h):=by rw[Io eq,DV]
 have a:=cp (mi:=Dc (J 0)) (it:=G4 (.ref q)) (g:=AC 0) (e:=Ap 2 R6 (Z (J 0) (Z (J 1) A2))) (ρ:=[some (.ref q),some (.ref m),none]) (h:=h) (nl:=1) (caps:=[1]) (ps.map CV) (λ_=>true) (λρ=>∃s,ρ=[s,some (.ref m)]) (by rw[DV];lia) (Mj eq (by simp)) ⟨none,rfl⟩ (λj acc _=>Xw eq _ j) (by rintro w hw ρ acc ⟨s,rfl⟩;obtain⟨c,AD,rfl⟩:=List.mem_map.mp hw;exact⟨[some (CV c),some (.ref m)],by simp,⟨_,rfl⟩,by simp[aby (n:=0) (A.more [⟨.lst,acc⟩]) (λp e=>P.k p (e▸AD))]⟩)
 rw[List.all_eq_true.mpr (λ_ _=>rfl)]at a;have c:=X_ (mi:=Dc (J 0)) (it:=G4 (.ref q)) (g:=AC 0) (t:=A_ (A0 (BH false) (J 0) (pu OJ))) (e:=J 0) (ρ:=[some (.ref q),some (.ref m),none]) (h:=h) (h0:=h) (nl:=1) (caps:=[]) (ps.map CV) QI id (λρ=>∃s,ρ=[s]) (by rw[DV];lia) (Mj eq (by simp)) ⟨none,rfl⟩ (λj acc _=>Xw eq _ j) (by rintro w hw ρ acc ⟨s,rfl⟩;obtain⟨c,AD,rfl⟩:=List.mem_map.mp hw;exact⟨[some (CV c)],by simp,⟨_,rfl⟩,by simp[xZ],λ_=>by simp⟩)
 rw[List.map_id,ag]at c;have C3:((ps.filterMap id).map stK).Nodup:=by rw[T1,T8];refine List.Pairwise.imp_of_mem ?_ P.C3;intro x y AG AN ne z;obtain⟨u,Av,FV⟩:=List.mem_filterMap.mp AG;obtain⟨v,BB,ev⟩:=List.mem_filterMap.mp AN;simp only[id]at FV ev;subst FV ev;have xJ:=P.k _ Av;have YS:=P.k _ BB;simp only[stK,Vt,Sum.inr.injEq,W9,and_true]at z;exact ne (Prod.ext (n5 xJ.1 YS.1 z.1) (by lia))
 have lf:(ps.filterMap id).length<=ps.length:=List.length_filterMap_le ..;have Dj:E3 (h++[⟨.lst,(ps.filterMap id).map λp=>CV (some p)⟩]) (.ref h.length)=some (false,(ps.filterMap id).map λp=>CV (some p)):=I2 _ (by simp);have ls:UN [.ref h.length] (h++[⟨.lst,(ps.filterMap id).map λp=>CV (some p)⟩])=.ok (.int (ps.filterMap id).length,h++[⟨.lst,(ps.filterMap id).map λp=>CV (some p)⟩]):=by unfold UN;simp only[Dj,DV];rw[if_pos (by lia)];simp only[nK,rt _ C3,DV]
 have Ah:Bw [.ref h.length] (h++[⟨.lst,(ps.filterMap id).map λp=>CV (some p)⟩])=.ok (.int (ps.filterMap id).length,h++[⟨.lst,(ps.filterMap id).map λp=>CV (some p)⟩]):=by rw[Io (Go h _)];simp
 have t1:EV (DT (A_ (Bf (D5 "list") (J 0)))) (A_ (A0 MA (B0 Bw (Z (J 0) A2)) (pu S1))) [some (.ref q),some (.ref m),none] h=.ok (false,h):=by simp[B1,CC,S1];lia
 have Ct:IB (DT (A_ (B0 (Jm true) (Z (EO 1 [1] (Dc (J 0)) (AC 0) (pu true) (Ap 2 R6 (Z (J 0) (Z (J 1) A2)))) A2)))) [some (.ref q),some (.ref m),none] h=.ok (false,h):=by rw[abe,v_not,OS,a];simp
 have s3:AZ (EO 1 [] (Dc (J 0)) (AC 0) (A_ (A0 (BH false) (J 0) (pu OJ))) (J 0)) (AC 2) [some (.ref q),some (.ref m),none] h=.ok (.AP [some (.ref q),some (.ref m),some (.ref h.length)],h++[⟨.lst,(ps.filterMap id).map λp=>CV (some p)⟩]):=by rw[EY,c];rfl
 have e:Y1 [.ref q,.ref m] h=((XO [some (.ref q),some (.ref m),none] h).bind outF).bind λp=>settle h p.1 p.2:=rfl;rw[e];unfold XO;rw[BD,F4,t1,AH,if_neg (by simp),IJ,AH,BN,BD,F4,Ct,AH,if_neg (by simp),IJ,AH,BN,BD,s3,AH,BN];simp only[Pk,Dw,HN,DF,DG,v_var,DJ,Dq,DH,AH,ls,Ah,jl,UJ];simp
def aaH{cs:List Nat}{ws:List (AY×AY)}(FR:cs.length<=6){B C:List (List Cs)}(Jj:Hr cs B)(yu:Hr cs C){h:A5}{m q b c:Nat}(A:Ic h m cs ws)(GV:ES h b B)(Ij:ES h c C){ps:List Dg}(P:Ru cs.length ps)(eq:h[q]?=some ⟨.lst,ps.map CV⟩):Uf [.ref m,.ref b,.ref c,.ref q] h=.ok (.non,h):=by simp[Uf,cg,eo FR Jj A GV,eo FR yu A Ij,zS A P eq]
def kG:List Str:=["net","books","plan","done","came","letters","ended"]
def PT(LR N6 D_ pl M BV:Nat):O:=⟨.ins "Run" kG,[.ref LR,.tup [.ref N6,.ref D_],.ref pl,.ref M,.int (BV:Int),.ref (M+1),.ref (M+2)]⟩
def Ma{c f:Str}{ns ns':List Str}{us nP:List W}{v:B9}{ρ:BI}{h X Y:A5}{w:W}(h0:ρ[0]?=some (some (.ref h.length)))(ev:v ρ (h++(⟨.ins c ns,us⟩::X))=.ok (w,h++(⟨.ins c ns,us⟩::(X++Y))))(l:ns.length<1000)(A9:Re ns f=ns')(AE:Qg ns us f w=nP):Ec c f (J 0) v ρ (h++(⟨.ins c ns,us⟩::X))=.ok (.AP ρ,h++(⟨.ins c ns',nP⟩::(X++Y))):=by rw[S9,ev,AH,v_var,h0,DH,AH];rw[Rf (Go h _) l A9 AE,TR];rfl
def IC(L:Nat)(cs:List Nat)(ws:List (AY×AY))(A B:List (List Cs))(ps:List Dg):A5:=[⟨.lst,BX cs⟩,⟨.lst,ws.map Bs⟩,Ln cs ws (L+4),H8 ws]++Eh (L+5) A++Eh (L+6+A.length) B++[⟨.lst,ps.map CV⟩]
def ZB(L:Nat)(cs:List Nat)(ws:List (AY×AY))(A B:List (List Cs))(ps:List Dg):(IC L cs ws A B ps).length=A.length+B.length+7:=by simp[IC,L8];lia
def aa_{cs:List Nat}{ws:List (AY×AY)}(N:KC cs ws){A B:List (List Cs)}(Ji:Hr cs A)(Jj:Hr cs B){ps:List Dg}(P:Ru cs.length ps){h:A5}{m a b q:Nat}(Wi:Ic h m cs ws)(I0:ES h a A)(GV:ES h b B)(AU:h[q]?=some ⟨.lst,ps.map CV⟩) :
  R3 [.ref h.length,.ref m,.ref a,.ref b,.ref q] (h++[⟨.ins "Run" [],[]⟩])=.ok (.non,h++(PT (h.length+3) (h.length+5) (h.length+6+A.length) (h.length+7+A.length+B.length) (h.length+8+A.length+B.length) 0::(IC h.length cs ws A B ps++[⟨.lst,[]⟩,⟨.B3 [],[]⟩,⟨.lst,[]⟩]))):=by
 have e:R3 [.ref h.length,.ref m,.ref a,.ref b,.ref q] (h++[⟨.ins "Run" [],[]⟩])=(Wm [some (.ref h.length),some (.ref m),some (.ref a),some (.ref b),some (.ref q)] (h++[⟨.ins "Run" [],[]⟩])).bind outF:=rfl;rw[e];obtain⟨ρ,F2⟩:∃ρ:BI,ρ=[some (.ref h.length),some (.ref m),some (.ref a),some (.ref b),some (.ref q)]:=⟨_,rfl⟩;rw[<-F2];have Qj:ρ[0]?=some (some (.ref h.length)):=by rw[F2];rfl
 have v1:∀h',J 1 ρ h'=.ok (.ref m,h'):=by rw[F2];exact λ_=>rfl
 have v2:∀h',J 2 ρ h'=.ok (.ref a,h'):=by rw[F2];exact λ_=>rfl
 have MW:∀h',J 3 ρ h'=.ok (.ref b,h'):=by rw[F2];exact λ_=>rfl
 have v4:∀h',J 4 ρ h'=.ok (.ref q,h'):=by rw[F2];exact λ_=>rfl
 have iG:=P.l;have Ze:=Ji.1;have YT:=Jj.1;have s0:Fs (Ap 4 Uf (Z (J 1) (Z (J 2) (Z (J 3) (Z (J 4) A2))))) ρ (h++[⟨.ins "Run" [],[]⟩])=.ok (.AP ρ,h++[⟨.ins "Run" [],[]⟩]):=by simp only[Lc,IX,DF,DG,v1,v2,MW,v4,AH,D7,EQ,G9,if_true,aaH N.FR Ji Jj (Wi.more _) (I0.more _) (GV.more _) P (Cp h AU _)]
 have s1:Ec "Run" "net" (J 0) (Ap 1 UX (Z (J 1) A2)) ρ (h++[⟨.ins "Run" [],[]⟩])=.ok (.AP ρ,h++(⟨.ins "Run" ["net"],[.ref (h.length+3)]⟩::([]++[⟨.lst,BX cs⟩,⟨.lst,ws.map Bs⟩,Ln cs ws (h.length+4),H8 ws]))):=by refine Ma Qj ?_ (by decide) rfl rfl;simp only[IX,DF,DG,v1,AH,D7,EQ,G9,if_true,x_ N (Wi.more _)];rw[FS,EP];rfl
 obtain⟨Pb,D6⟩:∃X:A5,X=[]++[⟨.lst,BX cs⟩,⟨.lst,ws.map Bs⟩,Ln cs ws (h.length+4),H8 ws]:=⟨_,rfl⟩;have CC:Pb.length=4:=by rw[D6];rfl
 rw[<-D6]at s1;have s2:Ec "Run" "books" (J 0) (Bn (Z (Ap 1 R4 (Z (J 2) A2)) (Z (Ap 1 R4 (Z (J 3) A2)) A2))) ρ (h++(⟨.ins "Run" ["net"],[.ref (h.length+3)]⟩::Pb))=.ok (.AP ρ,h++(⟨.ins "Run" ["net","books"],[.ref (h.length+3),.tup [.ref (h.length+5),.ref (h.length+6+A.length)]]⟩::(Pb++(Eh (h.length+5) A++Eh (h.length+6+A.length) B)))):=by
  refine Ma Qj ?_ (by decide) rfl rfl;have BR:=ek N.FR Ji (I0.more (⟨.ins "Run" ["net"],[.ref (h.length+3)]⟩::Pb));have CR:(h++(⟨.ins "Run" ["net"],[.ref (h.length+3)]⟩::Pb)).length=h.length+5:=by simp[CC]
  rw[CR,FS]at BR;have C_:=ek N.FR Jj (GV.more ((⟨.ins "Run" ["net"],[.ref (h.length+3)]⟩::Pb)++Eh (h.length+5) A));have B8:(h++((⟨.ins "Run" ["net"],[.ref (h.length+3)]⟩::Pb)++Eh (h.length+5) A)).length=h.length+6+A.length:=by simp[CC,L8];lia
  rw[B8]at C_;simp only[aO,IX,DF,DG,v2,MW,AH,D7,EQ,G9,if_true,BR,C_];rw[if_pos (by decide)];simp
 obtain⟨Rw,CZ⟩:∃X:A5,X=Pb++(Eh (h.length+5) A++Eh (h.length+6+A.length) B):=⟨_,rfl⟩;have C8:Rw.length=6+A.length+B.length:=by rw[CZ];simp[CC,L8];lia
 rw[<-CZ]at s2;have s3:Ec "Run" "plan" (J 0) (B0 Db (Z (J 4) A2)) ρ (h++(⟨.ins "Run" ["net","books"],[.ref (h.length+3),.tup [.ref (h.length+5),.ref (h.length+6+A.length)]]⟩::Rw))=.ok (.AP ρ,h++(⟨.ins "Run" ["net","books","plan"],[.ref (h.length+3),.tup [.ref (h.length+5),.ref (h.length+6+A.length)],.ref (h.length+7+A.length+B.length)]⟩::(Rw++[⟨.lst,ps.map CV⟩]))):=by
  refine Ma Qj ?_ (by decide) rfl rfl;have BR:Db [.ref q] (h++(⟨.ins "Run" ["net","books"],[.ref (h.length+3),.tup [.ref (h.length+5),.ref (h.length+6+A.length)]]⟩::Rw))=_:=QO (I2 _ (Cp h AU _)) (by rw[DV];unfold B4;lia);simp only[HN,DF,DG,v4,AH,BR];have:(h++(⟨.ins "Run" ["net","books"],[.ref (h.length+3),.tup [.ref (h.length+5),.ref (h.length+6+A.length)]]⟩::Rw)).length=h.length+7+A.length+B.length:=by simp[C8];lia
  rw[this,FS];rfl
 obtain⟨OG,Ew⟩:∃X:A5,X=Rw++[⟨.lst,ps.map CV⟩]:=⟨_,rfl⟩;have PO:OG.length=7+A.length+B.length:=by rw[Ew];simp[C8];lia
 rw[<-Ew]at s3;obtain⟨us,FV⟩:∃us:List W,us=[.ref (h.length+3),.tup [.ref (h.length+5),.ref (h.length+6+A.length)],.ref (h.length+7+A.length+B.length)]:=⟨_,rfl⟩;have s4:Ec "Run" "done" (J 0) (CO A2) ρ (h++(⟨.ins "Run" ["net","books","plan"],[.ref (h.length+3),.tup [.ref (h.length+5),.ref (h.length+6+A.length)],.ref (h.length+7+A.length+B.length)]⟩::OG))=.ok (.AP ρ,h++(⟨.ins "Run" ["net","books","plan","done"],[.ref (h.length+3),.tup [.ref (h.length+5),.ref (h.length+6+A.length)],.ref (h.length+7+A.length+B.length),.ref (h.length+8+A.length+B.length)]⟩::(OG++[⟨.lst,[]⟩]))):=by refine Ma Qj ?_ (by decide) rfl rfl;rw[MX,DG,AH,Hj _ (by simp)];simp[PO];lia
 have s5:Ec "Run" "came" (J 0) (pu (.int 0)) ρ (h++(⟨.ins "Run" ["net","books","plan","done"],[.ref (h.length+3),.tup [.ref (h.length+5),.ref (h.length+6+A.length)],.ref (h.length+7+A.length+B.length),.ref (h.length+8+A.length+B.length)]⟩::(OG++[⟨.lst,[]⟩])))=.ok (.AP ρ,h++(⟨.ins "Run" ["net","books","plan","done","came"],[.ref (h.length+3),.tup [.ref (h.length+5),.ref (h.length+6+A.length)],.ref (h.length+7+A.length+B.length),.ref (h.length+8+A.length+B.length),.int 0]⟩::(OG++[⟨.lst,[]⟩]++[]))):=by refine Ma Qj ?_ (by decide) rfl rfl;rw[MS];rfl
 rw[MS]at s5;have C5:Ec "Run" "letters" (J 0) (Jf false) ρ (h++(⟨.ins "Run" ["net","books","plan","done","came"],[.ref (h.length+3),.tup [.ref (h.length+5),.ref (h.length+6+A.length)],.ref (h.length+7+A.length+B.length),.ref (h.length+8+A.length+B.length),.int 0]⟩::(OG++[⟨.lst,[]⟩])))=.ok (.AP ρ,h++(⟨.ins "Run" ["net","books","plan","done","came","letters"],[.ref (h.length+3),.tup [.ref (h.length+5),.ref (h.length+6+A.length)],.ref (h.length+7+A.length+B.length),.ref (h.length+8+A.length+B.length),.int 0,.ref (h.length+8+A.length+B.length+1)]⟩::(OG++[⟨.lst,[]⟩]++[⟨.B3 [],[]⟩]))):=by refine Ma Qj ?_ (by decide) rfl rfl;have:∀h':A5,Jf false ρ h'=.ok (.ref h'.length,h'++[⟨.B3 [],[]⟩]):=λh'=>rfl;rw[this];simp[PO];lia
 have Cj:Ec "Run" "ended" (J 0) (CO A2) ρ (h++(⟨.ins "Run" ["net","books","plan","done","came","letters"],[.ref (h.length+3),.tup [.ref (h.length+5),.ref (h.length+6+A.length)],.ref (h.length+7+A.length+B.length),.ref (h.length+8+A.length+B.length),.int 0,.ref (h.length+8+A.length+B.length+1)]⟩::(OG++[⟨.lst,[]⟩]++[⟨.B3 [],[]⟩])))=.ok (.AP ρ,h++(PT (h.length+3) (h.length+5) (h.length+6+A.length) (h.length+7+A.length+B.length) (h.length+8+A.length+B.length) 0::(OG++[⟨.lst,[]⟩]++[⟨.B3 [],[]⟩]++[⟨.lst,[]⟩]))):=by refine Ma Qj ?_ (by decide) rfl rfl (w:=.ref (h.length+8+A.length+B.length+2));rw[MX,DG,AH,Hj _ (by simp)];simp[PO];lia
 unfold Wm;rw[BD,s0,AH,BN,BD,s1,AH,BN,BD,s2,AH,BN,BD,s3,AH,BN,BD,s4,AH,BN,BD,s5,AH,BN,BD,C5,AH,BN,Cj,AH,jF];rw[Ew,CZ,D6,IC];simp
end Fo
namespace CG
open PySem PySem.Spec B8
def Ii(o:Option W)(ρ:BI):En:=match o with
 |some v=>.Do v
 |none=>.AP ρ
theorem dy{α β:Type}(p:α->Bool)(f:α->β):∀l:List α,l.findSome? (λa=>if p a=true then some (f a)else none)=(l.find? p).map f
 |[]=>rfl
 |a::l=>by
  rw[List.findSome?_cons,Q7];cases h:p a
  .simpa using dy p f l
  .rfl
def ea{mi:Fw}{it:HQ}{g:DC}{b:An}{ρ:BI}{h h0:A5}(n:Nat)(AW:n<1000)(wf:Nat->W)(BO:BI->Prop)(q:Nat->Option W)(A7:mi ρ h0=.ok (it,h))(hit:∀j,j<=n->it j h=some (if j<n then some (wf j)else none))(ve:BO ρ)(Df:∀j,j<n->∀ρ,BO ρ->∃CI DA,g (wf j) ρ h=.ok (.AP CI,h)/\BO DA/\b CI h=.ok (Ii (q j) DA,h)) :
  ∃Dx,BO Dx/\Ed mi g b ρ h0=.ok (Ii ((Cd n).findSome? q) Dx,h):=by
 have:=eZ (mi:=mi) (it:=it) (g:=g) (b:=b) (ρ:=ρ) (h:=h0) (h0:=h) n AW (λj ρ h'=>j<=n/\BO ρ/\h'=h/\(Cd j).findSome? q=none)
  (T:=λf h'=>h'=h/\∃Dx,BO Dx/\f=Ii ((Cd n).findSome? q) Dx) A7 ⟨Gi _,ve,rfl,rfl⟩ (by
  rintro j ρ _ ⟨Af,i,rfl,e⟩;rw[hit j Af];by_cases EG:j<n
  .obtain⟨CI,DA,A9,BW,AE⟩:=Df j EG ρ i;refine .inr ⟨wf j,by rw[if_pos EG],EG,CI,_,A9,?_⟩;rw[AE];cases eq:q j with
   |none=>simp only[Ii,Tk,WU];refine⟨EG,BW,trivial,?_⟩;rw[Vz,bo,e];simp[eq]
   |some v=>
    simp only[Ii,Tk,q3];refine⟨trivial,DA,BW,?_⟩;have:(Cd n).findSome? q=some v:=by
     have h2:Cd n=Cd j++(j::(List.range' (j+1) (n-(j+1)))):=by have:=List.range'_append_1 (s:=0) (m:=j) (n:=n-j);rw[Nat.zero_add,<-pD,show j+(n-j)=n by lia,<-pD]at this;rw[<-this,show n-j=(n-(j+1))+1 by lia,List.range'_succ]
     rw[h2,bo,e];simp[eq]
    rw[this]
  .have:j=n:=by lia
   subst this;refine .inl ⟨by rw[if_neg EG],rfl,ρ,i,?_⟩;rw[e];rfl)
 obtain⟨f,h',Bo,rfl,Dx,V3,rfl⟩:=this.Ga;exact⟨Dx,V3,Bo⟩
def aaU(n j:Nat)(h:A5):Kh 0 n j h=some (if j<n then some (.int (j:Int))else none):=by simp[Kh]
def wt{h:A5}{n:Nat}{α:Type}{f:α->W}{l:List α}{d:α}(e:h[n]?=some ⟨.lst,l.map f⟩)(j:Nat):G4 (.ref n) j h=some (if j<l.length then some (f (l.getD j d))else none):=by
 rw[Qo e,Em];by_cases Af:j<l.length
 .rw[if_pos Af,CF Af,Ex,CF Af];rfl
 .rw[if_neg Af,HF (by lia)];rfl
def ra{h:A5}{n:Nat}{α:Type}{f:α->W}{l:List α}{d:α}(e:h[n]?=some ⟨.lst,l.map f⟩)(j:Nat)(Af:j<=l.length):PB (.ref n) j h=some (if j<l.length then some (.tup [.int (j:Int),f (l.getD j d)])else none):=by
 simp only[PB,Mm h e,DV];by_cases EG:j<l.length
 .rw[if_neg (by lia),if_pos EG,Em,CF EG,Ex,CF EG];rfl
 .rw[if_pos (by lia),if_neg EG]
@[simp] theorem afP(f g k:DC)(x y z:W)(ρ:BI)(h:A5):FP [f,g,k] (.tup [x,y,z]) ρ h=(f x ρ h).bind (Nf λρ h=>(g y ρ h).bind (Nf λρ h=>(k z ρ h).bind (Nf Br))):=by
  simp only[FP,VJ,D7,EQ,S8,BD];rw[if_pos trivial]
  congr
end CG
namespace Fo
open PySem PySem.Spec B8 CG
def G8(k:Nat):Nat:=[8,4,2,1].getD k 1
def Wy(x:Str)(a k:Nat):Bool:=x.cps.toList.getD k 0==120||x.cps.toList.getD k 0==48+a/G8 k%2
def M9(x:Str)(a:Nat):Bool:=(Cd 4).all (Wy x a)
def n8(k:Nat):0<G8 k:=by
 unfold G8;by_cases h:k<4
 .rcases(by lia:k=0\/k=1\/k=2\/k=3)with rfl|rfl|rfl|rfl<;>decide
 .rw[Ex,HF (by simp;lia)];decide
def aan{c:Nat}(s:KF c)(b:Nat)(A1:b<2)(h:A5):E0 true (.str ⟨#[c]⟩) (.tup [.str (As "x"),.str (toString ((b:Nat):Int))]) h=.ok (.AM (c==120||c==48+b),h):=by
 rw[Ux (d:=.str ⟨#[c]⟩) (t:=true) (ds:=[.str (As "x"),.str (toString ((b:Nat):Int))]) rfl (by simp[Dn]) (by simp[Dn])];have:b=0\/b=1:=by lia
 rcases this with rfl|rfl<;>rcases s with rfl|rfl|rfl<;>rfl
def aaC(h:A5){k:Nat}(AK:k<4):AI (.ref h.length) (.int (k:Int)) (h++[⟨.lst,[.int 8,.int 4,.int 2,.int 1]⟩])=.ok (.int (G8 k:Nat),h++[⟨.lst,[.int 8,.int 4,.int 2,.int 1]⟩]):=by refine GM (Go h _) ?_;rcases(by lia:k=0\/k=1\/k=2\/k=3)with rfl|rfl|rfl|rfl<;>rfl
def b6{x:Str}(p:QU x){k:Nat}(AK:k<4):KF (x.cps.toList.getD k 0):=by have Ca:=p.l;rw[Ex,CF (by lia)];exact p.s _ (Lh _)
def aam{x:Str}(p:QU x){k:Nat}(AK:k<4)(h:A5):AI (.str x) (.int (k:Int)) h=.ok (.str ⟨#[x.cps.toList.getD k 0]⟩,h):=by
 have Ca:=p.l;have e:Ie x.cps.toList (k:Int)=some (x.cps.toList.getD k 0):=by unfold Ie LL;rw[if_pos (by lia),if_pos (by lia)];simp only[Ob,bz,Ex];rw[CF (by lia)];rfl
 have Au:x.length<=B4:=by rw[str_len,Ca];decide
 show PK (.str x) (.int (k:Int)) h=_;unfold PK;simp only[if_pos Au,e]
def rh(c:Nat)(s:KF c)(h:A5):BH false (.str ⟨#[c]⟩) (.str (As "x")) h=.ok (.AM (!(c==120)),h):=by rw[j2];rcases s with rfl|rfl|rfl<;>rfl
def aa8(h:A5){b:Nat}(A1:b<2):AI (.str (As "01")) (.int (b:Int)) h=.ok (.str ⟨#[48+b]⟩,h):=by
 have:b=0\/b=1:=by lia
 rcases this with rfl|rfl<;>rfl
def rg(c:Nat)(s:KF c){b:Nat}(A1:b<2)(h:A5):BH false (.str ⟨#[c]⟩) (.str ⟨#[48+b]⟩) h=.ok (.AM (!(c==48+b)),h):=by
 rw[j2];have:b=0\/b=1:=by lia
 rcases this with rfl|rfl<;>rcases s with rfl|rfl|rfl<;>rfl
noncomputable def Zg:An:=AO (AZ (CB (A0 BZ (A0 CT (J 1) (A0 AI (CO (Z (pu (.int 8)) (Z (pu (.int 4)) (Z (pu (.int 2)) (Z (pu (.int 1)) A2))))) (J 2))) (pu (.int 2)))) (AC 3))
    (Bp (HI (A_ (A0 (BH false) (A0 AI (J 0) (J 2)) (pu (.str (As "x"))))) (A_ (A0 (BH false) (A0 AI (J 0) (J 2)) (A0 AI (pu (.str (As "01"))) (J 3))))) (B5 (pu (.AM false))) Br)
def n7(k:Nat):G8 k<=8:=by
 unfold G8;by_cases h:k<4
 .rcases(by lia:k=0\/k=1\/k=2\/k=3)with rfl|rfl|rfl|rfl<;>decide
 .rw[Ex,HF (by simp;lia)];decide
def range_all{n:Nat}{p:Nat->Bool}{v:W}:(Cd n).findSome? (λj=>if p j=true then none else some v)=if(Cd n).all p=true then none else some v:=by
 induction n with
 |zero=>rfl
 |succ n Bk=>rw[Vz,bo,Bk,List.all_append];cases(Cd n).all p<;>cases h:p n<;>simp[h]
def wi{x:Str}(p:QU x)(a:Nat)(h:A5):SL [.str x,.int (a:Int)] h=.ok (.AM (M9 x a),h):=by
 obtain⟨Dx,_,e⟩:=ea (mi:=E2 (Z (pu (.int 4)) A2)) (g:=AC 2) (b:=Zg) (ρ:=[some (.str x),some (.int (a:Int)),none,none]) (h:=h) (h0:=h) 4 (by lia) (λj=>.int (j:Int)) (λρ=>∃s t,ρ=[some (.str x),some (.int (a:Int)),s,t]) (λj=>if Wy x a j=true then none else some (.AM false)) (Kg (n:=4) (by simp) (by lia)) (λj _=>aaU 4 j h) ⟨none,none,rfl⟩ (by
  rintro j Af _ ⟨s,t,rfl⟩;have E9:a/G8 j%2<2:=TJ _ (by lia);have q:=n8 j;have RE:=n7 j;refine⟨[some (.str x),some (.int (a:Int)),some (.int (j:Int)),t],[some (.str x),some (.int (a:Int)),some (.int (j:Int)),some (.int ((a/G8 j%2:Nat):Int))],by simp,⟨_,_,rfl⟩,?_⟩;have BR:(0:Int)<(G8 j:Int)/\(G8 j:Int)<1073741824:=by lia
  have s1:AZ (CB (A0 BZ (A0 CT (J 1) (A0 AI (CO (Z (pu (.int 8)) (Z (pu (.int 4)) (Z (pu (.int 2)) (Z (pu (.int 1)) A2))))) (J 2))) (pu (.int 2)))) (AC 3) [some (.str x),some (.int (a:Int)),some (.int (j:Int)),t] h=.ok (.AP [some (.str x),some (.int (a:Int)),some (.int (j:Int)),some (.int ((a/G8 j%2:Nat):Int))],h):=by have F3:=aaC h Af;simp only[EY,IK,Dw,MX,DF,DG,v_var,E4,DJ,Dq,DH,AH,Hj h (show([.int 8,.int 4,.int 2,.int 1]:List W).length<=B4 by decide),F3,Mt,if_pos BR,Kx,if_pos (show(0:Int)<2 by decide)];rw[mV _ _ _ (by simp)];simp
  have D6:=aam p Af h;unfold Zg;rw[BD,s1,AH,BN,F4];simp only[v_and,OS,Dw,v_var,E4,DJ,Dq,DH,AH,D6,rh _ (b6 p Af),OI,aa8 h E9,rg _ (b6 p Af) E9];have Bo:Wy x a j=(x.cps.toList.getD j 0==120||x.cps.toList.getD j 0==48+a/G8 j%2):=rfl;rw[Bo];cases h1:x.cps.toList.getD j 0==120<;>cases h2:x.cps.toList.getD j 0==48+a/G8 j%2<;>simp[Ii])
 have CK:SL [.str x,.int (a:Int)] h=((AO (Ed (E2 (Z (pu (.int 4)) A2)) (AC 2) Zg) (B5 (pu (.AM true))) [some (.str x),some (.int (a:Int)),none,none] h).bind outF).bind λp=>settle h p.1 p.2:=rfl;rw[CK,BD,e,range_all];unfold M9;cases(Cd 4).all (Wy x a)<;>simp[Ii]
def VB(x:Str)(k:Nat):W:=.tup [.str ⟨#[x.cps.toList.getD k 0]⟩,.int (G8 k:Nat)]
def dz(a:Nat):W->Bool
 |.tup [.str s,.int v]=>s.cps.toList.getD 0 0==120||s.cps.toList.getD 0 0==48+a/v.toNat%2
 |_=>false
def eu{a:Nat}(AB:a<16)(h:A5):SF [.int (a:Int)] h=.ok (.AM true,h):=by have w:=SA (a:Int) 0 15 h;rw[decide_eq_true (show(0:Int)<=(a:Int)by lia),decide_eq_true (show(a:Int)<=15 by lia)]at w;simp[SF,d3,Ta,w]
def sM{x:Str}(p:QU x){a:Nat}(AB:a<16)(h:A5):UZ [.str x,.int (a:Int)] h=.ok (.AM (M9 x a),h):=by
 have Ca:=p.l;have al:=cp (mi:=UT (Z (J 0) (Z (pu OK) A2))) (it:=Yr x [.int 8,.int 4,.int 2,.int 1]) (g:=FP [(AC 0),(AC 1)]) (e:=A0 (E0 true) (J 0) (Bn (Z (pu (.str (As "x"))) (Z (B0 Pe (Z (A0 BZ (A0 CT (J 2) (J 1)) (pu (.int 2))) A2)) A2)))) (ρ:=[some (.str x),some (.int (a:Int))]) (h:=h) (nl:=2) (caps:=[1]) ((Cd 4).map (VB x)) (dz a) (λρ=>∃s t,ρ=[s,t,some (.int (a:Int))]) (by simp) (by simp[UT,OK]) ⟨none,none,rfl⟩ (λj acc Af=>by
   simp only[DV,cD]at Af;have hs:x.cps.size=4:=Ca;unfold Yr;simp only[hs,D7,EQ];by_cases EG:j<4
   .rw[if_neg (by lia)];rw[Em,Pw EG,Kn (by lia)];rcases(by lia:j=0\/j=1\/j=2\/j=3)with rfl|rfl|rfl|rfl<;>simp[VB,G8,hs]
   .have:j=4:=by lia
    subst this;rfl) (by
  rintro w hw ρ acc ⟨s,t,rfl⟩;obtain⟨k,AK,rfl⟩:=List.mem_map.mp hw;have AK:=List.mem_range.mp AK;have q:=n8 k;have RE:=n7 k;have E9:a/G8 k%2<2:=TJ _ (by lia);refine⟨[some (.str ⟨#[x.cps.toList.getD k 0]⟩),some (.int (G8 k:Nat)),some (.int (a:Int))],by simp[VB],⟨_,_,rfl⟩,?_⟩;have BR:(0:Int)<(G8 k:Int)/\(G8 k:Int)<1073741824:=by lia
  have AE:(a:Int)/(G8 k:Int)%2=((a/G8 k%2:Nat):Int):=by simp
  have st:∀g:A5,Pe [.int ((a/G8 k%2:Nat):Int)] g=.ok (.str (toString ((a/G8 k%2:Nat):Int)),g):=λg=>by unfold Pe;dsimp only;rw[if_pos];rcases(by lia:a/G8 k%2=0\/a/G8 k%2=1)with e|e<;>rw[e]<;>decide
  simp only[Dw,aO,DF,DG,HN,v_var,E4,DJ,Dq,DH,AH,Mt,if_pos BR,Kx,if_pos (show(0:Int)<2 by decide),AE,st];rw[if_pos (by simp[B4]),AH,aan (b6 p AK) _ E9];simp[dz,VB])
 have Bg:((Cd 4).map (VB x)).all (dz a)=M9 x a:=by
  unfold M9;rw[cL]
  congr 1
 rw[Bg]at al;have pn:CB (B0 (Jm true) (Z (EO 2 [1] (UT (Z (J 0) (Z (pu OK) A2))) (FP [(AC 0),(AC 1)]) (pu true) (A0 (E0 true) (J 0) (Bn (Z (pu (.str (As "x"))) (Z (B0 Pe (Z (A0 BZ (A0 CT (J 2) (J 1)) (pu (.int 2))) A2)) A2))))) A2)) [some (.str x),some (.int (a:Int))] h=.ok (.AM (M9 x a),h):=by rw[IK,al];simp
 simp[-IK,UZ,d2,jL p,eu AB,pn]
end Fo
namespace CG
open PySem PySem.Spec B8
def sL{n:Nat}{p:Nat->Bool}{k:Nat}(h:(Cd n).find? p=some k):k<n/\p k=true:=⟨List.mem_range.mp (List.mem_of_find?_eq_some h),List.find?_some h⟩
end CG
namespace Fo
open PySem PySem.Spec B8 CG
def Hx:Cs:=⟨As "",none,none⟩
def Lp(i a:Nat)(r:Cs):Bool:=(r.a.isNone||r.a==some i)&&M9 r.p a
def Rg(BF:List Cs)(i a:Nat):Option Nat:=(Cd BF.length).find? λj=>Lp i a (BF.getD j Hx)
inductive Tl where
 |at (d:AY)|drop (h:Nat)|out (d:AY)|iO (h:Nat)
noncomputable def De:Tl->W
 |.at d=>.tup [.str (As "at"),.int (d.1:Int),.int (d.2:Int)]
 |.drop h=>.tup [.str (As "drop"),.int (h:Int)]
 |.out d=>.tup [.str (As "out"),.int (d.1:Int),.int (d.2:Int)]
 |.iO h=>.tup [.str (As "lost"),.int (h:Int)]
@[simp] theorem aeQ(t:Tl):DP (De t)=true:=by cases t<;>simp[De]
def Kc(ws:List (AY×AY))(h:Nat):Option Nat->Tl
 |none=>.drop h
 |some o=>match EE ws (h,o)with
  |none=>.out (h,o)
  |some e=>.at e
def NX(ws:List (AY×AY))(BF:List Cs)(d:AY)(a:Nat):Tl:=match Rg BF d.2 a with
 |none=>.drop d.1
 |some k=>Kc ws d.1 (BF.getD k Hx).b
def iU(h:A5)(o:Option Nat):EA true (Co o) .non h=.ok (.AM o.isNone,h):=by cases o<;>rfl
def gB(h:A5)(o:Option Nat)(i:Nat)(ho:o.isNone=false):BH true (Co o) (.int (i:Int)) h=.ok (.AM (o==some i),h):=by
 cases o with
 |none=>cases ho
 |some k=>
  rw[Co,jl]
  congr 3
  by_cases e:k=i
  .subst e;simp
  .have:¬(k:Int)=(i:Int):=by lia
   simp[e,this]
def getD_mem{α:Type}{l:List α}{k:Nat}{d:α}(h:k<l.length):l.getD k d∈l:=by rw[Ex,CF h];exact Lh _
noncomputable def aI:An:=Bp (HI (EV (A_ (A0 (EA true) (A0 AI (J 4) (pu (.int 1))) (pu (.non)))) (A_ (A0 (BH true) (A0 AI (J 4) (pu (.int 1))) (J 1)))) (A_ (Ap 2 UZ (Z (A0 AI (J 4) (pu (.int 0))) (Z (J 2) A2))))) (B5 (J 3)) Br
def ac9{c:Nat}{BF:List Cs}(ok:MM c BF){h:A5}{b i a:Nat}(AB:a<16)(Au:h[b]?=some (F0 BF)):Ug [.ref b,.int (i:Int),.int (a:Int)] h=.ok (Co (Rg BF i a),h):=by
 have xL:=ok.1;obtain⟨Dx,_,e⟩:=ea (mi:=PR (Z (J 0) A2)) (it:=PB (.ref b)) (g:=FP [(AC 3),(AC 4)]) (b:=aI) (ρ:=[some (.ref b),some (.int (i:Int)),some (.int (a:Int)),none,none]) (h:=h) (h0:=h) BF.length (by lia) (λj=>.tup [.int (j:Int),E6 (BF.getD j Hx)]) (λρ=>∃s t,ρ=[some (.ref b),some (.int (i:Int)),some (.int (a:Int)),s,t]) (λj=>if Lp i a (BF.getD j Hx)=true then some (.int (j:Int))else none) (by simp[PR,Mm h Au]) (λj Af=>ra Au j Af) ⟨none,none,rfl⟩ (by
  rintro j Af _ ⟨s,t,rfl⟩;obtain⟨r,BJ⟩:∃r,r=BF.getD j Hx:=⟨_,rfl⟩;have bO:=ok.2 r (BJ▸getD_mem Af);rw[<-BJ];refine⟨[some (.ref b),some (.int (i:Int)),some (.int (a:Int)),some (.int (j:Int)),some (E6 r)],[some (.ref b),some (.int (i:Int)),some (.int (a:Int)),some (.int (j:Int)),some (E6 r)],by simp,⟨_,_,rfl⟩,?_⟩;have x0:AI (E6 r) (.int 0) h=.ok (.str r.p,h):=Gq h _ _;have D6:AI (E6 r) (.int 1) h=.ok (Co r.a,h):=Jc h _ _ _;have Tp:=sM bO.p AB h;unfold aI;rw[F4];simp only[v_and,v_or,OS,Dw,IX,DF,DG,v_var,E4,DJ,Dq,DH,AH,x0,D6,iU,OI,Tp,D7,EQ,G9,if_true];unfold Lp;cases h1:r.a.isNone
  .simp only[Gj,if_false,gB h _ i h1,AH,OI,cQ];cases h2:r.a==some i<;>cases B2:M9 r.p a<;>simp[Ii,x0,Tp,B2]
  .cases B2:M9 r.p a<;>simp[Ii,x0,Tp,B2])
 rw[dy (λj=>Lp i a (BF.getD j Hx)) (λj:Nat=>W.int (j:Int))]at e;have CK:Ug [.ref b,.int (i:Int),.int (a:Int)] h=((AO (Ed (PR (Z (J 0) A2)) (FP [(AC 3),(AC 4)]) aI) (B5 (pu (.non))) [some (.ref b),some (.int (i:Int)),some (.int (a:Int)),none,none] h).bind outF).bind λp=>settle h p.1 p.2:=rfl;rw[CK,BD,e];unfold Rg;cases(Cd BF.length).find? λj=>Lp i a (BF.getD j Hx)<;>simp[Ii,Co]
def yA{cs:List Nat}{ws:List (AY×AY)}{h:A5}{n:Nat}(A:Ic h n cs ws)(d:AY):R2 [.ref n,AR d] h=.ok (Hk (EE ws d),h):=by
 obtain⟨f,A9,AE⟩:=A.ex;have f1:Bq "Net" "far" (.ref n) h=.ok (.ref f,h):=GJ A9 rfl;have rv:Nv h (.ref f)=true:=by unfold Nv;simp only[AE,H8]
 have q:UP (Bf (Bq "Net" "far") (J 0)) (J 1) [some (.ref n),some (AR d)] h=.ok (Hk (EE ws d),h):=by unfold UP;simp only[JN,OT,v_var,DJ,DH,AH,f1,PJ,rv,if_true,Dq,eM AE];cases EE ws d<;>rfl
 simp[R2,cv,q]
def zC{cs:List Nat}{ws:List (AY×AY)}{h:A5}{n b a c:Nat}{BF:List Cs}(A:Ic h n cs ws)(ok:MM c BF)(Au:h[b]?=some (F0 BF))(AB:a<16)(d:AY):Ud [.ref n,.ref b,AR d,.int (a:Int)] h=.ok (De (NX ws BF d a),h):=by
 obtain⟨f,A9,AE⟩:=A.ex;have x0:AI (AR d) (.int 0) h=.ok (.int (d.1:Int),h):=Gq h _ _;have D6:AI (AR d) (.int 1) h=.ok (.int (d.2:Int),h):=Jc h _ _ _;have By:=ac9 ok (i:=d.2) AB Au;have s1:AZ (Ap 3 Ug (Z (J 1) (Z (A0 AI (J 2) (pu (.int 1))) (Z (J 3) A2)))) (AC 4) [some (.ref n),some (.ref b),some (AR d),some (.int (a:Int)),none,none,none] h=.ok (.AP [some (.ref n),some (.ref b),some (AR d),some (.int (a:Int)),some (Co (Rg BF d.2 a)),none,none],h):=by simp only[EY,IX,DF,DG,Dw,v_var,E4,DJ,Dq,DH,AH,D6,D7,EQ,G9,if_true,By];rfl
 have CK:Ud [.ref n,.ref b,AR d,.int (a:Int)] h=((XU [some (.ref n),some (.ref b),some (AR d),some (.int (a:Int)),none,none,none] h).bind outF).bind λp=>settle h p.1 p.2:=rfl;rw[CK];unfold XU;rw[BD,s1,AH,BN]
 have tail:∀(t:Option Nat)(s4:Option W),((AO (Bp (A_ (A0 (EA true) (J 5) (pu (.non)))) (B5 (Bn (Z (pu (.str (As "drop"))) (Z (A0 AI (J 2) (pu (.int 0))) A2)))) Br)
  (AO (AZ (ED "Net" "beyond" 1 R2 (J 0) (Z (Bn (Z (A0 AI (J 2) (pu (.int 0))) (Z (J 5) A2))) A2)) (AC 6))
  (AO (Bp (A_ (A0 (EA true) (J 6) (pu (.non)))) (B5 (Bn (Z (pu (.str (As "out"))) (Z (A0 AI (J 2) (pu (.int 0))) (Z (J 5) A2))))) Br)
  (B5 (Bn (Z (pu (.str (As "at"))) (Z (A0 AI (J 6) (pu (.int 0))) (Z (A0 AI (J 6) (pu (.int 1))) A2)))))))) [some (.ref n),some (.ref b),some (AR d),some (.int (a:Int)),s4,some (Co t),none] h)=.ok (.Do (De (Kc ws d.1 t)),h):=by
  intro t s4;cases t with
  |none=>simp[Co,EA,Mi,x0,B4,Kc,De]
  |some o=>
   have nb:=yA A (d.1,o);have Fj:ED "Net" "beyond" 1 R2 (J 0) (Z (Bn (Z (A0 AI (J 2) (pu (.int 0))) (Z (J 5) A2))) A2) [some (.ref n),some (.ref b),some (AR d),some (.int (a:Int)),s4,some (Co (some o)),none] h=.ok (Hk (EE ws (d.1,o)),h):=ML (us:=[AR (d.1,o)]) rfl A9 rfl (by rw[show AR (d.1,o)=.tup [.int (d.1:Int),.int (o:Int)]from rfl];simp[x0,B4,Co]) rfl nb;have C5:AZ (ED "Net" "beyond" 1 R2 (J 0) (Z (Bn (Z (A0 AI (J 2) (pu (.int 0))) (Z (J 5) A2))) A2)) (AC 6) [some (.ref n),some (.ref b),some (AR d),some (.int (a:Int)),s4,some (Co (some o)),none] h=.ok (.AP [some (.ref n),some (.ref b),some (AR d),some (.int (a:Int)),s4,some (Co (some o)),some (Hk (EE ws (d.1,o)))],h):=by rw[EY,Fj];rfl
   have Lb:A_ (A0 (EA true) (J 5) (pu (.non))) [some (.ref n),some (.ref b),some (AR d),some (.int (a:Int)),s4,some (Co (some o)),none] h=.ok (false,h):=rfl;rw[BD,F4,Lb,AH,if_neg (by simp),IJ,AH,BN,BD,C5,AH,BN];cases Au:EE ws (d.1,o)with
   |none=>simp[Hk,EA,Mi,x0,B4,Kc,Au,De,Co]
   |some e=>have adp:AI (AR e) (.int 0) h=.ok (.int (e.1:Int),h):=Gq h _ _;have Lv:AI (AR e) (.int 1) h=.ok (.int (e.2:Int),h):=Jc h _ _ _;have Jr:A_ (A0 (EA true) (J 6) (pu (.non))) [some (.ref n),some (.ref b),some (AR d),some (.int (a:Int)),s4,some (Co (some o)),some (Hk (some e))] h=.ok (false,h):=rfl;rw[BD,F4,Jr,AH,if_neg (by simp),IJ,AH,BN];simp[Hk,adp,Lv,B4,Kc,Au,De]
 unfold NX;cases Bo:Rg BF d.2 a with
 |none=>have s2:AZ (Mo (A_ (A0 (EA true) (J 4) (pu (.non)))) (pu (.non)) (A0 AI (A0 AI (J 1) (J 4)) (pu (.int 2)))) (AC 5) [some (.ref n),some (.ref b),some (AR d),some (.int (a:Int)),some (Co none),none,none] h=.ok (.AP [some (.ref n),some (.ref b),some (AR d),some (.int (a:Int)),some (Co none),some (Co none),none],h):=rfl;rw[BD,s2,AH,BN,tail none];simp[Kc]
 |some k=>
  have AK:=(sL Bo).1;have HO:AI (.ref b) (.int (k:Int)) h=.ok (E6 (BF.getD k Hx),h):=GM Au (by rw[Em,CF AK,Ex,CF AK];rfl);have F5:AI (E6 (BF.getD k Hx)) (.int 2) h=.ok (Co (BF.getD k Hx).b,h):=YL h _ _ _ _;have Pi:A_ (A0 (EA true) (J 4) (pu (.non))) [some (.ref n),some (.ref b),some (AR d),some (.int (a:Int)),some (Co (some k)),none,none] h=.ok (false,h):=rfl;have s2:AZ (Mo (A_ (A0 (EA true) (J 4) (pu (.non)))) (pu (.non)) (A0 AI (A0 AI (J 1) (J 4)) (pu (.int 2)))) (AC 5) [some (.ref n),some (.ref b),some (AR d),some (.int (a:Int)),some (Co (some k)),none,none] h=.ok (.AP [some (.ref n),some (.ref b),some (AR d),some (.int (a:Int)),some (Co (some k)),some (Co (BF.getD k Hx).b),none],h):=by rw[EY,ab_,Pi,AH,if_neg (by simp)];simp only[Dw,v_var,E4,DJ,Dq,DH,AH,Co,HO,F5];rfl
  rw[BD,s2,AH,BN,tail];simp
noncomputable def Zi:An:=Bp (HI (A_ (Ap 2 SL (Z (J 4) (Z (J 3) A2)))) (EV (A_ (A0 (EA true) (J 5) (pu (.non)))) (A_ (A0 (BH true) (J 5) (A0 AI (J 2) (pu (.int 1))))))) (AO (Bp (A_ (A0 (EA true) (J 6) (pu (.non)))) (B5 (Bn (Z (pu (.str (As "drop"))) (Z (A0 AI (J 2) (pu (.int 0))) A2)))) Br)
    (AO (AZ (Ap 2 Ou (Z (J 0) (Z (Bn (Z (A0 AI (J 2) (pu (.int 0))) (Z (J 6) A2))) A2))) (AC 7))
    (AO (Bp (A_ (A0 (EA true) (J 7) (pu (.non)))) (B5 (Bn (Z (pu (.str (As "out"))) (Z (A0 AI (J 2) (pu (.int 0))) (Z (J 6) A2))))) Br)
    (B5 (A0 addW (Bn (Z (pu (.str (As "at"))) A2)) (J 7)))))) Br
def xe{ws:List (AY×AY)}(few:ws.length<100){h:A5}{n b a c:Nat}{BF:List Cs}(Az:h[n]?=some ⟨.lst,ws.map Bs⟩)(ok:MM c BF)(Au:h[b]?=some (F0 BF))(d:AY):O3 [.ref n,.ref b,AR d,.int (a:Int)] h=.ok (De (NX ws BF d a),h):=by
 have xL:=ok.1;have x0:AI (AR d) (.int 0) h=.ok (.int (d.1:Int),h):=Gq h _ _;have D6:AI (AR d) (.int 1) h=.ok (.int (d.2:Int),h):=Jc h _ _ _;obtain⟨Dx,⟨s,t,u,v,rfl⟩,e⟩:=ea (mi:=Dc (J 1)) (it:=G4 (.ref b)) (g:=FP [(AC 4),(AC 5),(AC 6)]) (b:=Zi) (ρ:=[some (.ref n),some (.ref b),some (AR d),some (.int (a:Int)),none,none,none,none]) (h:=h) (h0:=h) BF.length (by lia) (λj=>E6 (BF.getD j Hx)) (λρ=>∃s t u v,ρ=[some (.ref n),some (.ref b),some (AR d),some (.int (a:Int)),s,t,u,v]) (λj=>if Lp d.2 a (BF.getD j Hx)=true then some (De (Kc ws d.1 (BF.getD j Hx).b))else none) (Mj Au (by simp)) (λj Af=>wt Au j) ⟨none,none,none,none,rfl⟩ (by
  rintro j Af _ ⟨s,t,u,v,rfl⟩;obtain⟨r,BJ⟩:∃r,r=BF.getD j Hx:=⟨_,rfl⟩;have bO:=ok.2 r (BJ▸getD_mem Af);rw[<-BJ];refine⟨[some (.ref n),some (.ref b),some (AR d),some (.int (a:Int)),some (.str r.p),some (Co r.a),some (Co r.b),v],[some (.ref n),some (.ref b),some (AR d),some (.int (a:Int)),some (.str r.p),some (Co r.a),some (Co r.b),v],by simp[E6],⟨_,_,_,_,rfl⟩,?_⟩;have Tp:=wi bO.p a h;have I3:HI (A_ (Ap 2 SL (Z (J 4) (Z (J 3) A2)))) (EV (A_ (A0 (EA true) (J 5) (pu (.non)))) (A_ (A0 (BH true) (J 5) (A0 AI (J 2) (pu (.int 1)))))) [some (.ref n),some (.ref b),some (AR d),some (.int (a:Int)),some (.str r.p),some (Co r.a),some (Co r.b),v] h=.ok (Lp d.2 a r,h):=by
   simp only[v_and,v_or,OS,Dw,IX,DF,DG,v_var,E4,DJ,Dq,DH,AH,D6,iU,OI,Tp,D7,EQ,G9,if_true];unfold Lp;cases h1:r.a.isNone
   .simp only[Gj,if_false,gB h _ d.2 h1,AH,OI,cQ];cases h2:r.a==some d.2<;>cases B2:M9 r.p a<;>simp
   .cases B2:M9 r.p a<;>simp
  unfold Zi;rw[F4,I3,AH];cases Ao:Lp d.2 a r
  .simp[Ii]
  .rw[if_pos rfl,if_pos rfl];cases FH:r.b with
   |none=>simp[Co,EA,Mi,x0,B4,Kc,De,Ii]
   |some o=>
    have nb:=fL few Az (d.1,o);have Cj:AZ (Ap 2 Ou (Z (J 0) (Z (Bn (Z (A0 AI (J 2) (pu (.int 0))) (Z (J 6) A2))) A2))) (AC 7) [some (.ref n),some (.ref b),some (AR d),some (.int (a:Int)),some (.str r.p),some (Co r.a),some (Co (some o)),v] h=.ok (.AP [some (.ref n),some (.ref b),some (AR d),some (.int (a:Int)),some (.str r.p),some (Co r.a),some (Co (some o)),some (Hk (EE ws (d.1,o)))],h):=by simp only[AR]at nb;simp[x0,B4,Co,nb]
    have Jr:A_ (A0 (EA true) (J 6) (pu (.non))) [some (.ref n),some (.ref b),some (AR d),some (.int (a:Int)),some (.str r.p),some (Co r.a),some (Co (some o)),v] h=.ok (false,h):=rfl;rw[BD,F4,Jr,AH,if_neg (by simp),IJ,AH,BN,BD,Cj,AH,BN];cases Au:EE ws (d.1,o)with
    |none=>simp[Hk,EA,Mi,x0,B4,Kc,Au,De,Co,Ii]
    |some e=>have Sc:A_ (A0 (EA true) (J 7) (pu (.non))) [some (.ref n),some (.ref b),some (AR d),some (.int (a:Int)),some (.str r.p),some (Co r.a),some (Co (some o)),some (Hk (some e))] h=.ok (false,h):=rfl;rw[BD,F4,Sc,AH,if_neg (by simp),IJ,AH,BN];have ad:addW (.tup [.str (As "at")]) (AR e) h=.ok (De (.at e),h):=rfl;simp[Hk,B4,Kc,Au,Ii,ad])
 rw[dy (λj=>Lp d.2 a (BF.getD j Hx)) (λj:Nat=>De (Kc ws d.1 (BF.getD j Hx).b))]at e;have CK:O3 [.ref n,.ref b,AR d,.int (a:Int)] h=((AO (Ed (Dc (J 1)) (FP [(AC 4),(AC 5),(AC 6)]) Zi) (B5 (Bn (Z (pu (.str (As "drop"))) (Z (A0 AI (J 2) (pu (.int 0))) A2)))) [some (.ref n),some (.ref b),some (AR d),some (.int (a:Int)),none,none,none,none] h).bind outF).bind λp=>settle h p.1 p.2:=rfl;rw[CK,BD,e];unfold NX Rg;cases(Cd BF.length).find? λj=>Lp d.2 a (BF.getD j Hx)with
 |none=>simp[Ii,x0,B4,De]
 |some k=>simp[Ii]
end Fo
namespace CG
open PySem PySem.Spec B8
section
variable{B_:Type}[DecidableEq B_]
theorem VW{k:B_}{bs:List B_}{w:W}{vs:List W}:∀{as:List B_}{us:List W},k∉as->as.length=us.length->Dk (as++k::bs) (us++w::vs) k=some w
 |[],[],_,_=>by simp[Dk]
 |a::as,u::us,n,l=>by have CP:a≠k:=λz=>n (z▸Fy ..);simp only[Ho,Dk,if_neg CP];exact VW (λz=>n (FD _ z)) (by simpa using l)
theorem kJ{k:B_}{x:W}:∀{as:List B_}{us:List W},k∉as->as.length=us.length->Lq as us k x=us
 |[],[],_,_=>rfl
 |a::as,u::us,n,l=>by have CP:a≠k:=λz=>n (z▸Fy ..);simp only[Lq,if_neg CP];rw[kJ (λz=>n (FD _ z)) (by simpa using l)]
theorem kI{k:B_}{bs:List B_}{w x:W}{vs:List W}(nb:k∉bs)(Il:bs.length=vs.length):∀{as:List B_}{us:List W},k∉as->as.length=us.length->Lq (as++k::bs) (us++w::vs) k x=us++x::vs
 |[],[],_,_=>by simp[Lq,kJ nb Il]
 |a::as,u::us,n,l=>by have CP:a≠k:=λz=>n (z▸Fy ..);simp only[Ho,Lq,if_neg CP];rw[kI nb Il (λz=>n (FD _ z)) (by simpa using l)]
theorem fv{k:B_}:∀{as:List B_}{us:List W},k∉as->as.length=us.length->NC as us k=us
 |[],[],_,_=>rfl
 |a::as,u::us,n,l=>by have CP:a≠k:=λz=>n (z▸Fy ..);simp only[NC,if_neg CP];rw[fv (λz=>n (FD _ z)) (by simpa using l)]
theorem fu{k:B_}{bs:List B_}{w:W}{vs:List W}(nb:k∉bs)(Il:bs.length=vs.length):∀{as:List B_}{us:List W},k∉as->as.length=us.length->NC (as++k::bs) (us++w::vs) k=us++vs
 |[],[],_,_=>by simp[NC,fv nb Il]
 |a::as,u::us,n,l=>by have CP:a≠k:=λz=>n (z▸Fy ..);simp only[Ho,NC,if_neg CP];rw[fu nb Il (λz=>n (FD _ z)) (by simpa using l)]
def sQ{k:B_}{as bs:List B_}(na:k∉as)(nb:k∉bs):(as++k::bs).filter (λx=>decide (x≠k))=as++bs:=by
 rw[List.filter_append,Ps,if_neg (by simp),List.filter_eq_self.mpr,List.filter_eq_self.mpr]
 .exact λa h=>by simpa using λz:a=k=>nb (z▸h)
 .exact λa h=>by simpa using λz:a=k=>na (z▸h)
end
def va{h:A5}{n:Nat}{us:List W}{w:W}(e:h[n]?=some ⟨.lst,us++[w]⟩):AI (.ref n) (.int (-1)) h=.ok (w,h):=by
 have Ep:Gx h (.ref n) (.int (-1))=none:=by simp only[Gx,e]
 have A9:Ie (us++[w]) (-1)=some w:=by
  unfold Ie LL;rw[if_neg (by lia),if_pos (by simp;lia)];have:(-1+((us++[w]).length:Int)).toNat=us.length:=by simp;lia
  simp only[bz,this];simp
 unfold AI;rw[Ep];unfold PK;simp only[I2 h e,A9]
def fl{h:A5}{n:Nat}{ks:List Key}{vs:List W}(e:h[n]?=some ⟨.B3 ks,vs⟩)(i:Int):Gx h (.ref n) (.int i)=some (Dk ks vs (.inl i)):=by simp only[Gx,e,keyOf,T3]
def fq{h:A5}{n:Nat}{ks:List Key}{vs:List W}{i:Int}{v:W}{ρ:BI}(e:h[n]?=some ⟨.B3 ks,vs⟩)(ZT: .inl i∉ks)(l:vs.length<B4):ON (.ref n) (.int i) v ρ h=.ok (.AP ρ,h.set n ⟨.B3 (ks++[.inl i]),vs++[v]⟩):=by unfold ON;simp only[e,keyOf,if_pos l,Mu,if_neg ZT]
def rz{h:A5}{n:Nat}{as bs:List Key}{us vs:List W}{i:Int}{w v:W}{ρ:BI}(e:h[n]?=some ⟨.B3 (as++.inl i::bs),us++w::vs⟩)(na: .inl i∉as)(nb: .inl i∉bs)(Hh:as.length=us.length)(Il:bs.length=vs.length)(l:(us++w::vs).length<B4):ON (.ref n) (.int i) v ρ h=.ok (.AP ρ,h.set n ⟨.B3 (as++.inl i::bs),us++v::vs⟩):=by unfold ON;simp only[e,keyOf,if_pos l,Mu];rw[if_pos (by simp),kI nb Il na Hh]
def fp{h:A5}{n:Nat}{as bs:List Key}{us vs:List W}{i:Int}{w:W}{ρ:BI}(e:h[n]?=some ⟨.B3 (as++.inl i::bs),us++w::vs⟩)(na: .inl i∉as)(nb: .inl i∉bs)(Hh:as.length=us.length)(Il:bs.length=vs.length):Tf (.ref n) (.int i) ρ h=.ok (w,h.set n ⟨.B3 (as++bs),us++vs⟩):=by unfold Tf;simp only[e,keyOf];rw[VW na Hh,sQ na nb,fu nb Il na Hh]
def nR(d k:B9)(ρ:BI)(h:A5):R1 d k ρ h=(d ρ h).bind λp=>PJ p.1 (bd k λkw=>Tf p.1 kw) ρ p.2:=rfl
end CG
namespace Fo
open PySem PySem.Spec B8 CG
def Pd:Dg->D4
 |none=>.Dj true [.str (As "wait")]
 |some p=>.Dj true [.str (I5 p.1),.int (p.2:Int)]
def ab8(k:Nat)(h:A5)(s:Dg):Dn (k+2) h (CV s)=some (Pd s):=by cases s<;>simp[CV,Dn,Pd]
def gC{s:Dg}{k hh:Nat}(AK:k<3)(hs:∀p,s=some p->p.1<3):eqT (Pd s) (.Dj true [.str (I5 k),.int (hh:Int)])=decide (s=some (k,hh)):=by
 cases s with
 |none=>simp[Pd,eqT,HS]
 |some p=>
  have B2:=hs p rfl;simp only[Pd,eqT,HS,List.isEmpty_nil,Bool.and_true,beq_self_eq_true,cE];by_cases e:p=(k,hh)
  .subst e;simp
  .rw[decide_eq_false (by simpa using e)];by_cases A9:p.1=k
   .have AE:p.2≠hh:=λz=>e (Prod.ext A9 z);have:((p.2:Int)==(hh:Int))=false:=by simp;lia
    rw[this,TG]
   .have:(I5 p.1==I5 k)=false:=by
      rw[beq_eq_false_iff_ne];exact λz=>A9 (n5 B2 AK z)
    rw[this,Bool.false_and]
def aF{h:A5}{n k hh:Nat}{GT:List Dg}(b:Bool)(e:h[n]?=some ⟨.lst,GT.map CV⟩)(AK:k<3)(hd:∀p,some p∈GT->p.1<3):E0 b (.tup [.str (I5 k),.int (hh:Int)]) (.ref n) h=.ok (.AM (if b then decide (some (k,hh)∈GT)else !decide (some (k,hh)∈GT)),h):=by
 have Xc:Gx h (.ref n) (.tup [.str (I5 k),.int (hh:Int)])=none:=by simp only[Gx,e]
 have r:Dn 8 h (.ref n)=some (.Dj false (GT.map Pd)):=by simp only[Dn,I2 h e];rw[mapM_some (Dn 7 h) CV Pd (λs=>ab8 5 h s) GT];rfl
 rw[Ux (d:=.Dj true [.str (I5 k),.int (hh:Int)]) Xc (by simp[Dn]) r];have:(GT.map Pd).any (λy=>eqT y (.Dj true [.str (I5 k),.int (hh:Int)]))=decide (some (k,hh)∈GT):=by
  rw[List.any_map];rw[bu,List.any_eq_true,decide_eq_true_eq];constructor
  .rintro⟨s,hs,q⟩;simp only[cF]at q;rw[gC AK (λp e=>hd p (e▸hs)),decide_eq_true_eq]at q;exact q▸hs
  .intro hs;refine⟨_,hs,?_⟩;simp only[cF];rw[gC AK (λp e=>hd p (e▸hs))];simp
 rw[this]
structure Lt where
 n:Nat
 m:Nat
 a:Nat
 pre:List AY
 d:AY
 B7:Nat
 Ea:Nat
def Zn(l:Lt):O:=⟨.ins "Letter" ["mark","address","doors"],[.int (l.m:Int),.int (l.a:Int),.ref l.Ea]⟩
def Tg(l:Lt):O:=⟨.lst,(l.pre++[l.d]).map AR⟩
structure GP where
 cs:List Nat
 ws:List (AY×AY)
 A:List (List Cs)
 B:List (List Cs)
 ps:List Dg
 r:Nat
 M:Nat
 T:Nat
 LR:Nat
 N6:Nat
 D_:Nat
 pl:Nat
 K:A5
def JC:O:=⟨.JA [],[]⟩
structure HZ(C:GP):Prop where
 N:KC C.cs C.ws
 Ji:Hr C.cs C.A
 Jj:Hr C.cs C.B
 P:Ru C.cs.length C.ps
 UE:Ic C.K C.LR C.cs C.ws
 N7:ES C.K C.N6 C.A
 QZ:ES C.K C.D_ C.B
 pp:C.K[C.pl]?=some ⟨.lst,C.ps.map CV⟩
 iD:C.K[C.r]?=some JC
 Es:C.K.length<=C.M
 DN:C.M+3<=C.T
structure OB(C:GP)(h:A5)(l:Lt):Prop where
 G2:h[l.B7]?=some (Zn l)
 CK:h[l.Ea]?=some (Tg l)
 m:l.m<2
 a:l.a<16
 d:l.d∈Cg C.cs C.cs.length
 t1:C.T<=l.B7
 Ct:C.T<=l.Ea
structure IM where
 done:List Dg
 BV:Nat
 lets:List Lt
 ended:List (Lt×Tl)
 Ci:Nat
def Fz(S:IM):List Lt:=S.lets++S.ended.map (·.1)
def Qe(e:Lt×Tl):W:=.tup [.int (e.1.n:Int),.ref e.1.B7,De e.2]
def EB(l:Lt):Key:=.inl (l.n:Int)
structure GG(C:GP)(h:A5)(S:IM):Prop where
 Bd:∀(n:Nat) o,C.K[n]?=some o->o≠JC->h[n]?=some o
 BJ:h[C.r]?=some (PT C.LR C.N6 C.D_ C.pl C.M S.BV)
 CK:h[C.M]?=some ⟨.lst,S.done.map CV⟩
 el:h[C.M+1]?=some ⟨.B3 (S.lets.map EB),S.lets.map λl=>.ref l.B7⟩
 LB:h[C.M+2]?=some ⟨.lst,S.ended.map Qe⟩
 lt:∀l∈Fz S,OB C h l
 C3:((Fz S).map (·.Ea)).Nodup
 nn:(S.lets.map (·.n)).Nodup
 O5:∀l∈S.lets,l.n<S.BV
 P8:∀p,some p∈S.done->p.1<3
 few:S.BV<1000
 le:S.ended.length+S.lets.length<=S.BV
 AF:C.T<=h.length
 pr:∀l∈Fz S,l.pre.length<=S.Ci
section
variable{C:GP}{h h':A5}{S:IM}
def OB.to{l:Lt}(x:OB C h l)(A9:h'[l.B7]?=h[l.B7]?)(AE:h'[l.Ea]?=h[l.Ea]?):OB C h' l:=⟨A9.trans x.G2,AE.trans x.CK,x.m,x.a,x.d,x.t1,x.Ct⟩
def HZ.P2(c:HZ C):C.r<C.M:=Fn (KH c.iD) c.Es
theorem GG.set(c:HZ C)(R:GG C h S){p:Nat}(o:O)(h1:C.M+3<=p)(h2:p<C.T):GG C (h.set p o) S:=by
 have q:=c.Es;have P2:=c.P2;have e:∀n,n≠p->(h.set p o)[n]?=h[n]?:=λn AW=>FJ (λz=>AW z.symm) o;refine⟨λn o' k ne=>?_,?_,?_,?_,?_,λl AF=>?_,R.C3,R.nn,R.O5,R.P8,R.few,R.le,by simpa using R.AF,R.pr⟩
 .rw[e n (by have:=KH k;lia)];exact R.Bd n o' k ne
 .rw[e _ (by lia)];exact R.BJ
 .rw[e _ (by lia)];exact R.CK
 .rw[e _ (by lia)];exact R.el
 .rw[e _ (by lia)];exact R.LB
 .have x:=R.lt l AF;have:=x.t1;have:=x.Ct;exact x.to (e _ (by lia)) (e _ (by lia))
def GG.app(R:GG C h S)(g:A5):GG C (h++g) S:=by refine⟨λn o' k ne=>Cp h (R.Bd n o' k ne) g,Cp h R.BJ g,Cp h R.CK g,Cp h R.el g,Cp h R.LB g,λl AF=>?_,R.C3,R.nn,R.O5,R.P8,R.few,R.le,by have:=R.AF;simp;lia,R.pr⟩;have x:=R.lt l AF;exact⟨Cp h x.G2 g,Cp h x.CK g,x.m,x.a,x.d,x.t1,x.Ct⟩
theorem GG.UE(c:HZ C)(R:GG C h S):Ic h C.LR C.cs C.ws:=by obtain⟨f,A9,AE⟩:=c.UE.ex;exact⟨f,R.Bd _ _ A9 (λz=>by cases z),R.Bd _ _ AE (λz=>by cases z)⟩
def eE{K:A5}(Bd:∀(n:Nat) o,K[n]?=some o->o≠JC->h[n]?=some o){b:Nat}{B:List (List Cs)}(x:ES K b B):ES h b B:=by obtain⟨rs,e,l,r⟩:=x.ex;exact⟨rs,Bd _ _ e (λz=>by cases z),l,λi q AU=>Bd _ _ (r i q AU) (λz=>by cases z)⟩
end
section
variable{C:GP}{h:A5}{S:IM}
def QM(GT:List Dg)(hh m:Nat):Bool:=if m=1 then decide (some (0,hh)∈GT)else !decide (some (2,hh)∈GT)
def xI(c:HZ C)(R:GG C h S){hh m:Nat}(hm:m<2):Sz [.ref C.r,.int (hh:Int),.int (m:Int)] h=.ok (.AM (QM S.done hh m),h):=by
 have fd:Bq "Run" "done" (.ref C.r) h=.ok (.ref C.M,h):=GJ R.BJ rfl;have FA:=aF (hh:=hh) (k:=0) true R.CK (by lia) R.P8;have BW:=aF (hh:=hh) (k:=2) false R.CK (by lia) R.P8;rw[show I5 0=As "teach" from rfl]at FA;rw[show I5 2=As "forget" from rfl]at BW;have:m=0\/m=1:=by lia
 rcases this with rfl|rfl
 .simp[Sz,XJ,fd,BW,B4,QM]
 .simp[Sz,XJ,fd,FA,B4,QM]
def XV(C:GP)(m hh:Nat):List Cs:=(if m=1 then C.B else C.A).getD hh []
def O7(C:GP)(GT:List Dg)(l:Lt):Tl:=if QM GT l.d.1 l.m=true then NX C.ws (XV C l.m l.d.1) l.d l.a else .iO l.d.1
def xd(c:HZ C)(R:GG C h S){l:Lt}(x:OB C h l):SE [.ref C.r,.ref l.B7] h=.ok (De (O7 C S.done l),h):=by
 have ff:Bq "Run" "books" (.ref C.r) h=.ok (.tup [.ref C.N6,.ref C.D_],h):=GJ R.BJ rfl;have fn:Bq "Run" "net" (.ref C.r) h=.ok (.ref C.LR,h):=GJ R.BJ rfl;have e5:Bq "Letter" "mark" (.ref l.B7) h=.ok (.int (l.m:Int),h):=GJ x.G2 rfl;have ga:Bq "Letter" "address" (.ref l.B7) h=.ok (.int (l.a:Int),h):=GJ x.G2 rfl;have e2:Bq "Letter" "doors" (.ref l.B7) h=.ok (.ref l.Ea,h):=GJ x.G2 rfl;have Ah:AI (.ref l.Ea) (.int (-1)) h=.ok (AR l.d,h):=va (us:=l.pre.map AR) (by rw[x.CK];simp[Tg]);have x0:AI (AR l.d) (.int 0) h=.ok (.int (l.d.1:Int),h):=Gq h _ _;have hd:=(Uh.mp x.d).1;have k:=xI c R (hh:=l.d.1) x.m;have s1:AZ (A0 AI (Bf (Bq "Letter" "doors") (J 1)) (Bf YA (pu (.int 1)))) (AC 2) [some (.ref C.r),some (.ref l.B7),none] h=.ok (.AP [some (.ref C.r),some (.ref l.B7),some (AR l.d)],h):=by have xf:YA (.int 1) h=.ok (.int (-1),h):=rfl;simp only[EY,Dw,OT,v_var,E4,DJ,Dq,DH,AH,e2,xf,Ah];rfl
 have Fj:ED "Run" "knows" 2 Sz (J 0) (Z (A0 AI (J 2) (pu (.int 0))) (Z (Bf (Bq "Letter" "mark") (J 1)) A2)) [some (.ref C.r),some (.ref l.B7),some (AR l.d)] h=.ok (.AM (QM S.done l.d.1 l.m),h):=ML (us:=[.int (l.d.1:Int),.int (l.m:Int)]) rfl R.BJ rfl (by simp[x0,e5]) rfl k;have CK:SE [.ref C.r,.ref l.B7] h=((XM [some (.ref C.r),some (.ref l.B7),none] h).bind outF).bind λp=>settle h p.1 p.2:=rfl;rw[CK];unfold XM;rw[BD,s1,AH,BN,BD,F4,v_not,OS,Fj,AH,OI,AH,AH];unfold O7;cases AK:QM S.done l.d.1 l.m
 .simp[x0,B4,De]
 .have on:∀(b:Nat)(B:List (List Cs)),Hr C.cs B->ES h b B->∃q,AI (.ref b) (.int (l.d.1:Int)) h=.ok (.ref q,h)/\Ud [.ref C.LR,.ref q,AR l.d,.int (l.a:Int)] h=.ok (De (NX C.ws (B.getD l.d.1 []) l.d l.a),h):=λb B ok at'=>by
    obtain⟨rs,e,PP,r⟩:=at'.ex;have Ao:l.d.1<rs.length:=by rw[PP,ok.1];exact hd
    exact⟨rs[l.d.1],GM e (by rw[Em,CF Ao];rfl),zC (R.UE c) (ok.2 _ hd) (r _ _ (CF Ao)) x.a l.d⟩
  have:l.m=0\/l.m=1:=by have:=x.m;lia
  rcases this with e|e
  .obtain⟨q,A9,AE⟩:=on C.N6 C.A c.Ji (eE R.Bd c.N7);simp[fn,ff,e5,Gq,Jc,x0,A9,ga,AE,XV,e,-Ex]
  .obtain⟨q,A9,AE⟩:=on C.D_ C.B c.Jj (eE R.Bd c.QZ);simp[fn,ff,e5,Gq,Jc,x0,A9,ga,AE,XV,e,-Ex]
def yd{cs:List Nat}{ws:List (AY×AY)}{n:Nat}(A:Ic h n cs ws){d:AY}(hd:d∈Cg cs cs.length)(A1:EE ws d=none):Sw [.ref n,AR d] h=.ok (.AM true,h):=by
 obtain⟨f,A9,AE⟩:=A.ex;have f1:Bq "Net" "far" (.ref n) h=.ok (.ref f,h):=GJ A9 rfl;have f2:Bq "Net" "counts" (.ref n) h=.ok (.tup (BX cs),h):=GJ A9 rfl;have sB:UV [.ref n,AR d] h=.ok (.AM true,h):=by simp[UV,cx,f2,eP hd]
 have Fj:ED "Net" "is_door" 1 UV (J 0) (Z (J 1) A2) [some (.ref n),some (AR d)] h=.ok (.AM true,h):=ML (us:=[AR d]) rfl A9 rfl rfl rfl sB;have B1:E0 false (AR d) (.ref f) h=.ok (.AM true,h):=by unfold E0;rw[eM AE,A1];rfl
 simp[Sw,cy,Fj,f1,B1]
def G5(GT:List Dg)(hh:Nat):Nat:=if some (1,hh)∈GT then 1 else 0
def SR(S:IM)(L:Nat)(d:AY)(a:Nat):Lt:=⟨S.BV,G5 S.done d.1,a,[],d,L,L+1⟩
def ij(R:GG C h S):(.inl (S.BV:Int):Key)∉S.lets.map EB:=λz=>by obtain⟨l,AF,e⟩:=List.mem_map.mp z;have:=R.O5 l AF;simp only[EB,W9]at e;lia
def qF(c:HZ C)(R:GG C h S)(AD:S.BV<900){d:AY}(hd:d∈Cg C.cs C.cs.length)(A1:EE C.ws d=none){a:Nat}(AB:a<16) :
  ∃h',Sx [.ref C.r,AR d,.int (a:Int)] h=.ok (.int (S.BV:Int),h')/\GG C h' { S with BV:=S.BV+1,lets:=S.lets++[SR S h.length d a] }/\
   h.length<=h'.length/\∀n,n<h.length->n≠C.r->n≠C.M+1->h'[n]?=h[n]?:=by
 have q:=c.Es;have P2:=c.P2;have DN:=c.DN;have AF:=R.AF;have fn:Bq "Run" "net" (.ref C.r) h=.ok (.ref C.LR,h):=GJ R.BJ rfl;have su:Bq "Run" "came" (.ref C.r) h=.ok (.int (S.BV:Int),h):=GJ R.BJ rfl;have fd:Bq "Run" "done" (.ref C.r) h=.ok (.ref C.M,h):=GJ R.BJ rfl;obtain⟨f,Az,_⟩:=(R.UE c).ex;have x0:AI (AR d) (.int 0) h=.ok (.int (d.1:Int),h):=Gq h _ _;have mo:ED "Net" "is_outer" 1 Sw (Bf (Bq "Run" "net") (J 0)) (Z (J 1) A2) [some (.ref C.r),some (AR d),some (.int (a:Int)),none,none] h=.ok (.AM true,h):=ML (us:=[AR d]) (by simp[fn]) Az rfl rfl rfl (yd (R.UE c) hd A1);have t1:EV (DT (A_ (ED "Net" "is_outer" 1 Sw (Bf (Bq "Run" "net") (J 0)) (Z (J 1) A2)))) (DT (A_ (Ap 1 SF (Z (J 2) A2)))) [some (.ref C.r),some (AR d),some (.int (a:Int)),none,none] h=.ok (false,h):=by rw[v_or,v_not,OS,mo];simp[eu AB]
 have s2:AZ (Bf (Bq "Run" "came") (J 0)) (AC 3) [some (.ref C.r),some (AR d),some (.int (a:Int)),none,none] h=.ok (.AP [some (.ref C.r),some (AR d),some (.int (a:Int)),some (.int (S.BV:Int)),none],h):=by simp only[EY,OT,v_var,DJ,DH,AH,su];rfl
 have B1:=aF (hh:=d.1) (k:=1) true R.CK (by lia) R.P8;rw[show I5 1=As "turn" from rfl]at B1;have s3:AZ (Mo (A_ (A0 (E0 true) (Bn (Z (pu (.str (As "turn"))) (Z (A0 AI (J 1) (pu (.int 0))) A2))) (Bf (Bq "Run" "done") (J 0)))) (pu (.int 1)) (pu (.int 0))) (AC 4) [some (.ref C.r),some (AR d),some (.int (a:Int)),some (.int (S.BV:Int)),none] h=.ok (.AP [some (.ref C.r),some (AR d),some (.int (a:Int)),some (.int (S.BV:Int)),some (.int (G5 S.done d.1:Nat))],h):=by
  unfold G5;by_cases BQ:some (1,d.1)∈S.done
  .simp[x0,fd,B1,B4,BQ]
  .simp[x0,fd,B1,B4,BQ]
 obtain⟨l,el⟩:∃l,l=SR S h.length d a:=⟨_,rfl⟩;have mk:IS "Letter" 3 UU (Z (J 4) (Z (J 1) (Z (J 2) A2))) [some (.ref C.r),some (AR d),some (.int (a:Int)),some (.int (S.BV:Int)),some (.int (G5 S.done d.1:Nat))] h=.ok (.ref h.length,h++[Zn l,Tg l]):=by
  refine Y2 (us:=[.int (G5 S.done d.1:Nat),AR d,.int (a:Int)]) (h1:=h) (by simp) rfl ?_;have e:UU [.ref h.length,.int (G5 S.done d.1:Nat),AR d,.int (a:Int)] (h++[⟨.ins "Letter" [],[]⟩])=(WP [some (.ref h.length),some (.int (G5 S.done d.1:Nat)),some (AR d),some (.int (a:Int))] (h++[⟨.ins "Letter" [],[]⟩])).bind outF:=rfl;have a1:Ec "Letter" "mark" (J 0) (J 1) [some (.ref h.length),some (.int (G5 S.done d.1:Nat)),some (AR d),some (.int (a:Int))] (h++[⟨.ins "Letter" [],[]⟩])=.ok (.AP [some (.ref h.length),some (.int (G5 S.done d.1:Nat)),some (AR d),some (.int (a:Int))],h++(⟨.ins "Letter" ["mark"],[.int (G5 S.done d.1:Nat)]⟩::([]++[]))):=Ma rfl rfl (by decide) rfl rfl;have a2:Ec "Letter" "address" (J 0) (J 3) [some (.ref h.length),some (.int (G5 S.done d.1:Nat)),some (AR d),some (.int (a:Int))] (h++(⟨.ins "Letter" ["mark"],[.int (G5 S.done d.1:Nat)]⟩::([]++[])))=.ok (.AP [some (.ref h.length),some (.int (G5 S.done d.1:Nat)),some (AR d),some (.int (a:Int))],h++(⟨.ins "Letter" ["mark","address"],[.int (G5 S.done d.1:Nat),.int (a:Int)]⟩::([]++[]++[]))):=Ma rfl rfl (by decide) rfl rfl;have Bi:Ec "Letter" "doors" (J 0) (CO (Z (J 2) A2)) [some (.ref h.length),some (.int (G5 S.done d.1:Nat)),some (AR d),some (.int (a:Int))] (h++(⟨.ins "Letter" ["mark","address"],[.int (G5 S.done d.1:Nat),.int (a:Int)]⟩::([]++[]++[])))=.ok (.AP [some (.ref h.length),some (.int (G5 S.done d.1:Nat)),some (AR d),some (.int (a:Int))],h++(⟨.ins "Letter" ["mark","address","doors"],[.int (G5 S.done d.1:Nat),.int (a:Int),.ref (h.length+1)]⟩::([]++[]++[]++[⟨.lst,[AR d]⟩]))):=by refine Ma rfl ?_ (by decide) rfl rfl;simp[nw,B4]
  rw[e];unfold WP;rw[BD,a1,AH,BN,BD,a2,AH,BN,Bi,AH,jF,el];rfl
 obtain⟨h1,A9⟩:∃h1,h1=h++[Zn l,Tg l]:=⟨_,rfl⟩;rw[<-A9]at mk;have CC:h1.length=h.length+2:=by rw[A9];simp
 have Jy:GG C h1 S:=by rw[A9];exact R.app _
 have g1:Bq "Run" "letters" (.ref C.r) h1=.ok (.ref (C.M+1),h1):=GJ Jy.BJ rfl;have few:=R.few;have le:=R.le;have pt:=fq (v:=.ref h.length) (ρ:=[some (.ref C.r),some (AR d),some (.int (a:Int)),some (.int (S.BV:Int)),some (.int (G5 S.done d.1:Nat))]) Jy.el (ij R) (by rw[DV];unfold B4;lia);obtain⟨h2,AE⟩:∃h2,h2=h1.set (C.M+1) ⟨.B3 (S.lets.map EB++[.inl (S.BV:Int)]),(S.lets.map λl=>.ref l.B7)++[.ref h.length]⟩:=⟨_,rfl⟩;rw[<-AE]at pt;have gD:h2[C.r]?=some (PT C.LR C.N6 C.D_ C.pl C.M S.BV):=by rw[AE,FJ (by lia)];exact Jy.BJ
 have s4:Jg (Bf (Bq "Run" "letters") (J 0)) (J 3) (IS "Letter" 3 UU (Z (J 4) (Z (J 1) (Z (J 2) A2)))) [some (.ref C.r),some (AR d),some (.int (a:Int)),some (.int (S.BV:Int)),some (.int (G5 S.done d.1:Nat))] h=.ok (.AP [some (.ref C.r),some (AR d),some (.int (a:Int)),some (.int (S.BV:Int)),some (.int (G5 S.done d.1:Nat))],h2):=by rw[Yl,mk,AH];simp only[OT,v_var,DJ,Dq,DH,AH,g1,pt]
 obtain⟨B2,Er⟩:∃B2,B2=h2.set C.r (PT C.LR C.N6 C.D_ C.pl C.M (S.BV+1)):=⟨_,rfl⟩;have s5:Ec "Run" "came" (J 0) (A0 addW (J 3) (pu (.int 1))) [some (.ref C.r),some (AR d),some (.int (a:Int)),some (.int (S.BV:Int)),some (.int (G5 S.done d.1:Nat))] h2=.ok (.AP [some (.ref C.r),some (AR d),some (.int (a:Int)),some (.int (S.BV:Int)),some (.int (G5 S.done d.1:Nat))],B2):=by rw[S9];simp only[Dw,v_var,E4,DJ,Dq,DH,AH,RD];rw[Rf (ns':=kG) (ws':=[.ref C.LR,.tup [.ref C.N6,.ref C.D_],.ref C.pl,.ref C.M,.int ((S.BV:Int)+1),.ref (C.M+1),.ref (C.M+2)]) gD (by decide) rfl rfl,Er];rfl
 have C8:h2.length=h.length+2:=by rw[AE];simpa using CC
 have PO:B2.length=h.length+2:=by rw[Er];simpa using C8
 have keep:∀n,n≠C.r->n≠C.M+1->B2[n]?=h1[n]?:=λn CP Cw=>by rw[Er,FJ (λz=>CP z.symm),AE,FJ (λz=>Cw z.symm)]
 refine⟨B2,?_,?_,by lia,λn AW CP Cw=>?_⟩
 .have e:Sx [.ref C.r,AR d,.int (a:Int)] h=(WR [some (.ref C.r),some (AR d),some (.int (a:Int)),none,none] h).bind outF:=rfl;rw[e];unfold WR;rw[BD,F4,t1,AH,if_neg (by simp),IJ,AH,BN,BD,s2,AH,BN,BD,s3,AH,BN,BD,s4,AH,BN,BD,s5,AH,BN];rfl
 .have ln:l.B7=h.length/\l.Ea=h.length+1/\l.n=S.BV:=by rw[el];exact⟨rfl,rfl,rfl⟩
  have Zf:OB C B2 l:=by
   refine⟨?_,?_,?_,?_,?_,by lia,by lia⟩
   .rw[keep _ (by lia) (by lia),ln.1,A9];simp
   .rw[keep _ (by lia) (by lia),ln.2.1,A9];simp
   .rw[el];simp only[SR,G5];split<;>lia
   .rw[el];exact AB
   .rw[el];exact hd
  rw[<-el];have old:∀x∈Fz S,OB C B2 x:=λx AG=>by have y:=Jy.lt x AG;have:=y.t1;have:=y.Ct;exact y.to (keep _ (by lia) (by lia)) (keep _ (by lia) (by lia))
  refine⟨λn o' k ne=>?_,?_,?_,?_,?_,λx AG=>?_,?_,?_,λx AG=>?_,R.P8,?_,?_,by lia,λx AG=>?_⟩
  .rw[keep n (λz=>by subst z;rw[c.iD]at k;cases k;exact ne rfl) (by have:=KH k;lia)];exact Jy.Bd n o' k ne
  .rw[Er];exact Jo gD
  .rw[keep _ (by lia) (by lia)];exact Jy.CK
  .rw[Er,FJ (by lia),AE,Jo Jy.el];simp[EB,ln.1,ln.2.2]
  .rw[keep _ (by lia) (by lia)];exact Jy.LB
  .simp only[Fz,FS,Iq,Va]at AG;rcases AG with AG|rfl|AG
   .exact old x (Hp _ AG)
   .exact Zf
   .exact old x (HT _ AG)
  .simp only[Fz,FS,K1,DB,Iy];have C3:=R.C3;simp only[Fz,K1]at C3;have fr:∀x∈Fz S,x.Ea≠l.Ea:=λx AG z=>by
    have:=KH (R.lt x AG).CK;lia
   obtain⟨CP,Cw,LQ⟩:=List.nodup_append.mp C3;refine List.nodup_append.mpr ⟨CP,?_,λu Av v BB=>?_⟩
   .rw[pB,List.nodup_cons];refine⟨λz=>?_,Cw⟩;obtain⟨x,AG,e⟩:=List.mem_map.mp z;exact fr x (HT _ AG) e
   .rw[pB,Gh]at BB;rcases BB with rfl|BB
    .obtain⟨x,AG,e⟩:=List.mem_map.mp Av;subst e;exact fr x (Hp _ AG)
    .exact LQ u Av v BB
  .simp only[K1,DB,Iy];refine List.nodup_append.mpr ⟨R.nn,by simp,λu Av v BB=>?_⟩;obtain⟨x,AG,e⟩:=List.mem_map.mp Av;have:=R.O5 x AG;have BB:=List.mem_singleton.mp BB;lia
  .rcases List.mem_append.mp AG with AG|AG
   .have:=R.O5 x AG;show x.n<S.BV+1;lia
   .have:=List.mem_singleton.mp AG;subst this;show x.n<S.BV+1;lia
  .show S.BV+1<1000;lia
  .show S.ended.length+(S.lets++[l]).length<=S.BV+1;simp;lia
  .simp only[Fz,FS,Iq,Va]at AG;rcases AG with AG|rfl|AG
   .exact R.pr x (Hp _ AG)
   .rw[el];exact Gi _
   .exact R.pr x (HT _ AG)
 .rw[keep n CP Cw,A9,EZ AW]
end
section
variable{C:GP}{h:A5}{S:IM}
def Mc(l:Lt)(e:AY):Lt:={ l with pre:=l.pre++[l.d],d:=e }
def GK(S:IM)(CR:List Lt)(l:Lt)(B8:List Lt):Tl->IM
 |.at e=>{ S with lets:=CR++Mc l e::B8,Ci:=S.Ci+1 }
 |t=>{ S with lets:=CR++B8,ended:=S.ended++[(l,t)],Ci:=S.Ci+1 }
def isAt:Tl->Bool
 |.at _=>true
 |_=>false
def qx{cs:List Nat}{ws:List (AY×AY)}(N:KC cs ws){d e:AY}(h:EE ws d=some e):e∈Cg cs cs.length:=N.sub _ (cj h).2
def zA{cs:List Nat}{ws:List (AY×AY)}(N:KC cs ws){hh:Nat}{o:Option Nat}{e:AY}(h:Kc ws hh o=.at e):e∈Cg cs cs.length:=by
 unfold Kc at h
 split at h
 .cases h
 .split at h
  .cases h
  .rename_i q;cases h;exact qx N q
def j8{cs:List Nat}{ws:List (AY×AY)}(N:KC cs ws){BF:List Cs}{d:AY}{a:Nat}{e:AY}(h:NX ws BF d a=.at e):e∈Cg cs cs.length:=by
 unfold NX at h
 split at h
 .cases h
 .exact zA N h
def xR(c:HZ C){GT:List Dg}{l:Lt}{e:AY}(h:O7 C GT l=.at e):e∈Cg C.cs C.cs.length:=by
 unfold O7 at h
 split at h
 .exact j8 c.N h
 .cases h
def V4{L:List Lt}{l:Lt}(h:l.n∉L.map (·.n)):EB l∉L.map EB:=λz=>by obtain⟨x,AG,e⟩:=List.mem_map.mp z;simp only[EB,W9]at e;exact h (List.mem_map.mpr ⟨x,AG,by lia⟩)
def Y8{CR B8:List Lt}{l:Lt}(h:((CR++l::B8).map (·.n)).Nodup):l.n∉CR.map (·.n)/\l.n∉B8.map (·.n):=by simp only[K1,DB]at h;obtain⟨_,h2,B2⟩:=List.nodup_append.mp h;exact⟨λz=>B2 _ z _ (Fy ..) rfl,(List.nodup_cons.mp h2).1⟩
def uC(c:HZ C)(R:GG C h S)(hm:S.Ci<900000){CR B8:List Lt}{l:Lt}(es:S.lets=CR++l::B8) :
  ∃h',Sy [.ref C.r,.int (l.n:Int)] h=.ok (De (O7 C S.done l),h')/\GG C h' (GK S CR l B8 (O7 C S.done l))/\h'.length=h.length/\∀n,n≠C.M+1->n≠C.M+2->n≠l.Ea->h'[n]?=h[n]?:=by
 have q:=c.Es;have P2:=c.P2;have DN:=c.DN;have AF:=R.AF;have K_:l∈Fz S:=Hp _ (by rw[es];simp);have x:=R.lt l K_;have af_:=x.t1;have adT:=x.Ct;have nn:=R.nn;rw[es]at nn;obtain⟨CP,Cw⟩:=Y8 nn;have k1:=V4 CP;have k2:=V4 Cw;have el:h[C.M+1]?=some ⟨.B3 (CR.map EB++EB l::B8.map EB),(CR.map λl=>.ref l.B7)++.ref l.B7::B8.map λl=>.ref l.B7⟩:=by rw[R.el,es];simp
 have Gm:Bq "Run" "letters" (.ref C.r) h=.ok (.ref (C.M+1),h):=GJ R.BJ rfl;have gl:Gx h (.ref (C.M+1)) (.int (l.n:Int))=some (some (.ref l.B7)):=by rw[fl el];show some (Dk _ _ (EB l))=_;rw[VW k1 (by simp)]
 have FA:E0 false (.int (l.n:Int)) (.ref (C.M+1)) h=.ok (.AM false,h):=by unfold E0;rw[gl];rfl
 have F3:AI (.ref (C.M+1)) (.int (l.n:Int)) h=.ok (.ref l.B7,h):=by unfold AI;rw[gl]
 obtain⟨t,NE⟩:∃t,t=O7 C S.done l:=⟨_,rfl⟩;have AP:=xd c R x;rw[<-NE]at AP |-;have t1:EV (DT (A_ (Ap 1 SI (Z (J 1) A2)))) (A_ (A0 (E0 false) (J 1) (Bf (Bq "Run" "letters") (J 0)))) [some (.ref C.r),some (.int (l.n:Int)),none,none] h=.ok (false,h):=by simp[n6,Gm,FA]
 have s2:AZ (A0 AI (Bf (Bq "Run" "letters") (J 0)) (J 1)) (AC 2) [some (.ref C.r),some (.int (l.n:Int)),none,none] h=.ok (.AP [some (.ref C.r),some (.int (l.n:Int)),some (.ref l.B7),none],h):=by simp[Gm,F3]
 have Fj:ED "Run" "next_of" 1 SE (J 0) (Z (J 2) A2) [some (.ref C.r),some (.int (l.n:Int)),some (.ref l.B7),none] h=.ok (De t,h):=ML (us:=[.ref l.B7]) rfl R.BJ rfl rfl rfl AP;have s3:AZ (ED "Run" "next_of" 1 SE (J 0) (Z (J 2) A2)) (AC 3) [some (.ref C.r),some (.int (l.n:Int)),some (.ref l.B7),none] h=.ok (.AP [some (.ref C.r),some (.int (l.n:Int)),some (.ref l.B7),some (De t)],h):=by rw[EY,Fj];rfl
 have CK:Sy [.ref C.r,.int (l.n:Int)] h=(WS [some (.ref C.r),some (.int (l.n:Int)),none,none] h).bind outF:=rfl;rw[CK];unfold WS;rw[BD,F4,t1,AH,if_neg (by simp),IJ,AH,BN,BD,s2,AH,BN,BD,s3,AH,BN,BD,F4];have pl:=R.pr l K_;have dl:(l.pre.map AR++[AR l.d]).length<=900001:=by simp;lia
 by_cases AB:isAt t=true
 .obtain⟨e,DU⟩:∃e,t=.at e:=by cases t<;>first|exact⟨_,rfl⟩|cases AB
  subst DU;have he:=xR c NE.symm;have tt:A_ (A0 (BH true) (A0 AI (J 3) (pu (.int 0))) (pu (.str (As "at")))) [some (.ref C.r),some (.int (l.n:Int)),some (.ref l.B7),some (De (.at e))] h=.ok (true,h):=by simp[De,Gq]
  rw[tt,AH,if_pos rfl];have e2:Bq "Letter" "doors" (.ref l.B7) h=.ok (.ref l.Ea,h):=GJ x.G2 rfl;obtain⟨h',G1⟩:∃h',h'=h.set l.Ea (Tg (Mc l e)):=⟨_,rfl⟩;have ap:E1 FU (Bf (Bq "Letter" "doors") (J 2)) (Z (Bn (Z (A0 AI (J 3) (pu (.int 1))) (Z (A0 AI (J 3) (pu (.int 2))) A2))) A2) [some (.ref C.r),some (.int (l.n:Int)),some (.ref l.B7),some (De (.at e))] h=.ok (.non,h'):=by rw[G1];refine MI (ws:=(l.pre++[l.d]).map AR) (ws2:=(l.pre++[l.d]).map AR) (us:=[AR e]) (ws':=(l.pre++[l.d]++[e]).map AR) (h1:=h) (h2:=h) (by simp[e2]) x.CK ?_ x.CK (by simp[FU]) (by simp[B4];lia);simp[De,Jc,YL,B4,AR]
  refine⟨h',?_,?_,by rw[G1];simp,λn _ _ AW=>by rw[G1,FJ (λz=>AW z.symm)]⟩
  .rw[Lc,ap];rfl
  .have keep:∀n,n≠l.Ea->h'[n]?=h[n]?:=λn AW=>by rw[G1,FJ (λz=>AW z.symm)]
   have C3:=R.C3;have ht:∀y∈Fz S,y.B7≠l.Ea:=λy AN z=>by have A9:=(R.lt y AN).G2;have AE:=x.CK;rw[z,AE]at A9;cases A9
   have zB:∀y,y∈CR++(B8++S.ended.map (·.1))->y.Ea≠l.Ea:=λy AN z=>by
    simp only[Fz,es,FS,Ho,K1,DB]at C3;obtain⟨a1,a2,Bi⟩:=List.nodup_append.mp C3;have Hw:=(List.nodup_cons.mp a2).1;rcases List.mem_append.mp AN with AN|AN
    .exact Bi _ (List.mem_map.mpr ⟨y,AN,rfl⟩) _ (Fy ..) z
    .apply Hw;rw[<-K1];exact List.mem_map.mpr ⟨y,AN,z⟩
   have NZ:∀y,y∈CR++(B8++S.ended.map (·.1))->OB C h' y:=λy AN=>by
    have jT:y∈Fz S:=by
     simp only[Fz,es,FS,Ho,Iq,Gh]at AN |-;rcases AN with AN|AN
     .exact .inl AN
     .exact .inr (.inr AN)
    exact(R.lt y jT).to (keep _ (ht y jT)) (keep _ (zB y AN))
   have Zf:OB C h' (Mc l e):=⟨by show h'[l.B7]?=_;rw[keep _ (ht l K_)];exact x.G2,by show h'[l.Ea]?=_;rw[G1];exact Jo x.CK,x.m,x.a,he,x.t1,x.Ct⟩;refine⟨λn o' k ne=>?_,?_,?_,?_,?_,λy AN=>?_,?_,?_,λy AN=>?_,R.P8,R.few,?_,by rw[G1];simpa using AF,λy AN=>?_⟩
   .rw[keep n (by have:=KH k;lia)];exact R.Bd n o' k ne
   .rw[keep _ (by lia)];exact R.BJ
   .rw[keep _ (by lia)];exact R.CK
   .rw[keep _ (by lia),el];simp[GK,Mc,EB]
   .rw[keep _ (by lia)];exact R.LB
   .simp only[Fz,GK,FS,Ho,Iq,Gh]at AN;rcases AN with AN|rfl|AN
    .exact NZ y (Hp _ AN)
    .exact Zf
    .exact NZ y (HT _ (List.mem_append.mpr AN))
   .have:(Fz (GK S CR l B8 (.at e))).map (·.Ea)=(Fz S).map (·.Ea):=by simp[Fz,GK,es,Mc]
    rw[this];exact C3
   .have:(GK S CR l B8 (.at e)).lets.map (·.n)=S.lets.map (·.n):=by simp[GK,es,Mc]
    rw[this];exact R.nn
   .simp only[GK,Iq,Gh]at AN;rcases AN with AN|rfl|AN
    .exact R.O5 y (by rw[es];simp[AN])
    .exact R.O5 l (by rw[es];simp)
    .exact R.O5 y (by rw[es];simp[AN])
   .have:=R.le;rw[es]at this;simpa[GK]using this
   .simp only[Fz,GK,FS,Ho,Iq,Gh]at AN;show y.pre.length<=S.Ci+1;have old:∀z∈Fz S,z.pre.length<=S.Ci:=R.pr;simp only[Fz,es,FS,Ho,Iq,Gh]at old;rcases AN with AN|rfl|AN
    .have:=old y (.inl AN);lia
    .simp only[Mc,EP,D7,EQ];lia
    .have:=old y (.inr (.inr AN));lia
 .have tt:A_ (A0 (BH true) (A0 AI (J 3) (pu (.int 0))) (pu (.str (As "at")))) [some (.ref C.r),some (.int (l.n:Int)),some (.ref l.B7),some (De t)] h=.ok (false,h):=by
    cases t<;>first|exact absurd rfl AB|(simp[De,Gq];decide)
  rw[tt,AH,if_neg (by simp)];have Fp:GK S CR l B8 t={ S with lets:=CR++B8,ended:=S.ended++[(l,t)],Ci:=S.Ci+1 }:=by cases t<;>first|exact absurd rfl AB|rfl
  obtain⟨h1,A9⟩:∃h1,h1=h.set (C.M+1) ⟨.B3 (CR.map EB++B8.map EB),(CR.map λl=>.ref l.B7)++B8.map λl=>.ref l.B7⟩:=⟨_,rfl⟩;have ZX:Nv h (.ref (C.M+1))=true:=by unfold Nv;simp only[el]
  have pp:R1 (Bf (Bq "Run" "letters") (J 0)) (J 1) [some (.ref C.r),some (.int (l.n:Int)),some (.ref l.B7),some (De t)] h=.ok (.ref l.B7,h1):=by rw[nR];simp only[OT,v_var,DJ,Dq,DH,AH,Gm,PJ,ZX,if_true,JN];rw[A9];exact fp (i:=(l.n:Int)) el k1 k2 (by simp) (by simp)
  have dn:h1[C.r]?=some (PT C.LR C.N6 C.D_ C.pl C.M S.BV):=by rw[A9,FJ (by lia)];exact R.BJ
  have sJ:Bq "Run" "ended" (.ref C.r) h1=.ok (.ref (C.M+2),h1):=GJ dn rfl;have eU:h1[C.M+2]?=some ⟨.lst,S.ended.map Qe⟩:=by rw[A9,FJ (by lia)];exact R.LB
  have le:=R.le;have few:=R.few;obtain⟨h',G1⟩:∃h',h'=h1.set (C.M+2) ⟨.lst,(S.ended++[(l,t)]).map Qe⟩:=⟨_,rfl⟩;have ap:E1 FU (Bf (Bq "Run" "ended") (J 0)) (Z (Bn (Z (J 1) (Z (J 2) (Z (J 3) A2)))) A2) [some (.ref C.r),some (.int (l.n:Int)),some (.ref l.B7),some (De t)] h1=.ok (.non,h'):=by rw[G1];refine MI (ws:=S.ended.map Qe) (ws2:=S.ended.map Qe) (us:=[Qe (l,t)]) (h1:=h1) (h2:=h1) (by simp[sJ]) eU ?_ eU (by simp[FU]) (by simp[B4];lia);simp[B4,Qe]
  have keep:∀n,n≠C.M+1->n≠C.M+2->h'[n]?=h[n]?:=λn a b=>by rw[G1,FJ (λz=>b z.symm),A9,FJ (λz=>a z.symm)]
  refine⟨h',?_,?_,by rw[G1,A9];simp,λn a b _=>keep n a b⟩
  .rw[BD,Lc,pp,AH,AH,BN,Lc,ap];rfl
  .rw[Fp];have bB:(Fz { S with lets:=CR++B8,ended:=S.ended++[(l,t)],Ci:=S.Ci+1 }).Perm (Fz S):=by
    simp only[Fz,es,K1,DB,Iy,FS,Ho];refine ov _ ?_;rw[<-FS];exact List.perm_append_singleton l (B8++S.ended.map (·.1))
   refine⟨λn o' k ne=>?_,?_,?_,?_,?_,λy AN=>?_,?_,?_,λy AN=>?_,R.P8,R.few,?_,by rw[G1,A9];simpa using AF,λy AN=>?_⟩
   .rw[keep n (by have:=KH k;lia) (by have:=KH k;lia)];exact R.Bd n o' k ne
   .rw[keep _ (by lia) (by lia)];exact R.BJ
   .rw[keep _ (by lia) (by lia)];exact R.CK
   .rw[G1,FJ (by lia),A9,Jo el];simp
   .rw[G1,Jo eU]
   .have z:=R.lt y (bB.mem_iff.mp AN);have:=z.t1;have:=z.Ct;exact z.to (keep _ (by lia) (by lia)) (keep _ (by lia) (by lia))
   .exact(bB.map _).nodup_iff.mpr R.C3
   .simp only[K1,DB]at nn |-;obtain⟨a1,a2,Bi⟩:=List.nodup_append.mp nn;exact List.nodup_append.mpr ⟨a1,(List.nodup_cons.mp a2).2,λu Av v BB=>Bi u Av v (FD _ BB)⟩
   .refine R.O5 y ?_;rw[es];rcases List.mem_append.mp AN with AN|AN<;>simp[AN]
   .rw[es]at le;simp only[EP,D7,EQ]at le |-;lia
   .have:=R.pr y (bB.mem_iff.mp AN);show y.pre.length<=S.Ci+1;lia
def xx(R:GG C h S){x y w:W}{h':A5}(e:Sx [.ref C.r,x,y] h=.ok (w,h')):LP [.ref C.r,.tup [.str (As "come"),x,y]] h=.ok (w,h'):=by have B1:D5 "tuple" (.tup [.str (As "come"),x,y]) h=.ok (.AM true,h):=rfl;have BW:D5 "str" (.str (As "come")) h=.ok (.AM true,h):=rfl;have Fj:ED "Run" "come" 2 Sx (J 0) (Z (A0 AI (J 1) (pu (.int 1))) (Z (A0 AI (J 1) (pu (.int 2))) A2)) [some (.ref C.r),some (.tup [.str (As "come"),x,y])] h=.ok (w,h'):=ML (us:=[x,y]) rfl R.BJ rfl (by simp[Jc,YL]) rfl e;simp[LP,XK,B1,BW,QN,Gq,Fj]
def xy(R:GG C h S){x w:W}{h':A5}(e:Sy [.ref C.r,x] h=.ok (w,h')):LP [.ref C.r,.tup [.str (As "go"),x]] h=.ok (w,h'):=by have B1:D5 "tuple" (.tup [.str (As "go"),x]) h=.ok (.AM true,h):=rfl;have BW:D5 "str" (.str (As "go")) h=.ok (.AM true,h):=rfl;have Fj:ED "Run" "go" 1 Sy (J 0) (Z (A0 AI (J 1) (pu (.int 1))) A2) [some (.ref C.r),some (.tup [.str (As "go"),x])] h=.ok (w,h'):=ML (us:=[x]) rfl R.BJ rfl (by simp[Jc]) rfl e;have q:(As "go"==As "come")=false:=rfl;simp[LP,XK,B1,BW,QN,Gq,q,Fj]
end
structure Rs(C:GP)(Cx po Ah:Nat):Prop where
 w:C.K[Cx]?=some ⟨.lst,C.ws.map Bs⟩
 b:ES C.K po C.A
 CC:C.M+3<=Ah
 C8:Ah<C.T
def Gr(l:Lt):W:=.tup [AR l.d,.int (l.a:Int)]
def Oy(C:GP)(a:Nat)(d:AY):Tl:=NX C.ws (C.A.getD d.1 []) d a
def PU(C:GP)(a:Nat)(ch:List AY):Prop:=∀(i:Nat) x y,ch[i]?=some x->ch[i+1]?=some y->Oy C a x=.at y
structure Gu(C:GP)(Ah:Nat)(h:A5)(S:IM):Prop where
 R:GG C h S
 GT:S.done=[]
 m0:∀l∈S.lets,l.m=0
 ld:h[Ah]?=some ⟨.B3 (S.lets.map EB),S.lets.map Gr⟩
 ch:∀l∈S.lets,PU C l.a (l.pre++[l.d])/\∀x∈l.pre,x∈Cg C.cs C.cs.length
section
variable{C:GP}{Cx po Ah:Nat}{h:A5}{S:IM}
def xQ{l:Lt}(hm:l.m=0):O7 C [] l=Oy C l.a l.d:=by unfold O7 Oy XV QM;rw[hm];simp
theorem Gu.app(I:Gu C Ah h S)(g:A5):Gu C Ah (h++g) S:=⟨I.R.app g,I.GT,I.m0,Cp h I.ld g,I.ch⟩
def rf(h:A5)(t:Tl):BH true (De t) (De t) h=.ok (.AM true,h):=by cases t<;>simp[BH,De,Dn,eqT,HS]
def pM(h:A5)(t:Tl)(b:Bool):∃w,AI (De t) (.int 0) h=.ok (w,h)/\BH b w (.str (As "at")) h=.ok (.AM (isAt t==b),h):=by cases t<;>refine⟨_,Gq h _ _,?_⟩<;>cases b<;>rfl
def gU(h:A5)(e:AY)(ρ:BI):RG (De (.at e)) (some 1) none ρ h=.ok (AR e,h):=rfl
def j7(k:Rs C Cx po Ah)(c:HZ C)(R:GG C h S){d:AY}(hd:d∈Cg C.cs C.cs.length)(a:Nat):∃q,AI (.ref po) (.int (d.1:Int)) h=.ok (.ref q,h)/\O3 [.ref Cx,.ref q,AR d,.int (a:Int)] h=.ok (De (Oy C a d),h):=by
 obtain⟨rs,e,PP,r⟩:=(eE R.Bd k.b).ex;have X5:=(Uh.mp hd).1;have Ao:d.1<rs.length:=by rw[PP,c.Ji.1];exact X5
 exact⟨rs[d.1],GM e (by rw[Em,CF Ao];rfl),xe c.N.few (R.Bd _ _ k.w (λz=>by cases z)) (c.Ji.2 _ X5) (r _ _ (CF Ao)) d⟩
def gK{a:Nat}{ch:List AY}{d e:AY}(x:PU C a (ch++[d]))(y:Oy C a d=.at e):PU C a (ch++[d]++[e]):=by
 intro i u v Av BB;have A7:i+1<(ch++[d]++[e]).length:=(List.getElem?_eq_some_iff.mp BB).1;simp only[EP,D7,EQ]at A7;by_cases h1:i+1<(ch++[d]).length
 .rw[EZ h1]at BB;rw[EZ (by lia)]at Av;exact x i u v Av BB
 .simp only[EP,D7,EQ]at h1;have A7:i=ch.length:=by lia
  subst A7;rw[EZ (by simp),H2 (by lia)]at Av;rw[H2 (by simp)]at BB;simp at Av BB;subst Av BB;exact y
def Lz(C:GP)(Cx po Ah:Nat)(n:Nat)(s5 C5 Cj:Option W):BI:=[some (.ref C.r),some (.ref Cx),some (.ref po),some (.ref Ah),some (.int (n:Int)),s5,C5,Cj]
def hZ(k:Rs C Cx po Ah)(c:HZ C)(I:Gu C Ah h S)(hm:S.Ci<900000){CR B8:List Lt}{l:Lt}(es:S.lets=CR++l::B8) :
  ∃h',Ov [.ref C.r,.ref Cx,.ref po,.ref Ah,.int (l.n:Int)] h=.ok (.AM true,h')/\Gu C Ah h' (GK S CR l B8 (Oy C l.a l.d))/\h'.length=h.length/\∀n,C.M+3<=n->n≠Ah->(∀l∈S.lets,n≠l.Ea)->h'[n]?=h[n]?:=by
 have R:=I.R;have K_:l∈Fz S:=Hp _ (by rw[es];simp);have Y5:l∈S.lets:=by rw[es];simp
 have x:=R.lt l K_;have adT:=x.Ct;have k1:=k.CC;have k2:=k.C8;have nn:=R.nn;rw[es]at nn;obtain⟨CP,Cw⟩:=Y8 nn;have q1:=V4 CP;have q2:=V4 Cw;have ld:h[Ah]?=some ⟨.B3 (CR.map EB++EB l::B8.map EB),CR.map Gr++Gr l::B8.map Gr⟩:=by rw[I.ld,es];simp
 have F3:AI (.ref Ah) (.int (l.n:Int)) h=.ok (Gr l,h):=by
  have g:Gx h (.ref Ah) (.int (l.n:Int))=some (some (Gr l)):=by rw[fl ld];show some (Dk _ _ (EB l))=_;rw[VW q1 (by simp)]
  unfold AI;rw[g]
 obtain⟨q,Dd,Cn⟩:=j7 k c R x.d l.a;obtain⟨t,NE⟩:∃t,t=Oy C l.a l.d:=⟨_,rfl⟩;rw[<-NE]at Cn |-;have x0:AI (AR l.d) (.int 0) h=.ok (.int (l.d.1:Int),h):=Gq h _ _;have s1:Mn (A0 AI (J 3) (J 4)) (FP [(AC 5),(AC 6)]) (Lz C Cx po Ah l.n none none none) h=.ok (.AP (Lz C Cx po Ah l.n (some (AR l.d)) (some (.int (l.a:Int))) none),h):=by simp[Lz,F3,Gr]
 have s2:AZ (Ap 4 O3 (Z (J 1) (Z (A0 AI (J 2) (A0 AI (J 5) (pu (.int 0)))) (Z (J 5) (Z (J 6) A2))))) (AC 7) (Lz C Cx po Ah l.n (some (AR l.d)) (some (.int (l.a:Int))) none) h=.ok (.AP (Lz C Cx po Ah l.n (some (AR l.d)) (some (.int (l.a:Int))) (some (De t))),h):=by simp[Lz,x0,Dd,Cn]
 obtain⟨ρ,F2⟩:∃ρ,ρ=Lz C Cx po Ah l.n (some (AR l.d)) (some (.int (l.a:Int))) (some (De t)):=⟨_,rfl⟩;rw[<-F2]at s2;obtain⟨MY,TU,rA⟩:=pM h t true;have tt:A_ (A0 (BH true) (A0 AI (J 7) (pu (.int 0))) (pu (.str (As "at")))) ρ h=.ok (isAt t,h):=by rw[F2];simp only[Lz,OS,Dw,v_var,E4,DJ,Dq,DH,AH,TU,rA,OI,beq_true]
 have le:=R.le;have few:=R.few;have lw:∃h1,Bp (A_ (A0 (BH true) (A0 AI (J 7) (pu (.int 0))) (pu (.str (As "at"))))) (Jg (J 3) (J 4) (CB (Bn (Z (CB (HJ (J 7) (Ft (pu (.int 1))) (pu none))) (Z (J 6) A2))))) (Fs (R1 (J 3) (J 4))) ρ h=.ok (.AP ρ,h1)/\(∃o,h1=h.set Ah o)/\h1[Ah]?=some ⟨.B3 ((GK S CR l B8 t).lets.map EB),(GK S CR l B8 t).lets.map Gr⟩:=by
  rw[F4,tt,AH];by_cases AB:isAt t=true
  .obtain⟨e,DU⟩:∃e,t=.at e:=by cases t<;>first|exact⟨_,rfl⟩|cases AB
   subst DU;rw[if_pos AB];have p:=rz (i:=(l.n:Int)) (v:=.tup [AR e,.int (l.a:Int)]) (ρ:=ρ) ld q1 q2 (by simp) (by simp) (by rw[es]at le;simp at le |-;unfold B4;lia);have v1:CB (Bn (Z (CB (HJ (J 7) (Ft (pu (.int 1))) (pu none))) (Z (J 6) A2))) ρ h=.ok (.tup [AR e,.int (l.a:Int)],h):=by rw[F2];simp[Lz,VT,VS,gU,B4]
   refine⟨h.set Ah ⟨.B3 (CR.map EB++EB l::B8.map EB),CR.map Gr++.tup [AR e,.int (l.a:Int)]::B8.map Gr⟩,?_,⟨_,rfl⟩,?_⟩
   .rw[Yl,v1,AH];have MW:J 3 ρ h=.ok (.ref Ah,h):=by rw[F2];rfl
    have v4:J 4 ρ h=.ok (.int (l.n:Int),h):=by rw[F2];rfl
    simp only[MW,v4,AH];exact p
   .rw[Jo ld];simp[GK,Mc,Gr,EB]
  .rw[if_neg AB];have Fp:(GK S CR l B8 t).lets=CR++B8:=by cases t<;>first|exact absurd rfl AB|rfl
   have ZX:Nv h (.ref Ah)=true:=by unfold Nv;simp only[ld]
   refine⟨h.set Ah ⟨.B3 (CR.map EB++B8.map EB),CR.map Gr++B8.map Gr⟩,?_,⟨_,rfl⟩,?_⟩
   .have MW:J 3 ρ h=.ok (.ref Ah,h):=by rw[F2];rfl
    have v4:J 4 ρ h=.ok (.int (l.n:Int),h):=by rw[F2];rfl
    rw[Lc,nR];simp only[MW,AH,PJ,ZX,if_true,JN,v4];rw[fp (i:=(l.n:Int)) ld q1 q2 (by simp) (by simp),AH]
   .rw[Jo ld,Fp];simp
 obtain⟨h1,A9,⟨o,G2⟩,Xs⟩:=lw;have Jy:GG C h1 S:=by rw[G2];exact R.set c o k1 k2
 obtain⟨h2,AE,ET,C8,fr⟩:=uC c Jy hm es;rw[I.GT,xQ (I.m0 l Y5),<-NE]at AE ET;have mg:=xy Jy AE;have dn:=Jy.BJ;have s4:B5 (A0 (BH true) (ED "Run" "move" 1 LP (J 0) (Z (Bn (Z (pu (.str (As "go"))) (Z (J 4) A2))) A2)) (J 7)) ρ h1=.ok (.Do (.AM true),h2):=by
  have Fj:ED "Run" "move" 1 LP (J 0) (Z (Bn (Z (pu (.str (As "go"))) (Z (J 4) A2))) A2) ρ h1=.ok (De t,h2):=ML (us:=[.tup [.str (As "go"),.int (l.n:Int)]]) (by rw[F2];rfl) dn rfl (by rw[F2];simp[Lz,B4]) rfl mg;have aN:J 7 ρ h2=.ok (De t,h2):=by rw[F2];rfl
  rw[Pk,Dw,Fj,AH,aN,AH,rf,AH]
 refine⟨h2,?_,?_,by rw[C8,G2];simp,λn LQ nl C3=>?_⟩
 .have CK:Ov [.ref C.r,.ref Cx,.ref po,.ref Ah,.int (l.n:Int)] h=(XT (Lz C Cx po Ah l.n none none none) h).bind outF:=rfl;rw[CK];unfold XT;rw[BD,s1,AH,BN,BD,s2,AH,BN,BD,A9,AH,BN,s4];rfl
 .refine⟨ET,?_,λy AN=>?_,?_,λy AN=>?_⟩
  .cases t<;>exact I.GT
  .have Fj:∀z∈CR++B8,z.m=0:=λz hz=>I.m0 z (by rw[es];rcases List.mem_append.mp hz with hz|hz<;>simp[hz]);have m0:=I.m0 l Y5;cases t<;>simp only[GK,Iq,Gh]at AN
   .rcases AN with AN|rfl|AN
    .exact Fj y (Hp _ AN)
    .exact m0
    .exact Fj y (HT _ AN)
   all_goals exact Fj y (List.mem_append.mpr AN)
  .rw[fr Ah (by lia) (by lia) (by lia)];exact Xs
  .have Fj:∀z∈CR++B8,PU C z.a (z.pre++[z.d])/\∀x∈z.pre,x∈Cg C.cs C.cs.length:=λz hz=>I.ch z (by rw[es];rcases List.mem_append.mp hz with hz|hz<;>simp[hz]);have m0:=I.ch l Y5;cases t<;>simp only[GK,Iq,Gh]at AN
   .rcases AN with AN|rfl|AN
    .exact Fj y (Hp _ AN)
    .refine⟨gK m0.1 NE.symm,λz hz=>?_⟩;rcases List.mem_append.mp hz with hz|hz
     .exact m0.2 z hz
     .rw[List.mem_singleton.mp hz];exact x.d
    .exact Fj y (HT _ AN)
   all_goals exact Fj y (List.mem_append.mpr AN)
 .rw[fr n (by lia) (by lia) (C3 l Y5),G2,FJ (λz=>nl z.symm)]
end
def Rep(ch:List AY):Prop:=∃(i j:Nat)(x:AY),i<j/\ch[i]?=some x/\ch[j]?=some x
theorem j_{α:Type}[BEq α][LawfulBEq α]:∀(l A:List α),l.Nodup->(∀x∈l,x∈A)->l.length<=A.length
 |[],A,_,_=>Gi _
 |x::l,A,C3,s=>by have C3:=List.nodup_cons.mp C3;have AG:=s x (Fy ..);have:=j_ l (A.erase x) C3.2 λy AN=>(Vd (λz=>C3.1 (by rw[<-z];exact AN))).mpr (s y (FD _ AN));have C8:=Vj AG;have:=T0 AG;simp only[D7];lia
def abC{ch A:List AY}(s:∀x∈ch,x∈A)(l:A.length<ch.length):Rep ch:=by
 by_cases C3:ch.Nodup
 .have:=j_ ch A C3 s;lia
 .rw[T1,List.pairwise_iff_getElem]at C3;have:∃(i j:Nat)(A7:i<ch.length)(Af:j<ch.length),i<j/\ch[i]=ch[j]:=by
   refine O_ λAD=>C3 λi j A7 Af JZ z=>AD ⟨i,j,A7,Af,JZ,z⟩
  obtain⟨i,j,A7,Af,JZ,e⟩:=this;exact⟨i,j,ch[j],JZ,by rw[CF A7,e],CF Af⟩
section
variable{C:GP}{Cx po Ah:Nat}{h:A5}{S:IM}
def abB{a:Nat}{ch:List AY}{d:AY}(x:PU C a (ch++[d]))(r:Rep (ch++[d])):∃e,Oy C a d=.at e/\PU C a (ch++[d]++[e])/\Rep (ch++[d]++[e]):=by
 obtain⟨i,j,y,JZ,A7,Af⟩:=r;have wk:=(List.getElem?_eq_some_iff.mp Af).1;simp only[EP,D7,EQ]at wk;have same:∀m,j+m<=ch.length->(ch++[d])[i+m]?=(ch++[d])[j+m]?:=by
  intro m;induction m with
  |zero=>intro _;rw[W7,W7,A7,Af]
  |succ m Bk=>
   intro hm;have Bk:=Bk (by lia);have q1:i+m+1<(ch++[d]).length:=by simp;lia
   have q2:j+m+1<(ch++[d]).length:=by simp;lia
   have k_:j+m<(ch++[d]).length:=by lia
   have A9:=x (i+m) _ _ (Bk.trans (CF k_)) (CF q1);have AE:=x (j+m) _ _ (CF k_) (CF q2);rw[A9]at AE;rw[<-On,<-On,CF q1,CF q2];injection AE with AE;rw[AE]
 have s1:=same (ch.length-j) (by lia);rw[show j+(ch.length-j)=ch.length by lia]at s1;have hd:(ch++[d])[ch.length]?=some d:=by simp
 rw[hd]at s1;have q:i+(ch.length-j)+1<(ch++[d]).length:=by simp;lia
 have e:=x _ _ _ s1 (CF q);refine⟨_,e,gK x e,i,j,y,JZ,?_,?_⟩
 .rw[EZ (by simp;lia)];exact A7
 .rw[EZ (by simp;lia)];exact Af
theorem il:∀L:List Lt,PN (L.map EB)=some (L.map λl=>(l.n:Int))
 |[]=>rfl
 |l::L=>by show(PN (L.map EB)).map _=_;rw[il L];rfl
def mO{vs:List W}(L:List Lt){n:Nat}(e:h[n]?=some ⟨.B3 (L.map EB),vs⟩)(l:L.length<64):LW [.ref n] h=.ok (.ref h.length,h++[⟨.lst,HL (LT.IE (L.map λl=>(l.n:Int)))⟩]):=by have p:(LT.IE (L.map λl=>(l.n:Int))).Perm (L.map λl=>(l.n:Int)):=Px _ _;have AF:=p.length_eq;rw[DV]at AF;unfold LW;simp only[YC,e,il,DV,if_pos l];exact Hj h (by simp[HL,AF,B4];lia)
def ae{L:List Lt}{x:Int}:x∈LT.IE (L.map λl=>(l.n:Int))↔∃l∈L,(l.n:Int)=x:=by have p:(LT.IE (L.map λl=>(l.n:Int))).Perm (L.map λl=>(l.n:Int)):=Px _ _;rw[p.mem_iff,W8]
def abq{L:List Lt}(h:(L.map (·.n)).Nodup):(LT.IE (L.map λl=>(l.n:Int))).Nodup:=by have p:(LT.IE (L.map λl=>(l.n:Int))).Perm (L.map λl=>(l.n:Int)):=Px _ _;rw[p.nodup_iff,T1,T8];rw[T1,T8]at h;exact h.imp λne z=>ne (by lia)
def Dy(C:GP)(Cx po Ah:Nat)(s4 s5 C5 Cj DE:Option W):BI:=[some (.ref C.r),some (.ref Cx),some (.ref po),some (.ref Ah),s4,s5,C5,Cj,DE]
def swBody:An:=Bp (DT (A_ (Ap 5 Ov (Z (J 0) (Z (J 1) (Z (J 2) (Z (J 3) (Z (J 5) A2)))))))) (B5 (pu (.AM false))) Br
def e7(S:IM)(CR:List Lt)(l:Lt)(B8:List Lt)(t:Tl):(GK S CR l B8 t).BV=S.BV:=by cases t<;>rfl
def hY(S:IM)(CR:List Lt)(l:Lt)(B8:List Lt)(t:Tl):(GK S CR l B8 t).Ci=S.Ci+1:=by cases t<;>rfl
def hX{S:IM}{CR:List Lt}{l:Lt}{B8:List Lt}{t:Tl}{y:Lt}(h:y∈(GK S CR l B8 t).lets):y∈CR\/y∈B8\/∃e,y=Mc l e:=by
 cases t<;>simp only[GK,Iq,Gh]at h
 .rcases h with h|h|h
  .exact .inl h
  .exact .inr (.inr ⟨_,h⟩)
  .exact .inr (.inl h)
 all_goals exact h.elim .inl λh=>.inr (.inl h)
def uB{S:IM}{CR:List Lt}{l:Lt}{B8:List Lt}{t:Tl}{y:Lt}(h:y∈CR++B8):y∈(GK S CR l B8 t).lets:=by
 cases t<;>simp only[GK,Iq,Gh]at h |-
 .exact h.elim .inl λh=>.inr (.inr h)
 all_goals exact h
def a_{L:List Lt}{l:Lt}(h:l∈L):∃CR B8,L=CR++l::B8:=List.append_of_mem h
def ac4(k:Rs C Cx po Ah)(c:HZ C){m:Nat}(I:Gu C Ah h S)(hm:S.Ci<100000)(AD:S.BV<=60)(AU:∀l∈S.lets,m<=l.pre.length)(s4 s5 C5 Cj DE:Option W) :
  Ends (Ed (Dc (B0 LW (Z (J 3) A2))) (AC 5) swBody (Dy C Cx po Ah s4 s5 C5 Cj DE) h) λf h'=>∃Bm Lr,f=.AP (Dy C Cx po Ah s4 Lr C5 Cj DE)/\Gu C Ah h' Bm/\Bm.Ci<=S.Ci+64/\Bm.BV=S.BV/\∀l∈Bm.lets,m+1<=l.pre.length:=by
 have le:=I.R.le;obtain⟨Fa,es⟩:∃Fa,Fa=LT.IE (S.lets.map λl=>(l.n:Int)):=⟨_,rfl⟩;have so:=mO S.lets I.ld (by lia);rw[<-es]at so;have ls:Fa.length=S.lets.length:=by rw[es];exact(Px _ _).length_eq.trans (by simp)
 have C3:Fa.Nodup:=by rw[es];exact abq I.R.nn
 have DN:=I.R.AF;have YO:=k.C8;have YR:=k.CC;rw[Ld]
 refine Ends.Ga (Wu (it:=G4 (.ref h.length)) (h0:=h++[⟨.lst,HL Fa⟩]) (HL Fa) (by simp[HL];lia)
  (λj ρ h'=>∃Bm Lr,ρ=Dy C Cx po Ah s4 Lr C5 Cj DE/\Gu C Ah h' Bm/\h'[h.length]?=some ⟨.lst,HL Fa⟩/\Bm.Ci<=S.Ci+j/\Bm.BV=S.BV/\(∀l∈Bm.lets,l.Ea≠h.length)/\(∀l∈Bm.lets,m<=l.pre.length/\(m+1<=l.pre.length\/(l.n:Int)∈Fa.drop j))/\∀x∈Fa.drop j,∃l∈Bm.lets,(l.n:Int)=x)
  (Mj (ws:=HL Fa) (by simp) (by simp[Dy,so])) (λj ρ h' _ q=>by obtain⟨Bm,Lr,_,_,e,_⟩:=q;exact Qo e j) ⟨S,s5,rfl,I.app _,by simp,by lia,rfl,λl AF=>?_,λl AF=>⟨AU l AF,.inr ?_⟩,λx AG=>?_⟩ ?_ ?_)
 .have:=KH (I.R.lt l (Hp _ AF)).CK;lia
 .rw[List.drop_zero,es];exact ae.mpr ⟨l,AF,rfl⟩
 .rw[List.drop_zero,es]at AG;exact ae.mp AG
 .rintro j w _ H DD ⟨Bm,Lr,rfl,D0,Ai,Ci,ce,Ea,pr,SP⟩;simp only[HL,Em]at DD;cases ex:Fa[j]? with
  |none=>rw[ex]at DD;cases DD
  |some x=>
   rw[ex]at DD;cases DD;obtain⟨Af,Ck⟩:=List.getElem?_eq_some_iff.mp ex;have Xg:Fa.drop j=x::Fa.drop (j+1):=by rw[Vg Af,Ck]
   obtain⟨l,AF,ln⟩:=SP x (by rw[Xg];exact Fy ..);have AP:x∉Fa.drop (j+1):=by have:(Fa.drop j).Nodup:=C3.sublist (List.drop_sublist j Fa);rw[Xg]at this;exact(List.nodup_cons.mp this).1
   obtain⟨CR,B8,sp⟩:=a_ AF;obtain⟨h2,AE,BU,C8,fr⟩:=hZ k c D0 (by lia) sp;refine⟨Dy C Cx po Ah s4 (some (.int x)) C5 Cj DE,H,by simp[Dy],?_⟩;rw[ln]at AE;have b:swBody (Dy C Cx po Ah s4 (some (.int x)) C5 Cj DE) H=.ok (.AP (Dy C Cx po Ah s4 (some (.int x)) C5 Cj DE),h2):=by simp[swBody,Dy,AE]
   have nn:=D0.R.nn;rw[sp]at nn;obtain⟨GY,HA⟩:=Y8 nn;have NZ:∀y,y∈CR\/y∈B8->y∈Bm.lets/\(y.n:Int)≠x:=λy AN=>by
    refine⟨by rw[sp];rcases AN with AN|AN<;>simp[AN],λz=>?_⟩;have:y.n=l.n:=by lia
    rcases AN with AN|AN
    .exact GY (List.mem_map.mpr ⟨y,AN,this⟩)
    .exact HA (List.mem_map.mpr ⟨y,AN,this⟩)
   refine⟨_,_,b,_,_,rfl,BU,?_,?_,?_,λy AN=>?_,λy AN=>?_,λy AN=>?_⟩
   .rw[fr h.length (by lia) (by lia) (λy AN=>(Ea y AN).symm)];exact Ai
   .rw[hY];lia
   .rw[e7];exact ce
   .rcases hX AN with AN|AN|⟨e,rfl⟩
    .exact Ea y (NZ y (.inl AN)).1
    .exact Ea y (NZ y (.inr AN)).1
    .exact Ea l AF
   .have case:∀y,y∈CR\/y∈B8->m<=y.pre.length/\(m+1<=y.pre.length\/(y.n:Int)∈Fa.drop (j+1)):=λy AN=>by
      obtain⟨a,b⟩:=NZ y AN;obtain⟨EW,CL⟩:=pr y a;refine⟨EW,CL.elim .inl λz=>?_⟩;rw[Xg]at z;rcases List.mem_cons.mp z with z|z
      .exact absurd z b
      .exact .inr z
    rcases hX AN with AN|AN|⟨e,rfl⟩
    .exact case y (.inl AN)
    .exact case y (.inr AN)
    .have:=(pr l AF).1;simp only[Mc,EP,D7,EQ];exact⟨by lia,.inl (by lia)⟩
   .obtain⟨z,hz,e⟩:=SP y (by rw[Xg];exact FD _ AN);refine⟨z,uB ?_,e⟩;rw[sp]at hz;simp only[Iq,Gh]at hz |-;rcases hz with hz|rfl|hz
    .exact .inl hz
    .exact absurd (by rw[<-ln,e];exact AN) AP
    .exact .inr hz
 .rintro _ h' ⟨Bm,Lr,rfl,D0,Ai,Ci,ce,Ea,pr,SP⟩;refine⟨Bm,Lr,rfl,D0,?_,ce,λl AF=>?_⟩
  .simp only[HL,DV]at Ci;lia
  .rcases(pr l AF).2 with z|z
   .exact z
   .simp[HL]at z
end
section
variable{C:GP}{Cx po Ah:Nat}{h:A5}{S:IM}
noncomputable def eI:An:=AO (AZ (Ap 4 O3 (Z (J 1) (Z (A0 AI (J 2) (A0 AI (J 6) (pu (.int 0)))) (Z (J 6) (Z (J 7) A2))))) (AC 8))
    (AO (Bp (A_ (A0 (BH false) (A0 AI (J 8) (pu (.int 0))) (pu (.str (As "at"))))) (B5 (pu (.AM false))) Br)
    (AZ (CB (HJ (J 8) (Ft (pu (.int 1))) (pu none))) (AC 6)))
def XY:An:=AO (Mn (A0 AI (J 3) (J 5)) (FP [(AC 6),(AC 7)])) (Ed (E2 (Z (pu (.int 25)) A2)) (AC 4) eI)
def aaS(k:Rs C Cx po Ah)(c:HZ C)(R:GG C h S){a:Nat}{ch:List AY}{d:AY}(hd:d∈Cg C.cs C.cs.length)(x:PU C a (ch++[d]))(r:Rep (ch++[d]))(s4 s5 DE:Option W) :
  Ends (Ed (E2 (Z (pu (.int 25)) A2)) (AC 4) eI (Dy C Cx po Ah s4 s5 (some (AR d)) (some (.int (a:Int))) DE) h) λf h'=>h'=h/\∃s4 C5 DE,f=.AP (Dy C Cx po Ah s4 s5 C5 (some (.int (a:Int))) DE):=by
 rw[Ld];refine Ends.Ga (PA 0 25 (by lia) (λj ρ h'=>h'=h/\∃s4 DE ch d,ρ=Dy C Cx po Ah s4 s5 (some (AR d)) (some (.int (a:Int))) DE/\d∈Cg C.cs C.cs.length/\PU C a (ch++[d])/\Rep (ch++[d])) (Kg (n:=25) (by simp) (by lia)) ⟨rfl,s4,DE,ch,d,rfl,hd,x,r⟩ ?_ ?_)
 .rintro j _ h' Af ⟨G1,s4,DE,ch,d,rfl,hd,x,r⟩;subst G1;obtain⟨q,Dd,Cn⟩:=j7 k c R hd a;obtain⟨e,Az,CZ,B6⟩:=abB x r;rw[Az]at Cn;have he:=j8 c.N Az;refine⟨Dy C Cx po Ah (some (.int (0+(j:Int)))) s5 (some (AR d)) (some (.int (a:Int))) DE,h',by simp[Dy],?_⟩;have x0:AI (AR d) (.int 0) h'=.ok (.int (d.1:Int),h'):=Gq h' _ _;have s1:AZ (Ap 4 O3 (Z (J 1) (Z (A0 AI (J 2) (A0 AI (J 6) (pu (.int 0)))) (Z (J 6) (Z (J 7) A2))))) (AC 8) (Dy C Cx po Ah (some (.int (0+(j:Int)))) s5 (some (AR d)) (some (.int (a:Int))) DE) h'=.ok (.AP (Dy C Cx po Ah (some (.int (0+(j:Int)))) s5 (some (AR d)) (some (.int (a:Int))) (some (De (.at e)))),h'):=by
   simp[Dy,x0,Dd,Cn]
  have Ct:A_ (A0 (BH false) (A0 AI (J 8) (pu (.int 0))) (pu (.str (As "at")))) (Dy C Cx po Ah (some (.int (0+(j:Int)))) s5 (some (AR d)) (some (.int (a:Int))) (some (De (.at e)))) h'=.ok (false,h'):=by simp[Dy,De,Gq]
  have s3:AZ (CB (HJ (J 8) (Ft (pu (.int 1))) (pu none))) (AC 6) (Dy C Cx po Ah (some (.int (0+(j:Int)))) s5 (some (AR d)) (some (.int (a:Int))) (some (De (.at e)))) h'=.ok (.AP (Dy C Cx po Ah (some (.int (0+(j:Int)))) s5 (some (AR e)) (some (.int (a:Int))) (some (De (.at e)))),h'):=by simp[Dy,VT,VS,gU]
  unfold eI;rw[BD,s1,AH,BN,BD,F4,Ct,AH,if_neg (by simp),IJ,AH,BN,s3];exact⟨_,_,rfl,rfl,_,_,_,_,rfl,he,CZ,B6⟩
 .rintro _ h' ⟨G1,s4,DE,ch,d,rfl,_⟩;exact⟨G1,s4,_,DE,rfl⟩
def vg{ks:List Key}{j:Nat}(Af:j<=ks.length)(h:A5):PL ks j h=some ((ks[j]?).map Za):=by
 unfold PL;by_cases e:j=ks.length
 .rw[if_pos e,HF (by lia)];rfl
 .have:j<ks.length:=by lia
  rw[if_neg e,CF this];rfl
def qh(k:Rs C Cx po Ah)(c:HZ C)(I:Gu C Ah h S)(hm:S.Ci<1000)(AD:S.BV<=60):Ends (R7 [.ref C.r,.ref Cx,.ref po,.ref Ah] h) λw _=>w=.AM true:=by
 have YO:=k.C8;have YR:=k.CC
 have B7:=PA (mi:=E2 (Z (pu (.int 25)) A2)) (g:=AC 4) (b:=Ed (Dc (B0 LW (Z (J 3) A2))) (AC 5) swBody) (ρ:=Dy C Cx po Ah none none none none none) (h:=h) (h0:=h) 0 25 (by lia)
  (λj ρ h'=>∃Bm s4 s5,ρ=Dy C Cx po Ah s4 s5 none none none/\Gu C Ah h' Bm/\Bm.Ci<=1000+64*j/\Bm.BV<=60/\∀l∈Bm.lets,j<=l.pre.length)
  (T:=λf h'=>∃Bm s4 s5,f=.AP (Dy C Cx po Ah s4 s5 none none none)/\Gu C Ah h' Bm/\Bm.BV<=60/\∀l∈Bm.lets,25<=l.pre.length)
  (Kg (n:=25) (by simp) (by lia)) ⟨S,none,none,rfl,I,by lia,AD,λl _=>Gi _⟩ (by
    rintro j _ h' Af ⟨Bm,s4,s5,rfl,D0,Ci,ce,pr⟩;refine⟨Dy C Cx po Ah (some (.int (0+(j:Int)))) s5 none none none,h',by simp[Dy],?_⟩;obtain⟨f,h2,Bo,dS,Lb,rfl,BU,y1,qc,zW⟩:=ac4 k c D0 (by lia) ce pr (some (.int (0+(j:Int)))) s5 none none none;exact⟨_,_,Bo,dS,_,Lb,rfl,BU,by lia,by lia,zW⟩) (by
    rintro _ h' ⟨Bm,s4,s5,rfl,D0,Ci,ce,pr⟩;exact⟨Bm,s4,s5,rfl,D0,ce,pr⟩)
 obtain⟨f,H,Bo,Bm,s4,s5,rfl,D0,ce,pr⟩:=B7.Ga;obtain⟨A6,eT⟩:∃A6,A6=H.set Ah ⟨.JA (Bm.lets.map EB),Bm.lets.map Gr⟩:=⟨_,rfl⟩;have fY:GG C A6 Bm:=by rw[eT];exact D0.R.set c _ YR YO
 have Wt:A6[Ah]?=some ⟨.JA (Bm.lets.map EB),Bm.lets.map Gr⟩:=by rw[eT];exact Jo D0.ld
 have le:=D0.R.le;have al:=UC c.N.c C.cs.length;have FR:=c.N.FR;have Nl:=Wz (it:=PL (Bm.lets.map EB)) (g:=AC 5) (b:=XY) Bm.lets.length (λj ρ h'=>j<=Bm.lets.length/\h'=A6/\∃s4 s5 C5 Cj DE,ρ=Dy C Cx po Ah s4 s5 C5 Cj DE) (λf h'=>h'=A6/\∃ρ,f=.AP ρ) (by
  rintro j _ h' ⟨Af,G1,Pi,Lb,Jr,Sc,Sd,rfl⟩;subst G1;rw[vg (by simpa using Af)];by_cases EG:j<Bm.lets.length
  .obtain⟨l,el⟩:∃l,l=Bm.lets[j]:=⟨_,rfl⟩;have K_:l∈Bm.lets:=by rw[el];exact Lh _
   have x:=fY.lt l (Hp _ K_);refine .inr ⟨.int (l.n:Int),by rw[Em,CF EG,<-el];rfl,EG,Dy C Cx po Ah Pi (some (.int (l.n:Int))) Jr Sc Sd,h',by simp[Dy],?_⟩;obtain⟨CR,B8,sp⟩:=a_ K_;have nn:=D0.R.nn;rw[sp]at nn;have q1:=V4 (Y8 nn).1;have g:Gx h' (.ref Ah) (.int (l.n:Int))=some (some (Gr l)):=by unfold Gx;simp only[Wt,keyOf,T3];rw[sp,K1,K1,DB,DB];show some (Dk _ _ (EB l))=_;rw[VW q1 (by simp)]
   have F3:AI (.ref Ah) (.int (l.n:Int)) h'=.ok (Gr l,h'):=by unfold AI;rw[g]
   have s1:Mn (A0 AI (J 3) (J 5)) (FP [(AC 6),(AC 7)]) (Dy C Cx po Ah Pi (some (.int (l.n:Int))) Jr Sc Sd) h'=.ok (.AP (Dy C Cx po Ah Pi (some (.int (l.n:Int))) (some (AR l.d)) (some (.int (l.a:Int))) Sd),h'):=by simp[Dy,F3,Gr]
   have Lq:Rep (l.pre++[l.d]):=abC (A:=Cg C.cs C.cs.length) (λy AN=>by
    rcases List.mem_append.mp AN with AN|AN
    .exact(D0.ch l K_).2 y AN
    .rw[List.mem_singleton.mp AN];exact x.d) (by have:=pr l K_;simp;lia)
   obtain⟨f2,h2,Tj,eV,afM,afN,u8,rfl⟩:=aaS k c fY x.d (D0.ch l K_).1 Lq Pi (some (.int (l.n:Int))) Sd;unfold XY;rw[BD,s1,AH,BN,Tj];exact⟨_,_,rfl,EG,eV,_,_,_,_,_,rfl⟩
  .refine .inl ⟨?_,rfl,_,rfl⟩;rw[HF (by simpa using EG)];rfl) Jt 0 (Dy C Cx po Ah s4 s5 none none none) A6 ⟨Gi _,rfl,_,_,_,_,_,rfl⟩ (by unfold Jt;lia)
 obtain⟨f2,h2,Tj,eV,DA,rfl⟩:=Nl;subst eV;have sN:Xy (J 3) (AC 5) XY (Dy C Cx po Ah s4 s5 none none none) H=.ok (.AP DA,h2.set Ah ⟨.B3 (Bm.lets.map EB),Bm.lets.map Gr⟩):=by show Ga (Xx _ _ _ _ _)=_;unfold Xx;have MW:J 3 (Dy C Cx po Ah s4 s5 none none none) H=.ok (.ref Ah,H):=rfl;simp only[JN,MW,AH,D0.ld];rw[<-eT,Tj];simp only[nF,Wt,xj]
 have e:R7 [.ref C.r,.ref Cx,.ref po,.ref Ah] h=(AO (Ed (E2 (Z (pu (.int 25)) A2)) (AC 4) (Ed (Dc (B0 LW (Z (J 3) A2))) (AC 5) swBody)) (AO (Xy (J 3) (AC 5) XY) (B5 (pu (.AM true)))) (Dy C Cx po Ah none none none none none) h).bind outF:=rfl;rw[e,BD,Ld,Bo,AH,BN,BD,sN,AH,BN];exact⟨_,_,rfl,rfl⟩
end
def outD(C:GP):List AY:=(Cg C.cs C.cs.length).filter λd=>(EE C.ws d).isNone
def i1{C:GP}{d:AY}:d∈outD C↔d∈Cg C.cs C.cs.length/\EE C.ws d=none:=by unfold outD;rw[List.mem_filter,Option.isNone_iff_eq_none]
noncomputable def Dm(ns:List Int)(C:GP)(po x6 x7 x8 Ah:Nat)(BV:Nat)(s1 Ki Fk FI Et Eu:Option W):BI:=[some (.Eb (Ba ns)),s1,some (.ref 0),some (.ref 1),some (.ref 2),some (.ref po),some (.ref x6),some (.ref x7),some (.ref x8),some (.ref C.r),some (.ref Ah),some (.int (BV:Int)),Ki,Fk,FI,Et,Eu]
noncomputable def Zo:An:=AO (AZ (A0 AI (J 4) (A0 BZ (A0 CT (J 12) (pu (.int 3))) (B0 Bw (Z (J 4) A2)))) (AC 13))
    (AO (AZ (A0 BZ (A0 CT (J 12) (pu (.int 12))) (pu (.int 16))) (AC 14))
    (AO (AZ (ED "Run" "move" 1 LP (J 9) (Z (Bn (Z (pu (.str (As "come"))) (Z (J 13) (Z (J 14) A2)))) A2)) (AC 15))
    (AO (Bp (EV (DT (A_ (Bf (D5 "int") (J 15)))) (EV (A_ (Bf (D5 "bool") (J 15))) (A_ (A0 (BH false) (J 15) (J 11))))) (B5 (pu (.AM false))) Br)
    (AO (Jg (J 10) (J 11) (Bn (Z (J 13) (Z (J 14) A2))))
    (AZ (A0 addW (J 11) (pu (.int 1))) (AC 11))))))
noncomputable def Zp:An:=AO (AZ (B0 LW (Z (J 10) A2)) (AC 16))
    (Bp (DT (A_ (Ap 5 Ov (Z (J 9) (Z (J 3) (Z (J 5) (Z (J 10) (Z (A0 AI (J 16) (A0 BZ (A0 CT (J 12) (pu (.int 3))) (B0 Bw (Z (J 16) A2)))) A2)))))))) (B5 (pu (.AM false))) Br)
def ZK:DK:=IB (EV (A_ (A0 (BH true) (A0 BZ (J 12) (pu (.int 3))) (pu (.int 0)))) (A_ (Bf (ND true) (J 10))))
def UO:An:=AO (AZ (Ap 2 Dv (Z (J 1) (Z (pu (.int 0)) A2))) (AC 12)) (Bp ZK Zo Zp)
section
variable{ns:List Int}{C:GP}{po x6 x7 x8 Ah:Nat}{h:A5}{S:IM}
structure U3(C:GP)(po Ah:Nat):Prop where
 k:Rs C 1 po Ah
 o:C.K[2]?=some ⟨.lst,(outD C).map AR⟩
 ne:outD C≠[]
def ql(k:U3 C po Ah)(c:HZ C)(I:Gu C Ah h S)(AD:S.BV<60){y:Int}(s1 Fk FI Et Eu:Option W) :
  ∃h' Bm Jq LZ L_,Zo (Dm ns C po x6 x7 x8 Ah S.BV s1 (some (.int y)) Fk FI Et Eu) h=.ok (.AP (Dm ns C po x6 x7 x8 Ah Bm.BV s1 (some (.int y)) Jq LZ L_ Eu),h')/\Gu C Ah h' Bm/\Bm.BV=S.BV+1/\Bm.Ci=S.Ci/\∀n,C.M+3<=n->n<C.T->n≠Ah->h'[n]?=h[n]?:=by
 have R:=I.R;have YR:=k.k.CC;have YO:=k.k.C8;have AF:=R.AF;have P2:=c.P2;have G2:h[2]?=some ⟨.lst,(outD C).map AR⟩:=R.Bd _ _ k.o (λz=>by cases z);have lo:0<(outD C).length:=List.length_pos_iff.mpr k.ne;obtain⟨j,Af,Hz⟩:=Ka (y/3) (n:=(outD C).length) lo;obtain⟨d,CK⟩:∃d,d=(outD C)[j]:=⟨_,rfl⟩;have Y3:d∈outD C:=by rw[CK];exact Lh _
 obtain⟨GY,HA⟩:=i1.mp Y3;have F3:AI (.ref 2) (.int (j:Int)) h=.ok (AR d,h):=GM G2 (by rw[Em,CF Af,CK];rfl);obtain⟨a,AB,Bg⟩:=Ka (y/12) (n:=16) (by decide);have Bg:y/12%16=(a:Int):=Bg;obtain⟨h1,A9,Jy,CC,fr⟩:=qF c R (by lia) GY HA AB;have SO:=xx R A9;obtain⟨ρ,F2⟩:∃ρ,ρ=Dm ns C po x6 x7 x8 Ah S.BV s1 (some (.int y)) (some (AR d)) (some (.int (a:Int))) (some (.int (S.BV:Int))) Eu:=⟨_,rfl⟩;have q1:AZ (A0 AI (J 4) (A0 BZ (A0 CT (J 12) (pu (.int 3))) (B0 Bw (Z (J 4) A2)))) (AC 13) (Dm ns C po x6 x7 x8 Ah S.BV s1 (some (.int y)) Fk FI Et Eu) h=.ok (.AP (Dm ns C po x6 x7 x8 Ah S.BV s1 (some (.int y)) (some (AR d)) FI Et Eu),h):=by
  have Kd:(0:Int)<((outD C).length:Int):=by lia
  simp only[Dm,EY,Dw,HN,DF,DG,v_var,E4,DJ,Dq,DH,AH,Mt,if_pos (show(0:Int)<3/\(3:Int)<1073741824 by decide),Io G2,DV,Kx,if_pos Kd,Hz,F3];rfl
 have q2:AZ (A0 BZ (A0 CT (J 12) (pu (.int 12))) (pu (.int 16))) (AC 14) (Dm ns C po x6 x7 x8 Ah S.BV s1 (some (.int y)) (some (AR d)) FI Et Eu) h=.ok (.AP (Dm ns C po x6 x7 x8 Ah S.BV s1 (some (.int y)) (some (AR d)) (some (.int (a:Int))) Et Eu),h):=by simp only[Dm,EY,Dw,v_var,E4,DJ,Dq,DH,AH,Mt,if_pos (show(0:Int)<12/\(12:Int)<1073741824 by decide),Kx,if_pos (show(0:Int)<16 by decide),Bg];rfl
 have EI:AZ (ED "Run" "move" 1 LP (J 9) (Z (Bn (Z (pu (.str (As "come"))) (Z (J 13) (Z (J 14) A2)))) A2)) (AC 15) (Dm ns C po x6 x7 x8 Ah S.BV s1 (some (.int y)) (some (AR d)) (some (.int (a:Int))) Et Eu) h=.ok (.AP ρ,h1):=by have Fj:ED "Run" "move" 1 LP (J 9) (Z (Bn (Z (pu (.str (As "come"))) (Z (J 13) (Z (J 14) A2)))) A2) (Dm ns C po x6 x7 x8 Ah S.BV s1 (some (.int y)) (some (AR d)) (some (.int (a:Int))) Et Eu) h=.ok (.int (S.BV:Int),h1):=ML (us:=[.tup [.str (As "come"),AR d,.int (a:Int)]]) rfl R.BJ rfl (by simp[Dm,B4]) rfl SO;rw[EY,Fj,F2];rfl
 have v11:∀g,J 11 ρ g=.ok (.int (S.BV:Int),g):=by rw[F2];exact λ_=>rfl
 have abZ:∀g,J 15 ρ g=.ok (.int (S.BV:Int),g):=by rw[F2];exact λ_=>rfl
 have v10:∀g,J 10 ρ g=.ok (.ref Ah,g):=by rw[F2];exact λ_=>rfl
 have JK:EV (DT (A_ (Bf (D5 "int") (J 15)))) (EV (A_ (Bf (D5 "bool") (J 15))) (A_ (A0 (BH false) (J 15) (J 11)))) ρ h1=.ok (false,h1):=by have B1:D5 "int" (.int (S.BV:Int)) h1=.ok (.AM true,h1):=rfl;have BW:D5 "bool" (.int (S.BV:Int)) h1=.ok (.AM false,h1):=rfl;simp[-v_var,abZ,v11,B1,BW]
 have Xs:h1[Ah]?=some ⟨.B3 (S.lets.map EB),S.lets.map Gr⟩:=by rw[fr Ah (by lia) (by lia) (by lia)];exact I.ld
 have le:=R.le;have pt:=fq (v:=.tup [AR d,.int (a:Int)]) (ρ:=ρ) Xs (ij R) (by rw[DV];unfold B4;lia);obtain⟨h2,AE⟩:∃h2,h2=h1.set Ah ⟨.B3 (S.lets.map EB++[.inl (S.BV:Int)]),S.lets.map Gr++[.tup [AR d,.int (a:Int)]]⟩:=⟨_,rfl⟩;rw[<-AE]at pt;have Nc:Jg (J 10) (J 11) (Bn (Z (J 13) (Z (J 14) A2))) ρ h1=.ok (.AP ρ,h2):=by
  have tt:Bn (Z (J 13) (Z (J 14) A2)) ρ h1=.ok (.tup [AR d,.int (a:Int)],h1):=by rw[F2];simp[Dm,B4]
  rw[Yl,tt,AH,v10,AH,v11,AH,pt]
 have Jk:AZ (A0 addW (J 11) (pu (.int 1))) (AC 11) ρ h2=.ok (.AP (Dm ns C po x6 x7 x8 Ah (S.BV+1) s1 (some (.int y)) (some (AR d)) (some (.int (a:Int))) (some (.int (S.BV:Int))) Eu),h2):=by rw[EY,Dw,v11,AH,E4,AH,RD,AH,F2];rfl
 refine⟨h2,{ S with BV:=S.BV+1,lets:=S.lets++[SR S h.length d a] },some (AR d),some (.int (a:Int)),some (.int (S.BV:Int)),?_,?_,rfl,rfl,λn CP Cw LQ=>?_⟩
 .unfold Zo;rw[BD,q1,AH,BN,BD,q2,AH,BN,BD,EI,AH,BN,BD,F4,JK,AH,if_neg (by simp),IJ,AH,BN,BD,Nc,AH,BN,Jk]
 .refine⟨by rw[AE];exact Jy.set c _ YR YO,I.GT,λl AF=>?_,?_,λl AF=>?_⟩
  .rcases List.mem_append.mp AF with AF|AF
   .exact I.m0 l AF
   .rw[List.mem_singleton.mp AF];show G5 S.done d.1=0;rw[I.GT];rfl
  .rw[AE,Jo Xs];simp[EB,Gr,SR]
  .rcases List.mem_append.mp AF with AF|AF
   .exact I.ch l AF
   .rw[List.mem_singleton.mp AF];refine⟨λi u v Av BB=>?_,λ_ AG=>by cases AG⟩;simp[SR]at BB
 .rw[AE,FJ (λz=>LQ z.symm),fr n (by lia) (by lia) (by lia)]
def uA(k:U3 C po Ah)(c:HZ C)(I:Gu C Ah h S)(AD:S.BV<=60)(hm:S.Ci<1000)(AW:S.lets≠[]){y:Int}(s1 Fk FI Et Eu:Option W) :
  ∃h' Bm La,Zp (Dm ns C po x6 x7 x8 Ah S.BV s1 (some (.int y)) Fk FI Et Eu) h=.ok (.AP (Dm ns C po x6 x7 x8 Ah Bm.BV s1 (some (.int y)) Fk FI Et La),h')/\Gu C Ah h' Bm/\Bm.BV=S.BV/\Bm.Ci=S.Ci+1/\∀n,C.M+3<=n->n<C.T->n≠Ah->h'[n]?=h[n]?:=by
 have R:=I.R;have AF:=R.AF;have le:=R.le;obtain⟨Fa,es⟩:∃Fa,Fa=LT.IE (S.lets.map λl=>(l.n:Int)):=⟨_,rfl⟩;have so:=mO S.lets I.ld (by lia);rw[<-es]at so;have ls:Fa.length=S.lets.length:=by rw[es];exact(Px _ _).length_eq.trans (by simp)
 have lo:0<Fa.length:=by rw[ls];exact List.length_pos_iff.mpr AW
 obtain⟨j,Af,Hz⟩:=Ka (y/3) (n:=Fa.length) lo;obtain⟨x,ex⟩:∃x,x=Fa[j]:=⟨_,rfl⟩;obtain⟨l,K_,ln⟩:=ae.mp (show x∈LT.IE (S.lets.map λl=>(l.n:Int))by rw[<-es,ex];exact Lh _);obtain⟨H,EU⟩:∃H,H=h++[⟨.lst,HL Fa⟩]:=⟨_,rfl⟩;rw[<-EU]at so;have Ai:H[h.length]?=some ⟨.lst,HL Fa⟩:=by rw[EU];simp
 have Ab:Gu C Ah H S:=by rw[EU];exact I.app _
 obtain⟨CR,B8,sp⟩:=a_ K_;obtain⟨h2,AE,BU,C8,fr⟩:=hZ k.k c Ab (by lia) sp;rw[ln]at AE;have F3:AI (.ref h.length) (.int (j:Int)) H=.ok (.int x,H):=GM Ai (by simp only[HL];rw[Em,CF Af,ex];rfl);refine⟨h2,_,some (.ref h.length),?_,BU,e7 ..,hY ..,λn CP Cw LQ=>?_⟩
 .rw[e7];have q1:AZ (B0 LW (Z (J 10) A2)) (AC 16) (Dm ns C po x6 x7 x8 Ah S.BV s1 (some (.int y)) Fk FI Et Eu) h=.ok (.AP (Dm ns C po x6 x7 x8 Ah S.BV s1 (some (.int y)) Fk FI Et (some (.ref h.length))),H):=by
   simp[Dm,so]
  have Kd:(0:Int)<(Fa.length:Int):=by lia
  have lw:Bw [.ref h.length] H=.ok (.int Fa.length,H):=by rw[Io Ai];simp[HL]
  have q2:DT (A_ (Ap 5 Ov (Z (J 9) (Z (J 3) (Z (J 5) (Z (J 10) (Z (A0 AI (J 16) (A0 BZ (A0 CT (J 12) (pu (.int 3))) (B0 Bw (Z (J 16) A2)))) A2))))))) (Dm ns C po x6 x7 x8 Ah S.BV s1 (some (.int y)) Fk FI Et (some (.ref h.length))) H=.ok (false,h2):=by simp only[Dm,v_not,OS,IX,Dw,HN,DF,DG,v_var,E4,DJ,Dq,DH,AH,Mt,if_pos (show(0:Int)<3/\(3:Int)<1073741824 by decide),lw,Kx,if_pos Kd,Hz,F3,D7,EQ,G9,if_true,AE,OI,Ks]
  unfold Zp;rw[BD,q1,AH,BN,F4,q2,AH,if_neg (by simp),IJ]
 .rw[fr n CP LQ (λl AF=>by have:=(Ab.R.lt l (Hp _ AF)).Ct;lia),EU,EZ (by lia)]
def r5(k:U3 C po Ah)(c:HZ C)(I:Gu C Ah h S)(AD:S.BV<60)(hm:S.Ci<1000){x:Int}(Ki Fk FI Et Eu:Option W) :
  ∃h' Bm My Jq LZ L_ La,UO (Dm ns C po x6 x7 x8 Ah S.BV (some (.int x)) Ki Fk FI Et Eu) h=.ok (.AP (Dm ns C po x6 x7 x8 Ah Bm.BV (some (.int x)) My Jq LZ L_ La),h')/\Gu C Ah h' Bm/\Bm.BV<=S.BV+1/\Bm.Ci<=S.Ci+1/\∀n,C.M+3<=n->n<C.T->n≠Ah->h'[n]?=h[n]?:=by
 obtain⟨y,D9⟩:=Mr x 0 (by lia);have D9:∀h,Dv [.int x,.int 0] h=.ok (.int y,h):=D9;have q1:AZ (Ap 2 Dv (Z (J 1) (Z (pu (.int 0)) A2))) (AC 12) (Dm ns C po x6 x7 x8 Ah S.BV (some (.int x)) Ki Fk FI Et Eu) h=.ok (.AP (Dm ns C po x6 x7 x8 Ah S.BV (some (.int x)) (some (.int y)) Fk FI Et Eu),h):=by simp[Dm,D9]
 have CK:ND true (.ref Ah) h=.ok (.AM (S.lets.isEmpty),h):=by unfold ND;simp only[I.ld,List.isEmpty_map,beq_true]
 have q2:ZK (Dm ns C po x6 x7 x8 Ah S.BV (some (.int x)) (some (.int y)) Fk FI Et Eu) h=.ok (decide (y%3=0)||S.lets.isEmpty,h):=by
  unfold ZK;by_cases B2:y%3=0
  .simp[Dm,B2]
  .simp[Dm,B2,CK]
 unfold UO;by_cases A1:(decide (y%3=0)||S.lets.isEmpty)=true
 .obtain⟨h',Bm,Jq,LZ,L_,e,D0,ce,Ci,fr⟩:=ql (ns:=ns) (x6:=x6) (x7:=x7) (x8:=x8) k c I AD (y:=y) (some (.int x)) Fk FI Et Eu;refine⟨h',Bm,some (.int y),Jq,LZ,L_,Eu,?_,D0,by lia,by lia,fr⟩;rw[BD,q1,AH,BN,F4,q2,AH,if_pos A1,e]
 .have AW:S.lets≠[]:=λz=>A1 (by rw[z];simp);obtain⟨h',Bm,La,e,D0,ce,Ci,fr⟩:=uA (ns:=ns) (x6:=x6) (x7:=x7) (x8:=x8) k c I (by lia) hm AW (y:=y) (some (.int x)) Fk FI Et Eu;refine⟨h',Bm,some (.int y),Fk,FI,Et,La,?_,D0,by lia,by lia,fr⟩;rw[BD,q1,AH,BN,F4,q2,AH,if_neg A1,e]
def ac8(k:U3 C po Ah)(c:HZ C){cells:List Int}(AF:cells.length<=50){p:Nat}{mi:Fw}(vH:C.M+3<=p)(Up:p<C.T)(vI:p≠Ah){h0:A5}(I:Gu C Ah h S)(s0:S.BV=0)(m0:S.Ci=0)(Ai:h[p]?=some ⟨.lst,Ba cells⟩){s1 Ki Fk FI Et Eu:Option W}(A7:mi (Dm ns C po x6 x7 x8 Ah 0 s1 Ki Fk FI Et Eu) h0=.ok (G4 (.ref p),h)) :
  Ends ((AO (Ed mi (AC 1) UO) (B5 (Ap 4 R7 (Z (J 9) (Z (J 3) (Z (J 5) (Z (J 10) A2))))))) (Dm ns C po x6 x7 x8 Ah 0 s1 Ki Fk FI Et Eu) h0) λf _=>f=.Do (.AM true):=by
 have B7:=Wu (mi:=mi) (it:=G4 (.ref p)) (g:=AC 1) (b:=UO) (ρ:=Dm ns C po x6 x7 x8 Ah 0 s1 Ki Fk FI Et Eu) (h:=h0) (h0:=h) (Ba cells) (by simp[Ba];lia)
  (λj ρ h'=>∃Bm s1 Ki Fk FI Et Eu,ρ=Dm ns C po x6 x7 x8 Ah Bm.BV s1 Ki Fk FI Et Eu/\Gu C Ah h' Bm/\Bm.BV<=j/\Bm.Ci<=j/\h'[p]?=some ⟨.lst,Ba cells⟩)
  (T:=λf h'=>∃Bm s1 Ki Fk FI Et Eu,f=.AP (Dm ns C po x6 x7 x8 Ah Bm.BV s1 Ki Fk FI Et Eu)/\Gu C Ah h' Bm/\Bm.BV<=60/\Bm.Ci<1000)
  A7 (λj ρ h' _ q=>by obtain⟨Bm,_,_,_,_,_,_,_,_,_,_,e⟩:=q;exact Qo e j) ⟨S,s1,Ki,Fk,FI,Et,Eu,by rw[s0],I,by lia,by lia,Ai⟩ ?_ ?_
 .obtain⟨f,H,Bo,Bm,t1,My,Jq,LZ,L_,La,rfl,D0,ce,Ci⟩:=B7.Ga;obtain⟨w,h2,AE,rfl⟩:=qh k.k c D0 Ci ce;rw[BD,Ld,Bo,AH,BN,Pk];have q:Ap 4 R7 (Z (J 9) (Z (J 3) (Z (J 5) (Z (J 10) A2)))) (Dm ns C po x6 x7 x8 Ah Bm.BV t1 My Jq LZ L_ La) H=.ok (.AM true,h2):=by
   simp[Dm,AE]
  rw[q];exact⟨_,_,rfl,rfl⟩
 .rintro j w _ H DD ⟨Bm,t1,My,Jq,LZ,L_,La,rfl,D0,ce,Ci,e⟩;simp only[Ba,Em]at DD;cases ex:cells[j]? with
  |none=>rw[ex]at DD;cases DD
  |some x=>rw[ex]at DD;cases DD;have Af:=(List.getElem?_eq_some_iff.mp ex).1;obtain⟨h',dS,afw,afx,afJ,afK,afL,Au,BU,qc,y1,fr⟩:=r5 (ns:=ns) (x6:=x6) (x7:=x7) (x8:=x8) k c D0 (by lia) (by lia) (x:=x) My Jq LZ L_ La;refine⟨Dm ns C po x6 x7 x8 Ah Bm.BV (some (.int x)) My Jq LZ L_ La,H,by simp[Dm],?_⟩;exact⟨_,_,Au,dS,_,_,_,_,_,_,rfl,BU,by lia,by lia,by rw[fr p vH Up vI];exact e⟩
 .rintro _ h' ⟨Bm,t1,My,Jq,LZ,L_,La,rfl,D0,ce,Ci,e⟩;simp only[Ba,DV]at ce Ci;exact⟨Bm,t1,My,Jq,LZ,L_,La,rfl,D0,by lia,by lia⟩
end
def ej{h:A5}{b:Nat}{B:List (List Cs)}(e:∀i,i<B.length+1->h[b+i]?=(Eh b B)[i]?):ES h b B:=by
 refine⟨(Cd B.length).map λi=>b+1+i,?_,by simp,λi r BJ=>?_⟩
 .have:=e 0 (by lia);rw[W7]at this;rw[this];simp[Eh,Gd,Q0]
 .rw[Em]at BJ;by_cases A7:i<B.length
  .rw[Pw A7]at BJ;cases BJ;show h[b+1+i]?=_;rw[show b+1+i=b+(i+1)by lia,e (i+1) (by lia)];simp[Eh,Ex,A7]
  .rw[HF (by simpa using A7)]at BJ;cases BJ
def ES.to{h h':A5}{b:Nat}{B:List (List Cs)}(x:ES h b B)(e:∀n,n<h.length->h'[n]?=h[n]?):ES h' b B:=by obtain⟨rs,A9,l,r⟩:=x.ex;exact⟨rs,(e _ (KH A9)).trans A9,l,λi q AU=>(e _ (KH (r i q AU))).trans (r i q AU)⟩
def abw{h g:A5}{n:Nat}{ws:List W}(p:h<+: g)(l:h.length<=n)(e:g[n]?=some ⟨.lst,ws⟩)(UG:G_ ws=false):settle h (.ref n) g=.ok (.ref n,g):=by unfold CG.settle;simp[SX p,DP,l,e,UG]
section
variable{cs:List Nat}{ws:List (AY×AY)}{A B:List (List Cs)}{ps:List Dg}(h:A5)
noncomputable def IV(h:A5)(cs:List Nat)(ws:List (AY×AY))(A B:List (List Cs))(ps:List Dg):A5:=h++(PT (h.length+3) (h.length+5) (h.length+6+A.length) (h.length+7+A.length+B.length) (h.length+8+A.length+B.length) 0::(IC h.length cs ws A B ps++[⟨.lst,[]⟩,⟨.B3 [],[]⟩,⟨.lst,[]⟩]))
def aas:(IV h cs ws A B ps).length=h.length+8+A.length+B.length+3:=by unfold IV;rw[EP,D7,EP,ZB];simp;lia
def aat{n:Nat}(AW:n<h.length):(IV h cs ws A B ps)[n]?=h[n]?:=by unfold IV;exact EZ AW
def aau:(IV h cs ws A B ps)[h.length]?=some (PT (h.length+3) (h.length+5) (h.length+6+A.length) (h.length+7+A.length+B.length) (h.length+8+A.length+B.length) 0):=by unfold IV;simp
def aav{k:Nat}(AK:k<A.length+B.length+7):(IV h cs ws A B ps)[h.length+1+k]?=(IC h.length cs ws A B ps)[k]?:=by unfold IV;rw[show h.length+1+k=h.length+(k+1)by lia,PE,Dq,EZ (by rw[ZB];exact AK)]
def bF(k:Nat):(IV h cs ws A B ps)[h.length+8+A.length+B.length+k]?=([⟨.lst,[]⟩,⟨.B3 [],[]⟩,⟨.lst,[]⟩]:A5)[k]?:=by
 unfold IV;rw[show h.length+8+A.length+B.length+k=h.length+(A.length+B.length+7+k+1)by lia,PE,Dq,H2 (by rw[ZB];lia),ZB]
 congr 1;lia
def ab4:(IC h.length cs ws A B ps)[2]?=some (Ln cs ws (h.length+4)):=by simp[IC]
def ab3:(IC h.length cs ws A B ps)[3]?=some (H8 ws):=by simp[IC]
def ab1{i:Nat}(A7:i<A.length+1):(IC h.length cs ws A B ps)[4+i]?=(Eh (h.length+5) A)[i]?:=by
 unfold IC;rw[EZ (by simp[L8];lia),EZ (by simp[L8];lia),H2 (by simp)]
 congr 1;simp
def ab2{i:Nat}(A7:i<B.length+1):(IC h.length cs ws A B ps)[5+A.length+i]?=(Eh (h.length+6+A.length) B)[i]?:=by
 unfold IC;rw[EZ (by simp[L8];lia),H2 (by simp[L8];lia)]
 congr 1;simp[L8];lia
def ab5:(IC h.length cs ws A B ps)[6+A.length+B.length]?=some ⟨.lst,ps.map CV⟩:=by
 unfold IC;rw[H2 (by simp[L8];lia)];have:6+A.length+B.length-([⟨.lst,BX cs⟩,⟨.lst,ws.map Bs⟩,Ln cs ws (h.length+4),H8 ws]++Eh (h.length+5) A++Eh (h.length+6+A.length) B).length=0:=by simp[L8];lia
 rw[this];rfl
end
noncomputable def S2(h:A5)(cs:List Nat)(ws:List (AY×AY))(A B:List (List Cs))(ps:List Dg)(DY:A5):GP:=
 ⟨cs,ws,A,B,ps,h.length,h.length+8+A.length+B.length,h.length+8+A.length+B.length+5,h.length+3,h.length+5,h.length+6+A.length,h.length+7+A.length+B.length,(DY.take (h.length+8+A.length+B.length)).set h.length JC⟩
def dN{cs:List Nat}{ws:List (AY×AY)}{A B:List (List Cs)}{ps:List Dg}{h DY:A5}(Mk:DY.length=h.length+8+A.length+B.length+3)(Hf:∀n,h.length<=n->DY[n]?=(IV h cs ws A B ps)[n]?){n:Nat}(h1:n<h.length+8+A.length+B.length)(h2:n≠h.length):(S2 h cs ws A B ps DY).K[n]?=DY[n]?:=by show((DY.take (h.length+8+A.length+B.length)).set h.length JC)[n]?=_;rw[FJ (λz=>h2 z.symm),List.getElem?_take,if_pos h1]
def Tz{cs:List Nat}{ws:List (AY×AY)}{A B:List (List Cs)}{ps:List Dg}{h DY:A5}(Mk:DY.length=h.length+8+A.length+B.length+3)(Hf:∀n,h.length<=n->DY[n]?=(IV h cs ws A B ps)[n]?){k:Nat}(AK:k<A.length+B.length+7):(S2 h cs ws A B ps DY).K[h.length+1+k]?=(IC h.length cs ws A B ps)[k]?:=by rw[dN Mk Hf (by lia) (by lia),Hf _ (by lia),aav h AK]
def qi{cs:List Nat}{ws:List (AY×AY)}{A B:List (List Cs)}{ps:List Dg}{h DY:A5}(Mk:DY.length=h.length+8+A.length+B.length+3)(Hf:∀n,h.length<=n->DY[n]?=(IV h cs ws A B ps)[n]?)(N:KC cs ws)(Ji:Hr cs A)(Jj:Hr cs B)(P:Ru cs.length ps):HZ (S2 h cs ws A B ps DY):=by
 refine⟨N,Ji,Jj,P,⟨h.length+4,?_,?_⟩,ej λi A7=>?_,ej λi A7=>?_,?_,?_,?_,?_⟩
 .have:=Tz Mk Hf (k:=2) (by lia);rw[ab4]at this;exact this
 .have:=Tz Mk Hf (k:=3) (by lia);rw[ab3]at this;exact this
 .have:=Tz Mk Hf (k:=4+i) (by have:i<A.length+1:=A7;lia);rw[ab1 (A:=A) h A7]at this;rw[show h.length+1+(4+i)=h.length+5+i by lia]at this;exact this
 .have:=Tz Mk Hf (k:=5+A.length+i) (by have:i<B.length+1:=A7;lia);rw[ab2 (B:=B) h A7]at this;rw[show h.length+1+(5+A.length+i)=h.length+6+A.length+i by lia]at this;exact this
 .have:=Tz Mk Hf (k:=6+A.length+B.length) (by lia);rw[ab5,show h.length+1+(6+A.length+B.length)=h.length+7+A.length+B.length by lia]at this;exact this
 .show((DY.take (h.length+8+A.length+B.length)).set h.length JC)[h.length]?=_;rw[JQ (by rw[JS];lia)]
 .show((DY.take (h.length+8+A.length+B.length)).set h.length JC).length<=h.length+8+A.length+B.length;rw[c3,JS];lia
 .show h.length+8+A.length+B.length+3<=h.length+8+A.length+B.length+5;lia
def aaZ{cs:List Nat}{ws:List (AY×AY)}{A B:List (List Cs)}{ps:List Dg}{h DY:A5}(Mk:DY.length=h.length+8+A.length+B.length+3)(Hf:∀n,h.length<=n->DY[n]?=(IV h cs ws A B ps)[n]?)(g:A5)(aem:2<=g.length):GG (S2 h cs ws A B ps DY) (DY++g) ⟨[],0,[],[],0⟩:=by
 have e:∀n o,DY[n]?=some o->(DY++g)[n]?=some o:=λn o x=>Cp DY x g;refine⟨λn o k ne=>?_,e _ _ ?_,e _ _ ?_,e _ _ ?_,e _ _ ?_,(λ_ x=>by cases x),RU,RU,(λ_ x=>by cases x),(λ_ x=>by cases x),(by decide),(by decide),?_,(λ_ x=>by cases x)⟩
 .have AW:=KH k;have Nn:n<h.length+8+A.length+B.length:=by
   have:((DY.take (h.length+8+A.length+B.length)).set h.length JC).length<=h.length+8+A.length+B.length:=by rw[c3,JS];lia
   exact Fn AW this
  have UG:n≠h.length:=λz=>by
   have:(S2 h cs ws A B ps DY).K[h.length]?=some JC:=by show((DY.take (h.length+8+A.length+B.length)).set h.length JC)[h.length]?=_;rw[JQ (by rw[JS];lia)]
   subst z;rw[this]at k;cases k;exact ne rfl
  rw[dN Mk Hf Nn UG]at k;exact e _ _ k
 .exact(Hf _ (C1 _)).trans (aau h)
 .have:=bF (cs:=cs) (ws:=ws) (A:=A) (B:=B) (ps:=ps) h 0;exact(Hf _ (by show h.length<=h.length+8+A.length+B.length;lia)).trans this
 .have:=bF (cs:=cs) (ws:=ws) (A:=A) (B:=B) (ps:=ps) h 1;exact(Hf _ (by show h.length<=h.length+8+A.length+B.length+1;lia)).trans this
 .have:=bF (cs:=cs) (ws:=ws) (A:=A) (B:=B) (ps:=ps) h 2;exact(Hf _ (by show h.length<=h.length+8+A.length+B.length+2;lia)).trans this
 .show h.length+8+A.length+B.length+5<=(DY++g).length;rw[EP];lia
def Ff(ns:List Int)(s1 s2 s3 s4 s5 C5 Cj DE F_ aV kK:Option W):BI:=[some (.Eb (Ba ns)),s1,s2,s3,s4,s5,C5,Cj,DE,F_,aV,kK,none,none,none,none,none]
def SW(z:Int):List Dg:=if z%2=1 then[some (0,0),some (1,0)]else[]
def aaE(z:Int){n:Nat}(AW:1<=n):Ru n (SW z):=by
 unfold SW
 split
 .refine⟨by simp,λp AT=>?_,by simp⟩;simp only[Gh,Option.some.injEq,Km,or_false]at AT;rcases AT with rfl|rfl<;>exact⟨by simp,AW⟩
 .exact⟨by simp,(λp AT=>by cases AT),RU⟩
def RK:List W:=[.tup [.str (As "teach"),.int 0],.tup [.str (As "turn"),.int 0]]
def y0{h:A5}{n:Nat}{a:List W}(e:h[n]?=some ⟨.lst,a⟩)(k:Nat)(AK:k<2)(AF:a.length<100):Hi (.ref n) (.int (k:Int)) h=.ok (.ref h.length,h++[⟨.lst,(FE k a).flatten⟩]):=by
 have c: -(2^63)<=(k:Int)/\(k:Int)<2^63:=by rw[j0];lia
 have l:((FE k a).flatten).length<=B4:=by
  have:k=0\/k=1:=by lia
  rcases this with rfl|rfl<;>simp[B4]<;>lia
 unfold Hi;simp only[Mm h e,if_pos c,Ob];exact Hj h l
def aaG{h:A5}{ρ:BI}{cell y:Int}(h1:ρ[1]?=some (some (.int cell)))(D9:∀h,Dv [.int cell,.int 6] h=.ok (.int y,h)):CB (A0 Hi (CO (Z (Bn (Z (pu (.str (As "teach"))) (Z (pu (.int 0)) A2))) (Z (Bn (Z (pu (.str (As "turn"))) (Z (pu (.int 0)) A2))) A2))) (A0 BZ (Ap 2 Dv (Z (J 1) (Z (pu (.int 6)) A2))) (pu (.int 2)))) ρ h=.ok (.ref h.length,h++[⟨.lst,(SW y).map CV⟩]):=by
 obtain⟨k,AK,D1⟩:=Ka y (n:=2) (by decide);have D1:y%2=(k:Int):=D1;have AE:(SW y).map CV=(FE k RK).flatten:=by
  unfold SW;rw[D1];have:k=0\/k=1:=by lia
  rcases this with rfl|rfl<;>rfl
 have CP:nw .lst RK h=.ok (.ref h.length,h++[⟨.lst,RK⟩]):=Hj h (by decide);have m:=y0 (h:=h++[⟨.lst,RK⟩]) (n:=h.length) (a:=RK) (by simp) k AK (by decide);have l:CO (Z (Bn (Z (pu (.str (As "teach"))) (Z (pu (.int 0)) A2))) (Z (Bn (Z (pu (.str (As "turn"))) (Z (pu (.int 0)) A2))) A2)) ρ h=.ok (.ref h.length,h++[⟨.lst,RK⟩]):=CP;rw[IK,Dw,l,AH];simp only[Dw,IX,DF,DG,v_var,h1,DH,AH,E4,D7,EQ,G9,if_true,D9,Kx,if_pos (show(0:Int)<2 by decide),D1,m];rw[AE,RI (ws:=(FE k RK).flatten) h _ (SX (Ke (Gk _ _) _)) (by simp) (by simp) (by rw[<-AE];exact Lm _ _ y4)]
def qd{ns:List Int}(AF:ns.length<=63){h:A5}{ρ:BI}(h0:ρ[0]?=some (some (.Eb (Ba ns)))):∃l:List Int,l.length<=50/\Dc (CB (A0 addW (CO (Z (pu (.int 1)) (Z (pu (.int 8)) A2))) (HJ (J 0) (Ft (pu (.int 16))) (pu none)))) ρ h=.ok (G4 (.ref h.length),h++[⟨.lst,Ba l⟩]):=by
 obtain⟨l,el⟩:∃l,M6 (Ba ns) (some 16) none=Ba l:=gV ns _ _;have Ah:l.length<=47:=by
  have e:(M6 (Ba ns) (some 16) none).length=l.length:=by rw[el];simp[Ba]
  rw[<-e];unfold M6;have:Ez.CS (Ba ns).length 0 (some 16)=min 16 (Ba ns).length:=Ez.aad _ _ 16;rw[this,Ez.aae];simp[Ba];lia
 refine⟨1::8::l,by simp;lia,?_⟩;have CP:CO (Z (pu (.int 1)) (Z (pu (.int 8)) A2)) ρ h=.ok (.ref h.length,h++[⟨.lst,[.int 1,.int 8]⟩]):=rfl;have s1:HJ (J 0) (Ft (pu (.int 16))) (pu none) ρ (h++[⟨.lst,[.int 1,.int 8]⟩])=.ok (.ref (h.length+1),h++[⟨.lst,[.int 1,.int 8]⟩]++[⟨.lst,Ba l⟩]):=by rw[VT,v_var,h0,DH,AH,VS,AH,E4,AH];unfold RG;simp only[aa,el];rw[Hj _ (by simp[Ba,B4];lia)];simp
 have a1:=b1 (h:=h++[⟨.lst,[.int 1,.int 8]⟩]++[⟨.lst,Ba l⟩]) (i:=h.length) (j:=h.length+1) (a:=[.int 1,.int 8]) (b:=Ba l) (by simp) (by simp) (by simp[Ba,B4];lia);have m:CB (A0 addW (CO (Z (pu (.int 1)) (Z (pu (.int 8)) A2))) (HJ (J 0) (Ft (pu (.int 16))) (pu none))) ρ h=.ok (.ref h.length,h++[⟨.lst,Ba (1::8::l)⟩]):=by rw[IK,Dw,CP,AH,s1,AH,a1,AH];exact RI (ws:=Ba (1::8::l)) h _ (SX (Ke (Ke (Gk _ _) _) _)) (by simp) (by simp[Ba]) (ZP _)
 exact Mj (ws:=Ba (1::8::l)) (by simp) m
def xP{ns:List Int}(AF:ns.length<=63):Ends (hx [.Eb (Ba ns)] []) λw _=>w=.AM true:=by
 obtain⟨C2,cW⟩:∃C2:A5,C2=[]:=⟨_,rfl⟩;rw[<-cW];have KB:C2.length=0:=by rw[cW];rfl
 obtain⟨cell,ec⟩:=gI C2 ns 0;have ec:KZ [.Eb (Ba ns),.int 0] C2=.ok (.int cell,C2):=ec;obtain⟨cs,⟨BR,XW⟩,Fh,em⟩:=qI cell;have em:=em C2;obtain⟨H1,cX⟩:∃H1:A5,H1=C2++[⟨.lst,BX cs⟩]:=⟨_,rfl⟩;rw[<-cX,KB]at em;have CR:H1.length=1:=by rw[cX];simp[KB]
 have HO:H1[0]?=some ⟨.lst,BX cs⟩:=by rw[cX];have:=Go C2 [⟨.lst,BX cs⟩];rw[KB]at this;exact this
 obtain⟨ws,N,⟨Xc,tg,X5⟩,DD⟩:=abF cell cs BR XW Fh HO;obtain⟨AS,WX⟩:∃AS:A5,AS=H1++[⟨.lst,ws.map Bs⟩]:=⟨_,rfl⟩;rw[<-WX,CR]at DD;have B8:AS.length=2:=by rw[WX];simp[CR]
 have F5:AS[1]?=some ⟨.lst,ws.map Bs⟩:=by rw[WX];have:=Go H1 [⟨.lst,ws.map Bs⟩];rw[CR]at this;exact this
 have oC:AS[0]?=some ⟨.lst,BX cs⟩:=by rw[WX];exact Cp H1 HO _
 obtain⟨O,g6⟩:∃O,O=(Cg cs cs.length).filter λd=>(EE ws d).isNone:=⟨_,rfl⟩;have G2:=yb N oC F5;rw[<-g6]at G2;obtain⟨Bl,TN⟩:∃Bl:A5,Bl=AS++[⟨.lst,O.map AR⟩]:=⟨_,rfl⟩;rw[<-TN,B8]at G2;have af3:Bl.length=3:=by rw[TN];simp[B8]
 have adJ:Bl[2]?=some ⟨.lst,O.map AR⟩:=by rw[TN];have:=Go AS [⟨.lst,O.map AR⟩];rw[B8]at this;exact this
 have oD:Bl[0]?=some ⟨.lst,BX cs⟩:=by rw[TN];exact Cp AS oC _
 have oE:Bl[1]?=some ⟨.lst,ws.map Bs⟩:=by rw[TN];exact Cp AS F5 _
 obtain⟨po,GN,g,A,B,Ji,Jj,N7,QZ,Au⟩:=r7 AF BR XW Fh oD;obtain⟨CM,dF⟩:∃CM:A5,CM=Bl++g:=⟨_,rfl⟩;rw[<-dF]at N7 QZ Au;have Ze:=Ji.1;have YT:=Jj.1;have Yz:Bl<+: CM:=by rw[dF];exact Gk _ _
 have CG:3<=CM.length:=by rw[dF,EP];lia
 obtain⟨y,D9⟩:=Mr cell 6 (by lia);have D9:∀h,Dv [.int cell,.int 6] h=.ok (.int y,h):=D9;have P:=aaE y BR;obtain⟨ps,re⟩:∃ps,ps=SW y:=⟨_,rfl⟩;have Ai:=aaG (h:=CM) (ρ:=Ff ns (some (.int cell)) (some (.ref 0)) (some (.ref 1)) (some (.ref 2)) (some (.ref po)) (some (.ref GN)) none none none none none) rfl D9;rw[<-re]at P Ai;obtain⟨DX,Ro⟩:∃DX:A5,DX=CM++[⟨.lst,ps.map CV⟩]:=⟨_,rfl⟩;rw[<-Ro]at Ai;have af4:DX.length=CM.length+1:=by rw[Ro];simp
 have bV:DX[CM.length]?=some ⟨.lst,ps.map CV⟩:=by rw[Ro];simp
 have pQ:ES DX po A:=by rw[Ro];exact N7.more _
 have pS:ES DX GN B:=by rw[Ro];exact QZ.more _
 obtain⟨a1,Xh⟩:∃a1,a1=DX.length:=⟨_,rfl⟩;obtain⟨Qy,Tn⟩:∃ρ,ρ=Ff ns (some (.int cell)) (some (.ref 0)) (some (.ref 1)) (some (.ref 2)) (some (.ref po)) (some (.ref GN)) (some (.ref CM.length)) none none none none:=⟨_,rfl⟩;have k1:=eK (i:=5) XW Ji pQ (ρ:=Qy) (by rw[Tn];rfl);rw[<-Xh]at k1;have k2:=eK (i:=6) XW Jj (pS.more (Eh a1 A)) (ρ:=Qy) (by rw[Tn];rfl);obtain⟨a2,rP⟩:∃a2,a2=a1+(A.length+1):=⟨_,rfl⟩;have Wf:(DX++Eh a1 A).length=a2:=by rw[EP,L8,<-Xh,<-rP]
 rw[Wf]at k2;obtain⟨Bi,rQ⟩:∃Bi,Bi=a2+(B.length+1):=⟨_,rfl⟩;obtain⟨X,P9⟩:∃X:A5,X=DX++Eh a1 A++Eh a2 B:=⟨_,rfl⟩;have U2:X.length=Bi:=by rw[P9,EP,Wf,L8,rQ]
 rw[<-P9]at k2;have adM:X[CM.length]?=some ⟨.lst,ps.map CV⟩:=by rw[P9];exact Cp _ (Cp _ bV _) _
 have iG:=P.l;have k3:Db [.ref CM.length] X=.ok (.ref Bi,X++[⟨.lst,ps.map CV⟩]):=by rw[QO (I2 _ adM) (by rw[DV];unfold B4;lia),U2]
 obtain⟨Eo,NU⟩:∃Eo:A5,Eo=X++[⟨.lst,ps.map CV⟩,⟨.lst,[.ref a1,.ref a2,.ref Bi]⟩]:=⟨_,rfl⟩;have b5:DX<+: Eo:=by rw[NU,P9];exact Ke (Ke (Gk _ _) _) _
 have Wd:Eo.length=Bi+2:=by rw[NU,EP,U2];rfl
 have bW:Eo[Bi+1]?=some ⟨.lst,[.ref a1,.ref a2,.ref Bi]⟩:=by rw[NU,<-U2,PE];rfl
 have oF:Eo[Bi]?=some ⟨.lst,ps.map CV⟩:=by rw[NU,<-U2,Go];rfl
 have vq:CB (CO (Z (EO 1 [] (Dc (J 5)) (AC 0) (pu true) (CB (B0 Db (Z (J 0) A2)))) (Z (EO 1 [] (Dc (J 6)) (AC 0) (pu true) (CB (B0 Db (Z (J 0) A2)))) (Z (B0 Db (Z (J 7) A2)) A2)))) Qy DX=.ok (.ref (Bi+1),Eo):=by
  have aN:∀h',J 7 Qy h'=.ok (.ref CM.length,h'):=by rw[Tn];exact λ_=>rfl
  rw[IK,MX,DF,k1,AH,DF,k2,AH,DF,HN,DF,aN,AH,DG,AH,AH,k3,AH,DG,AH,AH,AH,AH,Hj _ (by simp[B4]),AH];have:(X++[⟨.lst,ps.map CV⟩]:A5).length=Bi+1:=by rw[EP,U2];rfl
  rw[this,FS];have e:X++([⟨.lst,ps.map CV⟩]++[⟨.lst,[.ref a1,.ref a2,.ref Bi]⟩])=Eo:=by rw[NU];rfl
  rw[e];exact abw b5 (by lia) bW rfl
 have b4:CM<+: Eo:=by rw[Ro]at b5;exact(Gk _ _).trans b5
 have adK:=FY (Yz.trans b4) oD;have adL:=FY (Yz.trans b4) oE;have few:=N.few;have q1:Db [.ref 0] Eo=.ok (.ref (Bi+2),Eo++[⟨.lst,BX cs⟩]):=by rw[QO (I2 _ adK) (by simp[BX,B4];lia),Wd]
 have q2:Db [.ref 1] (Eo++[⟨.lst,BX cs⟩])=.ok (.ref (Bi+3),Eo++[⟨.lst,BX cs⟩]++[⟨.lst,ws.map Bs⟩]):=by rw[QO (I2 _ (Cp _ adL _)) (by simp[B4];lia),EP,Wd];rfl
 obtain⟨G,Tu⟩:∃G:A5,G=Eo++[⟨.lst,BX cs⟩]++[⟨.lst,ws.map Bs⟩]:=⟨_,rfl⟩;rw[<-Tu]at q2;have dO:G.length=Bi+4:=by rw[Tu];simp[Wd]
 have nm:=jb N (h:=G) (a:=Bi+2) (b:=Bi+3) (by rw[Tu,<-Wd];exact Cp _ (Go Eo _) _) (by rw[Tu,FS,show Bi+3=Eo.length+1 by lia,PE];rfl);obtain⟨Cm,TO⟩:∃Cm:A5,Cm=G++[Ln cs ws (G.length+1),H8 ws]:=⟨_,rfl⟩;rw[<-TO]at nm;have af5:Cm.length=Bi+6:=by rw[TO];simp[dO]
 have Na:Eo<+: Cm:=by rw[TO,Tu];exact Ke (Ke (Gk _ _) _) _
 have Wi:Ic Cm (Bi+4) cs ws:=by
  refine⟨G.length+1,?_,?_⟩
  .rw[TO,<-dO,Go];rfl
  .rw[TO,PE];rfl
 have pR:ES Cm a1 A:=by
  have b:ES (DX++Eh a1 A) a1 A:=by rw[Xh];exact ei DX
  refine b.to λn AW=>?_;have pp:DX++Eh a1 A<+: Cm:=(by rw[NU,P9];exact Ke (Gk _ _) _:DX++Eh a1 A<+: Eo).trans Na;obtain⟨r,BJ⟩:=pp;rw[<-BJ,EZ AW]
 have pz:ES Cm a2 B:=by
  have b:ES (DX++Eh a1 A++Eh a2 B) a2 B:=by have:=ei (B:=B) (DX++Eh a1 A);rw[Wf]at this;exact this
  rw[<-P9]at b;refine b.to λn AW=>?_;have pp:X<+: Cm:=(by rw[NU];exact Gk _ _:X<+: Eo).trans Na;obtain⟨r,BJ⟩:=pp;rw[<-BJ,EZ AW]
 have bM:=aa_ N Ji Jj P Wi pR pz (FY Na oF);obtain⟨GE,WY⟩:∃GE,GE=IV Cm cs ws A B ps:=⟨_,rfl⟩;have bM:R3 [.ref Cm.length,.ref (Bi+4),.ref a1,.ref a2,.ref Bi] (Cm++[⟨.ins "Run" [],[]⟩])=.ok (.non,GE):=by rw[WY];exact bM
 obtain⟨Pn,To⟩:∃ρ,ρ=Ff ns (some (.int cell)) (some (.ref 0)) (some (.ref 1)) (some (.ref 2)) (some (.ref po)) (some (.ref GN)) (some (.ref CM.length)) (some (.ref (Bi+1))) none none none:=⟨_,rfl⟩;have mk:IS "Run" 4 R3 (Z (IS "Net" 2 Mp (Z (B0 Db (Z (J 2) A2)) (Z (B0 Db (Z (J 3) A2)) A2))) (Z (A0 AI (J 8) (pu (.int 0))) (Z (A0 AI (J 8) (pu (.int 1))) (Z (A0 AI (J 8) (pu (.int 2))) A2)))) Pn Eo=.ok (.ref Cm.length,GE):=by
  have v2:∀h',J 2 Pn h'=.ok (.ref 0,h'):=by rw[To];exact λ_=>rfl
  have MW:∀h',J 3 Pn h'=.ok (.ref 1,h'):=by rw[To];exact λ_=>rfl
  have VP:∀h',J 8 Pn h'=.ok (.ref (Bi+1),h'):=by rw[To];exact λ_=>rfl
  have xw:IS "Net" 2 Mp (Z (B0 Db (Z (J 2) A2)) (Z (B0 Db (Z (J 3) A2)) A2)) Pn Eo=.ok (.ref G.length,Cm):=by refine Y2 (us:=[.ref (Bi+2),.ref (Bi+3)]) (h1:=G) ?_ rfl nm;rw[DF,HN,DF,v2,AH,DG,AH,AH,q1,AH,DF,HN,DF,MW,AH,DG,AH,AH,q2,AH,DG,AH,AH]
  have bX:=FY Na bW;have FA:AI (.ref (Bi+1)) (.int 0) Cm=.ok (.ref a1,Cm):=GM (k:=0) bX rfl;have B1:AI (.ref (Bi+1)) (.int 1) Cm=.ok (.ref a2,Cm):=GM (k:=1) bX rfl;have BW:AI (.ref (Bi+1)) (.int 2) Cm=.ok (.ref Bi,Cm):=GM (k:=2) bX rfl;refine Y2 (us:=[.ref (Bi+4),.ref a1,.ref a2,.ref Bi]) (h1:=Cm) ?_ rfl bM;rw[DF,xw,AH];simp only[DF,DG,Dw,VP,E4,AH,FA,B1,BW,dO]
 have pT:GE.length=Cm.length+8+A.length+B.length+3:=by rw[WY];exact aas Cm
 have SD:∀n,n<Cm.length->GE[n]?=Cm[n]?:=λn AW=>by rw[WY];exact aat Cm AW
 have adQ:=FY Na bW;have oI:GE[Bi+1]?=some ⟨.lst,[.ref a1,.ref a2,.ref Bi]⟩:=by rw[SD _ (by lia)];exact adQ
 have aeL:GE[Bi]?=some ⟨.lst,ps.map CV⟩:=by rw[SD _ (by lia)];exact FY Na oF
 have jG:DX++Eh a1 A<+: Cm:=(by rw[NU,P9];exact Ke (Gk _ _) _:DX++Eh a1 A<+: Eo).trans Na;have adN:GE[a1]?=some ⟨.lst,Gd (a1+1) A.length⟩:=by rw[SD _ (by lia)];exact FY jG (by rw[Xh,Go];rfl)
 obtain⟨cT,rO⟩:∃cT,(Eh a1 A)[1]?=some (F0 cT):=by
  cases Qd:A with
  |nil=>rw[Qd]at Ze;simp at Ze;lia
  |cons x r=>exact⟨x,rfl⟩
 have oH:GE[a1+1]?=some (F0 cT):=by rw[SD _ (by lia)];exact FY jG (by rw[show a1+1=DX.length+1 by lia,PE];exact rO)
 have ye:X<+: Cm:=(by rw[NU];exact Gk _ _:X<+: Eo).trans Na;have adO:GE[a2]?=some ⟨.lst,Gd (a2+1) B.length⟩:=by rw[SD _ (by lia)];refine FY ye ?_;rw[P9,<-Wf,Go];rfl
 obtain⟨Qz,dt⟩:∃ρ,ρ=Ff ns (some (.int cell)) (some (.ref 0)) (some (.ref 1)) (some (.ref 2)) (some (.ref po)) (some (.ref GN)) (some (.ref CM.length)) (some (.ref (Bi+1))) (some (.ref Cm.length)) none none:=⟨_,rfl⟩;have VP:∀h',J 8 Qz h'=.ok (.ref (Bi+1),h'):=by rw[dt];exact λ_=>rfl
 obtain⟨O9,Rq⟩:∃BO:A5,BO=GE.set (a1+1) ⟨.lst,[]⟩:=⟨_,rfl⟩;have G7:E1 OL (A0 AI (A0 AI (J 8) (pu (.int 0))) (pu (.int 0))) A2 Qz GE=.ok (.non,O9):=by rw[Rq];have FA:AI (.ref (Bi+1)) (.int 0) GE=.ok (.ref a1,GE):=GM (k:=0) oI rfl;have B1:AI (.ref a1) (.int 0) GE=.ok (.ref (a1+1),GE):=GM (k:=0) adN (by rw[abD (by lia)]);exact MI (us:=[]) (h1:=GE) (h2:=GE) (by rw[Dw,Dw,VP,AH,E4,AH,FA,AH,E4,AH,B1]) oH rfl oH rfl (by decide)
 have oJ:O9[Bi+1]?=some ⟨.lst,[.ref a1,.ref a2,.ref Bi]⟩:=by rw[Rq,FJ (by lia)];exact oI
 have oG:O9[a2]?=some ⟨.lst,Gd (a2+1) B.length⟩:=by rw[Rq,FJ (by lia)];exact adO
 obtain⟨OA,GQ⟩:∃BO:A5,BO=O9.set a2 ⟨.lst,[]⟩:=⟨_,rfl⟩;have Gg:E1 OL (A0 AI (J 8) (pu (.int 1))) A2 Qz O9=.ok (.non,OA):=by rw[GQ];have FA:AI (.ref (Bi+1)) (.int 1) O9=.ok (.ref a2,O9):=GM (k:=1) oJ rfl;exact MI (us:=[]) (h1:=O9) (h2:=O9) (by rw[Dw,VP,AH,E4,AH,FA]) oG rfl oG rfl (by decide)
 have adP:OA[Bi+1]?=some ⟨.lst,[.ref a1,.ref a2,.ref Bi]⟩:=by rw[GQ,FJ (by lia)];exact oJ
 have oB:OA[Bi]?=some ⟨.lst,ps.map CV⟩:=by rw[GQ,FJ (by lia),Rq,FJ (by lia)];exact aeL
 obtain⟨DY,dG⟩:∃BO:A5,BO=OA.set Bi ⟨.lst,ps.map CV++[.tup [.str (As "wait")]]⟩:=⟨_,rfl⟩;have Qt:E1 FU (A0 AI (J 8) (pu (.int 2))) (Z (Bn (Z (pu (.str (As "wait"))) A2)) A2) Qz OA=.ok (.non,DY):=by rw[dG];have FA:AI (.ref (Bi+1)) (.int 2) OA=.ok (.ref Bi,OA):=GM (k:=2) adP rfl;exact MI (us:=[.tup [.str (As "wait")]]) (h1:=OA) (h2:=OA) (by rw[Dw,VP,AH,E4,AH,FA]) oB (by simp[B4]) oB rfl (by simp[B4];lia)
 have We:DY.length=Cm.length+8+A.length+B.length+3:=by rw[dG,GQ,Rq];simp[pT]
 have keep:∀n,n≠a1+1->n≠a2->n≠Bi->DY[n]?=GE[n]?:=λn D6 CZ Ew=>by rw[dG,FJ (λz=>Ew z.symm),GQ,FJ (λz=>CZ z.symm),Rq,FJ (λz=>D6 z.symm)]
 have Hf:∀n,Cm.length<=n->DY[n]?=(IV Cm cs ws A B ps)[n]?:=λn AW=>by rw[keep n (by lia) (by lia) (by lia),WY]
 have c:=qi We Hf N Ji Jj P;obtain⟨C,M8⟩:∃C,C=S2 Cm cs ws A B ps DY:=⟨_,rfl⟩;rw[<-M8]at c;have low:∀n,n<CM.length->C.K[n]?=CM[n]?:=λn AW=>by rw[M8,dN We Hf (by lia) (by lia),keep n (by lia) (by lia) (by lia),SD n (by lia)];obtain⟨r,BJ⟩:=b4.trans Na;rw[<-BJ,EZ AW]
 have q4:C.M=Cm.length+8+A.length+B.length:=by rw[M8];rfl
 have aez:C.T=C.M+5:=by rw[M8];rfl
 have k:U3 C po (C.M+3):=by
  refine⟨⟨?_,?_,C1 _,by lia⟩,?_,?_⟩
  .rw[low 1 (by lia),M8];exact FY Yz oE
  .have:=N7.to low;rw[M8]at this |-;exact this
  .have UH:outD C=O:=by rw[M8,g6];rfl
   rw[low 2 (by lia),UH];exact FY Yz adJ
  .have Y3:Xc∈outD C:=by
     refine i1.mpr ⟨by rw[M8];exact tg,?_⟩;have:C.ws=ws:=by rw[M8];rfl
     rw[this];cases q:EE ws Xc with
     |none=>rfl
     |some x=>exact absurd (cj q).1 X5
   exact λz=>by rw[z]at Y3;cases Y3
 obtain⟨L3,WW⟩:∃L3:A5,L3=DY++[⟨.B3 [],[]⟩]:=⟨_,rfl⟩;have af1:L3.length=C.M+4:=by rw[WW];simp[We,q4]
 have q5:C.r=Cm.length:=by rw[M8];rfl
 have F2:Dm ns C po GN CM.length (Bi+1) (C.M+3) 0 (some (.int cell)) none none none none none=Ff ns (some (.int cell)) (some (.ref 0)) (some (.ref 1)) (some (.ref 2)) (some (.ref po)) (some (.ref GN)) (some (.ref CM.length)) (some (.ref (Bi+1))) (some (.ref Cm.length)) (some (.ref (C.M+3))) (some (.int 0)):=by unfold Dm Ff;rw[q5];rfl
 obtain⟨cells,lc,rW⟩:=qd AF (ρ:=Dm ns C po GN CM.length (Bi+1) (C.M+3) 0 (some (.int cell)) none none none none none) (h:=L3) rfl;have q8:Gu C (C.M+3) (L3++[⟨.lst,Ba cells⟩]) ⟨[],0,[],[],0⟩:=by
  refine⟨?_,rfl,(λ_ x=>by cases x),?_,(λ_ x=>by cases x)⟩
  .rw[WW,FS,M8];exact aaZ We Hf _ (by simp)
  .refine Cp _ ?_ _;rw[WW,show C.M+3=DY.length by lia,Go];rfl
 have IH:=ac8 (x6:=GN) (x7:=CM.length) (x8:=Bi+1) k c lc (p:=L3.length) (by lia) (by lia) (by lia) q8 rfl rfl (by rw[Go];rfl) rW;obtain⟨f,hz,KN,rfl⟩:=IH;rw[F2]at KN;have t1:AZ (Ap 2 KZ (Z (J 0) (Z (pu (.int 0)) A2))) (AC 1) (Ff ns none none none none none none none none none none none) C2=.ok (.AP (Ff ns (some (.int cell)) none none none none none none none none none none),C2):=by simp[Ff,ec]
 have Ct:AZ (Ap 1 R8 (Z (J 1) A2)) (AC 2) (Ff ns (some (.int cell)) none none none none none none none none none none) C2=.ok (.AP (Ff ns (some (.int cell)) (some (.ref 0)) none none none none none none none none none),H1):=by simp[Ff,em]
 have t3:AZ (Ap 2 Mq (Z (J 1) (Z (J 2) A2))) (AC 3) (Ff ns (some (.int cell)) (some (.ref 0)) none none none none none none none none none) H1=.ok (.AP (Ff ns (some (.int cell)) (some (.ref 0)) (some (.ref 1)) none none none none none none none none),AS):=by simp[Ff,DD]
 have Pi:AZ (Ap 2 SN (Z (J 2) (Z (J 3) A2))) (AC 4) (Ff ns (some (.int cell)) (some (.ref 0)) (some (.ref 1)) none none none none none none none none) AS=.ok (.AP (Ff ns (some (.int cell)) (some (.ref 0)) (some (.ref 1)) (some (.ref 2)) none none none none none none none),Bl):=by simp[Ff,G2]
 have Lb:Mn (Ap 2 SK (Z (J 0) (Z (J 2) A2))) (FP [(AC 5),(AC 6)]) (Ff ns (some (.int cell)) (some (.ref 0)) (some (.ref 1)) (some (.ref 2)) none none none none none none none) Bl=.ok (.AP (Ff ns (some (.int cell)) (some (.ref 0)) (some (.ref 1)) (some (.ref 2)) (some (.ref po)) (some (.ref GN)) none none none none none),CM):=by simp[Ff,Au]
 have My:AZ (Jf false) (AC 10) Qz DY=.ok (.AP (Ff ns (some (.int cell)) (some (.ref 0)) (some (.ref 1)) (some (.ref 2)) (some (.ref po)) (some (.ref GN)) (some (.ref CM.length)) (some (.ref (Bi+1))) (some (.ref Cm.length)) (some (.ref (C.M+3))) none),L3):=by have:Jf false Qz DY=.ok (.ref DY.length,DY++[⟨.B3 [],[]⟩]):=rfl;rw[EY,this,AH,<-WW,show DY.length=C.M+3 by lia,dt];rfl
 have CK:hx [.Eb (Ba ns)] C2=(Q_ (Ff ns none none none none none none none none none none none) C2).bind outF:=rfl;rw[CK]
 have Au:Q_=(AO (AZ (Ap 2 KZ (Z (J 0) (Z (pu (.int 0)) A2))) (AC 1))
  (AO (AZ (Ap 1 R8 (Z (J 1) A2)) (AC 2))
  (AO (AZ (Ap 2 Mq (Z (J 1) (Z (J 2) A2))) (AC 3))
  (AO (AZ (Ap 2 SN (Z (J 2) (Z (J 3) A2))) (AC 4))
  (AO (Mn (Ap 2 SK (Z (J 0) (Z (J 2) A2))) (FP [(AC 5),(AC 6)]))
  (AO (AZ (CB (A0 Hi (CO (Z (Bn (Z (pu (.str (As "teach"))) (Z (pu (.int 0)) A2))) (Z (Bn (Z (pu (.str (As "turn"))) (Z (pu (.int 0)) A2))) A2))) (A0 BZ (Ap 2 Dv (Z (J 1) (Z (pu (.int 6)) A2))) (pu (.int 2))))) (AC 7))
  (AO (AZ (CB (CO (Z (EO 1 [] (Dc (J 5)) (AC 0) (pu true) (CB (B0 Db (Z (J 0) A2)))) (Z (EO 1 [] (Dc (J 6)) (AC 0) (pu true) (CB (B0 Db (Z (J 0) A2)))) (Z (B0 Db (Z (J 7) A2)) A2))))) (AC 8))
  (AO (AZ (IS "Run" 4 R3 (Z (IS "Net" 2 Mp (Z (B0 Db (Z (J 2) A2)) (Z (B0 Db (Z (J 3) A2)) A2))) (Z (A0 AI (J 8) (pu (.int 0))) (Z (A0 AI (J 8) (pu (.int 1))) (Z (A0 AI (J 8) (pu (.int 2))) A2))))) (AC 9))
  (AO (Fs (E1 OL (A0 AI (A0 AI (J 8) (pu (.int 0))) (pu (.int 0))) A2))
  (AO (Fs (E1 OL (A0 AI (J 8) (pu (.int 1))) A2))
  (AO (Fs (E1 FU (A0 AI (J 8) (pu (.int 2))) (Z (Bn (Z (pu (.str (As "wait"))) A2)) A2)))
  (AO (AZ (Jf false) (AC 10))
  (AO (AZ (pu (.int 0)) (AC 11))
  (AO (Ed (Dc (CB (A0 addW (CO (Z (pu (.int 1)) (Z (pu (.int 8)) A2))) (HJ (J 0) (Ft (pu (.int 16))) (pu none))))) (AC 1) UO)
  (B5 (Ap 4 R7 (Z (J 9) (Z (J 3) (Z (J 5) (Z (J 10) A2)))))))))))))))))))):=rfl
 have Jr:∀{m:B9},m (Ff ns (some (.int cell)) (some (.ref 0)) (some (.ref 1)) (some (.ref 2)) (some (.ref po)) (some (.ref GN)) none none none none none) CM=.ok (.ref CM.length,DX)->AZ m (AC 7) (Ff ns (some (.int cell)) (some (.ref 0)) (some (.ref 1)) (some (.ref 2)) (some (.ref po)) (some (.ref GN)) none none none none none) CM=.ok (.AP Qy,DX):=λ{m} q=>by rw[EY,q,Tn];rfl
 have Sc:∀{m:B9},m Qy DX=.ok (.ref (Bi+1),Eo)->AZ m (AC 8) Qy DX=.ok (.AP Pn,Eo):=λ{m} q=>by rw[EY,q,Tn,To];rfl
 have Sd:∀{m:B9},m Pn Eo=.ok (.ref Cm.length,GE)->AZ m (AC 9) Pn Eo=.ok (.AP Qz,GE):=λ{m} q=>by rw[EY,q,To,dt];rfl
 have Jq:AZ (pu (.int 0)) (AC 11) (Ff ns (some (.int cell)) (some (.ref 0)) (some (.ref 1)) (some (.ref 2)) (some (.ref po)) (some (.ref GN)) (some (.ref CM.length)) (some (.ref (Bi+1))) (some (.ref Cm.length)) (some (.ref (C.M+3))) none) L3=.ok (.AP (Ff ns (some (.int cell)) (some (.ref 0)) (some (.ref 1)) (some (.ref 2)) (some (.ref po)) (some (.ref GN)) (some (.ref CM.length)) (some (.ref (Bi+1))) (some (.ref Cm.length)) (some (.ref (C.M+3))) (some (.int 0))),L3):=rfl;rw[Au,BD,t1,AH,BN,BD,Ct,AH,BN,BD,t3,AH,BN,BD,Pi,AH,BN,BD,Lb,AH,BN,BD,Jr Ai,AH,BN,BD,Sc vq,AH,BN,BD,Sd mk,AH,BN,BD,Lc,G7,AH,AH,BN,BD,Lc,Gg,AH,AH,BN,BD,Lc,Qt,AH,AH,BN,BD,My,AH,BN,BD,Jq,AH,BN,KN];exact⟨_,_,rfl,rfl⟩
def abV{P:Bh}{w:BP}{K:Ad}{mg:Str->Option A3}{f:A4}{Fu CU Hy pm cd Cv:A3}{Di an:Option A4}{C9:Array (Option A3)}(T:DR K mg)(a:Kr K Fm "law"=some (some (.ref f)))(l:K.lookup f=some ⟨Fu,Di,.func (JT "law" "law" (LA JM) (JX JM) (Bt JM) .none CU Hy pm an cd Cv),C9⟩)(c:MQ K cd "law"=true)(k:JP K (.ref f)=true) :
  (∃(f:A4)(Fu:A3)(Di an:Option A4)(CU Hy pm cd Cv:A3)(C9:Array (Option A3)),Kr K Fm "law"=some (some (.ref f))/\K.lookup f=some ⟨Fu,Di,.func (JT "law" "law" (LA JM) (JX JM) (Bt JM) .none CU Hy pm an cd Cv),C9⟩/\MQ K cd "law"=true/\JP K (.ref f)=true)/\∀base:Ar,CN P w K mg base "law" JM ["_law_script","_law_cell","_law_counts_here","_law_wires_here","_law_outer_here","_law_old","_law_new","_law_plan","_law_handed","_law_run","_law_letters","_law_came","_law_number","_law_door","_law_address","_law_found","_law_going"] 11 Q_:=
 ⟨⟨f,Fu,Di,an,CU,Hy,pm,cd,Cv,C9,a,l,c,k⟩,λbase=>r3 _ _ base T⟩
def abj{l:c4}{q:Bh}{loose:List Str}{KG:(Str->Option A3)->Ar->Prop}{M4:BP->Ar->Prop}{d:DefRec}{K:Params->Ad}(AW:l.most=some 63)(Qm:d.params.defaults=[])(hd:d.name="law")(TQ:∀(w:BP)(h:Ar),M4 w h->(K w.params).In h)(T:∀(w:BP)(mg:Str->Option A3)(h:Ar),(K w.params).In h->h.Ns Fm mg->(∃(f:A4)(Fu:A3)(Di an:Option A4)(CU Hy pm cd Cv:A3)(C9:Array (Option A3)),Kr (K w.params) Fm "law"=some (some (.ref f))/\(K w.params).lookup f=some ⟨Fu,Di,.func (JT "law" "law" (LA JM) (JX JM) (Bt JM) .none CU Hy pm an cd Cv),C9⟩/\MQ (K w.params) cd "law"=true/\JP (K w.params) (.ref f)=true)/\∀base:Ar,CN l.prog w (K w.params) mg base "law" JM ["_law_script","_law_cell","_law_counts_here","_law_wires_here","_law_outer_here","_law_old","_law_new","_law_plan","_law_handed","_law_run","_law_letters","_law_came","_law_number","_law_door","_law_address","_law_found","_law_going"] 11 Q_) :
  cR q loose KG M4 l.row.toRowW d [] (λf vs=>WH f vs):=
 abi (st:=JM) (x:="law") (k:=11) (m:=Q_) AW Qm ⟨rfl,by decide,by decide⟩ mu hd TQ T λns AF=>xP AF
end Fo
end
namespace PySem.W.Fast
def tw7695993344663005937:=0
def tw17984635084392077594:=0
def tw7296796697147251518:=0
def tw3429021450027656295:=0
def tw4821072378550287939:=0
def tw15818996464151991743:=0
def tw13783837342664775408:=0
def tw9947063782841181618:=0
def tw4483209392563989786:=0
def tw16157502621879481398:=0
def tw11039950387708256266:=0
def tw16708329137257823960:=0
def tw5174186971727148215:=0
def tw14593354279483195091:=0
def tw4608100334033552095:=0
def tw10746390037489729133:=0
def tw8587622085138604679:=0
def tw9046527986054290179:=0
def tw9782470302770219769:=0
def tw1355867603630740696:=0
def tw8696193393649557279:=0
def tw12323152816008919994:=0
def tw8682850162033063076:=0
def tw15805096187094814643:=0
def tw2768435814904126214:=0
def tw1536905809481847323:=0
def tw5389586377155343249:=0
def tw9633415938894561921:=0
def tw5960125980574620640:=0
def tw1555938176334568705:=0
def tw11628073227336864398:=0
def tw14712900132116803552:=0
def tw1006380270572607339:=0
def tw7859208552207526230:=0
def tw186568331179266344:=0
def tw9120694507274520631:=0
def tw8890979631705009979:=0
def tw17894300479748388968:=0
def tw13215444650502503078:=0
def tw3621482013894108483:=0
def tw2623657128101346365:=0
def tw1883745437407540577:=0
def tw32963734789616974:=0
def tw13724531565410575125:=0
def tw9227526919045616462:=0
def tw310178739868017512:=0
def tw15279146354544408877:=0
def tw16852526041807054589:=0
def tw15164384792148155912:=0
def tw2234279407682354318:=0
def tw14875350180567431988:=0
def tw6482849033361641921:=0
def tw6022931926478340721:=0
def tw6565019844391671641:=0
def tw6986090808466331153:=0
def tw7324225980735248906:=0
def tw14801595575158290480:=0
def tw8081165237455309115:=0
def tw4493660376345265999:=0
def tw1323596712272439236:=0
def tw6934517807405761094:=0
def tw14755843210733715762:=0
def tw12040202498900704720:=0
def tw16569262863171467355:=0
def tw8683974156632382339:=0
def tw253362245659150760:=0
def tw7883201099378786157:=0
def tw10910293969295527046:=0
def tw8640997807730681591:=0
def tw10443226597901019896:=0
def tw17458769797583523429:=0
def tw2381825989493430127:=0
def tw8057134895034026202:=0
def tw4775278561898272800:=0
def tw9540820152903687932:=0
def tw3026242994575314971:=0
def tw2083179535989680455:=0
def tw13794919471502839613:=0
def tw1745777805582718871:=0
def tw13422889693868335222:=0
def tw4290466346745774650:=0
def tw16592317110806406816:=0
def tw18167362078225302400:=0
def tw9257241789513091666:=0
def tw15439931427510646141:=0
def tw1643806372068562346:=0
def tw5500148982976975590:=0
def tw12034155343687849827:=0
def tw8428142839419423503:=0
def tw10819850553008751919:=0
def tw9412763235086610093:=0
def tw9888036579128561102:=0
def tw17443324142488976170:=0
def tw1847637165831709740:=0
def tw11925436485004588954:=0
def tw1925041797120769311:=0
def tw11394126344726142940:=0
def tw3171374742044213550:=0
def tw4027277523204365613:=0
def tw2505120952173786287:=0
def tw9144771536390745445:=0
def tw410465916428906171:=0
end PySem.W.Fast
open PySem PySem.W PyProof.Rows B8 CG Fo
set_option maxRecDepth 100000 in
set_option maxHeartbeats 0 in
theorem PySem.Challenge.cw_nohalfway_k31_come_and_go_holds : PySem.Challenge.rw_nohalfway_k31_come_and_go.Holds := by
 w_on;o_law;k_head;(case hw=>w_witness2)
 k_fill
 refine Fo.abj (l:=PySem.Challenge.rw_nohalfway_k31_come_and_go) rfl rfl rfl (λw h Y=>PySem.W.kIn_of Y) ?T
 case T=>
  intro w mg h Ht G
  refine' Fo.abV ?T ?ya ?yl ?yc ?yk
  (case T=>constructor<;>first
    |(refine' CG.sv Ht G ?a ?l ?c ?k;(case a=>k_is);(case l=>k_is);(case c=>k_is);(case k=>k_is))
    |(refine' CG.xv ?n ?g1 ?g2 ?g3 ?g4 ?a ?l ?c ?k ?i;(case n=>k_is);(case g1=>k_is);(case g2=>k_is);(case g3=>k_is);(case g4=>k_is);(case a=>k_is);(case l=>k_is);(case c=>k_is);(case k=>k_is);(case i=>k_is))
    |(refine' CG.wX Ht G ?n ?mk ?kc ?a ?l ?c ?k ?i;(case n=>k_is);(case mk=>k_is);(case kc=>k_is);(case a=>k_is);(case l=>k_is);(case c=>k_is);(case k=>k_is);(case i=>k_is))
    |(refine' CG.qf ?n ?g1 ?g2 ?g3 ?g4 ?u;(case n=>k_is);(case g1=>k_is);(case g2=>k_is);(case g3=>k_is);(case g4=>k_is);(case u=>(repeat' first|exact λ_ h=>absurd h Km|refine List.forall_mem_cons.2 ⟨?_,?_⟩|k_is)))
    |(refine' CG.rk Ht G ?n ?e;(case n=>k_is);(case e=>k_exc))
    |(refine' CG.qg Ht G ?z;(case z=>k_is))
    |(refine' PySem.W.mg_none_of Ht G ?a;(case a=>k_is))
    |(refine' CG.qK Ht G ?z ?y ?hz ?e;(case z=>k_is);(case y=>k_is);(case hz=>exact oq rfl);(case e=>rfl)))
  case ya|yl|yc|yk=>k_is
