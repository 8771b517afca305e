import PyProof.Rows.All
import Wide.All
import OpenK.AllK
import Wide.FinOn
import Lean
import PyProof.EqAt
import PyProof.EqKinds
import PyProof.TupleCall
import PyProof.NeKinds
import KE.KIsAll
import PyProof.ExcArgsOwn
import PySem.SetOps
import PyProof.TupleKey
import PyProof.SetKind
import PyProof.IsRules
import PyProof.Rows.SetFrom
import PyProof.Rows.SortShellK
import PyProof.DictKinds
import PyProof.FactsAll.tuple_2
import PyProof.SetRoads
import PyProof.AutoListH
import PyProof.DictWalks
import PyProof.CollectWalk
import PyProof.Rows.SortWalk
import PyProof.SumAny
import PyProof.StrCalls
import KE.RegKIsAll
import KE.RegKTryMore
import PySem.Challenge.RW_nohalfway_k65_whole_ways_end
set_option bootstrap.genMatcherCode false
set_option compiler.extract_closed false
open PySem renaming wpAny_bind -> AH, Value -> U, wpAny_pure -> An, Shared -> AD, starEach -> Aw, Addr -> Z, wpAny -> AU, Program -> BR, mainGlobals -> DQ, model -> Ai, sizeLine -> CH, tupleKeyHash -> EA, Around -> Bk, World -> BA, Expr -> AN, IsTupleKey -> EW, foldedSetIterable -> JS, SetTable -> E0, backTo -> CW, wpAny_call_entry -> JT, wpAny_truthy_bool -> K6, behindInMarks -> I0, wpAny_newObj_type -> Ks, Heap -> Aq, mem_of_lookup -> MI, attributeBase -> Ik, keywordEach -> Hd, wpAny_seqItems -> K1, wpAny_callSpecial?_slot -> Pk, compareOp -> Fk, wpAny_mono -> H9, wpAny_holding -> K3, FuncData -> FH, eval -> BC, wpAny_field -> Ij, Stmt -> BG, wpAny_forIn_list -> NG, cLine -> Ce, cellsFrom -> HA, wpAny_setState_of -> OK, bootBuiltins -> Kv, sizeLine_eq -> K8, Keyword -> FS, wpAny_specialOf -> OG, strIterType -> Ku, wpAny_isInstance -> Pq, backToKw -> He, wpAny_setField_rec -> Ra, carriedByValue -> OI, Scope -> DT, assignEach -> Kt, wpAny_passesOwn -> Pm, hashByValue -> MN, sysModules -> Lc, wpAny_tupleItemsOf -> Tl, binaryOp -> Ip, wpAny_Call_Name_kw -> Tn, isSubtype_tuple_tuple -> Wj, swapsWith -> Kw, codeAny_builtin -> Rn, wpAny_rule -> MO, IsPair -> G6, NameKind -> K9, Builtin -> IN, intKind -> Io, holding -> JW, sliceBounds -> Q4, ofAClassStatement -> X0, wpAny_setField -> Tv, codeAny_mono -> Rs, wpAny_typeOf -> Rt, builtinLookup_eq_fast -> fN, wpAny_eqBool_int -> Wo, relabel -> KC, wpAny_updateSeq_pair -> fP, wpAny_attempt -> Ts, wpAny_richCompare_same_room -> rf, wpAny_execs_nil -> Wu, letOwnedTupleGo -> Wv, wpAny_setEntries_of -> fK, wpAny_eqBool_tuple -> fo, codeAny -> Ld, firstArgMember -> X7, wpAny_pyIter_list -> fx, getMethod -> Q5, KeyKind -> X3, wpAny_onRaise -> X4, plainId_quiet -> X5, assign -> KD, pyNext -> KF, noFill_tuple_add -> fj, wpAny_askSetting -> fm, standAt -> NN, seqIndex? -> Rz, typeLookup_type -> gC, typeIs_int -> U4, rawInt -> Le, newFunctionEnv -> gG, isSubtype_type -> gH, getItem -> OP, subscripted -> XD, notedBy -> OQ, IsZip -> IP, PassesOwn -> U1, callWith -> Rv, bindArgs -> Rw, valueAt -> Q7, callerA -> Q6, Within -> fy, IsPart -> NP, CmpOp -> KG
open PySem.W renaming Frag -> AT, nsIn -> El, mg_none_of -> JR, findIn -> Hz, keepIn -> IM, fnOf -> Im, emptyDict -> NB, kia_one -> MH, mg_of -> Kq, instObj -> OH, codeIn -> OJ, plainGet -> Rl, hasDictIn -> Tf, excIn -> Py, plainOver -> Ww, methodCall_KW -> fV, hideAll -> Wt, plainGet_of -> fJ, makesIn -> Wk, isFn -> Tx, callWith_K -> fp, lookIn -> X6, methodObj -> fw, cellsFrom_some -> rj, takerIn -> g8, OpenLaw -> g9, hideAll_get -> sF, of_hideAll -> sH, kitx_tuple -> sJ, kitx_list -> sD, kitx_dict -> sE
open List renaming getElem?_eq_getElem -> C5, size_toArray -> DJ, mem_cons_of_mem -> E3, mem_of_getElem? -> EU, getElem?_append_right -> GU, getElem?_map -> EH, map_cons -> DP, getElem?_append_left -> Gl, getD_eq_getElem?_getD -> Hc, length_map -> Eh, length_cons -> FQ, mem_cons_self -> GT, mem_append_right -> Ii, range -> EI, length_append -> K5, getElem_of_mem -> Kr, getElem_mem -> JU, getElem?_replicate -> NE, mem_append_left -> MJ, append_nil -> K0, find?_cons -> Kp, not_mem_nil -> LZ, zip_cons_cons -> ND, drop_eq_getElem_cons -> RU, getElem?_cons_succ -> Rc, getElem?_set_ne -> Pt, length_take -> NH, length_pos_of_mem -> Rd, mem_cons -> La, length_replicate -> Re, take_append_drop -> Rf, getElem?_eq_none -> Rg, all_eq_true -> OM, eq_nil_of_length_eq_zero -> W_, mem_of_mem_take -> Rh, take_add_one -> Pp, filterMap_cons -> RX, mergeSort_perm -> RY, getElem?_set_self -> Tb, drop_eq_nil_of_le -> Tc, all_cons -> NF, mem_of_mem_drop -> T_, length_nil -> Pn, eraseIdx_eq_take_drop_succ -> f7, map_append -> Po, append_assoc -> RW, length_erase_of_mem -> Wf, getElem?_range -> Tk, pairwise_mergeSort -> Wg, replicate -> Q1, take_of_length_le -> Wi, getElem?_drop -> Tp, mem_singleton -> Tq, map_nil -> OO, any_cons -> Px, mem_erase_of_ne -> Wb, length_take_le' -> Wc, forall_mem_cons -> Wd, nodup_nil -> Rj, getLast?_eq_getElem? -> fF, length_drop -> Tg, zipIdx_cons -> Ti, mem_map_of_mem -> We, getElem?_take_of_lt -> fG, forIn_cons -> Td, foldl_cons -> Tj, mem_append -> Tt, exists_of_findSome?_eq_some -> rh, lookup -> Q2, length -> Q3, ext_getElem? -> Wz, all_map -> Ro, lookup_cons -> Wq, take_length -> Wr, mem_iff_getElem -> fR, of_mem_zip -> Wl, zipIdx_nil -> Wm, nodup_iff_pairwise_ne -> s7, lookup_append -> fq, map_map -> Tz, set_cons_zero -> ft, forIn_nil -> X8, getElem?_eq_none_iff -> s9, pairwise_iff_getElem -> sA, any_eq_false -> fa, getElem?_set -> fe, pairwise_map -> fh, getElem?_cons_zero -> rv, eraseIdx_cons_succ -> ry, getElem_map -> fZ, any_eq_true -> f_, drop_of_length_le -> rz, length_singleton -> sM, getElem?_toArray -> sN, any_map -> XH, all_nil -> XJ, length_filter_le -> sO, getElem?_zipIdx -> sP, mem_map -> gK
open PySem.Heap renaming get?_push_of_some -> Cr, lt_size -> Cv, get?_push_size -> F6, SameBut -> IL, size_push -> K2, get?_update_self -> Pf, get?_update_other -> Wh
open PySem.Str renaming ofString -> CL, ofString -> NJ
open Nat renaming le_refl -> By, lt_of_lt_of_le -> Gk, ne_of_lt -> ET, le_trans -> Eg, zero_le -> GV, lt_irrefl -> IK, lt_trans -> L_, le_add_right -> Pr, le_of_lt -> MK, ne_of_gt -> ML, lt_trichotomy -> Rk, eq_or_lt_of_le -> To, le_succ -> ON, zero_add -> Pw, add_assoc -> Ri, not_lt_zero -> Te, lt_succ_of_lt -> Wy, le_of_ble_eq_true -> fL, lt_succ_self -> Wp, le_of_lt_succ -> fg, sub_self -> XI, min_eq_left -> gD, mod_lt -> XB, le_of_eq -> fz, add_zero -> gJ
open Option.some renaming inj -> Dz, injEq -> fi
open Bool renaming false_eq_true -> FZ, and_eq_true -> FR, false_ne_true -> Hy, and_or_distrib_left -> Pj, not_true -> JQ, eq_iff_iff -> Rm, and_true -> Pz, and_or_distrib_right -> fE, not_false -> Tu, not_eq_true' -> fc, and_false -> gF, true_and -> g4
open Array renaming getElem?_eq_getElem -> JP, getD_eq_getD_getElem? -> Pl, length_toList -> NC, forIn_toList -> RZ, getElem?_toList -> fW, getElem_toList -> fQ, getElem?_eq_none -> rp
open PySem.Value renaming ref -> D7, none -> JV, type -> Lb, isInt_shape -> fv, bool -> Ru, isInt -> XC, int -> XK, str -> XM
open PyProof.Rows renaming arrOf -> BH, envOfC -> K4, wpS_bind -> EV, callWith_type1 -> RT, SortedToK -> G4, wpS_pure -> G5, seqObj -> F_, SortSt -> Fl, SortKind -> KA, slot_tuple_getitem -> ri, pendingOf -> NK, wpS_forRange -> Rp, listItems_at -> Rq, kindOf -> Iq, IsTup -> fs, pairsOf_size -> U0, pairsOf_toList -> X9, AllBare -> MP, KK_mirror_equal -> gB, mirror_perm -> XE, wpS_reverse -> XF, Call_ -> sK, failedOf -> Ry, Keyed -> JX, envOfC -> NO
open Or renaming inr -> CY, inl -> DX
open PySem.Builtin.SmallTypes renaming nextOf -> OF, ownedTupleIsFree -> WW, ownedTupleHandOut -> rY
open PySem.Builtin.Tuple renaming tupleHashOf -> Ph, tupleExact -> WX, tupleItemsOf -> rc
open Classical renaming byContradiction -> Pi, choose_spec -> Pg, choose -> Th
open PySem.NameKind renaming free -> Il
open List.cons renaming injEq -> MG
open PySem.F renaming plainAttrs_list -> Rb, slot_tuple_iterator_next -> WY, args_tuple_add_2 -> fH, slot_list_append -> f9, type_list_append -> fA, entry_tuple_add -> fC, slot_tuple_add -> fU, slot_dict_get -> fX, args_tuple_iterator_next_1 -> re, entry_tuple_iterator_next -> r_, slot_zip_next -> Wn, args_dict_get_2 -> rt, slot_list_index -> ru, entry_dict_get -> rl, plainAttrs_str -> rn
open PySem.Obj renaming mapSeq -> I1, data_mapFields -> R_, isFreed_of_fields -> fM, cls_mapFields -> ff
open PySem.Heap.SameBut renaming update -> Pu, refl -> sC
open ForInStep renaming yield -> NI
open Int renaming emod_lt_of_pos -> Pv, toNat_natCast -> RV, emod_nonneg -> Ps, eq_ofNat_of_zero_le -> fT
open Option renaming getD_some -> OL, toList_some -> fu, isSome_map -> fb, getD_none -> fk, bind_some -> fl, map_some -> gA, isSome_some -> sI
open False renaming elim -> K7
open PySem.Builtin.Slice renaming slicePlaces -> WZ, sliceAdjust -> fD, sliceApplied -> s6
open PySem.Around renaming under_plainId -> Ta, in1_units -> fY, under -> g7
open PyProof.Rows.KeyOrd renaming kle_refl -> Q0, kle_of_klt -> X2, kle_trans -> Ws, kle_antisymm -> sG
open True renaming intro -> MM
open PySem.Builtin.List renaming listTooLong -> fI, listExtendWith -> ra, listSameRef -> rr, listItems -> ro
open PySem.Builtin.Range renaming rangeSize -> fB
open PySem.Calls renaming spliced_cons -> Wa, spliced_nil -> Wx, evalArgs_plain -> fO, Name_function_global -> rg, call_function_entry -> s8, callWith_builtin -> rk
open PyProof.Rows.F renaming plain_set_update_loop -> fS, entry_set_update_loop -> rx
open PySem.Shared renaming TypeIs -> Rr
open PySem.SetTable renaming insertAt -> X1, below -> Tw, leap -> g5, sizeAbove -> sL
open List.Nodup renaming length_le_of_subset -> rd
open Ne renaming symm -> KB
open Prod.mk renaming injEq -> Tr
open PySem.Builtin.Str renaming strSliceIndices -> rZ
open List.Perm renaming eq_of_pairwise -> rq, refl -> g0
open PySem.SeqAt renaming ne_of_list_tuple -> rm, RcNeAt -> XG, EqAt -> U5, RcAt -> XA
open Sum renaming inl -> NL, inr -> NM
open PySem.PassesOwn renaming never -> gE
open PySem.Data renaming cell -> U2
open Prod renaming ext -> Rx
open PySem.Txt renaming slice -> U3
open Function renaming comp -> g6
open List.Pairwise renaming nil -> sB
open PySem.Code renaming isFrame -> gI
open Array.Perm renaming refl -> sQ
set_option Elab.async false
set_option linter.all false
set_option maxRecDepth 100000
noncomputable section
namespace CE
open PySem PySem.Spec PyProof.Rows
abbrev Key:=Sum Int Str
noncomputable def QD:Key->U->Bool
 |.inl k,v=>XC k v
 |.inr x,v=>Value.isStrOf x v
noncomputable def yk(w:BA):Key->Int
 |.inl k=>hashInt k
 |.inr x=>hashStr w x
def Ln:∀{k:Key}{v:U},QD k v=true->(∃i t,k=NL i/\v=XK i t)\/(∃x t,k=NM x/\v=XM x t)
 |.inl i,v,h=>by obtain⟨t,e⟩:=fv (k:=i) (v:=v) h;exact .inl ⟨i,t,rfl,e⟩
 |.inr x,v,h=>by obtain⟨t,e⟩:=Value.isStrOf_shape (x:=x) (v:=v) h;exact .inr ⟨x,t,rfl,e⟩
def yl(i:Int)(t:Tok):QD (.inl i) (.int i t)=true:=by simp[QD,XC]
def ym(x:Str)(t:Tok):QD (.inr x) (.str x t)=true:=by simp[QD,Value.isStrOf]
def yp(a b:Int):decide ((NL a:Key)=NL b)=(a==b):=by
 by_cases e:a=b
 .subst e;simp
 .have h:¬(NL a:Key)=NL b:=λq=>e (Sum.inl.inj q);rw[decide_eq_false h];exact(beq_eq_false_iff_ne.mpr e).symm
def yt(a b:Str):decide ((NM a:Key)=NM b)=decide (a=b):=by
 by_cases e:a=b
 .subst e;simp
 .have h:¬(NM a:Key)=NM b:=λq=>e (Sum.inr.inj q);rw[decide_eq_false h,decide_eq_false e]
def yq(a:Int)(b:Str):decide ((NL a:Key)=NM b)=false:=decide_eq_false (λq=>nomatch q)
def yr(a:Str)(b:Int):decide ((NM a:Key)=NL b)=false:=decide_eq_false (λq=>nomatch q)
noncomputable def GS(prog:BR)(w:BA):X3 prog w Key where
 is:=QD
 hash:=yk w
 inj:=λv a b A2 J=>by
  rcases Ln A2 with⟨i,t,rfl,rfl⟩|⟨x,t,rfl,rfl⟩
  .rcases Ln J with⟨j,u,rfl,e⟩|⟨y,u,rfl,e⟩
   .injection e with A1 _;rw[A1]
   .exact nomatch e
  .rcases Ln J with⟨j,u,rfl,e⟩|⟨y,u,rfl,e⟩
   .exact nomatch e
   .injection e with A1 _;rw[A1]
 byValue:=λk v h=>by rcases Ln h with⟨i,t,rfl,rfl⟩|⟨x,t,rfl,rfl⟩<;>rfl
 pyHash:=λAz h=>by
  rcases Ln Az with⟨i,t,rfl,rfl⟩|⟨x,t,rfl,rfl⟩
  .exact wpAny_pyHash_int h
  .exact wpAny_pyHash_str h
 eqBool:=λB0 Az h=>by
  rcases Ln B0 with⟨i,t,rfl,rfl⟩|⟨x,t,rfl,rfl⟩
  .rcases Ln Az with⟨j,u,rfl,rfl⟩|⟨y,u,rfl,rfl⟩
   .rw[yp]at h;exact Wo h
   .rw[yq]at h;exact SeqAt.EqAt.int_str i t y u _ _ _ _ h
  .rcases Ln Az with⟨j,u,rfl,rfl⟩|⟨y,u,rfl,rfl⟩
   .rw[yr]at h;exact SeqAt.EqAt.str_int x t j u _ _ _ _ h
   .rw[yt]at h;exact wpAny_eqBool_str h
 «strs»:=λk x t v h=>by
  rcases Ln h with⟨i,u,rfl,e⟩|⟨y,u,rfl,e⟩
  .exact nomatch e
  .injection e with A1 _;subst A1;cases v<;>rfl
def aau(prog:BR)(w:BA)(i:Int)(t:Tok):(GS prog w).is (.inl i) (.int i t)=true:=yl i t
def aav(prog:BR)(w:BA)(x:Str)(t:Tok):(GS prog w).is (.inr x) (.str x t)=true:=ym x t
section
open SeqAt
section
variable(prog:BR)(w:BA)
abbrev Jw:=Sum Key (List Key)
abbrev C8:=List Jw
def Qn(h:Aq):Jw->U->Prop
 |.inl k,v=>QD k v=true
 |.inr ks,v=>∃b,v=.ref b/\EW (GS prog w) h ks b
inductive IB(h:Aq):C8->List U->Prop
 |nil:IB h [] []
 |cons {k:Jw} {v:U} {ks:C8} {vs:List U}:Qn prog w h k v->IB h ks vs->IB h (k::ks) (v::vs)
def Iu(h:Aq)(ks:C8)(a:Z):Prop:=∃o items n,h.get? a=some o/\o.cls=.type "tuple"/\o.data=.seq items n/\IB prog w h ks items.toList
variable{prog w}
theorem Qn.inj{h:Aq}{x y:Jw}{v:U}(A5:Qn prog w h x v)(Ao:Qn prog w h y v):x=y:=by
 cases x with
 |inl a=>
  cases y with
  |inl b=>rw[(GS prog w).inj _ _ _ A5 Ao]
  |inr b=>obtain⟨c,rfl,_⟩:=Ao;have:=(GS prog w).byValue _ _ A5;simp[OI]at this
 |inr a=>
  obtain⟨c,rfl,A5⟩:=A5;cases y with
  |inl b=>have:=(GS prog w).byValue _ _ Ao;simp[OI]at this
  |inr b=>obtain⟨d,e,Ao⟩:=Ao;cases e;rw[A5.inj Ao]
theorem IB.inj{h:Aq}{x y:C8}{vs:List U}(A5:IB prog w h x vs)(Ao:IB prog w h y vs):x=y:=by
 induction A5 generalizing y with
 |nil=>cases Ao;rfl
 |cons h1 _ Bg=>
  cases Ao with
  |cons h2 Fo=>rw[h1.inj h2,Bg Fo]
theorem IB.keeps{h h':Aq}{d:Z}{o:Obj}{es B3}(AE:h.get? d=some o)(hd:o.data=.dict es B3)(hs:IL d h h'):∀{x:C8}{vs:List U},IB prog w h x vs->IB prog w h' x vs
 |_,_,.nil=>.nil
 |_,_,.cons (k:=.inl _) h1 t=>.cons (k:=.inl _) h1 (IB.keeps AE hd hs t)
 |_,_,.cons (k:=.inr _) ⟨b,e,x⟩ t=>.cons (k:=.inr _) ⟨b,e,x.keeps AE hd hs⟩ (IB.keeps AE hd hs t)
def Iu.typeIs{s:AD}{ks:C8}{a:Z}(x:Iu prog w s.heap ks a):s.TypeIs (.ref a) "tuple":=let⟨o,_,_,AE,AB,_⟩:=x;⟨o,AE,AB⟩
theorem Iu.inj{h:Aq}{a:Z}{x y:C8}(A5:Iu prog w h x a)(Ao:Iu prog w h y a):x=y:=by obtain⟨o,i,n,h1,_,h2,h3⟩:=A5;obtain⟨BM,VW,JF,II,_,PS,TB⟩:=Ao;rw[h1]at II;cases II;rw[h2]at PS;cases PS;exact h3.inj TB
theorem Iu.keeps{h h':Aq}{ks:C8}{a d:Z}{o:Obj}{es B3}(x:Iu prog w h ks a)(AE:h.get? d=some o)(hd:o.data=.dict es B3)(hs:IL d h h'):Iu prog w h' ks a:=by
 obtain⟨BM,items,n,Dy,AB,Ea,A0⟩:=x;have LF:a≠d:=by rintro rfl;obtain rfl:BM=o:=Dz (Dy.symm.trans AE);rw[hd]at Ea;exact nomatch Ea
 exact⟨BM,items,n,(hs.2 a LF).trans Dy,AB,Ea,A0.keeps AE hd hs⟩
def Ls(prog:BR)(w:BA):Jw->Int
 |.inl k=>(GS prog w).hash k
 |.inr ks=>EA (GS prog w) ks
noncomputable def RE:Jw->Nat
 |.inl _=>1
 |.inr ks=>ks.length+1
variable{A:Bk}{E:U->AD->Prop}{s:AD}
theorem abC{ks:C8}{a:Z}{Q:Int->AD->Prop}(B0:A.units+8<Ce)(AG:Iu prog w s.heap ks a)(h:Q (reduceHash (Ph (ks.map (Ls prog w)))) { s with toks:=s.toks+((ks.map RE).sum+1) }) :
  AU (Ai prog w) A (pyHash (.ref a)) Q E s:=by
 have Do:=AG.typeIs;obtain⟨o,items,n,AE,_,hd,A0⟩:=AG;unfold pyHash
 first|unfold pyHashByItsType|skip
 first|refine AH (wpAny_cRoomFor_or (.inr (by lia)) ?_)|skip
 refine AH (OG Do F.slot_tuple_hash.lookup ?_);show AU _ _ (if(some (Value.builtin "tuple.__hash__")==some JV)=true then _ else _) Q E s;rw[if_neg (by rw[beq_builtin_none];exact Hy)];refine AH (OG Do F.slot_tuple_hash.lookup ?_);show AU _ _ (callSpecialIfBoundUnlessNone? (.ref a) "__hash__" _>>=_) Q E s;refine AH (wpAny_callSpecialIfBoundUnlessNone?_slot Do F.slot_tuple_hash (JT F.slot_tuple_hash Do F.entry_tuple_hash ?_ (F.args_tuple_hash_1 _)));show AU _ _ (rc (.ref a)>>=_) _ _ s;refine AH (Tl AE hd ?_);refine AH ?_;rw[<-RZ]
 refine NG _
  (λrest(b:Array Int) s'=>∃done left,ks=done++left/\IB prog w s.heap left rest/\b.toList=done.map (Ls prog w)/\s'={ s with toks:=s.toks+(done.map RE).sum })
  _ ?_ ?_ _ _ ⟨[],ks,rfl,A0,rfl,rfl⟩
 .rintro x rest b s' ⟨done,left,rfl,AF,J,rfl⟩;cases AF with
  | @cons k _ Ey _ h1 GN=>
    cases k with
    |inl k=>
     refine AH ((GS prog w).pyHash h1 ?_)
     first
      |exact An ⟨done++[.inl k],Ey,by simp,GN,by simp[J,Ls],by simp[Ri,RE]⟩
      |exact AH (An (An ⟨done++[.inl k],Ey,by simp,GN,by simp[J,Ls],by simp[Ri,RE]⟩))
    |inr Bh=>
     obtain⟨CT,rfl,h1⟩:=h1;refine AH (wpAny_pyHash_tuple (knd:=GS prog w) (ks:=Bh) (show A.units+1<Ce by lia) h1 ?_)
     first
      |exact An ⟨done++[.inr Bh],Ey,by simp,GN,by simp[J,Ls],by simp[Ri,RE]⟩
      |exact AH (An (An ⟨done++[.inr Bh],Ey,by simp,GN,by simp[J,Ls],by simp[Ri,RE]⟩))
 .rintro b s' ⟨done,left,rfl,AF,J,rfl⟩;cases AF;rw[K0]at h;show AU _ _ (retInt (Ph b.toList)) _ _ _;rw[J];refine wpAny_ret_mkInt ?_;show AU _ _ (if(decide (-(2:Int)^63<=Ph (done.map (Ls prog w)))&&decide (Ph (done.map (Ls prog w))<2^63))=true then _ else _) Q E _;unfold reduceHash at h;by_cases AS:(decide (-(2:Int)^63<=Ph (done.map (Ls prog w)))&&decide (Ph (done.map (Ls prog w))<2^63))=true
  .rw[if_pos AS];rw[if_pos AS]at h;exact An (by simpa[Ri]using h)
  .rw[if_neg AS];rw[if_neg AS]at h;exact AH (MO (An (by simpa[Ri]using h)))
def aa_{x y:Jw}{u v:U}{Q:Bool->AD->Prop}(B0:A.units+1<Ce)(A5:Qn prog w s.heap x u)(Ao:Qn prog w s.heap y v)(h:Q (decide (x=y)) s):AU (Ai prog w) A (eqBool u v) Q E s:=by
 cases x with
 |inl a=>
  cases y with
  |inl b=>exact(GS prog w).eqBool (a:=a) (b:=b) A5 Ao (by simpa using h)
  |inr b=>
   obtain⟨c,rfl,o,its,n,h1,h2,h3,_⟩:=Ao;have hd:decide ((NL a:Jw)=NM b)=false:=by simp
   rw[hd]at h;rcases Ln A5 with⟨i,t,_,rfl⟩|⟨i,t,_,rfl⟩
   .exact EqAt.int_tuple i t ⟨o,h1,h2,n,h3⟩ (by lia) prog w E Q h
   .exact EqAt.str_tuple i t ⟨o,h1,h2,n,h3⟩ (by lia) prog w E Q h
 |inr a=>
  cases y with
  |inl b=>
   obtain⟨c,rfl,o,its,n,h1,h2,h3,_⟩:=A5;have hd:decide ((NM a:Jw)=NL b)=false:=by simp
   rw[hd]at h;rcases Ln Ao with⟨i,t,_,rfl⟩|⟨i,t,_,rfl⟩
   .exact EqAt.tuple_int i t ⟨o,h1,h2,n,h3⟩ (by lia) prog w E Q h
   .exact EqAt.tuple_str i t ⟨o,h1,h2,n,h3⟩ (by lia) prog w E Q h
  |inr b=>obtain⟨c,rfl,A5⟩:=A5;obtain⟨d,rfl,Ao⟩:=Ao;exact fo (by lia) A5 Ao (by simpa using h)
def ab9{x y:C8}{a b:Z}{P:Fin->AD->Prop}(B0:A.units+1<Ce)(A5:Iu prog w s.heap x a)(Ao:Iu prog w s.heap y b)(h:P (.done (.ret (.bool (decide (x=y))))) s) :
  AU (Ai prog w) A (IN.«tuple.__eq__» ⟨[.ref a,.ref b],[]⟩) P E s:=by
 have vg:=Ao.typeIs;obtain⟨aaN,xs,na,xK,_,vu,vT⟩:=A5;obtain⟨ob,ys,nb,xL,_,FD,lQ⟩:=Ao;show AU _ _ (isInstance (.ref b) (.type "tuple")>>=_) _ _ s;refine AH (Pq vg Wj ?_);simp only[JQ,FZ,if_false];refine AH (Tl xK vu ?_);refine AH (Tl xL FD ?_);refine AH ?_
 refine NG _
  (λrest r s'=>r.1=none/\s'=s/\∃M3 LU ES FP,rest=List.zip ES FP/\IB prog w s.heap M3 ES/\IB prog w s.heap LU FP/\decide (M3=LU)=decide (x=y)/\(ES.length==FP.length)=(xs.size==ys.size))
  _ ?_ ?_ _ _ ⟨rfl,rfl,x,y,xs.toList,ys.toList,rfl,vT,lQ,rfl,by simp⟩
 .rintro⟨u,v⟩ rest r s' ⟨AS,rfl,M3,LU,ES,FP,Aj,b8,YX,Z0,hlen⟩;cases b8 with
  |nil=>simp at Aj
  | @cons k1 HL qY ai8 h1 wk=>
    cases YX with
    |nil=>simp at Aj
    | @cons k2 Ig rU aiA h2 wn=>
      simp only[ND,MG,Tr]at Aj;obtain⟨⟨rfl,rfl⟩,rfl⟩:=Aj;refine AH (aa_ B0 h1 h2 ?_);by_cases AG:k1=k2
      .subst AG;rw[decide_eq_true rfl];simp only[JQ,FZ,if_false];refine An ⟨rfl,rfl,qY,rU,ai8,aiA,rfl,wk,wn,?_,by simpa using hlen⟩;rw[<-Z0];by_cases l1:qY=rU
       .simp[l1]
       .simp[l1]
      .rw[decide_eq_false AG];simp only[Tu,if_true];have hf:decide (x=y)=false:=by rw[<-Z0];simp[AG]
       rw[hf]at h;exact AH (An (An (An h)))
 .rintro⟨A6,AZ⟩ s' ⟨AS,rfl,M3,LU,ES,FP,Aj,b8,YX,Z0,hlen⟩;simp only at AS;subst AS;refine An ?_;have vz:(xs.size==ys.size)=decide (x=y):=by
   rw[<-Z0,<-hlen];cases b8 with
   |nil=>
    cases YX with
    |nil=>simp
    |cons _ _=>simp
   |cons _ _=>
    cases YX with
    |nil=>simp
    |cons _ _=>simp at Aj
  show P (.done (.ret (.bool (xs.size==ys.size)))) s';rw[vz];exact h
theorem ab8{x y:C8}{a b:Z}{Q:Bool->AD->Prop}(B0:A.units+8<Ce)(A5:Iu prog w s.heap x a)(Ao:Iu prog w s.heap y b)(h:Q (decide (x=y)) s) :
  AU (Ai prog w) A (eqBool (.ref a) (.ref b)) Q E s:=by
 unfold eqBool
 try with_reducible refine K3 ?_
 show AU _ _ (if(D7 a==D7 b)=true then _ else _) Q E s;by_cases O9:(D7 a==D7 b)=true
 .rw[if_pos O9];have e:a=b:=by have:=eq_of_beq O9;injection this
  subst e;obtain rfl:=A5.inj Ao;exact AH (MO (An (by simpa using h)))
 .rw[if_neg O9]
  exact AH (rf (op:=.Eq) A5.typeIs Ao.typeIs F.slot_tuple_eq
   (JT F.slot_tuple_eq A5.typeIs F.entry_tuple_eq (ab9 (show A.units+1+1<Ce by lia) A5 Ao ⟨_,rfl,(λe=>nomatch e),K6 h⟩) (F.args_tuple_eq_2 _ _)) (by lia))
theorem aaa{x:Jw}{v:U}{Q:Bool->AD->Prop}{n:Nat}(A5:Qn prog w s.heap x v)(h:Q true s):AU (Ai prog w) A (eqIsQuiet 7 v) Q E s:=by
 cases x with
 |inl a=>rw[eqIsQuiet_byValue _ ((GS prog w).byValue _ _ A5)];exact An h
 |inr a=>
  obtain⟨c,rfl,AG⟩:=A5;have Do:=AG.typeIs;obtain⟨o,items,n,AE,_,hd,A0⟩:=AG;unfold eqIsQuiet;refine AH (OG Do F.slot_tuple_eq.lookup ?_);show AU _ _ (isInstance (.ref c) (.type "tuple")>>=_) _ _ s;refine AH (Pq Do Wj ?_);simp only[JQ,FZ,if_false];refine AH (K1 AE hd ?_);refine AH ?_;show AU _ _ (forIn items _ _) _ _ s;rw[<-RZ];refine NG _ (λrest r s'=>r.1=none/\s'=s/\∀v∈rest,OI v=true) _ ?_ ?_ _ _ ⟨rfl,rfl,A0.byValue⟩
  .rintro v rest r s' ⟨AS,rfl,TD⟩;rw[eqIsQuiet_byValue _ (TD v GT)];refine AH (An ?_);simp only[JQ,FZ,if_false];exact An ⟨rfl,rfl,λu VT=>TD u (E3 _ VT)⟩
  .rintro⟨A6,AZ⟩ s' ⟨AS,rfl,_⟩;simp only at AS;subst AS;exact An h
theorem abD{ks:C8}{a:Z}{Q:Bool->AD->Prop}(AG:Iu prog w s.heap ks a)(h:Q true s):AU (Ai prog w) A (eqIsQuiet 8 (.ref a)) Q E s:=by
 have Do:=AG.typeIs;obtain⟨o,items,n,AE,_,hd,A0⟩:=AG;unfold eqIsQuiet;refine AH (OG Do F.slot_tuple_eq.lookup ?_);show AU _ _ (isInstance (.ref a) (.type "tuple")>>=_) _ _ s;refine AH (Pq Do Wj ?_);simp only[JQ,FZ,if_false];refine AH (K1 AE hd ?_);refine AH ?_;show AU _ _ (forIn items _ _) _ _ s;rw[<-RZ];refine NG _ (λrest r s'=>r.1=none/\s'=s/\∃Ey,IB prog w s.heap Ey rest) _ ?_ ?_ _ _ ⟨rfl,rfl,ks,A0⟩
 .rintro v rest r s' ⟨AS,rfl,Ey,AF⟩;cases AF with
  |cons h1 GN=>refine AH (aaa (n:=0) h1 ?_);simp only[JQ,FZ,if_false];exact An ⟨rfl,rfl,_,GN⟩
 .rintro⟨A6,AZ⟩ s' ⟨AS,rfl,_⟩;simp only at AS;subst AS;exact An h
end
def RG(prog:BR)(w:BA):HeapKind prog w C8 where
 is:=Iu prog w
 hash:=λks=>reduceHash (Ph (ks.map (Ls prog w)))
 draws:=λks=>(ks.map RE).sum+1
 room:=λA=>A.units+8<Ce
 inj:=λA5 Ao=>A5.inj Ao
 keeps:=λx AE hd hs=>x.keeps AE hd hs
 pyHash:=λB0 AG h=>abC B0 AG h
 eqBool:=λB0 A5 Ao h=>ab8 B0 A5 Ao h
 quiet:=λAG h=>abD AG h
def nest_room{prog:BR}{w:BA}{A:Bk}(B0:A.units+16<Ce):(RG prog w).room A.in1:=show A.units+1+8<Ce by lia
end
inductive V where
 |non|AO (b:Bool)|int (i:Int)|str (x:Str)|Mu (b:Array UInt8)|XQ (b:UInt64)|ref (a:Z)|ty (n:String)
 deriving DecidableEq
def RelV:V->U->Prop
 |.non,u=>u=JV
 |.AO b,u=>u=Ru b
 |.int i,u=>∃t,u=XK i t
 |.str x,u=>∃t,u=XM x t
 |.Mu b,u=>∃t,u=Value.bytes b t
 |.XQ b,u=>∃t,u=Value.float b t
 |.ref a,u=>u=D7 a
 |.ty n,u=>u=Lb n
abbrev Vals:List V->List U->Prop:=Paired RelV
theorem Vals.length{xs:List V}{us:List U}(r:Vals xs us):xs.length=us.length:=Paired.length r
theorem Vals.get:∀{xs:List V}{us:List U}{i:Nat}{x:V},Vals xs us->xs[i]?=some x->∃u,us[i]?=some u/\RelV x u
 |_,_,_,_,.nil,e=>by simp at e
 |_,_,0,_,.cons r _,e=>by simp at e;subst e;exact⟨_,rfl,r⟩
 |_,_,i+1,x,.cons _ t,e=>by obtain⟨u,h1,h2⟩:=Vals.get (i:=i) (x:=x) t (by simpa using e);exact⟨u,by simpa using h1,h2⟩
theorem Vals.set{x:V}{u:U}(r:RelV x u):∀{xs:List V}{us:List U}(i:Nat),Vals xs us->Vals (xs.set i x) (us.set i u)
 |_,_,_,.nil=>.nil
 |_,_,0,.cons _ t=>.cons r t
 |_,_,i+1,.cons q t=>.cons q (Vals.set r i t)
theorem Vals.append:∀{xs ys:List V}{us ws:List U},Vals xs us->Vals ys ws->Vals (xs++ys) (us++ws)
 |_,_,_,_,.nil,s=>s
 |_,_,_,_,.cons r t,s=>.cons r (Vals.append t s)
theorem Vals.take:∀{xs:List V}{us:List U}(n:Nat),Vals xs us->Vals (xs.take n) (us.take n)
 |_,_,0,_=>.nil
 |_,_,_+1,.nil=>.nil
 |_,_,n+1,.cons r t=>.cons r (Vals.take n t)
theorem Vals.drop:∀{xs:List V}{us:List U}(n:Nat),Vals xs us->Vals (xs.drop n) (us.drop n)
 |_,_,0,r=>r
 |_,_,_+1,.nil=>.nil
 |_,_,n+1,.cons _ t=>Vals.drop n t
def Hi:Option V->Option U->Prop
 |some v,some u=>RelV v u
 |none,none=>True
 |_,_=>False
def GW{κ:Type}:List (κ×V)->List (κ×U)->Prop:=Paired λ(p:κ×V)(q:κ×U)=>p.1=q.1/\RelV p.2 q.2
noncomputable def Cu:Key->V
 |.inl i=>.int i
 |.inr x=>.str x
inductive D2 where
 |lst (xs:List V)
 |tup (xs:List V)
 |DM (Ay:List (Key×V))|BN (Ay:List (C8×V))
 |set (S:Int->Bool) (n:Nat)
 |ins (C Av:Z) (Am:List (Str×V))
 |own (x:Z)
 |Zx (Am:List (Str×V))
 |met (f x:Z)
 |Z3 (lo A0:Int)
 |JZ (o:Obj) (u:D2)
 |Os (ps:Array U)
 |ext (R3:Aq->Prop)
abbrev A4:=Z->Option D2
noncomputable def upd(H:A4)(a:Z)(o:D2):A4:=λb=>if b=a then some o else H b
def DO{H:A4}{a:Z}{o:D2}:upd H a o a=some o:=by unfold upd;rw[if_pos rfl]
def Co{H:A4}{a b:Z}{o:D2}(h:b≠a):upd H a o b=H b:=by unfold upd;rw[if_neg h]
def aaS{H:A4}{a b:Z}{o u:D2}(h:H a=some o)(h':H b=some u)(d:o≠u):a≠b:=by intro e;subst e;rw[h]at h';exact d (Dz h')
def I_{H:A4}{a b:Z}{o:D2}(h:H a=some o)(h':H b=none):a≠b:=by intro e;subst e;rw[h]at h';cases h'
def NV(H:A4):Jw->V->Prop
 |.inl k,v=>v=Cu k
 |.inr ks,v=>∃b,v=.ref b/\H b=some (.tup (ks.map Cu))
def Jx(H:A4)(k:C8)(a:Z):Prop:=∃vs,H a=some (.tup vs)/\Paired (NV H) k vs
def NV.mono{H H':A4}(BF:∀b xs,H b=some (.tup xs)->H' b=some (.tup xs)):∀{k:Jw}{v:V},NV H k v->NV H' k v
 |.inl _,_,h=>h
 |.inr _,_,⟨b,e,h⟩=>⟨b,e,BF _ _ h⟩
theorem iR.mono{H H':A4}(BF:∀b xs,H b=some (.tup xs)->H' b=some (.tup xs)):∀{k:C8}{vs:List V},Paired (NV H) k vs->Paired (NV H') k vs
 |_,_,.nil=>.nil
 |_,_,.cons r t=>.cons (r.mono BF) (iR.mono BF t)
theorem Jx.mono{H H':A4}{k:C8}{a:Z}(h:Jx H k a)(BF:∀b xs,H b=some (.tup xs)->H' b=some (.tup xs)):Jx H' k a:=
 let⟨vs,e,r⟩:=h;⟨vs,BF _ _ e,iR.mono BF r⟩
section
variable(P:BR)(w:BA)
noncomputable def E5(H:A4)(h:Aq)(a:Z):D2->Prop
 |.lst xs=>xs.length<=CH/\∃(its:List U)(n:Nat),Vals xs its/\h.get? a=some { cls:=.type "list",data:=.seq its.toArray n }
 |.tup xs=>xs.length<=CH/\∃its:List U,Vals xs its/\IsTup h a its.toArray
 |.DM Ay=>Ay.length<=CH/\(a==Lc)=false/\∃vs,GW Ay vs/\h.DictOf (GS P w) a vs
 |.BN Ay=>Ay.length<=CH/\(a==Lc)=false/\∃xs:List (C8×Z×U),
     Paired (λ(p:C8×V)(q:C8×Z×U)=>p.1=q.1/\Jx H p.1 q.2.1/\RelV p.2 q.2.2) Ay xs/\
     ∃o es B3,h.get? a=some o/\o.ExactDict/\o.data=.dict es B3/\es.toList=xs.map (entryOfKey (RG P w))/\(xs.map (·.1)).Nodup
 |.set S n=>h.SetOf (Io P w) a S n
 |.ins C Av Am=>H Av=some (.own a)/\Am.length<=1000/\Av≠a/\h.get? a=some (OH C Av)/\
     ∃Dv,h.Ns1 Av Dv/\(∀f,Hi (Am.lookup f) (Dv f))/\fy Dv (Am.map (·.1))
 |.own _=>∃o,h.get? a=some o
 |.Zx Am=>∃Dv,h.Ns1 a Dv/\∀f,Hi (Am.lookup f) (Dv f)
 |.Z3 lo A0=>∃t u v,h.get? a=some { cls:=.type "range",data:=.fields #[.int lo t,.int A0 u,.int 1 v] }
 |.JZ o u=>h.get? a=some o/\E5 H h a u
 |.Os ps=>h.get? a=some { cls:=.none,data:=.fields ps }
 |.met f x=>h.get? a=some (fw (.ref f) (.ref x))
 |.ext R3=>R3 h/\(∃o,h.get? a=some o)/\∀h1 h2:Aq,R3 h1->(∀o,h1.get? a=some o->h2.get? a=some o)->R3 h2
def Dx(H:A4)(h:Aq):Prop:=∀a o,H a=some o->E5 P w H h a o
end
section
variable{P:BR}{w:BA}{H H':A4}{h h':Aq}{a:Z}{o:D2}
theorem E5.lt(x:E5 P w H h a o):a<h.objs.size:=by
 cases o with
 |lst xs=>obtain⟨_,_,_,_,e⟩:=x;exact Cv e
 |tup xs=>obtain⟨_,_,_,p⟩:=x;exact p.lt
 |DM Ay=>obtain⟨_,_,_,_,o,_,_,e,_⟩:=x;exact Cv e
 |BN Ay=>obtain⟨_,_,_,_,o,_,_,e,_⟩:=x;exact Cv e
 |set S n=>obtain⟨o,_,_,_,e,_⟩:=x;exact Cv e
 |ins C Av Am=>obtain⟨_,_,_,e,_⟩:=x;exact Cv e
 |own y=>obtain⟨_,e⟩:=x;exact Cv e
 |Zx Am=>obtain⟨_,⟨_,_,_,e,_⟩,_⟩:=x;exact Cv e
 |Z3 lo A0=>obtain⟨_,_,_,e⟩:=x;exact Cv e
 |JZ ob u=>obtain⟨e,_⟩:=x;exact Cv e
 |Os ps=>exact Cv (show h.get? a=some _ from x)
 |met f y=>exact Cv (show h.get? a=some _ from x)
 |ext R3=>obtain⟨_,⟨_,e⟩,_⟩:=x;exact Cv e
theorem Paired.WH{α β:Type}{F G:α->β->Prop}:∀{oB:List α}{oC:List β},Paired F oB oC->(∀a b,F a b->G a b)->Paired G oB oC
 |_,_,.nil,_=>.nil
 |_,_,.cons r t,f=>.cons (f _ _ r) (Paired.WH t f)
def E5.Nr(x:E5 P w H h a o)(k:∀b u,(b=a\/H b=some (.own a))->h.get? b=some u->h'.get? b=some u)(AE:∀b,H b=some (.own a)->H' b=some (.own a))(BF:∀b xs,H b=some (.tup xs)->H' b=some (.tup xs)):E5 P w H' h' a o:=by
 induction o with
 |lst xs=>obtain⟨z,its,n,r,e⟩:=x;exact⟨z,its,n,r,k _ _ (.inl rfl) e⟩
 |tup xs=>obtain⟨z,its,r,ob,e,c⟩:=x;exact⟨z,its,r,ob,k _ _ (.inl rfl) e,c⟩
 |DM Ay=>obtain⟨z,y,vs,r,ob,es,B3,e,c⟩:=x;exact⟨z,y,vs,r,ob,es,B3,k _ _ (.inl rfl) e,c⟩
 |BN Ay=>obtain⟨z,y,xs,r,ob,es,B3,e,c⟩:=x;exact⟨z,y,xs,Paired.WH r λp q z=>⟨z.1,z.2.1.mono BF,z.2.2⟩,ob,es,B3,k _ _ (.inl rfl) e,c⟩
 |set S n=>obtain⟨ob,es,B3,t,e,c⟩:=x;exact⟨ob,es,B3,t,k _ _ (.inl rfl) e,c⟩
 |ins C Av Am=>obtain⟨d,z,ne,e,Dv,⟨DN,es,B3,A7,c⟩,r⟩:=x;exact⟨AE _ d,z,ne,k _ _ (.inl rfl) e,Dv,⟨DN,es,B3,k _ _ (.inr d) A7,c⟩,r⟩
 |own y=>obtain⟨ob,e⟩:=x;exact⟨ob,k _ _ (.inl rfl) e⟩
 |Zx Am=>obtain⟨Dv,⟨DN,es,B3,e,c⟩,r⟩:=x;exact⟨Dv,⟨DN,es,B3,k _ _ (.inl rfl) e,c⟩,r⟩
 |Z3 lo A0=>obtain⟨t,u,v,e⟩:=x;exact⟨t,u,v,k _ _ (.inl rfl) e⟩
 |JZ ob u Bg=>obtain⟨e,q⟩:=x;exact⟨k _ _ (.inl rfl) e,Bg q⟩
 |Os ps=>have e:h.get? a=some { cls:=.none,data:=.fields ps }:=x;show h'.get? a=some { cls:=.none,data:=.fields ps };exact k a _ (.inl rfl) e
 |met f y=>have e:h.get? a=some (fw (.ref f) (.ref y)):=x;show h'.get? a=some (fw (.ref f) (.ref y));exact k a _ (.inl rfl) e
 |ext R3=>obtain⟨p,⟨o,e⟩,st⟩:=x;exact⟨st _ _ p λo q=>k _ _ (.inl rfl) q,⟨o,k _ _ (.inl rfl) e⟩,st⟩
theorem Dx.lt(x:Dx P w H h)(e:H a=some o):a<h.objs.size:=(x a o e).lt
def Dx.fresh(x:Dx P w H h)(e:h.objs.size<=a):H a=none:=by
 cases q:H a with
 |none=>rfl
 |some u=>exact absurd (Gk (x.lt q) e) (IK _)
def Dx.kept(x:Dx P w H h)(k:∀b u,h.get? b=some u->h'.get? b=some u):Dx P w H h':=λa o e=>
 (x a o e).Nr (λb u _ q=>k b u q) (λ_ q=>q) λ_ _ q=>q
def Dx.laid(x:Dx P w H h)(k:∀b u,h.get? b=some u->h'.get? b=some u)(AW:h.objs.size<=a)(new:E5 P w (upd H a o) h' a o):Dx P w (upd H a o) h':=λb u e=>by
 have AR:=x.fresh AW;by_cases J:b=a
 .subst J;rw[DO]at e;cases e;exact new
 .rw[Co J]at e;exact(x b u e).Nr (λc v _ q=>k c v q) (λc q=>by rw[Co (I_ q AR)];exact q) λc xs q=>by rw[Co (I_ q AR)];exact q
end
def FV(H:A4)(a:Z)(u:D2):Prop:=H a=some u\/∃o,H a=some (.JZ o u)
def FV.ok{P:BR}{w:BA}{H:A4}{h:Aq}{a:Z}{u:D2}(r:FV H a u)(x:Dx P w H h):E5 P w H h a u:=by
 rcases r with r|⟨o,r⟩
 .exact x a u r
 .obtain⟨_,q⟩:=x a _ r;exact q
def UC:Option D2->Prop
 |some (.lst _)=>True
 |some (.DM _)=>True
 |some (.BN _)=>True
 |some (.set _ _)=>True
 |some (.ins _ _ _)=>True
 |some (.ext _)=>True
 |_=>False
section
variable{P:BR}{w:BA}{H:A4}{h h':Aq}{x e:Z}{BM:D2}
def Dx.write(ok:Dx P w H h)(Jj:UC (H x))(he:e=x\/H e=some (.own x))(k:∀b u,b≠e->h.get? b=some u->h'.get? b=some u)(TF:∃u,h'.get? e=some u)(new:E5 P w (upd H x BM) h' x BM):Dx P w (upd H x BM) h':=λb u q=>by
 have nT:∀c y,H c=some (.own y)->c≠x:=λc y r z=>by subst z;rw[r]at Jj;exact Jj
 have aaG:∀c xs,H c=some (.tup xs)->c≠x:=λc xs r z=>by subst z;rw[r]at Jj;exact Jj
 by_cases J:b=x
 .subst J;rw[DO]at q;cases q;exact new
 .rw[Co J]at q;by_cases N5:b=e
  .have D_:H b=some (.own x):=by
     rcases he with z|z
     .exact absurd (N5.trans z) J
     .rw[N5];exact z
   rw[q]at D_;cases D_;obtain⟨v,Az⟩:=TF;exact⟨v,by rw[N5];exact Az⟩
  .refine(ok b u q).Nr (λc v AB r=>k c v ?_ r) (λc r=>by rw[Co (nT c b r)];exact r) λc xs r=>by rw[Co (aaG c xs r)];exact r
   rcases AB with rfl|AB
   .exact N5
   .rintro rfl;rcases he with z|z
    .exact nT c b AB z
    .rw[AB]at z;cases z;exact J rfl
end
structure Fd(Am ex:List Z)(H H':A4)(h h':Aq):Prop where
 keep:∀b o,h.get? b=some o->H b=none->b∉Am->b∉ex->h'.get? b=some o
 slot:∀b o,h.get? b=some o->H b=none->b∈Am->b∉ex->∃BY,h'.get? b=some { o with slots:=BY }
 free:∀b o,h.get? b=some o->H b=none->b∉ex->H' b=none
 there:∀b o,h.get? b=some o->b∉ex->∃BM,h'.get? b=some BM
 L0:∀b xs,H b=some (.tup xs)->H' b=some (.tup xs)
 KY:∀b o u,H b=some (.JZ o u)->H' b=some (.JZ o u)
 Kz:∀b ps,H b=some (.Os ps)->∃more,H' b=some (.Os (ps++more))
section
variable{Am Yl ex aie:List Z}{H H1 Ab:A4}{h h1 h2 h':Aq}{a x e:Z}{o:D2}
def Fd.any(u:Fd Am ex H H1 h h1){b:Z}{ob:Obj}(q:h.get? b=some ob)(n:H b=none)(A5:b∉ex):∃BY,h1.get? b=some { ob with slots:=BY }:=by
 by_cases J:b∈Am
 .exact u.slot b ob q n J A5
 .exact⟨ob.slots,u.keep b ob q n J A5⟩
def Fd.kept(k:∀b u,h.get? b=some u->h'.get? b=some u):Fd Am ex H H h h':=
 ⟨λb ob q _ _ _=>k b ob q,λb ob q _ _ _=>⟨ob.slots,k b ob q⟩,λ_ _ _ n _=>n,λb ob q _=>⟨ob,k b ob q⟩,λ_ _ q=>q,λ_ _ _ q=>q,λ_ ps q=>⟨#[],by rw[q];simp⟩⟩
def Fd.refl:Fd Am ex H H h h:=Fd.kept λ_ _ q=>q
def Fd.laid(k:∀b u,h.get? b=some u->h'.get? b=some u)(AW:h.objs.size<=a)(AR:H a=none):Fd Am ex H (upd H a o) h h' where
 keep:=λb u q _ _ _=>k b u q
 slot:=λb u q _ _ _=>⟨u.slots,k b u q⟩
 free:=λb u q n _=>by rw[Co (ET (Gk (Cv q) AW))];exact n
 there:=λb u q _=>⟨u,k b u q⟩
 L0:=λb xs q=>by rw[Co (I_ q AR)];exact q
 KY:=λb u xs q=>by rw[Co (I_ q AR)];exact q
 Kz:=λb ps q=>⟨#[],by rw[Co (I_ q AR),q];simp⟩
def Fd.write(Jj:UC (H x))(he:e=x\/H e=some (.own x))(k:∀b u,b≠e->h.get? b=some u->h'.get? b=some u)(TF:∃u,h'.get? e=some u):Fd Am ex H (upd H x o) h h':=by
 have A5:∀b,H b=none->b≠x:=λb n z=>by subst z;rw[n]at Jj;exact Jj
 have J:∀b,H b=none->b≠e:=λb n z=>by
  subst z;rcases he with r|r
  .exact A5 b n r
  .rw[n]at r;cases r
 have hm:∀b u,H b=some u->¬UC (some u)->b≠x:=λb u q nm z=>by subst z;rw[q]at Jj;exact nm Jj
 refine⟨λb u q n _ _=>k b u (J b n) q,λb u q n _ _=>⟨u.slots,k b u (J b n) q⟩,λb u q n _=>by rw[Co (A5 b n)];exact n,λb u q _=>?_,
  λb xs q=>by rw[Co (hm b _ q λz=>z)];exact q,λb u xs q=>by rw[Co (hm b _ q λz=>z)];exact q,λb ps q=>⟨#[],by rw[Co (hm b _ q λz=>z),q];simp⟩⟩
 by_cases N5:b=e
 .subst N5;exact TF
 .exact⟨u,k b u N5 q⟩
end
noncomputable def aH(h:Aq)(H:A4):List Z:=(EI h.objs.size).filter λa=>(H a).isSome
def OB(h:Aq)(H:A4):Aq:=Wt h (aH h H)
def vV(h:Aq)(H:A4):(OB h H).objs.size=h.objs.size:=PySem.W.hideAll_size _ _
def vU{h:Aq}{H:A4}{b:Z}{o:Obj}(e:h.get? b=some o)(n:H b=none):(OB h H).get? b=some o:=
 sF _ e λhm=>by have q:(H b).isSome=true:=(List.mem_filter.mp hm).2;rw[n]at q;simp at q
def aan{h:Aq}{H:A4}{b:Z}{o:Obj}(e:(OB h H).get? b=some o):h.get? b=some o/\H b=none:=by
 have Bi:h.get? b=some o:=sH (aH h H) e;refine⟨Bi,?_⟩;cases q:H b with
 |none=>rfl
 |some x=>have hm:b∈aH h H:=List.mem_filter.mpr ⟨List.mem_range.mpr (Cv Bi),by simp[q]⟩;have z:(OB h H).get? b=none:=PySem.W.hideAll_none (aH h H) hm;rw[z]at e;cases e
noncomputable def sr(g h:Aq)(L:Z):List (Z×Obj):=(EI h.objs.size).filterMap λa=>if a=L\/(g.get? a).isSome=true then none else(h.get? a).map λo=>(a,o)
def rest(g h:Aq)(L d:Z):List (Z×Obj):=(sr g h L).filter λp=>decide (p.1≠d)
structure Mod(K:AT)(AA:Str->Option U)(base:Aq):Prop where
 Ou:K.In base
 glob:base.Ns DQ AA
 blt:∃Eo,base.Ns builtinsNs Eo/\∀x:Str,x≠"__name__"->Eo x=Kv x
 nolimit:base.NoLimit
structure AX where
 prog:BR
 w:BA
 K:AT
 AA:Str->Option U
 base:Aq
 A:Bk
 N:List Str
 FF:AD
 Ql:A4
 env:Env
 outer:List Env
 stack:List Env
 ex:List Z
 fn:Str->Bool
 calm:Bool
 D4:List (Z×Obj)
 xe:U->AD->Prop
noncomputable def EP(l:List Env):List Z:=l.filterMap (·.frame)
abbrev AX.Am(X:AX):List Z:=EP X.outer
def Gx(sc:DT)(x:Str):Prop:=sc.names.lookup x=some .local\/sc.names.lookup x=some .cell\/sc.names.lookup x=some .free
def Loc(sc:DT)(x:Str):Prop:=sc.names.lookup x=some .local\/sc.names.lookup x=some .cell
def Look(env:Env)(h:Aq)(m:Str->Option U)(x:Str)(u:U):Prop:=
 (env.kindOf x=some .local/\m x=some u)\/((env.kindOf x=some .cell\/env.kindOf x=some .free)/\∃c,env.cells.lookup x=some c/\h.IsCell c (some u))
structure AX.Ok(X:AX):Prop where
 mod:Mod X.K X.AA X.base
 kind:X.env.scope.kind=.function
 glob:X.env.globals=DQ
 blt:X.env.builtins=builtinsNs
 above:X.FF.heap.objs.size<=X.env.locals
 inj:∀x y c,X.env.cells.lookup x=some c->X.env.cells.lookup y=some c->x=y
 has:∀x,(X.env.kindOf x=some .cell\/X.env.kindOf x=some .free)->∃c,X.env.cells.lookup x=some c
 UQ:∀x c,X.fn x=true->X.env.cells.lookup x=some c->X.FF.heap.objs.size<=c
 hd:X.calm=true->X.A.handled=none
 frames:X.A.frames=some X.stack
 a5:X.stack=X.outer\/(X.stack=X.env::X.outer/\X.env.frame=some X.env.locals)
 ki:∀b∈X.ex,b≠X.env.locals/\∀x c,X.env.cells.lookup x=some c->c≠b
 bs:∀b o,X.base.get? b=some o->X.FF.heap.get? b=some o/\X.Ql b=none
 OV:X.base.objs.size<=X.FF.heap.objs.size
 RI:∀b o,X.base.get? b=some o->b∉X.ex
 Xq:∀b∈X.ex,b∉X.Am
 J_:X.FF.heap.FunFrames X.base X.outer
 QX:∀b∈X.Am,X.Ql b=none
structure Inv(X:AX)(pins:List (Z×Obj))(σ :List (Option V))(H:A4)(s:AD):Prop where
 ok:X.Ok
 os:s.os=X.FF.os
 bare:MP s.gens
 base:Fd X.Am X.ex X.Ql H X.FF.heap s.heap
 loc:∃m,s.heap.Ns X.env.locals m/\∀(i:Nat)(x:Str)(v:V),X.N[i]?=some x-> σ[i]?=some (some v)->Gx X.env.scope x->∃u,RelV v u/\Look X.env s.heap m x u
 cell:∀x c,X.env.cells.lookup x=some c->∃v,s.heap.IsCell c v
 free:H X.env.locals=none
 N0:∀x c,X.env.cells.lookup x=some c->H c=none
 pin:∀p∈X.D4++pins,s.heap.get? p.1=some p.2/\H p.1=none/\p.1≠X.env.locals/\p.1∉X.Am/\∀v,p.2.data≠.cell v
 BE:Dx X.prog X.w H s.heap
 len: σ.length=X.N.length
section
variable{X:AX}{pins:List (Z×Obj)}{σ :List (Option V)}{H H':A4}{s:AD}{h':Aq}
def AX.Ok.aag(ok:X.Ok){b:Z}{o:Obj}(e:X.base.get? b=some o):b∉X.Am:=λJ=>by have:=(ok.J_.mem J).1;rw[e]at this;cases this
theorem Inv.bs(I:Inv X pins σ H s):∀b o,X.base.get? b=some o->s.heap.get? b=some o/\H b=none:=λb o e=>
 ⟨I.base.keep b o (I.ok.bs b o e).1 (I.ok.bs b o e).2 (I.ok.aag e) (I.ok.RI b o e),I.base.free b o (I.ok.bs b o e).1 (I.ok.bs b o e).2 (I.ok.RI b o e)⟩
def Inv.F9(I:Inv X pins σ H s):∀b o,X.base.get? b=some o->s.heap.get? b=some o:=λb o e=>(I.bs b o e).1
theorem Inv.mod(I:Inv X pins σ H s):Mod X.K X.AA X.base:=I.ok.mod
def Inv.Fh(I:Inv X pins σ H s):X.K.In s.heap:=I.ok.mod.Ou.keeps I.F9
theorem Inv.lt(I:Inv X pins σ H s):X.env.locals<s.heap.objs.size:=let⟨_,AR,_⟩:=I.loc;AR.lt
def Inv.Kx(I:Inv X pins σ H s):X.FF.heap.objs.size<=s.heap.objs.size:=Eg I.ok.above (MK I.lt)
def Inv.aai(I:Inv X pins σ H s){a:Z}(h:s.heap.objs.size<=a):a∉X.Am:=λJ=>by obtain⟨_,o,AE,_⟩:=I.ok.J_.mem J;exact absurd (Gk (Cv AE) (Eg I.Kx h)) (IK _)
def Inv.QM(I:Inv X pins σ H s):∀x c,X.env.cells.lookup x=some c->c≠X.env.locals:=λx c e z=>by obtain⟨v,o,AE,hd⟩:=I.cell x c e;obtain⟨m,⟨BM,es,B3,Dy,Ea,_⟩,_⟩:=I.loc;rw[z,Dy]at AE;cases AE;rw[Ea]at hd;cases hd
theorem Inv.J_(I:Inv X pins σ H s):s.heap.FunFrames X.base X.outer:=by
 have all:∀(l:List Env),(∀b∈EP l,b∈X.Am)->X.FF.heap.FunFrames X.base l->s.heap.FunFrames X.base l:=by
  intro l;induction l with
  |nil=>intro _ _;trivial
  |cons env r Bg=>intro hs AF;obtain⟨AG,⟨L,o,hf,AR,AE,hd⟩,AS⟩:=AF;have Fz:L∈X.Am:=hs L (by unfold EP;rw[RX,hf];exact GT);obtain⟨BY,e⟩:=I.base.slot L o AE (I.ok.QX L Fz) Fz λz=>I.ok.Xq L z Fz;exact⟨AG,⟨L,_,hf,AR,e,hd⟩,Bg (λb J=>hs b (by unfold EP;rw[RX,hf];exact E3 _ J)) AS⟩
 exact all X.outer (λ_ J=>J) I.ok.J_
theorem Inv.stack(I:Inv X pins σ H s):s.heap.FunFrames X.base X.stack:=by
 rcases I.ok.a5 with e|⟨e,hf⟩
 .rw[e];exact I.J_
 .rw[e];obtain⟨m,AR,_⟩:=I.loc;refine .cons (by rw[I.ok.kind];decide) hf AR ?_ I.J_;exact Heap.get?_none_of_le (Eg I.ok.OV I.ok.above)
def Inv.a6(I:Inv X pins σ H s):∀b∈EP X.stack,b∈X.env.locals::X.Am:=λb J=>by
 rcases I.ok.a5 with e|⟨e,hf⟩
 .rw[e]at J;exact E3 _ J
 .rw[e]at J;unfold EP at J;rw[RX,hf]at J;exact J
def Inv.dz(I:Inv X pins σ H s):∀b∈EP X.stack,H b=none:=λb J=>by
 rcases List.mem_cons.mp (I.a6 b J)with e|J
 .rw[e];exact I.free
 .obtain⟨_,o,AE,_⟩:=I.ok.J_.mem J;exact I.base.free b o AE (I.ok.QX b J) λz=>I.ok.Xq b z J
def Inv.step{g':Array GenState}{t':Nat}{d':Drawn}{ch:List Z}(I:Inv X pins σ H s)(N6:∀b∈ch,(b∈X.ex\/X.FF.heap.objs.size<=b)/\b≠X.env.locals/\(∀x c,X.env.cells.lookup x=some c->c≠b)/\∀p∈X.D4++pins,p.1≠b)(keep:∀b o,b≠X.env.locals->b∉X.Am->b∉ch->s.heap.get? b=some o->H b=none->h'.get? b=some o)(slot:∀b o,b≠X.env.locals->b∈X.Am->b∉ch->s.heap.get? b=some o->H b=none->∃BY,h'.get? b=some { o with slots:=BY })(free:∀b o,b∉ch->s.heap.get? b=some o->H b=none->H' b=none)(there:∀b o,b∉ch->s.heap.get? b=some o->∃BM,h'.get? b=some BM)(L0:∀b xs,H b=some (.tup xs)->H' b=some (.tup xs))(KY:∀b o u,H b=some (.JZ o u)->H' b=some (.JZ o u))(Kz:∀b ps,H b=some (.Os ps)->∃more,H' b=some (.Os (ps++more)))(ns:∀m,s.heap.Ns X.env.locals m->h'.Ns X.env.locals m)(BE:Dx X.prog X.w H' h')(AQ:MP g') :
  Inv X pins σ H' { s with heap:=h',gens:=g',drawn:=d',toks:=t' }:=by
 have oL:∀b o,X.FF.heap.get? b=some o->b≠X.env.locals:=λb o e=>ET (Gk (Cv e) I.ok.above);have ZC:∀b o,X.FF.heap.get? b=some o->b∉X.ex->b∉ch:=λb o e A5 J=>by
  rcases(N6 b J).1 with z|z
  .exact A5 z
  .exact absurd (Gk (Cv e) z) (IK _)
 have cellK:∀x c,X.env.cells.lookup x=some c->∀v,s.heap.IsCell c v->h'.IsCell c v:=λx c e v⟨o,AE,hd⟩=>by
  have WN:c∉ch:=λz=>(N6 c z).2.2.1 x c e rfl;by_cases AB:c∈X.Am
  .obtain⟨BY,q⟩:=slot c o (I.QM x c e) AB WN AE (I.N0 x c e);exact⟨_,q,hd⟩
  .exact⟨o,keep c o (I.QM x c e) AB WN AE (I.N0 x c e),hd⟩
 refine⟨I.ok,I.os,AQ,⟨λb o e n J A5=>?_,λb o e n J A5=>?_,λb o e n A5=>?_,λb o e A5=>?_,λb xs e=>L0 b xs (I.base.L0 b xs e),λb o xs e=>KY b o xs (I.base.KY b o xs e),λb ps e=>?_⟩,?_,λx c e=>?_,?_,λx c e=>?_,λp AW=>?_,BE,I.len⟩
 .exact keep b o (oL b o e) J (ZC b o e A5) (I.base.keep b o e n J A5) (I.base.free b o e n A5)
 .obtain⟨BY,A1⟩:=I.base.slot b o e n J A5;obtain⟨ef,A7⟩:=slot b _ (oL b o e) J (ZC b o e A5) A1 (I.base.free b o e n A5);exact⟨ef,A7⟩
 .obtain⟨BM,A1⟩:=I.base.there b o e A5;exact free b BM (ZC b o e A5) A1 (I.base.free b o e n A5)
 .obtain⟨BM,A1⟩:=I.base.there b o e A5;exact there b BM (ZC b o e A5) A1
 .obtain⟨m1,A1⟩:=I.base.Kz b ps e;obtain⟨m2,A7⟩:=Kz b _ A1;exact⟨m1++m2,by rw[A7,Array.append_assoc]⟩
 .obtain⟨m,AR,AF⟩:=I.loc;refine⟨m,ns m AR,λi x v A1 A7 B8=>?_⟩;obtain⟨u,r,l⟩:=AF i x v A1 A7 B8;refine⟨u,r,?_⟩;rcases l with l|⟨k,c,e,z⟩
  .exact .inl l
  .exact .inr ⟨k,c,e,cellK x c e _ z⟩
 .obtain⟨v,z⟩:=I.cell x c e;exact⟨v,cellK x c e v z⟩
 .obtain⟨m,⟨o,_,_,AE,_⟩,_⟩:=I.loc;exact free _ o (λz=>(N6 _ z).2.1 rfl) AE I.free
 .obtain⟨v,o,AE,hd⟩:=I.cell x c e;exact free c o (λz=>(N6 c z).2.2.1 x c e rfl) AE (I.N0 x c e)
 .obtain⟨e,n,ne,Jk,d⟩:=I.pin p AW;have WN:p.1∉ch:=λz=>(N6 p.1 z).2.2.2 p AW rfl;exact⟨keep p.1 p.2 ne Jk WN e n,free p.1 p.2 WN e n,ne,Jk,d⟩
def Inv.un{t':Nat}(I:Inv X pins σ H s)(u:Fd X.Am [] H H' s.heap h')(BE:Dx X.prog X.w H' h'):Inv X pins σ H' { s with heap:=h',toks:=t' }:=by
 obtain⟨m,⟨o,es,B3,AE,r⟩,_⟩:=id I.loc;obtain⟨BY,Fz⟩:=u.any AE I.free (by simp);exact I.step (g':=s.gens) (d':=s.drawn) (ch:=[]) (λ_ z=>nomatch z) (λb o _ J _ e n=>u.keep b o e n J (by simp)) (λb o _ J _ e n=>u.slot b o e n J (by simp)) (λb o _ e n=>u.free b o e n (by simp)) (λb o _ e=>u.there b o e (by simp)) u.L0 u.KY u.Kz (λCM hm=>by obtain⟨BM,es',QU,Dy,B2⟩:=hm;rw[AE]at Dy;cases Dy;exact⟨_,es',QU,Fz,B2⟩) BE I.bare
def Inv.call{g':Array GenState}{t':Nat}{d':Drawn}{ch:List Z}(I:Inv X pins σ H s)(u:Fd (EP X.stack) ch H H' s.heap h')(BE:Dx X.prog X.w H' h')(AQ:MP g')(N6:∀b∈ch,(b∈X.ex\/X.FF.heap.objs.size<=b)/\b≠X.env.locals/\(∀x c,X.env.cells.lookup x=some c->c≠b)/\∀p∈X.D4++pins,p.1≠b) :
  Inv X pins σ H' { s with heap:=h',gens:=g',drawn:=d',toks:=t' }:=by
 obtain⟨m,⟨o,es,B3,AE,r⟩,_⟩:=id I.loc;obtain⟨BY,Fz⟩:=u.any AE I.free λz=>(N6 _ z).2.1 rfl;exact I.step (ch:=ch) N6 (λb o Fz J AB e n=>u.keep b o e n (λz=>(List.mem_cons.mp (I.a6 b z)).elim Fz J) AB) (λb o _ _ AB e n=>u.any e n AB) (λb o AB e n=>u.free b o e n AB) (λb o AB e=>u.there b o e AB) u.L0 u.KY u.Kz (λCM hm=>by obtain⟨BM,es',QU,Dy,B2⟩:=hm;rw[AE]at Dy;cases Dy;exact⟨_,es',QU,Fz,B2⟩) BE AQ
def Inv.turned{t':Nat}{it:Z}(I:Inv X pins σ H s)(k:∀b o,b≠it->s.heap.get? b=some o->h'.get? b=some o)(AR:H it=none)(Fz:it≠X.env.locals)(h1:it∈X.ex\/X.FF.heap.objs.size<=it)(h2:∀x c,X.env.cells.lookup x=some c->c≠it)(h3:∀p∈X.D4++pins,p.1≠it):Inv X pins σ H { s with heap:=h',toks:=t' }:=by
 have PC:∀b u,H b=some u->b≠it:=λb u e z=>by rw[z,AR]at e;cases e
 refine I.step (g':=s.gens) (d':=s.drawn) (ch:=[it]) (λb J=>?_) (λb o _ _ AB e _=>k b o (λz=>AB (by simp[z])) e) (λb o _ _ AB e _=>⟨o.slots,k b o (λz=>AB (by simp[z])) e⟩) (λ_ _ _ _ n=>n)
  (λb o AB e=>⟨o,k b o (λz=>AB (by simp[z])) e⟩) (λ_ _ e=>e) (λ_ _ _ e=>e) (λb ps e=>⟨#[],by rw[e];simp⟩) (λm hm=>?_) (λb u e=>?_) I.bare
 .have e:b=it:=by simpa using J
  subst e;exact⟨h1,Fz,h2,h3⟩
 .obtain⟨o,es,B3,AE,r⟩:=hm;exact⟨o,es,B3,k _ o (KB Fz) AE,r⟩
 .refine(I.BE b u e).Nr (λc v AB q=>k c v ?_ q) (λ_ q=>q) λ_ _ q=>q;rcases AB with z|z
  .rw[z];exact PC b u e
  .exact PC c _ z
def Inv.tok(I:Inv X pins σ H s)(t:Nat):Inv X pins σ H { s with toks:=t }:=I.un (h':=s.heap) (t':=t) Fd.refl I.BE
theorem Inv.kept{t':Nat}(I:Inv X pins σ H s)(k:∀b u,s.heap.get? b=some u->h'.get? b=some u):Inv X pins σ H { s with heap:=h',toks:=t' }:=I.un (Fd.kept k) (I.BE.kept k)
theorem Inv.laid{a:Z}{o:D2}{t':Nat}(I:Inv X pins σ H s)(k:∀b u,s.heap.get? b=some u->h'.get? b=some u)(AW:s.heap.objs.size<=a)(new:E5 X.prog X.w (upd H a o) h' a o) :
  Inv X pins σ (upd H a o) { s with heap:=h',toks:=t' }:=I.un (Fd.laid k AW (I.BE.fresh AW)) (I.BE.laid k AW new)
theorem Inv.write{x e:Z}{o:D2}{t':Nat}(I:Inv X pins σ H s)(Jj:UC (H x))(he:e=x\/H e=some (.own x))(k:∀b u,b≠e->s.heap.get? b=some u->h'.get? b=some u)(TF:∃u,h'.get? e=some u)(new:E5 X.prog X.w (upd H x o) h' x o):Inv X pins σ (upd H x o) { s with heap:=h',toks:=t' }:=I.un (Fd.write Jj he k TF) (I.BE.write Jj he k TF new)
def Inv.p9{p8:List (Z×Obj)}(I:Inv X pins σ H s)(h:∀p∈p8,s.heap.get? p.1=some p.2/\H p.1=none/\p.1≠X.env.locals/\p.1∉X.Am/\∀v,p.2.data≠.cell v):Inv X p8 σ H s:=
 ⟨I.ok,I.os,I.bare,I.base,I.loc,I.cell,I.free,I.N0,λp AW=>(List.mem_append.mp AW).elim (λz=>I.pin p (MJ _ z)) (h p),I.BE,I.len⟩
def nQ{N:List Str}(hN:N.Nodup){i j:Nat}{x:Str}(a:N[i]?=some x)(b:N[j]?=some x):i=j:=by obtain⟨h1,A1⟩:=List.getElem?_eq_some_iff.mp a;obtain⟨h2,A7⟩:=List.getElem?_eq_some_iff.mp b;exact(List.getElem_inj hN).mp (A1.trans A7.symm)
def pS{M:Model}{A:Bk}{E:U->AD->Prop}{i:Nat}{x:Str}{v:V}{u:U}{Q:Unit->AD->Prop}(I:Inv X pins σ H s)(hN:X.N.Nodup)(A0:X.N[i]?=some x)(A5:Loc X.env.scope x)(r:RelV v u)(h:∀s',Inv X pins (σ.set i (some v)) H s'->(∃a,IL a s.heap s'.heap/\(a=X.env.locals\/X.env.cells.lookup x=some a))->Q () s')(hf:X.fn x=true\/X.env.scope.names.lookup x=some .local:=by first|exact .inl rfl|exact .inr rfl|assumption):AU M A (storeName X.env x u) Q E s:=by
 obtain⟨m,AR,AF⟩:=id I.loc;have vo:(X.env.scope.kind==.class||(X.env.scope.kind==.module&&X.env.locals !=X.env.globals))=false:=by rw[I.ok.kind];rfl
 have A0σ :i< σ.length:=by rw[I.len];exact(List.getElem?_eq_some_iff.mp A0).1
 have QM:=I.QM;have tracked:∀{a:Z}{h':Aq},(∃o,s.heap.get? a=some o/\H a=none)->IL a s.heap h'->Dx X.prog X.w H h':=λ{a h'} A2 hs b ob e=>by
  obtain⟨_,_,YP⟩:=A2;refine(I.BE b ob e).Nr (λc FG AB q=>(hs.2 c ?_).trans q) (λ_ q=>q) λ_ _ q=>q;rintro rfl;rcases AB with rfl|AB
  .rw[YP]at e;cases e
  .rw[YP]at AB;cases AB
 rcases A5 with AG|AG
 .refine wpAny_storeName_local AG AR (λh' xE hs=>?_) vo;obtain⟨aaK,_,_,xJ,_⟩:=id AR;refine h _ ⟨I.ok,I.os,I.bare,⟨λb o e n J A5=>?_,λb o e n J A5=>?_,I.base.free,λb o e A5=>?_,I.base.L0,I.base.KY,I.base.Kz⟩,⟨_,xE,λj y Ig A1 A7 B8=>?_⟩,λy c e=>?_,I.free,I.N0,λp AW=>?_,tracked ⟨aaK,xJ,I.free⟩ hs,by simpa using I.len⟩ ⟨_,hs,.inl rfl⟩
  .exact(hs.2 b (ET (Gk (Cv e) I.ok.above))).trans (I.base.keep b o e n J A5)
  .obtain⟨BY,A1⟩:=I.base.slot b o e n J A5;exact⟨BY,(hs.2 b (ET (Gk (Cv e) I.ok.above))).trans A1⟩
  .obtain⟨BM,A1⟩:=I.base.there b o e A5;exact⟨BM,(hs.2 b (ET (Gk (Cv e) I.ok.above))).trans A1⟩
  .by_cases BO:j=i
   .subst BO;rw[A0]at A1;cases A1;rw[Tb A0σ]at A7;cases A7;exact⟨u,r,.inl ⟨AG,by simp⟩⟩
   .rw[Pt (KB BO)]at A7;obtain⟨HL,B2,q⟩:=AF j y Ig A1 A7 B8;refine⟨HL,B2,?_⟩;rcases q with⟨k,e⟩|⟨k,c,e,z⟩
    .refine .inl ⟨k,?_⟩;have:y≠x:=λe=>BO (nQ hN A1 (e▸A0));simp[this,e]
    .exact .inr ⟨k,c,e,z.sameBut hs (QM y c e)⟩
  .obtain⟨FG,z⟩:=I.cell y c e;exact⟨FG,z.sameBut hs (QM y c e)⟩
  .obtain⟨e,n,ne,Jk,d⟩:=I.pin p AW;exact⟨(hs.2 p.1 ne).trans e,n,ne,Jk,d⟩
 .have b0:X.fn x=true:=by
    rcases hf with z|z
    .exact z
    .rw[z]at AG;cases AG
  obtain⟨c,AB⟩:=I.ok.has x (.inl AG);obtain⟨FG,z⟩:=I.cell x c AB;refine wpAny_storeName_cell I.ok.kind AG AB z (λh' Qc hs=>?_);obtain⟨F3,lY,xM⟩:=id z;refine h { s with heap:=h' } ⟨I.ok,I.os,I.bare,⟨λb o e n J A5=>?_,λb o e n J A5=>?_,I.base.free,λb o e A5=>?_,I.base.L0,I.base.KY,I.base.Kz⟩,⟨m,AR.sameBut hs (KB (QM x c AB)),λj y Ig A1 A7 B8=>?_⟩,λy E1 e=>?_,I.free,I.N0,λp AW=>?_,tracked ⟨F3,lY,I.N0 x c AB⟩ hs,by simpa using I.len⟩ ⟨c,hs,.inr AB⟩
  .exact(hs.2 b (ET (Gk (Cv e) (I.ok.UQ x c b0 AB)))).trans (I.base.keep b o e n J A5)
  .obtain⟨BY,A1⟩:=I.base.slot b o e n J A5;exact⟨BY,(hs.2 b (ET (Gk (Cv e) (I.ok.UQ x c b0 AB)))).trans A1⟩
  .obtain⟨BM,A1⟩:=I.base.there b o e A5;exact⟨BM,(hs.2 b (ET (Gk (Cv e) (I.ok.UQ x c b0 AB)))).trans A1⟩
  .by_cases BO:j=i
   .subst BO;rw[A0]at A1;cases A1;rw[Tb A0σ]at A7;cases A7;exact⟨u,r,.inr ⟨.inl AG,c,AB,Qc⟩⟩
   .rw[Pt (KB BO)]at A7;obtain⟨HL,B2,q⟩:=AF j y Ig A1 A7 B8;refine⟨HL,B2,?_⟩;rcases q with q|⟨k,E1,e,Es⟩
    .exact .inl q
    .refine .inr ⟨k,E1,e,Es.sameBut hs ?_⟩;rintro rfl;exact BO (nQ hN A1 (I.ok.inj _ _ _ e AB▸A0))
  .by_cases lI:E1=c
   .subst lI;exact⟨_,Qc⟩
   .obtain⟨D6,CP⟩:=I.cell y E1 e;exact⟨D6,CP.sameBut hs lI⟩
  .obtain⟨e,n,ne,Jk,d⟩:=I.pin p AW;refine⟨(hs.2 p.1 ?_).trans e,n,ne,Jk,d⟩;intro q;rw[q,lY]at e;have D_:F3=p.2:=Dz e;exact d FG (by rw[<-D_];exact xM)
def pR{M:Model}{A:Bk}{E:U->AD->Prop}{i:Nat}{x:Str}{v:V}{u:U}{Q:Unit->AD->Prop}(I:Inv X pins σ H s)(hN:X.N.Nodup)(A0:X.N[i]?=some x)(A5:Loc X.env.scope x)(r:RelV v u)(h:∀s',Inv X pins (σ.set i (some v)) H s'->Q () s')(hf:X.fn x=true\/X.env.scope.names.lookup x=some .local:=by first|exact .inl rfl|exact .inr rfl|assumption):AU M A (storeName X.env x u) Q E s:=
 pS I hN A0 A5 r (λs' KU _=>h s' KU) hf
def Inv.uL{s':AD}{ch:List Z}(I:Inv X pins σ H s)(AE:s'.os=s.os)(u:Fd (EP X.stack) ch H H' s.heap s'.heap)(BE:Dx X.prog X.w H' s'.heap)(AQ:MP s'.gens)(N6:∀b∈ch,(b∈X.ex\/X.FF.heap.objs.size<=b)/\b≠X.env.locals/\(∀x c,X.env.cells.lookup x=some c->c≠b)/\∀p∈X.D4++pins,p.1≠b):Inv X pins σ H' s':=by obtain⟨h',g',d',t',BM⟩:=s';have e:BM=s.os:=AE;subst e;exact I.call (g':=g') (t':=t') (d':=d') u BE AQ N6
end
abbrev CS:=U->Option Z->A4->Prop
abbrev St:=List (Option V)
abbrev Br:=V->A4->Prop
abbrev TE:=St->A4->Br->Prop
abbrev TT:=St->A4->(Bool->A4->Prop)->Prop
abbrev Et:=St->A4->(List V->A4->Prop)->Prop
structure Ends where
 BK:St->A4->Prop
 DB:Br
 F9:St->A4->Prop:=λ_ _=>False
 C_:St->A4->Prop:=λ_ _=>False
abbrev Ei:=Ends->St->A4->Prop
def Fs(X:AX)(pins:List (Z×Obj))(σ :St)(Q:Br)(u:U)(s':AD):Prop:=∃v H',Inv X pins σ H' s'/\RelV v u/\Q v H'
def Y7(X:AX)(pins:List (Z×Obj))(σ :St)(Q:Bool->A4->Prop)(b:Bool)(s':AD):Prop:=∃H',Inv X pins σ H' s'/\Q b H'
def t7(X:AX)(pins:List (Z×Obj))(σ :St)(Q:List V->A4->Prop)(us:List U)(s':AD):Prop:=∃vs H',Inv X pins σ H' s'/\Vals vs us/\Q vs H'
def Qq(X:AX)(pins:List (Z×Obj))(D:Ends)(f:Flow)(s':AD):Prop:=
 match f with
 |.next=>∃ σ' H',Inv X pins σ' H' s'/\D.BK σ' H'
 |.brk=>∃ σ' H',Inv X pins σ' H' s'/\D.F9 σ' H'
 |.cont=>∃ σ' H',Inv X pins σ' H' s'/\D.C_ σ' H'
 |.ret u=>∃v σ' H',Inv X pins σ' H' s'/\RelV v u/\D.DB v H'
def Al(X:AX)(e:AN)(t:TE):Prop:=
 ∀(pins:List (Z×Obj))(s:AD)(σ :St)(H:A4)(Q:Br),Inv X pins σ H s->t σ H Q->AU (Ai X.prog X.w) X.A (BC e X.env) (Fs X pins σ Q) X.xe s
def F0(X:AX)(e:AN)(t:TT):Prop:=
 ∀(pins:List (Z×Obj))(s:AD)(σ :St)(H:A4)(Q:Bool->A4->Prop),Inv X pins σ H s->t σ H Q->AU (Ai X.prog X.w) X.A (isTrue e X.env (BC e X.env)) (Y7 X pins σ Q) X.xe s
def Ix(X:AX)(e:AN)(t:TT):Prop:=
 ∀(whole:Sem U)(pins:List (Z×Obj))(s:AD)(σ :St)(H:A4)(Q:Bool->A4->Prop),Inv X pins σ H s->t σ H Q->AU (Ai X.prog X.w) X.A (isTrue e X.env whole) (Y7 X pins σ Q) X.xe s
def Ix.pt{X:AX}{e:AN}{t:TT}(h:Ix X e t):F0 X e t:=h _
def F8(X:AX)(es:List AN)(t:Et):Prop:=
 ∀(pos:Pos)(pins:List (Z×Obj))(s:AD)(σ :St)(H:A4)(Q:List V->A4->Prop),Inv X pins σ H s->t σ H Q->AU (Ai X.prog X.w) X.A (spliced (CW pos (Aw es X.env))) (t7 X pins σ Q) X.xe s
def Cf(X:AX)(st:BG)(t:Ei):Prop:=
 ∀(pins:List (Z×Obj))(s:AD)(σ :St)(H:A4)(D:Ends),Inv X pins σ H s->t D σ H->AU (Ai X.prog X.w) X.A (exec st X.env) (Qq X pins D) X.xe s
def FU(X:AX)(st:List BG)(t:Ei):Prop:=
 ∀(pins:List (Z×Obj))(s:AD)(σ :St)(H:A4)(D:Ends),Inv X pins σ H s->t D σ H->AU (Ai X.prog X.w) X.A (execs st X.env) (Qq X pins D) X.xe s
def BS{α:Type}{t:Sem α}{Q IC:α->AD->Prop}{M:Model}{A:Bk}{E:U->AD->Prop}{s:AD}(h:AU M A t Q E s)(Dn:∀a s,Q a s->IC a s):AU M A t IC E s:=H9 h Dn λ_ _ x=>x
section
variable{X:AX}
def bin{a b:AN}{Bo tb:TE}(A2:Al X a Bo)(J:Al X b tb){pins:List (Z×Obj)}{s:AD}{σ :St}{H:A4}{R:V->V->A4->Prop}(I:Inv X pins σ H s)(h:Bo σ H λx H1=>tb σ H1 λy Ab=>R x y Ab){α:Type}{Q:α->AD->Prop}{f:U->U->Sem α}(hf:∀v u s2 x y Ab,Inv X pins σ Ab s2->RelV x v->RelV y u->R x y Ab->AU (Ai X.prog X.w) X.A (f v u) Q X.xe s2) :
  AU (Ai X.prog X.w) X.A (BC a X.env) (λv Ci=>AU (Ai X.prog X.w) X.A (BC b X.env) (λu Ic=>AU (Ai X.prog X.w) X.A (f v u) Q X.xe Ic) X.xe Ci) X.xe s:=by
 refine BS (A2 pins s σ H _ I h) λv s1⟨x,H1,As,A6,A_⟩=>?_;refine BS (J pins s1 σ H1 _ As A_) λu s2⟨y,Ab,Bu,AZ,B4⟩=>?_;exact hf v u s2 x y Ab Bu A6 AZ B4
def Ky(i:Nat):TE:=λσ H Q=>∃v,σ[i]?=some (some v)/\Q v H
def Mp(v:V):TE:=λ_ H Q=>Q v H
def HG{i:Nat}{x:Str}{pos:Pos}(hN:X.N[i]?=some x)(Az:Gx X.env.scope x)(hd:(x==("__debug__" :Str))=false:=by decide)(Dh:(x==("__classdict__" :Str))=false:=by decide):Al X (.Name x pos) (Ky i):=by
 intro pins s σ H Q I h;obtain⟨v,e,h⟩:=h;obtain⟨m,AR,AF⟩:=I.loc;obtain⟨u,r,l⟩:=AF i x v hN e Az;have fin:Fs X pins σ Q u s:=⟨v,H,I,r,h⟩;rcases l with⟨AG,hm⟩|⟨AG,c,AB,lJ⟩
 .exact wpAny_Name (wpAny_loadName_local I.ok.kind AG AR hm fin) hd
 .rcases AG with AG|AG
  .exact wpAny_Name (wpAny_loadName_cell I.ok.kind AG AB lJ fin) hd
  .exact wpAny_Name (wpAny_loadName_free I.ok.kind AG AB lJ fin Dh) hd
def ZU{i j pos}:Al X (.Constant (.int i) j pos) (Mp (.int i)):=λ_ _ _ H _ I h=>wpAny_Constant_int ⟨.int i,H,I.tok _,⟨_,rfl⟩,h⟩
def ab_{b j pos}:Al X (.Constant (.bool b) j pos) (Mp (.AO b)):=λ_ _ _ H _ I h=>Constant_bool ⟨.AO b,H,I,rfl,h⟩
def abI{j pos}:Al X (.Constant .none j pos) (Mp .non):=λ_ _ _ H _ I h=>Constant_none ⟨.non,H,I,rfl,h⟩
def dP{x j pos}:Al X (.Constant (.str x) j pos) (Mp (.str x)):=λ_ _ _ H _ I h=>Calls.Constant_str ⟨.str x,H,I.tok _,⟨_,rfl⟩,h⟩
def DK(X:AX)(x:Str):Prop:=X.env.kindOf x=some .globalImplicit
def YN{E:U->AD->Prop}{pins:List (Z×Obj)}{s:AD}{σ :St}{H:A4}{x:Str}{u:U}{pos:Pos}{Q:U->AD->Prop}(I:Inv X pins σ H s)(AQ:DK X x)(hm:X.AA x=some u)(h:Q u s)(hd:(x==("__debug__" :Str))=false:=by decide):AU (Ai X.prog X.w) X.A (BC (.Name x pos) X.env) Q E s:=
 rg I.ok.kind AQ (Calls.loadGlobal_global (by rw[I.ok.glob];exact I.mod.glob.keeps I.F9) hm h) hd
def Ov{E:U->AD->Prop}{pins:List (Z×Obj)}{s:AD}{σ :St}{H:A4}{x:Str}{u:U}{pos:Pos}{Q:U->AD->Prop}(I:Inv X pins σ H s)(AQ:DK X x)(hm:X.AA x=none)(Az:Kv x=some u)(h:Q u s)(AR:x≠"__name__":=by decide)(hd:(x==("__debug__" :Str))=false:=by decide):AU (Ai X.prog X.w) X.A (BC (.Name x pos) X.env) Q E s:=by obtain⟨Eo,h1,h2⟩:=I.mod.blt;exact rg I.ok.kind AQ (Calls.loadGlobal_builtin (by rw[I.ok.glob];exact I.mod.glob.keeps I.F9) hm (by rw[I.ok.blt];exact h1.keeps I.F9) ((h2 x AR).trans Az) h) hd
def abi{x:Str}{v:V}{u:U}{pos:Pos}(AQ:DK X x)(hm:X.AA x=some u)(r:RelV v u)(hd:(x==("__debug__" :Str))=false:=by decide):Al X (.Name x pos) (Mp v):=
 λ_ _ _ H _ I h=>YN I AQ hm ⟨v,H,I,r,h⟩ hd
def aba{x:Str}{v:V}{u:U}{pos:Pos}(AQ:DK X x)(hm:X.AA x=none)(Az:Kv x=some u)(r:RelV v u)(AR:x≠"__name__":=by decide)(hd:(x==("__debug__" :Str))=false:=by decide):Al X (.Name x pos) (Mp v):=
 λ_ _ _ H _ I h=>Ov I AQ hm Az ⟨v,H,I,r,h⟩ AR hd
variable{a b:AN}{Bo tb:TE}{pos:Pos}
def Y5(X:AX)(op:KG)(a b:AN)(t:TE):Prop:=
 ∀(pins:List (Z×Obj))(s:AD)(σ :St)(H:A4)(Q:Br),Inv X pins σ H s->t σ H Q->
  AU (Ai X.prog X.w) X.A (BC a X.env) (λv Ci=>AU (Ai X.prog X.w) X.A (BC b X.env) (λu Ic=>AU (Ai X.prog X.w) X.A (Fk op v u) (Fs X pins σ Q) X.xe Ic) X.xe Ci) X.xe s
def nP(b:AN){op:KG}(h:op≠.In)(h2:op≠.NotIn):I0 op b=false:=by
 have A1:(op==CmpOp.In)=false:=by cases op<;>first|rfl|exact absurd rfl h
 have A7:(op==CmpOp.NotIn)=false:=by cases op<;>first|rfl|exact absurd rfl h2
 cases b<;>simp[I0,A1,A7]
def e2(t:TE):TT:=λσ H Q=>t σ H λx H1=>∃c,x=.AO c/\Q c H1
def nN{op:KG}{t:TE}(h:Y5 X op a b t)(h1:I0 op b=false:=by first|exact nP _ (by decide) (by decide)|rfl):Al X (.Compare a [op] [b] pos) t:=λpins s σ H Q I hw=>wpAny_Compare1 (h pins s σ H Q I hw) h1
def pK{op:KG}{t:TE}(h:Y5 X op a b t)(h1:I0 op b=false:=by first|exact nP _ (by decide) (by decide)|rfl):F0 X (.Compare a [op] [b] pos) (e2 t):=by intro pins s σ H Q I hw;refine wpAny_isTrue_Compare1 (BS (h pins s σ H _ I hw) λv s1 h1=>BS h1 λu s2 h2=>BS h2 λc s3⟨x,H1,As,A6,A_⟩=>?_) h1;obtain⟨d,rfl,q⟩:=A_;cases A6;exact K6 ⟨H1,As,q⟩
def acN{e:AN}{t:TE}(h:Al X e t)(he:∀whole,isTrue e X.env whole=(do let v <-whole;NN e.pos;JW [v] (truthy v)):=by intro _;rfl):F0 X e (e2 t):=by intro pins s σ H Q I hw;refine isTrue_plain (BS (h pins s σ H _ I hw) λv s1⟨x,H1,As,A6,A_⟩=>?_) (he _);obtain⟨d,rfl,q⟩:=A_;cases A6;exact K6 ⟨H1,As,q⟩
variable{EL a9:TT}{rest:List AN}
def pZ(t u:TT):TT:=λσ H Q=>t σ H λc H1=>if c=true then u σ H1 Q else Q false H1
def rE(t u:TT):TT:=λσ H Q=>t σ H λc H1=>if c=true then Q true H1 else u σ H1 Q
def rC(t:TT):TT:=λσ H Q=>t σ H λc H1=>Q (!c) H1
def acT(A2:F0 X a EL):Ix X (.BoolOp .And [a] pos) EL:=by
 intro Qz pins s σ H Q I h;refine isTrue_and (BS (A2 pins s σ H Q I h) λc s1 e=>?_);cases c with
 |true=>exact isTrue_and_nil e
 |false=>exact e
def acV(A2:F0 X a EL):Ix X (.BoolOp .Or [a] pos) EL:=by
 intro Qz pins s σ H Q I h;refine isTrue_or (BS (A2 pins s σ H Q I h) λc s1 e=>?_);cases c with
 |false=>exact isTrue_or_nil e
 |true=>exact e
def acS(A2:F0 X a EL)(J:Ix X (.BoolOp .And (b::rest) pos) a9):Ix X (.BoolOp .And (a::b::rest) pos) (pZ EL a9):=by
 intro Qz pins s σ H Q I h;refine isTrue_and (BS (A2 pins s σ H _ I h) λc s1⟨H1,As,A_⟩=>?_);cases c with
 |true=>exact J Qz pins s1 σ H1 Q As A_
 |false=>exact⟨H1,As,A_⟩
def acU(A2:F0 X a EL)(J:Ix X (.BoolOp .Or (b::rest) pos) a9):Ix X (.BoolOp .Or (a::b::rest) pos) (rE EL a9):=by
 intro Qz pins s σ H Q I h;refine isTrue_or (BS (A2 pins s σ H _ I h) λc s1⟨H1,As,A_⟩=>?_);cases c with
 |true=>exact⟨H1,As,A_⟩
 |false=>exact J Qz pins s1 σ H1 Q As A_
def acM(A2:F0 X a EL):F0 X (.UnaryOp .Not a pos) (rC EL):=by intro pins s σ H Q I h;exact isTrue_not (A2 pins s σ H (λc H1=>Q (!c) H1) I h)
def q5(Bo tb:TE):TE:=λσ H Q=>Bo σ H λx H1=>∃c,x=.AO c/\if c=true then tb σ H1 Q else Q (.AO false) H1
def rF(Bo tb:TE):TE:=λσ H Q=>Bo σ H λx H1=>∃c,x=.AO c/\if c=true then Q (.AO true) H1 else tb σ H1 Q
def rD(Bo:TE):TE:=λσ H Q=>Bo σ H λx H1=>∃c,x=.AO c/\Q (.AO (!c)) H1
def abK{op}{t:TE}(h:Al X a t):Al X (.BoolOp op [a] pos) t:=λpins s σ H Q I hw=>BoolOp_one (h pins s σ H Q I hw)
def abZ(A2:Al X a Bo)(J:Al X (.BoolOp .And (b::rest) pos) tb):Al X (.BoolOp .And (a::b::rest) pos) (q5 Bo tb):=by
 intro pins s σ H Q I h;refine BoolOp_and (BS (A2 pins s σ H _ I h) λv s1⟨x,H1,As,A6,A_⟩=>?_);obtain⟨c,rfl,A_⟩:=A_;cases A6;refine K6 ?_;cases c with
 |true=>exact J pins s1 σ H1 Q As A_
 |false=>exact⟨.AO false,H1,As,rfl,A_⟩
def abL(A2:Al X a Bo)(J:Al X (.BoolOp .Or (b::rest) pos) tb):Al X (.BoolOp .Or (a::b::rest) pos) (rF Bo tb):=by
 intro pins s σ H Q I h;refine BoolOp_or (BS (A2 pins s σ H _ I h) λv s1⟨x,H1,As,A6,A_⟩=>?_);obtain⟨c,rfl,A_⟩:=A_;cases A6;refine K6 ?_;cases c with
 |false=>exact J pins s1 σ H1 Q As A_
 |true=>exact⟨.AO true,H1,As,rfl,A_⟩
def abJ(A2:Al X a Bo):Al X (.UnaryOp .Not a pos) (rD Bo):=by intro pins s σ H Q I h;refine UnaryOp_ (BS (A2 pins s σ H _ I h) λv s1⟨x,H1,As,A6,A_⟩=>?_);obtain⟨c,rfl,A_⟩:=A_;cases A6;exact not_of (K6 ⟨.AO (!c),H1,As,rfl,A_⟩)
def r8(t:TT)(Bo tb:TE):TE:=λσ H Q=>t σ H λc H1=>if c=true then Bo σ H1 Q else tb σ H1 Q
def abj{c:AN}(AB:F0 X c EL)(A2:Al X a Bo)(J:Al X b tb):Al X (.IfExp c a b pos) (r8 EL Bo tb):=by
 intro pins s σ H Q I h;refine wpAny_IfExp (BS (AB pins s σ H _ I h) λd s1⟨H1,As,A_⟩=>?_);cases d with
 |true=>exact A2 pins s1 σ H1 Q As A_
 |false=>exact J pins s1 σ H1 Q As A_
end
def Bb(K:AT)(H:A4)(a:Z)(xs:List V):Prop:=
 FV H a (.lst xs)\/
  ∃(o:Obj)(its:Array U)(n:Nat),K.lookup a=some o/\o.cls=.type "list"/\o.dict=none/\o.data=.seq its n/\its.size<=CH/\Vals xs its.toList
def CA(K:AT)(H:A4)(a:Z)(xs:List V):Prop:=
 FV H a (.tup xs)\/
  ∃(o:Obj)(its:Array U)(n:Nat),K.lookup a=some o/\o.cls=.type "tuple"/\o.data=.seq its n/\its.size<=CH/\Vals xs its.toList
noncomputable def sh:U->Option V
 |.none=>some .non
 |.bool b=>some (.AO b)
 |.int i _=>some (.int i)
 |.str x _=>some (.str x)
 |.bytes b _=>some (.Mu b)
 |.float b _=>some (.XQ b)
 |.ref a=>some (.ref a)
 |.type n=>some (.ty n)
 |_=>none
def RelV.abs{x:V}{u:U}(r:RelV x u):sh u=some x:=by
 cases x with
 |non=>cases r;rfl
 |AO _=>cases r;rfl
 |int _=>obtain⟨t,rfl⟩:=r;rfl
 |str _=>obtain⟨t,rfl⟩:=r;rfl
 |Mu _=>obtain⟨t,rfl⟩:=r;rfl
 |XQ _=>obtain⟨t,rfl⟩:=r;rfl
 |ref _=>cases r;rfl
 |ty _=>cases r;rfl
def RelV.inj{x y:V}{u:U}(r:RelV x u)(q:RelV y u):x=y:=Dz (r.abs.symm.trans q.abs)
theorem Vals.inj:∀{xs ys:List V}{us:List U},Vals xs us->Vals ys us->xs=ys
 |_,_,_,.nil,.nil=>rfl
 |_,_,_,.cons r t,.cons B2 t'=>by rw[r.inj B2,Vals.inj t t']
section
variable{X:AX}{pins:List (Z×Obj)}{σ :St}{H:A4}{s:AD}{a:Z}{xs ys:List V}
def Bb.of{K:AT}(h:H a=some (.lst xs)):Bb K H a xs:=.inl (.inl h)
def CA.of{K:AT}(h:H a=some (.tup xs)):CA K H a xs:=.inl (.inl h)
def Inv.list(I:Inv X pins σ H s)(h:Bb X.K H a xs):∃its:List U,Vals xs its/\PlainL s.heap a its.toArray/\xs.length<=CH:=by
 rcases h with h|⟨o,its,n,AG,AB,hd,hs,Aj,r⟩
 .obtain⟨z,its,n,r,e⟩:=h.ok I.BE;exact⟨its,r,⟨_,n,e,rfl,rfl,rfl⟩,z⟩
 .refine⟨its.toList,r,⟨o,n,I.Fh a o AG,AB,hd,by simpa using hs⟩,?_⟩;have e:=r.length;simp only[NC]at e;lia
def Inv.tuple(I:Inv X pins σ H s)(h:CA X.K H a xs):∃its:List U,Vals xs its/\IsTup s.heap a its.toArray/\xs.length<=CH:=by
 rcases h with h|⟨o,its,n,AG,AB,hs,Aj,r⟩
 .obtain⟨z,its,r,p⟩:=h.ok I.BE;exact⟨its,r,p,z⟩
 .refine⟨its.toList,r,⟨o,I.Fh a o AG,AB,n,by simpa using hs⟩,?_⟩;have e:=r.length;simp only[NC]at e;lia
def Inv.bj(I:Inv X pins σ H s)(h:Bb X.K H a xs)(h':Bb X.K H a ys):xs=ys:=by
 obtain⟨its,r,⟨o,n,e,_,_,d⟩,_⟩:=I.list h;obtain⟨its',B2,⟨BM,JF,Bi,_,_,d'⟩,_⟩:=I.list h';rw[e]at Bi;cases Bi;rw[d]at d';injection d' with d1 _;have:its=its':=by simpa using congrArg Array.toList d1
 subst this;exact r.inj B2
def Inv.eM(I:Inv X pins σ H s)(h:CA X.K H a xs)(h':CA X.K H a ys):xs=ys:=by
 obtain⟨its,r,⟨o,e,_,n,d⟩,_⟩:=I.tuple h;obtain⟨its',B2,⟨BM,Bi,_,JF,d'⟩,_⟩:=I.tuple h';rw[e]at Bi;cases Bi;rw[d]at d';injection d' with d1 _;have:its=its':=by simpa using congrArg Array.toList d1
 subst this;exact r.inj B2
end
noncomputable abbrev AX.Ko(X:AX)(E:U->AD->Prop):AX:={ X with xe:=E }
abbrev AX.Fn(X:AX):AX:=X.Ko λ_ _=>False
theorem AX.Ok.Ko{X:AX}(ok:X.Ok)(E:U->AD->Prop):(X.Ko E).Ok:=
 ⟨ok.mod,ok.kind,ok.glob,ok.blt,ok.above,ok.inj,ok.has,ok.UQ,ok.hd,ok.frames,ok.a5,ok.ki,ok.bs,ok.OV,ok.RI,ok.Xq,ok.J_,ok.QX⟩
def AX.Ok.Js{X:AX}{E:U->AD->Prop}(ok:(X.Ko E).Ok):X.Ok:=
 ⟨ok.mod,ok.kind,ok.glob,ok.blt,ok.above,ok.inj,ok.has,ok.UQ,ok.hd,ok.frames,ok.a5,ok.ki,ok.bs,ok.OV,ok.RI,ok.Xq,ok.J_,ok.QX⟩
section
variable{X:AX}{pins:List (Z×Obj)}{σ :St}{H:A4}{s:AD}{E:U->AD->Prop}
theorem Inv.Ko(I:Inv X pins σ H s)(E:U->AD->Prop):Inv (X.Ko E) pins σ H s:=⟨I.ok.Ko E,I.os,I.bare,I.base,I.loc,I.cell,I.free,I.N0,I.pin,I.BE,I.len⟩
theorem Inv.Js(I:Inv (X.Ko E) pins σ H s):Inv X pins σ H s:=⟨I.ok.Js,I.os,I.bare,I.base,I.loc,I.cell,I.free,I.N0,I.pin,I.BE,I.len⟩
theorem Qq.Js{D:Ends}{f:Flow}{s':AD}(h:Qq (X.Ko E) pins D f s'):Qq X pins D f s':=by
 cases f with
 |next=>obtain⟨σ',H',I,q⟩:=h;exact⟨σ',H',I.Js,q⟩
 |brk=>obtain⟨σ',H',I,q⟩:=h;exact⟨σ',H',I.Js,q⟩
 |cont=>obtain⟨σ',H',I,q⟩:=h;exact⟨σ',H',I.Js,q⟩
 |ret u=>obtain⟨v,σ',H',I,r,q⟩:=h;exact⟨v,σ',H',I.Js,r,q⟩
theorem FU.Fn{st:List BG}{t:Ei}(h:FU X.Fn st t):FU X st t:=λpins s σ H D I hw=>
 H9 (h pins s σ H D (I.Ko _) hw) (λ_ _ q=>q.Js) λ_ _ z=>K7 z
end
section
variable{X:AX}{st:BG}{rest:List BG}{t u:Ei}{e:AN}{te:TE}{pos:Pos}
def e9:Ei:=λD σ H=>D.BK σ H
def V_(t u:Ei):Ei:=λD σ H=>t { D with BK:=u D } σ H
def pI:FU X [] e9:=λ_ _ σ H _ I h=>Wu ⟨σ,H,I,h⟩
def ZW(h1:Cf X st t)(h2:FU X rest u):FU X (st::rest) (V_ t u):=by
 intro pins s σ H D I h;refine wpAny_execs_cons (BS (h1 pins s σ H { D with BK:=u D } I h) λf s1 q=>?_);cases f with
 |next=>obtain⟨σ',H',KU,q⟩:=q;exact h2 pins s1 σ' H' D KU q
 |ret v=>exact q
 |brk=>exact q
 |cont=>exact q
def ZX(h1:Cf X st t):FU X [st] t:=by
 intro pins s σ H D I h;refine wpAny_execs_cons (BS (h1 pins s σ H D I h) λf s1 q=>?_);cases f with
 |next=>exact Wu q
 |ret v=>exact q
 |brk=>exact q
 |cont=>exact q
def Inv.quiet{pins:List (Z×Obj)}{σ :St}{H:A4}{s:AD}(I:Inv X pins σ H s):interactive X.env=false:=by simp[interactive,I.ok.kind]
def e5(te:TE):Ei:=λD σ H=>te σ H λ_ H1=>D.BK σ H1
def Vu(he:Al X e te)(hs:Kw e none pos.line X.env=pure false:=by rfl):Cf X (.Expr e pos) (e5 te):=by intro pins s σ H D I h;exact wpAny_Expr_any (BS (he pins s σ H _ I h) λv s1⟨x,H1,As,A6,A_⟩=>⟨σ,H1,As,A_⟩) I.quiet hs
def TS(te:TE):Ei:=λD σ H=>te σ H D.DB
def PG(he:Al X e te):Cf X (.Return (some e) pos) (TS te):=by intro pins s σ H D I h;exact wpAny_Return_some (BS (he pins s σ H _ I h) λv s1⟨x,H1,As,A6,A_⟩=>⟨x,σ,H1,As,A6,A_⟩)
def e8(c:TT)(t u:Ei):Ei:=λD σ H=>c σ H λb H1=>if b=true then t D σ H1 else u D σ H1
def pG{c:AN}{a b:List BG}{tc:TT}(AB:F0 X c tc)(A2:FU X a t)(J:FU X b u):Cf X (.If c a b pos) (e8 tc t u):=by
 intro pins s σ H D I h;refine wpAny_If (BS (AB pins s σ H _ I h) λd s1⟨H1,As,A_⟩=>?_);cases d with
 |true=>exact A2 pins s1 σ H1 D As A_
 |false=>exact J pins s1 σ H1 D As A_
def rB:Ei:=λ_ _ _=>False
def pH:Cf X st rB:=λ_ _ _ _ _ _ h=>h.elim
end
abbrev HQ:=V->St->A4->(St->A4->Prop)->Prop
abbrev MW:=List V->St->A4->(St->A4->Prop)->Prop
def Iw(X:AX)(target:AN)(t:HQ):Prop:=
 ∀(pins:List (Z×Obj))(s:AD)(σ :St)(H:A4)(v:V)(u:U)(Q:St->A4->Prop),Inv X pins σ H s->RelV v u->t v σ H Q->
  AU (Ai X.prog X.w) X.A (KD target X.env u) (λ_ s'=>∃ σ' H',Inv X pins σ' H' s'/\Q σ' H') X.xe s
def UF(X:AX)(Ap:List AN)(t:MW):Prop:=
 ∀(pins:List (Z×Obj))(s:AD)(σ :St)(H:A4)(vs:List V)(us:List U)(Q:St->A4->Prop),Inv X pins σ H s->Vals vs us->t vs σ H Q->
  AU (Ai X.prog X.w) X.A (assignInOrder ((Kt Ap X.env).map (·.2)) us) (λ_ s'=>∃ σ' H',Inv X pins σ' H' s'/\Q σ' H') X.xe s
abbrev gp:=V->V->V->A4->(A4->Prop)->Prop
def iL(X:AX)(t:gp):Prop:=
 ∀(pins:List (Z×Obj))(s:AD)(σ :St)(H:A4)(o i v:V)(Dj GP u:U)(Q:A4->Prop),Inv X pins σ H s->RelV o Dj->RelV i GP->RelV v u->t o i v H Q->
  AU (Ai X.prog X.w) X.A (setItem Dj GP u) (λ_ s'=>∃H',Inv X pins σ H' s'/\Q H') X.xe s
section
variable{X:AX}{pos:Pos}
def H4(i:Nat):HQ:=λv σ H Q=>Q (σ.set i (some v)) H
def Vq{i:Nat}{x:Str}(hN:X.N.Nodup)(A0:X.N[i]?=some x)(A5:Loc X.env.scope x)(hf:X.fn x=true\/X.env.scope.names.lookup x=some .local:=by first|exact .inl rfl|exact .inr rfl|assumption):Iw X (.Name x pos) (H4 i):=by intro pins s σ H v u Q I r h;exact wpAny_assign_Name (pR I hN A0 A5 r (λs' KU=>⟨_,H,KU,h⟩) hf)
def Yo:MW:=λvs σ H Q=>vs=[]/\Q σ H
def UY(t:HQ)(u:MW):MW:=λvs σ H Q=>∃v r,vs=v::r/\t v σ H λσ' H'=>u r σ' H' Q
def p3:UF X [] Yo:=by intro pins s σ H vs us Q I r h;obtain⟨e,h⟩:=h;subst e;cases r;exact assignInOrder_nil ⟨σ,H,I,h⟩
def dQ{e:AN}{es:List AN}{t:HQ}{u:MW}(h1:Iw X e t)(h2:UF X es u)(hs:(Kt (e::es) X.env).map (·.2)=KD e X.env::(Kt es X.env).map (·.2):=by rfl):UF X (e::es) (UY t u):=by
 intro pins s σ H vs us Q I r h;obtain⟨v,aM,A1,h⟩:=h;subst A1;cases r with
 |cons r Hw=>rw[hs];refine assignInOrder_cons (BS (h1 pins s σ H _ _ _ I r h) λ_ s1⟨σ1,H1,As,A_⟩=>?_);exact h2 pins s1 σ1 H1 _ _ Q As Hw A_
def Yq(K:AT)(n:Nat)(t:MW):HQ:=λv σ H Q=>∃a xs,v=.ref a/\CA K H a xs/\xs.length=n/\t xs σ H Q
def p2{es:List AN}{k:Nat}{t:MW}{n:Nat}(AB:X.calm=true)(h:UF X es t)(AR:(Kt es X.env).length=n:=by rfl)(GO:(Kt es X.env).findIdx? (·.1)=none:=by rfl):Iw X (.Tuple es k pos) (Yq X.K n t):=by intro pins s σ H v u Q I r hw;obtain⟨a,xs,A1,Ac,AF,hw⟩:=hw;subst A1;cases r;obtain⟨its,BZ,BF,Aj⟩:=I.tuple Ac;refine assign_Tuple_tuple (I.ok.hd AB) BF (by simp[AR,<-AF,BZ.length]) GO λh' A5=>?_;have As:Inv X pins σ H { s with heap:=h' }:=I.kept (t':=s.toks) λb o e=>A5 b o (ET (Cv e)) e;exact h pins _ σ H xs _ Q As (by simpa using BZ) hw
def m6(to aG:TE)(t:gp):HQ:=λv σ H Q=>to σ H λo H1=>aG σ H1 λi Ab=>t o i v Ab λCI=>Q σ CI
def acm {o i:AN} {to aG:TE} {t:gp} (AE:Al X o to) (A0:Al X i aG) (hs:iL X t)(A2:∀v,KD (.Subscript o i pos) X.env v=(do
    let Dj <-JW [v] (BC o X.env)
    let GP <-JW [v,Dj] (BC i X.env)
    NN pos
    JW [v,Dj,GP] (setItem Dj GP v)
    release [v,Dj,GP] []):=by intro _;rfl):Iw X (.Subscript o i pos) (m6 to aG t):=by
 intro pins s σ H v u Q I r h;rw[A2];refine AH (K3 (BS (AE pins s σ H _ I h) λDj s1⟨x,H1,As,A6,A_⟩=>?_));refine AH (K3 (BS (A0 pins s1 σ H1 _ As A_) λGP s2⟨y,Ab,Bu,AZ,B4⟩=>?_));refine AH (wpAny_standAt (AH (K3 (BS (hs pins s2 σ Ab x y v Dj GP u _ Bu A6 AZ r B4) λ_ s3⟨CI,Dp,Cn⟩=>?_))));exact wpAny_release ⟨σ,CI,Dp,Cn⟩
def Kl(te:TE)(g:HQ):Ei:=λD σ H=>te σ H λx H1=>g x σ H1 D.BK
def pD{BL e:AN}{te:TE}{g:HQ}(he:Al X e te)(AQ:Iw X BL g)(hs:swapsWithSole [BL] e pos.line X.env=pure false:=by rfl)(hw:swappedStores [BL] e X.env=pure none:=by rfl)(h1:(Kt [BL] X.env).map (·.2)=[KD BL X.env]:=by rfl):Cf X (.Assign [BL] e pos) (Kl te g):=by intro pins s σ H D I h;refine wpAny_Assign_stores (BS (he pins s σ H _ I h) λv s1⟨x,H1,As,A6,A_⟩=>?_) hs hw;rw[h1];exact BS (AQ pins s1 σ H1 x v _ As A6 A_) λ_ s2 q=>q
def SW{i:Nat}{x:Str}{e:AN}{te:TE}{pos':Pos}(hN:X.N.Nodup)(A0:X.N[i]?=some x)(A5:Loc X.env.scope x)(he:Al X e te)(hs:Kw e (some (.Name x pos')) pos.line X.env=pure false:=by rfl)(hf:X.fn x=true\/X.env.scope.names.lookup x=some .local:=by first|exact .inl rfl|exact .inr rfl|assumption) :
  Cf X (.Assign [.Name x pos'] e pos) (Kl te (H4 i)):=by
 intro pins s σ H D I h;refine wpAny_Assign_Name (BS (he pins s σ H _ I h) λv s1⟨y,H1,As,A6,A_⟩=>?_) hs;exact pR As hN A0 A5 A6 (λs2 Bu=>⟨_,H1,Bu,A_⟩) hf
end
section
variable{X:AX}{pos:Pos}
def rI(c:TT)(tb:Ei):Ei:=λD σ H=>∃W:Nat->St->A4->Prop,(∃m,W m σ H)/\∀m σ H,W m σ H->
 c σ H λb H1=>if b=true then ∃N:St->A4->Prop,(∀ σ' H',N σ' H'->∃CM,CM<m/\W CM σ' H')/\tb { D with BK:=N,C_:=N,F9:=D.BK } σ H1 else D.BK σ H1
def ad9{c:AN}{body:List BG}{tc:TT}{tb:Ei}(AW:U1 (Ai X.prog X.w) X.A X.env X.xe)(AB:F0 X c tc)(J:FU X body tb):Cf X (.While c body [] pos) (rI tc tb):=by
 intro pins s σ H D I h;obtain⟨W,⟨m0,M2⟩,turn⟩:=h;refine wpAny_While (codeAny_whileLoop (λn s'=>∃ σ' H',Inv X pins σ' H' s'/\W n σ' H') ?_ m0 ⟨σ,H,I,M2⟩);rintro n s1 ⟨σ1,H1,As,Cp⟩;refine Pm AW (BS (AB pins s1 σ1 H1 _ As (turn n σ1 H1 Cp)) λb s2⟨Ab,Bu,B4⟩=>?_);cases b with
 |true=>
  obtain⟨N,hN,B4⟩:=B4;rw[if_pos rfl];refine Pm AW (BS (J pins s2 σ1 Ab _ Bu B4) λf s3 Cn=>?_);cases f with
  |next=>obtain⟨σ3,CI,Dp,Nl⟩:=Cn;obtain⟨CM,hm,Ef⟩:=hN σ3 CI Nl;exact⟨CM,hm,σ3,CI,Dp,Ef⟩
  |cont=>obtain⟨σ3,CI,Dp,Nl⟩:=Cn;obtain⟨CM,hm,Ef⟩:=hN σ3 CI Nl;exact⟨CM,hm,σ3,CI,Dp,Ef⟩
  |brk=>exact Cn
  |ret v=>exact Cn
 |false=>rw[if_neg Hy];exact Wu ⟨σ1,Ab,Bu,B4⟩
end
structure It where
 go:Nat->A4->Prop
 Jt:Nat->A4->V->A4->Prop
 stop:Nat->A4->Prop
def Jv(X:AX)(pins:List (Z×Obj))(H:A4)(b:Z):Prop:=
 H b=none/\b≠X.env.locals/\b∉X.Am/\(b∈X.ex\/X.FF.heap.objs.size<=b)/\(∀x c,X.env.cells.lookup x=some c->c≠b)/\∀p∈X.D4++pins,p.1≠b
def Inv.PP{X:AX}{pins:List (Z×Obj)}{σ :St}{H H':A4}{s:AD}{b:Z}(I:Inv X pins σ H s)(J:s.heap.objs.size<=b)(AR:H' b=none):Jv X pins H' b:=by
 refine⟨AR,ML (Gk I.lt J),I.aai J,.inr (Eg I.Kx J),λx c e z=>?_,λp AW z=>?_⟩
 .obtain⟨v,q⟩:=I.cell x c e;exact absurd (Gk q.lt (by rw[z];exact J)) (IK _)
 .exact absurd (Gk (Cv (I.pin p AW).1) (by rw[z];exact J)) (IK _)
structure Turn(P:BR)(w:BA)(K:AT)(BL:AN)(Bp:It)(Ae:List Z)(it:Z)(Fq:Nat->Aq->Prop):Prop where
 mem:it∈Ae
 obj:∀i h,Fq i h->∀b∈Ae,∃o,h.get? b=some o/\∀v,o.data≠.cell v
 keep:∀i h h',Fq i h->(∀b∈Ae,∀o,h.get? b=some o->h'.get? b=some o)->Fq i h'
 item:∀(X:AX),X.prog=P->X.w=w->X.K=K->X.calm=true->∀(i:Nat)(pins:List (Z×Obj))(s:AD)(σ :St)(H:A4)(E:U->AD->Prop),Inv X pins σ H s->(∀b∈Ae,Jv X pins H b)->Fq i s.heap->Bp.go i H->
  AU (Ai P w) X.A (KF (.ref it)) (λr s1=>∃u,r=some u/\
   AU (Ai P w) X.A (Wv BL (.ref it) u) (λ_ s2=>∃x H',Inv X pins σ H' s2/\RelV x u/\Bp.Jt i H x H'/\Fq (i+1) s2.heap/\∀b∈Ae,H' b=none) E s1) E s
 done:∀(X:AX),X.prog=P->X.w=w->X.K=K->X.calm=true->∀(i:Nat)(pins:List (Z×Obj))(s:AD)(σ :St)(H:A4)(E:U->AD->Prop),Inv X pins σ H s->(∀b∈Ae,Jv X pins H b)->Fq i s.heap->Bp.stop i H->
  AU (Ai P w) X.A (KF (.ref it)) (λr s1=>r=none/\Inv X pins σ H s1) E s
 self:∀(A:Bk)(i:Nat)(s:AD)(Q:U->AD->Prop)(E:U->AD->Prop),Fq i s.heap->Q (.ref it) s->AU (Ai P w) A (pyIter (.ref it)) Q E s
abbrev TI:=St->A4->(It->A4->Prop)->Prop
def j2(X:AX)(pins:List (Z×Obj))(σ :St)(BL:AN)(R:It->A4->Prop)(Yd:U)(s2:AD):Prop:=
 ∃(it:Z)(Ae:List Z)(Fq:Nat->Aq->Prop)(Bp:It)(H':A4),Yd=.ref it/\Inv X pins σ H' s2/\Turn X.prog X.w X.K BL Bp Ae it Fq/\Fq 0 s2.heap/\(∀b∈Ae,Jv X pins H' b)/\R Bp H'
def Fv(X:AX)(BL iter:AN)(Ih:TI):Prop:=
 ∀(pins:List (Z×Obj))(s:AD)(σ :St)(H:A4)(R:It->A4->Prop),Inv X pins σ H s->Ih σ H R->
  AU (Ai X.prog X.w) X.A (BC iter X.env) (λv s1=>AU (Ai X.prog X.w) X.A (pyIter v) (j2 X pins σ BL R) X.xe s1) X.xe s
def Yt{M:Model}{A:Bk}{E:U->AD->Prop}{s:AD}{BL:AN}{it:Z}{u:U}{o:Obj}{n:String}{vs:Array U}{Q:Unit->AD->Prop}(AE:s.heap.get? it=some o)(AB:o.cls=.type n)(hd:o.data=.fields vs)(AR:["enumerate","zip","dict_itemiterator","dict_reverseitemiterator","odict_iterator","itertools.zip_longest","itertools.pairwise"].contains n=false)(Dn:Q () s):AU M A (Wv BL (.ref it) u) Q E s:=by
 unfold Wv
 cases BL<;>first
  |exact An Dn
  |(cases u<;>first
      |exact An Dn
      |(refine AH (wpAny_load AE ?_)
        rw[AB,hd];show AU M A (if(["enumerate","zip","dict_itemiterator","dict_reverseitemiterator","odict_iterator","itertools.zip_longest","itertools.pairwise"].contains n&&vs[0]?==some (Le _))=true then _ else _) Q E s;rw[if_neg (by intro h;rw[AR,Bool.false_and]at h;cases h)];exact An Dn))
def gd(K:AT)(a:Z):It:=
 ⟨λi H=>∃xs x,Bb K H a xs/\xs[i]?=some x,λi H x H'=>H'=H/\∀xs,Bb K H a xs->xs[i]?=some x,λi H=>∃xs,Bb K H a xs/\xs.length<=i⟩
def gg(K:AT)(a:Z):It:=
 ⟨λi H=>∃xs x,CA K H a xs/\xs[i]?=some x,λi H x H'=>H'=H/\∀xs,CA K H a xs->xs[i]?=some x,λi H=>∃xs,CA K H a xs/\xs.length<=i⟩
def Y0(lo:Int)(n:Nat):It:=⟨λi _=>i<n,λi H x H'=>H'=H/\x=.int (lo+i),λi _=>n<=i⟩
def afz{P:BR}{w:BA}{K:AT}{BL:AN}(a it:Z):Turn P w K BL (gd K a) [it] it (λi h=>h.IsListIter it a i) where
 mem:=by simp
 obj:=λi h st b J=>by
  have e:b=it:=by simpa using J
  subst e;obtain⟨o,e,c,d⟩:=st;exact⟨o,e,λv z=>by rw[d]at z;cases z⟩
 keep:=λi h h' st k=>st.at λo e=>k it (by simp) o e
 item:=by intro X hP hw Ag AB i pins s σ H E I hf st AQ;subst hP hw Ag;obtain⟨xs,x,Ac,A5⟩:=AQ;obtain⟨its,BZ,p,Aj⟩:=I.list Ac;obtain⟨u,B0,EJ⟩:=BZ.get A5;obtain⟨f0,f1,f2,F2,f4,IH⟩:=hf it (by simp);refine wpAny_pyNext_list_item st p.isList (x:=u) (by simpa using B0) λh' M0 Ee=>?_;have As:Inv X pins σ H { s with heap:=h' }:=I.turned (t':=s.toks) (λb o J e=>(Ee.2 b J).trans e) f0 f1 F2 f4 IH;obtain⟨o,e,c,d⟩:=id M0;exact⟨u,rfl,Yt (s:={ s with heap:=h' }) e c d (by decide) ⟨x,H,As,EJ,⟨rfl,λys Ao=>by rw[I.bj Ao Ac];exact A5⟩,M0,λb J=>(hf b J).1⟩⟩
 done:=by intro X hP hw Ag AB i pins s σ H E I hf st AQ;subst hP hw Ag;obtain⟨xs,Ac,A5⟩:=AQ;obtain⟨its,BZ,p,Aj⟩:=I.list Ac;obtain⟨f0,f1,f2,F2,f4,IH⟩:=hf it (by simp);have AF:=BZ.length;exact wpAny_pyNext_list_end (I.ok.hd AB) st p.isList (by simp;lia) λh' B7=>⟨rfl,I.turned (t':=s.toks) (λb o J e=>B7 b o J e) f0 f1 F2 f4 IH⟩
 self:=λ_ _ _ _ _ st h=>wpAny_pyIter_listiter st h
def ag2{P:BR}{w:BA}{K:AT}{BL:AN}(a it:Z):Turn P w K BL (gg K a) [it] it (λi h=>h.IsTupleIter it a i) where
 mem:=by simp
 obj:=λi h st b J=>by
  have e:b=it:=by simpa using J
  subst e;obtain⟨o,e,c,d⟩:=st;exact⟨o,e,λv z=>by rw[d]at z;cases z⟩
 keep:=λi h h' st k=>st.at λo e=>k it (by simp) o e
 item:=by intro X hP hw Ag AB i pins s σ H E I hf st AQ;subst hP hw Ag;obtain⟨xs,x,Ac,A5⟩:=AQ;obtain⟨its,BZ,p,Aj⟩:=I.tuple Ac;obtain⟨u,B0,EJ⟩:=BZ.get A5;obtain⟨f0,f1,f2,F2,f4,IH⟩:=hf it (by simp);refine wpAny_pyNext_tuple_item st (show s.heap.IsTuple a its.toArray from p) (x:=u) (by simpa using B0) λh' M0 Ee=>?_;have As:Inv X pins σ H { s with heap:=h' }:=I.turned (t':=s.toks) (λb o J e=>(Ee.2 b J).trans e) f0 f1 F2 f4 IH;obtain⟨o,e,c,d⟩:=id M0;exact⟨u,rfl,Yt (s:={ s with heap:=h' }) e c d (by decide) ⟨x,H,As,EJ,⟨rfl,λys Ao=>by rw[I.eM Ao Ac];exact A5⟩,M0,λb J=>(hf b J).1⟩⟩
 done:=by intro X hP hw Ag AB i pins s σ H E I hf st AQ;subst hP hw Ag;obtain⟨xs,Ac,A5⟩:=AQ;obtain⟨its,BZ,p,Aj⟩:=I.tuple Ac;obtain⟨f0,f1,f2,F2,f4,IH⟩:=hf it (by simp);have AF:=BZ.length;exact wpAny_pyNext_tuple_end (I.ok.hd AB) st (show s.heap.IsTuple a its.toArray from p) (by simp;lia) λh' B7=>⟨rfl,I.turned (t':=s.toks) (λb o J e=>B7 b o J e) f0 f1 F2 f4 IH⟩
 self:=λ_ _ _ _ _ st h=>wpAny_pyIter_tupleiter st h
def ag0{P:BR}{w:BA}{K:AT}{BL:AN}(it:Z)(lo:Int)(n:Nat):Turn P w K BL (Y0 lo n) [it] it (λi h=>IsRangeIter h it (lo+(i:Nat)*1) ((n:Int)-(i:Nat)) 1) where
 mem:=by simp
 obj:=λi h st b J=>by
  have e:b=it:=by simpa using J
  subst e;exact⟨_,st,λv z=>by have Es:Data.fields _=U2 v:=z;cases Es⟩
 keep:=λi h h' st k=>k it (by simp) _ st
 item:=by intro X hP hw Ag AB i pins s σ H E I hf st AQ;subst hP hw Ag;obtain⟨f0,f1,f2,F2,f4,IH⟩:=hf it (by simp);have W:=Walks.range (prog:=X.prog) (w:=X.w) (I.ok.hd AB) it lo 1 n;refine W.item i s _ _ AQ st λv h' BW Az M0 Bh=>?_;obtain⟨t,rfl⟩:=Az;have As:Inv X pins σ H { s with heap:=h',toks:=BW }:=I.turned (λb o J e=>Bh b o (by simpa using J) e) f0 f1 F2 f4 IH;refine⟨_,rfl,Yt (s:={ s with heap:=h',toks:=BW }) (n:="range_iterator") M0 rfl rfl (by decide) ⟨.int (lo+i),H,As,⟨t,?_⟩,⟨rfl,rfl⟩,M0,λb J=>(hf b J).1⟩⟩;rw[Int.mul_one]
 done:=by intro X hP hw Ag AB i pins s σ H E I hf st AQ;subst hP hw Ag;obtain⟨f0,f1,f2,F2,f4,IH⟩:=hf it (by simp);exact wpAny_pyNext_range_end (I.ok.hd AB) st (by have:n<=i:=AQ;lia) λh' B7=>⟨rfl,I.turned (t':=s.toks) (λb o J e=>B7 b o J e) f0 f1 F2 f4 IH⟩
 self:=λ_ _ _ _ _ st h=>wpAny_pyIter_rangeiter st h
section
variable{X:AX}{BL:AN}
def l8(K:AT)(FY:TE):TI:=λσ H R=>FY σ H λx H1=>∃a,x=.ref a/\(∃xs,Bb K H1 a xs)/\R (gd K a) H1
def mu(K:AT)(FY:TE):TI:=λσ H R=>FY σ H λx H1=>∃a,x=.ref a/\(∃xs,CA K H1 a xs)/\R (gg K a) H1
def aco{l:AN}{FY:TE}(AF:Al X l FY):Fv X BL l (l8 X.K FY):=by
 intro pins s σ H R I h;refine BS (AF pins s σ H _ I h) λv s1⟨x,H1,As,A6,A_⟩=>?_;obtain⟨a,e,⟨xs,Ac⟩,q⟩:=A_;subst e;cases A6;obtain⟨its,BZ,p,Aj⟩:=As.list Ac;refine fx p.isList ?_;refine⟨s1.heap.objs.size,[s1.heap.objs.size],_,_,H1,rfl,As.kept (t':=s1.toks) λb o e=>Cr _ e,afz a _,⟨_,F6 _ rfl,rfl,rfl⟩,λb J=>?_,q⟩;have e:b=s1.heap.objs.size:=by simpa using J
 subst e;exact As.PP (By _) (As.BE.fresh (By _))
def acq{l:AN}{FY:TE}(AF:Al X l FY):Fv X BL l (mu X.K FY):=by
 intro pins s σ H R I h;refine BS (AF pins s σ H _ I h) λv s1⟨x,H1,As,A6,A_⟩=>?_;obtain⟨a,e,⟨xs,Ac⟩,q⟩:=A_;subst e;cases A6;obtain⟨its,BZ,p,Aj⟩:=As.tuple Ac;refine wpAny_pyIter_tuple (show s1.heap.IsTuple a its.toArray from p) ?_;refine⟨s1.heap.objs.size,[s1.heap.objs.size],_,_,H1,rfl,As.kept (t':=s1.toks) λb o e=>Cr _ e,ag2 a _,⟨_,F6 _ rfl,rfl,rfl⟩,λb J=>?_,q⟩;have e:b=s1.heap.objs.size:=by simpa using J
 subst e;exact As.PP (By _) (As.BE.fresh (By _))
def acD{pins:List (Z×Obj)}{σ :St}{H:A4}{s:AD}{R:It->A4->Prop}{E:U->AD->Prop}{lo A0:Int}{t u v:Tok}{BW:Nat}(I:Inv X pins σ H s)(h1: -(2^62)<=lo)(h2:lo<2^62)(h3: -(2^62)<=A0)(h4:A0<2^62)(q:R (Y0 lo (A0-lo).toNat) H):AU (Ai X.prog X.w) X.A (pyIter (.ref s.heap.objs.size)) (j2 X pins σ BL R) E { s with heap:=s.heap.push { cls:=.type "range",data:=.fields #[.int lo t,.int A0 u,.int 1 v] },toks:=BW }:=by
 refine wpAny_pyIter_range (IsRange.new ..) (small_one h1 h2 h3 h4) ?_;have As:Inv X pins σ H { s with heap:=s.heap.push { cls:=.type "range",data:=.fields #[.int lo t,.int A0 u,.int 1 v] },toks:=BW }:=I.kept λb o e=>Cr _ e
 refine⟨(s.heap.push { cls:=.type "range",data:=.fields #[.int lo t,.int A0 u,.int 1 v] }).objs.size,[(s.heap.push { cls:=.type "range",data:=.fields #[.int lo t,.int A0 u,.int 1 v] }).objs.size],_,_,H,rfl,
  As.kept (t':=BW) λb o e=>Cr _ e,ag0 _ lo (A0-lo).toNat,?_,λb J=>?_,q⟩
 .have A1:lo+((0:Nat):Int)*1=lo:=by simp
  have A7:(((A0-lo).toNat:Nat):Int)-((0:Nat):Int)=fB lo A0 1:=by rw[rangeSize_one];split<;>lia
  show IsRangeIter _ _ (lo+((0:Nat):Int)*1) ((((A0-lo).toNat:Nat):Int)-((0:Nat):Int)) 1;rw[A1,A7];exact F6 _ rfl
 .have e:b=(s.heap.push { cls:=.type "range",data:=.fields #[.int lo t,.int A0 u,.int 1 v] }).objs.size:=by simpa using J
  subst e;exact As.PP (By _) (As.BE.fresh (By _))
def cH(Bo:Et):TI:=λσ H R=>Bo σ H λvs H1=>∃j:Int,vs=[.int j]/\-(2^62)<=j/\j<2^62/\R (Y0 0 j.toNat) H1
def p5{a:AN}{Bo:Et}{p pos:Pos}(AQ:DK X "range")(hm:X.AA "range"=none)(A2:F8 X [a] Bo)(hs:Aw [a] X.env=[(false,BC a X.env)]:=by rfl):Fv X BL (.Call (.Name "range" p) [a] [] pos) (cH Bo):=by
 intro pins s σ H R I h;refine Call_ (Ov I AQ hm boot_range (RT (BS (A2 pos pins s σ H _ I h) λus s1⟨vs,H1,As,A6,A_⟩=>?_) hs rfl));obtain⟨j,e,A_,B4,q⟩:=A_;subst e;cases A6 with
 |cons r Hw=>cases Hw;obtain⟨t,rfl⟩:=r;exact call_range_1 (acD As (by lia) (by lia) A_ B4 (by simpa using q))
def e6(Ih:TI)(g:HQ)(tb:Ei):Ei:=λD σ H=>Ih σ H λBp H1=>∃W:Nat->Nat->St->A4->Prop,(∃m,W 0 m σ H1)/\∀i m σ H,W i m σ H->
 (Bp.stop i H/\D.BK σ H)\/(Bp.go i H/\∃N:St->A4->Prop,(∀ σ' H',N σ' H'->∃CM,CM<m/\W (i+1) CM σ' H')/\∀x H',Bp.Jt i H x H'->g x σ H' λσ2 Ab=>tb { D with BK:=N,C_:=N,F9:=D.BK } σ2 Ab)
noncomputable def Vr(Ae:List Z)(h:Aq):List (Z×Obj):=Ae.filterMap λb=>(h.get? b).map λo=>(b,o)
def Zu{Ae:List Z}{h:Aq}{b:Z}{o:Obj}(J:b∈Ae)(e:h.get? b=some o):(b,o)∈Vr Ae h:=List.mem_filterMap.mpr ⟨b,J,by rw[e];rfl⟩
def abm{Ae:List Z}{h:Aq}{p:Z×Obj}(AW:p∈Vr Ae h):p.1∈Ae/\h.get? p.1=some p.2:=by
 obtain⟨b,J,e⟩:=List.mem_filterMap.mp AW;cases q:h.get? b with
 |none=>rw[q]at e;cases e
 |some o=>rw[q]at e;have Bi:(b,o)=p:=Dz e;subst Bi;exact⟨J,q⟩
def Inv.pinned{pins:List (Z×Obj)}{σ :St}{H:A4}{s:AD}{Ae:List Z}(I:Inv X pins σ H s)(hf:∀b∈Ae,Jv X pins H b)(AE:∀b∈Ae,∃o,s.heap.get? b=some o/\∀v,o.data≠.cell v):Inv X (pins++Vr Ae s.heap) σ H s:=
 I.p9 λp AW=>(List.mem_append.mp AW).elim (λz=>I.pin p (Ii _ z)) λz=>by obtain⟨J,e⟩:=abm z;obtain⟨f0,f1,f2,_⟩:=hf p.1 J;obtain⟨o,Bi,d⟩:=AE p.1 J;rw[e]at Bi;cases Bi;exact⟨e,f0,f1,f2,d⟩
def Inv.aK{pins pl:List (Z×Obj)}{σ :St}{H:A4}{s:AD}(I:Inv X (pins++pl) σ H s):Inv X pins σ H s:=I.p9 λp AW=>I.pin p (Ii _ (MJ _ AW))
def pF{iter:AN}{body:List BG}{Ih:TI}{g:HQ}{tb:Ei}{pos:Pos}(AW:U1 (Ai X.prog X.w) X.A X.env X.xe)(AB:X.calm=true)(A0:Fv X BL iter Ih)(AQ:Iw X BL g)(J:FU X body tb)(hs:∀x,JS iter X.env x=pure x:=by intro _;rfl):Cf X (.For BL iter body [] pos) (e6 Ih g tb):=by
 intro pins s σ H D I h;refine wpAny_For (BS (A0 pins s σ H _ I h) λv s1 h1=>BS h1 λYd s2 h2=>?_) hs;obtain⟨it,Ae,Fq,Bp,Ab,e,Bu,T,LS,f2,W,⟨m0,M2⟩,turn⟩:=h2;subst e;have stat:∀{H':A4},(∀b∈Ae,H' b=none)->∀b∈Ae,Jv X pins H' b:=λAR b J=>⟨AR b J,(f2 b J).2⟩;refine codeAny_forLoop_any (λn s'=>∃i σ' H',Inv X pins σ' H' s'/\Fq i s'.heap/\(∀b∈Ae,H' b=none)/\W i n σ' H') ?_ m0 ⟨0,σ,Ab,Bu,LS,λb J=>(f2 b J).1,M2⟩;rintro n s3 ⟨i,σ3,CI,Dp,q3,lq,Ef⟩;rcases turn i n σ3 CI Ef with⟨stop,qn⟩|⟨go,N,hN,step⟩
 .refine Pm AW (BS (T.done X rfl rfl rfl AB i pins s3 σ3 CI X.xe Dp (stat lq) q3 stop) λr s4⟨AS,LW⟩=>?_);subst AS;exact Wu ⟨σ3,CI,LW,qn⟩
 .refine Pm AW (BS (T.item X rfl rfl rfl AB i pins s3 σ3 CI X.xe Dp (stat lq) q3 go) λr s4⟨u,AS,h4⟩=>?_);subst AS;refine Pm AW (BS h4 λ_ s5⟨x,Ir,SF,Ia,aia,Sb,Xr⟩=>?_);have tG:=SF.pinned (stat Xr) (T.obj _ _ Sb);refine Pm AW (BS (AQ _ s5 σ3 Ir x u _ tG Ia (step x Ir aia)) λ_ Jm⟨σ6,M8,Ug,Gq⟩=>?_);refine Pm AW (BS (J _ Jm σ6 M8 _ Ug Gq) λf EK Hv=>?_);have again:∀{σ7:St}{FL:A4},Inv X (pins++Vr Ae s5.heap) σ7 FL EK->N σ7 FL->∃m,m<n/\∃i σ' H',Inv X pins σ' H' EK/\Fq i EK.heap/\(∀b∈Ae,H' b=none)/\W i m σ' H':=λ{σ7 FL} KV WM=>by
   obtain⟨CM,hm,afc⟩:=hN σ7 FL WM;refine⟨CM,hm,i+1,σ7,FL,KV.aK,T.keep _ _ _ Sb λb J o e=>(KV.pin (b,o) (Ii _ (Ii _ (Zu J e)))).1,λb J=>?_,afc⟩;obtain⟨o,e,d⟩:=T.obj _ _ Sb b J;exact(KV.pin (b,o) (Ii _ (Ii _ (Zu J e)))).2.1
  cases f with
  |next=>obtain⟨σ7,FL,KV,WM⟩:=Hv;exact again KV WM
  |cont=>obtain⟨σ7,FL,KV,WM⟩:=Hv;exact again KV WM
  |brk=>obtain⟨σ7,FL,KV,Hv⟩:=Hv;exact⟨σ7,FL,KV.aK,Hv⟩
  |ret v=>obtain⟨afI,σ7,FL,KV,F4,Hv⟩:=Hv;exact⟨afI,σ7,FL,KV.aK,F4,Hv⟩
end
abbrev EO:=V->V->A4->Br->Prop
def Ds(X:AX)(f:U->U->Sem U)(r:EO):Prop:=
 ∀(pins:List (Z×Obj))(s:AD)(σ :St)(H:A4)(x y:V)(v u:U)(Q:Br),Inv X pins σ H s->RelV x v->RelV y u->r x y H Q->
  AU (Ai X.prog X.w) X.A (f v u) (Fs X pins σ Q) X.xe s
def Y8(X:AX)(f:U->Sem U)(r:V->A4->Br->Prop):Prop:=
 ∀(pins:List (Z×Obj))(s:AD)(σ :St)(H:A4)(x:V)(v:U)(Q:Br),Inv X pins σ H s->RelV x v->r x H Q->
  AU (Ai X.prog X.w) X.A (f v) (Fs X pins σ Q) X.xe s
def G9(X:AX)(f:U)(r:List V->A4->Br->Prop):Prop:=
 ∀(pins:List (Z×Obj))(s:AD)(σ :St)(H:A4)(xs:List V)(us:List U)(Q:Br),Inv X pins σ H s->Vals xs us->r xs H Q->
  AU (Ai X.prog X.w) X.A (call f us) (Fs X pins σ Q) X.xe s
def sd(X:AX)(r:V->A4->(Bool->A4->Prop)->Prop):Prop:=
 ∀(pins:List (Z×Obj))(s:AD)(σ :St)(H:A4)(x:V)(v:U)(Q:Bool->A4->Prop),Inv X pins σ H s->RelV x v->r x H Q->
  AU (Ai X.prog X.w) X.A (truthy v) (Y7 X pins σ Q) X.xe s
def Mq(r:EO)(Bo tb:TE):TE:=λσ H Q=>Bo σ H λx H1=>tb σ H1 λy Ab=>r x y Ab Q
def rH(r:V->A4->Br->Prop)(Bo:TE):TE:=λσ H Q=>Bo σ H λx H1=>r x H1 Q
def PI(C:Int->Int->Prop)(g:Int->Int->V):EO:=λx y H Q=>∃i j,x=.int i/\y=.int j/\C i j/\Q (g i j) H
def Lx(g:Int->Int->V):EO:=λx y H Q=>∃i j,x=.int i/\y=.int j/\Q (g i j) H
def oi(g:Int->V):V->A4->Br->Prop:=λx H Q=>∃i,x=.int i/\Q (g i) H
section
variable{X:AX}{a b c:AN}{Bo tb tc:TE}{pos:Pos}
def hV(A2:Al X a Bo)(J:Al X b tb){pins:List (Z×Obj)}{s:AD}{σ :St}{H:A4}{R:V->V->A4->Prop}(I:Inv X pins σ H s)(h:Bo σ H λx H1=>tb σ H1 λy Ab=>R x y Ab){Q:U->AD->Prop}{f:U->U->Sem U}(hf:∀v u s2 x y Ab,Inv X pins σ Ab s2->RelV x v->RelV y u->R x y Ab->AU (Ai X.prog X.w) X.A (f v u) Q X.xe s2) :
  AU (Ai X.prog X.w) X.A (BC a X.env) (λv Ci=>AU (Ai X.prog X.w) X.A (BC b X.env) (λu Ic=>AU (Ai X.prog X.w) X.A (f v u) Q X.xe Ic) X.xe Ci) X.xe s:=by
 refine BS (A2 pins s σ H _ I h) λv s1⟨x,H1,As,A6,A_⟩=>?_;refine BS (J pins s1 σ H1 _ As A_) λu s2⟨y,Ab,Bu,AZ,B4⟩=>?_;exact hf v u s2 x y Ab Bu A6 AZ B4
def ZV{op:Operator}{r:EO}(AE:Ds X (Ip op) r)(A2:Al X a Bo)(J:Al X b tb):Al X (.BinOp a op b pos) (Mq r Bo tb):=by intro pins s σ H Q I h;exact wpAny_BinOp (hV A2 J I h λv u s2 x y Ab Bu BB Bm q=>AE pins s2 σ Ab x y v u Q Bu BB Bm q)
def abM{op:UnaryOp}{r:V->A4->Br->Prop}(AE:Y8 X (unaryOp op) r)(A2:Al X a Bo):Al X (.UnaryOp op a pos) (rH r Bo):=by intro pins s σ H Q I h;exact UnaryOp_ (BS (A2 pins s σ H _ I h) λv s1⟨x,H1,As,A6,A_⟩=>AE pins s1 σ H1 x v Q As A6 A_)
def ZO{f:U->U->Sem U}{C:Int->Int->Prop}{g:Int->Int->Int}(rule:∀(i j:Int)(t u:Tok)(s:AD)(Q:U->AD->Prop)(E:U->AD->Prop),C i j->Q (.int (g i j) s.toks) { s with toks:=s.toks+1 }->AU (Ai X.prog X.w) X.A (f (.int i t) (.int j u)) Q E s) :
  Ds X f (PI C λi j=>.int (g i j)):=by
 intro pins s σ H x y v u Q I BB Bm h;obtain⟨i,j,rfl,rfl,AB,q⟩:=h;obtain⟨t,rfl⟩:=BB;obtain⟨t',rfl⟩:=Bm;exact rule i j t t' s _ _ AB ⟨.int (g i j),H,I.tok _,⟨_,rfl⟩,q⟩
def nf{f:U->U->Sem U}{g:Int->Int->Int}(rule:∀(i j:Int)(t u:Tok)(s:AD)(Q:U->AD->Prop)(E:U->AD->Prop),Q (.int (g i j) s.toks) { s with toks:=s.toks+1 }->AU (Ai X.prog X.w) X.A (f (.int i t) (.int j u)) Q E s) :
  Ds X f (Lx λi j=>.int (g i j)):=by
 intro pins s σ H x y v u Q I BB Bm h;obtain⟨i,j,rfl,rfl,q⟩:=h;obtain⟨t,rfl⟩:=BB;obtain⟨t',rfl⟩:=Bm;exact rule i j t t' s _ _ ⟨.int (g i j),H,I.tok _,⟨_,rfl⟩,q⟩
def bf{f:U->U->Sem U}{g:Int->Int->Bool}(rule:∀(i j:Int)(t u:Tok)(s:AD)(Q:U->AD->Prop)(E:U->AD->Prop),Q (.bool (g i j)) s->AU (Ai X.prog X.w) X.A (f (.int i t) (.int j u)) Q E s) :
  Ds X f (Lx λi j=>.AO (g i j)):=by
 intro pins s σ H x y v u Q I BB Bm h;obtain⟨i,j,rfl,rfl,q⟩:=h;obtain⟨t,rfl⟩:=BB;obtain⟨t',rfl⟩:=Bm;exact rule i j t t' s _ _ ⟨.AO (g i j),H,I,rfl,q⟩
def Qi(i j:Int):Prop:=0<j/\j<1073741824
def Xs(i j:Int):Prop:=0<=j/\j<=1000000/\i.natAbs<2^64
def SB(i j:Int):Prop:=(-(2^64)<i/\i<2^64)\/(-(2^64)<j/\j<2^64)
def SB.ok{i j:Int}(h:SB i j):IntMulOk i j:=by
 rcases h with⟨h1,h2⟩|⟨h1,h2⟩
 .exact .of_left (intBits_le_64 h1 h2)
 .exact .of_right (intBits_le_64 h1 h2)
def ng:Ds X (Ip .Add) (Lx λi j=>.int (i+j)):=nf λ_ _ _ _ _ _ _ q=>add_int q
def ac7:Ds X (Ip .Sub) (Lx λi j=>.int (i-j)):=nf λ_ _ _ _ _ _ _ q=>sub_int q
def ac4:Ds X (Ip .Mult) (PI SB λi j=>.int (i*j)):=ZO λ_ _ _ _ _ _ _ AB q=>mul_int q AB.ok
def nk:Ds X (Ip .FloorDiv) (PI Qi λi j=>.int (i/j)):=ZO λi j _ _ _ _ _ AB q=>by have h1:(0:Int)<j:=AB.1;have h2:j<1073741824:=AB.2;exact floordiv_int (by lia) (by rw[Int.fdiv_eq_ediv_of_nonneg i (by lia)];exact q) (.inl (PyProof.noPylong_small (by lia)))
def nu:Ds X (Ip .Mod) (PI (λ_ j=>0<j) λi j=>.int (i%j)):=ZO λi j _ _ _ _ _ AB q=>by have h1:(0:Int)<j:=AB;exact mod_int' (by lia) (by rw[Int.fmod_eq_emod_of_nonneg i (by lia)];exact q)
def ac6:Ds X (Ip .Pow) (PI Xs λi j=>.int (i^j.toNat)):=ZO λ_ _ _ _ _ _ _ AB q=>pow_int_small AB.1 AB.2.1 AB.2.2 q
def ag9{f:U->Sem U}{g:Int->Int}(rule:∀(i:Int)(t:Tok)(s:AD)(Q:U->AD->Prop)(E:U->AD->Prop),Q (.int (g i) s.toks) { s with toks:=s.toks+1 }->AU (Ai X.prog X.w) X.A (f (.int i t)) Q E s) :
  Y8 X f (oi λi=>.int (g i)):=by
 intro pins s σ H x v Q I BB h;obtain⟨i,rfl,q⟩:=h;obtain⟨t,rfl⟩:=BB;exact rule i t s _ _ ⟨.int (g i),H,I.tok _,⟨_,rfl⟩,q⟩
def agA:Y8 X (unaryOp .USub) (oi λi=>.int (-i)):=ag9 λ_ _ _ _ _ q=>neg_int q
end
noncomputable def qR:V->V->Bool
 |.non,.non=>true|.non,.int _=>true|.int _,.non=>true|.non,.AO _=>true|.AO _,.non=>true|.non,.str _=>true|.str _,.non=>true
 |.int _,.int _=>true|.AO _,.AO _=>true|.str _,.str _=>true|.Mu _,.Mu _=>true
 |.int _,.str _=>true|.str _,.int _=>true|.AO _,.str _=>true|.str _,.AO _=>true
 |_,_=>false
section
variable{X:AX}{a b c:AN}{Bo tb tc:TE}{pos:Pos}
def uZ{pins:List (Z×Obj)}{σ :St}{H:A4}{s:AD}{Q:Br}{k k':Bool}(I:Inv X pins σ H s)(q:Q (.AO k) H)(e:k=k'):Fs X pins σ Q (.bool k') s:=by subst e;exact⟨.AO k,H,I,rfl,q⟩
def nt:Ds X (Fk .Lt) (Lx λi j=>.AO (decide (i<j))):=bf λ_ _ _ _ _ _ _ q=>lt_int q
def Vj:Ds X (Fk .LtE) (Lx λi j=>.AO (decide (i<=j))):=bf λ_ _ _ _ _ _ _ q=>le_int q
def ac3:Ds X (Fk .Gt) (Lx λi j=>.AO (decide (j<i))):=bf λ_ _ _ _ _ _ _ q=>gt_int q
def nr:Ds X (Fk .Is) (λx y H Q=>y=.non/\Q (.AO (decide (x=.non))) H):=by
 intro pins s σ H x y v u Q I BB Bm h;obtain⟨rfl,q⟩:=h;cases Bm;refine is_none_gen (uZ I q ?_)
 cases x<;>first
  |(cases BB;rfl)
  |(obtain⟨t,rfl⟩:=BB;rfl)
def Ds.or{f:U->U->Sem U}{r B2:EO}(h:Ds X f r)(h':Ds X f B2):Ds X f (λx y H Q=>r x y H Q\/B2 x y H Q):=by
 intro pins s σ H x y v u Q I BB Bm q;rcases q with q|q
 .exact h pins s σ H x y v u Q I BB Bm q
 .exact h' pins s σ H x y v u Q I BB Bm q
def PD(b:AN){op:KG}(h:op≠.In:=by decide)(h2:op≠.NotIn:=by decide):I0 op b=false:=by
 have A1:(op==CmpOp.In)=false:=by cases op<;>first|rfl|exact absurd rfl h
 have A7:(op==CmpOp.NotIn)=false:=by cases op<;>first|rfl|exact absurd rfl h2
 cases b<;>simp[I0,A1,A7]
def abd{op:KG}{r:EO}(AE:Ds X (Fk op) r)(A2:Al X a Bo)(J:Al X b tb)(hm:I0 op b=false):Al X (.Compare a [op] [b] pos) (Mq r Bo tb):=by intro pins s σ H Q I h;exact wpAny_Compare1 (hV A2 J I h λv u s2 x y Ab Bu BB Bm q=>AE pins s2 σ Ab x y v u Q Bu BB Bm q) hm
def eB(t:TE):TT:=λσ H Q=>t σ H λx H'=>∃k,x=.AO k/\Q k H'
def adC{op:KG}{r:EO}(AE:Ds X (Fk op) r)(A2:Al X a Bo)(J:Al X b tb)(hm:I0 op b=false):F0 X (.Compare a [op] [b] pos) (eB (Mq r Bo tb)):=by
 intro pins s σ H Q I h;refine wpAny_isTrue_Compare1 (BS (A2 pins s σ H _ I h) λv s1⟨x,H1,As,A6,A_⟩=>BS (J pins s1 σ H1 _ As A_) λu s2⟨y,Ab,Bu,AZ,B4⟩=>
  BS (AE pins s2 σ Ab x y v u _ Bu A6 AZ B4) λc s3⟨z,CI,Dp,Cy,k,e,Cn⟩=>?_) hm
 subst e;cases Cy;exact K6 ⟨CI,Dp,Cn⟩
def e3(r B2:EO)(Bo tb tc:TE):TE:=λσ H Q=>Bo σ H λx H1=>tb σ H1 λy Ab=>r x y Ab λz CI=>∃k,z=.AO k/\
 (if k=true then tc σ CI λFG Gv=>B2 y FG Gv Q else Q (.AO false) CI)
def abb{op JH:KG}{r B2:EO}(AE:Ds X (Fk op) r)(Dy:Ds X (Fk JH) B2)(A2:Al X a Bo)(J:Al X b tb)(AB:Al X c tc)(hm:lastMarks [op,JH] [b,c]=false:=by with_unfolding_all rfl):Al X (.Compare a [op,JH] [b,c] pos) (e3 r B2 Bo tb tc):=by
 intro pins s σ H Q I h;refine Compare_chain (BS (A2 pins s σ H _ I h) λv s1⟨x,H1,As,A6,A_⟩=>chain_link (BS (J pins s1 σ H1 _ As A_) λu s2⟨y,Ab,Bu,AZ,B4⟩=>
  BS (AE pins s2 σ Ab x y v u _ Bu A6 AZ B4) λd s3⟨z,CI,Dp,Cy,k,e,Cn⟩=>?_)) hm
 subst e;cases Cy;refine K6 ?_;cases k with
 |false=>exact ite_ff ⟨.AO false,CI,Dp,rfl,Cn⟩
 |true=>exact ite_tt (chain_last (BS (AB pins s3 σ CI _ Dp Cn) λFG s4⟨Es,Gv,LW,Lv,I7⟩=>Dy pins s4 σ Gv y Es u FG Q LW AZ Lv I7))
def adB{op JH:KG}{r B2:EO}(AE:Ds X (Fk op) r)(Dy:Ds X (Fk JH) B2)(A2:Al X a Bo)(J:Al X b tb)(AB:Al X c tc)(hm:lastMarks [op,JH] [b,c]=false:=by with_unfolding_all rfl):F0 X (.Compare a [op,JH] [b,c] pos) (eB (e3 r B2 Bo tb tc)):=by
 intro pins s σ H Q I h;refine isTrue_chain (BS (A2 pins s σ H _ I h) λv s1⟨x,H1,As,A6,A_⟩=>test_link (BS (J pins s1 σ H1 _ As A_) λu s2⟨y,Ab,Bu,AZ,B4⟩=>
  BS (AE pins s2 σ Ab x y v u _ Bu A6 AZ B4) λd s3⟨z,CI,Dp,Cy,k,e,Cn⟩=>?_)) hm
 subst e;cases Cy;refine K6 ?_;cases k with
 |false=>obtain⟨k',Bi,D_⟩:=Cn;cases Bi;exact ite_ff ⟨CI,Dp,D_⟩
 |true=>refine ite_tt (test_last (BS (AB pins s3 σ CI _ Dp Cn) λFG s4⟨Es,Gv,LW,Lv,I7⟩=>BS (Dy pins s4 σ Gv y Es u FG _ LW AZ Lv I7) λd' s5⟨CP,Ir,SF,Ia,k2,A7,LP⟩=>?_));subst A7;cases Ia;exact K6 ⟨Ir,SF,LP⟩
def se(K:AT)(x:V)(H:A4)(k:Bool):Prop:=
 match x with
 |.non=>k=false
 |.AO b=>k=b
 |.int i=>k=(i !=0)
 |.str y=>y.length<=CH/\k=((y.length:Int) !=0)
 |.Mu y=>y.size<=CH/\k=((y.size:Int) !=0)
 |.ref p=>(∃xs,Bb K H p xs/\k=!xs.isEmpty)\/(∃xs,CA K H p xs/\k=!xs.isEmpty)\/∃Ay,H p=some (.DM Ay)/\k=!Ay.isEmpty
 |_=>False
def yy{κ:Type}{Ay:List (κ×V)}{vs:List (κ×U)}(r:GW Ay vs):(!vs.isEmpty)=!Ay.isEmpty:=by cases r<;>rfl
def n9{xs:List V}{its:List U}(r:Vals xs its):(!its.toArray.isEmpty)=!xs.isEmpty:=by cases r<;>simp
def TQ:(CH:Nat)<2^63:=by rw[K8];decide
def akm:sd X (λx H Q=>∃k,se X.K x H k/\Q k H):=by
 intro pins s σ H x v Q I BB h;obtain⟨k,e,q⟩:=h;have AF:=TQ;have hs:CH=16777216:=K8;cases x with
 |non=>cases BB;have Bi:k=false:=e;subst Bi;exact truthy_none ⟨H,I,q⟩
 |AO b=>cases BB;have Bi:k=b:=e;subst Bi;exact K6 ⟨H,I,q⟩
 |int i=>obtain⟨t,rfl⟩:=BB;have Bi:k=(i !=0):=e;subst Bi;exact PySem.P.truthy_int ⟨H,I,q⟩
 |str y=>obtain⟨t,rfl⟩:=BB;obtain⟨Ao,Bi⟩:y.length<=CH/\k=((y.length:Int) !=0):=e;subst Bi;exact PySem.P.truthy_str (by lia) ⟨H,I.tok _,q⟩
 |Mu y=>obtain⟨t,rfl⟩:=BB;obtain⟨Ao,Bi⟩:y.size<=CH/\k=((y.size:Int) !=0):=e;subst Bi;exact PySem.W.truthy_bytes (by lia) ⟨H,I.tok _,q⟩
 |ref p=>
  cases BB;have Bi:(∃xs,Bb X.K H p xs/\k=!xs.isEmpty)\/(∃xs,CA X.K H p xs/\k=!xs.isEmpty)\/∃Ay,H p=some (.DM Ay)/\k=!Ay.isEmpty:=e;rcases Bi with⟨xs,A5,Bi⟩|⟨xs,A5,Bi⟩|⟨Ay,A5,Bi⟩
  .subst Bi;obtain⟨its,r,pl,Aj⟩:=I.list A5;have hlen:=r.length;exact wpAny_truthy_list pl.isList (by simp only[DJ];lia) ⟨H,I.tok _,by rw[n9 r];exact q⟩
  .subst Bi;obtain⟨its,r,pl,Aj⟩:=I.tuple A5;have hlen:=r.length;exact truthy_tuple pl (by simp only[DJ];lia) ⟨H,I.tok _,by rw[n9 r];exact q⟩
  .subst Bi;obtain⟨Aj,J8,vs,r,m⟩:Ay.length<=CH/\(p==Lc)=false/\∃vs,GW Ay vs/\s.heap.DictOf (GS X.prog X.w) p vs:=I.BE p _ A5;have hlen:Ay.length=vs.length:=Paired.length r;exact wpAny_truthy_dict J8 m (by lia) ⟨H,I.tok _,by rw[yy r];exact q⟩
 |_=>exact(show False from e).elim
def nh:Ds X (Ip .Add) (λx y H Q=>∃i j,x=.str i/\y=.str j/\i.length+j.length<=CH/\Q (.str (i++j)) H):=by intro pins s σ H x y v u Q I BB Bm h;obtain⟨i,j,rfl,rfl,Aj,q⟩:=h;obtain⟨t,rfl⟩:=BB;obtain⟨t',rfl⟩:=Bm;exact add_str (λt' BW=>⟨.str (i++j),H,I.tok _,⟨_,rfl⟩,q⟩) Aj
def vals1{x:V}{us:List U}(r:Vals [x] us):∃u,us=[u]/\RelV x u:=by
 cases r with
 |cons A6 AZ=>cases AZ;exact⟨_,rfl,A6⟩
def vals2{x y:V}{us:List U}(r:Vals [x,y] us):∃u FG,us=[u,FG]/\RelV x u/\RelV y FG:=by
 cases r with
 |cons A6 AZ=>
  cases AZ with
  |cons Cy Lv=>cases Lv;exact⟨_,_,rfl,A6,Cy⟩
def uN:G9 X (.builtin "abs") (λxs H Q=>∃i,xs=[.int i]/\Q (.int (if i<0 then-i else i)) H):=by intro pins s σ H xs us Q I r h;obtain⟨i,rfl,q⟩:=h;obtain⟨u,rfl,t,rfl⟩:=vals1 r;exact call_abs_int λu BW=>⟨.int (if i<0 then-i else i),H,I.tok _,⟨_,rfl⟩,q⟩
def uP:G9 X (.type "int") (λxs H Q=>(∃i,xs=[.int i]/\Q (.int i) H)\/∃k,xs=[.AO k]/\Q (.int (if k then 1 else 0)) H):=by
 intro pins s σ H xs us Q I r h;rcases h with⟨i,rfl,q⟩|⟨k,rfl,q⟩
 .obtain⟨u,rfl,t,rfl⟩:=vals1 r;exact call_int_int ⟨.int i,H,I,⟨_,rfl⟩,q⟩
 .obtain⟨u,rfl,A6⟩:=vals1 r;cases A6;exact call_int_bool ⟨.int (if k then 1 else 0),H,I.tok _,⟨_,rfl⟩,q⟩
def tk:G9 X (.type "str") (λxs H Q=>∃i,xs=[.int i]/\i.natAbs.log2<1920/\Q (.str (toString i)) H):=by intro pins s σ H xs us Q I r h;obtain⟨i,rfl,Aj,q⟩:=h;obtain⟨u,rfl,t,rfl⟩:=vals1 r;exact PySem.P.str_of_int Aj ⟨.str _,H,I.tok _,⟨_,rfl⟩,q⟩
def j1(K:AT)(x:V)(H:A4)(n:Nat):Prop:=
 match x with
 |.str y=>y.length<=CH/\n=y.length
 |.Mu y=>y.size<=CH/\n=y.size
 |.ref p=>(∃xs,Bb K H p xs/\n=xs.length)\/∃xs,CA K H p xs/\n=xs.length
 |_=>False
def ta:G9 X (.builtin "len") (λxs H Q=>∃x n,xs=[x]/\j1 X.K x H n/\Q (.int n) H):=by
 intro pins s σ H xs us Q I r h;obtain⟨x,n,rfl,e,q⟩:=h;obtain⟨u,rfl,BB⟩:=vals1 r;have AF:=TQ;have hs:CH=16777216:=K8;cases x with
 |str y=>obtain⟨t,rfl⟩:=BB;obtain⟨Ao,Bi⟩:y.length<=CH/\n=y.length:=e;subst Bi;exact len_str (by lia) ⟨.int _,H,I.tok _,⟨_,rfl⟩,q⟩
 |Mu y=>obtain⟨t,rfl⟩:=BB;obtain⟨Ao,Bi⟩:y.size<=CH/\n=y.size:=e;subst Bi;exact PySem.W.len_bytes (by lia) ⟨.int _,H,I.tok _,⟨_,rfl⟩,q⟩
 |ref p=>
  cases BB;have Bi:(∃xs,Bb X.K H p xs/\n=xs.length)\/∃xs,CA X.K H p xs/\n=xs.length:=e;rcases Bi with⟨xs,A5,Bi⟩|⟨xs,A5,Bi⟩
  .subst Bi;obtain⟨its,B2,pl,Aj⟩:=I.list A5;have hlen:=B2.length;exact Calls.call_len_list pl.isList (by simp only[DJ];lia) ⟨.int xs.length,H,I.tok _,⟨_,by simp only[DJ];rw[hlen]⟩,q⟩
  .subst Bi;obtain⟨its,B2,pl,Aj⟩:=I.tuple A5;have hlen:=B2.length;exact len_tuple pl (by simp only[DJ];lia) ⟨.int xs.length,H,I.tok _,⟨_,by simp only[DJ];rw[hlen]⟩,q⟩
 |_=>exact(show False from e).elim
end
structure Qp(h:Aq)(x Av C:Z)(Dv:Str->Option U):Prop where
 obj:h.get? x=some (OH C Av)
 ns:h.Ns1 Av Dv
 ne:Av≠x
def zk{h:Aq}{Av:Z}{Dv:Str->Option U}(n:h.Ns1 Av Dv):∃DN,h.get? Av=some DN/\∀name,X6 name DN=some (Dv name):=by
 obtain⟨o,es,B3,AE,hd,AG,_,hm⟩:=n;refine⟨o,AE,λname=>?_⟩;have e:=hm name;unfold nsFind findBy at e;rw[<-Array.find?_toList]at e;unfold X6;rw[hd];dsimp only
 split
 .rename_i y q;rw[q]at e;exact congrArg some e
 .rename_i q;rw[q]at e;have a:es.toList.any (·.refKey)=false:=by
   rw[fa];intro y Ao;obtain⟨z,t,vZ⟩:=AG y (Array.mem_toList_iff.mp Ao);simp[DictEntry.refKey,vZ]
  have F1:¬es.toList.any (·.refKey)=true:=by rw[a];exact Hy
  rw[if_neg F1];exact congrArg some e
def Qp.look{h:Aq}{x Av C:Z}{Dv:Str->Option U}(I:Qp h x Av C Dv):∃DN,PySem.W.InstAt h x (OH C Av) C (some DN)/\∀name,X6 name DN=some (Dv name):=
 let⟨DN,AE,AF⟩:=zk I.ns
 ⟨DN,⟨I.obj,rfl,rfl,AE⟩,AF⟩
section
variable{prog:BR}{w:BA}{A:Bk}{E:U->AD->Prop}{s:AD}{K:AT}{x Av C f:Z}{Dv:Str->Option U}{name:Str}{v:U}
def get_map{expr:Bool}{Q:U->AD->Prop}(X:K.In s.heap)(I:Qp s.heap x Av C Dv)(AQ:Rl K C name=true)(B1:Tf K C=true)(A2:Hz K (.ref C) name=some none)(Az:Dv name=some v)(N9:PySem.W.handedIn v=true)(h:Q v { s with toks:=s.toks+1 }) :
  AU (Ai prog w) A (getAttr (.ref x) name expr) Q E s:=by
 obtain⟨DN,Bp,AF⟩:=I.look;exact PySem.W.get_value X Bp (fJ AQ).1 (PySem.W.findObj_own B1 A2 rfl (by rw[AF,Az])) N9 h
def wM{pl:Sem Bool}{Q:U×List U->AD->Prop}(X:K.In s.heap)(I:Qp s.heap x Av C Dv)(AQ:Rl K C name=true)(hf:Hz K (.ref C) name=some (some (.ref f)))(BF:Tx K (.ref f)=true)(Az:Dv name=none)(h:Q (.ref f,[.ref x]) s) :
  AU (Ai prog w) A (Q5 (.ref x) name pl) Q E s:=by
 obtain⟨DN,Bp,AF⟩:=I.look;exact PySem.W.method_fn X Bp (fJ AQ).1 (fJ AQ).2 hf (beq_iff_eq.mp BF) (by show(X6 name DN).map (·.isSome)=some false;rw[AF,Az];rfl) h
def adH{ns:List Str}{Q:Unit->AD->Prop}(X:K.In s.heap)(I:Qp s.heap x Av C Dv)(hs:Hz K (.ref C) "__setattr__"=some (some (.builtin "object.__setattr__")))(AW:Ww K C=true)(BF:g8 K C name=some none)(B1:Tf K C=true)(hw:fy Dv ns)(hsz:ns.length<=CH)(h:∀h',Qp h' x Av C (λy=>if y=name then some v else Dv y)->IL Av s.heap h'->Q () { s with heap:=h',toks:=s.toks+2 }) :
  AU (Ai prog w) A (setAttr (.ref x) name v) Q E s:=by
 obtain⟨DN,Bp,AF⟩:=I.look;refine PySem.W.set_plain X Bp hs (PySem.W.osa_open (s:={ s with toks:=s.toks+1 }) (r:=none) X Bp AW BF λb=>?_);obtain⟨cd,AB,Ea⟩:=PySem.W.any_some B1;have A5:s.heap.get? x=some ⟨.ref C,some Av,.plain,#[]⟩:=I.obj;refine AH (An (AH (AH (wpAny_loadPart A5 (AH (PySem.W.Looks.here (s:={ s with toks:=s.toks+1 }) (PySem.W.looks_clsIn X AB) ?_))))));rw[Ea];refine An (a:=some Av) (AH (An (AH ?_)));refine wpAny_nsSet1 (s:={ s with toks:=s.toks+1 }) I.ns λh' YS HZ=>?_;obtain⟨ajZ,aj6,aj4,xI,vq,vn⟩:=YS.count (PySem.Within.cons name v hw);refine AH (wpAny_lookBehind xI (by rw[vq];exact pastItsLine_dict (Eg vn (by rw[FQ];lia))) ?_);exact An (h _ ⟨(HZ.2 _ (KB I.ne)).trans I.obj,YS,I.ne⟩ HZ)
def aao {R:Result->AD->Prop} {vs:List U} {kw:List (Str×U)} (X:K.In s.heap) (hm:Wk K C=true)(A0:Hz K (.ref C) "__init__"=some (some (.ref f))) (hf:PySem.W.typeIn K (.ref f)=some (.type "function"))(h:Ld (Ai prog w) (A.under (.builtin "type.__call__" ⟨.ref C::vs,kw⟩)) (.call (.ref f) ⟨.ref (s.heap.objs.size+1)::vs,kw⟩) (PySem.W.InitBack (s.heap.objs.size+1) R)
    { s with heap:=(s.heap.push NB).push (OH C s.heap.objs.size) }) :
  Ld (Ai prog w) A (.call (.ref C) ⟨vs,kw⟩) R s:=by
 obtain⟨B1,g,d,t,os⟩:=s;exact PySem.W.make_core (PySem.W.makes_of X hm) (PySem.W.looks_findIn X A0) (λself=>PySem.W.bind_fn X self hf) (.inl rfl) h
end
noncomputable def HH(f:Str)(v:V):List (Str×V)->List (Str×V)
 |[]=>[(f,v)]
 |(g,x)::r=>if g=f then(g,v)::r else(g,x)::HH f v r
theorem o6(f g:Str)(v:V):∀Am:List (Str×V),(HH f v Am).lookup g=if g=f then some v else Am.lookup g
 |[]=>by
  show Q2 g [(f,v)]=_;by_cases h:g=f
  .have J:(g==f)=true:=beq_iff_eq.mpr h;simp only[Q2,J,if_pos h]
  .have J:(g==f)=false:=beq_eq_false_iff_ne.mpr h;simp only[Q2,J,if_neg h]
 |(k,x)::r=>by
  have Bg:=o6 f g v r;rw[show HH f v ((k,x)::r)=(if k=f then(k,v)::r else(k,x)::HH f v r)from rfl];by_cases AG:k=f
  .rw[if_pos AG];by_cases h:g=k
   .have J:(g==k)=true:=beq_iff_eq.mpr h;simp only[Q2,J,if_pos (h.trans AG)]
   .have J:(g==k)=false:=beq_eq_false_iff_ne.mpr h;simp only[Q2,J,if_neg (λe:g=f=>h (e.trans AG.symm))]
  .rw[if_neg AG];by_cases h:g=k
   .have J:(g==k)=true:=beq_iff_eq.mpr h;simp only[Q2,J,if_neg (λe:g=f=>AG (h.symm.trans e))]
   .have J:(g==k)=false:=beq_eq_false_iff_ne.mpr h;simp only[Q2,J];exact Bg
theorem cY(f:Str)(v:V):∀Am:List (Str×V),f∈(HH f v Am).map (·.1)/\∀g,g∈Am.map (·.1)->g∈(HH f v Am).map (·.1)
 |[]=>⟨by simp[HH],λg h=>by simp at h⟩
 |(k,x)::r=>by
  obtain⟨Bj,Bd⟩:=cY f v r;rw[show HH f v ((k,x)::r)=(if k=f then(k,v)::r else(k,x)::HH f v r)from rfl];by_cases AG:k=f
  .rw[if_pos AG];subst AG;exact⟨by simp,λg h=>by simpa using h⟩
  .rw[if_neg AG];refine⟨?_,λg h=>?_⟩
   .rw[DP];exact E3 _ Bj
   .rw[DP]at h |-;rcases List.mem_cons.mp h with e|e
    .exact List.mem_cons.mpr (.inl e)
    .exact E3 _ (Bd g e)
theorem o2(f:Str)(v:V):∀Am:List (Str×V),(HH f v Am).length<=Am.length+1
 |[]=>by simp[HH]
 |(k,x)::r=>by
  have Bg:=o2 f v r;rw[show HH f v ((k,x)::r)=(if k=f then(k,v)::r else(k,x)::HH f v r)from rfl];by_cases AG:k=f
  .rw[if_pos AG,FQ,FQ];lia
  .rw[if_neg AG,FQ,FQ];lia
def Hi.some_of{v:V}{o:Option U}(r:Hi (some v) o):∃u,o=some u/\RelV v u:=by
 cases o with
 |none=>exact(show False from r).elim
 |some u=>exact⟨u,rfl,r⟩
def Hi.none_of{o:Option U}(r:Hi none o):o=none:=by
 cases o with
 |none=>rfl
 |some u=>exact(show False from r).elim
def vk{v:V}{u:U}(r:RelV v u):PySem.W.handedIn u=true:=by
 cases v with
 |non=>cases(show u=JV from r);rfl
 |AO b=>cases(show u=Ru b from r);rfl
 |int i=>obtain⟨t,e⟩:=(show ∃t,u=XK i t from r);cases e;rfl
 |str x=>obtain⟨t,e⟩:=(show ∃t,u=XM x t from r);cases e;rfl
 |Mu b=>obtain⟨t,e⟩:=(show ∃t,u=Value.bytes b t from r);cases e;rfl
 |XQ b=>obtain⟨t,e⟩:=(show ∃t,u=Value.float b t from r);cases e;rfl
 |ref a=>cases(show u=D7 a from r);rfl
 |ty n=>cases(show u=Lb n from r);rfl
section
variable{P:BR}{w:BA}{H H':A4}{h h':Aq}{a C Av:Z}{Am Yl:List (Str×V)}
def cL(BE:Dx P w H h)(e:H a=some (.ins C Av Am)):∃Dv,Qp h a Av C Dv/\(∀f,Hi (Am.lookup f) (Dv f))/\fy Dv (Am.map (·.1))/\Am.length<=1000/\H Av=some (.own a):=by obtain⟨d,z,ne,ob,Dv,n,r,q⟩:=(show E5 P w H h a (.ins C Av Am)from BE a _ e);exact⟨Dv,⟨ob,n,ne⟩,r,q,z,d⟩
end
structure Ju(K:AT)(C:Z):Prop where
 abl:Rl K C Str.empty=true
 hd:Tf K C=true
 po:Ww K C=true
 Np:Hz K (.ref C) "__setattr__"=some (some (.builtin "object.__setattr__"))
def Ju.get{K:AT}{C:Z}(c:Ju K C)(f:Str):Rl K C f=true:=c.abl
def Qo(K:AT)(C:Z)(f:Str):Prop:=Hz K (.ref C) f=some none
def Qo.aeO{K:AT}{C:Z}{f:Str}(n:Qo K C f):g8 K C f=some none:=by unfold g8;rw[show Hz K (.ref C) f=some none from n];rfl
structure Meth(K:AT)(C:Z)(m:Str)(f:Z):Prop where
 at_:Hz K (.ref C) m=some (some (.ref f))
 fn:Tx K (.ref f)=true
 AJ:IM K (.ref f)=true
section
variable{X:AX}{pins:List (Z×Obj)}{σ :St}{H:A4}{s:AD}{a C Av:Z}{Am:List (Str×V)}{f:Str}{v:V}{A:Bk}{E:U->AD->Prop}
def wN{b:Bool}{Q:U->AD->Prop}(I:Inv X pins σ H s)(e:H a=some (.ins C Av Am))(c:Ju X.K C)(n:Qo X.K C f)(l:Am.lookup f=some v)(h:∀u s',Inv X pins σ H s'->RelV v u->Q u s'):AU (Ai X.prog X.w) A (getAttr (.ref a) f b) Q E s:=by obtain⟨Dv,O,r,_,_,_⟩:=cL I.BE e;obtain⟨u,B0,EJ⟩:=Hi.some_of (v:=v) (o:=Dv f) (by rw[<-l];exact r f);exact get_map I.Fh O (c.get f) c.hd n B0 (vk EJ) (h u _ (I.tok _) EJ)
def aj{m:Str}{g:Z}{pl:Sem Bool}{Q:U×List U->AD->Prop}(I:Inv X pins σ H s)(e:H a=some (.ins C Av Am))(c:Ju X.K C)(k:Meth X.K C m g)(l:Am.lookup m=none)(h:Q (.ref g,[.ref a]) s):AU (Ai X.prog X.w) A (Q5 (.ref a) m pl) Q E s:=by obtain⟨Dv,O,r,_,_,_⟩:=cL I.BE e;have AR:Dv m=none:=Hi.none_of (by rw[<-l];exact r m);exact wM I.Fh O (c.get m) k.at_ k.fn AR h
def adJ{y:V}{u:U}{Q:Unit->AD->Prop}(I:Inv X pins σ H s)(e:H a=some (.ins C Av Am))(c:Ju X.K C)(n:Qo X.K C f)(AF:Am.length<1000)(Bm:RelV y u)(h:∀s',Inv X pins σ (upd H a (.ins C Av (HH f y Am))) s'->Q () s'):AU (Ai X.prog X.w) A (setAttr (.ref a) f u) Q E s:=by
 obtain⟨Dv,O,r,Ih,_,AE⟩:=cL I.BE e;have Aj:(Am.map (·.1)).length<=CH:=by rw[Eh,K8];lia
 refine adH I.Fh O c.Np c.po n.aeO c.hd Ih Aj λh' UE Ee=>h _ ?_;have hd:∃o,h'.get? Av=some o:=let⟨o,_,_,Bi,_⟩:=UE.ns;⟨o,Bi⟩
 refine I.write (x:=a) (e:=Av) (by rw[e];exact MM) (.inr AE) (λb q J z=>(Ee.2 b J).trans z) hd ?_;refine⟨by rw[Co O.ne];exact AE,?_,O.ne,UE.obj,_,UE.ns,λg=>?_,λg AQ=>?_⟩
 .have:=o2 f y Am;lia
 .show Hi ((HH f y Am).lookup g) (if g=f then some u else Dv g);rw[o6];by_cases q:g=f
  .rw[if_pos q,if_pos q];exact Bm
  .rw[if_neg q,if_neg q];exact r g
 .by_cases q:g=f
  .rw[q];exact(cY f y Am).1
  .refine(cY f y Am).2 g (Ih g λz=>AQ ?_);show(if g=f then some u else Dv g)=none;rw[if_neg q];exact z
def Inv.made(I:Inv X pins σ H s):Inv X pins σ (upd (upd H s.heap.objs.size (.own (s.heap.objs.size+1))) (s.heap.objs.size+1) (.ins C s.heap.objs.size []))
  { s with heap:=(s.heap.push NB).push (OH C s.heap.objs.size) }:=by
 have A1:(s.heap.push NB).get? s.heap.objs.size=some NB:=F6 s.heap rfl;have A7:((s.heap.push NB).push (OH C s.heap.objs.size)).get? (s.heap.objs.size+1)=some (OH C s.heap.objs.size):=by
  have:=F6 (s.heap.push NB) (o:=OH C s.heap.objs.size) rfl
  rwa [K2]at this
 have B8:(s.heap.push NB).Ns s.heap.objs.size (λ_=>none):=⟨NB,#[],_,A1,rfl,(λe he=>absurd he (by simp)),λ_=>rfl⟩;have As:=I.laid (a:=s.heap.objs.size) (o:=.own (s.heap.objs.size+1)) (h':=s.heap.push NB) (t':=s.toks) (λb u q=>Cr _ q) (By _) ⟨_,A1⟩;refine As.laid (a:=s.heap.objs.size+1) (o:=.ins C s.heap.objs.size []) (t':=s.toks) (λb u q=>Cr _ q) (fz (K2 _ _)) ?_;have ne:s.heap.objs.size≠s.heap.objs.size+1:=ET (Wp _);refine⟨by rw[Co ne,DO],GV _,ne,A7,λ_=>none,(Heap.Ns1.of_empty B8).at λo q=>Cr _ q,λ_=>MM,λy Ao=>absurd rfl Ao⟩
def sS{prog:BR}{w:BA}{env:Env}{e:AN}{f:Str}{pos:Pos}{s:AD}{Q:U->AD->Prop}(J:Ik e f env (BC e env)=BC e env)(h:AU (Ai prog w) A (BC e env) (λo Ci=>AU (Ai prog w) A (getAttr o f true) Q E Ci) E s):AU (Ai prog w) A (BC (.Attribute e f pos) env) Q E s:=
 Attribute_any_ h (by rw[arm_eval_Attribute,J])
end
def aeh(K:AT)(Bo:TE)(f:Str):TE:=λσ H Q=>Bo σ H λx H1=>∃a C Av Am v,x=.ref a/\H1 a=some (.ins C Av Am)/\Ju K C/\Qo K C f/\Am.lookup f=some v/\Q v H1
def ae5(K:AT)(Bo Dk:TE)(f:Str):Ei:=λD σ H=>Dk σ H λy H1=>Bo σ H1 λx Ab=>∃a C Av Am,x=.ref a/\Ab a=some (.ins C Av Am)/\Ju K C/\Qo K C f/\Am.length<1000/\
 D.BK σ (upd Ab a (.ins C Av (HH f y Am)))
section
variable{X:AX}{o e value:AN}{f:Str}{pos pos' TV:Pos}{Bo Dk:TE}
def abh(he:Al X e Bo)(J:Ik e f X.env (BC e X.env)=BC e X.env):Al X (.Attribute e f pos) (aeh X.K Bo f):=by intro pins s σ H Q I h;refine sS J (BS (he pins s σ H _ I h) λu s1⟨x,H1,As,BB,a,C,Av,Am,v,ex,Aa,c,n,l,q⟩=>?_);subst ex;obtain rfl:u=D7 a:=BB;exact wN As Aa c n l λHL s2 Bu EJ=>⟨v,H1,Bu,EJ,q⟩
def ad7(A2:Al X o Bo)(Az:Al X value Dk)(hs:Kw value (some (.Attribute o f pos')) pos.line X.env=pure false):Cf X (.Assign [.Attribute o f pos'] value pos) (ae5 X.K Bo Dk f):=by intro pins s σ H D I h;refine plainObj_wpAny_Assign_Attribute (BS (Az pins s σ H _ I h) λu s1⟨y,H1,As,Bm,q⟩=>BS (A2 pins s1 σ H1 _ As q) λDj s2⟨x,Ab,Bu,BB,a,C,Av,Am,ex,Aa,c,n,l,B4⟩=>?_) hs;subst ex;obtain rfl:Dj=D7 a:=BB;exact adJ Bu Aa c n l Bm λs3 Dp=>⟨σ,_,Dp,B4⟩
def ajS {pl:Sem Bool} {m:Str} {apos:Pos} {args:List AN} {pins:List (Z×Obj)} {s:AD} {σ :St} {H:A4} {Q:U->AD->Prop} {te:TE} (he:Al X e te) (I:Inv X pins σ H s)(h:te σ H λx H1=>∃a C Av Am g,x=.ref a/\H1 a=some (.ins C Av Am)/\Ju X.K C/\Meth X.K C m g/\Am.lookup m=none/\
    ∀s1,Inv X pins σ H1 s1->AU (Ai X.prog X.w) X.A (Rv pos (.ref g) [.ref a] (CW pos (Aw args X.env)) (He pos (Hd [] X.env))) Q X.xe s1)
  (BF:BC (.Call (.Attribute e m apos) args [] pos) X.env=(do
    let Dj <-BC e X.env
    NN apos.atName
    let(f,first) <-JW [Dj] (Q5 Dj m pl)
    Rv pos f first (CW pos (Aw args X.env)) (He pos (Hd [] X.env)))) :
  AU (Ai X.prog X.w) X.A (BC (.Call (.Attribute e m apos) args [] pos) X.env) Q X.xe s:=by
 refine fV (pl:=pl) (BS (he pins s σ H _ I h) λu s1⟨x,H1,As,BB,a,C,Av,Am,g,ex,Aa,c,k,l,q⟩=>?_) BF;subst ex;obtain rfl:u=D7 a:=BB;exact aj As Aa c k l (q s1 As)
end
section
variable{X:AX}{pins:List (Z×Obj)}{σ :St}{H:A4}{s:AD}{A:Bk}{E:U->AD->Prop}{Q:U->AD->Prop}{c:U}{b:Bool}
end
structure Bz(k:Nat)(A:Bk):Prop where
 hd:A.handled=none
 Xk:A.depth+3*k+5<recursionLimit
 un:A.units+16*k+200<Ce
def Bz.mono{j k:Nat}{A:Bk}(r:Bz k A)(h:j<=k):Bz j A:=⟨r.hd,by have:=r.Xk;lia,by have:=r.un;lia⟩
theorem Bz.deeper{k:Nat}{A:Bk}(r:Bz (k+1) A)(env:Env):Bz k (A.deeper env):=
 ⟨r.hd,by have:=r.Xk;show A.depth+1+3*k+5<_;lia,by have:=r.un;show A.units+3+16*k+200<_;lia⟩
def zo{A:Bk}{C:Z}{us:List U}{kw:List (Str×U)}:(A.under (.builtin "type.__call__" ⟨.ref C::us,kw⟩)).depth=A.depth+1:=by
 first|rfl|simp[g7,Code.weight,Code.isCreation,Code.isGuard,Code.isCaller,Code.frames,gI,guardIds]
def aap{A:Bk}{C:Z}{us:List U}{kw:List (Str×U)}:(A.under (.builtin "type.__call__" ⟨.ref C::us,kw⟩)).units=A.units+1:=by
 first|rfl|simp[g7,Code.cUnits,Code.frames,gI]
def Bz.make{k:Nat}{A:Bk}(r:Bz (k+1) A)(C:Z)(us:List U)(kw:List (Str×U)):Bz k (A.under (.builtin "type.__call__" ⟨.ref C::us,kw⟩)):=
 ⟨r.hd,by have:=r.Xk;rw[zo];lia,by have:=r.un;rw[aap];lia⟩
theorem Bz.depth{k:Nat}{A:Bk}(r:Bz k A):A.depth<recursionLimit:=by have:=r.Xk;lia
theorem Bz.units{k:Nat}{A:Bk}(r:Bz k A):A.units+64<Ce:=by have:=r.un;lia
def aD:Et:=λ_ H Q=>Q [] H
def aB(Bo:TE)(DF:Et):Et:=λσ H Q=>Bo σ H λx H1=>DF σ H1 λxs Ab=>Q (x::xs) Ab
section
variable{X:AX}{e:AN}{es:List AN}{te:TE}{t:Et}{pos:Pos}
def LO:F8 X [] aD:=λ_ _ _ _ H Q I h=>Wx ⟨[],H,I,.nil,h⟩
def Jl(A2:Al X e te)(AS:F8 X es t)(hs:Aw (e::es) X.env=(false,BC e X.env)::Aw es X.env:=by rfl):F8 X (e::es) (aB te t):=by intro pos pins s σ H Q I h;rw[hs];show AU _ _ (spliced ((false,BC e X.env)::CW pos (Aw es X.env))) _ _ s;refine Wa (BS (A2 pins s σ H _ I h) λu s1⟨x,H1,As,A6,A_⟩=>?_);exact BS (AS pos pins s1 σ H1 _ As A_) λus s2⟨xs,Ab,Bu,AZ,B4⟩=>⟨x::xs,Ab,Bu,.cons A6 AZ,B4⟩
def eC(t:Et):TE:=λσ H Q=>t σ H λxs H1=>xs.length<=CH/\∀p,H1 p=none->Q (.ref p) (upd H1 p (.tup xs))
def r9(t:Et):TE:=λσ H Q=>t σ H λxs H1=>xs.length<=CH/\∀p,H1 p=none->Q (.ref p) (upd H1 p (.lst xs))
def p0{H7}(h:F8 X es t):Al X (.Tuple es H7 pos) (eC t):=by intro pins s σ H Q I Ac;refine wpAny_Tuple_spliced (BS (h pos pins s σ H _ I Ac) λus s1⟨xs,H1,As,r,z,q⟩=>⟨by rw[<-r.length];exact z,?_⟩);have hf:H1 s1.heap.objs.size=none:=As.BE.fresh (By _);refine⟨.ref s1.heap.objs.size,upd H1 s1.heap.objs.size (.tup xs),As.laid (t':=s1.toks) (λb u e=>Cr _ e) (By _) ?_,rfl,q _ hf⟩;exact⟨z,us,r,⟨_,F6 _ rfl,rfl,_,rfl⟩⟩
def abE(h:F8 X es t):Al X (.List es pos) (r9 t):=by intro pins s σ H Q I Ac;refine wpAny_List_spliced (BS (h pos pins s σ H _ I Ac) λus s1⟨xs,H1,As,r,z,q⟩=>⟨by rw[<-r.length];exact z,?_⟩);have hf:H1 s1.heap.objs.size=none:=As.BE.fresh (By _);refine⟨.ref s1.heap.objs.size,upd H1 s1.heap.objs.size (.lst xs),As.laid (t':=s1.toks) (λb u e=>Cr _ e) (By _) ?_,rfl,q _ hf⟩;exact⟨z,us,0,r,F6 _ rfl⟩
end
abbrev IE:=List V->A4->Br->CS->Prop
abbrev KS:=List Env->A4->AD->CS->U->AD->Prop
structure Qk(P:BR)(w:BA)(K:AT)(AA:Str->Option U)(base:Aq)(A:Bk)(outer:List Env)(s:AD)(H:A4):Prop where
 frames:A.frames=some outer
 mod:Mod K AA base
 bs:∀b o,base.get? b=some o->s.heap.get? b=some o/\H b=none
 OV:base.objs.size<=s.heap.objs.size
 J_:s.heap.FunFrames base outer
 QX:∀b∈EP outer,H b=none
 BE:Dx P w H s.heap
 bare:MP s.gens
def gX(outer:List Env)(P:BR)(w:BA)(H:A4)(s:AD)(Q:Br)(u:U)(s':AD):Prop:=
 ∃v H',s'.os=s.os/\MP s'.gens/\Fd (EP outer) [] H H' s.heap s'.heap/\Dx P w H' s'.heap/\RelV v u/\Q v H'
def t8(CX:KS)(outer:List Env)(P:BR)(w:BA)(H:A4)(s:AD)(Q:Br)(E:CS)(r:Result)(s':AD):Prop:=
 match r with
 |.ok (.ret u)=>gX outer P w H s Q u s'
 |.ok _=>False
 |.error e=>CX outer H s E e s'
structure Fu(P:BR)(w:BA)(K:AT)(AA:Str->Option U)(base:Aq)(CX:KS)(k:Nat)(f:Z)(fd:FH)(ps:List Str)(sp:IE):Prop where
 len:∀vs H Q E,sp vs H Q E->vs.length=ps.length
 run:∀(A:Bk)(outer:List Env)(s:AD)(H:A4)(args:Args)(us:List U)(vs:List V)(Q:Br)(E:CS),Bz k A->Qk P w K AA base A outer s H->BindsTo s fd args (ps.zip us)->Vals vs us->sp vs H Q E->
  Ld (Ai P w) A (.call (.ref f) args) (t8 CX outer P w H s Q E) s
def Fu.imp{P:BR}{w:BA}{K:AT}{AA:Str->Option U}{base:Aq}{CX:KS}{k:Nat}{f:Z}{fd:FH}{ps:List Str}{sp pw:IE}(F:Fu P w K AA base CX k f fd ps sp)(h:∀vs H Q E,pw vs H Q E->sp vs H Q E):Fu P w K AA base CX k f fd ps pw:=
 ⟨λvs H Q E q=>F.len vs H Q E (h _ _ _ _ q),λA outer s H args us vs Q E AS he J Az hs=>F.run A outer s H args us vs Q E AS he J Az (h _ _ _ _ hs)⟩
def Qk.make{P:BR}{w:BA}{K:AT}{AA:Str->Option U}{base:Aq}{A:Bk}{outer:List Env}{s:AD}{H:A4}(e:Qk P w K AA base A outer s H)(C:Z)(us:List U)(kw:List (Str×U)) :
  Qk P w K AA base (A.under (.builtin "type.__call__" ⟨.ref C::us,kw⟩)) outer s H:=⟨by first|exact e.frames|(simpa[g7,Code.envs,gI,pushEnvs]using e.frames),e.mod,e.bs,e.OV,e.J_,e.QX,e.BE,e.bare⟩
section
variable{X:AX}{pins:List (Z×Obj)}{σ :St}{H:A4}{s s':AD}
def Inv.jC(I:Inv X pins σ H s):Qk X.prog X.w X.K X.AA X.base X.A X.stack s H:=
 ⟨I.ok.frames,I.ok.mod,I.bs,Eg I.ok.OV I.Kx,I.stack,I.dz,I.BE,I.bare⟩
def Inv.after{Q:Br}{u:U}(I:Inv X pins σ H s)(h:gX X.stack X.prog X.w H s Q u s'):Fs X pins σ Q u s':=by obtain⟨v,H',os,bare,un,BE,r,q⟩:=h;obtain⟨B1,g,d,t,bg⟩:=s';obtain rfl:bg=s.os:=os;exact⟨v,H',I.call (h':=B1) (g':=g) (d':=d) (t':=t) (ch:=[]) un BE bare (λb z=>absurd z (by simp)),r,q⟩
end
def W6(sp:IE)(G_:List V)(E:CS)(t:Et):TE:=λσ H Q=>t σ H λvs H1=>sp (vs++G_) H1 Q E
def aC(C:Z)(m:Str)(sp:IE)(G_:List V)(E:CS)(Bo:TE)(t:Et):TE:=λσ H Q=>Bo σ H λx H1=>∃a Av Am,x=.ref a/\H1 a=some (.ins C Av Am)/\Am.lookup m=none/\
 t σ H1 λvs Ab=>sp (x::(vs++G_)) Ab Q E
def rA(C:Z)(sp:IE)(G_:List V)(E:CS)(t:Et):TE:=λσ H Q=>t σ H λvs H1=>∀x Av,H1 x=none->H1 Av=none->Av≠x->
 sp (.ref x::(vs++G_)) (upd (upd H1 Av (.own x)) x (.ins C Av [])) (λv Ab=>v=.non/\Q (.ref x) Ab) E
def Binds(K:AT)(fd:FH)(ps:List Str)(ds:List U):Prop:=
 ∀(s:AD)(us:List U),K.In s.heap->(us++ds).length=ps.length->BindsTo s fd ⟨us,[]⟩ (ps.zip (us++ds))
def Binds.all{K:AT}{fd:FH}{ps:List Str}(h:∀us:List U,us.length=ps.length->Rw fd ⟨us,[]⟩=pure (ps.zip us)):Binds K fd ps []:=λs us _ AF=>by rw[K0]at AF |-;exact .of_eq (h us AF)
def Passes(CX:KS)(X:AX)(E:CS):Prop:=∀(pins:List (Z×Obj))(σ :St)(H:A4)(s:AD)(e:U)(s':AD),Inv X pins σ H s->CX X.stack H s E e s'->X.xe e s'
section
variable{X:AX}{CX:KS}{k:Nat}{f C:Z}{fd:FH}{ps:List Str}{sp:IE}{G_:List V}{ds:List U}{E:CS}{x m:Str}{p pos apos:Pos}{e o:AN}{es:List AN}{Bo:TE}{t:Et}
def di{pins:List (Z×Obj)}{σ :St}{H:A4}{s:AD}{Q:Br}{us:List U}{vs:List V}(F:Fu X.prog X.w X.K X.AA X.base CX k f fd ps sp)(AS:Bz k X.A)(J:Binds X.K fd ps ds)(hd:Vals G_ ds)(A5:Passes CX X E)(I:Inv X pins σ H s)(r:Vals vs us)(h:sp (vs++G_) H Q E):AU (Ai X.prog X.w) X.A (call (.ref f) us) (Fs X pins σ Q) X.xe s:=by
 have AZ:Vals (vs++G_) (us++ds):=r.append hd;have AF:(us++ds).length=ps.length:=by rw[<-AZ.length];exact F.len _ _ _ _ h
 refine wpAny_call (Rs (F.run X.A X.stack s H ⟨us,[]⟩ (us++ds) (vs++G_) Q E AS I.jC (J s us I.Fh AF) AZ h) λr s' Ac=>?_);cases r with
 |error e=>exact A5 pins σ H s e s' I Ac
 |ok GK=>
  cases GK with
  |ret u=>exact I.after Ac
  |next=>exact K7 Ac
  |brk=>exact K7 Ac
  |cont=>exact K7 Ac
def SU(F:Fu X.prog X.w X.K X.AA X.base CX k f fd ps sp)(AS:Bz k X.A)(AQ:DK X x)(hm:X.AA x=some (.ref f))(AG:IM X.K (.ref f)=true)(J:Binds X.K fd ps ds)(hd:Vals G_ ds)(A5:Passes CX X E)(A2:F8 X (e::es) t)(FD:(x==("__debug__" :Str))=false:=by decide)(he:Aw (e::es) X.env=(false,BC e X.env)::Aw es X.env:=by rfl)(D0:(CW pos (Aw es X.env)).any (·.1)=false:=by rfl) :
  Al X (.Call (.Name x p) (e::es) [] pos) (W6 sp G_ E t):=by
 intro pins s σ H Q I h;refine Tn (YN I AQ hm ?_ FD);refine fp (h₀:=X.base) I.ok.mod.Ou AG (BS (A2 pos pins s σ H _ I h) λus s1⟨vs,H1,As,r,q⟩=>⟨As.Fh,?_⟩) he D0;exact di F AS J hd A5 As r q
def abG {pl:Sem Bool} (he:Al X o Bo) (c:Ju X.K C) (hm:Meth X.K C m f) (F:Fu X.prog X.w X.K X.AA X.base CX k f fd ps sp) (AS:Bz k X.A) (J:Binds X.K fd ps ds) (hd:Vals G_ ds) (A5:Passes CX X E) (A2:F8 X (e::es) t)(GO:Aw (e::es) X.env=(false,BC e X.env)::Aw es X.env:=by rfl) (D0:(CW pos (Aw es X.env)).any (·.1)=false:=by rfl)(BF:BC (.Call (.Attribute o m apos) (e::es) [] pos) X.env=(do
    let Dj <-BC o X.env
    NN apos.atName
    let(f,first) <-JW [Dj] (Q5 Dj m pl)
    Rv pos f first (CW pos (Aw (e::es) X.env)) (He pos (Hd [] X.env))):=by rfl) :
  Al X (.Call (.Attribute o m apos) (e::es) [] pos) (aC C m sp G_ E Bo t):=by
 intro pins s σ H Q I h;refine fV (pl:=pl) (BS (he pins s σ H _ I h) λu s1⟨x,H1,As,BB,a,Av,Am,ex,Aa,l,q⟩=>?_) BF;subst ex;obtain rfl:u=D7 a:=BB;refine aj As Aa c hm l ?_;refine fp (first:=[.ref a]) (h₀:=X.base) I.ok.mod.Ou hm.AJ (BS (A2 pos pins s1 σ H1 _ As q) λus s2⟨vs,Ab,Bu,r,B4⟩=>⟨Bu.Fh,?_⟩) GO D0;exact di (us:=.ref a::us) (vs:=.ref a::vs) F AS J hd A5 Bu (.cons rfl r) B4
def abH {pl:Sem Bool} (he:Al X o Bo) (c:Ju X.K C) (hm:Meth X.K C m f) (F:Fu X.prog X.w X.K X.AA X.base CX k f fd ps sp) (AS:Bz k X.A) (J:Binds X.K fd ps ds) (hd:Vals G_ ds) (A5:Passes CX X E)(BF:BC (.Call (.Attribute o m apos) [] [] pos) X.env=(do
    let Dj <-BC o X.env
    NN apos.atName
    let(f,first) <-JW [Dj] (Q5 Dj m pl)
    Rv pos f first (CW pos (Aw [] X.env)) (He pos (Hd [] X.env))):=by rfl) :
  Al X (.Call (.Attribute o m apos) [] [] pos) (aC C m sp G_ E Bo aD):=by
 intro pins s σ H Q I h;refine fV (pl:=pl) (BS (he pins s σ H _ I h) λu s1⟨x,H1,As,BB,a,Av,Am,ex,Aa,l,q⟩=>?_) BF;subst ex;obtain rfl:u=D7 a:=BB;refine aj As Aa c hm l ?_;exact PySem.W.callWith_K0 (first:=[.ref a]) As.Fh hm.AJ (di (us:=[.ref a]) (vs:=[.ref a]) F AS J hd A5 As (.cons rfl .nil) q)
structure Y2(K:AT)(C f:Z):Prop where
 makes:Wk K C=true
 init:Hz K (.ref C) "__init__"=some (some (.ref f))
 fn:Tx K (.ref f)=true
 AJ:IM K (.ref C)=true
def adu{pins:List (Z×Obj)}{σ :St}{H:A4}{s:AD}{Q:Br}{us:List U}{vs:List V}(M:Y2 X.K C f)(F:Fu X.prog X.w X.K X.AA X.base CX k f fd ps sp)(AS:Bz (k+1) X.A)(J:Binds X.K fd ps ds)(hd:Vals G_ ds)(A5:Passes CX X E)(I:Inv X pins σ H s)(r:Vals vs us)(h:∀x Av,H x=none->H Av=none->Av≠x->sp (.ref x::(vs++G_)) (upd (upd H Av (.own x)) x (.ins C Av [])) (λv Ab=>v=.non/\Q (.ref x) Ab) E) :
  AU (Ai X.prog X.w) X.A (call (.ref C) us) (Fs X pins σ Q) X.xe s:=by
 have Ac:=h (s.heap.objs.size+1) s.heap.objs.size (I.BE.fresh (ON _)) (I.BE.fresh (By _)) (ET (Wp _));have Bu:=Inv.made (C:=C) I;have AZ:Vals (V.ref (s.heap.objs.size+1)::(vs++G_)) (D7 (s.heap.objs.size+1)::(us++ds)):=.cons rfl (r.append hd);have AF:(D7 (s.heap.objs.size+1)::us++ds).length=ps.length:=by have e:=AZ.length;rw[F.len _ _ _ _ Ac]at e;exact e.symm
 refine wpAny_call (aao (f:=f) I.Fh M.makes M.init (beq_iff_eq.mp M.fn) (Rs (F.run _ X.stack _ _ ⟨D7 (s.heap.objs.size+1)::us,[]⟩ (D7 (s.heap.objs.size+1)::(us++ds)) _ _ E (AS.make C us [])
  (Bu.jC.make C us []) (J _ (D7 (s.heap.objs.size+1)::us) Bu.Fh AF) AZ Ac) λr s' PU=>?_))
 cases r with
 |error e=>exact A5 pins σ _ _ e s' Bu PU
 |ok GK=>
  cases GK with
  |ret u=>obtain⟨v,H',Dp,BZ,ev,Cn⟩:=Bu.after PU;subst ev;exact⟨BZ,⟨V.ref (s.heap.objs.size+1),H',Dp,rfl,Cn⟩⟩
  |next=>exact K7 PU
  |brk=>exact K7 PU
  |cont=>exact K7 PU
def abF(M:Y2 X.K C f)(F:Fu X.prog X.w X.K X.AA X.base CX k f fd ps sp)(AS:Bz (k+1) X.A)(AQ:DK X x)(hm:X.AA x=some (.ref C))(J:Binds X.K fd ps ds)(hd:Vals G_ ds)(A5:Passes CX X E)(A2:F8 X (e::es) t)(FD:(x==("__debug__" :Str))=false:=by decide)(he:Aw (e::es) X.env=(false,BC e X.env)::Aw es X.env:=by rfl)(D0:(CW pos (Aw es X.env)).any (·.1)=false:=by rfl) :
  Al X (.Call (.Name x p) (e::es) [] pos) (rA C sp G_ E t):=by
 intro pins s σ H Q I h;refine Tn (YN I AQ hm ?_ FD);refine fp (h₀:=X.base) I.ok.mod.Ou M.AJ (BS (A2 pos pins s σ H _ I h) λus s1⟨vs,H1,As,r,q⟩=>⟨As.Fh,?_⟩) he D0;exact adu M F AS J hd A5 As r q
end
section
variable{X:AX}{CX:KS}{k:Nat}{f C:Z}{fd:FH}{ps ks:List Str}{sp:IE}{E:CS}{x m:Str}{p pos apos ak5:Pos}{e o:AN}{es:List AN}{ak6:List FS}{te Bo:TE}{t BW:Et}{nm:Option Str}
variable{g:List U->List U->List U}{ajj:List V->List V->List V}
end
structure C2(N P:List Str)(sc:DT):Prop where
 kind:sc.kind=.function
 co:sc.isCoroutine=false
 gen:sc.isGenerator=false
 Cb:N.Nodup
 pre:N.take P.length=P
 par:∀x∈P,sc.names.lookup x=some .local\/sc.names.lookup x=some .cell
 aah:∀y∈sc.names,y.2≠.free
theorem jh{Iq:Str->Option K9}{x:Str}:∀{binds:List (Str×U)}{m:Str->Option U},(∀v,(x,v)∉binds)->bindL Iq binds m x=m x
 |[],_,_=>rfl
 |(n,v)::r,m,h=>by
  unfold bindL;rw[jh λw hw=>h w (E3 _ hw)]
  split
  .have:x≠n:=by rintro rfl;exact h v GT
   simp[this]
  .rfl
theorem jf{Iq:Str->Option K9}{x:Str}:∀{binds:List (Str×U)}{m:Str->Option U},(∀v,(x,v)∉binds)->bindC Iq binds m x=m x
 |[],_,_=>rfl
 |(n,v)::r,m,h=>by
  unfold bindC;rw[jf λw hw=>h w (E3 _ hw)]
  split
  .rfl
  .have:x≠n:=by rintro rfl;exact h v GT
   simp[this]
theorem jg{Iq:Str->Option K9}{x:Str}{v:U}:∀{P:List Str}{vs:List U}{i:Nat}{m:Str->Option U},P.Nodup->P[i]?=some x->vs[i]?=some v->Iq x=some .local->
  bindL Iq (P.zip vs) m x=some v
 |[],_,_,_,_,h,_,_=>by simp at h
 |_::_,[],_,_,_,_,h,_=>by simp at h
 |p::P,w::vs,0,m,Cb,h1,h2,AG=>by simp at h1 h2;subst h1;subst h2;show bindL Iq ((p,w)::P.zip vs) m p=_;unfold bindL;rw[jh λv Az=>(List.nodup_cons.mp Cb).1 (Wl Az).1,if_pos AG];simp
 |p::P,w::vs,i+1,m,Cb,h1,h2,AG=>by show bindL Iq ((p,w)::P.zip vs) m x=_;unfold bindL;exact jg (i:=i) (List.nodup_cons.mp Cb).2 (by simpa using h1) (by simpa using h2) AG
theorem je{Iq:Str->Option K9}{x:Str}{v:U}:∀{P:List Str}{vs:List U}{i:Nat}{m:Str->Option U},P.Nodup->P[i]?=some x->vs[i]?=some v->Iq x≠some .local->
  bindC Iq (P.zip vs) m x=some v
 |[],_,_,_,_,h,_,_=>by simp at h
 |_::_,[],_,_,_,_,h,_=>by simp at h
 |p::P,w::vs,0,m,Cb,h1,h2,AG=>by simp at h1 h2;subst h1;subst h2;show bindC Iq ((p,w)::P.zip vs) m p=_;unfold bindC;rw[jf λv Az=>(List.nodup_cons.mp Cb).1 (Wl Az).1,if_neg AG];simp
 |p::P,w::vs,i+1,m,Cb,h1,h2,AG=>by show bindC Iq ((p,w)::P.zip vs) m x=_;unfold bindC;exact je (i:=i) (List.nodup_cons.mp Cb).2 (by simpa using h1) (by simpa using h2) AG
noncomputable def start(N:List Str)(vs:List V):St:=vs.map some++Q1 (N.length-vs.length) none
noncomputable def EE(CX:KS)(P:BR)(w:BA)(K:AT)(AA:Str->Option U)(base:Aq)(N:List Str)(qual:Str)(scope:DT)(f:Z)(cd:U)(A:Bk)(outer:List Env)(s:AD)(H:A4)(E:CS):AX where
 prog:=P
 w:=w
 K:=K
 AA:=AA
 base:=base
 A:=A.deeper (NO qual scope s.heap.objs.size f cd)
 N:=N
 FF:=s
 Ql:=H
 env:=NO qual scope s.heap.objs.size f cd
 outer:=outer
 stack:=NO qual scope s.heap.objs.size f cd::outer
 ex:=[]
 calm:=true
 fn:=λ_=>true
 D4:=[]
 xe:=λe s'=>AU (Ai P w) (A.deeper (NO qual scope s.heap.objs.size f cd)) (leaving (NO qual scope s.heap.objs.size f cd) e) (λ_ JL=>CX outer H s E e JL) (λBi JL=>CX outer H s E Bi JL) s'
def ha{sc:DT}{n:Nat}{x:Str}(h:sc.names.lookup x=some .cell):∃c,(HA n sc.names []).lookup x=some c:=by have q:=rj sc.names n [] (.inl h);exact Option.isSome_iff_exists.mp q
def y2{CX:KS}{P:BR}{w:BA}{K:AT}{AA:Str->Option U}{base:Aq}{N ps:List Str}{qual:Str}{scope:DT}{f:Z}{cd:U}{A:Bk}{outer:List Env}{s s1:AD}{H:A4}{E:CS}{us:List U}{vs:List V}(S:C2 N ps scope)(hd:A.handled=none)(CF:Qk P w K AA base A outer s H)(AF:vs.length=ps.length)(r:Vals vs us)(x:InCallC s s.heap.objs.size (bindL (NO qual scope s.heap.objs.size f cd).kindOf (ps.zip us) λ_=>none) (HA (s.heap.objs.size+1) scope.names []) (bindC (NO qual scope s.heap.objs.size f cd).kindOf (ps.zip us) λ_=>none) s1) :
  Inv (EE CX P w K AA base N qual scope f cd A outer s H E) [] (start N vs) H s1:=by
 have D0:ps.length<=N.length:=by have:=congrArg Q3 S.pre;rw[NH]at this;lia
 obtain⟨h1,BW,rfl,AG⟩:=x.done;have WO:∀b:Z,b∉(EE CX P w K AA base N qual scope f cd A outer s H E).ex:=λb z=>absurd (show b∈([]:List Z)from z) (by simp)
 refine⟨⟨CF.mod,S.kind,rfl,rfl,By _,λy z c h1 h2=>?_,λy Ao=>?_,λy c _ h=>?_,λ_=>hd,Around.frames_deeper CF.frames,.inr ⟨rfl,rfl⟩,λb z=>absurd z (WO b),CF.bs,CF.OV,λb _ _=>WO b,λb z=>absurd z (WO b),CF.J_,CF.QX⟩,
  rfl,CF.bare,Fd.kept AG,⟨_,x.toInCall.ns,λi y v h1 h2 h3=>?_⟩,λy c h=>⟨_,x.cell y c h⟩,CF.BE.fresh (By _),λy c h=>?_,λp AW=>absurd (show p∈([]:List (Z×Obj))from AW) (by simp),CF.BE.kept AG,?_⟩
 .exact name_of_addr x.apart (MI h1) (MI h2)
 .have Ao:scope.names.lookup y=some .cell\/scope.names.lookup y=some .free:=Ao;rcases Ao with Ao|Ao
  .exact ha Ao
  .exact absurd rfl (S.aah _ (MI Ao))
 .exact MK (x.above y c (MI h))
 .have A0:i<vs.length:=by
    unfold start at h2;by_cases A0:i<vs.length
    .exact A0
    .rw[GU (by simpa using A0)]at h2;rw[NE]at h2
     split at h2<;>cases h2
  have A2:vs[i]?=some v:=by
   unfold start at h2;rw[Gl (by simpa using A0),EH]at h2;cases e:vs[i]? with
   |none=>rw[e]at h2;cases h2
   |some a=>rw[e]at h2;cases h2;rfl
  obtain⟨u,B0,BZ⟩:=r.get A2;have AW:ps[i]?=some y:=by rw[<-S.pre,fG (by lia)];exact h1
  have oK:ps.Nodup:=by rw[<-S.pre];exact S.Cb.sublist (List.take_sublist _ _)
  refine⟨u,BZ,?_⟩;rcases S.par y (EU AW)with k|k
  .exact .inl ⟨k,jg oK AW B0 k⟩
  .obtain⟨c,e⟩:=ha (n:=s.heap.objs.size+1) k;refine .inr ⟨.inl k,c,e,?_⟩;have q:=x.cell y c e;rw[je oK AW B0 (by show scope.names.lookup y≠_;rw[k];decide)]at q;exact q
 .exact CF.BE.fresh (MK (x.above y c (MI h)))
 .unfold start;show _=N.length;rw[K5,Eh,Re];lia
def lj {CX:KS} {P:BR} {w:BA} {K:AT} {AA:Str->Option U} {base:Aq} {k:Nat} {f:Z} {name qual:Str} {params:Arguments} {body:List BG} {scope:DT} {Xg Cu doc pm BV C_ F3:U} {an DN:Option Z}{Lu:Array (Option U)} {N ps:List Str} {sp:IE} (lk:K.lookup f=some ⟨F3,DN,.func (Im name qual params body scope Xg Cu doc pm an BV C_),Lu⟩) (Dh:OJ K BV qual=true) (S:C2 N ps scope)(len:∀vs H Q E,sp vs H Q E->vs.length=ps.length)(av:∀(A:Bk)(outer:List Env)(s:AD)(H:A4)(vs:List V)(Q:Br)(E:CS),Bz k (A.deeper (NO qual scope s.heap.objs.size f BV))->sp vs H Q E->
    ∃t,FU (EE CX P w K AA base N qual scope f BV A outer s H E) body t/\t { BK:=λ_ H'=>Q .non H',DB:=Q } (start N vs) H) :
  Fu P w K AA base CX (k+1) f (Im name qual params body scope Xg Cu doc pm an BV C_) ps sp:=by
 refine⟨len,λA outer s H args us vs Q E AS CF J r PV=>?_⟩;have AF:=len _ _ _ _ PV;have MB:K.In s.heap:=CF.mod.Ou.keeps λb o e=>(CF.bs b o e).1;have lim:s.heap.NoLimit:=CF.mod.nolimit.keeps λb o e=>(CF.bs b o e).1;have v_:∀y∈ps.zip us,scope.names.lookup y.1=some .local\/(scope.names.lookup y.1=some .cell/\((HA (s.heap.objs.size+1) scope.names []).lookup y.1).isSome=true):=λ⟨n,v⟩ Ao=>by
  rcases S.par n (Wl Ao).1 with q|q
  .exact .inl q
  .exact .inr ⟨q,rj _ _ _ (.inl q)⟩
 refine codeAny_call_function AS.depth (MB _ _ lk) rfl S.co S.gen rfl (PySem.W.codeRec_of MB Dh) (J _ _ _ _ ?_);refine wpAny_newFunctionEnv_cells S.kind v_ λenv he s1 x=>?_;subst he;refine⟨lim.keeps x.toInCall.keep,codeAny_func ?_⟩;obtain⟨t,BF,Ac⟩:=av A outer s H vs Q E (AS.deeper _) PV;have I:Inv (EE CX P w K AA base N qual scope f BV A outer s H E) [] (start N vs) H s1:=y2 S AS.hd CF AF r x;refine H9 (BF [] s1 (start N vs) H _ I Ac) (λGK s' hs=>?_) λe s' hs=>hs;have fin:∀{σ' :St}{H':A4}{v:V}{u:U},Inv (EE CX P w K AA base N qual scope f BV A outer s H E) [] σ' H' s'->RelV v u->Q v H'->gX outer P w H s Q u s':=
  λ{σ' H' v u} Bp BZ q=>⟨v,H',Bp.os,Bp.bare,Bp.base,Bp.BE,BZ,q⟩
 cases GK with
 |ret u=>obtain⟨v,σ',H',Bp,BZ,q⟩:=hs;exact fin Bp BZ q
 |next=>obtain⟨σ',H',Bp,q⟩:=hs;exact fin (v:=V.non) (u:=JV) Bp rfl q
 |brk=>obtain⟨_,_,_,q⟩:=hs;exact K7 q
 |cont=>obtain⟨_,_,_,q⟩:=hs;exact K7 q
section
variable{X:AX}{x:Str}{p pos:Pos}{e:AN}{es:List AN}{t:Et}{id T:String}{r:List V->A4->Br->Prop}
def aA(r:List V->A4->Br->Prop)(t:Et):TE:=λσ H Q=>t σ H λvs H1=>r vs H1 Q
def Vo(AB:G9 X (.builtin id) r)(AQ:DK X x)(hm:X.AA x=none)(Az:Kv x=some (.builtin id))(A2:F8 X (e::es) t)(AR:x≠"__name__":=by decide)(FD:(x==("__debug__" :Str))=false:=by decide)(he:Aw (e::es) X.env=(false,BC e X.env)::Aw es X.env:=by rfl)(D0:(CW pos (Aw es X.env)).any (·.1)=false:=by rfl):Al X (.Call (.Name x p) (e::es) [] pos) (aA r t):=by intro pins s σ H Q I h;refine Tn (Ov I AQ hm Az ?_ AR FD);exact PyProof.Rows.callWith_builtin1 (BS (A2 pos pins s σ H _ I h) λus s1⟨vs,H1,As,A6,A_⟩=>AB pins s1 σ H1 vs us Q As A6 A_) he D0
def ZT(AB:G9 X (.type T) r)(AQ:DK X x)(hm:X.AA x=none)(Az:Kv x=some (.type T))(A2:F8 X (e::es) t)(AR:x≠"__name__":=by decide)(FD:(x==("__debug__" :Str))=false:=by decide)(he:Aw (e::es) X.env=(false,BC e X.env)::Aw es X.env:=by rfl)(D0:(CW pos (Aw es X.env)).any (·.1)=false:=by rfl):Al X (.Call (.Name x p) (e::es) [] pos) (aA r t):=by intro pins s σ H Q I h;refine Tn (Ov I AQ hm Az ?_ AR FD);exact RT (BS (A2 pos pins s σ H _ I h) λus s1⟨vs,H1,As,A6,A_⟩=>AB pins s1 σ H1 vs us Q As A6 A_) he D0
end
end CE
namespace DL
open PySem PyProof.Rows
section
open PySem.SeqAt
open PySem.AutoSeq1 (wpAny_loadPart')
open PySem.MeetsSeq PySem.MeetsSeq2 PySem.MeetsSeq3
end
section
variable{prog:BR}{w:BA}{A:Bk}{E:U->AD->Prop}{s:AD}
def tp{t b:Z}{vs ws:List U}{Q:U->AD->Prop}(BF:IsTup s.heap t vs.toArray)(J:IsTup s.heap b ws.toArray)(Az:vs≠[])(h1:ws=[]->Q (.ref t) s)(h2:ws≠[]->Q (.ref s.heap.objs.size) { s with heap:=s.heap.push { cls:=.type "tuple",data:=.seq (vs++ws).toArray } })(hsz:vs.length+ws.length<=CH):AU (Ai prog w) A (Ip .Add (.ref t) (.ref b)) Q E s:=by
 obtain⟨⟨cls,dd,data,BY⟩,AE,AB,n,hd⟩:=id BF;obtain⟨⟨tx,T4,data2,LR⟩,Ka,Gm,C0,hd2⟩:=id J;simp only at AB hd Gm hd2;subst AB hd Gm hd2;have e:vs.toArray++ws.toArray=(vs++ws).toArray:=by simp
 by_cases hw:ws=[]
 .exact concat_meets ⟨_,AE,rfl⟩ ⟨_,Ka,rfl⟩ fj seq_tuple_add fU fC (fH _ _)
    (tuple_addW1 t b vs.toArray ws.toArray n C0 dd T4 BY LR (by simpa using Az) (by simp[hw])) ⟨AE,Ka,h1 hw⟩
 .refine concat_meets ⟨_,AE,rfl⟩ ⟨_,Ka,rfl⟩ fj seq_tuple_add fU fC (fH _ _)
    (tuple_addW2 t b vs.toArray ws.toArray n C0 dd T4 BY LR (by simpa using Az) (by simpa using hw) (by rw[DJ,DJ];exact hsz)) ⟨AE,Ka,?_⟩
  rw[e];exact h2 hw
noncomputable def CC(n d:Nat):Option Int->Nat
 |none=>d
 |some v=>if v<0 then(v+(n:Int)).toNat else min v.toNat n
def oS(n d:Nat):CC n d none=d:=rfl
def cx(n d k:Nat):CC n d (some (k:Int))=min k n:=by show(if(k:Int)<0 then((k:Int)+(n:Int)).toNat else min (k:Int).toNat n)=min k n;rw[if_neg (by lia),RV]
def cw(n d:Nat)(hd:d<=n)(o:Option Int):CC n d o<=n:=by
 cases o with
 |none=>exact hd
 |some v=>
  show(if v<0 then(v+(n:Int)).toNat else min v.toNat n)<=n;by_cases Az:v<0
  .rw[if_pos Az];lia
  .rw[if_neg Az];exact Nat.min_le_right _ _
def jp(v:Int)(n d:Nat):(if v<0 then max (v+(n:Int)) 0 else min v (n:Int))=((CC n d (some v):Nat):Int):=by
 show(if v<0 then max (v+(n:Int)) 0 else min v (n:Int))=(((if v<0 then(v+(n:Int)).toNat else min v.toNat n):Nat):Int);by_cases Az:v<0
 .simp only[if_pos Az];lia
 .simp only[if_neg Az];lia
def sk(lo A0:Option Int)(n:Nat):fD lo A0 1 (n:Int)=(((CC n 0 lo:Nat):Int),((CC n n A0:Nat):Int)):=by
 have h1:¬((1:Int)<0):=by lia
 unfold fD;simp only[h1,if_false];refine Rx ?_ ?_
 .cases lo with
  |none=>rfl
  |some v=>exact jp v n 0
 .cases A0 with
  |none=>rfl
  |some v=>exact jp v n n
def acx(i j:Nat):WZ (i:Int) (j:Int) 1=j-i:=by
 unfold WZ;have h1:(1:Int)>0:=by lia
 simp only[h1,if_true,Int.ediv_one]
 split<;>lia
def pn{v:U}{o:Option Int}{Q:Option Int->AD->Prop}(p:NP v o)(h:Q o s):AU (Ai prog w) A (Builtin.Slice.slicePartIndex v) Q E s:=by
 cases p with
 |none=>exact slicePart_none h
 |int i t=>exact slicePart_int h
def af0{BY:Z}{H5 H6:U}{lo A0:Option Int}{n:Nat}{Q:Int×Int×Nat->AD->Prop}(hs:s.heap.IsSliceOf BY H5 H6 .none)(pl:NP H5 lo)(pu:NP H6 A0)(h:Q (((CC n 0 lo:Nat):Int),1,CC n n A0-CC n 0 lo) s):AU (Ai prog w) A (s6 (.ref BY) (pure (n:Int))) Q E s:=by obtain⟨os,Q8,lK,Z1⟩:=id hs;unfold s6 Builtin.Slice.sliceFields;refine AH (AH (Ij Q8 Z1 (x:=H5) rfl (AH (Ij Q8 Z1 (x:=H6) rfl (AH (Ij Q8 Z1 (x:=.none) rfl (An ?_)))))));refine AH (slicePart_none ?_);show AU _ _ (if((1:Int)==0)=true then _ else _) _ _ s;rw[if_neg (by decide)];refine AH (pn pl (AH (pn pu (AH (An ?_)))));show AU _ _ (match fD lo A0 1 (n:Int)with|(lo,A0)=>pure (lo,(1:Int),WZ lo A0 1)) _ _ s;rw[sk lo A0 n];show AU _ _ (pure (((CC n 0 lo:Nat):Int),(1:Int),WZ ((CC n 0 lo:Nat):Int) ((CC n n A0:Nat):Int) 1)) _ _ s;rw[acx];exact An h
def acu(xs:Array U)(i k:Nat):((EI k).filterMap λ(m:Nat)=>xs[((i:Int)+(m:Int)*1).toNat]?).toArray=((xs.toList.drop i).take k).toArray:=by
 have e:(λ(m:Nat)=>xs[((i:Int)+(m:Int)*1).toNat]?)=λm=>xs[i+m]?:=by
  funext m
  have:((i:Int)+(m:Int)*1).toNat=i+m:=by lia
  rw[this]
 rw[e];have:=pick_run xs i k;rw[List.filterMap_map]at this;have A7:((λx=>xs[x]?)∘λx=>i+x)=λm=>xs[i+m]?:=rfl;rw[A7]at this;rw[this]
def wL{t BY:Z}{items:Array U}{H5 H6:U}{lo A0:Option Int}{Q:U->AD->Prop}(BF:IsTup s.heap t items)(hs:s.heap.IsSliceOf BY H5 H6 .none)(pl:NP H5 lo)(pu:NP H6 A0)(hw:¬(CC items.size 0 lo=0/\CC items.size items.size A0=items.size))(h:Q (.ref s.heap.objs.size) { s with heap:=s.heap.push { cls:=.type "tuple",data:=.seq ((items.toList.drop (CC items.size 0 lo)).take (CC items.size items.size A0-CC items.size 0 lo)).toArray } })(hsz:items.size<=CH):AU (Ai prog w) A (OP (.ref t) (.ref BY)) Q E s:=by
 have YW:sizeOk (.seq ((items.toList.drop (CC items.size 0 lo)).take (CC items.size items.size A0-CC items.size 0 lo)).toArray):=by show((items.toList.drop (CC items.size 0 lo)).take (CC items.size items.size A0-CC items.size 0 lo)).toArray.size<=CH;rw[DJ,NH,Tg,NC];lia
 have BO:CC items.size items.size A0<=items.size:=cw _ _ (By _) A0;obtain⟨os,Q8,lK,Z1⟩:=id hs;have vh:s.TypeIs (.ref BY) "slice":=⟨os,Q8,lK⟩;unfold OP
 try with_reducible refine K3 ?_
 first|refine AH (An ?_)|skip
 refine AH (wpAny_sequenceKey BF.typeIs (by decide) ?_)
 refine AH (Pk (name:=NJ "__getitem__") BF.typeIs ri
  (JT ri BF.typeIs entry_tuple_getitem ?_ (args_tuple_getitem _ _)))
 show AU _ _ (rc (.ref t)>>=_) _ _ s;refine AH (tupleItemsOf_ BF ?_);refine AH (Rt vh ?_);rw[if_pos (by decide)];refine AH (af0 hs pl pu ?_);have xH:¬((((CC items.size 0 lo:Nat):Int)==0&&(1:Int)==1&&(CC items.size items.size A0-CC items.size 0 lo)==items.size)=true):=by intro q;rw[FR,FR]at q;have A_:((CC items.size 0 lo:Nat):Int)=0:=eq_of_beq q.1.1;have B4:CC items.size items.size A0-CC items.size 0 lo=items.size:=eq_of_beq q.2;exact hw ⟨by lia,by lia⟩
 show AU _ _ (if(((CC items.size 0 lo:Nat):Int)==0&&(1:Int)==1&&(CC items.size items.size A0-CC items.size 0 lo)==items.size)=true then _ else _) _ _ s;rw[if_neg xH,acu]
 first
  |exact AH (m:=WX _) (Ks (An ⟨_,rfl,An h⟩) YW)
  |exact AH (m:=WX _) (Ks (AH (An (An ⟨_,rfl,An h⟩))) YW)
  |exact AH (AH (m:=WX _) (Ks (An (An ⟨_,rfl,An h⟩)) YW))
  |exact AH (AH (m:=WX _) (Ks (An ⟨_,rfl,An h⟩) YW))
end
end DL
namespace CE
open PySem PySem.Spec PyProof.Rows
abbrev Bq:=St->A4->(Option Int->A4->Prop)->Prop
def UG(X:AX)(e:Option AN)(t:Bq):Prop:=
 ∀(pins:List (Z×Obj))(s:AD)(σ :St)(H:A4)(Q:Option Int->A4->Prop),Inv X pins σ H s->t σ H Q->
  AU (Ai X.prog X.w) X.A (evalPart e X.env) (λu s'=>∃o H',Inv X pins σ H' s'/\NP u o/\Q o H') X.xe s
def aej:Bq:=λ_ H Q=>Q none H
def aek(t:TE):Bq:=λσ H Q=>t σ H λx H1=>∃i,x=.int i/\Q (some i) H1
section
variable{X:AX}{e:AN}{te:TE}{lo A0:Option AN}{FY aF:Bq}{pos CB:Pos}
def ad1:UG X none aej:=by intro pins s σ H Q I h;rw[evalPart_none];exact An ⟨none,H,I,.none,h⟩
def ad2(h:Al X e te):UG X (some e) (aek te):=by intro pins s σ H Q I hw;rw[evalPart_some];refine BS (h pins s σ H _ I hw) λu s1⟨x,H1,As,A6,A_⟩=>?_;obtain⟨i,rfl,q⟩:=A_;obtain⟨t,rfl⟩:=A6;exact⟨some i,H1,As,.int i t,q⟩
def Of(X:AX)(r:V->Option Int->Option Int->A4->Br->Prop):Prop:=
 ∀(pins:List (Z×Obj))(s:AD)(σ :St)(H:A4)(x:V)(v H5 H6:U)(lo A0:Option Int)(BY:Z)(Q:Br),Inv X pins σ H s->RelV x v->s.heap.IsSliceOf BY H5 H6 .none->NP H5 lo->NP H6 A0->r x lo A0 H Q->
  ∃T id,typeLookup (.type T) "__getitem__"=pure (some (.builtin id))/\s.TypeIs v T/\AU (Ai X.prog X.w) X.A (OP v (.ref BY)) (Fs X pins σ Q) X.xe s
def Of.or{r B2:V->Option Int->Option Int->A4->Br->Prop}(h:Of X r)(h':Of X B2):Of X (λx lo A0 H Q=>r x lo A0 H Q\/B2 x lo A0 H Q):=by
 intro pins s σ H x v H5 H6 lo A0 BY Q I BB hs pl pu q;rcases q with q|q
 .exact h pins s σ H x v H5 H6 lo A0 BY Q I BB hs pl pu q
 .exact h' pins s σ H x v H5 H6 lo A0 BY Q I BB hs pl pu q
def eA(r:V->Option Int->Option Int->A4->Br->Prop)(te:TE)(FY aF:Bq):TE:=λσ H Q=>te σ H λx H1=>FY σ H1 λl Ab=>aF σ Ab λu CI=>r x l u CI Q
def nx{r:V->Option Int->Option Int->A4->Br->Prop}(AS:Of X r)(he:Al X e te)(AF:UG X lo FY)(B0:UG X A0 aF):Al X (.Subscript e (.Slice lo A0 none CB) pos) (eA r te FY aF):=by intro pins s σ H Q I h;refine Subscript_ (BS (he pins s σ H _ I h) λv s1⟨x,H1,As,A6,A_⟩=>?_);refine wpAny_Slice (BS (AF pins s1 σ H1 _ As A_) λH5 s2⟨l,Ab,Bu,pl,B4⟩=>BS (B0 pins s2 σ Ab _ Bu B4) λH6 s3⟨u,CI,Dp,pu,Cn⟩=>?_);rw[evalPart_none];refine An ?_;have LW:Inv X pins σ CI { s3 with heap:=s3.heap.push { cls:=.type "slice",data:=.fields #[H5,H6,.none] } }:=Dp.kept (t':=s3.toks) λb ob q=>Cr _ q;obtain⟨T,id,Do,BF,AQ⟩:=AS pins { s3 with heap:=s3.heap.push { cls:=.type "slice",data:=.fields #[H5,H6,.none] } } σ CI x v H5 H6 l u s3.heap.objs.size Q LW A6 (Heap.IsSliceOf.new ..) pl pu Cn;show AU (Ai X.prog X.w) X.A (subscriptTail e (.Slice lo A0 none CB) v (.ref s3.heap.objs.size)) (Fs X pins σ Q) X.xe { s3 with heap:=s3.heap.push { cls:=.type "slice",data:=.fields #[H5,H6,.none] } };exact tail_any (ops:=[.ref s3.heap.objs.size,v]) BF Do AQ (by with_unfolding_all rfl)
def OW(xs:List V)(lo A0:Option Int):List V:=(xs.drop (DL.CC xs.length 0 lo)).take (DL.CC xs.length xs.length A0-DL.CC xs.length 0 lo)
def jE(xs:List V)(lo A0:Option Int):(OW xs lo A0).length<=xs.length:=by unfold OW;rw[NH,Tg];lia
def og(K:AT):V->Option Int->Option Int->A4->Br->Prop:=λx lo A0 H Q=>∃a xs,x=.ref a/\CA K H a xs/\
 ¬(DL.CC xs.length 0 lo=0/\DL.CC xs.length xs.length A0=xs.length)/\∀p,H p=none->Q (.ref p) (upd H p (.tup (OW xs lo A0)))
def aez:Of X (og X.K):=by
 intro pins s σ H x v H5 H6 lo A0 BY Q I BB hs pl pu h;obtain⟨a,xs,rfl,A5,hw,q⟩:=h;cases BB;obtain⟨its,r,BF,Aj⟩:=I.tuple A5;have hlen:its.toArray.size=xs.length:=by rw[DJ];exact r.length.symm
 refine⟨"tuple",_,PyProof.Rows.slot_tuple_getitem.lookup,BF.typeIs,?_⟩;refine DL.wL BF hs pl pu (by rw[hlen];exact hw) ?_ (by rw[hlen];exact Aj);rw[hlen];refine⟨.ref s.heap.objs.size,_,I.laid (t':=s.toks) (o:=.tup (OW xs lo A0)) (λb ob q=>Cr _ q) (By _) ?_,rfl,q _ (I.BE.fresh (By _))⟩;exact⟨Eg (jE xs lo A0) Aj,_,(r.drop (DL.CC xs.length 0 lo)).take (DL.CC xs.length xs.length A0-DL.CC xs.length 0 lo),IsTup.new _ _⟩
def pP(K:AT):EO:=λx y H Q=>∃a b xs ys,x=.ref a/\y=.ref b/\CA K H a xs/\CA K H b ys/\xs≠[]/\xs.length+ys.length<=CH/\
 (ys=[]->Q (.ref a) H)/\(ys≠[]->∀p,H p=none->Q (.ref p) (upd H p (.tup (xs++ys))))
def Vals.cB{xs:List V}{us:List U}(r:Vals xs us):us=[]↔xs=[]:=by
 cases r with
 |nil=>simp
 |cons _ _=>simp
def ac1:Ds X (Ip .Add) (pP X.K):=by intro pins s σ H x y v u Q I BB Bm h;obtain⟨a,b,xs,ys,rfl,rfl,A2,J,A5,Aj,A_,B4⟩:=h;cases BB;cases Bm;obtain⟨its,A6,DW,_⟩:=I.tuple A2;obtain⟨Gn,AZ,CB,_⟩:=I.tuple J;refine DL.tp DW CB (λz=>A5 (A6.cB.mp z)) (λz=>⟨.ref a,H,I,rfl,A_ (AZ.cB.mp z)⟩) (λz=>?_) (by rw[<-A6.length,<-AZ.length];exact Aj);refine⟨.ref s.heap.objs.size,_,I.laid (t':=s.toks) (o:=.tup (xs++ys)) (λb ob q=>Cr _ q) (By _) ?_,rfl,B4 (λw=>z (AZ.cB.mpr w)) _ (I.BE.fresh (By _))⟩;exact⟨by rw[K5];exact Aj,_,A6.append AZ,IsTup.new _ _⟩
end
noncomputable def JC(n:Nat)(i:Int):Option Nat:=if 0<=i then(if i<n then some i.toNat else none)else if-(n:Int)<=i then some (i+n).toNat else none
def Fx{α:Type}(xs:List α)(i:Int):Option α:=(JC xs.length i).bind λj=>xs[j]?
def mS{n:Nat}{i:Int}{j:Nat}(h:JC n i=some j):Rz i n=some j/\j<n/\-(n:Int)<=i/\i<n:=by
 unfold JC at h;by_cases h0:0<=i
 .rw[if_pos h0]at h;by_cases h1:i<n
  .rw[if_pos h1]at h;have e:i.toNat=j:=Dz h;exact⟨by rw[seqIndex_of h0 h1,e],by lia,by lia,h1⟩
  .rw[if_neg h1]at h;cases h
 .rw[if_neg h0]at h;by_cases h1: -(n:Int)<=i
  .rw[if_pos h1]at h;have e:(i+n).toNat=j:=Dz h;exact⟨by rw[seqIndex_neg (by lia) h1,e],by lia,h1,by lia⟩
  .rw[if_neg h1]at h;cases h
def gU{α:Type}{xs:List α}{i:Int}{v:α}(h:Fx xs i=some v):∃j,Rz i xs.length=some j/\xs[j]?=some v/\j<xs.length/\-(xs.length:Int)<=i/\i<xs.length:=by
 unfold Fx at h;cases e:JC xs.length i with
 |none=>rw[e]at h;cases h
 |some j=>rw[e]at h;obtain⟨h1,h2,h3,h4⟩:=mS e;exact⟨j,h1,h,h2,h3,h4⟩
def UH(b:AN):Prop:=∀o i,XD b false o i=operate [o,i] (OP o i)
def N_(X:AX)(r:EO):Prop:=
 ∀(value slice:AN)(pins:List (Z×Obj))(s:AD)(σ :St)(H:A4)(x y:V)(v u:U)(Q:Br),Inv X pins σ H s->RelV x v->RelV y u->r x y H Q->
  XD slice false v u=operate [v,u] (OP v u)->AU (Ai X.prog X.w) X.A (subscriptTail value slice v u) (Fs X pins σ Q) X.xe s
def UB(X:AX)(id:String)(r:V->List V->A4->Br->Prop):Prop:=
 ∀(pins:List (Z×Obj))(s:AD)(σ :St)(H:A4)(x:V)(xs:List V)(v:U)(us:List U)(Q:Br),Inv X pins σ H s->RelV x v->Vals xs us->r x xs H Q->
  AU (Ai X.prog X.w) X.A (call (.builtin id) (v::us)) (Fs X pins σ Q) X.xe s
section
variable{X:AX}{a b:AN}{Bo tb:TE}{pos:Pos}
def N_.or{r B2:EO}(h:N_ X r)(h':N_ X B2):N_ X (λx y H Q=>r x y H Q\/B2 x y H Q):=by
 intro value slice pins s σ H x y v u Q I BB Bm q hs;rcases q with q|q
 .exact h value slice pins s σ H x y v u Q I BB Bm q hs
 .exact h' value slice pins s σ H x y v u Q I BB Bm q hs
def Vp{r:EO}(AS:N_ X r)(A2:Al X a Bo)(J:Al X b tb)(hs:UH b):Al X (.Subscript a b pos) (Mq r Bo tb):=by intro pins s σ H Q I h;exact Subscript_ (hV A2 J I h λv u s2 x y Ab Bu BB Bm q=>AS a b pins s2 σ Ab x y v u Q Bu BB Bm q (hs _ _))
def oZ(K:AT):EO:=λx y H Q=>∃p xs i v,x=.ref p/\y=.int i/\Bb K H p xs/\Fx xs i=some v/\Q v H
def oa(K:AT):EO:=λx y H Q=>∃p xs i v,x=.ref p/\y=.int i/\CA K H p xs/\Fx xs i=some v/\Q v H
def o_:EO:=λx y H Q=>∃z i c,x=.str z/\y=.int i/\z.length<=CH/\Fx z.cps.toList i=some c/\Q (.str ⟨#[c]⟩) H
def z9:N_ X (oZ X.K):=by
 intro value slice pins s σ H x y v u Q I BB Bm h hs;obtain⟨p,xs,i,z,rfl,rfl,Ac,he,q⟩:=h;cases BB;obtain⟨t,rfl⟩:=Bm;obtain⟨its,r,pl,Aj⟩:=I.list Ac;obtain⟨j,h1,h2,h3,h4,h5⟩:=gU he;obtain⟨w,Hn,JK⟩:=r.get h2;have AF:=r.length;have AR:=TQ;have fin:Fs X pins σ Q w s:=⟨z,H,I,JK,q⟩;by_cases h0:0<=i
 .have BO:i.toNat=j:=by
    rw[seqIndex_of h0 h5]at h1;exact Dz h1
  exact item_listR pl.isList h0 (by lia) (by rw[BO];simpa using Hn) fin hs
 .have BO:(i+(its.toArray.size:Int)).toNat=j:=by
    rw[seqIndex_neg (by lia) h4]at h1;rw[DJ,<-AF];exact Dz h1
  exact subscriptTail_builtinR (x:=w) pl.isList.typeIs slot_list_getitem.lookup
   (wpAny_getItem_list_neg (Q:=λr s'=>r=w/\Fs X pins σ Q r s') pl.isList (by lia) (by rw[DJ]<;>lia) (by lia) (by rw[BO];simpa using Hn) ⟨rfl,fin⟩) hs
def zC:N_ X (oa X.K):=by
 intro value slice pins s σ H x y v u Q I BB Bm h hs;obtain⟨p,xs,i,z,rfl,rfl,Ac,he,q⟩:=h;cases BB;obtain⟨t,rfl⟩:=Bm;obtain⟨its,r,pl,Aj⟩:=I.tuple Ac;obtain⟨j,h1,h2,h3,h4,h5⟩:=gU he;obtain⟨w,Hn,JK⟩:=r.get h2;have AF:=r.length;have AR:=TQ;have fin:Fs X pins σ Q w s:=⟨z,H,I,JK,q⟩
 exact subscriptTail_builtinR (x:=w) pl.typeIs slot_tuple_getitem.lookup
  (getItem_tuple (j:=j) (Q:=λr s'=>r=w/\Fs X pins σ Q r s') pl (by lia) (by lia) (by rw[DJ,<-AF];exact h1) (by simpa using Hn) ⟨rfl,fin⟩) hs
def zB:N_ X o_:=by
 intro value slice pins s σ H x y v u Q I BB Bm h hs;obtain⟨z,i,c,rfl,rfl,Aj,he,q⟩:=h;obtain⟨t,rfl⟩:=BB;obtain⟨t',rfl⟩:=Bm;obtain⟨j,h1,h2,h3,h4,h5⟩:=gU he;have AF:z.cps.toList.length=z.length:=by simp[Str.length]
 rw[AF]at h1 h4 h5;have AR:=TQ;exact tail_any (typeIs_str s z t) slot_str_getitem.lookup (getItem_str (c:=c) (by have A1:decide (i< -(2^63:Int))=false:=decide_eq_false (by lia);have A7:decide (i≥2^63)=false:=decide_eq_false (by lia);rw[A1,A7,Bool.or_false]) (by rw[h1];simpa using h2) ⟨.str ⟨#[c]⟩,H,I.tok _,⟨_,rfl⟩,q⟩) hs
def Vw(K:AT):EO:=λx y H Q=>oZ K x y H Q\/oa K x y H Q\/o_ x y H Q
def Us:N_ X (Vw X.K):=z9.or (zC.or zB)
def aaq(its:List U)(n j:Nat)(u:U):I1 (·.setIfInBounds j u) { cls:=.type "list",data:=.seq its.toArray n }={ cls:=.type "list",data:=.seq (its.set j u).toArray n }:=by simp[I1]
theorem Inv.lst{pins:List (Z×Obj)}{σ :St}{H:A4}{s:AD}{p:Z}{xs:List V}(I:Inv X pins σ H s)(h:H p=some (.lst xs)) :
  ∃(its:List U)(n:Nat),Vals xs its/\s.heap.get? p=some { cls:=.type "list",data:=.seq its.toArray n }/\xs.length<=CH:=by
 obtain⟨z,its,n,r,e⟩:=I.BE p _ h;exact⟨its,n,r,e,z⟩
def Inv.zH{pins:List (Z×Obj)}{σ :St}{H:A4}{s:AD}{p:Z}{xs ys:List V}{its its':List U}{n JF:Nat}{f:Obj->Obj}(I:Inv X pins σ H s)(h:H p=some (.lst xs))(AE:s.heap.get? p=some { cls:=.type "list",data:=.seq its.toArray n })(hf:f { cls:=.type "list",data:=.seq its.toArray n }={ cls:=.type "list",data:=.seq its'.toArray JF })(r:Vals ys its')(Aj:ys.length<=CH)(t:Nat) :
  Inv X pins σ (upd H p (.lst ys)) { s with heap:=s.heap.update p f,toks:=t }:=by
 have e:(s.heap.update p f).get? p=some { cls:=.type "list",data:=.seq its'.toArray JF }:=by rw[Pf f AE (by rw[hf]<;>rfl),hf]
 refine I.write (x:=p) (e:=p) (by rw[h];trivial) (.inl rfl) (λb u J q=>(Wh _ _ (KB J)).trans q) ⟨_,e⟩ ?_;exact⟨Aj,its',JF,r,e⟩
def oc:V->V->V->A4->(A4->Prop)->Prop:=λo i v H Q=>∃p xs k j,o=.ref p/\i=.int k/\H p=some (.lst xs)/\JC xs.length k=some j/\Q (upd H p (.lst (xs.set j v)))
def set_list:iL X oc:=by
 intro pins s σ H o i v Dj GP u Q I HI acK BZ h;obtain⟨p,xs,k,j,rfl,rfl,AW,BO,q⟩:=h;cases HI;obtain⟨t,rfl⟩:=acK;obtain⟨its,n,r,AE,Aj⟩:=I.lst AW;obtain⟨h1,h2,h3,h4⟩:=mS BO;have AF:=r.length;have AR:=TQ;have KU:Inv X pins σ (upd H p (.lst (xs.set j v))) { s with heap:=s.heap.update p (I1 (·.setIfInBounds j u)) }:=
  I.zH AW AE (aaq its n j u) (r.set BZ j) (by rw[List.length_set];exact Aj) s.toks
 by_cases h0:0<=k
 .have AG:k.toNat=j:=by
    rw[seqIndex_of h0 h4]at h1;exact Dz h1
  exact PySem.W.ki_setAt AE h0 (by lia) (by rw[DJ,<-AF];exact h4) (by rw[AG];exact⟨_,KU,q⟩)
 .have AG:(k+(its.toArray.size:Int)).toNat=j:=by
    rw[seqIndex_neg (by lia) h3]at h1;rw[DJ,<-AF];exact Dz h1
  exact PySem.W.ki_setBack AE (by lia) (by rw[DJ,<-AF];exact h3) (by lia) (by rw[AG];exact⟨_,KU,q⟩)
def af2(lo A0:Option Int)(n:Nat):(Q4 lo A0 none n).1=((DL.CC n 0 lo:Nat):Int)/\(Q4 lo A0 none n).2.1=((DL.CC n n A0:Nat):Int)/\(Q4 lo A0 none n).2.2=1:=by
 refine⟨?_,?_,rfl⟩
 .cases lo with
  |none=>simp[Q4,DL.CC]
  |some i=>
   simp only[Q4,DL.CC,fk,show(1:Int)>0 by decide,if_true];by_cases h:i<0
   .simp only[h,if_true]<;>lia
   .simp only[h,if_false]<;>lia
 .cases A0 with
  |none=>simp[Q4,DL.CC]
  |some i=>
   simp only[Q4,DL.CC,fk,show(1:Int)>0 by decide,if_true];by_cases h:i<0
   .simp only[h,if_true]<;>lia
   .simp only[h,if_false]<;>lia
def af1(its:List U)(lo A0:Option Int):slicePick its.toArray lo A0 none=((its.drop (DL.CC its.length 0 lo)).take (DL.CC its.length its.length A0-DL.CC its.length 0 lo)).toArray:=by obtain⟨h1,h2,h3⟩:=af2 lo A0 its.toArray.size;unfold slicePick;rw[h1,h2,h3];simp only[sliceRange_one,pick_run,DJ]<;>rfl
def od(K:AT):V->Option Int->Option Int->A4->Br->Prop:=λx lo A0 H Q=>∃a xs,x=.ref a/\Bb K H a xs/\∀p,H p=none->Q (.ref p) (upd H p (.lst (OW xs lo A0)))
def aex:Of X (od X.K):=by intro pins s σ H x v H5 H6 lo A0 BY Q I BB hs pl pu h;obtain⟨a,xs,rfl,A5,q⟩:=h;cases BB;obtain⟨its,r,BF,Aj⟩:=I.list A5;have hlen:=r.length;refine⟨"list",_,slot_list_getitem.lookup,BF.isList.typeIs,?_⟩;refine wpAny_getItem_list_slice BF.isList hs pl pu .none (by simp) ?_ (by rw[DJ]<;>lia);rw[af1,<-hlen];refine⟨.ref s.heap.objs.size,_,I.laid (t':=s.toks) (o:=.lst (OW xs lo A0)) (λb ob q=>Cr _ q) (By _) ?_,rfl,q _ (I.BE.fresh (By _))⟩;exact⟨Eg (jE xs lo A0) Aj,_,0,(r.drop (DL.CC xs.length 0 lo)).take (DL.CC xs.length xs.length A0-DL.CC xs.length 0 lo),F6 _ rfl⟩
def G9.or{f:U}{r B2:List V->A4->Br->Prop}(h:G9 X f r)(h':G9 X f B2):G9 X f (λxs H Q=>r xs H Q\/B2 xs H Q):=by
 intro pins s σ H xs us Q I rs q;rcases q with q|q
 .exact h pins s σ H xs us Q I rs q
 .exact h' pins s σ H xs us Q I rs q
def tf:G9 X (.type "list") (λxs H Q=>∃p ys,xs=[.ref p]/\(Bb X.K H p ys\/CA X.K H p ys)/\∀l,H l=none->Q (.ref l) (upd H l (.lst ys))):=by
 intro pins s σ H xs us Q I r h;obtain⟨p,ys,rfl,Ac,q⟩:=h;obtain⟨u,rfl,BB⟩:=vals1 r;cases BB
 have fin:∀(its:List U),Vals ys its->ys.length<=CH->∀(h':Aq)(E1:Nat),(∀b BM,s.heap.get? b=some BM->h'.get? b=some BM)->
   h'.get? s.heap.objs.size=some { cls:=.type "list",dict:=none,data:=.seq its.toArray E1,slots:= #[] }->Fs X pins σ Q (.ref s.heap.objs.size) { s with heap:=h' }:=λits B2 Aj h' E1 AJ e=>
  ⟨.ref s.heap.objs.size,_,I.laid (t':=s.toks) AJ (By _) (show E5 X.prog X.w _ h' _ (.lst ys)from⟨Aj,its,E1,B2,e⟩),rfl,q _ (I.BE.fresh (By _))⟩
 rcases Ac with Ac|Ac
 .obtain⟨its,B2,pl,Aj⟩:=I.list Ac;have hlen:=B2.length;obtain⟨o,AE,AB,n,hd⟩:=pl.isList;exact call_list_seq p (.inl rfl) AE AB hd (λh' E1 AJ e=>fin its B2 Aj h' E1 AJ e) (by simp only[DJ]<;>lia)
 .obtain⟨its,B2,pl,Aj⟩:=I.tuple Ac;have hlen:=B2.length;obtain⟨o,AE,AB,n,hd⟩:=pl;exact call_list_seq p (.inr rfl) AE AB hd (λh' E1 AJ e=>fin its B2 Aj h' E1 AJ e) (by simp only[DJ]<;>lia)
def tl:G9 X (.type "tuple") (λxs H Q=>∃p ys,xs=[.ref p]/\((Bb X.K H p ys/\∀l,H l=none->Q (.ref l) (upd H l (.tup ys)))\/(CA X.K H p ys/\Q (.ref p) H))):=by
 intro pins s σ H xs us Q I r h;obtain⟨p,ys,rfl,h⟩:=h;obtain⟨u,rfl,BB⟩:=vals1 r;cases BB;rcases h with⟨Ac,q⟩|⟨Ac,q⟩
 .obtain⟨its,B2,pl,Aj⟩:=I.list Ac;have hlen:=B2.length;refine call_tuple_list pl.isList (λh' AJ=>?_) (by simp only[DJ]<;>lia);have As:Inv X pins σ H { s with heap:=h' }:=I.kept (t':=s.toks) AJ;have Bu:Inv X pins σ (upd H h'.objs.size (.tup ys)) { s with heap:=h'.push { cls:=.type "tuple",data:=.seq its.toArray } }:=
   As.laid (t':=s.toks) (λb o e=>Cr _ e) (By _) (show E5 X.prog X.w _ _ _ (.tup ys)from⟨Aj,its,B2,IsTup.new _ _⟩)
  exact⟨.ref h'.objs.size,_,Bu,rfl,q _ (As.BE.fresh (By _))⟩
 .obtain⟨its,B2,pl,Aj⟩:=I.tuple Ac;exact call_tuple_same pl ⟨.ref p,H,I,rfl,q⟩
def qh(K:AT)(T:String)(x:V)(H:A4):Prop:=match x with
 |.str _=>T="str"
 |.int _=>T="int"
 |.ref p=>(T="list"/\∃xs,Bb K H p xs)\/(T="tuple"/\∃o,K.lookup p=some o/\o.cls=.type "tuple"/\o.dict=none)\/
     (T="dict"/\((∃Ay,H p=some (.DM Ay))\/∃Ay,H p=some (.BN Ay)))\/(T="set"/\∃S n,H p=some (.set S n))
 |_=>False
def ag8{pins:List (Z×Obj)}{σ :St}{H:A4}{s:AD}{T:String}{x:V}{v:U}(I:Inv X pins σ H s)(r:RelV x v)(ty:qh X.K T x H) :
  s.TypeIs v T/\∀a,v=.ref a->∃ob,s.heap.get? a=some ob/\ob.dict=none:=by
 cases x with
 |str z=>obtain⟨t,rfl⟩:=r;cases(show T="str" from ty);exact⟨typeIs_str s z t,λ_ e=>nomatch e⟩
 |int i=>obtain⟨t,rfl⟩:=r;cases(show T="int" from ty);exact⟨U4 s i t,λ_ e=>nomatch e⟩
 |ref p=>
  cases r;rcases ty with⟨rfl,xs,Ac⟩|⟨rfl,o,AG,AB,hd⟩|⟨rfl,AG⟩|⟨rfl,S,n,AG⟩
  .obtain⟨its,_,pl,_⟩:=I.list Ac;refine⟨pl.isList.typeIs,λa e=>?_⟩;cases e;obtain⟨o,n,e,c,hd,_⟩:=pl;exact⟨o,e,hd⟩
  .refine⟨⟨o,I.Fh p o AG,AB⟩,λa e=>?_⟩;cases e;exact⟨o,I.Fh _ o AG,hd⟩
  .have z:∃o,s.heap.get? p=some o/\o.ExactDict:=by
     rcases AG with⟨Ay,AG⟩|⟨Ay,AG⟩
     .obtain⟨_,_,_,_,o,_,_,e,ex,_⟩:=I.BE p _ AG;exact⟨o,e,ex⟩
     .obtain⟨_,_,_,_,o,_,_,e,ex,_⟩:=I.BE p _ AG;exact⟨o,e,ex⟩
   obtain⟨o,e,ex⟩:=z;refine⟨⟨o,e,ex.1⟩,λa A7=>?_⟩;cases A7;exact⟨o,e,ex.2.1⟩
  .obtain⟨o,_,_,_,e,ex,_⟩:=I.BE p _ AG;refine⟨⟨o,e,ex.1⟩,λa A7=>?_⟩;cases A7;exact⟨o,e,ex.2.1⟩
 |_=>exact K7 ty
def aef(K:AT)(T:String)(r:V->List V->A4->Br->Prop)(to:TE)(t:Et):TE:=λσ H Q=>to σ H λx H1=>qh K T x H1/\t σ H1 λxs Ab=>r x xs Ab Q
variable{o e:AN}{es:List AN}{to:TE}{t:Et}{name:Str}{apos Ba:Pos}{T id:String}{r:V->List V->A4->Br->Prop}
def PF (abT:PlainAttrs T) (slot:Slot T name id) (a_:typeOf (.builtin id)=pure (.type "method_descriptor")) (hm:UB X id r) (AE:Al X o to) (A2:F8 X (e::es) t)(HV:Ik o name X.env (BC o X.env)=BC o X.env:=by rfl)(HW:((CW Ba (Aw (e::es) X.env)).all (λx=>!x.1)&&(He Ba (Hd [] X.env)).all (λx=>x.1.isSome)
    &&decide ((e::es).length+([]:List FS).length+(if([]:List FS).isEmpty then 0 else 1)<30))=true:=by rfl)
  (HX:(apos.endLine==Ba.line)=true:=by rfl) (hs:Aw (e::es) X.env=(false,BC e X.env)::Aw es X.env:=by rfl) (HY:(CW Ba (Aw es X.env)).any (·.1)=false:=by rfl) :
  Al X (.Call (.Attribute o name apos) (e::es) [] Ba) (aef X.K T r to t):=by
 intro pins s σ H Q I h;refine wpAny_Call_method_late HV HW HX rfl (BS (AE pins s σ H _ I h) λv s1⟨x,H1,As,A6,ty,A_⟩=>?_);obtain⟨h1,h2⟩:=ag8 As A6 ty;refine⟨T,id,abT,slot,a_,h1,h2,?_⟩;have J7:=A2 Ba pins s1 σ H1 _ As A_;rw[hs]at J7 |-;refine rk (by show(false||(CW Ba (Aw es X.env)).any (·.1))=false;rw[HY]<;>rfl) (fO ?_);exact BS J7 λus s2⟨vs,Ab,Bu,AZ,B4⟩=>hm pins s2 σ Ab x vs v us Q Bu A6 AZ B4
end
def gj(X:AX)(id:String)(r:V->List V->A4->Br->Prop):Prop:=
 ∀(pins:List (Z×Obj))(s:AD)(σ :St)(H:A4)(x:V)(xs:List V)(v:U)(us:List U)(Q:Br),Inv X pins σ H s->RelV x v->Vals xs us->r x xs H Q->
  AU (Ai X.prog X.w) X.A (call (.builtin id) (v::us)) (Fs X pins σ Q) X.xe s
def Vals.one:∀{x:V}{us:List U},Vals [x] us->∃u,us=[u]/\RelV x u
 |_,_,.cons r .nil=>⟨_,rfl,r⟩
theorem Vals.eraseIdx:∀{xs:List V}{us:List U}(i:Nat),Vals xs us->Vals (xs.eraseIdx i) (us.eraseIdx i)
 |_,_,_,.nil=>.nil
 |_,_,0,.cons _ t=>t
 |_,_,i+1,.cons r t=>.cons r (Vals.eraseIdx i t)
theorem o1{α:Type}:∀(l:List α)(i:Nat),(l.eraseIdx i).length<=l.length
 |[],_=>By _
 |_::_,0=>ON _
 |_::r,i+1=>Nat.succ_le_succ (o1 r i)
section
variable{X:AX}{pins:List (Z×Obj)}{σ :St}{H:A4}{s:AD}{l b:Z}{xs ys zs:List V}
def Inv.bo{its its':List U}{n:Nat}{f:Array U->Array U}{t':Nat}(I:Inv X pins σ H s)(Jc:H l=some (.lst xs))(e:s.heap.get? l=some { cls:=.type "list",data:=.seq its.toArray n })(hf:f its.toArray=its'.toArray)(Az:Vals ys its')(Aj:ys.length<=CH) :
  Inv X pins σ (upd H l (.lst ys)) { s with heap:=s.heap.update l (I1 f),toks:=t' }:=by
 have q:=PySem.IsL.update e f;rw[hf]at q;refine I.write (x:=l) (e:=l) (by rw[Jc];exact trivial) (.inl rfl) (λCT u J B0=>(Wh s.heap (I1 f) (KB J)).trans B0) ⟨_,q⟩ ?_;exact⟨Aj,its',_,Az,q⟩
def Inv.o5{its:List U}{t':Nat}(I:Inv X pins σ H s)(Az:Vals ys its)(Aj:ys.length<=CH) :
  Inv X pins σ (upd H s.heap.objs.size (.lst ys)) { s with heap:=s.heap.push { cls:=.type "list",data:=.seq its.toArray },toks:=t' }:=
 I.laid (λ_ _ q=>Cr _ q) (By _) ⟨Aj,its,0,Az,F6 _ rfl⟩
theorem Inv.fresh(I:Inv X pins σ H s):H s.heap.objs.size=none:=I.BE.fresh (By _)
def Inv.Sc(I:Inv X pins σ H s)(Jc:H l=some (.lst xs)):xs.length<=CH/\∃(its:List U)(n:Nat),Vals xs its/\xs.length=its.length/\s.heap.get? l=some { cls:=.type "list",data:=.seq its.toArray n }:=by obtain⟨z,its,n,r,e⟩:=I.BE l _ Jc;exact⟨z,its,n,r,r.length,e⟩
def aaj{n:Nat}(h:n<=CH):fI n=false:=by unfold fI;exact decide_eq_false (by lia)
end
section
variable{X:AX}
def ac_:V->List V->A4->Br->Prop:=λx vs H Q=>∃l xs y,x=.ref l/\vs=[y]/\H l=some (.lst xs)/\xs.length<CH/\Q .non (upd H l (.lst (xs++[y])))
theorem Zw:gj X "list.append" ac_:=by intro pins s σ H x vs v us Q I BB BZ h;obtain⟨l,xs,y,rfl,rfl,Jc,Aj,q⟩:=h;cases BB;obtain⟨u,rfl,EJ⟩:=BZ.one;obtain⟨z,its,n,r,AF,e⟩:=I.Sc Jc;refine call_meets F.slot_list_append ⟨_,e,rfl⟩ F.entry_list_append (F.args_list_append_2 _ _) (PySem.list_append l its.toArray n u (by rw[DJ];lia)) ⟨e,?_⟩;refine⟨.non,_,I.bo (its':=its++[u]) Jc e (by simp) (r.append (.cons EJ .nil)) ?_,rfl,q⟩;rw[K5,sM];lia
def aca:V->List V->A4->Br->Prop:=λx vs H Q=>∃l b xs zs,x=.ref l/\vs=[.ref b]/\H l=some (.lst xs)/\H b=some (.lst zs)/\xs.length+zs.length<=CH/\Q .non (upd H l (.lst (xs++zs)))
theorem aax:gj X "list.extend" aca:=by
 intro pins s σ H x vs v us Q I BB BZ h;obtain⟨l,b,xs,zs,rfl,rfl,Jc,O7,Aj,q⟩:=h;cases BB;obtain⟨u,rfl,EJ⟩:=BZ.one;cases EJ;obtain⟨z,its,n,r,AF,e⟩:=I.Sc Jc;obtain⟨CP,Gn,C0,AZ,N7,A7⟩:=I.Sc O7;have hsz:its.toArray.size+Gn.toArray.size<=CH:=by rw[DJ,DJ];lia
 have x9:¬(!its.toArray.isEmpty&&fI (its.toArray.size+Gn.toArray.size))=true:=by rw[aaj hsz,gF];exact Hy
 refine call_meets F.slot_list_extend ⟨_,e,rfl⟩ F.entry_list_extend (F.args_list_extend_2 _ _)
  (AutoSeq1.list_extend_list_list_0 l its.toArray n b Gn.toArray C0 x9 (by rw[DJ];lia) (by lia)) ⟨e,A7,?_⟩
 refine⟨.non,_,I.bo (its':=its++Gn) Jc e (by simp) (r.append AZ) ?_,rfl,q⟩;rw[K5];lia
def acf:V->List V->A4->Br->Prop:=λx vs H Q=>∃l xs i k y,x=.ref l/\vs=[.int i]/\H l=some (.lst xs)/\-(2^63)<=i/\i<2^63/\Rz i xs.length=some k/\xs[k]?=some y/\Q y (upd H l (.lst (xs.eraseIdx k)))
theorem ab1:gj X "list.pop" acf:=by
 intro pins s σ H x vs v us Q I BB BZ h;obtain⟨l,xs,i,k,y,rfl,rfl,Jc,h1,h2,AG,Ao,q⟩:=h;cases BB;obtain⟨u,rfl,EJ⟩:=BZ.one;obtain⟨t,rfl⟩:=EJ;obtain⟨z,its,n,r,AF,e⟩:=I.Sc Jc;obtain⟨w,hw,JK⟩:=r.get Ao
 refine call_meets F.slot_list_pop ⟨_,e,rfl⟩ F.entry_list_pop (F.args_list_pop_2 _ _)
  (MeetsSeq.list_pop_at l its.toArray n i t k w (fitsIndex_both h1 h2) (by rw[DJ,<-AF];exact AG) (by rw[<-fW];exact hw) (by rw[DJ];lia)) ⟨e,?_⟩
 refine⟨y,_,I.bo (its':=its.eraseIdx k) Jc e ?_ (r.eraseIdx k) ?_,JK,q⟩
 .show its.toArray.eraseIdxIfInBounds k=(its.eraseIdx k).toArray;rw[List.eraseIdxIfInBounds_toArray]
 .have:=o1 xs k;lia
def pO:EO:=λx y H Q=>∃l b xs zs,x=.ref l/\y=.ref b/\H l=some (.lst xs)/\H b=some (.lst zs)/\xs.length+zs.length<=CH/\∀p,H p=none->Q (.ref p) (upd H p (.lst (xs++zs)))
def ni:Ds X (Ip .Add) pO:=by
 intro pins s σ H x y v u Q I BB Bm h;obtain⟨l,b,xs,zs,rfl,rfl,Jc,O7,Aj,q⟩:=h;cases BB;cases Bm;obtain⟨z,its,n,r,AF,e⟩:=I.Sc Jc;obtain⟨CP,Gn,C0,AZ,N7,A7⟩:=I.Sc O7;refine PySem.P.add_list e A7 ?_ (by rw[DJ,DJ];lia);have Aa:its.toArray++Gn.toArray=(its++Gn).toArray:=by simp
 rw[Aa];exact⟨.ref _,_,I.o5 (t':=s.toks) (r.append AZ) (by rw[K5];lia),rfl,q _ I.fresh⟩
end
section
variable{prog:BR}{w:BA}{A:Bk}{E:U->AD->Prop}{s:AD}
end
section
variable{X:AX}
end
section
variable{κ:Type}[DecidableEq κ]
noncomputable def Gj(Ay:List (κ×V))(k:κ):Option V:=(Ay.find? λDf=>decide (Df.1=k)).map (·.2)
def putK(Ay:List (κ×V))(k:κ)(v:V):List (κ×V):=
 if(Ay.any λDf=>decide (Df.1=k))=true then Ay.map (λDf=>if Df.1=k then(Df.1,v)else Df)else Ay++[(k,v)]
def dv{p:κ×V}{r:List (κ×V)}{k:κ}(e:p.1=k):Gj (p::r) k=some p.2:=by simp[Gj,Kp,e]
def du{p:κ×V}{r:List (κ×V)}{k:κ}(e:¬p.1=k):Gj (p::r) k=Gj r k:=by simp[Gj,Kp,e]
theorem dt(k:κ):∀Ay:List (κ×V),(Ay.any λDf=>decide (Df.1=k))=(Gj Ay k).isSome
 |[]=>rfl
 |p::r=>by
  rw[Px];by_cases e:p.1=k
  .simp only[dv e,decide_eq_true e,Bool.true_or,sI]
  .rw[du e,decide_eq_false e,Bool.false_or];exact dt k r
def o3(Ay:List (κ×V))(k:κ)(v:V):(putK Ay k v).length<=Ay.length+1:=by
 unfold putK
 split
 .rw[Eh];lia
 .rw[K5,FQ,Pn];lia
def acO{Ay:List (κ×V)}{k:κ}(v:V)(h:Gj Ay k=none):putK Ay k v=Ay++[(k,v)]:=by unfold putK;rw[dt,h];exact if_neg (by decide)
def Hi.Uq{o:Option V}{u:Option U}(r:Hi o u):o.isSome=u.isSome:=by
 cases o with
 |none=>cases u with
  |none=>rfl
  |some _=>exact(show False from r).elim
 |some _=>cases u with
  |none=>exact(show False from r).elim
  |some _=>rfl
theorem Hi.getD{o:Option V}{u:Option U}{d:V}{d':U}(r:Hi o u)(SY:RelV d d'):RelV (o.getD d) (u.getD d'):=by
 cases o with
 |none=>cases u with
  |none=>exact SY
  |some _=>exact(show False from r).elim
 |some _=>cases u with
  |none=>exact(show False from r).elim
  |some _=>exact r
def GW.val{Ay:List (κ×V)}{vs:List (κ×U)}(r:GW Ay vs)(k:κ):Hi (Gj Ay k) (Q7 vs k):=by
 unfold GW at r;induction r with
 |nil=>exact MM
 | @cons p q ps Gr h t Bg=>
   obtain⟨h1,h2⟩:=h;by_cases e:p.1=k
   .have Bi:q.1=k:=h1.symm.trans e;have b:Q7 (q::Gr) k=some q.2:=by simp[Q7,Kp,Bi]
    rw[dv e,b];exact h2
   .have Bi:¬q.1=k:=λz=>e (h1.trans z);have b:Q7 (q::Gr) k=Q7 Gr k:=by simp[Q7,Kp,Bi]
    rw[du e,b];exact Bg
theorem GW.any{Ay:List (κ×V)}{vs:List (κ×U)}(r:GW Ay vs)(k:κ):(Ay.any λDf=>decide (Df.1=k))=vs.any λDf=>decide (Df.1=k):=by
 unfold GW at r;induction r with
 |nil=>rfl
 |cons h t Bg=>rw[Px,Px,Bg,h.1]
def GW.da{Ay:List (κ×V)}{vs:List (κ×U)}(r:GW Ay vs)(k:κ){y:V}{u:U}(Bm:RelV y u) :
  GW (Ay.map λDf=>if Df.1=k then(Df.1,y)else Df) (vs.map λDf=>if Df.1=k then(Df.1,u)else Df):=by
 unfold GW at r |-;induction r with
 |nil=>exact .nil
 | @cons p q ps Gr h t Bg=>
   rw[DP,DP];refine .cons ?_ Bg;obtain⟨h1,h2⟩:=h;by_cases e:p.1=k
   .rw[if_pos e,if_pos (h1.symm.trans e)];exact⟨h1,Bm⟩
   .rw[if_neg e,if_neg (λz=>e (h1.trans z))];exact⟨h1,h2⟩
def GW.put{Ay:List (κ×V)}{vs:List (κ×U)}(r:GW Ay vs)(k:κ){y:V}{u:U}(Bm:RelV y u):GW (putK Ay k y) (stored vs k u):=by
 unfold putK stored;rw[r.any k];by_cases e:(vs.any λDf=>decide (Df.1=k))=true
 .rw[if_pos e,if_pos e];exact r.da k Bm
 .rw[if_neg e,if_neg e];exact Paired.snoc r ⟨rfl,Bm⟩
theorem GW.length{Ay:List (κ×V)}{vs:List (κ×U)}(r:GW Ay vs):Ay.length=vs.length:=Paired.length r
end
def QB{P:BR}{w:BA}{k:Key}{u:U}(r:RelV (Cu k) u):(GS P w).is k u=true:=by
 cases k with
 |inl i=>obtain⟨t,e⟩:=(show ∃t,u=XK i t from r);subst e;exact aau P w i t
 |inr x=>obtain⟨t,e⟩:=(show ∃t,u=XM x t from r);subst e;exact aav P w x t
theorem mQ{P:BR}{w:BA}:∀{ks:List Key}{us:List U},Vals (ks.map Cu) us->ItemsAre (GS P w) ks us
 |[],_,r=>by rw[OO]at r;cases r;exact .nil
 |k::ks,_,r=>by
  rw[DP]at r;cases r with
  |cons h t=>exact .cons (QB h) (mQ t)
abbrev KT(H:A4):List (C8×V)->List (C8×Z×U)->Prop:=Paired λp q=>p.1=q.1/\Jx H p.1 q.2.1/\RelV p.2 q.2.2
def KT.val{H:A4}{Ay:List (C8×V)}{xs:List (C8×Z×U)}(r:KT H Ay xs)(k:C8):Hi (Gj Ay k) ((atKey xs k).map (·.2)):=by
 induction r with
 |nil=>exact MM
 | @cons p q ps Gr h t Bg=>
   obtain⟨h1,_,h2⟩:=h;by_cases e:p.1=k
   .have Bi:q.1=k:=h1.symm.trans e;have b:atKey (q::Gr) k=some q.2:=by simp[atKey,Kp,Bi]
    rw[dv e,b];exact h2
   .have Bi:¬q.1=k:=λz=>e (h1.trans z);have b:atKey (q::Gr) k=atKey Gr k:=by simp[atKey,Kp,Bi]
    rw[du e,b];exact Bg
def KT.da{H:A4}{Ay:List (C8×V)}{xs:List (C8×Z×U)}(r:KT H Ay xs)(k:C8){y:V}{u:U}(Bm:RelV y u) :
  KT H (Ay.map λDf=>if Df.1=k then(Df.1,y)else Df) (xs.map (putAt k u)):=by
 induction r with
 |nil=>exact .nil
 | @cons p q ps Gr h t Bg=>
   rw[DP,DP];refine .cons ?_ Bg;obtain⟨h1,h2,h3⟩:=h;unfold putAt;by_cases e:p.1=k
   .rw[if_pos e,if_pos (h1.symm.trans e)];exact⟨h1,h2,Bm⟩
   .rw[if_neg e,if_neg (λz=>e (h1.trans z))];exact⟨h1,h2,h3⟩
def KT.put{H:A4}{Ay:List (C8×V)}{xs:List (C8×Z×U)}(r:KT H Ay xs)(k:C8){b:Z}{y:V}{u:U}(J:Jx H k b)(Bm:RelV y u) :
  KT H (putK Ay k y) (storedH xs k b u):=by
 have e:(Ay.any λDf=>decide (Df.1=k))=(atKey xs k).isSome:=by rw[dt,(r.val k).Uq,fb]
 unfold putK storedH;rw[e];by_cases q:(atKey xs k).isSome=true
 .rw[if_pos q,if_pos q];exact r.da k Bm
 .rw[if_neg q,if_neg q];exact Paired.snoc r ⟨rfl,J,Bm⟩
def KT.keeps{H H':A4}{Ay:List (C8×V)}{xs:List (C8×Z×U)}(r:KT H Ay xs)(BF:∀b ys,H b=some (.tup ys)->H' b=some (.tup ys)):KT H' Ay xs:=
 Paired.WH r λ_ _ z=>⟨z.1,z.2.1.mono BF,z.2.2⟩
section
variable{P:BR}{w:BA}{H:A4}{h:Aq}{a:Z}
def oo{u:D2}(ok:Dx P w H h)(e:FV H a u):E5 P w H h a u:=e.ok ok
def QP{Ay:List (Key×V)}(ok:Dx P w H h)(e:FV H a (.DM Ay)):Ay.length<=CH/\(a==Lc)=false/\∃vs,GW Ay vs/\h.DictOf (GS P w) a vs:=
 show E5 P w H h a (.DM Ay)from oo ok e
def vJ{Ay:List (Key×V)}(ok:Dx P w H h)(e:H a=some (.DM Ay)):Ay.length<=CH/\(a==Lc)=false/\∃vs,GW Ay vs/\h.DictOf (GS P w) a vs:=QP ok (.inl e)
def me{ks:List Key}(ok:Dx P w H h)(e:H a=some (.tup (ks.map Cu))):EW (GS P w) h ks a:=by obtain⟨_,its,r,o,h1,h2,n,h3⟩:=(show E5 P w H h a (.tup (ks.map Cu))from ok a _ e);exact⟨o,its.toArray,n,h1,h2,h3,by simpa using mQ r⟩
theorem cC(ok:Dx P w H h):∀{ks:C8}{vs:List V}{us:List U},Paired (NV H) ks vs->Vals vs us->IB P w h ks us
 |_,_,_,.nil,.nil=>.nil
 |.inl _::_,_,_,.cons e t,.cons r q=>.cons (k:=.inl _) (QB (P:=P) (w:=w) (by rw[<-show _=Cu _ from e];exact r)) (cC ok t q)
 |.inr _::_,_,_,.cons ⟨b,e,z⟩ t,.cons r q=>.cons (k:=.inr _) ⟨b,by subst e;exact r,me ok z⟩ (cC ok t q)
def TO{ks:C8}(ok:Dx P w H h)(e:Jx H ks a):(RG P w).is h ks a:=by obtain⟨vs,e,p⟩:=e;obtain⟨_,its,r,o,h1,h2,n,h3⟩:=(show E5 P w H h a (.tup vs)from ok a _ e);exact⟨o,its.toArray,n,h1,h2,h3,by simpa using cC ok p r⟩
def QQ{Ay:List (C8×V)}(ok:Dx P w H h)(e:FV H a (.BN Ay)):Ay.length<=CH/\(a==Lc)=false/\
  ∃xs,KT H Ay xs/\h.DictOfH (RG P w) a xs:=by
 obtain⟨z,y,xs,r,o,es,B3,h1,h2,h3,h4,h5⟩:=(show E5 P w H h a (.BN Ay)from oo ok e);refine⟨z,y,xs,r,o,es,B3,h1,h2,h3,h4,λx A5=>?_,h5⟩;have all:∀{l:List (C8×V)}{m:List (C8×Z×U)},KT H l m->∀x∈m,(RG P w).is h x.1 x.2.1:=by
  intro l m q;induction q with
  |nil=>intro x A5;exact nomatch A5
  | @cons p q ps Gr Ac t Bg=>
    intro x A5;rcases List.mem_cons.mp A5 with e|A5
    .subst e;exact TO ok (by rw[<-Ac.1];exact Ac.2.1)
    .exact Bg x A5
 exact all r x A5
def vO{Ay:List (C8×V)}(ok:Dx P w H h)(e:H a=some (.BN Ay)):Ay.length<=CH/\(a==Lc)=false/\
  ∃xs,KT H Ay xs/\h.DictOfH (RG P w) a xs:=QQ ok (.inl e)
end
def J3(H:A4)(a:Z)(y:V)(r:Option V):Prop:=
 (∃Ay k,FV H a (.DM Ay)/\y=Cu k/\r=Gj Ay k)\/∃Ay k b,FV H a (.BN Ay)/\y=.ref b/\Jx H k b/\r=Gj Ay k
def SD(H:A4)(a:Z)(y v:V)(H':A4):Prop:=
 (∃Ay k,H a=some (.DM Ay)/\y=Cu k/\Ay.length<CH/\H'=upd H a (.DM (putK Ay k v)))\/
 ∃Ay k b,H a=some (.BN Ay)/\y=.ref b/\Jx H k b/\Ay.length<CH/\H'=upd H a (.BN (putK Ay k v))
def J3.t{H:A4}{a b:Z}{Ay:List (C8×V)}{k:C8}(e:H a=some (.BN Ay))(B7:Jx H k b):J3 H a (.ref b) (Gj Ay k):=.inr ⟨Ay,k,b,.inl e,rfl,B7,rfl⟩
def SD.t{H:A4}{a b:Z}{Ay:List (C8×V)}{k:C8}{v:V}(e:H a=some (.BN Ay))(B7:Jx H k b)(AF:Ay.length<CH) :
  SD H a (.ref b) v (upd H a (.BN (putK Ay k v))):=.inr ⟨Ay,k,b,e,rfl,B7,AF,rfl⟩
section
variable{X:AX}{pins:List (Z×Obj)}{σ :St}{H:A4}{s:AD}{a:Z}{y v:V}{u r:U}{o:Option V}{A:Bk}{E:U->AD->Prop}
def Inv.big(I:Inv X pins σ H s):Lc<s.heap.objs.size:=by have h:DQ<s.heap.objs.size:=(I.mod.glob.keeps I.F9).lt;exact L_ (by decide) h
def tY{Q:U->AD->Prop}(B0:A.units+16<Ce)(I:Inv X pins σ H s)(g:J3 H a y (some v))(Bm:RelV y u)(h:∀FG s',Inv X pins σ H s'->RelV v FG->Q FG s') :
  AU (Ai X.prog X.w) A (OP (.ref a) u) Q E s:=by
 rcases g with⟨Ay,k,e,CV,l⟩|⟨Ay,k,b,e,CV,B7,l⟩
 .subst CV;obtain⟨z,hd,vs,rel,dd⟩:=QP I.BE e;obtain⟨FG,hw,JK⟩:=Hi.some_of (v:=v) (o:=Q7 vs k) (by rw[l];exact rel.val k);exact wpAny_getItem_of (QB Bm) dd.mapOf hw (h FG _ (I.tok _) JK)
 .subst CV;cases(show u=D7 b from Bm);obtain⟨z,hd,xs,rel,dd⟩:=QQ I.BE e;obtain⟨FG,hw,JK⟩:=Hi.some_of (v:=v) (o:=(atKey xs k).map (·.2)) (by rw[l];exact rel.val k);obtain⟨p,AW,xQ⟩:=Option.map_eq_some_iff.mp hw;refine wpAny_getItem_heap (nest_room B0) (TO I.BE B7) dd AW ?_;rw[xQ];exact h FG _ (I.tok _) JK
def tZ{Q:U->AD->Prop}(B0:A.units+16<Ce)(I:Inv X pins σ H s)(g:J3 H a y o)(Bm:RelV y u)(h:∀s',Inv X pins σ H s'->Q (.bool o.isSome) s') :
  AU (Ai X.prog X.w) A (Fk .In u (.ref a)) Q E s:=by
 rcases g with⟨Ay,k,e,CV,l⟩|⟨Ay,k,b,e,CV,B7,l⟩
 .subst CV;obtain⟨z,hd,vs,rel,dd⟩:=QP I.BE e;refine wpAny_in_of (QB Bm) hd dd.mapOf ?_;rw[<-(rel.val k).Uq,<-l];exact h _ (I.tok _)
 .subst CV;cases(show u=D7 b from Bm);obtain⟨z,hd,xs,rel,dd⟩:=QQ I.BE e;refine wpAny_in_heap (nest_room B0) (TO I.BE B7) hd dd ?_;have q:=(rel.val k).Uq;rw[fb]at q;rw[<-q,<-l];exact h _ (I.tok _)
def u4{Q:U->AD->Prop}(B0:A.units+16<Ce)(I:Inv X pins σ H s)(g:J3 H a y o)(Bm:RelV y u)(h:∀s',Inv X pins σ H s'->Q (.bool (!o.isSome)) s') :
  AU (Ai X.prog X.w) A (Fk .NotIn u (.ref a)) Q E s:=by
 rcases g with⟨Ay,k,e,CV,l⟩|⟨Ay,k,b,e,CV,B7,l⟩
 .subst CV;obtain⟨z,hd,vs,rel,dd⟩:=QP I.BE e;refine wpAny_notIn_of (QB Bm) hd dd.mapOf ?_;rw[<-(rel.val k).Uq,<-l];exact h _ (I.tok _)
 .subst CV;cases(show u=D7 b from Bm);obtain⟨z,hd,xs,rel,dd⟩:=QQ I.BE e;refine wpAny_notIn_heap (nest_room B0) (TO I.BE B7) hd dd ?_;have q:=(rel.val k).Uq;rw[fb]at q;rw[<-q,<-l];exact h _ (I.tok _)
def jL{h':Aq}{t':Nat}{ob:D2}(I:Inv X pins σ H s)(Jj:UC (H a))(hs:IL a s.heap h')(he:∃q,h'.get? a=some q)(new:E5 X.prog X.w (upd H a ob) h' a ob) :
  Inv X pins σ (upd H a ob) { s with heap:=h',toks:=t' }:=
 I.write (x:=a) (e:=a) Jj (.inl rfl) (λb q J z=>(hs.2 b J).trans z) he new
def vI{P:BR}{w:BA}{H':A4}{h':Aq}{Ay:List (Key×V)}{vs:List (Key×U)}(z:Ay.length<=CH)(hd:(a==Lc)=false)(rel:GW Ay vs)(dd:h'.DictOf (GS P w) a vs) :
  E5 P w H' h' a (.DM Ay):=⟨z,hd,vs,rel,dd⟩
def v9{H':A4}{Q:Unit->AD->Prop}(B0:A.units+16<Ce)(I:Inv X pins σ H s)(g:SD H a y v H')(Bm:RelV y u)(BZ:RelV v r)(h:∀s',Inv X pins σ H' s'->Q () s') :
  AU (Ai X.prog X.w) A (setItem (.ref a) u r) Q E s:=by
 rcases g with⟨Ay,k,e,CV,l,b9⟩|⟨Ay,k,b,e,CV,B7,l,b9⟩
 .subst CV b9;obtain⟨z,hd,vs,rel,dd⟩:=vJ I.BE e;have Aj:vs.length<=CH:=by rw[<-rel.length];exact z
  have AF:(putK Ay k v).length<=CH:=by have:=o3 Ay k v;lia
  refine wpAny_setItem_pairs (hsz:=Aj) (QB Bm) dd λh' H2 hs=>h _ ?_;have he:∃q,h'.get? a=some q:=let⟨q,_,_,Ac,_⟩:=H2;⟨q,Ac⟩
  exact jL I (by rw[e];exact MM) hs he (vI AF hd (rel.put k BZ) H2)
 .subst CV b9;cases(show u=D7 b from Bm);obtain⟨z,hd,xs,rel,dd⟩:=vO I.BE e;have Aj:xs.length<=CH:=by rw[<-Paired.length rel];exact z
  have AF:(putK Ay k v).length<=CH:=by have:=o3 Ay k v;lia
  refine wpAny_setItem_heap (hsz:=Aj) (nest_room B0) (TO I.BE B7) dd λh' H2 hs=>h _ ?_;obtain⟨q,es,B3,Ac,h2,h3,h4,_,h5⟩:=H2;refine jL I (by rw[e];exact MM) hs ⟨q,Ac⟩ ⟨AF,hd,_,(rel.put k B7 BZ).keeps λc ys ec=>?_,q,es,B3,Ac,h2,h3,h4,h5⟩;rw[Co (aaS ec e (λz=>nomatch z))];exact ec
end
section
variable{X:AX}{pins:List (Z×Obj)}{σ :St}{H:A4}{s:AD}{a:Z}{Ay:List (Key×V)}{k:Key}{u:U}{A:Bk}{E:U->AD->Prop}
end
def gk(i:AN):Prop:=∀Dj GP,XD i false Dj GP=operate [Dj,GP] (OP Dj GP)
def aea{prog:BR}{w:BA}{A:Bk}{E:U->AD->Prop}{s:AD}{env:Env}{value slice:AN}{pos:Pos}{T id:String}{Q:U->AD->Prop}(AF:typeLookup (.type T) "__getitem__"=pure (some (.builtin id)))(hs:gk slice)(h:AU (Ai prog w) A (BC value env) (λo Ci=>AU (Ai prog w) A (BC slice env) (λi Ic=>Ic.TypeIs o T/\AU (Ai prog w) A (OP o i) Q E Ic) E Ci) E s) :
  AU (Ai prog w) A (BC (.Subscript value slice pos) env) Q E s:=by
 refine Subscript_ (H9 h (λo Ci Kc=>H9 Kc (λi Ic Ll=>?_) λ_ _ x=>x) λ_ _ x=>x);obtain⟨Do,Ll⟩:=Ll;unfold subscriptTail;refine AH ?_;rw[getitemInPython_of_ne Do.not_modules];refine AH (OG Do AF ?_);have fin:AU (Ai prog w) A (XD slice false o i) (λr Oq=>AU (Ai prog w) A (letTemporaryGo value o r>>=λ_=>pure r) Q E Oq) E Ic:=by rw[hs o i];exact wpAny_operating (H9 Ll (λr Oq NA=>AH (wpAny_letTemporaryGo (An NA))) λ_ _ x=>x)
 first
  |exact An (AH fin)
  |exact AH (An (AH fin))
  |exact AH fin
def vF{X:AX}{pins:List (Z×Obj)}{σ :St}{H:A4}{s:AD}{a:Z}{y:V}{o:Option V}(I:Inv X pins σ H s)(g:J3 H a y o):s.TypeIs (.ref a) "dict":=by
 rcases g with⟨Ay,k,e,_,_⟩|⟨Ay,k,b,e,_,_,_⟩
 .obtain⟨_,_,vs,_,dd⟩:=QP I.BE e;exact dd.typeIs
 .obtain⟨_,_,xs,_,dd⟩:=QQ I.BE e;exact dd.typeIs
def r4(Gh ty:TE):TE:=λσ H Q=>Gh σ H λx H1=>ty σ H1 λy Ab=>∃a v,x=.ref a/\J3 Ab a y (some v)/\Q v Ab
def r6(ty Gh:TE):TE:=λσ H Q=>ty σ H λy H1=>Gh σ H1 λx Ab=>∃a o,x=.ref a/\J3 Ab a y o/\Q (.AO o.isSome) Ab
def r7(ty Gh:TE):TE:=λσ H Q=>ty σ H λy H1=>Gh σ H1 λx Ab=>∃a o,x=.ref a/\J3 Ab a y o/\Q (.AO (!o.isSome)) Ab
def ae4(Gh ty Dk:TE):Ei:=λD σ H=>Dk σ H λv H1=>Gh σ H1 λx Ab=>ty σ Ab λy CI=>∃a Gv,x=.ref a/\SD CI a y v Gv/\D.BK σ Gv
section
variable{X:AX}{o i e value:AN}{pos pos' TV:Pos}{Gh ty Dk:TE}
def abe(B0:X.A.units+16<Ce)(AE:Al X o Gh)(A0:Al X i ty)(hs:gk i):Al X (.Subscript o i pos) (r4 Gh ty):=by intro pins s σ H Q I h;refine aea PySem.F.slot_dict_getitem.lookup hs (BS (AE pins s σ H _ I h) λu s1⟨x,H1,As,BB,A_⟩=>BS (A0 pins s1 σ H1 _ As A_) λGP s2⟨y,Ab,Bu,Bm,a,v,ex,g,B4⟩=>?_);subst ex;obtain rfl:u=D7 a:=BB;exact⟨vF Bu g,tY B0 Bu g Bm λFG s3 Dp JK=>⟨v,Ab,Dp,JK,B4⟩⟩
def nL(B0:X.A.units+16<Ce)(A0:Al X i ty)(AE:Al X o Gh):Y5 X .In i o (r6 ty Gh):=by intro pins s σ H Q I h;refine BS (A0 pins s σ H _ I h) λGP s1⟨y,H1,As,Bm,A_⟩=>BS (AE pins s1 σ H1 _ As A_) λu s2⟨x,Ab,Bu,BB,a,Dj,ex,g,B4⟩=>?_;subst ex;obtain rfl:u=D7 a:=BB;exact tZ B0 Bu g Bm λs3 Dp=>⟨.AO Dj.isSome,Ab,Dp,rfl,B4⟩
def nM(B0:X.A.units+16<Ce)(A0:Al X i ty)(AE:Al X o Gh):Y5 X .NotIn i o (r7 ty Gh):=by intro pins s σ H Q I h;refine BS (A0 pins s σ H _ I h) λGP s1⟨y,H1,As,Bm,A_⟩=>BS (AE pins s1 σ H1 _ As A_) λu s2⟨x,Ab,Bu,BB,a,Dj,ex,g,B4⟩=>?_;subst ex;obtain rfl:u=D7 a:=BB;exact u4 B0 Bu g Bm λs3 Dp=>⟨.AO (!Dj.isSome),Ab,Dp,rfl,B4⟩
def ad6(B0:X.A.units+16<Ce)(AE:Al X o Gh)(A0:Al X i ty)(Az:Al X value Dk)(hs:Kw value (some (.Subscript o i pos')) pos.line X.env=pure false) :
  Cf X (.Assign [.Subscript o i pos'] value pos) (ae4 Gh ty Dk):=by
 intro pins s σ H D I h;refine wpAny_Assign_Subscript (BS (Az pins s σ H _ I h) λr s1⟨v,H1,As,BZ,A_⟩=>BS (AE pins s1 σ H1 _ As A_) λu s2⟨x,Ab,Bu,BB,B4⟩=>BS (A0 pins s2 σ Ab _ Bu B4) λGP s3⟨y,CI,Dp,Bm,a,Gv,ex,g,Cn⟩=>?_) hs;subst ex;obtain rfl:u=D7 a:=BB;exact v9 B0 Dp g Bm BZ λs4 LW=>⟨σ,Gv,LW,Cn⟩
end
def vN{P:BR}{w:BA}{H:A4}(h:Aq)(J:Lc<h.objs.size):E5 P w H (h.push { cls:=.type "dict",data:=.dict #[] }) h.objs.size (.BN []):=
 ⟨GV _,beq_eq_false_iff_ne.mpr (KB (ET J)),[],.nil,_,#[],0,F6 _ rfl,⟨rfl,rfl,rfl⟩,rfl,rfl,Rj⟩
def aeg:TE:=λ_ H Q=>∀p,H p=none->Q (.ref p) (upd H p (.BN []))
section
variable{X:AX}{pos:Pos}
def abg:Al X (.Dict [] [] pos) aeg:=λpins s σ H Q I h=>
 wpAny_Dict_empty ⟨.ref s.heap.objs.size,_,I.laid (a:=s.heap.objs.size) (o:=.BN []) (t':=s.toks) (λ_ _ q=>Cr _ q) (By _) (vN s.heap I.big),rfl,h _ (I.BE.fresh (By _))⟩
end
structure tL(X:AX)(o:AN)(m:Str)(apos:Pos)(e:AN)(Ba:Pos):Prop where
 base:Ik o m X.env (BC o X.env)=BC o X.env
 few:((CW Ba (Aw [e] X.env)).all (λx=>!x.1)&&(He Ba (Hd [] X.env)).all (λx=>x.1.isSome)
  &&decide (([e]:List AN).length+([]:List FS).length+(if([]:List FS).isEmpty then 0 else 1)<30))=true
 line:(apos.endLine==Ba.line)=true
 trees:CW Ba (Aw [e] X.env)=[(false,BC e X.env)]
def iz(H:A4)(a:Z):Prop:=(∃Ay,FV H a (.DM Ay))\/∃Ay,FV H a (.BN Ay)
def yx{X:AX}{pins:List (Z×Obj)}{σ :St}{H:A4}{s:AD}{a:Z}(I:Inv X pins σ H s)(d:iz H a) :
  s.TypeIs (.ref a) "dict"/\(∀b,D7 a=.ref b->∃ob,s.heap.get? b=some ob/\ob.dict=none)/\(a==Lc)=false:=by
 rcases d with⟨Ay,e⟩|⟨Ay,e⟩
 .obtain⟨_,hd,vs,_,dd⟩:=QP I.BE e;refine⟨dd.typeIs,λb q=>?_,hd⟩;cases q;obtain⟨ob,_,_,h1,h2,_⟩:=dd;exact⟨ob,h1,h2.2.1⟩
 .obtain⟨_,hd,xs,_,dd⟩:=QQ I.BE e;refine⟨dd.typeIs,λb q=>?_,hd⟩;cases q;obtain⟨ob,_,_,h1,h2,_⟩:=dd;exact⟨ob,h1,h2.2.1⟩
section
variable{X:AX}{pins:List (Z×Obj)}{σ :St}{H:A4}{s:AD}{a:Z}{y d:V}{u r:U}{o:Option V}{A:Bk}{E:U->AD->Prop}
def tX{Q:U->AD->Prop}(B0:A.units+16<Ce)(I:Inv X pins σ H s)(g:J3 H a y o)(Bm:RelV y u)(h:∀FG s',Inv X pins σ H s'->RelV (o.getD .non) FG->Q FG s') :
  AU (Ai X.prog X.w) A (call (.builtin "dict.get") [.ref a,u]) Q E s:=by
 rcases g with⟨Ay,k,e,CV,l⟩|⟨Ay,k,b,e,CV,B7,l⟩
 .subst CV;obtain⟨z,hd,vs,rel,dd⟩:=QP I.BE e;refine call_meetsIn fX dd.typeIs rl (rt _ _) (meets_dict_get (GS X.prog X.w) a (QB Bm) hd) ⟨_,dd.mapOf,h _ _ (I.tok _) ?_⟩;rw[l];exact(rel.val k).getD rfl
 .subst CV;cases(show u=D7 b from Bm);obtain⟨z,hd,xs,rel,dd⟩:=QQ I.BE e;refine call_meetsIn fX dd.typeIs rl (rt _ _) (meetsH_dict_get (RG X.prog X.w) a b hd) ⟨nest_room B0,k,xs,TO I.BE B7,dd,h _ _ (I.tok _) ?_⟩;rw[l];exact(rel.val k).getD rfl
end
def r5(Gh ty:TE):TE:=λσ H Q=>Gh σ H λx H1=>∃a,x=.ref a/\iz H1 a/\ty σ H1 λy Ab=>∃o,J3 Ab a y o/\Q (o.getD .non) Ab
section
variable{X:AX}{o e f:AN}{apos Ba:Pos}{Gh ty akq:TE}
def abf(B0:X.A.units+16<Ce)(AE:Al X o Gh)(he:Al X e ty)(m:tL X o "get" apos e Ba):Al X (.Call (.Attribute o "get" apos) [e] [] Ba) (r5 Gh ty):=by intro pins s σ H Q I h;refine wpAny_Call_method m.base m.few m.line PySem.F.plainAttrs_dict fX PySem.F.type_dict_get (BS (AE pins s σ H _ I h) λu s1⟨x,H1,As,BB,a,ex,d,A_⟩=>?_);subst ex;obtain rfl:u=D7 a:=BB;obtain⟨t1,Fo,_⟩:=yx As d;refine⟨t1,Fo,?_⟩;rw[m.trees];refine rk rfl (fO (Wa (BS (he pins s1 σ H1 _ As A_) λGP s2⟨y,Ab,Bu,Bm,Dj,g,B4⟩=>Wx ?_)));exact tX B0 Bu g Bm λFG s3 Dp JK=>⟨_,Ab,Dp,JK,B4⟩
end
section
variable{X:AX}{pins:List (Z×Obj)}{σ :St}{H:A4}{s:AD}{a:Z}{Ay:List (Key×V)}{A:Bk}{E:U->AD->Prop}
end
section
variable{X:AX}{pins:List (Z×Obj)}{σ :St}{H:A4}{s:AD}{a:Z}{y:V}{u:U}{A:Bk}{E:U->AD->Prop}
end
end CE
namespace io
open PySem PySem.W PySem.Calls PyProof.Rows
def xd{P:Params}{h:Aq}:∀(ns:List Int)(vs:List U),WellAll P h vs (ns.map WData.int)->IntsAre vs ns:=by
 intro ns;induction ns with
 |nil=>intro vs w;rw[OO]at w;cases w;exact .nil
 |cons n ns Bg=>
  intro vs w;rw[DP]at w;cases w with
  |cons a b=>cases a;exact .cons _ _ (Bg _ b)
def adi{l:OpenLaw}{n:Nat}(AR:l.most=some n){P:Params}{h:Aq}{args:List WData}{vals:List U}(YU:l.row.toRowW.claim.pre args=true)(ae:WellAll P h vals args) :
  ∃a vs ns,vals=[D7 a]/\args=[WData.list (ns.map WData.int)]/\h.get? a=some { cls:=.type "list",data:=.seq vs.toArray }/\IntsAre vs ns/\ns.length<=n:=by
 have wc:WShape.hasAll [] args [.list .int]=true:=(pre_splitW YU).1;have AB:l.pre.holds [] { args:=args }=true:=(pre_splitW YU).2;obtain⟨d,r,rfl,h1,h2⟩:=hasAllW_cons wc;obtain rfl:=hasAllW_nil h2;obtain⟨xs,rfl,h3⟩:=hasW_list h1;obtain⟨ns,rfl⟩:=items_int h3;have hlen:ns.length<=n:=by
  unfold OpenLaw.pre at AB;have h4:(WTm.not (.lt (.lit (.int (n:Int))) (.len (.arg 0)))).holds [] { args:=[.list (ns.map .int)] }=true:=by have h4:=(holds_andW AB).1;rw[AR]at h4;exact h4
  have h5:=condW_of h4 (w_not (w_lt w_lit (w_len_list (w_arg rfl))));rw[Eh]at h5;refine Nat.le_of_not_lt λq=>?_;have D_:(n:Int)<((ns.length:Nat):Int):=by lia
  first
   |(rw[decide_eq_true D_]at h5;exact absurd h5 (by decide))
   |(simp at h5;lia)
 cases ae with
 |cons Cp D6=>
  cases D6;cases Cp with
  |list AE TD=>exact⟨_,_,ns,rfl,rfl,AE,xd ns _ TD,hlen⟩
def ad3(l:OpenLaw)(args:List WData):l.row.toRowW.claim.post args (.bool true) args=true:=
 postW_of (r:=l.row.toRowW) (X:=(true==true))
  (show WShape.has [] (.bool true) .bool=true by first|rfl|decide|simp[WShape.has,WShape.arms,WShape.armsAll])
  (show(WTm.eq .res (.lit (.bool true))).value [] { args:=args,res:=some (.bool true),after:=args }=some (.bool (true==true))from w_eq_bool (w_res rfl) w_lit) rfl
def sR {l:OpenLaw} {n:Nat} {q:BR} {loose:List Str} {SL:(Str->Option U)->Aq->Prop} {Og:BA->Aq->Prop} {d:DefRec}(AR:l.most=some n) (VL:d.params.defaults=[])(call:∀(w:BA)(FF Ci:AD)(AA Eo:Str->Option U)(Fe:Z)(o:Obj)(pm cd doc:U)(a:Z)(vs:List U)(ns:List Int),
    Ground q loose [] SL w FF AA Eo Ci.heap->Og w Ci.heap->
    Ci.heap.get? Fe=some o->o.data=.func (docDef d.name d.params d.body d.scope pm cd doc)->Ci.heap.CodeRec cd d.name->AA d.name=some (.ref Fe)->
    Ci.heap.get? a=some { cls:=.type "list",data:=.seq vs.toArray }->IntsAre vs ns->ns.length<=n->Ci.gens= #[]->
    Ld (Ai l.prog w) Q6 (.call (.ref Fe) ⟨[.ref a],[]⟩) (λr s'=>r=.ok (.ret (.bool true))/\OldK Ci.heap s'.heap/\s'.os=Ci.os/\MP s'.gens) Ci) :
  WalkO q loose SL Og l.row.toRowW d [] (λf vs=>PySem.call f vs):=by
 intro w FF Ci AA Eo G Y Fe o pm cd doc Xg Cu AE hd Dh Yw VS AQ args vals as YU ajr ajv ae ajs;obtain rfl:Xg=.none:=Dflts.none Yw VL;obtain rfl:Cu=.none:=Dflts.noKw Yw;obtain⟨a,vs,ns,rfl,rfl,b6,hints,hlen⟩:=adi AR YU ae;refine enter_call (Rs (call w FF Ci AA Eo Fe o pm cd doc a vs ns G Y AE (fd_plain hd) Dh VS b6 hints hlen AQ) λr s' Ac=>?_);obtain⟨rfl,h2,h3,h4⟩:=Ac;exact⟨.inl ⟨.bool true,.bool true,[],rfl,λ_=>rfl,.bool true,ad3 l _,λ_=>⟨sB,λ_ hm=>(nomatch hm)⟩⟩,h2,h3,h4⟩
section
variable{prog:BR}{w:BA}{A:Bk}{E:U->AD->Prop}{s:AD}{K:Frag}
end
end io
namespace CE
open PySem PySem.Spec PyProof.Rows
theorem qs:∀{vs:List U}{ns:List Int},IntsAre vs ns->Vals (ns.map V.int) vs
 |_,_,.nil=>.nil
 |_,_,.cons n t h=>.cons ⟨t,rfl⟩ (qs h)
def gm(H:A4):Prop:=∀b,H b=none\/∃o xs,H b=some (.JZ o (.lst xs))
def zV{P:BR}{w:BA}{K:AT}{AA Eo:Str->Option U}{CX:KS}{k:Nat}{Fe a:Z}{fd:FH}{x:Str}{sp:IE}{Ci:AD}{vs:List U}{ns:List Int}(MB:K.In Ci.heap)(lV:Ci.heap.Ns DQ AA)(J:Ci.heap.Ns builtinsNs Eo)(VJ:∀x:Str,x≠"__name__"->Eo x=Kv x)(x8:Ci.heap.NoLimit)(AQ:Ci.gens= #[])(A2:Ci.heap.get? a=some { cls:=.type "list",data:=.seq vs.toArray })(A0:IntsAre vs ns)(AF:ns.length<=CH)(AS:Bz k Q6)(F:∀base:Aq,K.In base->base.Ns DQ AA->Fu P w K AA base CX k Fe fd [x] sp)(vl:∀(s:AD)(u:U),BindsTo s fd ⟨[u],[]⟩ [(x,u)])(PV:∀H:A4,gm H->Bb K H a (ns.map V.int)->sp [.ref a] H (λv _=>v=.AO true) λ_ _ _=>False)(ak:∀H e s',CX [] H Ci (λ_ _ _=>False) e s'->False) :
  Ld (Ai P w) Q6 (.call (.ref Fe) ⟨[.ref a],[]⟩) (λr s'=>r=.ok (.ret (.bool true))/\OldK Ci.heap s'.heap/\s'.os=Ci.os/\MP s'.gens) Ci:=by
 have BZ:=qs A0;have zf:=A0.length
 have core:∀H:A4,gm H->Bb K H a (ns.map V.int)->Dx P w H Ci.heap->(∀b,H b≠none->b=a)->(H a≠none->K.lookup a=none)->
   Ld (Ai P w) Q6 (.call (.ref Fe) ⟨[.ref a],[]⟩) (λr s'=>r=.ok (.ret (.bool true))/\OldK Ci.heap s'.heap/\s'.os=Ci.os/\MP s'.gens) Ci:=by
  intro H Yx J8 BE J7 Ag;have ja:∀{b:Z}{o:Obj},Ci.heap.get? b=some o->H b=none->(OB Ci.heap H).get? b=some o:=λe n=>vU e n;have WO:∀{b:Z}{o:Obj}{es:Array DictEntry}{B3:Nat},Ci.heap.get? b=some o->o.data=.dict es B3->H b=none:=λ{b o es B3} e d=>by
   cases q:H b with
   |none=>rfl
   |some u=>have Bi:b=a:=J7 b (by rw[q];simp);subst Bi;rw[A2]at e;cases e;have d':Data.seq vs.toArray _=Data.dict es B3:=d;cases d'
  have ZG:∀{b:Z}{m:Str->Option U},Ci.heap.Ns b m->(OB Ci.heap H).Ns b m:=λ{b m}⟨o,es,B3,e,d,r⟩=>⟨o,es,B3,ja e (WO e d),d,r⟩;have l9:K.In (OB Ci.heap H):=λb o e=>ja (MB b o e) (by
   cases q:H b with
   |none=>rfl
   |some u=>have Bi:b=a:=J7 b (by rw[q];simp);subst Bi;rw[Ag (by rw[q];simp)]at e;cases e)
  have Qa:Mod K AA (OB Ci.heap H):=⟨l9,ZG lV,⟨Eo,ZG J,VJ⟩,let⟨Zs,h1,h2⟩:=x8;⟨Zs,ZG h1,h2⟩⟩;have CF:Qk P w K AA (OB Ci.heap H) Q6 [] Ci H:=⟨rfl,Qa,λb o e=>aan e,fz (vV _ _),trivial,λb J=>absurd (show b∈([]:List Z)from J) (by simp),BE,.of_eq AQ⟩;refine Rs ((F _ l9 (ZG lV)).run Q6 [] Ci H ⟨[.ref a],[]⟩ [.ref a] [.ref a] _ _ AS CF (vl Ci (.ref a)) (.cons rfl .nil) (PV H Yx J8)) λr s' h=>?_;cases r with
  |error e=>exact(ak H e s' h).elim
  |ok GK=>
   cases GK with
   |next=>exact K7 h
   |brk=>exact K7 h
   |cont=>exact K7 h
   |ret u=>
    obtain⟨v,H',os,bare,un,xN,B2,q⟩:=h;have D_:v=.AO true:=q;subst D_;obtain rfl:u=Ru true:=B2;refine⟨rfl,OldK.of_keep λb o e=>?_,os,bare⟩;cases q:H b with
    |none=>exact un.keep b o e q (by intro z;exact absurd (show b∈([]:List Z)from z) (by simp)) (by simp)
    |some u=>
     rcases Yx b with z|⟨ob,xs,z⟩
     .rw[q]at z;cases z
     .have CP:=un.KY b ob _ z;obtain⟨A1,_⟩:=BE b _ z;obtain⟨A7,_⟩:=xN b _ CP;rw[e]at A1;cases A1;exact A7
 cases AG:K.lookup a with
 |some o=>have e:=MB a o AG;rw[A2]at e;cases e;refine core (λ_=>none) (λ_=>.inl rfl) (.inr ⟨_,vs.toArray,_,AG,rfl,rfl,rfl,by rw[DJ,zf];exact AF,by simpa using BZ⟩) (λb u z=>by have Es:(none:Option D2)=some u:=z;cases Es) (λb z=>absurd rfl z) λz=>absurd rfl z
 |none=>
  refine core (λb=>if b=a then some (.JZ { cls:=.type "list",data:=.seq vs.toArray } (.lst (ns.map V.int)))else none) (λb=>?_) (.inl (.inr ⟨{ cls:=.type "list",data:=.seq vs.toArray },if_pos rfl⟩)) (λb u z=>?_) (λb z=>?_) λ_=>AG
  .by_cases J:b=a
   .exact .inr ⟨_,_,if_pos J⟩
   .exact .inl (if_neg J)
  .by_cases J:b=a
   .have Es:=(if_pos J).symm.trans z;cases Es;subst J;exact⟨A2,by rw[Eh];exact AF,vs,_,BZ,A2⟩
   .have Es:=(if_neg J).symm.trans z;cases Es
  .by_cases J:b=a
   .exact J
   .exact absurd (if_neg J) z
def aff {l:g9} {n k:Nat} {q:BR} {loose:List Str} {SL:(Str->Option U)->Aq->Prop} {Og:BA->Aq->Prop} {d:DefRec} {K:Params->AT} {CX:BA->KS} {sp:BA->IE} {x:Str}(AR:l.most=some n) (YS:n<=CH) (VL:d.params.defaults=[]) (AS:Bz k Q6)(ar:∀(w:BA)(h:Aq),Og w h->(K w.params).In h)(F:∀(w:BA)(AA:Str->Option U)(Fe:Z)(h:Aq),(K w.params).In h->h.Ns DQ AA->AA d.name=some (.ref Fe)->
    ∃fd:FH,(∀(s:AD)(u:U),BindsTo s fd ⟨[u],[]⟩ [(x,u)])/\
     ∀base:Aq,(K w.params).In base->base.Ns DQ AA->Fu l.prog w (K w.params) AA base (CX w) k Fe fd [x] (sp w))
  (PV:∀(w:BA)(H:A4)(a:Z)(ns:List Int),ns.length<=n->gm H->Bb (K w.params) H a (ns.map V.int)->sp w [.ref a] H (λv _=>v=.AO true) λ_ _ _=>False)
  (ak:∀(w:BA)(H:A4)(s:AD)(e:U)(s':AD),CX w [] H s (λ_ _ _=>False) e s'->False) :
  PySem.W.WalkO q loose SL Og l.row.toRowW d [] (λf vs=>PySem.call f vs):=by
 refine io.sR AR VL λw FF Ci AA Eo Fe o pm cd doc a vs ns G Y AE hd Dh VS b6 hints hlen AQ=>?_;have MB:=ar w _ Y;obtain⟨fd,J,N3⟩:=F w AA Fe _ MB G.T.g VS;exact zV MB G.T.g G.T.b G.T.builtins G.T.nolimit AQ b6 hints (Eg hlen YS) AS N3 J (λH Yx J8=>PV w H a ns hlen Yx J8) λH e s'=>ak w H Ci e s'
noncomputable def inClass(s:BG)(j:Nat):BG:=match s with
 |.ClassDef _ _ _ body _ _ _ _ _ _ _=>body.getD j (.Pass ⟨0,0,0,0⟩)
 |_=>.Pass ⟨0,0,0,0⟩
noncomputable def KW(s:BG):Arguments:=match s with
 |.FunctionDef _ a _ _ _ _ _ _ _ _=>a
 |_=>{ posonlyargs:=[],args:=[],vararg:=none,kwonlyargs:=[],kw_defaults:=[],kwarg:=none,defaults:=[] }
noncomputable def FA(s:BG):List BG:=match s with
 |.FunctionDef _ _ b _ _ _ _ _ _ _=>b
 |_=>[]
noncomputable def BP(s:BG):DT:=match s with
 |.FunctionDef _ _ _ _ _ _ sc _ _ _=>sc
 |_=>{ kind:=.function,names:=[],isGenerator:=false,isCoroutine:=false }
abbrev FJ:KS:=λ_ _ _ _ _ _=>False
abbrev ga:CS:=λ_ _ _=>False
def RL{X:AX}:Passes FJ X ga:=λ_ _ _ _ _ _ _ h=>h.elim
structure M7(K:AT)(x qual:Str)(st:BG)(f:Z)(fd:FH):Prop where
 ex:∃(F3:U)(DN:Option Z)(Cu doc pm:U)(an:Option Z)(BV C_:U)(Lu:Array (Option U)),
  fd=Im x qual (KW st) (FA st) (BP st) .none Cu doc pm an BV C_/\K.lookup f=some ⟨F3,DN,.func fd,Lu⟩/\OJ K BV qual=true
 AJ:IM K (.ref f)=true
section
variable{P:BR}{w:BA}{K:AT}{AA:Str->Option U}{base:Aq}
def M7.ok {x qual:Str} {st:BG} {f:Z} {fd:FH} {N ps:List Str} {k:Nat} {sp:IE} (F:M7 K x qual st f fd) (S:C2 N ps (BP st)) (len:∀vs H Q E,sp vs H Q E->vs.length=ps.length)(av:∀(BV:U)(A:Bk)(outer:List Env)(s:AD)(H:A4)(vs:List V)(Q:Br)(E:CS),Bz k (A.deeper (NO qual (BP st) s.heap.objs.size f BV))->sp vs H Q E->
    ∃t,FU (EE FJ P w K AA base N qual (BP st) f BV A outer s H E).Fn (FA st) t/\t { BK:=λ_ H'=>Q .non H',DB:=Q } (start N vs) H):Fu P w K AA base FJ (k+1) f fd ps sp:=by
 obtain⟨F3,DN,Cu,doc,pm,an,BV,C_,Lu,rfl,lk,Dh⟩:=F.ex;refine lj lk Dh S len λA outer s H vs Q E AS PV=>?_;obtain⟨t,h,q⟩:=av BV A outer s H vs Q E AS PV;exact⟨t,h.Fn,q⟩
def M7.binds{x qual:Str}{st:BG}{f:Z}{fd:FH}{ps:List Str}(F:M7 K x qual st f fd)(h:∀(Cu doc pm:U)(an:Option Z)(BV C_:U)(us:List U),us.length=ps.length->Rw (Im x qual (KW st) (FA st) (BP st) .none Cu doc pm an BV C_) ⟨us,[]⟩=pure (ps.zip us)):Binds K fd ps []:=by obtain⟨F3,DN,Cu,doc,pm,an,BV,C_,Lu,rfl,lk,Dh⟩:=F.ex;exact .all (h Cu doc pm an BV C_)
def QY{x qual:Str}{st:BG}{f:Z}{F3:U}{DN an:Option Z}{Lu:Array (Option U)}{Cu doc pm BV C_:U}(l:K.lookup f=some ⟨F3,DN,.func (Im x qual (KW st) (FA st) (BP st) .none Cu doc pm an BV C_),Lu⟩)(c:OJ K BV qual=true)(k:IM K (.ref f)=true):M7 K x qual st f (Im x qual (KW st) (FA st) (BP st) .none Cu doc pm an BV C_):=⟨⟨F3,DN,Cu,doc,pm,an,BV,C_,Lu,rfl,l,c⟩,k⟩
end
section
variable{X:AX}
def PH(i:Nat){x:Str}{pos:Pos}(hN:X.N[i]?=some x:=by rfl)(Az:Gx X.env.scope x:=by first|exact DX rfl|exact CY (DX rfl)|exact CY (CY rfl))(hd:(x==("__debug__" :Str))=false:=by decide)(Dh:(x==("__classdict__" :Str))=false:=by decide):Al X (.Name x pos) (Ky i):=HG hN Az hd Dh
end
def GC(H H':A4):Prop:=∀b o,H b=some o->H' b=some o
section
variable{X:AX}
end
section
variable{κ:Type}[DecidableEq κ]
theorem c9:∀{l:List κ}{k:κ},l.Nodup->¬k∈l->(l++[k]).Nodup
 |[],k,_,_=>by simp
 |a::r,k,h,AG=>by
  obtain⟨h1,h2⟩:=List.nodup_cons.mp h;show(a::(r++[k])).Nodup;refine List.nodup_cons.mpr ⟨λm=>?_,c9 h2 λm=>AG (List.mem_cons.mpr (CY m))⟩;rcases List.mem_append.mp m with q|q
  .exact h1 q
  .exact AG (List.mem_cons.mpr (DX (List.mem_singleton.mp q).symm))
end
noncomputable def Gy(env:Env):List (Str×K9)->List (Str×Z)->List (Str×Z)
 |[],cs=>cs
 |(x,k)::r,cs=>Gy env r (if k==.free then(x,(env.cells.lookup x).getD 0)::cs else cs)
theorem js{env:Env}:∀(names:List (Str×K9))(cs:List (Str×Z)),(∀p∈names,p.2=.free->∃c,env.cells.lookup p.1=some c)->
 (forIn (m:=Sem) names cs λ(x:Str×K9) cs=>if(x.2==Il)=true then do
   let a <-cellOf env x.1
   pure (NI ((x.1,a)::cs))else pure (NI cs))=pure (Gy env names cs)
 |[],cs,_=>rfl
 |(x,k)::r,cs,h=>by
  rw[Td];have Bg:=js (env:=env) r;by_cases AG:k=.free
  .subst AG;obtain⟨c,AB⟩:=h (x,.free) GT rfl;have A1:cellOf env x=pure c:=by unfold cellOf;rw[AB]
   simp only[beq_self_eq_true,if_true,Gy,A1,AB,OL,pure_bind];exact Bg _ λp AW=>h p (E3 _ AW)
  .have J:(k==Il)=false:=by simpa using AG
   simp only[J,FZ,if_false,Gy,pure_bind];exact Bg _ λp AW=>h p (E3 _ AW)
def jr{env:Env}{scope:DT}(h:∀p∈scope.names,p.2=.free->∃c,env.cells.lookup p.1=some c):closureFor scope env=pure (Gy env scope.names []):=by
 have e:=js (env:=env) scope.names [] h;unfold closureFor
 refine Eq.trans (b:=(forIn (m:=Sem) scope.names [] λ(x:Str×K9) cs=>if(x.2==Il)=true then do
   let a <-cellOf env x.1
   pure (NI ((x.1,a)::cs))else pure (NI cs))>>=pure) rfl ?_
 rw[e];rfl
theorem jq{env:Env}{x:Str}:∀(names:List (Str×K9))(cs:List (Str×Z)),(∀p∈names,p.2=.free->∃c,env.cells.lookup p.1=some c)->
  (Gy env names cs).lookup x=if(x,Il)∈names then env.cells.lookup x else cs.lookup x
 |[],cs,_=>by simp[Gy]
 |(y,k)::r,cs,h=>by
  rw[Gy,jq r _ λp AW=>h p (E3 _ AW)];by_cases hm:(x,Il)∈r
  .rw[if_pos hm,if_pos (E3 _ hm)]
  .rw[if_neg hm];by_cases AG:k=.free
   .subst AG;obtain⟨c,AB⟩:=h (y,.free) GT rfl;by_cases A5:x=y
    .subst A5;rw[if_pos GT];simp[Wq,AB]
    .have nm:¬(x,Il)∈(y,Il)::r:=λz=>by
       rcases List.mem_cons.mp z with e|e
       .exact A5 (by injection e)
       .exact hm e
     rw[if_neg nm];have J:(x==y)=false:=by simpa using A5
     simp[Wq,J]
   .have J:(k==Il)=false:=by simpa using AG
    have nm:¬(x,Il)∈(y,k)::r:=λz=>by
     rcases List.mem_cons.mp z with e|e
     .exact AG (by injection e with _ A7;exact A7.symm)
     .exact hm e
    rw[if_neg nm];simp[J]
def tz {prog:BR} {w:BA} {A:Bk} {R:Result->AD->Prop} {s:AD} {elt target iter:AN} {ifs:List AN} {scope:DT} {pos:Pos} {it acc:U} {env:Env} (I:Nat->AD->Prop)(turn:∀n s,I n s->AU (Ai prog w) A (KF it) (λr Ci=>match r with
    |none=>R (.ok .next) Ci
    |some v=>AU (Ai prog w) A (Wv target it v) (λ_ pX=>AU (Ai prog w) A (KD target env v) (λ_ Ic=>
       AU (Ai prog w) A (forIn ifs true λc r=>if r=true then do let ok <-isTrue c env (BC c env);pure (NI ok)else pure (NI r)) (λok Oq=>
        if ok=true then AU (Ai prog w) A (BC elt env) (λx a8=>
         AU (Ai prog w) A (call (.builtin "list.append") [acc,x]) (λ_ pY=>∃m,m<n/\I m pY) (OQ (Ai prog w) A env λe s'=>R (.error e) s') a8) (OQ (Ai prog w) A env λe s'=>R (.error e) s') Oq
        else ∃m,m<n/\I m Oq) (OQ (Ai prog w) A env λe s'=>R (.error e) s') Ic) (OQ (Ai prog w) A env λe s'=>R (.error e) s') pX) (OQ (Ai prog w) A env λe s'=>R (.error e) s') Ci) (OQ (Ai prog w) A env λe s'=>R (.error e) s') s)
  (n:Nat) (h:I n s):Ld (Ai prog w) A (.compLoop (.ListComp elt [⟨target,iter,ifs,0⟩] scope pos) 0 it acc env) R s:=by
 refine codeAny_loop rfl I (λn s Jd=>?_) n h;show AU _ A ((compTurn (.ListComp elt [⟨target,iter,ifs,0⟩] scope pos) 0 it acc env).onRaise (λx=>do noteFrame x env;theTreesLotGoes x)) _ _ s;refine wpAny_noted ?_;rw[compTurn_list];refine AH (wpAny_standAt (AH (H9 (turn n s Jd) (λr Ci Kc=>?_) λ_ _ h'=>h')));cases r with
 |none=>exact An Kc
 |some v=>
  refine AH (H9 Kc (λ_ pX wz=>?_) λ_ _ h'=>h');refine AH (H9 wz (λ_ Ic Ll=>AH (H9 Ll (λok Oq NA=>?_) λ_ _ h'=>h')) λ_ _ h'=>h');cases ok with
  |false=>exact An ⟨rfl,NA⟩
  |true=>exact AH (AH (H9 NA (λx a8 VU=>AH (H9 VU (λ_ pY H_=>An (An ⟨rfl,H_⟩)) λ_ _ h'=>h')) λ_ _ h'=>h'))
noncomputable abbrev E_(X:AX)(scope:DT)(N:List Str)(cl:List (Str×Z))(C:Z)(s:AD)(H:A4)(Ae:List Z):AX where
 prog:=X.prog
 w:=X.w
 K:=X.K
 AA:=X.AA
 base:=X.base
 A:=X.A
 N:=N
 FF:=s
 Ql:=H
 env:=compEnvC scope cl C X.env
 outer:=X.stack
 stack:=X.stack
 ex:=Ae
 calm:=X.calm
 fn:=λx=>scope.names.lookup x==some .cell
 D4:=[]
 xe:=λ_ _=>False
noncomputable def Mb(nl:Nat)(caps:List Nat)(σ :St):St:=Q1 nl none++caps.map λj=> σ.getD j none
noncomputable def Yc:Option K9->Bool
 |some .cell=>true
 |some .free=>true
 |_=>false
structure M6(sc:DT)(MX:List Str)(scope:DT)(N:List Str)(nl:Nat)(caps:List Nat):Prop where
 kind:scope.kind=.function
 uniq:∀x∈scope.names,scope.names.lookup x.1=some x.2
 free:∀x∈scope.names,x.2=.free->Yc (sc.names.lookup x.1)=true
 len:N.length=nl+caps.length
 tn:∀k j,caps[k]?=some j->∃x,MX[j]?=some x/\N[nl+k]?=some x/\scope.names.lookup x=some .free/\Yc (sc.names.lookup x)=true
def O1(sc:DT)(MX:List Str)(scope:DT)(N:List Str)(nl:Nat)(caps:List Nat):Bool:=
 (scope.kind==.function)&&scope.names.all (λx=>scope.names.lookup x.1==some x.2&&(x.2 !=.free||Yc (sc.names.lookup x.1)))&&
 (N.length==nl+caps.length)&&(caps.zipIdx.all λcQ=>match MX[cQ.1]? with
   |none=>false
   |some x=>N[nl+cQ.2]?==some x&&scope.names.lookup x==some .free&&Yc (sc.names.lookup x))
def M6.of{sc:DT}{MX:List Str}{scope:DT}{N:List Str}{nl:Nat}{caps:List Nat}(h:O1 sc MX scope N nl caps=true):M6 sc MX scope N nl caps:=by
 unfold O1 at h;rw[FR,FR,FR]at h;obtain⟨⟨⟨h1,h2⟩,h3⟩,h4⟩:=h;rw[OM]at h2 h4;refine⟨eq_of_beq h1,λx A5=>?_,λx A5 e=>?_,eq_of_beq h3,λk j e=>?_⟩
 .have:=h2 x A5;rw[FR]at this;exact eq_of_beq this.1
 .have:=h2 x A5;rw[FR]at this;have q:=this.2;rw[e]at q;simpa using q
 .have m:(j,k)∈caps.zipIdx:=by
    rw[List.mem_zipIdx_iff_getElem?];exact e
  have q:=h4 _ m;dsimp only at q
  split at q
  .cases q
  .rename_i x ex;rw[FR,FR]at q;exact⟨x,ex,eq_of_beq q.1.1,eq_of_beq q.1.2,q.2⟩
def M6.locs{sc:DT}{MX:List Str}{scope:DT}{N:List Str}{nl:Nat}{caps:List Nat}(S:M6 sc MX scope N nl caps):∀x∈scope.names,x.2=.local->scope.names.lookup x.1=some .local:=λx A5 e=>e▸S.uniq x A5
theorem hb:∀(ns:List (Str×K9))(n:Nat)(a b:List (Str×Z)),HA n ns (a++b)=HA n ns a++b
 |[],_,_,_=>rfl
 |(x,k)::r,n,a,b=>by
  unfold HA
  split
  .exact hb r (n+1) ((x,n)::a) b
  .exact hb r n a b
theorem Xe{x:Str}{c:Z}:∀(ns:List (Str×K9))(n:Nat)(a:List (Str×Z)),(x,c)∈HA n ns a->(x,NameKind.cell)∈ns\/(x,c)∈a
 |[],_,_,h=>.inr h
 |(y,k)::r,n,a,h=>by
  unfold HA at h
  split at h
  .rename_i AG;rcases Xe r _ _ h with z|z
   .exact .inl (E3 _ z)
   .rcases List.mem_cons.mp z with e|z
    .injection e with A1 A7;subst A1;rw[eq_of_beq AG];exact .inl GT
    .exact .inr z
  .rcases Xe r _ _ h with z|z
   .exact .inl (E3 _ z)
   .exact .inr z
def aaU{M:Model}{A:Bk}{E:U->AD->Prop}{s:AD}{scope:DT}{globals:Z}{cl:List (Str×Z)}{qual:Str}{env:Env}{Q:Env->AD->Prop}(Dn:Q { scope:=scope,locals:=s.heap.objs.size,globals:=globals,cells:=HA (s.heap.objs.size+1) scope.names cl,qual:=qual,func:=none,code:=env.code,frame:=env.frame,builtins:=env.builtins } { s with heap:=pushCells (s.heap.push { cls:=.type "dict",data:=.dict #[] }) scope.names }) :
  AU M A (gG scope globals cl [] qual none .none (some env)) Q E s:=by
 simp only[gG,sI,if_true];refine AH (wpAny_alloc ?_);refine AH (wpAny_layCells _ (λname kind cells=>by cases vY:kind==NameKind.cell<;>simp[vY]) _ _ _ _ ?_);rw[show({ s with heap:=s.heap.push { cls:=.type "dict",data:=.dict #[] } }:AD).heap.objs.size=s.heap.objs.size+1 from K2 ..];exact AH (An (An Dn))
def dZ{scope:DT}{env:Env}{x:Str}{k:K9}(h:(KC scope env).names.lookup x=some k):(x,k)∈scope.names\/(k=.cell/\(x,Il)∈scope.names):=by
 have m:=MI h;obtain⟨⟨y,q⟩,Ao,e⟩:=List.mem_map.mp m;dsimp only at e
 split at e
 .rename_i AB;injection e with A1 A7;subst A1;have hf:q=.free:=by
   rw[FR,FR]at AB;exact eq_of_beq AB.1.1
  subst hf;exact .inr ⟨A7.symm,Ao⟩
 .injection e with A1 A7;subst A1;subst A7;exact .inl Ao
def RS(Ih:TI)(g:HQ)(tc:TT)(te:TE)(nl:Nat)(caps:List Nat):TE:=λσ H Q=>
 Ih σ H λBp H1=>∀acc,H1 acc=none->∃W:Nat->Nat->St->A4->Prop,(∃m,W 0 m (Mb nl caps σ) (upd H1 acc (.lst [])))/\
  ∀i m σ' H',W i m σ' H'->(Bp.stop i H'/\Q (.ref acc) H')\/
   (Bp.go i H'/\∀x Ab,Bp.Jt i H' x Ab->g x σ' Ab λσ2 CI=>tc σ2 CI λb Gv=>
      if b=true then te σ2 Gv λy Ir=>∃ys,Ir acc=some (.lst ys)/\ys.length<CH/\∃CM,CM<m/\W (i+1) CM σ2 (upd Ir acc (.lst (ys++[y])))
      else ∃CM,CM<m/\W (i+1) CM σ2 Gv)
section
variable{X:AX}{elt target iter:AN}{ifs:List AN}{scope:DT}{pos:Pos}{N:List Str}{nl:Nat}{caps:List Nat}{Ih:TI}{g:HQ}{tc:TT}{te:TE}
def Oe(X:AX)(ifs:List AN)(t:TT):Prop:=
 ∀(pins:List (Z×Obj))(s:AD)(σ :St)(H:A4)(Q:Bool->A4->Prop),Inv X pins σ H s->t σ H Q->
  AU (Ai X.prog X.w) X.A (forIn ifs true λc r=>if r=true then do let ok <-isTrue c X.env (BC c X.env);pure (NI ok)else pure (NI r)) (Y7 X pins σ Q) X.xe s
def aE:TT:=λ_ H Q=>Q true H
def pN:Oe X [] aE:=λ_ _ _ H _ I h=>wpAny_tests_nil ⟨H,I,h⟩
def xf{pins:List (Z×Obj)}{σ :St}{H:A4}{s s4:AD}{cl:List (Str×Z)}{Ae:List Z}(S:M6 X.env.scope X.N scope N nl caps)(I:Inv X pins σ H s)(k1:∀x c,cl.lookup x=some c->X.env.cells.lookup x=some c\/(scope.names.lookup x=some .cell/\s.heap.objs.size<c/\s4.heap.IsCell c none))(k2:∀x,(x,Il)∈scope.names->cl.lookup x=X.env.cells.lookup x)(k3:∀x,scope.names.lookup x=some .cell->∃c,cl.lookup x=some c/\s.heap.objs.size<c)(Yf:∀x y c,cl.lookup x=some c->cl.lookup y=some c->x=y)(hf:∀b∈Ae,Jv X pins H b)(DI:∀b∈Ae,b<s.heap.objs.size)(Q8:s4.os=s.os)(AQ:s4.gens=s.gens)(AR:∃m,s4.heap.Ns s.heap.objs.size m)(AG:∀b o,s.heap.get? b=some o->s4.heap.get? b=some o) :
  Inv (E_ X scope N cl s.heap.objs.size s H Ae) [] (Mb nl caps σ) H s4:=by
 refine⟨⟨I.ok.mod,?_,I.ok.glob,I.ok.blt,By _,Yf,λx A5=>?_,λx c z e=>?_,I.ok.hd,I.ok.frames,.inl rfl,λb J=>⟨ET (DI b J),λx c e=>(k1 x c e).elim (λe=>(hf b J).2.2.2.2.1 x c e) λe=>ML (L_ (DI b J) e.2.1)⟩,I.bs,Eg I.ok.OV I.Kx,λb o e J=>?_,λb J hs=>?_,I.stack,I.dz⟩,
  Q8,?_,Fd.kept AG,?_,λx c e=>?_,I.BE.fresh (By _),λx c e=>(k1 x c e).elim (I.N0 x c) λe=>I.BE.fresh (MK e.2.1),λp AW=>absurd (show p∈([]:List (Z×Obj))from AW) (by simp),I.BE.kept AG,?_⟩
 .show(KC scope X.env).kind=.function;exact S.kind
 .have A5:(KC scope X.env).names.lookup x=some .cell\/(KC scope X.env).names.lookup x=some .free:=A5;have hm:(x,Il)∈scope.names\/scope.names.lookup x=some .cell:=by
   rcases A5 with h|h
   .rcases dZ h with m|⟨_,m⟩
    .exact .inr (S.uniq _ m)
    .exact .inl m
   .rcases dZ h with m|⟨e,_⟩
    .exact .inl m
    .cases e
  rcases hm with hm|hm
  rotate_left
  .obtain⟨c,e,_⟩:=k3 x hm;exact⟨c,e⟩
  have Ac:=S.free _ hm rfl;have AB:∃c,X.env.cells.lookup x=some c:=by
   apply I.ok.has x;show X.env.scope.names.lookup x=some .cell\/X.env.scope.names.lookup x=some .free;cases e:X.env.scope.names.lookup x with
   |none=>rw[e]at Ac;cases Ac
   |some k=>
    rw[e]at Ac
    cases k<;>first
     |exact .inl rfl
     |exact .inr rfl
     |cases Ac
  obtain⟨c,e⟩:=AB;exact⟨c,by show cl.lookup x=some c;rw[k2 x hm];exact e⟩
 .obtain⟨E1,Bi,q⟩:=k3 x (eq_of_beq z);rw[show cl.lookup x=some c from e]at Bi;cases Bi;exact MK q
 .rcases(hf b J).2.2.2.1 with z|z
  .exact I.ok.RI b o e z
  .exact absurd (Gk (Cv (I.ok.bs b o e).1) z) (IK _)
 .rcases List.mem_cons.mp (I.a6 b hs)with z|z
  .exact(hf b J).2.1 z
  .exact(hf b J).2.2.1 z
 .rw[AQ];exact I.bare
 .obtain⟨m,AR⟩:=AR;refine⟨m,AR,λi x v h1 h2 h3=>?_⟩;have hN:N[i]?=some x:=h1;unfold Mb at h2;by_cases A0:i<nl
  .rw[Gl (by simpa using A0),NE,if_pos A0]at h2;cases h2
  .rw[GU (by simpa using A0),Re,EH]at h2;cases e:caps[i-nl]? with
   |none=>rw[e]at h2;cases h2
   |some j=>
    rw[e]at h2;have h2: σ.getD j none=some v:=Dz h2;obtain⟨y,A1,A7,UX,Ga⟩:=S.tn _ _ e;have B8:(y,Il)∈scope.names:=MI UX;have D9:Gx X.env.scope y:=by
     cases q:X.env.scope.names.lookup y with
     |none=>rw[q]at Ga;cases Ga
     |some k=>
      rw[q]at Ga
      cases k<;>first
       |exact .inr (.inl q)
       |exact .inr (.inr q)
       |cases Ga
    have Fy:nl+(i-nl)=i:=by lia
    rw[Fy,hN]at A7;cases A7;have hs: σ[j]?=some (some v):=by
     rw[Hc]at h2;cases q: σ[j]? with
     |none=>rw[q]at h2;cases h2
     |some o=>rw[q]at h2;exact congrArg some h2
    obtain⟨m0,_,AF⟩:=I.loc;obtain⟨u,r,l⟩:=AF j x v A1 hs D9;refine⟨u,r,.inr ⟨?_,?_⟩⟩
    .show(KC scope X.env).names.lookup x=some .cell\/(KC scope X.env).names.lookup x=some .free;rcases h3 with h3|h3|h3
     .have h3:(KC scope X.env).names.lookup x=some .local:=h3;rcases dZ h3 with z|⟨z,_⟩
      .have CP:scope.names.lookup x=some .local:=S.locs _ z rfl;rw[CP]at UX;cases UX
      .cases z
     .exact .inl h3
     .exact .inr h3
    .have Ac:X.env.scope.names.lookup x≠some .local:=λz=>by rw[z]at Ga;cases Ga
     rcases l with⟨z,_⟩|⟨_,c,DD,CP⟩
     .exact absurd z Ac
     .refine⟨c,?_,CP.keeps AG⟩;show cl.lookup x=some c;rw[k2 x B8];exact DD
 .rcases k1 x c e with e|e
  .obtain⟨v,z⟩:=I.cell x c e;exact⟨v,z.keeps AG⟩
  .exact⟨_,e.2.2⟩
 .show(Mb nl caps σ).length=N.length;unfold Mb;rw[K5,Re,Eh,S.len]
def yw{pins:List (Z×Obj)}{σ σ' :St}{H H':A4}{s s':AD}{cl:List (Str×Z)}{Ae:List Z}{h':Aq}(I:Inv X pins σ H s)(hf:∀b∈Ae,Jv X pins H b)(Bp:Inv (E_ X scope N cl s.heap.objs.size s H Ae) [] σ' H' s')(hs:IL s.heap.objs.size s'.heap h'):Inv X pins σ H' { s' with heap:=h' }:=by
 have ne:∀b o,s.heap.get? b=some o->b≠s.heap.objs.size:=λb o e=>ET (Cv e);have u:Fd (EP X.stack) Ae H H' s.heap s'.heap:=Bp.base;have fr:H' s.heap.objs.size=none:=Bp.free;refine I.uL (ch:=Ae) (s':={ s' with heap:=h' }) Bp.os ⟨λb o e n J A5=>(hs.2 b (ne b o e)).trans (u.keep b o e n J A5),λb o e n J A5=>?_,u.free,λb o e A5=>?_,u.L0,u.KY,u.Kz⟩ (λb o e=>?_) Bp.bare λb J=>?_
 .obtain⟨BY,q⟩:=u.slot b o e n J A5;exact⟨BY,(hs.2 b (ne b o e)).trans q⟩
 .obtain⟨BM,q⟩:=u.there b o e A5;exact⟨BM,(hs.2 b (ne b o e)).trans q⟩
 .refine(Bp.BE b o e).Nr (λc v AB q=>(hs.2 c ?_).trans q) (λ_ q=>q) λ_ _ q=>q;rintro rfl;rcases AB with z|z
  .rw[<-z,fr]at e;cases e
  .rw[fr]at z;cases z
 .obtain⟨_,f1,_,F2,f4,IH⟩:=hf b J;exact⟨F2,f1,f4,IH⟩
def jv {pins:List (Z×Obj)} {σ :St} {s2:AD} {Ab:A4} {it:Z} {Ae:List Z} {Fq:Nat->Aq->Prop} {Bp:It} {E:U->AD->Prop} {Q:A4->Prop} {W:Nat->Nat->St->A4->Prop} {m0:Nat}(S:M6 X.env.scope X.N scope N nl caps) (AB:X.calm=true) (Bu:Inv X pins σ Ab s2) (T:Turn X.prog X.w X.K target Bp Ae it Fq) (LS:Fq 0 s2.heap) (f2:∀b∈Ae,Jv X pins Ab b)(AQ:∀cl C s H Ae,Iw (E_ X scope N cl C s H Ae) target g) (BF:∀cl C s H Ae,Oe (E_ X scope N cl C s H Ae) ifs tc) (he:∀cl C s H Ae,Al (E_ X scope N cl C s H Ae) elt te)(M2:W 0 m0 (Mb nl caps σ) (upd Ab s2.heap.objs.size (.lst [])))(turn:∀i m σ' H',W i m σ' H'->(Bp.stop i H'/\Q H')\/
    (Bp.go i H'/\∀x CI,Bp.Jt i H' x CI->g x σ' CI λσ2 Gv=>tc σ2 Gv λb Ir=>
       if b=true then te σ2 Ir λy M8=>∃ys,M8 s2.heap.objs.size=some (.lst ys)/\ys.length<CH/\∃CM,CM<m/\W (i+1) CM σ2 (upd M8 s2.heap.objs.size (.lst (ys++[y])))
       else ∃CM,CM<m/\W (i+1) CM σ2 Ir))
  (UI:U->Z->Result->AD->Prop)
  (vc:∀(C:Z) s' H',(∃m,s'.heap.Ns C m)->Jv X pins H' C->(∀h',IL C s'.heap h'->Inv X pins σ H' { s' with heap:=h' })->Q H'->UI (.ref s2.heap.objs.size) C (.ok .next) s') :
  AU (Ai X.prog X.w) X.A (newList []) (λacc Oq=>AU (Ai X.prog X.w) X.A (gG scope X.env.globals (Gy X.env scope.names []) [] X.env.qual none .none (some X.env)) (λjn a8=>
   Ld (Ai X.prog X.w) X.A (.compStart (.ListComp elt [⟨target,iter,ifs,0⟩] scope pos) 0 (.ref it) acc { jn with scope:=KC scope X.env }) (UI acc jn.locals) a8) E Oq) E s2:=by
 have YP:∀p∈scope.names,p.2=.free->∃c,X.env.cells.lookup p.1=some c:=λp AW e=>by
  have q:=S.free p AW e;apply Bu.ok.has p.1;show X.env.scope.names.lookup p.1=some .cell\/X.env.scope.names.lookup p.1=some .free;cases A7:X.env.scope.names.lookup p.1 with
  |none=>rw[A7]at q;cases q
  |some k=>
   rw[A7]at q
   cases k<;>first
    |exact .inl rfl
    |exact .inr rfl
    |cases q
 have Qd:∀x,(Gy X.env scope.names []).lookup x=if(x,Il)∈scope.names then X.env.cells.lookup x else none:=λx=>jq scope.names [] YP
 have N4:Ab s2.heap.objs.size=none:=Bu.BE.fresh (By _);refine Ks (aaU ?_);dsimp only;have Dp:Inv X pins σ (upd Ab s2.heap.objs.size (.lst [])) { s2 with heap:=s2.heap.push { cls:=.type "list",dict:=none,data:=.seq ([]:List U).toArray } }:=Bu.o5 (its:=[]) (ys:=[]) (t':=s2.toks) .nil (GV _);generalize aW:({ s2 with heap:=s2.heap.push { cls:=.type "list",dict:=none,data:=.seq ([]:List U).toArray } }:AD)=s3 at Dp;have b1:s2.heap.push { cls:=.type "list",dict:=none,data:=.seq ([]:List U).toArray }=s3.heap:=by rw[<-aW]
 rw[b1];have nc:∀b o,s2.heap.get? b=some o->s3.heap.get? b=some o:=λb o e=>by rw[<-b1];exact Cr _ e
 have aer:s3.heap.objs.size=s2.heap.objs.size+1:=by rw[<-b1,K2]
 have TN:=hb scope.names (s3.heap.objs.size+1) [] (Gy X.env scope.names []);have ok:=cellsFrom_ok scope.names (s3.heap.push { cls:=.type "dict",data:=.dict #[] }) (s3.heap.objs.size+1) [] ⟨λ_ _ hm=>(nomatch hm),sB⟩ (by rw[K2];exact By _);have lW:=(Heap.Ns.new s3.heap (.type "dict")).keeps (pushCells_keeps scope.names _);have Yh:∀b o,s3.heap.get? b=some o->(pushCells (s3.heap.push { cls:=.type "dict",data:=.dict #[] }) scope.names).get? b=some o:=λb o e=>pushCells_keeps _ _ b o (Cr _ e);rw[K2]at ok;rw[List.nil_append]at TN;rw[TN];generalize pushCells (s3.heap.push { cls:=.type "dict",data:=.dict #[] }) scope.names=Kc at lW Yh ok |-;have old:∀x c,X.env.cells.lookup x=some c->c<s3.heap.objs.size:=λx c e=>by obtain⟨v,z⟩:=Dp.cell x c e;exact z.lt
 have k0:∀x c,(HA (s3.heap.objs.size+1) scope.names []++Gy X.env scope.names []).lookup x=some c->((x,c)∈HA (s3.heap.objs.size+1) scope.names []/\scope.names.lookup x=some .cell/\s3.heap.objs.size<c/\Kc.IsCell c none)\/X.env.cells.lookup x=some c:=λx c e=>by
  rw[fq]at e;cases A1:(HA (s3.heap.objs.size+1) scope.names []).lookup x with
  |some E1=>
   rw[A1]at e;have e:E1=c:=Dz e;subst e;have m:=MI A1;rcases Xe _ _ _ m with z|z
   .exact .inl ⟨m,S.uniq _ z,(ok.empty _ _ m).2,(ok.empty _ _ m).1⟩
   .cases z
  |none=>
   rw[A1]at e;have e:(Gy X.env scope.names []).lookup x=some c:=e;rw[Qd]at e
   split at e
   .exact .inr e
   .cases e
 have k2:∀x,(x,Il)∈scope.names->(HA (s3.heap.objs.size+1) scope.names []++Gy X.env scope.names []).lookup x=X.env.cells.lookup x:=λx A5=>by
  rw[fq];cases A1:(HA (s3.heap.objs.size+1) scope.names []).lookup x with
  |some E1=>
   rcases Xe _ _ _ (MI A1)with z|z
   .have A_:=S.uniq _ z;have B4:=S.uniq _ A5;dsimp only at A_ B4;rw[A_]at B4;cases B4
   .cases z
  |none=>show(Gy X.env scope.names []).lookup x=_;rw[Qd,if_pos A5]
 have k3:∀x,scope.names.lookup x=some .cell->∃c,(HA (s3.heap.objs.size+1) scope.names []++Gy X.env scope.names []).lookup x=some c/\s3.heap.objs.size<c:=λx A5=>by obtain⟨c,e⟩:=ha (n:=s3.heap.objs.size+1) A5;exact⟨c,by rw[fq,e];rfl,(ok.empty _ _ (MI e)).2⟩
 have Yf:∀x y c,(HA (s3.heap.objs.size+1) scope.names []++Gy X.env scope.names []).lookup x=some c->(HA (s3.heap.objs.size+1) scope.names []++Gy X.env scope.names []).lookup y=some c->x=y:=λx y c h1 h2=>by
  rcases k0 x c h1 with DD|DD<;>rcases k0 y c h2 with CP|CP
  .exact name_of_addr ok.apart DD.1 CP.1
  .exact absurd (old y c CP) (Nat.not_lt_of_gt DD.2.2.1)
  .exact absurd (old x c DD) (Nat.not_lt_of_gt CP.2.2.1)
  .exact Dp.ok.inj x y c DD CP
 have k1:∀x c,(HA (s3.heap.objs.size+1) scope.names []++Gy X.env scope.names []).lookup x=some c->X.env.cells.lookup x=some c\/(scope.names.lookup x=some .cell/\s3.heap.objs.size<c/\Kc.IsCell c none):=λx c e=>(k0 x c e).elim (λz=>.inr z.2) .inl;generalize HA (s3.heap.objs.size+1) scope.names []++Gy X.env scope.names []=cl at k0 k1 k2 k3 Yf |-;have lU:∀b∈Ae,b<s2.heap.objs.size:=λb J=>by obtain⟨o,e,_⟩:=T.obj 0 _ LS b J;exact Cv e
 have F2:∀b∈Ae,Jv X pins (upd Ab s2.heap.objs.size (.lst [])) b:=λb J=>by obtain⟨Hj,a1⟩:=f2 b J;exact⟨by rw[Co (ET (lU b J))];exact Hj,a1⟩
 have b5:∀b∈Ae,b<s3.heap.objs.size:=λb J=>by rw[aer];exact Wy (lU b J)
 have loop:∀s4:AD,s4={ s3 with heap:=Kc }->
   Ld (Ai X.prog X.w) X.A (.compLoop (.ListComp elt [⟨target,iter,ifs,0⟩] scope pos) 0 (.ref it) (.ref s2.heap.objs.size) (compEnvC scope cl s3.heap.objs.size X.env))
    (UI (.ref s2.heap.objs.size) s3.heap.objs.size) s4:=by
  intro s4 TK;have LW:Inv (E_ X scope N cl s3.heap.objs.size s3 (upd Ab s2.heap.objs.size (.lst [])) Ae) [] (Mb nl caps σ) (upd Ab s2.heap.objs.size (.lst [])) s4:=
   xf S Dp (by rw[TK];exact k1) k2 k3 Yf F2 b5 (by rw[TK]) (by rw[TK]) ⟨_,by rw[TK];exact lW⟩ (by rw[TK];exact Yh)
  have aeU:Fq 0 s4.heap:=T.keep 0 _ _ LS λb J o e=>by rw[TK];exact Yh b o (nc b o e)
  generalize LD:E_ X scope N cl s3.heap.objs.size s3 (upd Ab s2.heap.objs.size (.lst [])) Ae=B at LW;have stat:∀{H':A4},(∀b∈Ae,H' b=none)->∀b∈Ae,Jv B [] H' b:=λ{H'} AR b J=>by
   subst LD;obtain⟨Hj,a1,a2,Du,GE,KO⟩:=F2 b J;refine⟨AR b J,ET (b5 b J),λz=>?_,.inl J,λx c e=>?_,λp AW=>absurd (show p∈([]:List (Z×Obj))from AW) (by simp)⟩
   .rcases List.mem_cons.mp (Dp.a6 b z)with q|q
    .exact a1 q
    .exact a2 q
   .rcases k1 x c e with e|e
    .exact GE x c e
    .exact ML (L_ (b5 b J) e.2.1)
  have w1:Iw B target g:=by subst LD;exact AQ _ _ _ _ _
  have wh:Oe B ifs tc:=by subst LD;exact BF _ _ _ _ _
  have vx:Al B elt te:=by subst LD;exact he _ _ _ _ _
  have U6:B.prog=X.prog:=by subst LD;rfl
  have Hn:B.w=X.w:=by subst LD;rfl
  have jZ:B.K=X.K:=by subst LD;rfl
  have ub:B.A=X.A:=by subst LD;rfl
  have hi:B.env=compEnvC scope cl s3.heap.objs.size X.env:=by subst LD;rfl
  have j3:B.calm=true:=by subst LD;exact AB
  have v0:B.xe=λ_ _=>False:=by subst LD;rfl
  rw[<-U6,<-Hn,<-ub,<-hi];refine tz (λn s'=>∃i σ' H',Inv B [] σ' H' s'/\Fq i s'.heap/\(∀b∈Ae,H' b=none)/\W i n σ' H') ?_ m0 ⟨0,_,_,LW,aeU,λb J=>(F2 b J).1,M2⟩;rintro n s5 ⟨i,σ5,Ir,SF,Sb,Xr,er⟩;have away:∀{α:Type}{t:Sem α}{iN:α->AD->Prop}{tA:U->AD->Prop}{Np:AD},AU (Ai B.prog B.w) B.A t iN B.xe Np->AU (Ai B.prog B.w) B.A t iN tA Np:=λh=>H9 h (λ_ _ q=>q) λe s' z=>by rw[v0]at z;cases z
  rcases turn i n σ5 Ir er with⟨stop,q⟩|⟨go,step⟩
  .have d:=T.done B U6 Hn jZ j3 i [] s5 σ5 Ir (OQ (Ai B.prog B.w) B.A B.env λe s'=>UI (.ref s2.heap.objs.size) s3.heap.objs.size (.error e) s') SF (stat Xr) Sb stop;rw[<-U6,<-Hn]at d;refine BS d λr Jm⟨AS,Ug⟩=>?_;subst AS;refine vc _ Jm Ir ?_ (Dp.PP (By _) ?_) (λh' LG=>?_) q
   .obtain⟨m,AR,_⟩:=Ug.loc;rw[hi]at AR;exact⟨m,AR⟩
   .have z:=Ug.free;rw[hi]at z;exact z
   .subst LD;exact yw Dp F2 Ug LG
  .have d:=T.item B U6 Hn jZ j3 i [] s5 σ5 Ir (OQ (Ai B.prog B.w) B.A B.env λe s'=>UI (.ref s2.heap.objs.size) s3.heap.objs.size (.error e) s') SF (stat Xr) Sb go;rw[<-U6,<-Hn]at d;refine BS d λr Jm⟨u,AS,h6⟩=>?_;subst AS;refine BS h6 λ_ EK⟨x,FL,KV,F4,aib,eo,wA⟩=>?_;have tH:=KV.pinned (stat wA) (T.obj _ _ eo);refine away (BS (w1 _ EK σ5 FL x u _ tH F4 (step x FL aib)) λ_ No⟨σ8,M9,tI,LQ⟩=>?_);refine away (BS (wh _ No σ8 M9 _ tI LQ) λb HK⟨tC,iy,RM⟩=>?_);have again:∀{σa:St}{Fa:A4}{Np:AD},Inv B ([]++Vr Ae EK.heap) σa Fa Np->(∃CM,CM<n/\W (i+1) CM σa Fa)->∃m,m<n/\∃i σ' H',Inv B [] σ' H' Np/\Fq i Np.heap/\(∀b∈Ae,H' b=none)/\W i m σ' H':=λ{σa Fa Np} gb⟨CM,hm,afd⟩=>by
    refine⟨CM,hm,i+1,σa,Fa,gb.aK,T.keep _ _ _ eo λb J o e=>(gb.pin (b,o) (Ii _ (Ii _ (Zu J e)))).1,λb J=>?_,afd⟩;obtain⟨o,e,d⟩:=T.obj _ _ eo b J;exact(gb.pin (b,o) (Ii _ (Ii _ (Zu J e)))).2.1
   cases b with
   |false=>exact again iy RM
   |true=>show AU _ _ (BC elt B.env) _ _ HK;refine away (BS (vx _ HK σ8 tC _ iy RM) λf5 ae1⟨y,iw,tE,Bm,ys,A2,Aj,dV⟩=>?_);refine away (BS (Zw _ ae1 σ8 iw (.ref s2.heap.objs.size) [y] (.ref s2.heap.objs.size) [f5] (λ_ ix=>ix=upd iw s2.heap.objs.size (.lst (ys++[y]))) tE rfl (.cons Bm .nil) ⟨_,ys,y,rfl,rfl,A2,Aj,rfl⟩) λ_ Z5⟨z,ix,tF,_,u_⟩=>?_);subst u_;exact again tF dV
 exact codeAny_compStart_list (loop _ (by rw[<-aW])) (T.self X.A 0 _ _ _ (T.keep 0 _ _ LS λb J o e=>Yh b o (nc b o e)) (loop _ (by rw[<-aW])))
def lP{pins:List (Z×Obj)}{σ :St}{s:AD}{H:A4}(S:M6 X.env.scope X.N scope N nl caps)(I:Inv X pins σ H s):∀p∈scope.names,p.2=.free->∃c,X.env.cells.lookup p.1=some c:=λp AW e=>by
 have q:=S.free p AW e;apply I.ok.has p.1;show X.env.scope.names.lookup p.1=some .cell\/X.env.scope.names.lookup p.1=some .free;cases A7:X.env.scope.names.lookup p.1 with
 |none=>rw[A7]at q;cases q
 |some k=>
  rw[A7]at q
  cases k<;>first
   |exact .inl rfl
   |exact .inr rfl
   |cases q
def nO(S:M6 X.env.scope X.N scope N nl caps)(AB:X.calm=true)(A0:Fv X target iter Ih)(AQ:∀cl C s H Ae,Iw (E_ X scope N cl C s H Ae) target g)(BF:∀cl C s H Ae,Oe (E_ X scope N cl C s H Ae) ifs tc)(he:∀cl C s H Ae,Al (E_ X scope N cl C s H Ae) elt te)(hs:∀x,JS iter X.env x=pure x:=by intro _;rfl):Al X (.ListComp elt [⟨target,iter,ifs,0⟩] scope pos) (RS Ih g tc te nl caps):=by intro pins s σ H Q I h;rw[eval_ListComp];refine wpAny_comprehension_free (use:=none) rfl hs (jr (lP S I)) S.kind S.locs ?_;refine BS (A0 pins s σ H _ I h) λv s1 h1=>BS h1 λYd s2 h2=>?_;obtain⟨it,Ae,Fq,Bp,Ab,e,Bu,T,LS,f2,k⟩:=h2;subst e;obtain⟨W,⟨m0,M2⟩,turn⟩:=k s2.heap.objs.size (Bu.BE.fresh (By _));refine jv (Q:=λH'=>Q (.ref s2.heap.objs.size) H') S AB Bu T LS f2 AQ BF he M2 turn (λacc C=>compPost (Ai X.prog X.w) X.A X.xe none (Fs X pins σ Q) acc C) ?_;intro C s' H' AR _ Jd q;obtain⟨m,AR⟩:=AR;exact⟨m,AR,λh' LG=>⟨.ref s2.heap.objs.size,H',Jd h' LG,rfl,q⟩⟩
def pE{i:Nat}{y:Str}{py Z_:Pos}(S:M6 X.env.scope X.N scope N nl caps)(AB:X.calm=true)(hN:X.N.Nodup)(Ao:X.N[i]?=some y)(AF:X.env.kindOf y=some .local)(A0:Fv X target iter Ih)(AQ:∀cl C s H Ae,Iw (E_ X scope N cl C s H Ae) target g)(BF:∀cl C s H Ae,Oe (E_ X scope N cl C s H Ae) ifs tc)(he:∀cl C s H Ae,Al (E_ X scope N cl C s H Ae) elt te)(OD:Kw (.ListComp elt [⟨target,iter,ifs,0⟩] scope pos) (some (.Name y py)) Z_.line X.env=pure true:=by rfl)(hs:∀x,JS iter X.env x=pure x:=by intro _;rfl):Cf X (.Assign [.Name y py] (.ListComp elt [⟨target,iter,ifs,0⟩] scope pos) Z_) (Kl (RS Ih g tc te nl caps) (H4 i)):=by
 intro pins s σ H Bw I h;rw[exec_Assign_Name_used _ _ _ _ OD];refine AH (wpAny_standAt (AH ?_));show AU _ X.A (do let _ <-comprehension (.ListComp elt [⟨target,iter,ifs,0⟩] scope pos) scope X.env _ (newList []) false (BC iter X.env) (some (KD (.Name y py) X.env))) _ _ s;refine AH (H9 (wpAny_comprehension_free (use:=some (KD (.Name y py) X.env)) (Q:=λ_ s'=>Qq X pins Bw .next s') rfl hs (jr (lP S I)) S.kind S.locs ?_) (λ_ s' Ac=>An (An Ac)) λ_ _ e=>e);refine BS (A0 pins s σ H _ I h) λv s1 h1=>BS h1 λYd s2 h2=>?_;obtain⟨it,Ae,Fq,Bp,Ab,e,Bu,T,LS,f2,k⟩:=h2;subst e;obtain⟨W,⟨m0,M2⟩,turn⟩:=k s2.heap.objs.size (Bu.BE.fresh (By _));refine jv (Q:=λH'=>Bw.BK (σ.set i (some (.ref s2.heap.objs.size))) H') S AB Bu T LS f2 AQ BF he M2 turn (λacc C=>compPost (Ai X.prog X.w) X.A X.xe (some (KD (.Name y py) X.env)) (λ_ s'=>Qq X pins Bw .next s') acc C) ?_;intro C s' H' AR IJ Jd q;obtain⟨m,AR⟩:=AR;show AU _ X.A (KD (.Name y py) X.env (.ref s2.heap.objs.size)) _ _ s';have KU:Inv X pins σ H' s':=Jd s'.heap (sC _ _);refine wpAny_assign_Name (pS (v:=.ref s2.heap.objs.size) KU hN Ao (.inl AF) (show RelV (V.ref _) _ from rfl) (λJL tD xV=>?_) (.inr AF));obtain⟨a,xU,A2⟩:=xV;obtain⟨c0,c1,c2,c3,Mv,h_⟩:=IJ;have ab3:C≠a:=by
  rcases A2 with z|z
  .rw[z];exact c1
  .exact λw=>Mv y a z w.symm
 refine⟨m,AR.sameBut xU ab3,λh' LG=>?_⟩;exact⟨_,H',tD.turned (t':=JL.toks) (it:=C) (λb o J e=>(LG.2 b J).trans e) c0 c1 c3 Mv h_,q⟩
end
structure Xv(P:BR)(w:BA)(outer:List Env)(H H':A4)(s:AD)(a:Z)(C Hj:U)(B:Aq)(s':AD):Prop where
 os:s'.os=s.os
 bare:MP s'.gens
 un:Fd (EP outer) [] H H' s.heap s'.heap
 bW:Heap.FlyingW B outer a C Hj s'.heap
 old:∀b o,s.heap.get? b=some o->H b=none->b∉EP outer->B.get? b=some o
 eG:∀b o,s.heap.get? b=some o->b∉EP outer->∃BM,B.get? b=some BM
 BE:Dx P w H' B
 A2:H' a=none
def HM(P:BR)(w:BA):KS:=λouter H s E e s'=>∃(a:Z)(C Hj:U)(B:Aq)(H':A4),e=.ref a/\Xv P w outer H H' s a C Hj B s'/\E C (some a) H'
section
variable{X:AX}{pins:List (Z×Obj)}{σ :St}{H H':A4}{s s':AD}{a:Z}{C Hj:U}{B:Aq}
def Dx.part(x:Dx X.prog X.w H s.heap)(k:∀b u,(H b).isSome=true->s.heap.get? b=some u->B.get? b=some u):Dx X.prog X.w H B:=λb o e=>
 (x b o e).Nr (λc u AB q=>k c u (by rcases AB with rfl|AB<;>simp[*]) q) (λ_ q=>q) λ_ _ q=>q
def ly{env:Env}{outer:List Env}{L:Z}(h:env.frame=some L){b:Z}(J:b∈EP (env::outer)):b=L\/b∈EP outer:=by unfold EP at J;rw[RX,h]at J;exact List.mem_cons.mp J
def Inv.zc{M:Model}{A:Bk}{E:U->AD->Prop}{h':Aq}{vs:List U}{Q:Unit->AD->Prop}(I:Inv X pins σ H s)(GO:X.stack=X.env::X.outer)(TG:X.env.frame=some X.env.locals)(hex:X.ex=[])(J7:A.frames=some X.stack)(A5:Heap.MadeExcOf s.heap h' a C vs)(Dn:∀Hj B JL,Xv X.prog X.w X.outer X.Ql H X.FF a C Hj B JL->Q () JL):AU M A (leaving X.env (.ref a)) Q E { s with heap:=h' }:=by
 have lR:∀env∈X.stack,∀b,env.frame=some b->b∈EP X.stack:=λenv he b J=>List.mem_filterMap.mpr ⟨env,he,J⟩;have O7:∀b o,s.heap.get? b=some o->b∉EP X.stack->(Wt s.heap (EP X.stack)).get? b=some o:=λb o q n=>sF _ q n;have OC:∀b o,X.FF.heap.get? b=some o->b∉EP X.outer->b∉EP X.stack:=λb o q n z=>by
  rw[GO]at z;rcases ly TG z with r|r
  .subst r;exact absurd (Gk (Cv q) I.ok.above) (IK _)
  .exact n r
 have I3:∀b,b∉X.ex:=λb z=>by rw[hex]at z;cases z
 refine PySem.wpAny_leaves_madeW (base:=Wt s.heap (EP X.stack)) (h:=s.heap) (by rw[J7,GO]) TG (λb o q=>sH _ q) (by have:=PySem.W.funFrames_hide (as:=EP X.stack) I.stack lR;rw[GO]at this |-;exact this) A5 λmC t H7 H8 Pc Pd=>?_;refine Dn (.ref t) (Wt s.heap (EP X.stack)) _ ⟨I.os,I.bare,⟨?_,?_,?_,?_,I.base.L0,I.base.KY,I.base.Kz⟩,H7,?_,?_,?_,?_⟩
 .exact λb o q n J _=>H7.1 b o (O7 b o (I.base.keep b o q n J (I3 b)) (OC b o q J))
 .intro b o q n J _;obtain⟨BY,A_⟩:=I.base.slot b o q n J (I3 b);obtain⟨_,BM,D_,Jk⟩:=I.ok.J_.mem J;rw[q]at D_;cases D_;obtain⟨LR,B4⟩:=Pd b _ (A5.keeps b _ A_) Jk;exact⟨LR,B4⟩
 .exact λb o q n _=>I.base.free b o q n (I3 b)
 .intro b o q _;by_cases J:b∈EP X.outer
  .obtain⟨_,BM,D_,_⟩:=H7.2.2.1.mem J;exact⟨BM,D_⟩
  .obtain⟨BM,D_⟩:=I.base.there b o q (I3 b);exact⟨BM,H7.1 b BM (O7 b BM D_ (OC b o q J))⟩
 .exact λb o q n J=>O7 b o (I.base.keep b o q n J (I3 b)) (OC b o q J)
 .intro b o q J;obtain⟨BM,D_⟩:=I.base.there b o q (I3 b);exact⟨BM,O7 b BM D_ (OC b o q J)⟩
 .exact Dx.part (X:=X) (s:=s) I.BE λb u hs q=>O7 b u q λz=>by rw[I.dz b z]at hs;cases hs
 .cases q:H a with
  |none=>rfl
  |some o=>
   have k:∀o:D2,E5 X.prog X.w H s.heap a o->∃u,s.heap.get? a=some u:=λo x=>by
    induction o with
    |lst xs=>obtain⟨_,_,_,_,e⟩:=x;exact⟨_,e⟩
    |tup xs=>obtain⟨_,_,_,_,e,_⟩:=x;exact⟨_,e⟩
    |DM Ay=>obtain⟨_,_,_,_,o,_,_,e,_⟩:=x;exact⟨_,e⟩
    |BN Ay=>obtain⟨_,_,_,_,o,_,_,e,_⟩:=x;exact⟨_,e⟩
    |set S n=>obtain⟨o,_,_,_,e,_⟩:=x;exact⟨_,e⟩
    |ins C Av Am=>obtain⟨_,_,_,e,_⟩:=x;exact⟨_,e⟩
    |own y=>obtain⟨_,e⟩:=x;exact⟨_,e⟩
    |Zx Am=>obtain⟨_,⟨_,_,_,e,_⟩,_⟩:=x;exact⟨_,e⟩
    |Z3 lo A0=>obtain⟨_,_,_,e⟩:=x;exact⟨_,e⟩
    |JZ ob u=>obtain⟨e,_⟩:=x;exact⟨_,e⟩
    |Os ps=>exact⟨_,(show s.heap.get? a=some _ from x)⟩
    |met f y=>exact⟨_,(show s.heap.get? a=some _ from x)⟩
    |ext R3=>obtain⟨_,⟨_,e⟩,_⟩:=x;exact⟨_,e⟩
   obtain⟨u,e⟩:=k o (I.BE a o q);rw[A5.new]at e;cases e
def Inv.zd{M:Model}{A:Bk}{E:U->AD->Prop}{Q:Unit->AD->Prop}(I:Inv X pins σ H s)(GO:X.stack=X.env::X.outer)(TG:X.env.frame=some X.env.locals)(hex:X.ex=[])(J7:A.frames=some X.stack)(f:Xv X.prog X.w X.stack H H' s a C Hj B s')(Dn:∀JL,Xv X.prog X.w X.outer X.Ql H' X.FF a C Hj B JL->Q () JL):AU M A (leaving X.env (.ref a)) Q E s':=by
 have OC:∀b o,X.FF.heap.get? b=some o->b∉EP X.outer->b∉EP X.stack:=λb o q n z=>by
  rw[GO]at z;rcases ly TG z with r|r
  .subst r;exact absurd (Gk (Cv q) I.ok.above) (IK _)
  .exact n r
 have xP:∀b,b∈EP X.outer->b∈EP X.stack:=λb z=>by rw[GO];unfold EP;rw[RX,TG];exact E3 _ z
 have I3:∀b,b∉X.ex:=λb z=>by rw[hex]at z;cases z
 have no:∀b:Z,b∉([]:List Z):=λb z=>by cases z
 obtain⟨os,bare,un,bW,old,eG,BE,A2⟩:=f;rw[GO]at bW;refine PySem.wpAny_leaves_onW (by rw[J7,GO]) TG bW λmC H7 H8=>?_;refine Dn _ ⟨os.trans I.os,bare,⟨?_,?_,?_,?_,λb xs q=>un.L0 b xs (I.base.L0 b xs q),λb o u q=>un.KY b o u (I.base.KY b o u q),?_⟩,H7,?_,?_,BE,A2⟩
 .exact λb o q n J _=>H7.1 b o (old b o (I.base.keep b o q n J (I3 b)) (I.base.free b o q n (I3 b)) (OC b o q J))
 .intro b o q n J _;obtain⟨BY,A_⟩:=I.base.slot b o q n J (I3 b);obtain⟨_,BM,D_,Jk⟩:=I.ok.J_.mem J;rw[q]at D_;cases D_;obtain⟨W0,B4⟩:=un.slot b _ A_ (I.base.free b o q n (I3 b)) (xP b J) (no b);obtain⟨LR,Cn⟩:=H8 b _ B4 Jk;exact⟨LR,Cn⟩
 .intro b o q n _;obtain⟨BM,D_⟩:=I.base.there b o q (I3 b);exact un.free b BM D_ (I.base.free b o q n (I3 b)) (no b)
 .intro b o q _;by_cases J:b∈EP X.outer
  .obtain⟨_,BM,D_,_⟩:=H7.2.2.1.mem J;exact⟨BM,D_⟩
  .obtain⟨BM,D_⟩:=I.base.there b o q (I3 b);obtain⟨CD,B4⟩:=eG b BM D_ (OC b o q J);exact⟨CD,H7.1 b CD B4⟩
 .intro b ps q;obtain⟨m1,A1⟩:=I.base.Kz b ps q;obtain⟨m2,A7⟩:=un.Kz b _ A1;exact⟨m1++m2,by rw[A7,Array.append_assoc]⟩
 .exact λb o q n J=>old b o (I.base.keep b o q n J (I3 b)) (I.base.free b o q n (I3 b)) (OC b o q J)
 .intro b o q J;obtain⟨BM,D_⟩:=I.base.there b o q (I3 b);exact eG b BM D_ (OC b o q J)
end
def uz{K:AT}{h:Aq}{C:Z}{UP:List U}{newId:String}(X:K.In h)(q:Py K C UP newId=true) :
  ∃bm N nm q bs hdct sn sub ab col dd k0 k1 k2 k3 k5 mN,h.get? C=some (excClassObj nm q C N bs bm hdct sn sub ab col dd k0 k1 k2 k3 k5 newId)/\h.Ns N mN/\mN "__init__"=none/\OwnTail h UP bm:=by
 unfold Py at q
 split at q
 .rename_i dd cd BY AE
  split at q
  .rename_i MQ bm k0 k1 k2 k3 n k5 hm hs;simp only[FR,beq_iff_eq,fc]at q;obtain⟨⟨⟨⟨⟨rfl,rfl⟩,lM⟩,BF⟩,BE⟩,YT⟩:=q;obtain⟨nm,bs,mro,ns,qn,hd,sn,sub,ab,col,del⟩:=cd;dsimp only at hm lM BE YT;subst hm lM;have wd:BY= #[k0,k1,k2,k3,some (.builtin n),k5]:=by
    obtain⟨l⟩:=BY;simp only at hs;rw[hs]
   subst wd;exact⟨bm,ns,nm,qn,bs,hd,sn,sub,ab,col,dd,k0,k1,k2,k3,k5,_,X _ _ AE,.of_isNs (PySem.W.isNs_of_in X BE),PySem.W.nsMap_none_of_in X BE YT,PySem.W.tail_of_in X BF⟩
  .cases q
 .cases q
def rG(X:AX)(C:Z):Ei:=λ_ σ H=>∀pins s h' a vs,Inv X pins σ H s->Heap.MadeExcOf s.heap h' a (.ref C) vs->X.xe (.ref a) { s with heap:=h' }
section
variable{X:AX}{x:Str}{np Ba pos Xf:Pos}{C:Z}{UP:List U}{B newId x_:String}{m:Str}{j:Nat}
def ad8(FB:ExcBaseFacts B newId x_ UP)(q:Py X.K C UP newId=true)(hm:X.AA x=some (.ref C))(AB:X.calm=true:=by rfl)(AQ:DK X x:=by rfl)(hd:(x==("__debug__" :Str))=false:=by decide) :
  Cf X (.Raise (some (.Call (.Name x np) [.Constant (.str m) j Xf] [] Ba)) none pos) (rG X C):=by
 intro pins s σ H D I h;obtain⟨bm,N,nm,qn,bs,hdct,sn,sub,ab,col,dd,k0,k1,k2,k3,k5,mN,IJ,hN,YT,iQ⟩:=uz I.mod.Ou q;refine wpAny_Raise_call_subT (mN:=mN) (C:=C) (nm:=nm) (q:=qn) (N:=N) (bs:=bs) (bm:=bm) (hdct:=hdct) (sn:=sn) (sub:=sub) (ab:=ab) (col:=col) (dd:=dd) (k0:=k0) (k1:=k1) (k2:=k2) (k3:=k3) (k5:=k5) FB (iQ.hasType FB.hasBase) (I.ok.hd AB) rfl YT (YN I AQ hm ⟨rfl,?_⟩ hd);refine fO (Wa (BS (dP (X:=X) (x:=m) (j:=j) (pos:=Xf) pins s σ H (λ_ H1=>H1=H) I rfl) λu s1⟨v,H1,As,A6,A1⟩=>?_));subst A1;refine Wx ⟨rfl,fL rfl,As.F9 _ _ IJ,hN.keeps As.F9,iQ.keeps As.F9,λh' a A5=>h pins s1 h' a _ As A5⟩
def agZ{P:BR}{w:BA}{K:AT}{AA:Str->Option U}{base:Aq}{N:List Str}{qual:Str}{scope:DT}{f:Z}{cd:U}{A:Bk}{outer:List Env}{s0:AD}{Ak:A4}{E:CS}{σ :St}{H:A4}{Bw:Ends}(h:∀a,H a=none->E (.ref C) (some a) H):rG (EE (HM P w) P w K AA base N qual scope f cd A outer s0 Ak E) C Bw σ H:=λpins s h' a vs I A5=>
 I.zc (C:=.ref C) rfl rfl rfl I.ok.frames A5 λHj B JL GK=>⟨a,.ref C,Hj,B,H,rfl,GK,h a GK.A2⟩
def abU{P:BR}{w:BA}{K:AT}{AA:Str->Option U}{base:Aq}{N:List Str}{qual:Str}{scope:DT}{f:Z}{cd:U}{A:Bk}{outer:List Env}{s0:AD}{Ak:A4}{E:CS} :
  Passes (HM P w) (EE (HM P w) P w K AA base N qual scope f cd A outer s0 Ak E) E:=λpins σ H s e s' I A5=>by
 obtain⟨a,C,Hj,B,H',rfl,GK,IR⟩:=A5;exact I.zd (X:=EE (HM P w) P w K AA base N qual scope f cd A outer s0 Ak E) rfl rfl rfl I.ok.frames GK λJL w6=>⟨a,C,Hj,B,H',rfl,w6,IR⟩
end
abbrev uy(a:Z)(C:U):D2:=.ext λh=>∃ob,h.get? a=some ob/\ob.cls=C
section
variable{X:AX}{pins:List (Z×Obj)}{σ :St}{H H':A4}{s s':AD}{a:Z}{C Hj:U}{B:Aq}{mC:Aq}
end
section
variable{X:AX}{k:Nat}{f C:Z}{fd:FH}{ps:List Str}{sp:IE}{E:CS}{x:Str}{p pos:Pos}{e:AN}{es:List AN}{t:Et}
end
section
variable{X:AX}{pins:List (Z×Obj)}{σ :St}{H H':A4}{s s':AD}{a:Z}
end
section
variable{X:AX}{i:Nat}{x n:Str}{W:Z}{e:AN}{te:TE}{E:CS}{uK:BG}{aeb:List BG}{Ap:Ei}{abY np AW pos:Pos}
end
end CE
namespace Cj
open PySem CE
inductive D where
 |non|AO (b:Bool)|int (i:Int)|str (x:Str)
 |tup (xs:List D)|lst (xs:List D)|Cd (xs:List D)
 |DM (ks:List Key) (xs:List D)|BN (ks:List C8) (xs:List D)
 |ins (c:Str) (ns:List Str) (xs:List D)
 |QV (c:Str)
 |EQ (xs:List D)
def Sub(G H:A4):Prop:=∀b o,G b=some o->H b=some o
def Sub.refl(G:A4):Sub G G:=λ_ _ e=>e
def Sub.trans{G H I:A4}(a:Sub G H)(b:Sub H I):Sub G I:=λc o e=>b c o (a c o e)
def Sub.gone{G H:A4}(a:Sub G H){b:Z}(h:H b=none):G b=none:=by
 cases e:G b with
 |none=>rfl
 |some o=>rw[a b o e]at h;cases h
theorem Sub.upd{G:A4}{a:Z}{o:D2}(h:G a=none):Sub G (upd G a o):=λb u e=>by rw[Co (I_ e h)];exact e
def Sub.Ot{G H:A4}{a:Z}{o:D2}(s:Sub G H)(h:G a=none):Sub G (CE.upd H a o):=λb u e=>by rw[Co (I_ e h)];exact s b u e
def Sub.both{G H:A4}{a:Z}{o:D2}(s:Sub G H):Sub (CE.upd G a o) (CE.upd H a o):=λb u e=>by
 by_cases J:b=a
 .subst J;rw[DO]at e |-;exact e
 .rw[Co J]at e |-;exact s b u e
theorem Sub.at{G H:A4}{a:Z}{o:D2}(s:Sub G H)(h:H a=some o):Sub (CE.upd G a o) H:=λb u e=>by
 by_cases J:b=a
 .subst J;rw[DO]at e;rw[h];exact e
 .rw[Co J]at e;exact s b u e
def FT(H:A4)(b:Z):Prop:=H b≠none/\∀xs,H b≠some (.tup xs)
structure Bn(G H G' H':A4):Prop where
 g:Sub G G'
 h:Sub H H'
 n:∀b,FT H b->G' b=G b
def Sub.some{G H:A4}(s:Sub G H){b:Z}(h:G b≠none):H b≠none:=λz=>h (s.gone z)
def Sub.Hu{G H:A4}(s:Sub G H){b:Z}(h:FT G b):FT H b:=by
 cases e:G b with
 |none=>exact absurd e h.1
 |some o=>exact⟨s.some h.1,λxs z=>h.2 xs (e.trans ((s b o e).symm.trans z))⟩
def FT.of{H:A4}{b:Z}{o:D2}(e:H b=some o)(n:∀xs,o≠.tup xs):FT H b:=⟨by rw[e];exact(λz=>nomatch z),λxs z=>n xs (Dz (e.symm.trans z))⟩
theorem Bn.refl(G H:A4):Bn G H G H:=⟨Sub.refl _,Sub.refl _,λ_ _=>rfl⟩
theorem Bn.trans{G H AV H1 Bl Ab:A4}(a:Bn G H AV H1)(b:Bn AV H1 Bl Ab):Bn G H Bl Ab:=⟨a.g.trans b.g,a.h.trans b.h,λc AB=>(b.n c (a.h.Hu AB)).trans (a.n c AB)⟩
def Bn.lay{G H:A4}{p:Z}{o:D2}(s:Sub G H)(AW:H p=none):Bn G H (CE.upd G p o) (CE.upd H p o):=⟨Sub.upd (s.gone AW),Sub.upd AW,λb J=>by rw[Co];intro e;subst e;exact J.1 AW⟩
def Bn.lay0{G H:A4}{p:Z}{o:D2}(AW:H p=none):Bn G H G (CE.upd H p o):=⟨Sub.refl _,Sub.upd AW,λ_ _=>rfl⟩
def Bn.put{G H G' H':A4}{p:Z}{o:D2}(u:Bn G H G' H')(AW:H p=none)(AQ:G' p=none):Bn G H (CE.upd G' p o) H':=⟨u.g.trans (Sub.upd AQ),u.h,λb J=>by
 rw[Co]
 .exact u.n b J
 .intro e;subst e;exact J.1 AW⟩
def FV.mono{G H:A4}(s:Sub G H){a:Z}{u:D2}(r:FV G a u):FV H a u:=by
 rcases r with r|⟨o,r⟩
 .exact .inl (s _ _ r)
 .exact .inr ⟨o,s _ _ r⟩
theorem Bb.mono{K:AT}{G H:A4}(s:Sub G H){a:Z}{xs:List V}(r:Bb K G a xs):Bb K H a xs:=by
 rcases r with r|r
 .exact .inl (FV.mono s r)
 .exact .inr r
theorem CA.mono{K:AT}{G H:A4}(s:Sub G H){a:Z}{xs:List V}(r:CA K G a xs):CA K H a xs:=by
 rcases r with r|r
 .exact .inl (FV.mono s r)
 .exact .inr r
def GA(K:AT)(c:Str)(C:Z):Prop:=El K DQ c=some (some (.ref C))
mutual
noncomputable def At(K:AT)(G:A4):D->V->Prop
 |.non,v=>v=.non
 |.AO b,v=>v=.AO b
 |.int i,v=>v=.int i
 |.str x,v=>v=.str x
 |.tup ds,v=>∃a xs,v=.ref a/\G a=some (.tup xs)/\AP K G ds xs
 |.EQ ds,v=>∃a xs,v=.ref a/\CA K G a xs/\AP K G ds xs
 |.lst ds,v=>∃a xs,v=.ref a/\G a=some (.lst xs)/\AP K G ds xs
 |.Cd ds,v=>∃a xs,v=.ref a/\Bb K G a xs/\AP K G ds xs
 |.DM ks ds,v=>∃a xs,v=.ref a/\G a=some (.DM xs)/\xs.map (·.1)=ks/\AP K G ds (xs.map (·.2))
 |.BN ks ds,v=>∃a xs,v=.ref a/\G a=some (.BN xs)/\xs.map (·.1)=ks/\AP K G ds (xs.map (·.2))
 |.ins c ns ds,v=>∃a Av xs,v=.ref a/\(∃C,GA K c C/\G a=some (.ins C Av xs))/\xs.map (·.1)=ns/\AP K G ds (xs.map (·.2))
 |.QV c,v=>∃(a:Z)(xs:List V),v=.ref a/\(∃C,GA K c C/\G a=some (uy a (.ref C)))/\xs=[]
noncomputable def AP(K:AT)(G:A4):List D->List V->Prop
 |[],vs=>vs=[]
 |d::ds,vs=>∃v r,vs=v::r/\At K G d v/\AP K G ds r
end
mutual
theorem At.mono{K:AT}{G H:A4}(s:Sub G H):∀{d:D}{v:V},At K G d v->At K H d v
 |.non,_,h=>by simpa only[At]using h
 |.AO _,_,h=>by simpa only[At]using h
 |.int _,_,h=>by simpa only[At]using h
 |.str _,_,h=>by simpa only[At]using h
 |.tup _,_,h=>by simp only[At]at h |-;obtain⟨a,xs,e,q,r⟩:=h;exact⟨a,xs,e,s _ _ q,AP.mono s r⟩
 |.EQ _,_,h=>by simp only[At]at h |-;obtain⟨a,xs,e,q,r⟩:=h;exact⟨a,xs,e,CA.mono s q,AP.mono s r⟩
 |.lst _,_,h=>by simp only[At]at h |-;obtain⟨a,xs,e,q,r⟩:=h;exact⟨a,xs,e,s _ _ q,AP.mono s r⟩
 |.Cd _,_,h=>by simp only[At]at h |-;obtain⟨a,xs,e,q,r⟩:=h;exact⟨a,xs,e,Bb.mono s q,AP.mono s r⟩
 |.DM _ _,_,h=>by simp only[At]at h |-;obtain⟨a,xs,e,q,k,r⟩:=h;exact⟨a,xs,e,s _ _ q,k,AP.mono s r⟩
 |.BN _ _,_,h=>by simp only[At]at h |-;obtain⟨a,xs,e,q,k,r⟩:=h;exact⟨a,xs,e,s _ _ q,k,AP.mono s r⟩
 |.ins _ _ _,_,h=>by simp only[At]at h |-;obtain⟨a,Av,xs,e,⟨C,c1,q⟩,k,r⟩:=h;exact⟨a,Av,xs,e,⟨C,c1,s _ _ q⟩,k,AP.mono s r⟩
 |.QV _,_,h=>by simp only[At]at h |-;obtain⟨a,xs,e,⟨C,c1,q⟩,r⟩:=h;exact⟨a,xs,e,⟨C,c1,s _ _ q⟩,r⟩
theorem AP.mono{K:AT}{G H:A4}(s:Sub G H):∀{ds:List D}{vs:List V},AP K G ds vs->AP K H ds vs
 |[],_,h=>by simpa only[AP]using h
 |_::_,_,h=>by simp only[AP]at h |-;obtain⟨v,r,e,q,t⟩:=h;exact⟨v,r,e,At.mono s q,AP.mono s t⟩
end
section
variable{K:AT}{G:A4}
def AP.nil:AP K G [] []:=by simp only[AP]
def AP.cons{d:D}{ds:List D}{v:V}{vs:List V}(h:At K G d v)(t:AP K G ds vs):AP K G (d::ds) (v::vs):=by simp only[AP];exact⟨v,vs,rfl,h,t⟩
theorem AP.length:∀{ds:List D}{vs:List V},AP K G ds vs->ds.length=vs.length
 |[],_,h=>by simp only[AP]at h;subst h;rfl
 |_::_,_,h=>by simp only[AP]at h;obtain⟨v,r,rfl,_,t⟩:=h;simp[AP.length t]
theorem AP.get:∀{ds:List D}{vs:List V}{i:Nat}{d:D},AP K G ds vs->ds[i]?=some d->∃v,vs[i]?=some v/\At K G d v
 |[],_,_,_,_,e=>by simp at e
 |_::_,_,0,_,h,e=>by simp only[AP]at h;obtain⟨v,r,rfl,q,t⟩:=h;simp at e;subst e;exact⟨v,by simp,q⟩
 |_::_,_,i+1,d,h,e=>by simp only[AP]at h;obtain⟨v,r,rfl,q,t⟩:=h;obtain⟨u,h1,h2⟩:=AP.get (i:=i) (d:=d) t (by simpa using e);exact⟨u,by simpa using h1,h2⟩
def AP.Ys{ds:List D}{vs:List V}{i:Nat}{v:V}(h:AP K G ds vs)(e:vs[i]?=some v):∃d,ds[i]?=some d/\At K G d v:=by
 have A0:i<ds.length:=by rw[h.length];exact(List.getElem?_eq_some_iff.mp e).1
 obtain⟨u,h1,h2⟩:=h.get (C5 A0);rw[e]at h1;cases h1;exact⟨_,C5 A0,h2⟩
theorem AP.append:∀{ds es:List D}{vs ws:List V},AP K G ds vs->AP K G es ws->AP K G (ds++es) (vs++ws)
 |[],_,_,_,h,t=>by simp only[AP]at h;subst h;exact t
 |_::_,_,_,_,h,t=>by simp only[AP]at h;obtain⟨v,r,rfl,q,s⟩:=h;exact .cons q (AP.append s t)
theorem AP.take:∀(n:Nat){ds:List D}{vs:List V},AP K G ds vs->AP K G (ds.take n) (vs.take n)
 |0,_,_,_=>by simpa using AP.nil
 |_+1,[],_,h=>by simp only[AP]at h;subst h;simpa using AP.nil
 |n+1,_::_,_,h=>by simp only[AP]at h;obtain⟨v,r,rfl,q,t⟩:=h;exact .cons q (AP.take n t)
theorem AP.drop:∀(n:Nat){ds:List D}{vs:List V},AP K G ds vs->AP K G (ds.drop n) (vs.drop n)
 |0,_,_,h=>by simpa using h
 |_+1,[],_,h=>by simp only[AP]at h;subst h;simpa using AP.nil
 |n+1,_::_,_,h=>by simp only[AP]at h;obtain⟨v,r,rfl,q,t⟩:=h;simpa using AP.drop n t
theorem AP.set{d:D}{v:V}(q:At K G d v):∀(n:Nat){ds:List D}{vs:List V},AP K G ds vs->AP K G (ds.set n d) (vs.set n v)
 |_,[],_,h=>by simp only[AP]at h;subst h;simpa using AP.nil
 |0,_::_,_,h=>by simp only[AP]at h;obtain⟨u,r,rfl,_,t⟩:=h;exact .cons q t
 |n+1,_::_,_,h=>by simp only[AP]at h;obtain⟨u,r,rfl,p,t⟩:=h;exact .cons p (AP.set q n t)
def AP.snoc{ds:List D}{vs:List V}{d:D}{v:V}(h:AP K G ds vs)(q:At K G d v):AP K G (ds++[d]) (vs++[v]):=h.append (.cons q .nil)
end
inductive R(α:Type) where
 |ok (a:α)|exc (c:Str)|bad
namespace R
noncomputable def bind{α β:Type}:R α->(α->R β)->R β
 |.ok a,k=>k a
 |.exc c,_=>.exc c
 |.bad,_=>.bad
def DH{α β:Type}(a:α)(k:α->R β):(R.ok a).bind k=k a:=rfl
end R
def rb{α β:Type}{P:R α->Prop}{Y4:R β->Prop}{r:R α}{k:α->R β}(h:Y4 (r.bind k))(f:∀a,r=.ok a->Y4 (k a)->P (.ok a))(J:Y4 .bad->P .bad:=by exact id)(A5:∀c,Y4 (.exc c)->P (.exc c):=by exact λ_=>id):P r:=by
 cases r with
 |ok a=>exact f a rfl h
 |exc c=>exact A5 c h
 |bad=>exact J h
inductive T where
 |AI (d:D)|lst (Ap:List T)|DM (ks:List Key) (Ap:List T)|BN (ks:List C8) (Ap:List T)|ins (c:Str) (ns:List Str) (Ap:List T)
mutual
noncomputable def toD:T->D
 |.AI d=>d
 |.lst Ap=>.lst (Jr Ap)
 |.DM ks Ap=>.DM ks (Jr Ap)
 |.BN ks Ap=>.BN ks (Jr Ap)
 |.ins c ns Ap=>.ins c ns (Jr Ap)
noncomputable def Jr:List T->List D
 |[]=>[]
 |t::Ap=>toD t::Jr Ap
end
mutual
noncomputable def Ae(H:A4):T->V->List Z
 |.AI _,_=>[]
 |.lst Ap,v=>match v with
  |.ref a=>match H a with
   |some (.lst xs)=>a::Ca H Ap xs
   |_=>[]
  |_=>[]
 |.DM _ Ap,v=>match v with
  |.ref a=>match H a with
   |some (.DM xs)=>a::Ca H Ap (xs.map (·.2))
   |_=>[]
  |_=>[]
 |.BN _ Ap,v=>match v with
  |.ref a=>match H a with
   |some (.BN xs)=>a::Ca H Ap (xs.map (·.2))
   |_=>[]
  |_=>[]
 |.ins _ _ Ap,v=>match v with
  |.ref a=>match H a with
   |some (.ins _ _ xs)=>a::Ca H Ap (xs.map (·.2))
   |_=>[]
  |_=>[]
noncomputable def Ca(H:A4):List T->List V->List Z
 |[],_=>[]
 |t::Ap,vs=>match vs with
  |v::r=>Ae H t v++Ca H Ap r
  |[]=>[]
end
mutual
noncomputable def C9(K:AT)(G H:A4):T->V->Prop
 |.AI d,v=>At K G d v
 |.lst Ap,v=>∃a xs,v=.ref a/\H a=some (.lst xs)/\Bc K G H Ap xs
 |.DM ks Ap,v=>∃a xs,v=.ref a/\H a=some (.DM xs)/\xs.map (·.1)=ks/\Bc K G H Ap (xs.map (·.2))
 |.BN ks Ap,v=>∃a xs,v=.ref a/\H a=some (.BN xs)/\xs.map (·.1)=ks/\Bc K G H Ap (xs.map (·.2))
 |.ins c ns Ap,v=>∃a Av xs,v=.ref a/\(∃C,GA K c C/\H a=some (.ins C Av xs))/\xs.map (·.1)=ns/\Bc K G H Ap (xs.map (·.2))
noncomputable def Bc(K:AT)(G H:A4):List T->List V->Prop
 |[],vs=>vs=[]
 |t::Ap,vs=>∃v r,vs=v::r/\C9 K G H t v/\Bc K G H Ap r
end
section
variable{K:AT}{G G' H H' P:A4}
def HU{a:Z}{xs:List V}{Ap:List T}(q:H a=some (.lst xs)):Ae H (.lst Ap) (.ref a)=a::Ca H Ap xs:=by simp only[Ae,q]
def T8{a:Z}{xs:List (Key×V)}{ks:List Key}{Ap:List T}(q:H a=some (.DM xs)):Ae H (.DM ks Ap) (.ref a)=a::Ca H Ap (xs.map (·.2)):=by simp only[Ae,q]
def T9{a:Z}{xs:List (C8×V)}{ks:List C8}{Ap:List T}(q:H a=some (.BN xs)):Ae H (.BN ks Ap) (.ref a)=a::Ca H Ap (xs.map (·.2)):=by simp only[Ae,q]
def TA{a C:Z}{Av}{xs:List (Str×V)}{c:Str}{ns:List Str}{Ap:List T}(q:H a=some (.ins C Av xs)):Ae H (.ins c ns Ap) (.ref a)=a::Ca H Ap (xs.map (·.2)):=by simp only[Ae,q]
def Ho{t:T}{Ap:List T}{v:V}{r:List V}:Ca H (t::Ap) (v::r)=Ae H t v++Ca H Ap r:=by simp only[Ca]
def PO{vs:List V}:Ca H [] vs=[]:=by simp only[Ca]
mutual
theorem C9.mono(Ar:Sub G G'):∀{t:T}{v:V},C9 K G H t v->C9 K G' H t v
 |.AI _,_,h=>by simp only[C9]at h |-;exact h.mono Ar
 |.lst _,_,h=>by simp only[C9]at h |-;obtain⟨a,xs,e,q,r⟩:=h;exact⟨a,xs,e,q,Bc.mono Ar r⟩
 |.DM _ _,_,h=>by simp only[C9]at h |-;obtain⟨a,xs,e,q,n,r⟩:=h;exact⟨a,xs,e,q,n,Bc.mono Ar r⟩
 |.BN _ _,_,h=>by simp only[C9]at h |-;obtain⟨a,xs,e,q,n,r⟩:=h;exact⟨a,xs,e,q,n,Bc.mono Ar r⟩
 |.ins _ _ _,_,h=>by simp only[C9]at h |-;obtain⟨a,Av,xs,e,q,n,r⟩:=h;exact⟨a,Av,xs,e,q,n,Bc.mono Ar r⟩
theorem Bc.mono(Ar:Sub G G'):∀{Ap:List T}{vs:List V},Bc K G H Ap vs->Bc K G' H Ap vs
 |[],_,h=>by simpa only[Bc]using h
 |_::_,_,h=>by simp only[Bc]at h |-;obtain⟨v,r,e,q,t⟩:=h;exact⟨v,r,e,C9.mono Ar q,Bc.mono Ar t⟩
end
mutual
theorem C9.keep:∀{t:T}{v:V},(∀b∈Ae H t v,H' b=H b)->C9 K G H t v->C9 K G H' t v/\Ae H' t v=Ae H t v
 |.AI _,_,_,h=>by simp only[C9]at h;exact⟨by simp only[C9];exact h,by simp only[Ae]⟩
 |.lst _,_,k,h=>by simp only[C9]at h;obtain⟨a,xs,rfl,q,r⟩:=h;rw[HU q]at k;have JJ:H' a=some (.lst xs):=(k a (by simp)).trans q;obtain⟨A6,AZ⟩:=Bc.keep (λb J=>k b (E3 _ J)) r;exact⟨by simp only[C9];exact⟨a,xs,rfl,JJ,A6⟩,by rw[HU JJ,HU q,AZ]⟩
 |.DM _ _,_,k,h=>by simp only[C9]at h;obtain⟨a,xs,rfl,q,n,r⟩:=h;rw[T8 q]at k;have JJ:H' a=some (.DM xs):=(k a (by simp)).trans q;obtain⟨A6,AZ⟩:=Bc.keep (λb J=>k b (E3 _ J)) r;exact⟨by simp only[C9];exact⟨a,xs,rfl,JJ,n,A6⟩,by rw[T8 JJ,T8 q,AZ]⟩
 |.BN _ _,_,k,h=>by simp only[C9]at h;obtain⟨a,xs,rfl,q,n,r⟩:=h;rw[T9 q]at k;have JJ:H' a=some (.BN xs):=(k a (by simp)).trans q;obtain⟨A6,AZ⟩:=Bc.keep (λb J=>k b (E3 _ J)) r;exact⟨by simp only[C9];exact⟨a,xs,rfl,JJ,n,A6⟩,by rw[T9 JJ,T9 q,AZ]⟩
 |.ins _ _ _,_,k,h=>by simp only[C9]at h;obtain⟨a,Av,xs,rfl,⟨C,c1,q⟩,n,r⟩:=h;rw[TA q]at k;have JJ:H' a=some (.ins C Av xs):=(k a (by simp)).trans q;obtain⟨A6,AZ⟩:=Bc.keep (λb J=>k b (E3 _ J)) r;exact⟨by simp only[C9];exact⟨a,Av,xs,rfl,⟨C,c1,JJ⟩,n,A6⟩,by rw[TA JJ,TA q,AZ]⟩
theorem Bc.keep:∀{Ap:List T}{vs:List V},(∀b∈Ca H Ap vs,H' b=H b)->Bc K G H Ap vs->Bc K G H' Ap vs/\Ca H' Ap vs=Ca H Ap vs
 |[],_,_,h=>⟨by simpa only[Bc]using h,by simp only[Ca]⟩
 |_::_,_,k,h=>by simp only[Bc]at h;obtain⟨v,r,rfl,q,t⟩:=h;rw[Ho]at k;obtain⟨A_,B4⟩:=C9.keep (λb J=>k b (MJ _ J)) q;obtain⟨t1,Fo⟩:=Bc.keep (λb J=>k b (Ii _ J)) t;exact⟨by simp only[Bc];exact⟨v,r,rfl,A_,t1⟩,by rw[Ho,Ho,B4,Fo]⟩
end
mutual
theorem C9.some:∀{t:T}{v:V},C9 K G H t v->∀b∈Ae H t v,H b≠none
 |.AI _,_,_=>by intro b J;simp[Ae]at J
 |.lst _,_,h=>by
  simp only[C9]at h;obtain⟨a,xs,rfl,q,r⟩:=h;rw[HU q];intro b J;rcases List.mem_cons.mp J with rfl|J
  .rw[q];exact λz=>nomatch z
  .exact Bc.some r b J
 |.DM _ _,_,h=>by
  simp only[C9]at h;obtain⟨a,xs,rfl,q,n,r⟩:=h;rw[T8 q];intro b J;rcases List.mem_cons.mp J with rfl|J
  .rw[q];exact λz=>nomatch z
  .exact Bc.some r b J
 |.BN _ _,_,h=>by
  simp only[C9]at h;obtain⟨a,xs,rfl,q,n,r⟩:=h;rw[T9 q];intro b J;rcases List.mem_cons.mp J with rfl|J
  .rw[q];exact λz=>nomatch z
  .exact Bc.some r b J
 |.ins _ _ _,_,h=>by
  simp only[C9]at h;obtain⟨a,Av,xs,rfl,⟨C,c1,q⟩,n,r⟩:=h;rw[TA q];intro b J;rcases List.mem_cons.mp J with rfl|J
  .rw[q];exact λz=>nomatch z
  .exact Bc.some r b J
theorem Bc.some:∀{Ap:List T}{vs:List V},Bc K G H Ap vs->∀b∈Ca H Ap vs,H b≠none
 |[],_,_=>by intro b J;simp[Ca]at J
 |_::_,_,h=>by
  simp only[Bc]at h;obtain⟨v,r,rfl,q,t⟩:=h;rw[Ho];intro b J;rcases List.mem_append.mp J with J|J
  .exact C9.some q b J
  .exact Bc.some t b J
end
mutual
theorem C9.Hu:∀{t:T}{v:V},C9 K G H t v->∀b∈Ae H t v,FT H b
 |.AI _,_,_=>by intro b J;simp[Ae]at J
 |.lst _,_,h=>by
  simp only[C9]at h;obtain⟨a,xs,rfl,q,r⟩:=h;rw[HU q];intro b J;rcases List.mem_cons.mp J with rfl|J
  .exact .of q λ_ z=>nomatch z
  .exact Bc.Hu r b J
 |.DM _ _,_,h=>by
  simp only[C9]at h;obtain⟨a,xs,rfl,q,n,r⟩:=h;rw[T8 q];intro b J;rcases List.mem_cons.mp J with rfl|J
  .exact .of q λ_ z=>nomatch z
  .exact Bc.Hu r b J
 |.BN _ _,_,h=>by
  simp only[C9]at h;obtain⟨a,xs,rfl,q,n,r⟩:=h;rw[T9 q];intro b J;rcases List.mem_cons.mp J with rfl|J
  .exact .of q λ_ z=>nomatch z
  .exact Bc.Hu r b J
 |.ins _ _ _,_,h=>by
  simp only[C9]at h;obtain⟨a,Av,xs,rfl,⟨C,c1,q⟩,n,r⟩:=h;rw[TA q];intro b J;rcases List.mem_cons.mp J with rfl|J
  .exact .of q λ_ z=>nomatch z
  .exact Bc.Hu r b J
theorem Bc.Hu:∀{Ap:List T}{vs:List V},Bc K G H Ap vs->∀b∈Ca H Ap vs,FT H b
 |[],_,_=>by intro b J;simp[Ca]at J
 |_::_,_,h=>by
  simp only[Bc]at h;obtain⟨v,r,rfl,q,t⟩:=h;rw[Ho];intro b J;rcases List.mem_append.mp J with J|J
  .exact C9.Hu q b J
  .exact Bc.Hu t b J
end
mutual
theorem C9.view(Ar:Sub G P):∀{t:T}{v:V},(∀a∈Ae H t v,P a=H a)->C9 K G H t v->At K P (toD t) v
 |.AI _,_,_,h=>by simp only[C9,toD]at h |-;exact h.mono Ar
 |.lst _,_,k,h=>by simp only[C9]at h;obtain⟨a,xs,rfl,q,r⟩:=h;rw[HU q]at k;simp only[toD,At];exact⟨a,xs,rfl,by rw[k a (by simp)];exact q,Bc.view Ar (λb J=>k b (E3 _ J)) r⟩
 |.DM _ _,_,k,h=>by simp only[C9]at h;obtain⟨a,xs,rfl,q,n,r⟩:=h;rw[T8 q]at k;simp only[toD,At];exact⟨a,xs,rfl,by rw[k a (by simp)];exact q,n,Bc.view Ar (λb J=>k b (E3 _ J)) r⟩
 |.BN _ _,_,k,h=>by simp only[C9]at h;obtain⟨a,xs,rfl,q,n,r⟩:=h;rw[T9 q]at k;simp only[toD,At];exact⟨a,xs,rfl,by rw[k a (by simp)];exact q,n,Bc.view Ar (λb J=>k b (E3 _ J)) r⟩
 |.ins _ _ _,_,k,h=>by simp only[C9]at h;obtain⟨a,Av,xs,rfl,⟨C,c1,q⟩,n,r⟩:=h;rw[TA q]at k;simp only[toD,At];exact⟨a,Av,xs,rfl,⟨C,c1,by rw[k a (by simp)];exact q⟩,n,Bc.view Ar (λb J=>k b (E3 _ J)) r⟩
theorem Bc.view(Ar:Sub G P):∀{Ap:List T}{vs:List V},(∀a∈Ca H Ap vs,P a=H a)->Bc K G H Ap vs->AP K P (Jr Ap) vs
 |[],_,_,h=>by simp only[Bc,Jr,AP]at h |-;exact h
 |_::_,_,k,h=>by simp only[Bc]at h;obtain⟨v,r,rfl,q,t⟩:=h;rw[Ho]at k;simp only[Jr,AP];exact⟨v,r,rfl,C9.view Ar (λb J=>k b (MJ _ J)) q,Bc.view Ar (λb J=>k b (Ii _ J)) t⟩
end
def C9.yj{a:Z}{o:D2}{t:T}{v:V}(n:a∉Ae H t v)(h:C9 K G H t v):C9 K G (upd H a o) t v/\Ae (upd H a o) t v=Ae H t v:=h.keep λb J=>Co λz=>n (z▸J)
end
inductive L2 where
 |lst (ds:List D)|BN (ks:List C8) (ds:List D)|ins (c:Str) (ns:List Str) (ds:List D)
def MV(K:AT)(G:A4):L2->D2->Prop
 |.lst ds,AE=>∃xs,AE=.lst xs/\AP K G ds xs
 |.BN ks ds,AE=>∃xs,AE=.BN xs/\xs.map (·.1)=ks/\AP K G ds (xs.map (·.2))
 |.ins c ns ds,AE=>∃C Av xs,GA K c C/\AE=.ins C Av xs/\xs.map (·.1)=ns/\AP K G ds (xs.map (·.2))
theorem MV.mono{K:AT}{G H:A4}(s:Sub G H):∀{o:L2}{AE:D2},MV K G o AE->MV K H o AE
 |.lst _,_,⟨xs,e,q⟩=>⟨xs,e,q.mono s⟩
 |.BN _ _,_,⟨xs,e,k,q⟩=>⟨xs,e,k,q.mono s⟩
 |.ins _ _ _,_,⟨C,Av,xs,c,e,k,q⟩=>⟨C,Av,xs,c,e,k,q.mono s⟩
noncomputable def JG:L2->D
 |.lst ds=>.lst ds
 |.BN ks ds=>.BN ks ds
 |.ins c ns ds=>.ins c ns ds
def MV.at{K:AT}{G:A4}{o:L2}{AE:D2}{a:Z}(h:MV K G o AE)(e:G a=some AE):At K G (JG o) (.ref a):=by
 cases o with
 |lst ds=>obtain⟨xs,rfl,q⟩:=h;simp only[JG,At];exact⟨a,xs,rfl,e,q⟩
 |BN ks ds=>obtain⟨xs,rfl,k,q⟩:=h;simp only[JG,At];exact⟨a,xs,rfl,e,k,q⟩
 |ins c ns ds=>obtain⟨C,Av,xs,c1,rfl,k,q⟩:=h;simp only[JG,At];exact⟨a,Av,xs,rfl,⟨C,c1,e⟩,k,q⟩
inductive C4 where
 |un|AI (d:D)|ob (o:L2)|DF (t:T)|D4 (k:Nat) (t:T)
noncomputable abbrev C4.BQ(ds:List D):C4:=.ob (.lst ds)
abbrev A8:=List C4
structure B5 where
 K:AT
 BD:A4
 Ak:A4
 EX:Str->A4->Prop
 pin:Nat->Option V
noncomputable def Gc:Nat->Option V:=λ_=>none
structure E4(F:B5)(G H:A4):Prop where
 sub:Sub G H
 DU:Sub F.BD G
 B1:Sub F.Ak H
 new:∀b,FT F.Ak b->G b=F.BD b
structure Qr(F:B5)(G H:A4)(t:T)(v:V):Prop where
 at_:C9 F.K G H t v
 Cb:(Ae H t v).Nodup
 own:∀b∈Ae H t v,G b=none/\F.Ak b=none
def KM(F:B5)(G H:A4)(o:Option V):C4->Prop
 |.un=>True
 |.AI d=>∃v,o=some v/\At F.K G d v
 |.ob ob=>∃a AE,o=some (.ref a)/\H a=some AE/\G a=none/\F.Ak a=none/\MV F.K G ob AE
 |.DF t=>∃v,o=some v/\Qr F G H t v
 |.D4 k t=>∃v,o=some v/\Qr F G H t v/\F.pin k=some v
def F7(H:A4):C4->Option V->Z->Prop
 |.un,_,_=>False
 |.AI _,_,_=>False
 |.ob _,o,a=>o=some (.ref a)
 |.DF t,o,a=>∃v,o=some v/\a∈Ae H t v
 |.D4 _ t,o,a=>∃v,o=some v/\a∈Ae H t v
structure Rel(F:B5)(G H:A4)(σ :St)(ρ:A8):Prop where
 AJ:E4 F G H
 len: σ.length=ρ.length
 BY:∀(i:Nat)(s:C4),ρ[i]?=some s->∃o,σ[i]?=some o/\KM F G H o s
 Mw:∀(i j:Nat)(a:Z)(s s':C4)(o BM:Option V),ρ[i]?=some s->ρ[j]?=some s'-> σ[i]?=some o-> σ[j]?=some BM->F7 H s o a->F7 H s' BM a->i=j
def C3(H:A4)(σ :St)(ρ:A8)(a:Z):Prop:=∃(i:Nat)(s:C4)(o:Option V),ρ[i]?=some s/\ σ[i]?=some o/\F7 H s o a
def Vy{α:Type}{l:List α}{i:Nat}{x:α}(e:l[i]?=some x):l.set i x=l:=by
 apply Wz;intro j;rw[fe];by_cases h:i=j
 .subst h;rw[if_pos rfl,if_pos (List.getElem?_eq_some_iff.mp e).1];exact e.symm
 .simp[h]
section
variable{F:B5}{G G' H H':A4}{σ :St}{ρ:A8}
theorem C3.ob{a:Z}{i:Nat}{o:L2}(A1:ρ[i]?=some (.ob o))(A7: σ[i]?=some (some (.ref a))):C3 H σ ρ a:=⟨i,_,_,A1,A7,rfl⟩
theorem KM.keep{o:Option V}{s:C4}(h:KM F G H o s)(Ar:Sub G G')(k:∀a,F7 H s o a->H' a=H a/\G' a=none):KM F G' H' o s/\(∀a,F7 H' s o a->F7 H s o a):=by
 cases s with
 |un=>exact⟨trivial,λ_ z=>z⟩
 |AI d=>obtain⟨v,A7,a⟩:=h;exact⟨⟨v,A7,a.mono Ar⟩,λ_ z=>z⟩
 |ob ds=>obtain⟨a,xs,A7,h1,h2,h3,h4⟩:=h;exact⟨⟨a,xs,A7,by rw[(k a A7).1];exact h1,(k a A7).2,h3,h4.mono Ar⟩,λ_ z=>z⟩
 |DF t=>
  obtain⟨v,A7,A_,B4,Cn⟩:=h;obtain⟨Cp,D6⟩:=A_.keep λb J=>(k b ⟨v,A7,J⟩).1;refine⟨⟨v,A7,⟨Cp.mono Ar,by rw[D6];exact B4,λb J=>?_⟩⟩,λa z=>?_⟩
  .rw[D6]at J;exact⟨(k b ⟨v,A7,J⟩).2,(Cn b J).2⟩
  .obtain⟨u,B8,J⟩:=z;rw[A7]at B8;cases B8;rw[D6]at J;exact⟨v,A7,J⟩
 |D4 n t=>
  obtain⟨v,A7,⟨A_,B4,Cn⟩,AW⟩:=h;obtain⟨Cp,D6⟩:=A_.keep λb J=>(k b ⟨v,A7,J⟩).1;refine⟨⟨v,A7,⟨Cp.mono Ar,by rw[D6];exact B4,λb J=>?_⟩,AW⟩,λa z=>?_⟩
  .rw[D6]at J;exact⟨(k b ⟨v,A7,J⟩).2,(Cn b J).2⟩
  .obtain⟨u,B8,J⟩:=z;rw[A7]at B8;cases B8;rw[D6]at J;exact⟨v,A7,J⟩
def KM.foot{o:Option V}{s:C4}(h:KM F G H o s){a:Z}(f:F7 H s o a):H a≠none/\G a=none/\F.Ak a=none:=by
 cases s with
 |un=>cases f
 |AI d=>cases f
 |ob ds=>obtain⟨b,xs,A7,h1,h2,h3,h4⟩:=h;have f:o=some (.ref a):=f;rw[A7]at f;cases f;exact⟨by rw[h1];exact(λz=>nomatch z),h2,h3⟩
 |DF t=>obtain⟨v,A7,A_,B4,Cn⟩:=h;obtain⟨u,B8,J⟩:=f;rw[A7]at B8;cases B8;exact⟨A_.some a J,Cn a J⟩
 |D4 n t=>obtain⟨v,A7,⟨A_,B4,Cn⟩,_⟩:=h;obtain⟨u,B8,J⟩:=f;rw[A7]at B8;cases B8;exact⟨A_.some a J,Cn a J⟩
def KM.U9{o:Option V}{s:C4}{a:Z}(h:KM F G H o s)(f:F7 H s o a):FT H a:=by
 cases s with
 |un=>cases f
 |AI _=>cases f
 |ob ob=>
  obtain⟨b,AE,A7,h1,_,_,h4⟩:=h;have B8:o=some (.ref a):=f;rw[A7]at B8;cases B8;cases ob with
  |lst _=>obtain⟨xs,rfl,_⟩:=h4;exact .of h1 λ_ z=>nomatch z
  |BN _ _=>obtain⟨xs,rfl,_⟩:=h4;exact .of h1 λ_ z=>nomatch z
  |ins _ _ _=>obtain⟨C,Av,xs,_,rfl,_⟩:=h4;exact .of h1 λ_ z=>nomatch z
 |DF t=>obtain⟨v,A7,A_,B4,Cn⟩:=h;obtain⟨u,B8,J⟩:=f;rw[A7]at B8;cases B8;exact A_.Hu a J
 |D4 n t=>obtain⟨v,A7,⟨A_,B4,Cn⟩,_⟩:=h;obtain⟨u,B8,J⟩:=f;rw[A7]at B8;cases B8;exact A_.Hu a J
theorem Rel.U9(r:Rel F G H σ ρ){a:Z}(h:C3 H σ ρ a):FT H a:=by obtain⟨i,s,o,A1,A7,f⟩:=h;obtain⟨BM,B8,q⟩:=r.BY i s A1;rw[A7]at B8;cases B8;exact q.U9 f
theorem Rel.foot(r:Rel F G H σ ρ){a:Z}(h:C3 H σ ρ a):H a≠none/\G a=none/\F.Ak a=none:=by obtain⟨i,s,o,A1,A7,f⟩:=h;obtain⟨BM,B8,q⟩:=r.BY i s A1;rw[A7]at B8;cases B8;exact q.foot f
def Rel.over{F':B5}(r:Rel F G H σ ρ)(Ag:F'.K=F.K)(AJ:E4 F' G' H')(Ar:Sub G G')(k:∀a,C3 H σ ρ a->H' a=H a/\G' a=none/\F'.Ak a=none)(hP:F'.pin=F.pin:=by rfl):Rel F' G' H' σ ρ:=by
 have one:∀(i:Nat)(s:C4),ρ[i]?=some s->∃o,σ[i]?=some o/\KM F' G' H' o s/\(∀a,F7 H' s o a->F7 H s o a):=λi s e=>by
  obtain⟨o,A1,q⟩:=r.BY i s e;obtain⟨A_,B4⟩:=q.keep Ar λa f=>⟨(k a ⟨i,s,o,e,A1,f⟩).1,(k a ⟨i,s,o,e,A1,f⟩).2.1⟩;refine⟨o,A1,?_,B4⟩;cases s with
  |un=>trivial
  |AI d=>obtain⟨v,A7,a⟩:=A_;exact⟨v,A7,by rw[Ag];exact a⟩
  |ob ds=>obtain⟨a,xs,A7,h1,h2,h3,h4⟩:=A_;exact⟨a,xs,A7,h1,h2,(k a ⟨i,_,o,e,A1,A7⟩).2.2,by rw[Ag];exact h4⟩
  |DF t=>obtain⟨v,A7,Cp,D6,Ef⟩:=A_;exact⟨v,A7,by rw[Ag];exact Cp,D6,λb J=>⟨(Ef b J).1,(k b ⟨i,_,o,e,A1,B4 b ⟨v,A7,J⟩⟩).2.2⟩⟩
  |D4 n t=>obtain⟨v,A7,⟨Cp,D6,Ef⟩,L1⟩:=A_;exact⟨v,A7,⟨by rw[Ag];exact Cp,D6,λb J=>⟨(Ef b J).1,(k b ⟨i,_,o,e,A1,B4 b ⟨v,A7,J⟩⟩).2.2⟩⟩,by rw[hP];exact L1⟩
 refine⟨AJ,r.len,λi s e=>let⟨o,A1,q,_⟩:=one i s e;⟨o,A1,q⟩,λi j a s s' o BM A1 A7 B8 D9 f1 f2=>?_⟩;obtain⟨u,DD,_,CP⟩:=one i s A1;rw[B8]at DD;cases DD;obtain⟨u,LY,_,R0⟩:=one j s' A7;rw[D9]at LY;cases LY;exact r.Mw i j a s s' o BM A1 A7 B8 D9 (CP a f1) (R0 a f2)
def Rel.grow(r:Rel F G H σ ρ)(Ar:Sub G G')(adK:Sub G' H')(B1:Sub H H')(nw:∀b,FT H b->G' b=G b):Rel F G' H' σ ρ:=by
 refine r.over rfl ⟨adK,r.AJ.DU.trans Ar,r.AJ.B1.trans B1,λb J=>?_⟩ Ar λa A2=>?_
 .rw[nw b (r.AJ.B1.Hu J)];exact r.AJ.new b J
 .obtain⟨h1,h2,h3⟩:=r.foot A2;refine⟨?_,(nw a (r.U9 A2)).trans h2,h3⟩;cases e:H a with
  |none=>exact absurd e h1
  |some o=>exact B1 a o e
def Rel.lay(r:Rel F G H σ ρ){p:Z}{o:D2}(AW:H p=none):Rel F (upd G p o) (upd H p o) σ ρ:=by have wO:G p=none:=r.AJ.sub.gone AW;refine r.grow (Sub.upd wO) (Sub.both r.AJ.sub) (Sub.upd AW) λb J=>?_;rw[Co];intro e;subst e;exact J.1 AW
def Rel.lay0(r:Rel F G H σ ρ){p:Z}{o:D2}(AW:H p=none):Rel F G (upd H p o) σ ρ:=
 r.grow (Sub.refl _) (Sub.Ot r.AJ.sub (r.AJ.sub.gone AW)) (Sub.upd AW) λ_ _=>rfl
def Rel.take(r:Rel F G H σ ρ){p:Z}{o:D2}(AW:H p=some o)(AQ:G p=none)(h0:F.Ak p=none)(no:¬C3 H σ ρ p):Rel F (upd G p o) H σ ρ:=by
 refine r.over rfl ⟨Sub.at r.AJ.sub AW,r.AJ.DU.trans (Sub.upd AQ),r.AJ.B1,λb J=>?_⟩ (Sub.upd AQ) λa A2=>?_
 .rw[Co]
  .exact r.AJ.new b J
  .intro e;subst e;exact J.1 h0
 .obtain⟨h1,h2,h3⟩:=r.foot A2;exact⟨rfl,by rw[Co (λz=>no (by rw[<-z];exact A2))];exact h2,h3⟩
theorem Rel.AI(r:Rel F G H σ ρ){i:Nat}{d:D}(e:ρ[i]?=some (.AI d)):∃v,σ[i]?=some (some v)/\At F.K G d v:=by obtain⟨o,A1,v,rfl,a⟩:=r.BY i _ e;exact⟨v,A1,a⟩
def Rel.obj(r:Rel F G H σ ρ){i:Nat}{o:L2}(e:ρ[i]?=some (.ob o)):∃a AE,σ[i]?=some (some (.ref a))/\H a=some AE/\G a=none/\F.Ak a=none/\MV F.K G o AE:=by obtain⟨v,A1,a,AE,rfl,h1,h2,h3,h4⟩:=r.BY i _ e;exact⟨a,AE,A1,h1,h2,h3,h4⟩
def Rel.own{G H:A4}{σ :St}{ρ:A8}(r:Rel F G H σ ρ){i:Nat}{ds:List D}(e:ρ[i]?=some (.BQ ds)):∃a xs,σ[i]?=some (some (.ref a))/\H a=some (.lst xs)/\G a=none/\F.Ak a=none/\AP F.K G ds xs:=by obtain⟨a,AE,A1,h1,h2,h3,xs,rfl,h4⟩:=r.obj e;exact⟨a,xs,A1,h1,h2,h3,h4⟩
def Rel.tree{G H:A4}{σ :St}{ρ:A8}(r:Rel F G H σ ρ){i:Nat}{t:T}(e:ρ[i]?=some (.DF t)):∃v,σ[i]?=some (some v)/\Qr F G H t v:=by obtain⟨o,A1,v,rfl,a⟩:=r.BY i _ e;exact⟨v,A1,a⟩
def get_set{α:Type}{l:List α}{i j:Nat}{x y:α}(e:(l.set i x)[j]?=some y):(i=j/\y=x)\/(i≠j/\l[j]?=some y):=by
 rw[fe]at e;by_cases h:i=j
 .rw[if_pos h]at e
  split at e
  .cases e;exact .inl ⟨h,rfl⟩
  .cases e
 .rw[if_neg h]at e;exact .inr ⟨h,e⟩
def Rel.RP(r:Rel F G H σ ρ){i:Nat}{s:C4}{o:Option V}(A0:i<ρ.length)(q:KM F G H o s)(no:∀a,F7 H s o a->∀(j:Nat)(s':C4)(BM:Option V),j≠i->ρ[j]?=some s'-> σ[j]?=some BM->¬F7 H s' BM a):Rel F G H (σ.set i o) (ρ.set i s):=by
 have hs:i< σ.length:=by rw[r.len];exact A0
 refine⟨r.AJ,by simp[r.len],λj s e=>?_,λj k b s1 s2 Cc CD A1 A7 B8 D9 f1 f2=>?_⟩
 .rcases get_set e with⟨rfl,rfl⟩|⟨ne,e⟩
  .exact⟨o,by simp[hs],q⟩
  .rw[Pt ne];exact r.BY j s e
 .rcases get_set A1 with⟨Bj,DD⟩|⟨CQ,Dg⟩
  .subst Bj DD;rw[Tb hs]at B8;cases B8;rcases get_set A7 with⟨Bd,CP⟩|⟨C0,EN⟩
   .exact Bd
   .rw[Pt C0]at D9;exact absurd f2 (no b f1 k s2 CD (KB C0) EN D9)
  .rw[Pt CQ]at B8;rcases get_set A7 with⟨Bd,CP⟩|⟨C0,EN⟩
   .subst Bd CP;rw[Tb hs]at D9;cases D9;exact absurd f1 (no b f2 j s1 Cc (KB CQ) Dg B8)
   .rw[Pt C0]at D9;exact r.Mw j k b s1 s2 Cc CD Dg EN B8 D9 f1 f2
theorem Rel.set(r:Rel F G H σ ρ){i:Nat}{d:D}{v:V}(A0:i<ρ.length)(a:At F.K G d v):Rel F G H (σ.set i (some v)) (ρ.set i (.AI d)):=
 r.RP A0 ⟨v,rfl,a⟩ λ_ f=>f.elim
def Rel.setB(r:Rel F G H σ ρ){i:Nat}{ob:L2}{a:Z}{AE:D2}(A0:i<ρ.length)(A2:H a=some AE)(AQ:G a=none)(h0:F.Ak a=none)(q:MV F.K G ob AE)(no:∀(j:Nat)(s:C4)(o:Option V),j≠i->ρ[j]?=some s-> σ[j]?=some o->¬F7 H s o a):Rel F G H (σ.set i (some (.ref a))) (ρ.set i (.ob ob)):=
 r.RP A0 ⟨a,AE,rfl,A2,AQ,h0,q⟩ λb f=>by have f:some (V.ref a)=some (.ref b):=f;cases f;exact no
def Rel.adD(r:Rel F G H σ ρ){i:Nat}{ds:List D}{a:Z}{xs:List V}(A0:i<ρ.length)(A2:H a=some (.lst xs))(AQ:G a=none)(h0:F.Ak a=none)(q:AP F.K G ds xs)(no:∀(j:Nat)(s:C4)(o:Option V),j≠i->ρ[j]?=some s-> σ[j]?=some o->¬F7 H s o a):Rel F G H (σ.set i (some (.ref a))) (ρ.set i (.BQ ds)):=r.setB A0 A2 AQ h0 ⟨xs,rfl,q⟩ no
def Rel.oI(r:Rel F G H σ ρ){i:Nat}{s s':C4}{o:Option V}{a:Z}{AE:D2}(e:ρ[i]?=some s)(Aa: σ[i]?=some o)(Fe:F7 H s o a)(q:KM F G (upd H a AE) o s')(f:∀b,F7 (upd H a AE) s' o b->F7 H s o b\/¬C3 H σ ρ b) :
  Rel F G (upd H a AE) σ (ρ.set i s'):=by
 have A0:i<ρ.length:=(List.getElem?_eq_some_iff.mp e).1;obtain⟨h1,h2,h3⟩:=r.foot ⟨i,s,o,e,Aa,Fe⟩;have RK:∀(j:Nat)(t:C4),i≠j->ρ[j]?=some t->∃u,σ[j]?=some u/\KM F G (upd H a AE) u t/\(∀b,F7 (upd H a AE) t u b->F7 H t u b):=λj t ne z=>by obtain⟨u,DD,CP⟩:=r.BY j t z;have na:¬F7 H t u a:=λw=>ne (r.Mw i j a s t o u e z Aa DD Fe w);obtain⟨A_,B4⟩:=CP.keep (H':=upd H a AE) (Sub.refl G) λb GJ=>⟨Co λw=>na (w▸GJ),(CP.foot GJ).2.1⟩;exact⟨u,DD,A_,B4⟩
 refine⟨⟨Sub.Ot r.AJ.sub h2,r.AJ.DU,λc u z=>?_,r.AJ.new⟩,by simp[r.len],λj t z=>?_,λj k c s1 s2 Cc CD B8 D9 Ga O2 f1 f2=>?_⟩
 .rw[Co (I_ z h3)];exact r.AJ.B1 c u z
 .rcases get_set z with⟨rfl,rfl⟩|⟨ne,z⟩
  .exact⟨o,Aa,q⟩
  .obtain⟨u,DD,CP,_⟩:=RK j t ne z;exact⟨u,DD,CP⟩
 .rcases get_set B8 with⟨Bj,DD⟩|⟨CQ,Pc⟩
  .subst Bj DD;rw[Aa]at Ga;cases Ga;rcases get_set D9 with⟨Bd,CP⟩|⟨C0,Pd⟩
   .exact Bd
   .obtain⟨u,Dg,_,EN⟩:=RK k s2 C0 Pd;rw[O2]at Dg;cases Dg;have g2:=EN c f2;rcases f c f1 with g1|g1
    .exact r.Mw i k c s s2 o CD e Pd Aa O2 g1 g2
    .exact absurd ⟨k,s2,CD,Pd,O2,g2⟩ g1
  .obtain⟨u,Dg,_,EN⟩:=RK j s1 CQ Pc;rw[Ga]at Dg;cases Dg;have g1:=EN c f1;rcases get_set D9 with⟨Bd,CP⟩|⟨C0,Pd⟩
   .subst Bd CP;rw[Aa]at O2;cases O2;rcases f c f2 with g2|g2
    .exact r.Mw j i c s1 s Cc o Pc e Ga Aa g1 g2
    .exact absurd ⟨j,s1,Cc,Pc,Ga,g1⟩ g2
   .obtain⟨u,Mt,_,ai_⟩:=RK k s2 C0 Pd;rw[O2]at Mt;cases Mt;exact r.Mw j k c s1 s2 Cc CD Pc Pd Ga O2 g1 (ai_ c f2)
def Rel.ZB(r:Rel F G H σ ρ){i:Nat}{o BM:L2}{a:Z}{AE:D2}(e:ρ[i]?=some (.ob o))(Aa: σ[i]?=some (some (.ref a)))(q:MV F.K G BM AE) :
  Rel F G (upd H a AE) σ (ρ.set i (.ob BM)):=by
 obtain⟨b,lX,A1,h1,h2,h3,h4⟩:=r.obj e;rw[Aa]at A1;have B7:b=a:=by cases A1;rfl
 subst B7;exact r.oI e Aa rfl ⟨b,AE,rfl,DO,h2,h3,q⟩ λc f=>.inl f
def Rel.mut(r:Rel F G H σ ρ){i:Nat}{ds GG:List D}{a:Z}{ys:List V}(e:ρ[i]?=some (.BQ ds))(Aa: σ[i]?=some (some (.ref a)))(q:AP F.K G GG ys) :
  Rel F G (upd H a (.lst ys)) σ (ρ.set i (.BQ GG)):=r.ZB e Aa ⟨ys,rfl,q⟩
def Rel.JZ(r:Rel F G H σ ρ){i:Nat}{o:L2}(e:ρ[i]?=some (.ob o)):∃G',Rel F G' H σ (ρ.set i (.AI (JG o)))/\Sub G G':=by
 have A0:i<ρ.length:=(List.getElem?_eq_some_iff.mp e).1;obtain⟨a,AE,A1,h1,h2,h3,h4⟩:=r.obj e;have un:Rel F G H σ (ρ.set i .un):=by have z:=r.RP (s:=.un) (o:=some (.ref a)) A0 trivial λ_ f=>f.elim;rw[Cj.Vy A1]at z;exact z
 have no:¬C3 H σ (ρ.set i .un) a:=λ⟨j,s,u,Dg,EN,Mt⟩=>by
  rcases get_set Dg with⟨_,z⟩|⟨ne,Dg⟩
  .subst z;exact Mt
  .exact ne (r.Mw i j a _ s _ u e Dg A1 EN rfl Mt)
 have AZ:=un.take h1 h2 h3 no;have Cy:=AZ.RP (i:=i) (s:=.AI (JG o)) (o:=some (.ref a)) (by simpa using A0) ⟨.ref a,rfl,(h4.mono (Sub.upd h2)).at DO⟩ λ_ f=>f.elim;rw[Cj.Vy A1,List.set_set]at Cy;exact⟨upd G a AE,Cy,Sub.upd h2⟩
end
abbrev AY:=A8->R D
abbrev C7:=A8->R Bool
abbrev Ad:=A8->R (List D)
inductive FK where
 |BK (ρ:A8)|DB (d:D)|HI (ds:List D)|F9 (ρ:A8)|C_ (ρ:A8)|Dw (t:T)|rs (d:D) (ρ:A8)
abbrev B6:=A8->R FK
def Jg(F:B5)(c:Str):Prop:=∀G' H',E4 F G' H'->F.EX c H'
def Hq(F:B5)(G H:A4)(σ :St)(ρ:A8)(Q:Br):R D->Prop
 |.ok d=>∀v H' G',Rel F G' H' σ ρ->Bn G H G' H'->At F.K G' d v->Q v H'
 |.exc c=>Jg F c
 |.bad=>False
def TM(F:B5)(G H:A4)(σ :St)(ρ:A8)(Q:Bool->A4->Prop):R Bool->Prop
 |.ok b=>∀H' G',Rel F G' H' σ ρ->Bn G H G' H'->Q b H'
 |.exc c=>Jg F c
 |.bad=>False
def ya(F:B5)(G H:A4)(σ :St)(ρ:A8)(Q:List V->A4->Prop):R (List D)->Prop
 |.ok ds=>∀vs H' G',Rel F G' H' σ ρ->Bn G H G' H'->AP F.K G' ds vs->Q vs H'
 |.exc c=>Jg F c
 |.bad=>False
def yf(F:B5)(G H:A4)(σ :St)(ρ:A8)(Q:Br):R (List D)->Prop
 |.ok ds=>∀a xs H' G',Rel F G' H' σ ρ->Bn G H G' H'->H a=none->H' a=some (.lst xs)->G' a=none->AP F.K G' ds xs->Q (.ref a) H'
 |.exc c=>Jg F c
 |.bad=>False
def Fi(F:B5)(G:A4)(Bw:Ends):R FK->Prop
 |.ok (.BK B9)=>∀ σ' G' H',Rel F G' H' σ' B9->Sub G G'->Bw.BK σ' H'
 |.ok (.F9 B9)=>∀ σ' G' H',Rel F G' H' σ' B9->Sub G G'->Bw.F9 σ' H'
 |.ok (.C_ B9)=>∀ σ' G' H',Rel F G' H' σ' B9->Sub G G'->Bw.C_ σ' H'
 |.ok (.DB d)=>∀v G' H',E4 F G' H'->At F.K G' d v->Bw.DB v H'
 |.ok (.HI ds)=>∀a xs G' H',E4 F G' H'->G' a=none->F.Ak a=none->H' a=some (.lst xs)->AP F.K G' ds xs->Bw.DB (.ref a) H'
 |.ok (.Dw t)=>∀v G' H',E4 F G' H'->Qr F G' H' t v->Bw.DB v H'
 |.ok (.rs d B9)=>∀v σ' G' H',Rel F G' H' σ' B9->At F.K G' d v->Bw.DB v H'
 |.exc c=>Jg F c
 |.bad=>False
def CN(F:B5)(m:AY):TE:=λσ H Q=>∃G ρ,Rel F G H σ ρ/\Hq F G H σ ρ Q (m ρ)
def Fp(F:B5)(m:C7):TT:=λσ H Q=>∃G ρ,Rel F G H σ ρ/\TM F G H σ ρ Q (m ρ)
def EL(F:B5)(m:Ad):Et:=λσ H Q=>∃G ρ,Rel F G H σ ρ/\ya F G H σ ρ Q (m ρ)
def Ie(F:B5)(m:Ad):TE:=λσ H Q=>∃G ρ,Rel F G H σ ρ/\yf F G H σ ρ Q (m ρ)
def EM(F:B5)(m:B6):Ei:=λBw σ H=>∃G ρ,Rel F G H σ ρ/\Fi F G Bw (m ρ)
section
variable{F:B5}{G AV H H1:A4}{σ :St}{ρ:A8}
def Hq.mono{Q:Br}(s:Bn G H AV H1):∀{r:R D},Hq F G H σ ρ Q r->Hq F AV H1 σ ρ Q r
 |.ok _,h=>λv H' G' r Ar a=>h v H' G' r (s.trans Ar) a
 |.exc _,h=>h
 |.bad,h=>h
def TM.mono{Q:Bool->A4->Prop}(s:Bn G H AV H1):∀{r:R Bool},TM F G H σ ρ Q r->TM F AV H1 σ ρ Q r
 |.ok _,h=>λH' G' r Ar=>h H' G' r (s.trans Ar)
 |.exc _,h=>h
 |.bad,h=>h
def Fi.mono{Bw:Ends}(s:Sub G AV):∀{r:R FK},Fi F G Bw r->Fi F AV Bw r
 |.ok (.BK _),h=>λσ' G' H' r Ar=>h σ' G' H' r (s.trans Ar)
 |.ok (.F9 _),h=>λσ' G' H' r Ar=>h σ' G' H' r (s.trans Ar)
 |.ok (.C_ _),h=>λσ' G' H' r Ar=>h σ' G' H' r (s.trans Ar)
 |.ok (.DB _),h=>h
 |.ok (.HI _),h=>h
 |.ok (.Dw _),h=>h
 |.ok (.rs _ _),h=>h
 |.exc _,h=>h
 |.bad,h=>h
end
abbrev Dq(t' t:TE):Prop:=∀ σ H Q,t' σ H Q->t σ H Q
abbrev NZ(t' t:TT):Prop:=∀ σ H Q,t' σ H Q->t σ H Q
abbrev SH(t' t:Et):Prop:=∀ σ H Q,t' σ H Q->t σ H Q
abbrev GB(t' t:Ei):Prop:=∀Bw σ H,t' Bw σ H->t Bw σ H
noncomputable def A3(i:Nat):AY:=λρ=>match ρ[i]? with
 |some (.AI d)=>.ok d
 |_=>.bad
def AM(d:D):AY:=λ_=>.ok d
section
variable{F:B5}
def y0(i:Nat):Dq (CN F (A3 i)) (Ky i):=by
 rintro σ H Q ⟨G,ρ,r,h⟩;unfold A3 at h;cases e:ρ[i]? with
 |none=>rw[e]at h;cases h
 |some s=>
  rw[e]at h;cases s with
  |un=>cases h
  |ob _=>cases h
  |DF _=>cases h
  |D4 _ _=>cases h
  |AI d=>obtain⟨v,A1,a⟩:=r.AI e;exact⟨v,A1,h v H G r (Bn.refl _ _) a⟩
def VX{d:D}{v:V}(a:∀G,At F.K G d v):Dq (CN F (AM d)) (Mp v):=by rintro σ H Q ⟨G,ρ,r,h⟩;exact h v H G r (Bn.refl _ _) (a G)
def AK(f:D->D->R D)(a b:AY):AY:=λρ=>(a ρ).bind λx=>(b ρ).bind λy=>f x y
def GX(F:B5)(r:EO)(f:D->D->R D):Prop:=∀ σ ρ G H x y Av FC Q,Rel F G H σ ρ->At F.K G Av x->At F.K G FC y->Hq F G H σ ρ Q (f Av FC)->r x y H Q
def Y_{r:EO}{f:D->D->R D}{ma Eo:AY}(AE:GX F r f):Dq (CN F (AK f ma Eo)) (Mq r (CN F ma) (CN F Eo)):=by rintro σ H Q ⟨G,ρ,r,h⟩;unfold AK at h;refine⟨G,ρ,r,?_⟩;refine rb h λAv Aa h x H1 AV A6 s1 BU=>?_;refine⟨AV,ρ,A6,?_⟩;refine rb h λFC B7 h y Ab Bl AZ s2 CJ=>?_;exact AE σ ρ Bl Ab x y Av FC Q AZ (BU.mono s2.g) CJ (h.mono (s1.trans s2))
def DZ(f:D->R D)(a:AY):AY:=λρ=>(a ρ).bind f
def iS(F:B5)(r:V->A4->Br->Prop)(f:D->R D):Prop:=∀ σ ρ G H x Av Q,Rel F G H σ ρ->At F.K G Av x->Hq F G H σ ρ Q (f Av)->r x H Q
def xz{r:V->A4->Br->Prop}{f:D->R D}{ma:AY}(AE:iS F r f):Dq (CN F (DZ f ma)) (rH r (CN F ma)):=by rintro σ H Q ⟨G,ρ,r,h⟩;unfold DZ at h;refine⟨G,ρ,r,?_⟩;refine rb h λAv Aa h x H1 AV A6 s1 BU=>?_;exact AE σ ρ AV H1 x Av Q A6 BU (h.mono s1)
def AL:Ad:=λ_=>.ok []
def A9(a:AY)(r:Ad):Ad:=λρ=>(a ρ).bind λx=>(r ρ).bind λxs=>.ok (x::xs)
def n4:SH (EL F AL) aD:=by rintro σ H Q ⟨G,ρ,r,h⟩;exact h [] H G r (Bn.refl _ _) .nil
def w_{ma:AY}{PA:Ad}:SH (EL F (A9 ma PA)) (aB (CN F ma) (EL F PA)):=by rintro σ H Q ⟨G,ρ,r,h⟩;unfold A9 at h;refine⟨G,ρ,r,?_⟩;refine rb h λAv Aa h x H1 AV A6 s1 BU=>?_;refine⟨AV,ρ,A6,?_⟩;refine rb h λFC B7 h y Ab Bl AZ s2 CJ=>?_;exact h (x::y) Ab Bl AZ (s1.trans s2) (.cons (BU.mono s2.g) CJ)
def D8(m:Ad):AY:=λρ=>(m ρ).bind λxs=>if xs.length<=1000000 then .ok (.tup xs)else .bad
def xw{m:Ad}:Dq (CN F (D8 m)) (eC (EL F m)):=by
 rintro σ H Q ⟨G,ρ,r,h⟩;unfold D8 at h;refine⟨G,ρ,r,?_⟩;refine rb h λds Aa h vs H1 AV A6 s1 a=>?_;by_cases AF:ds.length<=1000000
 .rw[if_pos AF]at h;refine⟨by rw[<-a.length];exact Eg AF (by decide),λp AW=>?_⟩;refine h (.ref p) _ _ (A6.lay AW) (s1.trans (Bn.lay A6.AJ.sub AW)) ?_;simp only[At];exact⟨p,vs,rfl,DO,a.mono (Sub.upd (A6.AJ.sub.gone AW))⟩
 .rw[if_neg AF]at h;cases h
def C3.back{G H H':A4}{σ :St}{ρ:A8}(r:Rel F G H σ ρ)(s:Sub H H'){a:Z}(h:C3 H' σ ρ a):C3 H σ ρ a:=by
 obtain⟨i,BY,o,A1,A7,f⟩:=h;refine⟨i,BY,o,A1,A7,?_⟩;obtain⟨BM,B8,q⟩:=r.BY i BY A1;rw[A7]at B8;cases B8;exact(q.keep (G':=G) (H':=H') (Sub.refl _) λb GJ=>⟨by
  cases e:H b with
  |none=>exact absurd e (q.foot GJ).1
  |some u=>exact s b u e,(q.foot GJ).2.1⟩).2 a f
def C3.fresh{G H H':A4}{σ :St}{ρ:A8}(r:Rel F G H σ ρ)(s:Sub H H'){a:Z}(n:H a=none):¬C3 H' σ ρ a:=λh=>(r.foot (h.back r s)).1 n
noncomputable def lim(xs:List D):R (List D):=if xs.length<=1000000 then .ok xs else .bad
def G0(m:Ad):Ad:=λρ=>(m ρ).bind lim
def yH{m:Ad}:Dq (Ie F (G0 m)) (r9 (EL F m)):=by
 rintro σ H Q ⟨G,ρ,r,h⟩;unfold G0 lim at h;refine⟨G,ρ,r,?_⟩;refine rb h λds Aa h vs H1 AV A6 s1 a=>?_;by_cases AF:ds.length<=1000000
 .rw[if_pos AF]at h;refine⟨by rw[<-a.length];exact Eg AF (by decide),λp AW=>?_⟩;exact h p vs _ AV (A6.lay0 AW) (s1.trans (Bn.lay0 AW)) (s1.h.gone AW) DO (A6.AJ.sub.gone AW) a
 .rw[if_neg AF]at h;cases h
def FE(m:Ad):AY:=λρ=>(m ρ).bind λxs=>.ok (.lst xs)
def y9{m:Ad}:Dq (CN F (FE m)) (Ie F m):=by rintro σ H Q ⟨G,ρ,r,h⟩;unfold FE at h;refine⟨G,ρ,r,?_⟩;refine rb h λds Aa h a xs H' G' B2 s' AR A2 AQ q=>?_;refine h (.ref a) H' _ (B2.take A2 AQ (r.AJ.B1.gone AR) (C3.fresh r s'.h AR)) (s'.put AR AQ) ?_;simp only[At];exact⟨a,xs,rfl,DO,q.mono (Sub.upd AQ)⟩
def MF:D->R Bool
 |.AO b=>.ok b
 |_=>.bad
def Be(m:AY):C7:=λρ=>(m ρ).bind MF
def YZ{m:AY}:NZ (Fp F (Be m)) (e2 (CN F m)):=by
 rintro σ H Q ⟨G,ρ,r,h⟩;unfold Be at h;refine⟨G,ρ,r,?_⟩;refine rb h λd Aa h x H1 AV A6 s1 BU=>?_
 cases d<;>first
  |(cases h)
  |(simp only[At]at BU;exact⟨_,BU,h H1 AV A6 s1⟩)
def mx{m:AY}:NZ (Fp F (Be m)) (eB (CN F m)):=YZ
def QG(a b:C7):C7:=λρ=>(a ρ).bind λc=>if c=true then b ρ else .ok false
def HC(a b:C7):C7:=λρ=>(a ρ).bind λc=>if c=true then .ok true else b ρ
def En(a:C7):C7:=λρ=>(a ρ).bind λc=>.ok (!c)
def x2{a b:C7}:NZ (Fp F (QG a b)) (pZ (Fp F a) (Fp F b)):=by
 rintro σ H Q ⟨G,ρ,r,h⟩;unfold QG at h;refine⟨G,ρ,r,?_⟩;refine rb h λc Aa h H1 AV A6 s1=>?_;cases c with
 |true=>exact⟨AV,ρ,A6,TM.mono s1 h⟩
 |false=>exact h H1 AV A6 s1
def yP{a b:C7}:NZ (Fp F (HC a b)) (rE (Fp F a) (Fp F b)):=by
 rintro σ H Q ⟨G,ρ,r,h⟩;unfold HC at h;refine⟨G,ρ,r,?_⟩;refine rb h λc Aa h H1 AV A6 s1=>?_;cases c with
 |true=>exact h H1 AV A6 s1
 |false=>exact⟨AV,ρ,A6,TM.mono s1 h⟩
def yM{a:C7}:NZ (Fp F (En a)) (rC (Fp F a)):=by
 rintro σ H Q ⟨G,ρ,r,h⟩;unfold En at h;refine⟨G,ρ,r,?_⟩;cases Aa:a ρ with
 |bad=>rw[Aa]at h;cases h
 |exc c=>rw[Aa]at h;exact h
 |ok c=>rw[Aa,R.DH]at h;exact h
def LL(a b:AY):AY:=λρ=>(a ρ).bind λx=>(MF x).bind λc=>if c=true then b ρ else .ok (.AO false)
def VA(a b:AY):AY:=λρ=>(a ρ).bind λx=>(MF x).bind λc=>if c=true then .ok (.AO true)else b ρ
def Zg(a:AY):AY:=λρ=>(a ρ).bind λx=>(MF x).bind λc=>.ok (.AO (!c))
def x3{a b:AY}:Dq (CN F (LL a b)) (q5 (CN F a) (CN F b)):=by
 rintro σ H Q ⟨G,ρ,r,h⟩;unfold LL at h;refine⟨G,ρ,r,?_⟩;refine rb h λd Aa h x H1 AV A6 s1 BU=>?_;cases d with
 |AO c=>
  simp only[At]at BU;refine⟨c,BU,?_⟩;cases c with
  |true=>exact⟨AV,ρ,A6,Hq.mono s1 h⟩
  |false=>exact h _ H1 AV A6 s1 (by simp only[At])
 |_=>cases h
def yQ{a b:AY}:Dq (CN F (VA a b)) (rF (CN F a) (CN F b)):=by
 rintro σ H Q ⟨G,ρ,r,h⟩;unfold VA at h;refine⟨G,ρ,r,?_⟩;refine rb h λd Aa h x H1 AV A6 s1 BU=>?_;cases d with
 |AO c=>
  simp only[At]at BU;refine⟨c,BU,?_⟩;cases c with
  |false=>exact⟨AV,ρ,A6,Hq.mono s1 h⟩
  |true=>exact h _ H1 AV A6 s1 (by simp only[At])
 |_=>cases h
def yN{a:AY}:Dq (CN F (Zg a)) (rD (CN F a)):=by
 rintro σ H Q ⟨G,ρ,r,h⟩;unfold Zg at h;refine⟨G,ρ,r,?_⟩;refine rb h λd Aa h x H1 AV A6 s1 BU=>?_;cases d with
 |AO c=>simp only[At]at BU;exact⟨c,BU,h _ H1 AV A6 s1 (by simp only[At])⟩
 |_=>cases h
def Sg(c:C7)(a b:AY):AY:=λρ=>(c ρ).bind λk=>if k=true then a ρ else b ρ
def yB{c:C7}{a b:AY}:Dq (CN F (Sg c a b)) (r8 (Fp F c) (CN F a) (CN F b)):=by
 rintro σ H Q ⟨G,ρ,r,h⟩;unfold Sg at h;refine⟨G,ρ,r,?_⟩;refine rb h λk Aa h H1 AV A6 s1=>?_;cases k with
 |true=>exact⟨AV,ρ,A6,Hq.mono s1 h⟩
 |false=>exact⟨AV,ρ,A6,Hq.mono s1 h⟩
def DE:B6:=λρ=>.ok (.BK ρ)
def BI(a b:B6):B6:=λρ=>(a ρ).bind λf=>match f with
 |.BK B9=>b B9
 |f=>.ok f
def yL:GB (EM F DE) e9:=by rintro Bw σ H ⟨G,ρ,r,h⟩;exact h σ G H r (Sub.refl _)
def xn{a b:B6}:GB (EM F (BI a b)) (V_ (EM F a) (EM F b)):=by
 rintro Bw σ H ⟨G,ρ,r,h⟩;unfold BI at h;refine⟨G,ρ,r,?_⟩;refine rb h λf Aa h=>?_;cases f with
 |BK B9=>exact λσ' G' H' B2 s'=>⟨G',B9,B2,Fi.mono s' h⟩
 |DB d=>exact h
 |HI d=>exact h
 |F9 d=>exact h
 |C_ d=>exact h
 |Dw d=>exact h
 |rs d _=>exact h
def V5(a:AY):B6:=λρ=>(a ρ).bind λ_=>.ok (.BK ρ)
def y3{a:AY}:GB (EM F (V5 a)) (e5 (CN F a)):=by
 rintro Bw σ H ⟨G,ρ,r,h⟩;unfold V5 at h;refine⟨G,ρ,r,?_⟩;cases Aa:a ρ with
 |bad=>rw[Aa]at h;cases h
 |exc c=>rw[Aa]at h;exact h
 |ok d=>rw[Aa,R.DH]at h;exact λv H' G' B2 s' _=>h σ G' H' B2 s'.g
def CK(a:AY):B6:=λρ=>(a ρ).bind λd=>.ok (.DB d)
def xj{a:AY}:GB (EM F (CK a)) (TS (CN F a)):=by
 rintro Bw σ H ⟨G,ρ,r,h⟩;unfold CK at h;refine⟨G,ρ,r,?_⟩;cases Aa:a ρ with
 |bad=>rw[Aa]at h;cases h
 |exc c=>rw[Aa]at h;exact h
 |ok d=>rw[Aa,R.DH]at h;exact λv H' G' B2 s' a=>h v G' H' B2.AJ a
def IZ(a:Ad):B6:=λρ=>(a ρ).bind λd=>.ok (.HI d)
def xk{a:Ad}:GB (EM F (IZ a)) (TS (Ie F a)):=by
 rintro Bw σ H ⟨G,ρ,r,h⟩;unfold IZ at h;refine⟨G,ρ,r,?_⟩;cases Aa:a ρ with
 |bad=>rw[Aa]at h;cases h
 |exc c=>rw[Aa]at h;exact h
 |ok d=>rw[Aa,R.DH]at h;exact λa xs H' G' B2 s' h1 h2 h3 h4=>h a xs G' H' B2.AJ h3 (r.AJ.B1.gone h1) h2 h4
def P2(i:Nat):Ad:=λρ=>match ρ[i]? with
 |some (.ob (.lst d))=>.ok d
 |_=>.bad
def xl(i:Nat):GB (EM F (IZ (P2 i))) (TS (Ky i)):=by
 rintro Bw σ H ⟨G,ρ,r,h⟩;unfold IZ P2 at h;cases e:ρ[i]? with
 |none=>rw[e]at h;cases h
 |some s=>
  rw[e]at h;cases s with
  |un=>cases h
  |AI _=>cases h
  |DF _=>cases h
  |D4 _ _=>cases h
  |ob o=>
   cases o with
   |lst ds=>obtain⟨a,xs,A1,h1,h2,h3,h4⟩:=r.own e;exact⟨.ref a,A1,h a xs G H r.AJ h2 h3 h1 h4⟩
   |BN _ _=>cases h
   |ins _ _ _=>cases h
def DA(c:C7)(a b:B6):B6:=λρ=>(c ρ).bind λk=>if k=true then a ρ else b ρ
def yC{c:C7}{a b:B6}:GB (EM F (DA c a b)) (e8 (Fp F c) (EM F a) (EM F b)):=by
 rintro Bw σ H ⟨G,ρ,r,h⟩;unfold DA at h;refine⟨G,ρ,r,?_⟩;refine rb h λk Aa h H1 AV A6 s1=>?_;cases k with
 |true=>exact⟨AV,ρ,A6,Fi.mono s1.g h⟩
 |false=>exact⟨AV,ρ,A6,Fi.mono s1.g h⟩
noncomputable def B_(i:Nat)(d:D)(ρ:A8):R A8:=if i<ρ.length then .ok (ρ.set i (.AI d))else .bad
def E8(i:Nat)(a:AY):B6:=λρ=>(a ρ).bind λd=>(B_ i d ρ).bind λB9=>.ok (.BK B9)
def xo{i:Nat}{a:AY}:GB (EM F (E8 i a)) (Kl (CN F a) (H4 i)):=by
 rintro Bw σ H ⟨G,ρ,r,h⟩;unfold E8 B_ at h;refine⟨G,ρ,r,?_⟩;refine rb h λd Aa h v H1 AV A6 s1 Au=>?_;by_cases A0:i<ρ.length
 .rw[if_pos A0]at h;exact h _ AV H1 (A6.set A0 Au) s1.g
 .rw[if_neg A0]at h;cases h
def G1(i:Nat)(a:Ad):B6:=λρ=>(a ρ).bind λds=>if i<ρ.length then .ok (.BK (ρ.set i (.BQ ds)))else .bad
def cI{i:Nat}{a:Ad}:GB (EM F (G1 i a)) (Kl (Ie F a) (H4 i)):=by
 rintro Bw σ H ⟨G,ρ,r,h⟩;unfold G1 at h;refine⟨G,ρ,r,?_⟩;refine rb h λds Aa h b xs H1 AV A6 s1 h1 h2 h3 h4=>?_;by_cases A0:i<ρ.length
 .rw[if_pos A0]at h;exact h _ AV H1 (A6.adD A0 h2 h3 (r.AJ.B1.gone h1) h4 λj es o _ A1 A7 f=>C3.fresh r s1.h h1 ⟨j,es,o,A1,A7,f⟩) s1.g
 .rw[if_neg A0]at h;cases h
def L9(i:Nat)(ρ:A8):A8:=match ρ[i]? with
 |some (.ob o)=>ρ.set i (.AI (JG o))
 |_=>ρ
theorem Rel.L9{G H:A4}{σ :St}{ρ:A8}(r:Rel F G H σ ρ)(i:Nat):∃G',Rel F G' H σ (Cj.L9 i ρ)/\Sub G G':=by
 unfold Cj.L9;cases e:ρ[i]? with
 |none=>exact⟨G,r,Sub.refl _⟩
 |some s=>
  cases s with
  |un=>exact⟨G,r,Sub.refl _⟩
  |AI _=>exact⟨G,r,Sub.refl _⟩
  |DF _=>exact⟨G,r,Sub.refl _⟩
  |D4 _ _=>exact⟨G,r,Sub.refl _⟩
  |ob o=>exact r.JZ e
def V8(i:Nat)(m:B6):B6:=λρ=>m (L9 i ρ)
def y8{i:Nat}{m:B6}:GB (EM F (V8 i m)) (EM F m):=by rintro Bw σ H ⟨G,ρ,r,h⟩;obtain⟨AV,A6,s1⟩:=r.L9 i;exact⟨AV,_,A6,Fi.mono s1 h⟩
noncomputable def Gf:D->Bool
 |.non=>true|.AO _=>true|.int _=>true|.str _=>true
 |_=>false
noncomputable def At.qR{K:AT}{G G':A4}{d:D}{v:V}(h:Gf d=true)(a:At K G d v):At K G' d v:=by
 cases d<;>first
  |(simp only[At]at a |-;exact a)
  |(cases h)
def N1:C4->C4
 |.ob o=>.AI (JG o)
 |.DF t=>.AI (toD t)
 |.D4 _ t=>.AI (toD t)
 |s=>s
def Em(ρ:A8):A8:=ρ.map N1
open Classical in
noncomputable def Ja(σ :St)(ρ:A8)(G H:A4):A4:=λb=>if C3 H σ ρ b then H b else G b
def Yp{G H:A4}{σ :St}{ρ:A8}(r:Rel F G H σ ρ):Sub G (Ja σ ρ G H):=λb o e=>by
 unfold Ja
 split
 .exact r.AJ.sub b o e
 .exact e
def PR{G H:A4}{σ :St}{ρ:A8}{b:Z}(h:C3 H σ ρ b):Ja σ ρ G H b=H b:=by unfold Ja;rw[if_pos h]
def wE{H:A4}{ρ:A8}{i:Nat}{s:C4}(e:(Em ρ)[i]?=some s)(o:Option V)(a:Z):¬F7 H s o a:=by
 unfold Em at e;rw[EH]at e;cases A7:ρ[i]? with
 |none=>rw[A7]at e;cases e
 |some t=>rw[A7]at e;have es:N1 t=s:=Dz e;subst es;cases t<;>exact λz=>z
def Rel.plus{G H:A4}{σ :St}{ρ:A8}(r:Rel F G H σ ρ):Rel F (Ja σ ρ G H) H σ (Em ρ):=by
 have Ar:=Yp r;refine⟨⟨λb o e=>?_,r.AJ.DU.trans Ar,r.AJ.B1,λb J=>?_⟩,by simp[Em,r.len],λi s e=>?_,λi j a s s' o BM A1 _ _ _ f _=>absurd f (wE A1 o a)⟩
 .unfold Ja at e
  split at e
  .exact e
  .exact r.AJ.sub b o e
 .unfold Ja
  split
  .rename_i z;exact absurd (r.foot z).2.2 J.1
  .exact r.AJ.new b J
 .unfold Em at e;rw[EH]at e;cases A1:ρ[i]? with
  |none=>rw[A1]at e;cases e
  |some t=>
   rw[A1]at e;have es:N1 t=s:=Dz e;obtain⟨o,A7,q⟩:=r.BY i t A1;refine⟨o,A7,?_⟩;subst es;cases t with
   |un=>trivial
   |AI d=>obtain⟨v,B8,a⟩:=q;exact⟨v,B8,a.mono Ar⟩
   |ob ds=>obtain⟨a,AE,B8,h1,h2,h3,h4⟩:=q;subst B8;exact⟨.ref a,rfl,(h4.mono Ar).at (by rw[PR (.ob A1 A7)];exact h1)⟩
   |DF t=>obtain⟨v,B8,q⟩:=q;exact⟨v,B8,q.at_.view Ar λa A2=>PR ⟨i,_,o,A1,A7,v,B8,A2⟩⟩
   |D4 n t=>obtain⟨v,B8,q,_⟩:=q;exact⟨v,B8,q.at_.view Ar λa A2=>PR ⟨i,_,o,A1,A7,v,B8,A2⟩⟩
def Rel.back{G H G' H':A4}{σ :St}{ρ:A8}(r:Rel F G H σ ρ)(B2:Rel F G' H' σ (Em ρ))(s:Sub (Ja σ ρ G H) G'):Rel F G H' σ ρ:=
 r.over rfl ⟨(Yp r).trans (s.trans B2.AJ.sub),r.AJ.DU,B2.AJ.B1,r.AJ.new⟩ (Sub.refl _) λa A2=>by
   obtain⟨h1,h2,h3⟩:=r.foot A2;refine⟨?_,h2,h3⟩;cases e:H a with
   |none=>exact absurd e h1
   |some o=>exact B2.AJ.sub _ _ (s _ _ (by rw[PR A2];exact e))
def ZN(d:D):R D:=if Gf d=true then .ok d else .bad
def QH(m:AY):AY:=λρ=>(m (Em ρ)).bind ZN
def x4{m:AY}:Dq (CN F (QH m)) (CN F m):=by
 rintro σ H Q ⟨G,ρ,r,h⟩;refine⟨Ja σ ρ G H,Em ρ,r.plus,?_⟩;unfold QH ZN at h;refine rb h λd Aa h v H' G' B2 s' a=>?_;by_cases hd:Gf d=true
 .rw[if_pos hd]at h;exact h v H' G (r.back B2 s'.g) ⟨Sub.refl _,s'.h,λ_ _=>rfl⟩ (a.qR hd)
 .rw[if_neg hd]at h;cases h
def Oy(m:C7):C7:=λρ=>m (Em ρ)
def wT{m:C7}:NZ (Fp F (Oy m)) (Fp F m):=by
 rintro σ H Q ⟨G,ρ,r,h⟩;refine⟨Ja σ ρ G H,Em ρ,r.plus,?_⟩;unfold Oy at h;cases Aa:m (Em ρ)with
 |bad=>rw[Aa]at h;cases h
 |exc c=>rw[Aa]at h;exact h
 |ok d=>rw[Aa]at h;exact λH' G' B2 s'=>h H' G (r.back B2 s'.g) ⟨Sub.refl _,s'.h,λ_ _=>rfl⟩
end
section
variable{F:B5}
structure KH(K:AT)(Bp:It)(ds:List D)(G:A4):Prop where
 go:∀(i:Nat)(H:A4),Sub G H->i<ds.length->Bp.go i H
 Jt:∀(i:Nat)(H:A4)(x:V)(H':A4),Sub G H->i<ds.length->Bp.Jt i H x H'->∃d,ds[i]?=some d/\
  ((H'=H/\At K G d x)\/∃p xs es,H p=none/\H'=upd H p (.tup xs)/\x=.ref p/\d=.tup es/\AP K G es xs)
 stop:∀(H:A4),Sub G H->Bp.stop ds.length H
noncomputable def Pb(F:B5)(G H:A4)(σ :St)(ρ:A8)(Q:It->A4->Prop):R (List D)->Prop
 |.ok ds=>∀Bp H' G',Rel F G' H' σ ρ->Bn G H G' H'->KH F.K Bp ds G'->Q Bp H'
 |.exc c=>Jg F c
 |.bad=>False
def Jq(F:B5)(m:Ad):TI:=λσ H Q=>∃G ρ,Rel F G H σ ρ/\Pb F G H σ ρ Q (m ρ)
abbrev Oc(t' t:TI):Prop:=∀ σ H Q,t' σ H Q->t σ H Q
def KH.turn{Bp:It}{ds:List D}{G AV H H':A4}{σ :St}{ρ:A8}{i:Nat}{x:V}(t:KH F.K Bp ds G)(r:Rel F AV H σ ρ)(s:Sub G AV)(A0:i<ds.length)(y:Bp.Jt i H x H') :
  ∃d G',ds[i]?=some d/\Rel F G' H' σ ρ/\Bn AV H G' H'/\At F.K G' d x:=by
 obtain⟨d,e,h⟩:=t.Jt i H x H' (s.trans r.AJ.sub) A0 y;rcases h with⟨rfl,a⟩|⟨p,xs,es,AW,rfl,rfl,rfl,a⟩
 .exact⟨d,AV,e,r,Bn.refl _ _,a.mono s⟩
 .refine⟨_,_,e,r.lay AW,Bn.lay r.AJ.sub AW,?_⟩;simp only[At];exact⟨p,xs,rfl,DO,(a.mono s).mono (Sub.upd (r.AJ.sub.gone AW))⟩
def MR(F:B5)(g:HQ)(set:D->A8->R A8):Prop:=∀ σ ρ G H v d Q B9,Rel F G H σ ρ->At F.K G d v->set d ρ=.ok B9->(∀ σ',Rel F G H σ' B9->Q σ' H)->g v σ H Q
def Yr(i:Nat):MR F (H4 i) (B_ i):=by
 intro σ ρ G H v d Q B9 r a e h;unfold B_ at e;by_cases A0:i<ρ.length
 .rw[if_pos A0]at e;cases e;exact h _ (r.set A0 a)
 .rw[if_neg A0]at e;cases e
def Hx:List (D->A8->R A8)->List D->A8->R A8
 |[],[],ρ=>.ok ρ
 |f::Am,d::ds,ρ=>(f d ρ).bind λB9=>Hx Am ds B9
 |_,_,_=>.bad
def Ue(F:B5)(g:MW)(set:List D->A8->R A8):Prop:=∀ σ ρ G H vs ds Q B9,Rel F G H σ ρ->AP F.K G ds vs->set ds ρ=.ok B9->(∀ σ',Rel F G H σ' B9->Q σ' H)->g vs σ H Q
def m7:Ue F Yo (Hx []):=by
 intro σ ρ G H vs ds Q B9 r a e h;cases ds with
 |nil=>simp only[AP]at a;cases e;exact⟨a,h σ r⟩
 |cons d ds=>cases e
def ah{g:HQ}{O6:MW}{f:D->A8->R A8}{Am:List (D->A8->R A8)}(h1:MR F g f)(h2:Ue F O6 (Hx Am)):Ue F (UY g O6) (Hx (f::Am)):=by
 intro σ ρ G H vs ds Q B9 r a e h;cases ds with
 |nil=>cases e
 |cons d ds=>
  simp only[AP]at a;obtain⟨v,aM,rfl,Au,ME⟩:=a;simp only[Hx]at e;cases A1:f d ρ with
  |bad=>rw[A1]at e;cases e
  |exc c=>rw[A1]at e;cases e
  |ok ρ1=>rw[A1,R.DH]at e;refine⟨v,aM,rfl,h1 σ ρ G H v d _ ρ1 r Au A1 λσ1 A6=>?_⟩;exact h2 σ1 ρ1 G H aM ds Q B9 A6 ME e h
def G8(Am:List (D->A8->R A8)):D->A8->R A8
 |.tup ds,ρ=>Hx Am ds ρ
 |_,_=>.bad
theorem pe:∀{Am:List (D->A8->R A8)}{ds:List D}{ρ B9:A8},Hx Am ds ρ=.ok B9->ds.length=Am.length
 |[],[],_,_,_=>rfl
 |[],_::_,_,_,e=>by cases e
 |_::_,[],_,_,e=>by cases e
 |f::Am,d::ds,ρ,B9,e=>by
  simp only[Hx]at e;cases A1:f d ρ with
  |bad=>rw[A1]at e;cases e
  |exc c=>rw[A1]at e;cases e
  |ok ρ1=>rw[A1,R.DH]at e;simp[pe e]
def m8{O6:MW}{Am:List (D->A8->R A8)}{n:Nat}(AR:n=Am.length)(h:Ue F O6 (Hx Am)):MR F (Yq F.K n O6) (G8 Am):=by
 intro σ ρ G H v d Q B9 r a e k;cases d with
 |tup ds=>simp only[At]at a;obtain⟨p,xs,rfl,Ac,al⟩:=a;refine⟨p,xs,rfl,CA.of (r.AJ.sub _ _ Ac),?_,h σ ρ G H xs ds Q B9 r al e k⟩;rw[<-al.length,AR];exact pe e
 |_=>cases e
def H3(set:D->A8->R A8)(body:B6):List D->A8->R FK
 |[],ρ=>.ok (.BK ρ)
 |d::ds,ρ=>(set d ρ).bind λρ1=>(body ρ1).bind λf=>match f with
  |.BK Cq=>H3 set body ds Cq
  |.C_ Cq=>H3 set body ds Cq
  |.F9 Cq=>.ok (.BK Cq)
  |f=>.ok f
def Eb(mi:Ad)(set:D->A8->R A8)(body:B6):B6:=λρ=>(mi ρ).bind λds=>H3 set body ds ρ
def y6{mi:Ad}{set:D->A8->R A8}{body:B6}{g:HQ}(AQ:MR F g set)(A5:∀d ρ c,set d ρ≠.exc c):GB (EM F (Eb mi set body)) (e6 (Jq F mi) g (EM F body)):=by
 rintro Bw σ H ⟨G,ρ,r,h⟩;unfold Eb at h;refine⟨G,ρ,r,?_⟩;refine rb h λds Aa h Bp H1 AV A6 s1 it=>?_;refine⟨λi m σ2 Ab=>m=ds.length-i/\i<=ds.length/\∃Bl Cq,Rel F Bl Ab σ2 Cq/\Sub AV Bl/\Fi F Bl Bw (H3 set body (ds.drop i) Cq),⟨ds.length,by simp,GV _,AV,ρ,A6,Sub.refl _,Fi.mono s1.g (by simpa using h)⟩,?_⟩;rintro i m σ2 Ab ⟨rfl,A0,Bl,Cq,AZ,s2,k2⟩;by_cases DI:i<ds.length
 .refine .inr ⟨it.go i Ab (s2.trans AZ.AJ.sub) DI,λσ3 CI=>∃Dm Ny,Rel F Dm CI σ3 Ny/\Sub AV Dm/\Fi F Dm Bw (H3 set body (ds.drop (i+1)) Ny),λσ3 CI⟨Dm,Ny,Cy,s3,k3⟩=>⟨ds.length-(i+1),by lia,rfl,DI,Dm,Ny,Cy,s3,k3⟩,λx CI y=>?_⟩;obtain⟨d,Dm,B8,Cy,s3,Du⟩:=it.turn AZ s2 DI y;have E2:ds.drop i=d::ds.drop (i+1):=by
   rw[RU DI];have:=C5 DI;rw[B8]at this;rw[Dz this]
  rw[E2]at k2;simp only[H3]at k2;cases D9:set d Cq with
  |bad=>rw[D9]at k2;cases k2
  |exc c=>exact absurd D9 (A5 d Cq c)
  |ok F5=>
   rw[D9,R.DH]at k2;refine AQ σ2 Cq Dm CI x d _ F5 Cy Du D9 λσ5 Ia=>⟨Dm,F5,Ia,?_⟩;have Ly:Sub Bl Dm:=s3.g;refine rb k2 λf O2 k2=>?_;cases f with
   |BK JO=>exact λσ7 I9 FL F4 EK=>⟨I9,JO,F4,s2.trans (Ly.trans EK),Fi.mono (Ly.trans EK) k2⟩
   |C_ JO=>exact λσ7 I9 FL F4 EK=>⟨I9,JO,F4,s2.trans (Ly.trans EK),Fi.mono (Ly.trans EK) k2⟩
   |F9 JO=>exact λσ7 I9 FL F4 EK=>k2 σ7 I9 FL F4 (Ly.trans EK)
   |DB d=>exact k2
   |HI ds=>exact k2
   |Dw t=>exact k2
   |rs t _=>exact k2
 .have e:ds.drop i=[]:=Tc (by lia);rw[e]at k2;have Fy:i=ds.length:=by lia
  subst Fy;exact .inl ⟨it.stop Ab (s2.trans AZ.AJ.sub),k2 σ2 Bl Ab AZ (Sub.refl _)⟩
def Z9(i:Nat):∀d ρ c,B_ i d ρ≠.exc c:=λd ρ c=>by
 unfold B_
 split<;>exact λz=>nomatch z
theorem pf:∀{Am:List (D->A8->R A8)},(∀f∈Am,∀d ρ c,f d ρ≠.exc c)->∀ds ρ c,Hx Am ds ρ≠.exc c
 |[],_,[],_,_,e=>nomatch e
 |[],_,_::_,_,_,e=>nomatch e
 |_::_,_,[],_,_,e=>nomatch e
 |f::Am,h,d::ds,ρ,c,e=>by
  simp only[Hx]at e;cases A1:f d ρ with
  |bad=>rw[A1]at e;cases e
  |exc c=>exact h f (by simp) d ρ c A1
  |ok ρ1=>rw[A1,R.DH]at e;exact pf (λg AQ=>h g (by simp[AQ])) ds ρ1 c e
def ph{Am:List (D->A8->R A8)}(h:∀f∈Am,∀d ρ c,f d ρ≠.exc c):∀d ρ c,G8 Am d ρ≠.exc c:=λd ρ c e=>by
 cases d<;>first
  |(exact pf h _ _ _ e)
  |(cases e)
def nD{K:AT}{G:A4}{a:Z}{xs:List V}{ds:List D}(h:Bb K G a xs)(q:AP K G ds xs):KH K (gd K a) ds G where
 go:=λi H s A0=>by obtain⟨v,e,_⟩:=q.get (C5 A0);exact⟨xs,v,Bb.mono s h,e⟩
 Jt:=λi H x H' s A0 y=>by obtain⟨rfl,y⟩:=y;obtain⟨d,e,a⟩:=q.Ys (y xs (Bb.mono s h));exact⟨d,e,.inl ⟨rfl,a⟩⟩
 stop:=λH s=>⟨xs,Bb.mono s h,by rw[<-q.length];exact By _⟩
def mP{K:AT}{G:A4}{a:Z}{xs:List V}{ds:List D}(h:CA K G a xs)(q:AP K G ds xs):KH K (gg K a) ds G where
 go:=λi H s A0=>by obtain⟨v,e,_⟩:=q.get (C5 A0);exact⟨xs,v,CA.mono s h,e⟩
 Jt:=λi H x H' s A0 y=>by obtain⟨rfl,y⟩:=y;obtain⟨d,e,a⟩:=q.Ys (y xs (CA.mono s h));exact⟨d,e,.inl ⟨rfl,a⟩⟩
 stop:=λH s=>⟨xs,CA.mono s h,by rw[<-q.length];exact By _⟩
noncomputable def Ge(lo:Int)(n:Nat):List D:=(EI n).map λ(i:Nat)=>.int (lo+(i:Int))
def nE{K:AT}{G:A4}(lo:Int)(n:Nat):KH K (Y0 lo n) (Ge lo n) G where
 go:=λi H s A0=>by
  have h:i<n:=by simpa[Ge]using A0
  exact h
 Jt:=λi H x H' s A0 y=>by
  have h:i<n:=by simpa[Ge]using A0
  obtain⟨A1,A7⟩:=y;refine⟨.int (lo+(i:Int)),?_,.inl ⟨A1,?_⟩⟩
  .unfold Ge;rw[EH,Tk h];rfl
  .simp only[At];exact A7
 stop:=λH s=>by
  have h:n<=(Ge lo n).length:=by simp[Ge]
  exact h
def eb:D->R (List D)
 |.lst ds=>.ok ds
 |.Cd ds=>.ok ds
 |_=>.bad
def afx:D->R (List D)
 |.tup ds=>.ok ds
 |.EQ ds=>.ok ds
 |_=>.bad
def Hs(m:AY):Ad:=λρ=>(m ρ).bind eb
def yF{m:AY}:Oc (Jq F (Hs m)) (l8 F.K (CN F m)):=by
 rintro σ H Q ⟨G,ρ,r,h⟩;unfold Hs at h;refine⟨G,ρ,r,?_⟩;refine rb h λd Aa h v H1 AV A6 s1 a=>?_;cases d with
 |lst ds=>simp only[At]at a;obtain⟨p,xs,e,Ac,al⟩:=a;exact⟨p,e,⟨xs,Bb.of (A6.AJ.sub _ _ Ac)⟩,h _ H1 AV A6 s1 (nD (Bb.of Ac) al)⟩
 |Cd ds=>simp only[At]at a;obtain⟨p,xs,e,Ac,al⟩:=a;exact⟨p,e,⟨xs,Bb.mono A6.AJ.sub Ac⟩,h _ H1 AV A6 s1 (nD Ac al)⟩
 |_=>cases h
def Zd(m:AY):Ad:=λρ=>(m ρ).bind afx
def xy{m:AY}:Oc (Jq F (Zd m)) (mu F.K (CN F m)):=by
 rintro σ H Q ⟨G,ρ,r,h⟩;unfold Zd at h;refine⟨G,ρ,r,?_⟩;refine rb h λd Aa h v H1 AV A6 s1 a=>?_;cases d with
 |tup ds=>simp only[At]at a;obtain⟨p,xs,e,Ac,al⟩:=a;exact⟨p,e,⟨xs,CA.of (A6.AJ.sub _ _ Ac)⟩,h _ H1 AV A6 s1 (mP (CA.of Ac) al)⟩
 |EQ ds=>simp only[At]at a;obtain⟨p,xs,e,Ac,al⟩:=a;exact⟨p,e,⟨xs,CA.mono A6.AJ.sub Ac⟩,h _ H1 AV A6 s1 (mP Ac al)⟩
 |_=>cases h
def PJ:List D->R (List D)
 |[.int j]=>if-(2^62)<=j/\j<2^62 then .ok (Ge 0 j.toNat)else .bad
 |_=>.bad
def AP.ints1{K:AT}{G:A4}{j:Int}{vs:List V}(a:AP K G [.int j] vs):vs=[.int j]:=by simp only[AP,At]at a;obtain⟨v,r,rfl,rfl,rfl⟩:=a;rfl
def Gp(m:Ad):Ad:=λρ=>(m ρ).bind PJ
def xh{m:Ad}:Oc (Jq F (Gp m)) (cH (EL F m)):=by
 rintro σ H Q ⟨G,ρ,r,h⟩;unfold Gp at h;refine⟨G,ρ,r,?_⟩;refine rb h λds Aa h vs H1 AV A6 s1 a=>?_;unfold PJ at h
 split at h
 .rename_i j
  split at h
  .rename_i BO;exact⟨j,a.ints1,BO.1,BO.2,h _ H1 AV A6 s1 (nE 0 j.toNat)⟩
  .exact h.elim
 .exact h.elim
inductive Bf where
 |v (d:D)|o (ds:List D)|t (t:T)
def mT(F:B5)(Q:Br):R Bf->Prop
 |.ok (.v d)=>∀v G' H',E4 F G' H'->At F.K G' d v->Q v H'
 |.ok (.o ds)=>∀a xs G' H',E4 F G' H'->G' a=none->F.Ak a=none->H' a=some (.lst xs)->AP F.K G' ds xs->Q (.ref a) H'
 |.ok (.t t)=>∀v G' H',E4 F G' H'->Qr F G' H' t v->Q v H'
 |.exc c=>Jg F c
 |.bad=>False
def Oo(K:AT)(n:Nat)(xe:CS->Str->A4->Prop)(mf:List D->R Bf):IE:=λvs H Q E=>∃G ds,Sub G H/\AP K G ds vs/\ds.length=n/\mT ⟨K,G,H,xe E,Gc⟩ Q (mf ds)
def ZA{K:AT}{n:Nat}{xe:CS->Str->A4->Prop}{mf:List D->R Bf}:∀vs H Q E,Oo K n xe mf vs H Q E->vs.length=n:=λvs H Q E h=>by obtain⟨G,ds,_,a,l,_⟩:=h;rw[<-a.length];exact l
def outD:FK->R Bf
 |.BK _=>.ok (.v .non)
 |.DB d=>.ok (.v d)
 |.HI ds=>.ok (.o ds)
 |.Dw t=>.ok (.t t)
 |_=>.bad
noncomputable def Ha(N:Nat)(ds:List D):A8:=ds.map .AI++Q1 (N-ds.length) .un
def Cx(N:Nat)(m:B6)(ds:List D):R Bf:=(m (Ha N ds)).bind outD
noncomputable def Jp(N:Nat)(vs:List V):St:=vs.map some++Q1 (N-vs.length) none
def ou{K:AT}{G H:A4}{EX:Str->A4->Prop}{N:Nat}{ds:List D}{vs:List V}(s:Sub G H)(a:AP K G ds vs):Rel ⟨K,G,H,EX,Gc⟩ G H (Jp N vs) (Ha N ds):=by
 have AF:=a.length;refine⟨⟨s,Sub.refl _,Sub.refl _,λ_ _=>rfl⟩,by simp[Jp,Ha,AF],λi t e=>?_,λi j b es es' o BM A1 A7 _ _ f _=>?_⟩
 .unfold Ha at e;unfold Jp;by_cases A0:i<ds.length
  .rw[Gl (by simpa using A0),EH,C5 A0]at e;obtain⟨v,A1,Au⟩:=a.get (C5 A0);rw[Gl (by rw[Eh,<-AF];exact A0),EH,A1];have O4:C4.AI ds[i]=t:=Dz e;subst O4;exact⟨some v,rfl,v,rfl,Au⟩
  .rw[GU (by simpa using A0),NE]at e;rw[GU (by rw[Eh,<-AF];lia),NE,Eh,<-AF];rw[Eh]at e
   split at e
   .rename_i B1;rw[if_pos B1];cases e;exact⟨none,rfl,trivial⟩
   .cases e
 .exfalso;unfold Ha at A1;by_cases A0:i<ds.length
  .rw[Gl (by simpa using A0),EH,C5 A0]at A1;cases A1;exact f
  .rw[GU (by simpa using A0),NE]at A1
   split at A1
   .cases A1;exact f
   .cases A1
def Xd{K:AT}{xe:CS->Str->A4->Prop}{n N:Nat}{m:B6}{vs:List V}{H:A4}{Q:Br}{E:CS}(h:Oo K n xe (Cx N m) vs H Q E) :
  ∃G,EM ⟨K,G,H,xe E,Gc⟩ m { BK:=λ_ H'=>Q .non H',DB:=Q } (Jp N vs) H:=by
 obtain⟨G,ds,s,a,l,k⟩:=h;refine⟨G,G,Ha N ds,ou s a,?_⟩;unfold Cx at k;refine rb k λf e k=>?_;cases f with
 |BK ρ=>exact λσ' G' H' r _=>k .non G' H' r.AJ (by simp only[At])
 |DB d=>exact k
 |HI ds=>exact k
 |Dw t=>exact k
 |rs t _=>cases k
 |F9 ρ=>cases k
 |C_ ρ=>cases k
def E4.of{G H G' H':A4}{σ :St}{ρ:A8}{EX:Str->A4->Prop}(r:Rel F G H σ ρ)(k:E4 ⟨F.K,G,H,EX,Gc⟩ G' H'):Rel F G' H' σ ρ:=r.grow k.DU k.sub k.B1 λb J=>k.new b J
def HJ:Bf->R D
 |.v d=>.ok d
 |.o ds=>.ok (.lst ds)
 |.t t=>.ok (toD t)
def de:Bf->R (List D)
 |.o ds=>.ok ds
 |_=>.bad
noncomputable def N2(A:List Z)(G H:A4):A4:=λb=>if b∈A then H b else G b
def Rel.eE{G H BD Ak:A4}{σ :St}{ρ:A8}(r:Rel F G H σ ρ){F':B5}{t:T}{v:V}(Ag:F'.K=F.K)(q:Qr F' G H t v)(u:Bn BD Ak G H)(n:∀b∈Ae H t v,Ak b=none/\F.Ak b=none/\¬C3 H σ ρ b) :
  Rel F (N2 (Ae H t v) G H) H σ ρ/\Bn BD Ak (N2 (Ae H t v) G H) H/\At F.K (N2 (Ae H t v) G H) (toD t) v:=by
 have Ar:Sub G (N2 (Ae H t v) G H):=λb o e=>by
  unfold N2;by_cases J:b∈Ae H t v
  .rw[(q.own b J).1]at e;cases e
  .rw[if_neg J];exact e
 refine⟨r.over rfl ⟨λb o e=>?_,r.AJ.DU.trans Ar,r.AJ.B1,λb J=>?_⟩ Ar λa A2=>?_,⟨u.g.trans Ar,u.h,λb J=>?_⟩,?_⟩
 .unfold N2 at e
  split at e
  .exact e
  .exact r.AJ.sub b o e
 .unfold N2;rw[if_neg (λz=>J.1 (n b z).2.1)];exact r.AJ.new b J
 .obtain⟨h1,h2,h3⟩:=r.foot A2;refine⟨rfl,?_,h3⟩;unfold N2;rw[if_neg (λz=>(n a z).2.2 A2)];exact h2
 .unfold N2;rw[if_neg (λz=>J.1 (n b z).1)];exact u.n b J
 .rw[<-Ag];exact q.at_.view Ar λa A2=>by unfold N2;rw[if_pos A2]
def Bt(n:Nat)(mf:List D->R Bf)(m:Ad):AY:=λρ=>(m ρ).bind λds=>if ds.length=n then(mf ds).bind HJ else .bad
def Mf(n:Nat)(mf:List D->R Bf)(m:Ad):Ad:=λρ=>(m ρ).bind λds=>if ds.length=n then(mf ds).bind de else .bad
def mz{n:Nat}{mf:List D->R Bf}{m:Ad}{xe:CS->Str->A4->Prop}{E:CS}(A5:F.EX=xe E):Dq (CN F (Bt n mf m)) (W6 (Oo F.K n xe mf) [] E (EL F m)):=by
 rintro σ H Q ⟨G,ρ,r,h⟩;unfold Bt at h;refine⟨G,ρ,r,?_⟩;refine rb h λds Aa h vs H1 AV A6 s1 a=>?_;by_cases AR:ds.length=n
 .rw[if_pos AR]at h;rw[K0];refine⟨AV,ds,A6.AJ.sub,a,AR,?_⟩;cases e:mf ds with
  |bad=>rw[e]at h;cases h
  |exc c=>rw[e]at h;intro G' H' k;have z:=h G' H' (E4.of A6 k).AJ;rw[A5]at z;exact z
  |ok t=>
   rw[e,R.DH]at h;cases t with
   |v d=>exact λv G' H' k Au=>h v H' G' (E4.of A6 k) (s1.trans ⟨k.DU,k.B1,k.new⟩) Au
   |o es=>intro p xs G' H' k h1 h2 h3 h4;have h2:H1 p=none:=h2;have B2:=E4.of A6 k;have no:¬C3 H' σ ρ p:=C3.fresh A6 k.B1 h2;refine h (.ref p) H' _ (B2.take h3 h1 (A6.AJ.B1.gone h2) no) ((s1.trans ⟨k.DU,k.B1,k.new⟩).put (s1.h.gone h2) h1) ?_;simp only[At];exact⟨p,xs,rfl,DO,h4.mono (Sub.upd h1)⟩
   |t t=>intro v G' H' k q;obtain⟨a1,a2,Du⟩:=(E4.of A6 k).eE (F':=⟨F.K,AV,H1,xe E,Gc⟩) rfl q (s1.trans ⟨k.DU,k.B1,k.new⟩) λb J=>⟨s1.h.gone (q.own b J).2,A6.AJ.B1.gone (q.own b J).2,C3.fresh A6 k.B1 (q.own b J).2⟩;exact h v H' _ a1 a2 Du
 .rw[if_neg AR]at h;cases h
def wV{n:Nat}{mf:List D->R Bf}{m:Ad}{xe:CS->Str->A4->Prop}{E:CS}(A5:F.EX=xe E):Dq (Ie F (Mf n mf m)) (W6 (Oo F.K n xe mf) [] E (EL F m)):=by
 rintro σ H Q ⟨G,ρ,r,h⟩;unfold Mf at h;refine⟨G,ρ,r,?_⟩;refine rb h λds Aa h vs H1 AV A6 s1 a=>?_;by_cases AR:ds.length=n
 .rw[if_pos AR]at h;rw[K0];refine⟨AV,ds,A6.AJ.sub,a,AR,?_⟩;cases e:mf ds with
  |bad=>rw[e]at h;cases h
  |exc c=>rw[e]at h;intro G' H' k;have z:=h G' H' (E4.of A6 k).AJ;rw[A5]at z;exact z
  |ok t=>
   rw[e,R.DH]at h;cases t with
   |v d=>cases h
   |t t=>cases h
   |o es=>intro p xs G' H' k h1 h2 h3 h4;have h2:H1 p=none:=h2;have B2:=E4.of A6 k;exact h p xs H' G' B2 (s1.trans ⟨k.DU,k.B1,k.new⟩) (s1.h.gone h2) h3 h1 h4
 .rw[if_neg AR]at h;cases h
abbrev Od:=A8->R T
def yh(F:B5)(G H:A4)(σ :St)(ρ:A8)(Q:Br):R T->Prop
 |.ok t=>∀v H' G',Rel F G' H' σ ρ->Bn G H G' H'->Qr F G' H' t v->(∀b∈Ae H' t v,H b=none)->Q v H'
 |.exc c=>Jg F c
 |.bad=>False
def TU(F:B5)(m:Od):TE:=λσ H Q=>∃G ρ,Rel F G H σ ρ/\yh F G H σ ρ Q (m ρ)
def VE(i:Nat)(a:Od):B6:=λρ=>(a ρ).bind λt=>if i<ρ.length then .ok (.BK (ρ.set i (.DF t)))else .bad
def xq{i:Nat}{a:Od}:GB (EM F (VE i a)) (Kl (TU F a) (H4 i)):=by
 rintro Bw σ H ⟨G,ρ,r,h⟩;unfold VE at h;refine⟨G,ρ,r,?_⟩;refine rb h λt Aa h v H1 AV A6 s1 q n=>?_;by_cases A0:i<ρ.length
 .rw[if_pos A0]at h;refine h _ AV H1 (A6.RP A0 ⟨v,rfl,q⟩ λb f j s' BM _ A1 A7 PM=>?_) s1.g;obtain⟨u,Hm,J⟩:=f;cases Hm;exact C3.fresh r s1.h (n b J) ⟨j,s',BM,A1,A7,PM⟩
 .rw[if_neg A0]at h;cases h
def VD(a:Od):B6:=λρ=>(a ρ).bind λt=>.ok (.Dw t)
noncomputable def Sl(i:Nat):Od:=λρ=>match ρ[i]? with
 |some (.DF t)=>.ok t
 |_=>.bad
def xm(i:Nat):GB (EM F (VD (Sl i))) (TS (Ky i)):=by
 rintro Bw σ H ⟨G,ρ,r,h⟩;unfold VD Sl at h;cases e:ρ[i]? with
 |none=>rw[e]at h;cases h
 |some s=>
  rw[e]at h;cases s with
  |un=>cases h
  |AI _=>cases h
  |ob _=>cases h
  |D4 _ _=>cases h
  |DF t=>obtain⟨v,A1,q⟩:=r.tree e;exact⟨v,A1,h v G H r.AJ q⟩
end
end Cj
namespace Cj
open PySem PySem.Spec CE
noncomputable def FO:C4->C4
 |.AI d=>.AI d
 |_=>.un
def KQ(nl:Nat)(caps:List Nat)(ρ:A8):A8:=Q1 nl .un++caps.map λj=>FO (ρ.getD j .un)
def Hk(set:D->A8->R A8)(tst:C7)(elt:AY):List D->A8->List D->R (List D)
 |[],_,ws=>.ok ws
 |d::ds,ρ,ws=>(set d ρ).bind λρ1=>(tst ρ1).bind λb=>if b=true then(elt ρ1).bind λy=>if ws.length<1000000 then Hk set tst elt ds ρ1 (ws++[y])else .bad else Hk set tst elt ds ρ1 ws
noncomputable def Ep{α:Type}:R α->R α
 |.exc _=>.bad
 |r=>r
def Ej(nl:Nat)(caps:List Nat)(mi:Ad)(set:D->A8->R A8)(tst:C7)(elt:AY):Ad:=λρ=>(mi ρ).bind λds=>Ep (Hk set tst elt ds (KQ nl caps ρ) [])
def Cw(K:AT)(G H:A4):B5:=⟨K,G,H,λ_ _=>False,Gc⟩
def TY(K:AT)(m:C7):TT:=λσ H Q=>∃BD Ak,Fp (Cw K BD Ak) m σ H Q
def ew(K:AT)(m:AY):TE:=λσ H Q=>∃BD Ak,CN (Cw K BD Ak) m σ H Q
def dR:C4->Bool
 |.un=>true|.AI _=>true
 |_=>false
def Vs{H:A4}{s:C4}(h:dR s=true)(o:Option V)(a:Z):¬F7 H s o a:=by
 cases s<;>first
  |exact λz=>z
  |cases h
def NR(ρ:A8):Prop:=∀(i:Nat)(s:C4),ρ[i]?=some s->dR s=true
def cE(nl:Nat)(caps:List Nat)(ρ:A8):NR (KQ nl caps ρ):=λi s A1=>by
 unfold KQ at A1;by_cases A0:i<nl
 .rw[Gl (by simpa using A0),NE,if_pos A0]at A1;cases A1;rfl
 .rw[GU (by simpa using A0),Re,EH]at A1;cases J5:caps[i-nl]? with
  |none=>rw[J5]at A1;cases A1
  |some j=>rw[J5]at A1;have es:FO (ρ.getD j .un)=s:=Dz A1;subst es;cases hs:ρ.getD j .un<;>rfl
def Keeps(set:D->A8->R A8):Prop:=∀d ρ B9,set d ρ=.ok B9->NR ρ->NR B9
def Z8(i:Nat):Keeps (B_ i):=λd ρ B9 e n j ds z=>by
 unfold B_ at e
 split at e
 .cases e;rcases get_set z with⟨_,z⟩|⟨_,z⟩
  .subst z;rfl
  .exact n j ds z
 .cases e
theorem pd:∀{Am:List (D->A8->R A8)},(∀f∈Am,Keeps f)->∀ds ρ B9,Hx Am ds ρ=.ok B9->NR ρ->NR B9
 |[],_,[],_,_,e,n=>by cases e;exact n
 |[],_,_::_,_,_,e,_=>by cases e
 |_::_,_,[],_,_,e,_=>by cases e
 |f::Am,h,d::ds,ρ,B9,e,n=>by
  simp only[Hx]at e;cases A1:f d ρ with
  |bad=>rw[A1]at e;cases e
  |exc c=>rw[A1]at e;cases e
  |ok ρ1=>rw[A1,R.DH]at e;exact pd (λg AQ=>h g (by simp[AQ])) ds ρ1 B9 e (h f (by simp) d ρ ρ1 A1 n)
def pg{Am:List (D->A8->R A8)}(h:∀f∈Am,Keeps f):Keeps (G8 Am):=λd ρ B9 e n=>by
 cases d<;>first
  |(exact pd h _ _ _ e n)
  |(cases e)
section
variable{F:B5}
def ot{G H:A4}{σ :St}{ρ:A8}(r:Rel F G H σ ρ){acc:Z}(A2:H acc=none)(nl:Nat)(caps:List Nat) :
  Rel (Cw F.K G H) G (upd H acc (.lst [])) (Mb nl caps σ) (KQ nl caps ρ):=by
 refine⟨⟨Sub.Ot r.AJ.sub (r.AJ.sub.gone A2),Sub.refl _,Sub.upd A2,λ_ _=>rfl⟩,by simp[Mb,KQ],λi s e=>?_,λi j b s s' o BM A1 _ _ _ f _=>?_⟩
 .unfold KQ at e;unfold Mb;by_cases A0:i<nl
  .rw[Gl (by simpa using A0),NE,if_pos A0]at e;rw[Gl (by simpa using A0),NE,if_pos A0];cases e;exact⟨none,rfl,trivial⟩
  .rw[GU (by simpa using A0),Re,EH]at e;rw[GU (by simpa using A0),Re,EH];cases J5:caps[i-nl]? with
   |none=>rw[J5]at e;cases e
   |some j=>
    rw[J5]at e;refine⟨σ.getD j none,rfl,?_⟩;have es:FO (ρ.getD j .un)=s:=Dz e;subst es;cases CO:ρ[j]? with
    |none=>
     have eg:ρ.getD j .un=.un:=by rw[Hc,CO];rfl
     rw[eg];exact trivial
    |some t=>
     have eg:ρ.getD j .un=t:=by rw[Hc,CO];rfl
     rw[eg];obtain⟨o,A1,q⟩:=r.BY j t CO;cases t with
     |un=>exact trivial
     |ob ds=>exact trivial
     |DF t=>exact trivial
     |D4 _ t=>exact trivial
     |AI d=>obtain⟨v,A7,a⟩:=q;refine⟨v,?_,a⟩;rw[Hc,A1,A7];rfl
 .exact absurd f (Vs (cE nl caps ρ i s A1) o b)
def wX{nl:Nat}{caps:List Nat}{mi:Ad}{set:D->A8->R A8}{tst:C7}{elt:AY}{g:HQ}(AQ:∀G H,MR (Cw F.K G H) g set)(A5:∀d ρ c,set d ρ≠.exc c)(AG:Keeps set) :
  Dq (Ie F (Ej nl caps mi set tst elt)) (RS (Jq F mi) g (TY F.K tst) (ew F.K elt) nl caps):=by
 rintro σ H Q ⟨G,ρ,r,h⟩;unfold Ej at h;refine⟨G,ρ,r,?_⟩;refine rb h λds Aa h Bp H1 AV A6 Km it acc A2=>?_;cases CO:Hk set tst elt ds (KQ nl caps ρ) []with
 |bad=>rw[CO]at h;cases h
 |exc c=>rw[CO]at h;cases h
 |ok res=>
  rw[CO]at h
  refine⟨λi m σ2 Ab=>m=ds.length-i/\i<=ds.length/\∃Bl Cq ys ws,Rel (Cw F.K AV H1) Bl Ab σ2 Cq/\NR Cq/\Ab acc=some (.lst ys)/\Bl acc=none/\AP F.K Bl ws ys/\Hk set tst elt (ds.drop i) Cq ws=.ok res,
   ⟨ds.length,by simp,GV _,AV,_,[],[],ot A6 A2 nl caps,cE _ _ _,DO,A6.AJ.sub.gone A2,.nil,by simpa using CO⟩,?_⟩
  rintro i m σ2 Ab ⟨rfl,A0,Bl,Cq,ys,ws,AZ,C0,h1,h2,h3,h4⟩;have Ar:Sub AV Bl:=AZ.AJ.DU;by_cases DI:i<ds.length
  .refine .inr ⟨it.go i Ab (Ar.trans AZ.AJ.sub) DI,λx CI y=>?_⟩;obtain⟨d,Dm,B8,Cy,Gi,Du⟩:=KH.turn (F:=Cw F.K AV H1) it AZ Ar DI y;have E2:ds.drop i=d::ds.drop (i+1):=by
    rw[RU DI];have:=C5 DI;rw[B8]at this;rw[Dz this]
   rw[E2]at h4;simp only[Hk]at h4;cases D9:set d Cq with
   |bad=>rw[D9]at h4;cases h4
   |exc c=>exact absurd D9 (A5 d Cq c)
   |ok F5=>
    rw[D9,R.DH]at h4;refine AQ AV H1 σ2 Cq Dm CI x d _ F5 Cy Du D9 λσ5 Ia=>⟨AV,H1,Dm,F5,Ia,?_⟩;have Mk:NR F5:=AG d Cq F5 D9 C0;have UL:CI acc=some (.lst ys):=Gi.h _ _ h1;have g3:Dm acc=none:=by rw[Gi.n acc (.of h1 λ_ z=>nomatch z)];exact h2
    cases Ga:tst F5 with
    |bad=>rw[Ga]at h4;cases h4
    |exc c=>rw[Ga]at h4;cases h4
    |ok b=>
     rw[Ga,R.DH]at h4;intro M8 LV Lw Qy;have OT:M8 acc=some (.lst ys):=Qy.h _ _ UL;have KZ:LV acc=none:=by rw[Qy.n acc (.of UL λ_ z=>nomatch z)];exact g3
     have Jy:AP F.K LV ws ys:=(h3.mono Gi.g).mono Qy.g;cases b with
     |false=>rw[if_neg Hy]at h4;rw[if_neg Hy];exact⟨_,by lia,rfl,DI,LV,F5,ys,ws,Lw,Mk,OT,KZ,Jy,h4⟩
     |true=>
      rw[if_pos rfl]at h4;rw[if_pos rfl];refine⟨AV,H1,LV,F5,Lw,?_⟩;cases QS:elt F5 with
      |bad=>rw[QS]at h4;cases h4
      |exc c=>rw[QS]at h4;cases h4
      |ok y=>
       rw[QS,R.DH]at h4;intro f5 M9 Ob Ib u8 gr;have gM:M9 acc=some (.lst ys):=u8.h _ _ OT;have QZ:Ob acc=none:=by rw[u8.n acc (.of OT λ_ z=>nomatch z)];exact KZ
       by_cases AF:ws.length<1000000
       .rw[if_pos AF]at h4;have iX:AP F.K Ob ws ys:=Jy.mono u8.g;refine⟨ys,gM,by rw[<-iX.length];exact L_ AF (by decide),_,by lia,rfl,DI,Ob,F5,ys++[f5],ws++[y],?_,Mk,DO,QZ,iX.snoc gr,h4⟩;have k0:(Cw F.K AV H1).Ak acc=none:=A2;refine⟨⟨Sub.Ot Ib.AJ.sub QZ,Ib.AJ.DU,λc o z=>?_,Ib.AJ.new⟩,Ib.len,λj t z=>?_,λj k b s s' o BM Dg _ _ _ f _=>absurd f (Vs (Mk j s Dg) o b)⟩
        .rw[Co (I_ z k0)];exact Ib.AJ.B1 c o z
        .obtain⟨o,DD,CP⟩:=Ib.BY j t z;refine⟨o,DD,?_⟩;cases t with
         |un=>exact trivial
         |AI d=>exact CP
         |ob es=>exact absurd (Mk j _ z) (λw=>nomatch w)
         |DF es=>exact absurd (Mk j _ z) (λw=>nomatch w)
         |D4 _ es=>exact absurd (Mk j _ z) (λw=>nomatch w)
       .rw[if_neg AF]at h4;cases h4
  .have e:ds.drop i=[]:=Tc (by lia);rw[e]at h4;simp only[Hk]at h4;cases h4;have Fy:i=ds.length:=by lia
   subst Fy;refine .inl ⟨it.stop Ab (Ar.trans AZ.AJ.sub),?_⟩;have k:E4 ⟨F.K,AV,H1,λ_ _=>False,Gc⟩ Bl Ab:=AZ.AJ;exact h acc ys Ab Bl (E4.of A6 k) (Km.trans ⟨k.DU,k.B1,k.new⟩) (Km.h.gone A2) h1 h2 h3
end
mutual
noncomputable def CU:D->D->Bool
 |.non,.non=>true
 |.AO a,.AO b=>a==b
 |.AO a,.int b=>(if a then 1 else 0)==b
 |.int a,.AO b=>a==(if b then 1 else 0)
 |.int a,.int b=>a==b
 |.str a,.str b=>a==b
 |.tup xs,.tup ys=>Dc xs ys
 |.tup xs,.EQ ys=>Dc xs ys
 |.EQ xs,.tup ys=>Dc xs ys
 |.EQ xs,.EQ ys=>Dc xs ys
 |.lst xs,.lst ys=>Dc xs ys
 |.lst xs,.Cd ys=>Dc xs ys
 |.Cd xs,.lst ys=>Dc xs ys
 |.Cd xs,.Cd ys=>Dc xs ys
 |_,_=>false
noncomputable def Dc:List D->List D->Bool
 |[],[]=>true
 |x::xs,y::ys=>CU x y&&Dc xs ys
 |_,_=>false
end
noncomputable def okN:Nat->D->Bool
 |_,.non=>true
 |_,.AO _=>true
 |_,.int _=>true
 |_,.str _=>true
 |n+1,.tup xs=>xs.all (okN n)
 |n+1,.EQ xs=>xs.all (okN n)
 |n+1,.lst xs=>xs.all (okN n)
 |n+1,.Cd xs=>xs.all (okN n)
 |_,_=>false
inductive KL(s:AD)(P:D->U->Prop):D->U->Prop where
 |non:KL s P .non .none
 |AO (b:Bool):KL s P (.AO b) (.bool b)
 |int (i:Int) (t:Tok):KL s P (.int i) (.int i t)
 |str (x:Str) (t:Tok):KL s P (.str x) (.str x t)
 |tup (a:Z) (ds:List D) (its:List U) (h:s.heap.IsTuple a its.toArray) (l:ds.length=its.length) (p:∀(i:Nat) d u,ds[i]?=some d->its[i]?=some u->P d u):KL s P (.tup ds) (.ref a)
 |EQ (a:Z) (ds:List D) (its:List U) (h:s.heap.IsTuple a its.toArray) (l:ds.length=its.length) (p:∀(i:Nat) d u,ds[i]?=some d->its[i]?=some u->P d u):KL s P (.EQ ds) (.ref a)
 |lst (a:Z) (ds:List D) (its:List U) (h:s.heap.IsList a its.toArray) (l:ds.length=its.length) (p:∀(i:Nat) d u,ds[i]?=some d->its[i]?=some u->P d u):KL s P (.lst ds) (.ref a)
 |Cd (a:Z) (ds:List D) (its:List U) (h:s.heap.IsList a its.toArray) (l:ds.length=its.length) (p:∀(i:Nat) d u,ds[i]?=some d->its[i]?=some u->P d u):KL s P (.Cd ds) (.ref a)
def M_(K:AT)(G:A4)(d:D)(u:U):Prop:=∃x,At K G d x/\RelV x u
section
variable{X:AX}{pins:List (Z×Obj)}{σ :St}{H G:A4}{s:AD}
def TL{K:AT}{ds:List D}{xs:List V}{its:List U}(q:AP K G ds xs)(r:Vals xs its):∀(i:Nat) d u,ds[i]?=some d->its[i]?=some u->M_ K G d u:=λi d u A1 A7=>by obtain⟨v,B8,a⟩:=q.get A1;obtain⟨HL,D9,BZ⟩:=r.get B8;rw[A7]at D9;cases D9;exact⟨v,a,BZ⟩
def Ol(I:Inv X pins σ H s)(Ar:Sub G H){d:D}{u:U}{n:Nat}(ok:okN n d=true)(h:M_ X.K G d u):KL s (M_ X.K G) d u:=by
 obtain⟨x,a,r⟩:=h;cases d with
 |non=>simp only[At]at a;subst a;cases r;exact .non
 |AO b=>simp only[At]at a;subst a;cases r;exact .AO b
 |int i=>simp only[At]at a;subst a;obtain⟨t,rfl⟩:=r;exact .int i t
 |str i=>simp only[At]at a;subst a;obtain⟨t,rfl⟩:=r;exact .str i t
 |tup ds=>simp only[At]at a;obtain⟨p,xs,rfl,Ac,al⟩:=a;cases r;obtain⟨its,BZ,BF,_⟩:=I.tuple (CA.of (Ar _ _ Ac));exact .tup p ds its BF (al.length.trans BZ.length) (TL al BZ)
 |lst ds=>simp only[At]at a;obtain⟨p,xs,rfl,Ac,al⟩:=a;cases r;obtain⟨its,BZ,BF,_⟩:=I.list (Bb.of (Ar _ _ Ac));exact .lst p ds its BF.isList (al.length.trans BZ.length) (TL al BZ)
 |Cd ds=>simp only[At]at a;obtain⟨p,xs,rfl,Ac,al⟩:=a;cases r;obtain⟨its,BZ,BF,_⟩:=I.list (Bb.mono Ar Ac);exact .Cd p ds its BF.isList (al.length.trans BZ.length) (TL al BZ)
 |DM ks xs=>cases n<;>cases ok
 |BN ks xs=>cases n<;>cases ok
 |ins C ns xs=>cases n<;>cases ok
 |QV C=>cases n<;>cases ok
 |EQ ds=>simp only[At]at a;obtain⟨p,xs,rfl,Ac,al⟩:=a;cases r;obtain⟨its,BZ,BF,_⟩:=I.tuple (CA.mono Ar Ac);exact .EQ p ds its BF (al.length.trans BZ.length) (TL al BZ)
theorem bL:∀{xs ys:List D},xs.length≠ys.length->Dc xs ys=false
 |[],[],h=>absurd rfl h
 |[],_::_,_=>by simp only[Dc]
 |_::_,[],_=>by simp only[Dc]
 |x::xs,y::ys,h=>by simp only[Dc];rw[bL (λe=>h (by simp[e])),gF]
def Lm(xs ys:List D)(j:Nat):Bool:=match xs[j]?,ys[j]? with
 |some x,some y=>CU x y
 |_,_=>true
def sw(f:Nat->Bool)(n:Nat):(EI (n+1)).all f=(f 0&&(EI n).all λj=>f (j+1)):=by rw[List.range_succ_eq_map,NF,Ro];rfl
theorem bM:∀{xs ys:List D},xs.length=ys.length->(EI xs.length).all (Lm xs ys)=Dc xs ys
 |[],[],_=>by simp[Dc]
 |[],_::_,h=>by simp at h
 |_::_,[],h=>by simp at h
 |x::xs,y::ys,h=>by
  rw[FQ,sw];have e:(λj=>Lm (x::xs) (y::ys) (j+1))=Lm xs ys:=by
   funext j
   simp[Lm]
  rw[e,bM (by simpa using h)];simp only[Dc];rfl
def in1_units(A:Bk):A.in1.units=A.units+1:=rfl
def qS{A:Bk}{P:D->U->Prop}{d1 C1:D}{u v:U}(h1:KL s P d1 u)(h2:KL s P C1 v)(Cc:Gf d1=true)(CD:Gf C1=true) :
  U5 A s u v (CU d1 C1)/\XA A s u v (CU d1 C1)/\XG A s u v (!CU d1 C1):=by
 cases h1<;>cases h2<;>first
  |(cases Cc;done)
  |(cases CD;done)
  |(simp only[CU,JQ,Tu];refine⟨?_,?_,?_⟩<;>with_reducible first|exact .same _|exact .none_none|exact .none_bool _|exact .none_int _ _|exact .none_str _ _|exact .bool_none _|exact .bool_bool _ _|exact .bool_int _ _ _|exact .bool_str _ _ _|exact .int_none _ _|exact .int_bool _ _ _|exact .int_int _ _ _ _|exact .int_str _ _ _ _|exact .str_none _ _|exact .str_bool _ _ _|exact .str_int _ _ _ _|exact .str_str _ _ _ _)
def oH{A:Bk}{P:D->U->Prop}{d1 C1:D}{u v:U}(B0:A.units<Ce)(h1:KL s P d1 u)(h2:KL s P C1 v)(o:Gf d1=true/\Gf C1=false\/Gf d1=false/\Gf C1=true) :
  U5 A s u v (CU d1 C1)/\XA A s u v (CU d1 C1)/\XG A s u v (!CU d1 C1):=by
 cases h1<;>cases h2<;>first
  |(rcases o with⟨DD,CP⟩|⟨DD,CP⟩<;>first|(cases DD;done)|(cases CP;done))
  |(simp only[CU,Tu];refine⟨?_,?_,?_⟩<;>with_reducible first|exact .none_tuple ‹_› B0|exact .none_list ‹_› B0|exact .bool_tuple _ ‹_› B0|exact .bool_list _ ‹_› B0|exact .int_tuple _ _ ‹_› B0|exact .int_list _ _ ‹_› B0|exact .str_tuple _ _ ‹_› B0|exact .str_list _ _ ‹_› B0|exact .tuple_none ‹_› B0|exact .list_none ‹_› B0|exact .tuple_bool _ ‹_› B0|exact .list_bool _ ‹_› B0|exact .tuple_int _ _ ‹_› B0|exact .list_int _ _ ‹_› B0|exact .tuple_str _ _ ‹_› B0|exact .list_str _ _ ‹_› B0)
theorem k_:∀{xs ys:List D},xs.length=ys.length->(∀(i:Nat) x y,xs[i]?=some x->ys[i]?=some y->CU x y=true)->Dc xs ys=true
 |[],[],_,_=>by simp only[Dc]
 |[],_::_,h,_=>by simp at h
 |_::_,[],h,_=>by simp at h
 |x::xs,y::ys,h,k=>by simp only[Dc];rw[k 0 x y rfl rfl,k_ (by simpa using h) λi a b A1 A7=>k (i+1) a b (by simpa using A1) (by simpa using A7)];rfl
def qU{K:AT}{d1 C1:D}{x:V}(Cc:Gf d1=true)(a1:At K G d1 x)(a2:At K G C1 x):CU d1 C1=true:=by
 cases d1 with
 |non=>simp only[At]at a1;subst a1;cases C1<;>simp only[At]at a2<;>first|(simp only[CU];done)|(cases a2;done)|(obtain⟨a,xs,e,_⟩:=a2;cases e;done)|(obtain⟨a,Av,xs,e,_⟩:=a2;cases e;done)
 |AO b=>simp only[At]at a1;subst a1;cases C1<;>simp only[At]at a2<;>first|(cases a2;simp only[CU,beq_self_eq_true];done)|(cases a2;done)|(obtain⟨a,xs,e,_⟩:=a2;cases e;done)|(obtain⟨a,Av,xs,e,_⟩:=a2;cases e;done)
 |int b=>simp only[At]at a1;subst a1;cases C1<;>simp only[At]at a2<;>first|(cases a2;simp only[CU,beq_self_eq_true];done)|(cases a2;done)|(obtain⟨a,xs,e,_⟩:=a2;cases e;done)|(obtain⟨a,Av,xs,e,_⟩:=a2;cases e;done)
 |str b=>simp only[At]at a1;subst a1;cases C1<;>simp only[At]at a2<;>first|(cases a2;simp only[CU,beq_self_eq_true];done)|(cases a2;done)|(obtain⟨a,xs,e,_⟩:=a2;cases e;done)|(obtain⟨a,Av,xs,e,_⟩:=a2;cases e;done)
 |_=>cases Cc
def j_{d1 C1:D}(CD:Gf C1=true)(Cc:Gf d1=false){K:AT}{x:V}(a1:At K G d1 x)(a2:At K G C1 x):False:=by
 cases C1<;>first
  |(cases CD;done)
  |(simp only[At]at a2;subst a2
    cases d1<;>first
     |(cases Cc;done)
     |(simp only[At]at a1;obtain⟨a,xs,e,_⟩:=a1;cases e;done)
     |(simp only[At]at a1;obtain⟨a,Av,xs,e,_⟩:=a1;cases e;done))
inductive Gw(K:AT)(G:A4):D->Z->Bool->List D->List V->Prop where
 |tup {a ds xs} (h:CA K G a xs) (q:AP K G ds xs):Gw K G (.tup ds) a true ds xs
 |EQ {a ds xs} (h:CA K G a xs) (q:AP K G ds xs):Gw K G (.EQ ds) a true ds xs
 |lst {a ds xs} (h:G a=some (.lst xs)) (q:AP K G ds xs):Gw K G (.lst ds) a false ds xs
 |Cd {a ds xs} (h:Bb K G a xs) (q:AP K G ds xs):Gw K G (.Cd ds) a false ds xs
def Sa{K:AT}{n:Nat}{d:D}{x:V}(o:okN n d=true)(ns:Gf d=false)(a:At K G d x):∃p b ds xs,x=.ref p/\Gw K G d p b ds xs/\∃m,n=m+1/\ds.all (okN m)=true:=by
 cases d with
 |tup ds=>
  simp only[At]at a;obtain⟨p,xs,e,h,q⟩:=a;cases n with
  |zero=>cases o
  |succ m=>exact⟨p,_,ds,xs,e,.tup (CA.of h) q,m,rfl,o⟩
 |lst ds=>
  simp only[At]at a;obtain⟨p,xs,e,h,q⟩:=a;cases n with
  |zero=>cases o
  |succ m=>exact⟨p,_,ds,xs,e,.lst h q,m,rfl,o⟩
 |Cd ds=>
  simp only[At]at a;obtain⟨p,xs,e,h,q⟩:=a;cases n with
  |zero=>cases o
  |succ m=>exact⟨p,_,ds,xs,e,.Cd h q,m,rfl,o⟩
 |DM _ _=>cases n<;>cases o
 |BN _ _=>cases n<;>cases o
 |ins _ _ _=>cases n<;>cases o
 |QV _=>cases n<;>cases o
 |EQ ds=>
  simp only[At]at a;obtain⟨p,xs,e,h,q⟩:=a;cases n with
  |zero=>cases o
  |succ m=>exact⟨p,_,ds,xs,e,.EQ h q,m,rfl,o⟩
 |_=>cases ns
def Gw.HR{K:AT}{d:D}{p:Z}{b:Bool}{ds:List D}{xs:List V}(h:Gw K G d p b ds xs):AP K G ds xs:=by cases h<;>assumption
def Gw.eq{K:AT}{d1 C1:D}{DW CB:Z}{EZ DG:Bool}{GH GZ:List D}{Pe Ms:List V}(h1:Gw K G d1 DW EZ GH Pe)(h2:Gw K G C1 CB DG GZ Ms):CU d1 C1=(EZ==DG&&Dc GH GZ):=by cases h1<;>cases h2<;>simp[CU]
theorem Gw.heap(I:Inv X pins σ H s)(Ar:Sub G H){d:D}{p:Z}{b:Bool}{ds:List D}{xs:List V}(h:Gw X.K G d p b ds xs) :
  ∃its:List U,Vals xs its/\(b=true->s.heap.IsTuple p its.toArray)/\(b=false->s.heap.IsList p its.toArray):=by
 cases h with
 |tup h q=>obtain⟨its,BZ,BF,_⟩:=I.tuple (CA.mono Ar h);exact⟨its,BZ,λ_=>BF,λz=>by cases z⟩
 |EQ h q=>obtain⟨its,BZ,BF,_⟩:=I.tuple (CA.mono Ar h);exact⟨its,BZ,λ_=>BF,λz=>by cases z⟩
 |lst h q=>obtain⟨its,BZ,BF,_⟩:=I.list (Bb.of (Ar _ _ h));exact⟨its,BZ,(λz=>by cases z),λ_=>BF.isList⟩
 |Cd h q=>obtain⟨its,BZ,BF,_⟩:=I.list (Bb.mono Ar h);exact⟨its,BZ,(λz=>by cases z),λ_=>BF.isList⟩
def Gw.same(I:Inv X pins σ H s)(Ar:Sub G H){d1 C1:D}{p:Z}{EZ DG:Bool}{GH GZ:List D}{Pe Ms:List V}(h1:Gw X.K G d1 p EZ GH Pe)(h2:Gw X.K G C1 p DG GZ Ms):EZ=DG/\Pe=Ms:=by
 obtain⟨P_,A6,t1,E7⟩:=h1.heap I Ar;obtain⟨Gn,AZ,Fo,Cm⟩:=h2.heap I Ar;cases EZ with
 |true=>
  cases DG with
  |false=>exact absurd rfl (rm (Cm rfl) (t1 rfl))
  |true=>
   refine⟨rfl,?_⟩;cases h1<;>cases h2<;>
   exact I.eM (CA.mono Ar (by assumption)) (CA.mono Ar (by assumption))
 |false=>
  cases DG with
  |true=>exact absurd rfl (rm (E7 rfl) (Fo rfl))
  |false=>
   refine⟨rfl,?_⟩;have g1:Bb X.K H p Pe:=by
    cases h1 with
    |lst h q=>exact Bb.of (Ar _ _ h)
    |Cd h q=>exact Bb.mono Ar h
   have g2:Bb X.K H p Ms:=by
    cases h2 with
    |lst h q=>exact Bb.of (Ar _ _ h)
    |Cd h q=>exact Bb.mono Ar h
   exact I.bj g1 g2
def SO{f:D->Bool}{ds:List D}(h:ds.all f=true){i:Nat}{d:D}(e:ds[i]?=some d):f d=true:=List.all_eq_true.mp h d (EU e)
def t5(I:Inv X pins σ H s)(Ar:Sub G H):∀(n:Nat){d1 C1:D}{x:V},okN n d1=true->okN n C1=true->At X.K G d1 x->At X.K G C1 x->CU d1 C1=true:=by
 intro n;induction n with
 |zero=>intro d1 C1 x Cc CD a1 a2;exact qU (by cases d1<;>first|rfl|(cases Cc)) a1 a2
 |succ n Bg=>
  intro d1 C1 x Cc CD a1 a2;cases s1:Gf d1 with
  |true=>exact qU s1 a1 a2
  |false=>
   cases s2:Gf C1 with
   |true=>exact(j_ s2 s1 a1 a2).elim
   |false=>
    obtain⟨DW,EZ,GH,Pe,A1,A_,m1,j4,k1⟩:=Sa Cc s1 a1;obtain⟨CB,DG,GZ,Ms,A7,B4,m2,j5,k2⟩:=Sa CD s2 a2;subst A1;cases A7;have:n=m1:=by lia
    subst this;have:n=m2:=by lia
    subst this;obtain⟨B7,ex⟩:=A_.same I Ar B4;subst B7;subst ex;rw[A_.eq B4,beq_self_eq_true,g4];refine k_ (A_.HR.length.trans B4.HR.length.symm) λi a b Aa B7=>?_;obtain⟨v,ev,Au⟩:=A_.HR.get Aa;obtain⟨Ig,Lj,bv⟩:=B4.HR.get B7;rw[ev]at Lj;cases Lj;exact Bg (SO k1 Aa) (SO k2 B7) Au bv
def bJ(I:Inv X pins σ H s)(Ar:Sub G H):∀(n:Nat){d1 C1:D}{u v:U}{A:Bk},okN n d1=true->okN n C1=true->M_ X.K G d1 u->M_ X.K G C1 v->A.units+n<Ce->
  U5 A s u v (CU d1 C1)/\XA A s u v (CU d1 C1)/\XG A s u v (!CU d1 C1):=by
 intro n;induction n with
 |zero=>
  intro d1 C1 u v A Cc CD a1 a2 B0;refine qS (Ol I Ar Cc a1) (Ol I Ar CD a2) ?_ ?_
  .cases d1<;>first|rfl|(cases Cc)
  .cases C1<;>first|rfl|(cases CD)
 |succ n Bg=>
  intro d1 C1 u v A Cc CD a1 a2 B0;have LI:A.units<Ce:=by lia
  cases s1:Gf d1 with
  |true=>
   cases s2:Gf C1 with
   |true=>exact qS (Ol I Ar Cc a1) (Ol I Ar CD a2) s1 s2
   |false=>exact oH LI (Ol I Ar Cc a1) (Ol I Ar CD a2) (.inl ⟨s1,s2⟩)
  |false=>
   cases s2:Gf C1 with
   |true=>exact oH LI (Ol I Ar Cc a1) (Ol I Ar CD a2) (.inr ⟨s1,s2⟩)
   |false=>
    obtain⟨H7,ih,adx⟩:=a1;obtain⟨H8,at2,ady⟩:=a2;obtain⟨DW,EZ,GH,Pe,A1,A_,m1,j4,k1⟩:=Sa Cc s1 ih;obtain⟨CB,DG,GZ,Ms,A7,B4,m2,j5,k2⟩:=Sa CD s2 at2;subst A1;subst A7;cases adx;cases ady;have:n=m1:=by lia
    subst this;have:n=m2:=by lia
    subst this;obtain⟨P_,A6,t1,E7⟩:=A_.heap I Ar;obtain⟨Gn,AZ,Fo,Cm⟩:=B4.heap I Ar;have OE:GH.length=P_.length:=A_.HR.length.trans A6.length;have Uv:GZ.length=Gn.length:=B4.HR.length.trans AZ.length;have item:∀j(h1:j<P_.toArray.size)(h2:j<Gn.toArray.size),U5 A.in1 s P_.toArray[j] Gn.toArray[j] (Lm GH GZ j):=λj h1 h2=>by
     have LK:j<GH.length:=by rw[OE];simpa using h1
     have Hb:j<GZ.length:=by rw[Uv];simpa using h2
     have g1:M_ X.K G GH[j] P_.toArray[j]:=TL A_.HR A6 j _ _ (C5 LK) (by simp at h1;simp[h1]);have g2:M_ X.K G GZ[j] Gn.toArray[j]:=TL B4.HR AZ j _ _ (C5 Hb) (by simp at h2;simp[h2]);have:=(Bg (A:=A.in1) (SO k1 (C5 LK)) (SO k2 (C5 Hb)) g1 g2 (by rw[in1_units];lia)).1;unfold Lm;rw[C5 LK,C5 Hb];exact this
    have whole:XA A s (.ref DW) (.ref CB) (CU d1 C1)/\XG A s (.ref DW) (.ref CB) (!CU d1 C1):=by
     rw[A_.eq B4];cases EZ with
     |true=>
      cases DG with
      |false=>exact⟨SeqAt.RcAt.tuple_list (t1 rfl) (Cm rfl) LI,SeqAt.RcNeAt.tuple_list (t1 rfl) (Cm rfl) LI⟩
      |true=>
       have c1:=SeqAt.RcAt.tuples (e:=Lm GH GZ) (t1 rfl) (Fo rfl) LI item;have c2:=SeqAt.RcNeAt.tuples (e:=Lm GH GZ) (t1 rfl) (Fo rfl) LI item;have eq:((EI (min P_.toArray.size Gn.toArray.size)).all (Lm GH GZ)&&P_.toArray.size==Gn.toArray.size)=(true==true&&Dc GH GZ):=by
        rw[DJ,DJ,<-OE,<-Uv,beq_self_eq_true,g4];by_cases AF:GH.length=GZ.length
        .rw[<-AF,Nat.min_self,bM AF,beq_self_eq_true,Pz]
        .rw[bL AF];have:(GH.length==GZ.length)=false:=by simpa using AF
         rw[this,gF]
       rw[eq]at c1;refine⟨c1,?_⟩
       first
        |(rw[eq]at c2;exact c2)
        |exact c2
     |false=>
      cases DG with
      |true=>exact⟨SeqAt.RcAt.list_tuple (E7 rfl) (Fo rfl) LI,SeqAt.RcNeAt.list_tuple (E7 rfl) (Fo rfl) LI⟩
      |false=>
       rw[beq_self_eq_true,g4];by_cases AF:GH.length=GZ.length
       .have c1:=SeqAt.RcAt.lists (e:=Lm GH GZ) (E7 rfl) (Cm rfl) (by rw[DJ,DJ,<-OE,<-Uv];exact AF) LI item;have c2:=SeqAt.RcNeAt.lists (e:=Lm GH GZ) (E7 rfl) (Cm rfl) (by rw[DJ,DJ,<-OE,<-Uv];exact AF) LI item;rw[DJ,<-OE,bM AF]at c1 c2;exact⟨c1,c2⟩
       .have Aj:(P_.toArray.size !=Gn.toArray.size)=true:=by
          rw[DJ,DJ,<-OE,<-Uv];simpa using AF
        rw[bL AF];exact⟨SeqAt.RcAt.lists_lengths (E7 rfl) (Cm rfl) Aj LI,SeqAt.RcNeAt.lists_lengths (E7 rfl) (Cm rfl) Aj LI⟩
    refine⟨?_,whole⟩;by_cases AW:DW=CB
    .subst AW;rw[t5 I Ar (n+1) Cc CD ih at2];exact SeqAt.EqAt.same _
    .exact SeqAt.EqAt.of_refs AW whole.1
end
def notStar:AN->Bool
 |.Starred .. =>false
 |_=>true
def pQ(e:AN)(es:List AN)(env:Env)(h:notStar e=true):Aw (e::es) env=(false,BC e env)::Aw es env:=by cases e<;>first|rfl|(cases h)
noncomputable def PE:AN->Bool
 |.ListComp .. =>false
 |.SetComp .. =>false
 |.DictComp .. =>false
 |_=>true
def M1(e:AN)(t:Option AN)(l:Nat)(env:Env)(h:PE e=true):Kw e t l env=pure false:=by cases e<;>first|rfl|(cases h)
noncomputable def aal:AN->Bool
 |.Slice .. =>false
 |_=>true
def D5{b:AN}(h:aal b=true:=by rfl):UH b:=λo i=>by cases b<;>first|rfl|(cases h)
section
variable{X:AX}{F:B5}{e a b c:AN}{es:List AN}{pos:Pos}
def Al.imp{t t':TE}(h:Al X e t)(i:Dq t' t):Al X e t':=λpins s σ H Q I hw=>h pins s σ H Q I (i σ H Q hw)
def F0.imp{t t':TT}(h:F0 X e t)(i:NZ t' t):F0 X e t':=λpins s σ H Q I hw=>h pins s σ H Q I (i σ H Q hw)
def Ix.imp{t t':TT}(h:Ix X e t)(i:NZ t' t):Ix X e t':=λQz pins s σ H Q I hw=>h Qz pins s σ H Q I (i σ H Q hw)
def F8.imp{t t':Et}(h:F8 X es t)(i:SH t' t):F8 X es t':=λp pins s σ H Q I hw=>h p pins s σ H Q I (i σ H Q hw)
def Cf.imp{st:BG}{t t':Ei}(h:Cf X st t)(i:GB t' t):Cf X st t':=λpins s σ H Bw I hw=>h pins s σ H Bw I (i Bw σ H hw)
def FU.imp{st:List BG}{t t':Ei}(h:FU X st t)(i:GB t' t):FU X st t':=λpins s σ H Bw I hw=>h pins s σ H Bw I (i Bw σ H hw)
def Fv.imp{BL:AN}{t t':TI}(h:Fv X BL e t)(i:Oc t' t):Fv X BL e t':=λpins s σ H Q I hw=>h pins s σ H Q I (i σ H Q hw)
abbrev J4(X:AX)(F:B5)(e:AN)(m:AY):Prop:=Al X e (CN F m)
abbrev iv(X:AX)(F:B5)(e:AN)(m:Ad):Prop:=Al X e (Ie F m)
abbrev sb(X:AX)(F:B5)(e:AN)(m:C7):Prop:=F0 X e (Fp F m)
abbrev il(X:AX)(F:B5)(es:List AN)(m:Ad):Prop:=F8 X es (EL F m)
abbrev iO(X:AX)(F:B5)(st:BG)(m:B6):Prop:=Cf X st (EM F m)
abbrev iq(X:AX)(F:B5)(st:List BG)(m:B6):Prop:=FU X st (EM F m)
abbrev SG(X:AX)(F:B5)(BL e:AN)(m:Ad):Prop:=Fv X BL e (Jq F m)
def uc{x:Str}{v:V}{u:U}{d:D}(hm:X.AA x=some u)(r:RelV v u)(at':∀G,At F.K G d v)(AQ:DK X x:=by rfl)(hd:(x==("__debug__" :Str))=false:=by decide):J4 X F (.Name x pos) (AM d):=
 Al.imp (abi AQ hm r hd) (VX at')
variable{st:BG}{RR:List BG}
def QT{op:Operator}{r:EO}{f:D->D->R D}{m n:AY}(AE:Ds X (Ip op) r)(hf:GX F r f)(A2:J4 X F a m)(J:J4 X F b n):J4 X F (.BinOp a op b pos) (AK f m n):=Al.imp (ZV AE A2 J) (Y_ hf)
def Xm{op:KG}{r:EO}{f:D->D->R D}{m n:AY}(AE:Ds X (Fk op) r)(hf:GX F r f)(A2:J4 X F a m)(J:J4 X F b n)(hm:I0 op b=false):J4 X F (.Compare a [op] [b] pos) (AK f m n):=Al.imp (abd AE A2 J hm) (Y_ hf)
def Qu{op:KG}{r:EO}{f:D->D->R D}{m n:AY}(AE:Ds X (Fk op) r)(hf:GX F r f)(A2:J4 X F a m)(J:J4 X F b n)(hm:I0 op b=false):sb X F (.Compare a [op] [b] pos) (Be (AK f m n)):=
 F0.imp (adC AE A2 J hm) λσ H Q h=>by obtain⟨G,ρ,r,k⟩:=mx (F:=F) (m:=AK f m n) σ H Q h;exact Y_ hf σ H _ ⟨G,ρ,r,k⟩
def ud{op:UnaryOp}{r:V->A4->Br->Prop}{f:D->R D}{m:AY}(AE:Y8 X (unaryOp op) r)(hf:iS F r f)(A2:J4 X F a m):J4 X F (.UnaryOp op a pos) (DZ f m):=Al.imp (abM AE A2) (xz hf)
noncomputable def LJ(f:Int->Int->R D):D->D->R D
 |.int i,.int j=>f i j
 |_,_=>.bad
def WT{g:Int->Int->V}{f:Int->Int->D}(h:∀i j G,At F.K G (f i j) (g i j)):GX F (Lx g) (LJ λi j=>.ok (f i j)):=by
 intro σ ρ G H x y Av FC Q r BU CJ k;unfold LJ at k
 split at k
 .rename_i i j;simp only[At]at BU CJ;exact⟨i,j,BU,CJ,k _ H G r (Bn.refl _ _) (h i j G)⟩
 .exact k.elim
def ZJ{C:Int->Int->Prop}[∀i j,Decidable (C i j)]{g:Int->Int->V}{f:Int->Int->D}(h:∀i j G,At F.K G (f i j) (g i j)):GX F (PI C g) (LJ λi j=>if C i j then .ok (f i j)else .bad):=by
 intro σ ρ G H x y Av FC Q r BU CJ k;unfold LJ at k
 split at k
 .rename_i i j;simp only[At]at BU CJ;dsimp only at k
  split at k
  .rename_i AB;exact⟨i,j,BU,CJ,AB,k _ H G r (Bn.refl _ _) (h i j G)⟩
  .exact k.elim
 .exact k.elim
instance(i j:Int):Decidable (Qi i j):=by unfold Qi;infer_instance
instance(i j:Int):Decidable (Xs i j):=by unfold Xs;infer_instance
instance(i j:Int):Decidable (SB i j):=by unfold SB;infer_instance
def Op:=LJ λi j=>.ok (.int (i-j))
def Nk:=LJ λi j=>if SB i j then .ok (.int (i*j))else .bad
def JY:=LJ λi j=>if Qi i j then .ok (.int (i/j))else .bad
def Ht:=LJ λi j=>if 0<j then .ok (.int (i%j))else .bad
def dS:=LJ λi j=>if Xs i j then .ok (.int (i^j.toNat))else .bad
def Ox:=LJ λi j=>.ok (.AO (decide (i<j)))
def QF:=LJ λi j=>.ok (.AO (decide (i<=j)))
def Yu:=LJ λi j=>.ok (.AO (decide (j<i)))
variable{m n:AY}
noncomputable def ZD:D->R D
 |.int i=>.ok (.int (-i))
 |_=>.bad
noncomputable def DY:D->D->R D
 |.int i,.int j=>.ok (.int (i+j))
 |.str x,.str y=>if x.length+y.length<=1000000 then .ok (.str (x++y))else .bad
 |.lst xs,.lst ys=>if xs.length+ys.length<=1000000 then .ok (.lst (xs++ys))else .bad
 |_,_=>.bad
def nX:GX F (λx y H Q=>Lx (λi j=>.int (i+j)) x y H Q\/(∃i j,x=.str i/\y=.str j/\i.length+j.length<=CH/\Q (.str (i++j)) H)\/pO x y H Q) DY:=by
 intro σ ρ G H x y Av FC Q r BU CJ k;unfold DY at k
 split at k
 .rename_i i j;simp only[At]at BU CJ;exact .inl ⟨i,j,BU,CJ,k _ H G r (Bn.refl _ _) (by simp only[At])⟩
 .rename_i i j;simp only[At]at BU CJ
  split at k
  .rename_i AF;exact .inr (.inl ⟨i,j,BU,CJ,Eg AF (by decide),k _ H G r (Bn.refl _ _) (by simp only[At])⟩)
  .exact k.elim
 .rename_i ds es;simp only[At]at BU CJ
  split at k
  .rename_i AF;obtain⟨p,xs,A1,h1,A_⟩:=BU;obtain⟨CB,ys,A7,h2,B4⟩:=CJ;refine .inr (.inr ⟨p,CB,xs,ys,A1,A7,r.AJ.sub _ _ h1,r.AJ.sub _ _ h2,by rw[<-A_.length,<-B4.length];exact Eg AF (by decide),λl AR=>?_⟩);refine k (.ref l) _ _ (r.lay AR) (Bn.lay r.AJ.sub AR) ?_;simp only[At];exact⟨l,xs++ys,rfl,DO,(A_.append B4).mono (Sub.upd (r.AJ.sub.gone AR))⟩
  .exact k.elim
 .exact k.elim
def Ct(b:Bool)(x y:D):R D:=if okN 8 x=true/\okN 8 y=true then .ok (.AO (if b then CU x y else !CU x y))else .bad
def dX(F:B5)(b:Bool):EO:=λx y H Q=>∃G d1 C1,Sub G H/\At F.K G d1 x/\At F.K G C1 y/\okN 8 d1=true/\okN 8 C1=true/\Q (.AO (if b then CU d1 C1 else !CU d1 C1)) H
def nj(Ag:F.K=X.K)(B0:X.A.units+64<Ce):Ds X (Fk .Eq) (dX F true):=by intro pins s σ H x y v u Q I BB Bm h;obtain⟨G,d1,C1,Ar,a1,a2,Cc,CD,q⟩:=h;rw[Ag]at a1 a2;exact(bJ I Ar 8 (A:=X.A) Cc CD ⟨x,a1,BB⟩ ⟨y,a2,Bm⟩ (by lia)).2.1 X.prog X.w X.xe _ ⟨.AO _,H,I,rfl,q⟩
def nv(Ag:F.K=X.K)(B0:X.A.units+64<Ce):Ds X (Fk .NotEq) (dX F false):=by intro pins s σ H x y v u Q I BB Bm h;obtain⟨G,d1,C1,Ar,a1,a2,Cc,CD,q⟩:=h;rw[Ag]at a1 a2;exact(bJ I Ar 8 (A:=X.A) Cc CD ⟨x,a1,BB⟩ ⟨y,a2,Bm⟩ (by lia)).2.2 X.prog X.w X.xe _ ⟨.AO _,H,I,rfl,q⟩
def ZI(b:Bool):GX F (dX F b) (Ct b):=by
 intro σ ρ G H x y Av FC Q r BU CJ k;unfold Ct at k
 split at k
 .rename_i AE;exact⟨G,Av,FC,r.AJ.sub,BU,CJ,AE.1,AE.2,k _ H G r (Bn.refl _ _) (by simp only[At])⟩
 .exact k.elim
end
section
variable{X:AX}{F:B5}{e a b c:AN}{es:List AN}{pos:Pos}{m n:AY}
theorem kb:∀{ds GG:List D},ds.length=GG.length->(∀(i:Nat) x y,ds[i]?=some x->GG[i]?=some y->∀z,CU x z=CU y z)->∀es,Dc ds es=Dc GG es
 |[],[],_,_,_=>rfl
 |[],_::_,h,_,_=>by simp at h
 |_::_,[],h,_,_=>by simp at h
 |x::xs,y::ys,h,k,[]=>by simp only[Dc]
 |x::xs,y::ys,h,k,e::es=>by simp only[Dc];rw[k 0 x y rfl rfl e,kb (by simpa using h) (λi a b A1 A7=>k (i+1) a b (by simpa using A1) (by simpa using A7)) es]
def qT{K:AT}{G:A4}{d d':D}{x:V}(o:Gf d=true)(a1:At K G d x)(a2:At K G d' x):d=d':=by
 cases d with
 |non=>simp only[At]at a1;subst a1;cases d'<;>simp only[At]at a2<;>first|rfl|(cases a2;done)|(obtain⟨a,xs,e,_⟩:=a2;cases e;done)|(obtain⟨a,Av,xs,e,_⟩:=a2;cases e;done)
 |AO b=>simp only[At]at a1;subst a1;cases d'<;>simp only[At]at a2<;>first|(cases a2;rfl)|(cases a2;done)|(obtain⟨a,xs,e,_⟩:=a2;cases e;done)|(obtain⟨a,Av,xs,e,_⟩:=a2;cases e;done)
 |int b=>simp only[At]at a1;subst a1;cases d'<;>simp only[At]at a2<;>first|(cases a2;rfl)|(cases a2;done)|(obtain⟨a,xs,e,_⟩:=a2;cases e;done)|(obtain⟨a,Av,xs,e,_⟩:=a2;cases e;done)
 |str b=>simp only[At]at a1;subst a1;cases d'<;>simp only[At]at a2<;>first|(cases a2;rfl)|(cases a2;done)|(obtain⟨a,xs,e,_⟩:=a2;cases e;done)|(obtain⟨a,Av,xs,e,_⟩:=a2;cases e;done)
 |_=>cases o
def Gw.val{K:AT}{G:A4}{d:D}{p:Z}{b:Bool}{ds:List D}{xs:List V}(h:Gw K G d p b ds xs)(e:D):CU d e=match e with
  |.tup es=>b&&Dc ds es
  |.EQ es=>b&&Dc ds es
  |.lst es=>!b&&Dc ds es
  |.Cd es=>!b&&Dc ds es
  |_=>false:=by
 cases h<;>cases e<;>simp[CU]
section
variable{pins:List (Z×Obj)}{σ :St}{H G:A4}{s:AD}
def t4(I:Inv X pins σ H s)(Ar:Sub G H):∀(n:Nat){d d':D}{x:V},okN n d=true->okN n d'=true->At X.K G d x->At X.K G d' x->∀e,CU d e=CU d' e:=by
 intro n;induction n with
 |zero=>intro d d' x Cc CD a1 a2 e;rw[qT (by cases d<;>first|rfl|(cases Cc)) a1 a2]
 |succ n Bg=>
  intro d d' x Cc CD a1 a2 e;cases s1:Gf d with
  |true=>rw[qT s1 a1 a2]
  |false=>
   cases s2:Gf d' with
   |true=>exact(j_ s2 s1 a1 a2).elim
   |false=>
    obtain⟨DW,EZ,GH,Pe,A1,A_,m1,j4,k1⟩:=Sa Cc s1 a1;obtain⟨CB,DG,GZ,Ms,A7,B4,m2,j5,k2⟩:=Sa CD s2 a2;subst A1;cases A7;have:n=m1:=by lia
    subst this;have:n=m2:=by lia
    subst this;obtain⟨B7,ex⟩:=A_.same I Ar B4;subst B7;subst ex;have el:∀es,Dc GH es=Dc GZ es:=kb (A_.HR.length.trans B4.HR.length.symm) λi a b Aa B7 z=>by obtain⟨v,ev,Au⟩:=A_.HR.get Aa;obtain⟨Ig,Lj,bv⟩:=B4.HR.get B7;rw[ev]at Lj;cases Lj;exact Bg (SO k1 Aa) (SO k2 B7) Au bv z
    rw[A_.val,B4.val];cases e<;>first|rfl|(simp only[el])
open Classical in
noncomputable def MD(K:AT)(G:A4)(d:D)(u:U):Bool:=if h:∃d',okN 7 d'=true/\M_ K G d' u then CU (Th h) d else false
def gP(I:Inv X pins σ H s)(Ar:Sub G H){d d1:D}{u:U}(o:okN 7 d=true)(h:M_ X.K G d u):MD X.K G d1 u=CU d d1:=by have A5:∃d',okN 7 d'=true/\M_ X.K G d' u:=⟨d,o,h⟩;unfold MD;rw[dif_pos A5];obtain⟨BM,h'⟩:=Pg A5;obtain⟨x,a,r⟩:=h;obtain⟨M3,F1,B2⟩:=h';have:M3=x:=B2.inj r;subst this;exact t4 I Ar 7 BM o F1 a d1
theorem gQ(I:Inv X pins σ H s)(Ar:Sub G H){d1:D}:∀{ds:List D}{xs:List V}{its:List U},AP X.K G ds xs->Vals xs its->ds.all (okN 7)=true->its.any (MD X.K G d1)=ds.any λy=>CU y d1
 |[],_,_,q,r,_=>by simp only[AP]at q;subst q;cases r;rfl
 |d::ds,_,_,q,r,o=>by
  simp only[AP]at q;obtain⟨v,aM,rfl,Au,ME⟩:=q;cases r with
  |cons A6 AZ=>rw[NF,FR]at o;rw[Px,Px,gP I Ar o.1 ⟨v,Au,A6⟩,gQ I Ar ME AZ o.2]
theorem Zt(I:Inv X pins σ H s)(Ar:Sub G H){d1:D}{x:V}{v:U}{A:Bk}(B0:A.units+8<Ce)(Cc:okN 7 d1=true)(a1:At X.K G d1 x)(BB:RelV x v):∀{ds:List D}{xs:List V}{its:List U},AP X.K G ds xs->Vals xs its->ds.all (okN 7)=true->
  ∀u∈its,U5 A s u v (MD X.K G d1 u)
 |[],_,_,q,r,_=>by simp only[AP]at q;subst q;cases r;exact λu B0=>nomatch B0
 |d::ds,_,_,q,r,o=>by
  simp only[AP]at q;obtain⟨w,wr,rfl,Au,ME⟩:=q;cases r with
  |cons A6 AZ=>
   rw[NF,FR]at o;intro HL hm;rcases List.mem_cons.mp hm with e|hm
   .subst e;rw[gP I Ar o.1 ⟨w,Au,A6⟩];exact(bJ I Ar 7 (A:=A) o.1 Cc ⟨w,Au,A6⟩ ⟨x,a1,BB⟩ (by lia)).1
   .exact Zt I Ar B0 Cc a1 BB ME AZ o.2 HL hm
end
noncomputable def RO:D->Option (List D)
 |.tup ys=>some ys
 |.EQ ys=>some ys
 |.lst ys=>some ys
 |.Cd ys=>some ys
 |_=>none
def inD(b:Bool)(x y:D):R D:=match RO y with
 |some ys=>if okN 7 x=true/\ys.all (okN 7)=true then .ok (.AO (if b then ys.any (λy=>CU y x)else !ys.any λy=>CU y x))else .bad
 |none=>.bad
def dY(F:B5)(b:Bool):EO:=λx y H Q=>∃G d1 C1 p ds xs k,Sub G H/\At F.K G d1 x/\y=.ref p/\Gw F.K G C1 p k ds xs/\okN 7 d1=true/\ds.all (okN 7)=true/\Q (.AO (if b then ds.any (λy=>CU y d1)else !ds.any λy=>CU y d1)) H
def nq(Ag:F.K=X.K)(B0:X.A.units+64<Ce):Ds X (Fk .In) (dY F true):=by
 intro pins s σ H x y v u Q I BB Bm h;obtain⟨G,d1,C1,p,ds,xs,k,Ar,a1,rfl,Gg,Cc,CD,q⟩:=h;rw[Ag]at a1 Gg;cases Bm;obtain⟨its,A6,t1,E7⟩:=Gg.heap I Ar;have q:Q (.AO (ds.any λy=>CU y d1)) H:=q;rw[<-gQ I Ar Gg.HR A6 CD]at q;have hm:=Zt I Ar (A:=X.A.in1) (d1:=d1) (by rw[in1_units];lia) Cc a1 BB Gg.HR A6 CD;cases k with
 |true=>exact SeqAt.in_tupleAt (MD X.K G d1) (t1 rfl) (λw hw=>hm w (by simpa using hw)) ⟨.AO _,H,I,rfl,by simpa using q⟩
 |false=>exact SeqAt.in_listAt (MD X.K G d1) (E7 rfl) (λw hw=>hm w (by simpa using hw)) ⟨.AO _,H,I,rfl,by simpa using q⟩
def ac5(Ag:F.K=X.K)(B0:X.A.units+64<Ce):Ds X (Fk .NotIn) (dY F false):=by
 intro pins s σ H x y v u Q I BB Bm h;obtain⟨G,d1,C1,p,ds,xs,k,Ar,a1,rfl,Gg,Cc,CD,q⟩:=h;rw[Ag]at a1 Gg;cases Bm;obtain⟨its,A6,t1,E7⟩:=Gg.heap I Ar;have q:Q (.AO (!ds.any λy=>CU y d1)) H:=q;rw[<-gQ I Ar Gg.HR A6 CD]at q;have hm:=Zt I Ar (A:=X.A.in1) (d1:=d1) (by rw[in1_units];lia) Cc a1 BB Gg.HR A6 CD;cases k with
 |true=>exact SeqAt.notIn_tupleAt (MD X.K G d1) (t1 rfl) (λw hw=>hm w (by simpa using hw)) ⟨.AO _,H,I,rfl,by simpa using q⟩
 |false=>exact SeqAt.notIn_listAt (MD X.K G d1) (E7 rfl) (λw hw=>hm w (by simpa using hw)) ⟨.AO _,H,I,rfl,by simpa using q⟩
def afC{K:AT}{G:A4}{d:D}{x:V}{ds:List D}(e:RO d=some ds)(a:At K G d x):∃p xs k,x=.ref p/\Gw K G d p k ds xs:=by
 cases d<;>first
  |(cases e;done)
  |(cases e
    simp only[At]at a;obtain⟨p,xs,e,h,q⟩:=a
    first
     |exact⟨p,xs,_,e,.tup (CA.of h) q⟩
     |exact⟨p,xs,_,e,.EQ h q⟩
     |exact⟨p,xs,_,e,.lst h q⟩
     |exact⟨p,xs,_,e,.Cd h q⟩)
def bb(b:Bool):GX F (dY F b) (inD b):=by
 intro σ ρ G H x y Av FC Q r BU CJ k;unfold inD at k;cases e:RO FC with
 |none=>rw[e]at k;cases k
 |some ys=>
  rw[e]at k;dsimp only at k
  split at k
  .rename_i AE;obtain⟨p,xs,Bh,CV,Gg⟩:=afC e CJ;exact⟨G,Av,FC,p,ys,xs,Bh,r.AJ.sub,BU,CV,Gg,AE.1,AE.2,k _ H G r (Bn.refl _ _) (by simp only[At])⟩
  .exact k.elim
noncomputable def IV:D->Bool
 |.non=>true
 |_=>false
def JA(b:Bool):D->D->R D
 |x,.non=>.ok (.AO (if b then IV x else !IV x))
 |_,_=>.bad
def nA{K:AT}{G:A4}{d:D}{x:V}(a:At K G d x):IV d=decide (x=.non):=by
 cases d<;>simp only[At]at a<;>first
  |(subst a;simp[IV];done)
  |(obtain⟨p,xs,e,_⟩:=a;subst e;simp[IV];done)
  |(obtain⟨p,Av,xs,e,_⟩:=a;subst e;simp[IV];done)
def Nf(f g:D->D->R D)(a b c:AY):AY:=λρ=>(a ρ).bind λx=>(b ρ).bind λy=>(f x y).bind λz=>(MF z).bind λk=>if k=true then(c ρ).bind λw=>g y w else .ok (.AO false)
def n1{r B2:EO}{f g:D->D->R D}{l:AY}(hf:GX F r f)(AQ:GX F B2 g):Dq (CN F (Nf f g m n l)) (e3 r B2 (CN F m) (CN F n) (CN F l)):=by
 rintro σ H Q ⟨G,ρ,dc,h⟩;unfold Nf at h;refine⟨G,ρ,dc,?_⟩;refine rb h λAv Aa h x H1 AV A6 s1 BU=>?_;refine⟨AV,ρ,A6,?_⟩;refine rb h λFC B7 h y Ab Bl AZ s2 CJ=>?_;refine hf σ ρ Bl Ab x y Av FC _ AZ (BU.mono s2.g) CJ ?_;refine rb h λhB EF h z CI Dm Cy s3 MY=>?_;cases hB with
 |AO k=>
  simp only[At]at MY;refine⟨k,MY,?_⟩;have h:Hq F G H σ ρ Q (if k=true then(l ρ).bind λw=>g FC w else .ok (.AO false)):=h;cases k with
  |false=>rw[if_neg Hy]at h |-;exact h _ CI Dm Cy (s1.trans (s2.trans s3)) (by simp only[At])
  |true=>rw[if_pos rfl]at h |-;refine⟨Dm,ρ,Cy,?_⟩;refine rb h λvP ec h w Gv Ud Lv s4 L4=>?_;exact AQ σ ρ Ud Gv y w FC vP Q Lv ((CJ.mono s3.g).mono s4.g) L4 (h.mono (s1.trans (s2.trans (s3.trans s4))))
 |_=>cases h
def abu:GX F (Lx λi j=>.AO (decide (i<j))) Ox:=WT λ_ _ _=>by simp only[At]
def Vi:GX F (Lx λi j=>.AO (decide (i<=j))) QF:=WT λ_ _ _=>by simp only[At]
end
section
variable{X:AX}{F:B5}{e a b c:AN}{es:List AN}{pos p:Pos}{m n:AY}{ma:Ad}
def Cg(f:List D->R D)(m:Ad):AY:=λρ=>(m ρ).bind f
def NY(F:B5)(r:List V->A4->Br->Prop)(f:List D->R D):Prop:=∀ σ ρ G H xs ds Q,Rel F G H σ ρ->AP F.K G ds xs->Hq F G H σ ρ Q (f ds)->r xs H Q
def n0{r:List V->A4->Br->Prop}{f:List D->R D}(hf:NY F r f):Dq (CN F (Cg f ma)) (aA r (EL F ma)):=by rintro σ H Q ⟨G,ρ,dc,h⟩;unfold Cg at h;refine⟨G,ρ,dc,?_⟩;refine rb h λds Aa h vs H1 AV A6 s1 a=>?_;exact hf σ ρ AV H1 vs ds Q A6 a (h.mono s1)
def bA{x:Str}{id:String}{r:List V->A4->Br->Prop}{f:List D->R D}(AB:G9 X (.builtin id) r)(hf:NY F r f)(hm:X.AA x=none)(Az:Kv x=some (.builtin id))(A2:il X F (e::es) ma)(AQ:DK X x:=by rfl)(AR:x≠"__name__":=by decide)(FD:(x==("__debug__" :Str))=false:=by decide)(he:Aw (e::es) X.env=(false,BC e X.env)::Aw es X.env:=by rfl)(D0:(CW pos (Aw es X.env)).any (·.1)=false:=by rfl):J4 X F (.Call (.Name x p) (e::es) [] pos) (Cg f ma):=
 Al.imp (Vo AB AQ hm Az A2 AR FD he D0) (n0 hf)
def bB{x:Str}{T:String}{r:List V->A4->Br->Prop}{f:List D->R D}(AB:G9 X (.type T) r)(hf:NY F r f)(hm:X.AA x=none)(Az:Kv x=some (.type T))(A2:il X F (e::es) ma)(AQ:DK X x:=by rfl)(AR:x≠"__name__":=by decide)(FD:(x==("__debug__" :Str))=false:=by decide)(he:Aw (e::es) X.env=(false,BC e X.env)::Aw es X.env:=by rfl)(D0:(CW pos (Aw es X.env)).any (·.1)=false:=by rfl):J4 X F (.Call (.Name x p) (e::es) [] pos) (Cg f ma):=
 Al.imp (ZT AB AQ hm Az A2 AR FD he D0) (n0 hf)
noncomputable def Di:List D->R D
 |[.str x]=>if x.length<=1000000 then .ok (.int x.length)else .bad
 |[.lst xs]=>.ok (.int xs.length)
 |[.Cd xs]=>.ok (.int xs.length)
 |[.tup xs]=>.ok (.int xs.length)
 |[.EQ xs]=>.ok (.int xs.length)
 |_=>.bad
def AP.one{K:AT}{G:A4}{d:D}{vs:List V}(a:AP K G [d] vs):∃v,vs=[v]/\At K G d v:=by simp only[AP]at a;obtain⟨v,r,rfl,h,rfl⟩:=a;exact⟨v,rfl,h⟩
def AP.two{K:AT}{G:A4}{d e:D}{vs:List V}(a:AP K G [d,e] vs):∃v w,vs=[v,w]/\At K G d v/\At K G e w:=by simp only[AP]at a;obtain⟨v,r,rfl,h,w,B2,rfl,h',rfl⟩:=a;exact⟨v,w,rfl,h,h'⟩
def abt(Ag:F.K=X.K):NY F (λxs H Q=>∃x n,xs=[x]/\j1 X.K x H n/\Q (.int n) H) Di:=by
 intro σ ρ G H xs ds Q r al k;unfold Di at k
 split at k
 .rename_i x;obtain⟨v,rfl,Au⟩:=al.one;simp only[At]at Au;subst Au
  split at k
  .rename_i AF;exact⟨_,x.length,rfl,⟨Eg AF (by decide),rfl⟩,k _ H G r (Bn.refl _ _) (by simp only[At])⟩
  .exact k.elim
 .rename_i ys;obtain⟨v,rfl,Au⟩:=al.one;simp only[At]at Au;obtain⟨q,xs,rfl,h,al⟩:=Au;rw[al.length]at k;exact⟨_,xs.length,rfl,.inl ⟨xs,Bb.of (r.AJ.sub _ _ h),rfl⟩,k _ H G r (Bn.refl _ _) (by simp only[At])⟩
 .rename_i ys;obtain⟨v,rfl,Au⟩:=al.one;simp only[At]at Au;obtain⟨q,xs,rfl,h,al⟩:=Au;rw[al.length]at k;rw[Ag]at h;exact⟨_,xs.length,rfl,.inl ⟨xs,Bb.mono r.AJ.sub h,rfl⟩,k _ H G r (Bn.refl _ _) (by simp only[At])⟩
 .rename_i ys;obtain⟨v,rfl,Au⟩:=al.one;simp only[At]at Au;obtain⟨q,xs,rfl,h,al⟩:=Au;rw[al.length]at k;exact⟨_,xs.length,rfl,.inr ⟨xs,CA.of (r.AJ.sub _ _ h),rfl⟩,k _ H G r (Bn.refl _ _) (by simp only[At])⟩
 .rename_i ys;obtain⟨v,rfl,Au⟩:=al.one;simp only[At]at Au;obtain⟨q,xs,rfl,h,al⟩:=Au;rw[al.length]at k;rw[Ag]at h;exact⟨_,xs.length,rfl,.inr ⟨xs,CA.mono r.AJ.sub h,rfl⟩,k _ H G r (Bn.refl _ _) (by simp only[At])⟩
 .exact k.elim
noncomputable def Ve:D->Option String
 |.non=>some "NoneType"
 |.AO _=>some "bool"
 |.int _=>some "int"
 |.str _=>some "str"
 |.lst _=>some "list"
 |.Cd _=>some "list"
 |.tup _=>some "tuple"
 |.EQ _=>some "tuple"
 |.DM _ _=>some "dict"
 |.BN _ _=>some "dict"
 |_=>none
noncomputable def e0(T Ev:String):Bool:=T==Ev||(T=="bool"&&Ev=="int")
def JB(Ev:String)(d:D):R D:=match Ve d with
 |some T=>.ok (.AO (e0 T Ev))
 |none=>.bad
def Qs(K:AT)(Ev:String):Prop:=∀T,T="NoneType"\/T="bool"\/T="int"\/T="str"\/T="list"\/T="tuple"\/T="dict"->PySem.W.kitOne K (.type T) (.type Ev)=some (e0 T Ev)
def aft(K:AT):Qs K "int":=λT h=>by rcases h with rfl|rfl|rfl|rfl|rfl|rfl|rfl<;>kernel_rfl
def afs(K:AT):Qs K "bool":=λT h=>by rcases h with rfl|rfl|rfl|rfl|rfl|rfl|rfl<;>kernel_rfl
def afv(K:AT):Qs K "str":=λT h=>by rcases h with rfl|rfl|rfl|rfl|rfl|rfl|rfl<;>kernel_rfl
def afu(K:AT):Qs K "list":=λT h=>by rcases h with rfl|rfl|rfl|rfl|rfl|rfl|rfl<;>kernel_rfl
def afw(K:AT):Qs K "tuple":=λT h=>by rcases h with rfl|rfl|rfl|rfl|rfl|rfl|rfl<;>kernel_rfl
def z1{pins:List (Z×Obj)}{σ :St}{H G:A4}{s:AD}{Q:U->AD->Prop}{E:U->AD->Prop}{d:D}{x:V}{u:U}{T Ev:String}{k:Bool}(I:Inv X pins σ H s)(Ar:Sub G H)(at':At X.K G d x)(BB:RelV x u)(e:Ve d=some T)(tt:PySem.W.kitOne X.K (.type T) (.type Ev)=some k)(h:∀BW,Q (.bool k) { s with toks:=BW }):AU (Ai X.prog X.w) X.A (call (.builtin "isinstance") [u,.type Ev]) Q E s:=by
 cases d with
 |non=>cases e;simp only[At]at at';subst at';cases BB;exact MH PySem.W.kitx_none I.Fh MM tt (λz=>nomatch z) h
 |AO b=>cases e;simp only[At]at at';subst at';cases BB;exact MH PySem.W.kitx_bool I.Fh MM tt (λz=>nomatch z) h
 |int b=>cases e;simp only[At]at at';subst at';obtain⟨t,rfl⟩:=BB;exact MH PySem.W.kitx_int I.Fh MM tt (λz=>nomatch z) h
 |str b=>cases e;simp only[At]at at';subst at';obtain⟨t,rfl⟩:=BB;exact MH PySem.W.kitx_str I.Fh MM tt (λz=>nomatch z) h
 |lst ds=>cases e;simp only[At]at at';obtain⟨q,xs,rfl,Ac,_⟩:=at';cases BB;obtain⟨its,_,⟨o,n,A1,A7,_⟩,_⟩:=I.list (Bb.of (Ar _ _ Ac));exact MH sD I.Fh ⟨o,A1,A7⟩ tt (λz=>nomatch z) h
 |Cd ds=>cases e;simp only[At]at at';obtain⟨q,xs,rfl,Ac,_⟩:=at';cases BB;obtain⟨its,_,⟨o,n,A1,A7,_⟩,_⟩:=I.list (Bb.mono Ar Ac);exact MH sD I.Fh ⟨o,A1,A7⟩ tt (λz=>nomatch z) h
 |tup ds=>cases e;simp only[At]at at';obtain⟨q,xs,rfl,Ac,_⟩:=at';cases BB;obtain⟨its,_,⟨o,A1,A7,_⟩,_⟩:=I.tuple (CA.of (Ar _ _ Ac));exact MH sJ I.Fh ⟨o,A1,A7⟩ tt (λz=>nomatch z) h
 |EQ ds=>cases e;simp only[At]at at';obtain⟨q,xs,rfl,Ac,_⟩:=at';cases BB;obtain⟨its,_,⟨o,A1,A7,_⟩,_⟩:=I.tuple (CA.mono Ar Ac);exact MH sJ I.Fh ⟨o,A1,A7⟩ tt (λz=>nomatch z) h
 |DM ks ds=>cases e;simp only[At]at at';obtain⟨q,xs,rfl,Ac,_⟩:=at';cases BB;obtain⟨_,_,vs,_,o,es,B3,h1,h2,_⟩:=(show E5 X.prog X.w H s.heap q (.DM xs)from I.BE q _ (Ar _ _ Ac));exact MH sE I.Fh ⟨o,h1,h2.1⟩ tt (λz=>nomatch z) h
 |BN ks ds=>cases e;simp only[At]at at';obtain⟨q,xs,rfl,Ac,_⟩:=at';cases BB;obtain⟨_,_,zs,_,o,es,B3,h1,h2,_⟩:=(show E5 X.prog X.w H s.heap q (.BN xs)from I.BE q _ (Ar _ _ Ac));exact MH sE I.Fh ⟨o,h1,h2.1⟩ tt (λz=>nomatch z) h
 |ins C ns ds=>cases e
 |QV C=>cases e
def ag7{d:D}{T:String}(e:Ve d=some T):T="NoneType"\/T="bool"\/T="int"\/T="str"\/T="list"\/T="tuple"\/T="dict":=by cases d<;>cases e<;>simp
def acd(F:B5)(Ev:String):List V->A4->Br->Prop:=λxs H Q=>∃G d x T,Sub G H/\xs=[x,.ty Ev]/\At F.K G d x/\Ve d=some T/\Q (.AO (e0 T Ev)) H
def t_{Ev:String}(Ag:F.K=X.K)(tt:Qs X.K Ev):G9 X (.builtin "isinstance") (acd F Ev):=by intro pins s σ H xs us Q I r h;obtain⟨G,d,x,T,Ar,rfl,a,e,q⟩:=h;obtain⟨u,FG,rfl,BB,EJ⟩:=vals2 r;obtain rfl:FG=Lb Ev:=EJ;rw[Ag]at a;exact z1 I Ar a BB e (tt T (ag7 e)) λBW=>⟨.AO _,H,I.tok BW,rfl,q⟩
def Ah:D->D->R D
 |.lst xs,.int i=>match Fx xs i with|some d=>.ok d|none=>.bad
 |.Cd xs,.int i=>match Fx xs i with|some d=>.ok d|none=>.bad
 |.tup xs,.int i=>match Fx xs i with|some d=>.ok d|none=>.bad
 |.EQ xs,.int i=>match Fx xs i with|some d=>.ok d|none=>.bad
 |.str x,.int i=>if x.length<=1000000 then match Fx x.cps.toList i with|some c=>.ok (.str ⟨#[c]⟩)|none=>.bad else .bad
 |_,_=>.bad
def XS{K:AT}{G:A4}{ds:List D}{xs:List V}{i:Int}{d:D}(q:AP K G ds xs)(e:Fx ds i=some d):∃v,Fx xs i=some v/\At K G d v:=by
 unfold Fx at e |-;rw[q.length]at e;cases J5:JC xs.length i with
 |none=>rw[J5]at e;cases e
 |some j=>rw[J5]at e;obtain⟨v,A1,a⟩:=q.get e;exact⟨v,A1,a⟩
def nY(Ag:F.K=X.K):GX F (Vw X.K) Ah:=by
 intro σ ρ G H x y Av FC Q r BU CJ k;unfold Ah at k
 split at k
 .rename_i ds i;simp only[At]at BU CJ;obtain⟨p,xs,e,h,q⟩:=BU
  split at k
  .rename_i d E2;obtain⟨v,ev,Au⟩:=XS q E2;exact .inl ⟨p,xs,i,v,e,CJ,Bb.of (r.AJ.sub _ _ h),ev,k _ H G r (Bn.refl _ _) Au⟩
  .exact k.elim
 .rename_i ds i;simp only[At]at BU CJ;obtain⟨p,xs,e,h,q⟩:=BU
  split at k
  .rename_i d E2;obtain⟨v,ev,Au⟩:=XS q E2;have h':=h;rw[Ag]at h';exact .inl ⟨p,xs,i,v,e,CJ,Bb.mono r.AJ.sub h',ev,k _ H G r (Bn.refl _ _) Au⟩
  .exact k.elim
 .rename_i ds i;simp only[At]at BU CJ;obtain⟨p,xs,e,h,q⟩:=BU
  split at k
  .rename_i d E2;obtain⟨v,ev,Au⟩:=XS q E2;exact .inr (.inl ⟨p,xs,i,v,e,CJ,CA.of (r.AJ.sub _ _ h),ev,k _ H G r (Bn.refl _ _) Au⟩)
  .exact k.elim
 .rename_i ds i;simp only[At]at BU CJ;obtain⟨p,xs,e,h,q⟩:=BU
  split at k
  .rename_i d E2;obtain⟨v,ev,Au⟩:=XS q E2;have h':=h;rw[Ag]at h';exact .inr (.inl ⟨p,xs,i,v,e,CJ,CA.mono r.AJ.sub h',ev,k _ H G r (Bn.refl _ _) Au⟩)
  .exact k.elim
 .rename_i z i;simp only[At]at BU CJ
  split at k
  .rename_i AF
   split at k
   .rename_i c ec;exact .inr (.inr ⟨z,i,c,BU,CJ,Eg AF (by decide),ec,k _ H G r (Bn.refl _ _) (by simp only[At])⟩)
   .exact k.elim
  .exact k.elim
 .exact k.elim
end
section
variable{X:AX}{F:B5}{e a b c:AN}{es:List AN}{pos p:Pos}{m n:AY}{ma:Ad}
def FW{α:Type}(xs:List α)(lo A0:Option Int):List α:=(xs.drop (DL.CC xs.length 0 lo)).take (DL.CC xs.length xs.length A0-DL.CC xs.length 0 lo)
def QN(x:Str)(lo A0:Option Int):Str:=⟨(FW x.cps.toList lo A0).toArray⟩
def aeX(lo A0:Option Int)(n:Nat):rZ lo A0 1 n=(EI (DL.CC n n A0-DL.CC n 0 lo)).map (DL.CC n 0 lo+·):=by
 rw[<-sliceRange_one];unfold rZ;simp only[show(1:Int)>0 by decide,if_true]
 congr 1
 .cases lo with
  |none=>rfl
  |some i=>
   show max 0 (min (if i<0 then i+(n:Int)else i) (n:Int))=((if i<0 then(i+(n:Int)).toNat else min i.toNat n:Nat):Int)
   split<;>lia
 .cases A0 with
  |none=>rfl
  |some i=>
   show max 0 (min (if i<0 then i+(n:Int)else i) (n:Int))=((if i<0 then(i+(n:Int)).toNat else min i.toNat n:Nat):Int)
   split<;>lia
def cw(n:Nat)(v:Option Int){d:Nat}(hd:d<=n):DL.CC n d v<=n:=by
 cases v with
 |none=>exact hd
 |some i=>
  show(if i<0 then(i+(n:Int)).toNat else min i.toNat n)<=n
  split<;>lia
def af3(x:Str)(lo A0:Option Int):U3 x lo A0=QN x lo A0:=by
 have AF:x.cps.toList.length=x.length:=by simp[Str.length]
 unfold U3 QN FW;rw[aeX,AF]
 split
 .rename_i h;have h:DL.CC x.length x.length A0-DL.CC x.length 0 lo=x.length:=by simpa using h
  have h1:=cw x.length A0 (By _);have h2:DL.CC x.length 0 lo=0\/x.length=0:=by lia
  have e:(x.cps.toList.drop (DL.CC x.length 0 lo)).take (DL.CC x.length x.length A0-DL.CC x.length 0 lo)=x.cps.toList:=by
   rw[h];rcases h2 with z|z
   .rw[z,List.drop_zero,Wi (by lia)]
   .have CF:x.cps.toList=[]:=List.length_eq_zero_iff.mp (by lia);rw[CF];simp
  rw[e]
 .rw[pick_run]
def oe:V->Option Int->Option Int->A4->Br->Prop:=λx lo A0 H Q=>∃z,x=.str z/\z.length<=CH/\Q (.str (QN z lo A0)) H
def nJ{v:U}{o:Option Int}(h:NP v o):∃l:Option (Int×Tok),v=partValue l/\l.map (·.1)=o:=by
 cases h with
 |none=>exact⟨none,rfl,rfl⟩
 |int i t=>exact⟨some (i,t),rfl,rfl⟩
theorem aey:Of X oe:=by
 intro pins s σ H x v H5 H6 lo A0 BY Q I BB hs pl pu h;obtain⟨z,rfl,Aj,q⟩:=h;obtain⟨t,rfl⟩:=BB;obtain⟨l,rfl,el⟩:=nJ pl;obtain⟨u,rfl,Hm⟩:=nJ pu;refine⟨"str",_,F.slot_str_getitem.lookup,typeIs_str s z t,wpAny_getItem_str_slice (l:=l) (u:=u) (st:=none) ?_ rfl ?_⟩
 .obtain⟨o,h1,h2,h3⟩:=hs;exact⟨o,h1,h2,h3⟩
 .have e:U3 z lo A0=QN z lo A0:=af3 z lo A0;have fin:∀t' k,Fs X pins σ Q (.str (U3 z lo A0) t') { s with toks:=k }:=λt' k=>⟨.str (QN z lo A0),H,I.tok k,⟨t',by rw[e]⟩,q⟩;unfold U3 at fin;subst el Hm;exact post_val_or_str ⟨Eg (Txt.slice_le z _ _) Aj,fin⟩
abbrev MT:=A8->R (Option Int)
def IY:MT:=λ_=>.ok none
noncomputable def intD:D->R (Option Int)
 |.int i=>.ok (some i)
 |_=>.bad
def HD(m:AY):MT:=λρ=>(m ρ).bind intD
def yg(F:B5)(G H:A4)(σ :St)(ρ:A8)(Q:Option Int->A4->Prop):R (Option Int)->Prop
 |.ok o=>∀H' G',Rel F G' H' σ ρ->Bn G H G' H'->Q o H'
 |.exc c=>Jg F c
 |.bad=>False
def W7(F:B5)(m:MT):Bq:=λσ H Q=>∃G ρ,Rel F G H σ ρ/\yg F G H σ ρ Q (m ρ)
def GR(f:D->Option Int->Option Int->R D)(m:AY)(lo A0:MT):AY:=λρ=>(m ρ).bind λd=>(lo ρ).bind λl=>(A0 ρ).bind λh=>f d l h
def Fj(d:D)(l h:Option Int):R D:=match d with
 |.lst xs=>.ok (.lst (FW xs l h))
 |.Cd xs=>.ok (.lst (FW xs l h))
 |.str x=>if x.length<=1000000 then .ok (.str (QN x l h))else .bad
 |_=>.bad
def AP.cut{K:AT}{G:A4}{ds:List D}{xs:List V}(q:AP K G ds xs)(l h:Option Int):AP K G (FW ds l h) (OW xs l h):=by unfold FW OW;rw[q.length];exact(q.drop _).take _
def xr(Ag:F.K=X.K){lo A0:MT}:Dq (CN F (GR Fj m lo A0)) (eA (λx lo A0 H Q=>od X.K x lo A0 H Q\/oe x lo A0 H Q) (CN F m) (W7 F lo) (W7 F A0)):=by
 rintro σ H Q ⟨G,ρ,r,h⟩;unfold GR at h;refine⟨G,ρ,r,?_⟩;refine rb h λd Aa h x H1 AV A6 s1 BU=>?_;refine⟨AV,ρ,A6,?_⟩;refine rb h λl el h Ab Bl AZ s2=>?_;refine⟨Bl,ρ,AZ,?_⟩;refine rb h λu ui h CI Dm Cy s3=>?_;have up:=s1.trans (s2.trans s3);have NW:=(BU.mono s2.g).mono s3.g;cases d with
 |lst ds=>simp only[At]at NW;obtain⟨q,xs,rfl,Ac,al⟩:=NW;refine .inl ⟨q,xs,rfl,Bb.of (Cy.AJ.sub _ _ Ac),λCm AR=>?_⟩;refine h (.ref Cm) _ _ (Cy.lay AR) (up.trans (Bn.lay Cy.AJ.sub AR)) ?_;simp only[At];exact⟨Cm,_,rfl,DO,(al.cut l u).mono (Sub.upd (Cy.AJ.sub.gone AR))⟩
 |Cd ds=>simp only[At]at NW;obtain⟨q,xs,rfl,Ac,al⟩:=NW;have PU:=Ac;rw[Ag]at PU;refine .inl ⟨q,xs,rfl,Bb.mono Cy.AJ.sub PU,λCm AR=>?_⟩;refine h (.ref Cm) _ _ (Cy.lay AR) (up.trans (Bn.lay Cy.AJ.sub AR)) ?_;simp only[At];exact⟨Cm,_,rfl,DO,(al.cut l u).mono (Sub.upd (Cy.AJ.sub.gone AR))⟩
 |str z=>
  simp only[At]at NW;have h:Hq F G H σ ρ Q (if z.length<=1000000 then .ok (.str (QN z l u))else .bad):=h
  split at h
  .rename_i Aj;exact .inr ⟨z,NW,Eg Aj (by decide),h _ CI Dm Cy up (by simp only[At])⟩
  .exact h.elim
 |_=>cases h
noncomputable def T3:List D->R D
 |[.int i]=>if i.natAbs.log2<1920 then .ok (.str (toString i))else .bad
 |_=>.bad
def abv:NY F (λxs H Q=>∃i,xs=[.int i]/\i.natAbs.log2<1920/\Q (.str (toString i)) H) T3:=by
 intro σ ρ G H xs ds Q r al k;unfold T3 at k
 split at k
 .rename_i i
  split at k
  .rename_i AF;exact⟨i,al.ints1,AF,k _ H G r (Bn.refl _ _) (by simp only[At])⟩
  .exact k.elim
 .exact k.elim
def uQ:G9 X (.type "int") (λxs H Q=>(∃i,xs=[.int i]/\Q (.int i) H)\/∃x i,xs=[.str x]/\x.length<=640/\intText? x=some i/\Q (.int i) H):=by
 intro pins s σ H xs us Q I r h;rcases h with⟨i,rfl,q⟩|⟨x,i,rfl,AF,A0,q⟩
 .obtain⟨u,rfl,t,rfl⟩:=vals1 r;exact call_int_int ⟨.int i,H,I,⟨_,rfl⟩,q⟩
 .obtain⟨u,rfl,t,rfl⟩:=vals1 r;exact PySem.W.KIN.call_text A0 AF ⟨.int i,H,I.tok _,⟨_,rfl⟩,q⟩
end
end Cj
namespace CE
open PySem PySem.Spec
section
variable{prog:BR}{w:BA}{A:Bk}{E:U->AD->Prop}{s:AD}
def aaX{it t:Z}{i:Nat}{items:Array U}{x:U}{Q:U->AD->Prop}(hit:s.heap.IsTupleIter it t i)(BF:s.heap.IsTuple t items)(A5:items[i]?=some x)(Dn:∀h',h'.IsTupleIter it t (i+1)->IL it s.heap h'->Q x { s with heap:=h' }):AU (Ai prog w) A (OF (.ref it)) Q E s:=by
 obtain⟨o,AE,AB,hd⟩:=id hit;obtain⟨ol,TH,_,nl,Qe⟩:=BF;unfold OF
 refine AH (Pk (name:=NJ "__next__") hit.typeIs WY
  (JT WY hit.typeIs r_ ?_ (re _)))
 show AU _ _ (field (.ref it) 0>>=_) _ _ s;refine AH (Ij AE hd (x:=.ref t) rfl ?_);show AU _ _ (if(D7 t==JV)=true then _ else _) _ _ s;rw[if_neg (show¬((D7 t==JV)=true)from Hy)];show AU _ _ (field (.ref it) 1>>=_) _ _ s;refine AH (Ij AE hd (x:=.int i 0) rfl ?_);show AU _ _ (seqItems? (.ref t)>>=_) _ _ s;refine AH (K1 TH Qe ?_);simp only[RV,A5];refine AH (Tv AE hd (by simp) (An ⟨x,rfl,An (Dn _ ?_ (Pu ..))⟩));exact⟨_,Pf _ AE (fM (R_ hd _)),(ff ..).trans AB,by
  rw[R_ hd];simp[Le]⟩
def aaW{it t:Z}{i:Nat}{items:Array U}{Q:U->AD->Prop}(B1:A.handled=none)(hit:s.heap.IsTupleIter it t i)(BF:s.heap.IsTuple t items)(A5:items[i]?=none)(IR:∀h' e,Heap.ExtBut it s.heap h'->(∃o,h'.get? e=some o/\o.cls=.type "StopIteration")->E (.ref e) { s with heap:=h' }):AU (Ai prog w) A (OF (.ref it)) Q E s:=by
 obtain⟨o,AE,AB,hd⟩:=id hit;obtain⟨ol,TH,_,nl,Qe⟩:=BF;unfold OF
 refine AH (Pk (name:=NJ "__next__") hit.typeIs WY
  (JT WY hit.typeIs r_ ?_ (re _)))
 show AU _ _ (field (.ref it) 0>>=_) _ _ s;refine AH (Ij AE hd (x:=.ref t) rfl ?_);show AU _ _ (if(D7 t==JV)=true then _ else _) _ _ s;rw[if_neg (show¬((D7 t==JV)=true)from Hy)];show AU _ _ (field (.ref it) 1>>=_) _ _ s;refine AH (Ij AE hd (x:=.int i 0) rfl ?_);show AU _ _ (seqItems? (.ref t)>>=_) _ _ s;refine AH (K1 TH Qe ?_);simp only[RV,A5];refine AH (MO (AH (Tv AE hd (by simp) ?_)));show AU _ _ (newExc (.type "StopIteration") []>>=_) _ _ _;refine AH ?_;simp only[newExc,newTuple];refine AH (Ks ?_ (by size_fits));refine AH (m:=X7 _ _) (wpAny_of_eq (a:=JV) (by first|rfl|(simp only[X7];rfl)) ?_);refine Ks ?_ (by size_fits);simp only[raiseNew];refine AH (wpAny_handled ?_)
 first|rw[show A.in1.handled=none from B1]|rw[B1]
 refine AH (An (wpAny_throw ?_));exact IR _ _ (((Pu ..).extBut.push _).push _) ⟨_,F6 _ rfl,rfl⟩
def jW(B1:A.handled=none)(it l:Z)(LF:l≠it)(items:Array U) :
  Draws prog w A it [it,l] items.size (λi v=>items[i]?=some v) (λi h=>h.IsTupleIter it l i/\h.IsTuple l items) where
 live:=λ_ _ st=>let⟨o,AE,_⟩:=st.1;⟨o,AE⟩
 frame:=λ_ _ _ st AG=>⟨st.1.at λo e=>AG it (by simp) o e,st.2.at λo e=>AG l (by simp) o e⟩
 item:=λi s Q E A0 st Dn=>by refine aaX st.1 st.2 (x:=items[i]) (by simp[A0]) λh' b4 LG=>?_;exact Dn _ h' s.toks (by simp[A0]) ⟨b4,st.2.extBut LG.extBut LF⟩ LG
 done:=λs Q E st IR=>aaW B1 st.1 st.2 (by simp) IR
structure SN(z TI Bq Bj Bd:Z)(f1 f2:List Z):Prop where
 TIz:TI≠z
 TOz:Bq≠z
 TITO:TI≠Bq
 TIi1:TI≠Bj
 TIi2:TI≠Bd
 TOi1:Bq≠Bj
 TOi2:Bq≠Bd
 i1z:Bj≠z
 i2z:Bd≠z
 i12:Bj≠Bd
 bQ:z∉f1
 kj:Bq∉f1
 uR:Bd∉f1
 bS:z∉f2
 bR:Bq∉f2
 kk:Bj∉f2
def LA{Ae:List Z}{n:Nat}{P:Nat->U->Prop}{St:Nat->Aq->Prop}{it b:Z}{h h':Aq}{i:Nat}(D:Draws prog w A it Ae n P St)(st:St i h)(hs:IL b h h')(J:b∉Ae):St i h':=
 D.frame i h h' st λc AB o e=>hs.extBut c o (λz=>J (z▸AB)) e
def aiD {z TI Bq Bj Bd:Z} {f1 f2:List Z} {CQ C0 i:Nat} {NS NT:Nat->U->Prop} {Iz J0:Nat->Aq->Prop} {a b:U} {Q:U->AD->Prop} (Hh:Draws prog w A Bj f1 CQ NS Iz) (HN:Draws prog w A Bd f2 C0 NT J0) (ap:SN z TI Bq Bj Bd f1 f2)(Aj:IP s.heap z TI Bq .none) (I2:G6 s.heap TI (.ref Bj) (.ref Bd)) (IS:G6 s.heap Bq a b) (h1:Iz i s.heap) (h2:J0 i s.heap) (E7:i<CQ) (Cm:i<C0)(Dn:∀x y h' BW,NS i x->NT i y->IP h' z TI Bq (Le s.heap.objs.size)->G6 h' Bq x y->Iz (i+1) h'->J0 (i+1) h'->G6 h' s.heap.objs.size x y->h'.objs.size=s.heap.objs.size+1->
    (∀c o,c≠z->c≠Bq->c≠Bj->c≠Bd->s.heap.get? c=some o->h'.get? c=some o)->Q (.ref s.heap.objs.size) { s with heap:=h',toks:=BW }) :
  AU (Ai prog w) A (IN.«zip.__next__» ⟨[.ref z],[]⟩) (λfin s'=>∃v,fin=.done (.ret v)/\Q v s') E s:=by
 show AU _ _ (field (.ref z) 2>>=_) _ _ _;refine AH (Ij Aj rfl (x:=.bool false) rfl ?_);show AU _ _ (field (.ref z) 3>>=_) _ _ _;refine AH (Ij Aj rfl (x:=.ref TI) rfl ?_);refine AH (K1 I2 rfl ?_);show AU _ _ (WW (.ref z)>>=_) _ _ _;refine AH ?_;unfold WW;refine AH (Ij Aj rfl (x:=.none) rfl (An ?_));simp only[if_true];refine AH (MO ?_);refine AH (Ij Aj rfl (x:=.ref Bq) rfl ?_);refine AH (Ra Aj (by simp) λKc PY Lk=>?_);replace PY:IP Kc z TI Bq .ellipsis:=PY;refine AH ?_;simp only[Ti,Wm,Td,X8];refine AH (AH (X4 ?_));show AU _ _ (OF (.ref Bj)>>=_) _ _ _;refine AH (Hh.item i _ _ _ E7 (LA Hh h1 Lk ap.bQ) λx Ll qi A5 pV Kb=>An ?_);have VI:G6 Ll Bq a b:=Kb.extBut _ _ ap.TOi1 (Lk.extBut _ _ ap.TOz IS);refine AH (K1 VI rfl ?_);refine AH (fP VI λNA Yy LH=>?_);replace Yy:G6 NA Bq x b:=Yy;refine AH (wpAny_letGo (An ?_));refine AH (AH (X4 ?_));show AU _ _ (OF (.ref Bd)>>=_) _ _ _;have aeS:J0 i NA:=LA HN (LA HN (LA HN h2 Lk ap.bS) Kb ap.kk) LH ap.bR;refine AH (HN.item i _ _ _ Cm aeS λy VU akr Ao ae_ PW=>An ?_);have lD:G6 VU Bq x b:=PW.extBut _ _ ap.TOi2 Yy;refine AH (K1 lD rfl ?_);refine AH (fP lD λH_ Yz PX=>?_);replace Yz:G6 H_ Bq x y:=Yz;refine AH (wpAny_letGo (An (An ?_)));refine AH (K1 Yz rfl ?_);refine AH (wpAny_newTuple ?_);have hsz:H_.objs.size=s.heap.objs.size:=by rw[PX.1,PW.1,LH.1,Kb.1,Lk.1]
 have l6:IP H_ z TI Bq .ellipsis:=PX.extBut _ _ ap.TOz.symm (PW.extBut _ _ ap.i2z.symm (LH.extBut _ _ ap.TOz.symm (Kb.extBut _ _ ap.i1z.symm PY)));have w2:∀c o,c≠z->c≠Bq->c≠Bj->c≠Bd->s.heap.get? c=some o->H_.get? c=some o:=λc o c1 c2 c3 Mv e=>
  PX.extBut _ _ c2 (PW.extBut _ _ Mv (LH.extBut _ _ c2 (Kb.extBut _ _ c3 (Lk.extBut _ _ c1 e))))
 have aeR:Iz (i+1) H_:=LA Hh (LA Hh (LA Hh pV LH ap.kj) PW ap.uR) PX ap.kj;have aeT:J0 (i+1) H_:=LA HN ae_ PX ap.bR;have l3:z<H_.objs.size:=Cv l6;show AU _ _ (rY (.ref z) (.ref H_.objs.size)>>=_) _ _ _;refine AH ?_;unfold rY;have wy:IP (H_.push { cls:=.type "tuple",data:=.seq #[x,y] }) z TI Bq .ellipsis:=Cr _ l6;refine AH (Ra wy (by simp) λx1 cG aX=>?_);replace cG:IP x1 z TI Bq (Le H_.objs.size):=cG;refine Ra cG (by simp) λVV YY aY=>?_;replace YY:IP VV z TI Bq (Le H_.objs.size):=YY;have up:∀c o,c≠z->H_.get? c=some o->VV.get? c=some o:=λc o c1 e=>aY.extBut _ _ c1 (aX.extBut _ _ c1 (Cr _ e));have lF:G6 VV H_.objs.size x y:=aY.extBut _ _ (ML l3) (aX.extBut _ _ (ML l3) (F6 _ rfl));have l2:VV.objs.size=H_.objs.size+1:=by rw[aY.1,aX.1,K2]
 rw[hsz]at YY lF l2;refine An ⟨_,rfl,?_⟩;show Q (.ref H_.objs.size) _;rw[hsz];exact Dn x y VV _ A5 Ao YY (up _ _ ap.TOz Yz) (Hh.frame _ _ _ aeR λc AB o e=>up c o (λq=>ap.bQ (q▸AB)) e) (HN.frame _ _ _ aeT λc AB o e=>up c o (λq=>ap.bS (q▸AB)) e) lF l2 λc o c1 c2 c3 Mv e=>up c o c1 (w2 c o c1 c2 c3 Mv e)
def aiC{z TI Bq Bj Bd:Z}{f1 f2:List Z}{CQ C0 i:Nat}{NS NT:Nat->U->Prop}{Iz J0:Nat->Aq->Prop}{a b:U}{Q:Fin->AD->Prop}(Hh:Draws prog w A Bj f1 CQ NS Iz)(HN:Draws prog w A Bd f2 C0 NT J0)(ap:SN z TI Bq Bj Bd f1 f2)(Aj:IP s.heap z TI Bq .none)(I2:G6 s.heap TI (.ref Bj) (.ref Bd))(IS:G6 s.heap Bq a b)(h1:Iz i s.heap)(h2:J0 i s.heap)(ay:i=CQ\/(i<CQ/\i=C0))(IR:∀h' e BW,(∀c o,c≠z->c≠Bq->c≠Bj->c≠Bd->s.heap.get? c=some o->h'.get? c=some o)->(∃o,h'.get? e=some o/\o.cls=.type "StopIteration")->E (.ref e) { s with heap:=h',toks:=BW }) :
  AU (Ai prog w) A (IN.«zip.__next__» ⟨[.ref z],[]⟩) Q E s:=by
 show AU _ _ (field (.ref z) 2>>=_) _ _ _;refine AH (Ij Aj rfl (x:=.bool false) rfl ?_);show AU _ _ (field (.ref z) 3>>=_) _ _ _;refine AH (Ij Aj rfl (x:=.ref TI) rfl ?_);refine AH (K1 I2 rfl ?_);show AU _ _ (WW (.ref z)>>=_) _ _ _;refine AH ?_;unfold WW;refine AH (Ij Aj rfl (x:=.none) rfl (An ?_));simp only[if_true];refine AH (MO ?_);refine AH (Ij Aj rfl (x:=.ref Bq) rfl ?_);refine AH (Ra Aj (by simp) λKc PY Lk=>?_);replace PY:IP Kc z TI Bq .ellipsis:=PY;refine AH ?_;simp only[Ti,Wm,Td,X8];refine AH (AH (X4 ?_));show AU _ _ (OF (.ref Bj)>>=_) _ _ _;have q2:Iz i Kc:=LA Hh h1 Lk ap.bQ;rcases ay with A1|⟨E7,A7⟩
 .subst A1;refine AH (Hh.done _ _ _ q2 λLl e Kb he=>?_);obtain⟨bY,Qg,VK⟩:=he;have l4:IP Ll z TI Bq .ellipsis:=Kb _ _ ap.i1z.symm PY;have az:e≠z:=λx=>by subst x;rw[l4]at Qg;cases Qg;simp at VK
  refine Ra l4 (by simp) λNA _ LH=>IR NA e s.toks (λc o c1 _ c3 _ x=>LH.extBut _ _ c1 (Kb _ _ c3 (Lk.extBut _ _ c1 x))) ⟨bY,LH.extBut _ _ az Qg,VK⟩
 .subst A7;refine AH (Hh.item _ _ _ _ E7 q2 λx Ll qi A5 pV Kb=>An ?_);have VI:G6 Ll Bq a b:=Kb.extBut _ _ ap.TOi1 (Lk.extBut _ _ ap.TOz IS);refine AH (K1 VI rfl ?_);refine AH (fP VI λNA Yy LH=>?_);refine AH (wpAny_letGo (An ?_));refine AH (AH (X4 ?_));show AU _ _ (OF (.ref Bd)>>=_) _ _ _;refine AH (HN.done _ _ _ (LA HN (LA HN (LA HN h2 Lk ap.bS) Kb ap.kk) LH ap.bR) λVU e PW he=>?_);obtain⟨bY,Qg,VK⟩:=he;have l5:IP VU z TI Bq .ellipsis:=PW _ _ ap.i2z.symm (LH.extBut _ _ ap.TOz.symm (Kb.extBut _ _ ap.i1z.symm PY));have az:e≠z:=λx=>by subst x;rw[l5]at Qg;cases Qg;simp at VK
  refine Ra l5 (by simp) λH_ _ PX=>IR H_ e qi (λc o c1 c2 c3 Mv x=>PX.extBut _ _ c1 (PW _ _ Mv (LH.extBut _ _ c2 (Kb.extBut _ _ c3 (Lk.extBut _ _ c1 x))))) ⟨bY,PX.extBut _ _ az Qg,VK⟩
theorem acX {z TI Bq Bj Bd:Z} {f1 f2:List Z} {CQ C0 i:Nat} {NS NT:Nat->U->Prop} {Iz J0:Nat->Aq->Prop} {a b:U} {Q:Option U->AD->Prop} (Hh:Draws prog w A.in1 Bj f1 CQ NS Iz) (HN:Draws prog w A.in1 Bd f2 C0 NT J0) (ap:SN z TI Bq Bj Bd f1 f2)(Aj:IP s.heap z TI Bq .none) (I2:G6 s.heap TI (.ref Bj) (.ref Bd)) (IS:G6 s.heap Bq a b) (h1:Iz i s.heap) (h2:J0 i s.heap) (E7:i<CQ) (Cm:i<C0)(Dn:∀x y h' BW,NS i x->NT i y->IP h' z TI Bq (Le s.heap.objs.size)->G6 h' Bq x y->Iz (i+1) h'->J0 (i+1) h'->G6 h' s.heap.objs.size x y->h'.objs.size=s.heap.objs.size+1->
    (∀c o,c≠z->c≠Bq->c≠Bj->c≠Bd->s.heap.get? c=some o->h'.get? c=some o)->Q (some (.ref s.heap.objs.size)) { s with heap:=h',toks:=BW }) :
  AU (Ai prog w) A (KF (.ref z)) Q E s:=by
 have Do:s.TypeIs (.ref z) "zip":=⟨_,Aj,rfl⟩;unfold KF
 exact AH (Ts (Pk (name:=NJ "__next__") Do Wn
  (JT Wn Do F.entry_zip_next
    (aiD Hh HN ap Aj I2 IS h1 h2 E7 Cm λx y h' BW a1 a2 Du GE KO Jy gq gr sg=>An (Dn x y h' BW a1 a2 Du GE KO Jy gq gr sg)) (F.args_zip_next_1 _))))
theorem acW{z TI Bq Bj Bd:Z}{f1 f2:List Z}{CQ C0 i:Nat}{NS NT:Nat->U->Prop}{Iz J0:Nat->Aq->Prop}{a b:U}{Q:Option U->AD->Prop}(Hh:Draws prog w A.in1 Bj f1 CQ NS Iz)(HN:Draws prog w A.in1 Bd f2 C0 NT J0)(ap:SN z TI Bq Bj Bd f1 f2)(Aj:IP s.heap z TI Bq .none)(I2:G6 s.heap TI (.ref Bj) (.ref Bd))(IS:G6 s.heap Bq a b)(h1:Iz i s.heap)(h2:J0 i s.heap)(ay:i=CQ\/(i<CQ/\i=C0))(Dn:∀h' BW,(∀c o,c≠z->c≠Bq->c≠Bj->c≠Bd->s.heap.get? c=some o->h'.get? c=some o)->Q none { s with heap:=h',toks:=BW }):AU (Ai prog w) A (KF (.ref z)) Q E s:=by
 have Do:s.TypeIs (.ref z) "zip":=⟨_,Aj,rfl⟩;unfold KF
 refine AH (Ts (Pk (name:=NJ "__next__") Do Wn
  (JT Wn Do F.entry_zip_next (aiC Hh HN ap Aj I2 IS h1 h2 ay λh' e BW AG he=>?_) (F.args_zip_next_1 _))))
 obtain⟨o,AE,AB⟩:=he;refine AH (Pq (T:="StopIteration") (b:=true) ⟨o,AE,AB⟩ isSubtype_stop ?_);exact An (Dn _ _ AG)
end
def Inv.aJ{X:AX}{pins:List (Z×Obj)}{σ :St}{H:A4}{s:AD}{h':Aq}{t':Nat}{ch:List Z}(I:Inv X pins σ H s)(k:∀b o,b∉ch->s.heap.get? b=some o->h'.get? b=some o)(hf:∀b∈ch,Jv X pins H b):Inv X pins σ H { s with heap:=h',toks:=t' }:=by
 have PC:∀b u,H b=some u->b∉ch:=λb u e z=>by rw[(hf b z).1]at e;cases e
 refine I.step (g':=s.gens) (d':=s.drawn) (ch:=ch) (λb J=>?_) (λb o _ _ AB e _=>k b o AB e) (λb o _ _ AB e _=>⟨o.slots,k b o AB e⟩) (λ_ _ _ _ n=>n)
  (λb o AB e=>⟨o,k b o AB e⟩) (λ_ _ e=>e) (λ_ _ _ e=>e) (λb ps e=>⟨#[],by rw[e];simp⟩) (λm hm=>?_) (λb u e=>?_) I.bare
 .obtain⟨_,f1,_,F2,f4,IH⟩:=hf b J;exact⟨F2,f1,f4,IH⟩
 .obtain⟨o,es,B3,AE,r⟩:=hm;exact⟨o,es,B3,k _ o (λz=>(hf _ z).2.1 rfl) AE,r⟩
 .refine(I.BE b u e).Nr (λc v AB q=>k c v ?_ q) (λ_ q=>q) λ_ _ q=>q;rcases AB with z|z
  .rw[z];exact PC b u e
  .exact PC c _ z
def Inv.qg{X:AX}{pins:List (Z×Obj)}{σ :St}{H:A4}{s:AD}{h':Aq}{t':Nat}{ch:List Z}{T:Z}{xs:List V}{its:List U}(I:Inv X pins σ H s)(k:∀b o,b∉ch->s.heap.get? b=some o->h'.get? b=some o)(hf:∀b∈ch,Jv X pins H b)(Do:s.heap.objs.size<=T)(BF:fs h' T its.toArray)(BZ:Vals xs its)(Aj:xs.length<=CH):Inv X pins σ (upd H T (.tup xs)) { s with heap:=h',toks:=t' }:=by
 have PC:∀b u,H b=some u->b∉ch:=λb u e z=>by rw[(hf b z).1]at e;cases e
 have AR:H T=none:=I.BE.fresh Do;have neT:∀b o,s.heap.get? b=some o->b≠T:=λb o e=>ET (Gk (Cv e) Do)
 refine I.step (g':=s.gens) (d':=s.drawn) (ch:=ch) (λb J=>?_) (λb o _ _ AB e _=>k b o AB e) (λb o _ _ AB e _=>⟨o.slots,k b o AB e⟩) (λb o _ e n=>by rw[Co (neT b o e)];exact n)
  (λb o AB e=>⟨o,k b o AB e⟩) (λb ys e=>by rw[Co (I_ e AR)];exact e) (λb _ _ e=>by rw[Co (I_ e AR)];exact e) (λb ps e=>⟨#[],by rw[Co (I_ e AR),e];simp⟩) (λm hm=>?_) (λb u e=>?_) I.bare
 .obtain⟨_,f1,_,F2,f4,IH⟩:=hf b J;exact⟨F2,f1,f4,IH⟩
 .obtain⟨o,es,B3,AE,r⟩:=hm;exact⟨o,es,B3,k _ o (λz=>(hf _ z).2.1 rfl) AE,r⟩
 .by_cases J:b=T
  .subst J;rw[DO]at e;cases e;exact⟨Aj,its,BZ,BF⟩
  .rw[Co J]at e;refine(I.BE b u e).Nr (λc v AB q=>k c v ?_ q) (λc q=>by rw[Co (I_ q AR)];exact q) λc ys q=>by rw[Co (I_ q AR)];exact q
   rcases AB with z|z
   .rw[z];exact PC b u e
   .exact PC c _ z
def gf(x:Str):It:=⟨λi _=>i<x.cps.size,λi H v H'=>H'=H/\∃c,x.cps[i]?=some c/\v=.str ⟨#[c]⟩,λi _=>i=x.cps.size⟩
def qz{prog:BR}{w:BA}{A:Bk}(B1:A.handled=none)(I:Z)(x:Str)(t:Tok):Walks prog w A I [I] [I] x.cps.size (SignAt x) (λi h=>h.IsStrIter I (Ku x) x t i):=by
 unfold Ku;cases A2:x.cps.all (· <128)
 .rw[if_neg Hy];exact Walks.strWide B1 I x t
 .rw[if_pos rfl];exact Walks.strAscii B1 I x t
def jV{prog:BR}{w:BA}{A:Bk}(B1:A.handled=none)(I:Z)(x:Str)(t:Tok):Draws prog w A I [I] x.cps.size (λi v=>∃c u,x.cps[i]?=some c/\v=.str ⟨#[c]⟩ u) (λi h=>h.IsStrIter I (Ku x) x t i):=by
 unfold Ku;cases A2:x.cps.all (· <128)
 .rw[if_neg Hy];exact Draws.strWide B1 I x t
 .rw[if_pos rfl];exact Draws.strAscii B1 I x t
def aeW(x:Str):["enumerate","zip","dict_itemiterator","dict_reverseitemiterator","odict_iterator","itertools.zip_longest","itertools.pairwise"].contains (Ku x)=false:=by
 unfold Ku
 split<;>decide
def ag1{P:BR}{w:BA}{K:AT}{BL:AN}(it:Z)(x:Str)(t:Tok):Turn P w K BL (gf x) [it] it (λi h=>h.IsStrIter it (Ku x) x t i) where
 mem:=by simp
 obj:=λi h st b J=>by
  have e:b=it:=by simpa using J
  subst e;obtain⟨o,e,c,d⟩:=st;exact⟨o,e,λv z=>by rw[d]at z;cases z⟩
 keep:=λi h h' st k=>by obtain⟨o,e,r⟩:=st;exact⟨o,k it (by simp) o e,r⟩
 item:=by intro X hP hw Ag AB i pins s σ H E I hf st AQ;subst hP hw Ag;have W:=qz (prog:=X.prog) (w:=X.w) (A:=X.A) (I.ok.hd AB) it x t;refine W.item i s _ _ AQ st λv h' BW Az M0 Bh=>?_;obtain⟨c,u,Qc,rfl⟩:=Az;have As:Inv X pins σ H { s with heap:=h',toks:=BW }:=I.aJ (ch:=[it]) Bh hf;obtain⟨o,e,c1,d1⟩:=id M0;exact⟨_,rfl,Yt (s:={ s with heap:=h',toks:=BW }) e c1 d1 (aeW x) ⟨.str ⟨#[c]⟩,H,As,⟨u,rfl⟩,⟨rfl,c,Qc,rfl⟩,M0,λb J=>(hf b J).1⟩⟩
 done:=by intro X hP hw Ag AB i pins s σ H E I hf st AQ;subst hP hw Ag;have W:=qz (prog:=X.prog) (w:=X.w) (A:=X.A) (I.ok.hd AB) it x t;have A0:i=x.cps.size:=AQ;subst A0;exact W.done s _ _ st λh' BW Bh=>⟨rfl,I.aJ (ch:=[it]) Bh hf⟩
 self:=λA i s Q E st h=>by
  unfold Ku at st;cases A2:x.cps.all (· <128)
  .rw[A2,if_neg Hy]at st;exact wpAny_pyIter_striter_wide st h
  .rw[A2,if_pos rfl]at st;exact wpAny_pyIter_striter_ascii st h
section
variable{X:AX}{BL:AN}
def lZ(FY:TE):TI:=λσ H R=>FY σ H λv H1=>∃x,v=.str x/\R (gf x) H1
def acp{l:AN}{FY:TE}(AF:Al X l FY):Fv X BL l (lZ FY):=by
 intro pins s σ H R I h;refine BS (AF pins s σ H _ I h) λv s1⟨y,H1,As,A6,A_⟩=>?_;obtain⟨x,e,q⟩:=A_;subst e;obtain⟨t,rfl⟩:=A6;refine wpAny_pyIter_strU ?_;refine⟨s1.heap.objs.size,[s1.heap.objs.size],_,_,H1,rfl,As.kept (t':=s1.toks) λb o e=>Cr _ e,ag1 _ x t,⟨_,F6 _ rfl,rfl,rfl⟩,λb J=>?_,q⟩;have e:b=s1.heap.objs.size:=by simpa using J
 subst e;exact As.PP (By _) (As.BE.fresh (By _))
end
def gc(K:AT)(l:Z):It:=⟨λi H=>∃xs x,Bb K H l xs/\xs[i]?=some x,λi H v H'=>∃p x,H p=none/\H'=upd H p (.tup [.int (i:Int),x])/\v=.ref p/\∀xs,Bb K H l xs->xs[i]?=some x,λi H=>∃xs,Bb K H l xs/\xs.length=i⟩
def afy{P:BR}{w:BA}{K:AT}{elts:List AN}{Bh:Nat}{pos:Pos}(e it l:Z)(lN:e≠it) :
  Turn P w K (.Tuple elts Bh pos) (gc K l) [e,it] e (λi h=>(∃old,IsEnum h e it i old)/\h.IsListIter it l i) where
 mem:=by simp
 obj:=λi h st b J=>by
  obtain⟨⟨old,he⟩,o,A1,c,d⟩:=st;rcases List.mem_cons.mp J with z|z
  .subst z;exact⟨_,he,λv z=>by have Es:Data.fields _=U2 v:=z;cases Es⟩
  .have z:b=it:=by simpa using z
   subst z;exact⟨o,A1,λv z=>by rw[d]at z;cases z⟩
 keep:=λi h h' st k=>by obtain⟨⟨old,he⟩,hit⟩:=st;exact⟨⟨old,k e (by simp) _ he⟩,hit.at λo x=>k it (by simp) o x⟩
 item:=by
  intro X hP hw Ag AB i pins s σ H E I hf st AQ;subst hP hw Ag;obtain⟨xs,x,Ac,A5⟩:=AQ;obtain⟨its,BZ,pl,Aj⟩:=I.list Ac;obtain⟨⟨old,he⟩,hit⟩:=st;have Fz:=pl.isList;have hle:l≠e:=λz=>by subst z;obtain⟨o,AE,J9,_⟩:=Fz;rw[he]at AE;cases AE;have J9:Lb "enumerate"=Lb "list":=J9;injection J9 with J9;exact absurd J9 (by decide)
  have VR:l≠it:=λz=>by subst z;obtain⟨o,AE,J9,_⟩:=Fz;obtain⟨BM,Dy,OA,_⟩:=hit;rw[Dy]at AE;cases AE;rw[J9]at OA;injection OA with OA;exact absurd OA (by decide)
  have W:=WalksT.enumerate (prog:=X.prog) (w:=X.w) (A:=X.A) (I.ok.hd AB) e it l lN hle VR its.toArray;have hlen:=BZ.length;have b3:i<xs.length:=(List.getElem?_eq_some_iff.mp A5).1;refine W.item i s _ _ (by rw[DJ,<-hlen];exact b3) ⟨⟨old,he⟩,hit,Fz⟩ λT vals h' BW hP Do vi Qa AG=>?_;obtain⟨t,u,B0,rfl⟩:=hP;obtain⟨HL,VT,EJ⟩:=BZ.get A5;have Hm:HL=u:=by rw[sN]at B0;rw[VT]at B0;exact Dz B0
  subst Hm;refine⟨_,rfl,?_⟩;refine W.go elts Bh pos i T { s with heap:=h',toks:=BW } _ _ Qa λh2 LS VO=>?_;have lE:T∉[e,it]:=W.apart i T h' Qa;have keep:∀b o,b∉[e,it]->s.heap.get? b=some o->h2.get? b=some o:=λb o J q=>VO b o J (AG b o J q);have aZ:fs h2 T (#[.int i t,HL]:Array U):=by obtain⟨o,AE,r⟩:=vi;exact⟨o,VO T o lE AE,r⟩
  have AR:H T=none:=I.BE.fresh Do;have Bu:Inv X pins σ (upd H T (.tup [.int (i:Int),x])) { s with heap:=h2,toks:=BW }:=I.qg (its:=[.int i t,HL]) (ch:=[e,it]) keep hf Do aZ (.cons ⟨t,rfl⟩ (.cons EJ .nil)) (by show 2<=CH;decide);refine⟨.ref T,upd H T (.tup [.int (i:Int),x]),Bu,rfl,⟨T,x,AR,rfl,rfl,λys Ao=>by rw[I.bj Ao Ac];exact A5⟩,⟨LS.1,LS.2.1⟩,λb J=>?_⟩;have nb:b≠T:=λz=>lE (z▸J);rw[Co nb];exact(hf b J).1
 done:=by
  intro X hP hw Ag AB i pins s σ H E I hf st AQ;subst hP hw Ag;obtain⟨xs,Ac,A5⟩:=AQ;obtain⟨its,BZ,pl,Aj⟩:=I.list Ac;obtain⟨⟨old,he⟩,hit⟩:=st;have Fz:=pl.isList;have hle:l≠e:=λz=>by subst z;obtain⟨o,AE,J9,_⟩:=Fz;rw[he]at AE;cases AE;have J9:Lb "enumerate"=Lb "list":=J9;injection J9 with J9;exact absurd J9 (by decide)
  have VR:l≠it:=λz=>by subst z;obtain⟨o,AE,J9,_⟩:=Fz;obtain⟨BM,Dy,OA,_⟩:=hit;rw[Dy]at AE;cases AE;rw[J9]at OA;injection OA with OA;exact absurd OA (by decide)
  have W:=WalksT.enumerate (prog:=X.prog) (w:=X.w) (A:=X.A) (I.ok.hd AB) e it l lN hle VR its.toArray;have Fy:i=its.toArray.size:=by rw[DJ,<-BZ.length];exact A5.symm
  subst Fy;exact W.done s _ _ ⟨⟨old,he⟩,hit,Fz⟩ λh' BW Bh=>⟨rfl,I.aJ (ch:=[e,it]) Bh hf⟩
 self:=λA i s Q E st h=>by obtain⟨⟨old,he⟩,_⟩:=st;exact wpAny_pyIter_enum he h
section
variable{X:AX}{elts:List AN}{Bh:Nat}{TV:Pos}
def l7(K:AT)(Bo:Et):TI:=λσ H R=>Bo σ H λvs H1=>∃l,vs=[.ref l]/\(∃xs,Bb K H1 l xs)/\R (gc K l) H1
def acn{a:AN}{Bo:Et}{p pos:Pos}(AQ:DK X "enumerate")(hm:X.AA "enumerate"=none)(A2:F8 X [a] Bo)(hs:Aw [a] X.env=[(false,BC a X.env)]:=by rfl):Fv X (.Tuple elts Bh TV) (.Call (.Name "enumerate" p) [a] [] pos) (l7 X.K Bo):=by
 have J:Kv "enumerate"=some (.type "enumerate"):=by kernel_rfl
 intro pins s σ H R I h;refine sK (Ov I AQ hm J (RT (BS (A2 pos pins s σ H _ I h) λus s1⟨vs,H1,As,A6,A_⟩=>?_) hs rfl));obtain⟨l,e,⟨xs,Ac⟩,q⟩:=A_;subst e;obtain⟨u,rfl,EJ⟩:=vals1 A6;cases EJ;obtain⟨its,BZ,pl,Aj⟩:=As.list Ac;refine call_enumerate_list pl.isList λh' he hit hsz AG=>?_;have Bu:Inv X pins σ H1 { s1 with heap:=h' }:=As.kept (t':=s1.toks) AG;refine wpAny_pyIter_enum he ?_;refine⟨s1.heap.objs.size+1,[s1.heap.objs.size+1,s1.heap.objs.size],_,_,H1,rfl,Bu,afy _ _ l (Nat.succ_ne_self _),⟨⟨_,he⟩,hit⟩,λb J=>?_,q⟩;have J:b=s1.heap.objs.size+1\/b=s1.heap.objs.size:=by simpa using J
 rcases J with z|z
 .subst z;exact As.PP (ON _) (As.BE.fresh (ON _))
 .subst z;exact As.PP (By _) (As.BE.fresh (By _))
end
noncomputable abbrev Zy(h:Aq)(x:Str)(t:Tok):Aq:=h.push { cls:=.type (Ku x),data:=.fields #[.str x t,.int 0 0] }
abbrev Zz(h:Aq)(x:Str)(t:Tok)(l:Z):Aq:=(Zy h x t).push { cls:=.type "tuple_iterator",data:=.fields #[.ref l,.int 0 0] }
abbrev a0(h:Aq)(x:Str)(t:Tok)(l:Z):Aq:=(Zz h x t l).push { cls:=.type "tuple",data:=.seq #[.ref h.objs.size,.ref (Zy h x t).objs.size] }
abbrev a3(h:Aq)(x:Str)(t:Tok)(l:Z):Aq:=(a0 h x t l).push { cls:=.type "tuple",data:=.seq #[.none,.none] }
abbrev R2(h:Aq)(x:Str)(t:Tok)(l:Z):Aq:=(a3 h x t l).push { cls:=.type "zip",data:=.fields #[.none,.bool false,.bool false,.ref (Zz h x t l).objs.size,.ref (a0 h x t l).objs.size] }
set_option maxHeartbeats 4000000 in
def aas(x:Str)(t:Tok)(Cm:Z)(ys:Array U) :
  Meets (IN.«zip.__new__» ⟨[.type "zip",.str x t,.ref Cm],[]⟩) (λ_ R s=>s.heap.IsTuple Cm ys/\R (.ok (.ret (.ref (a3 s.heap x t Cm).objs.size))) { s with heap:=R2 s.heap x t Cm }):=
 .of_wp λprog w A R s h=>by
   obtain⟨AW,g,d,BW,os⟩:=s;obtain⟨N7,h⟩:=h;have N8:=sub_zip;have wS:Heap.IsTuple (Shared.heap ⟨AW.push { cls:=.type (Ku x),data:=.fields #[.str x t,.int 0 0] },g,d,BW,os⟩) Cm ys:=Heap.IsTuple.push N7 _
   wp_walk using wpAny_pyIter_strU,wpAny_pyIter_tuple wS
   exact⟨_,rfl,h⟩
theorem tm {prog:BR} {w:BA} {A:Bk} {E:U->AD->Prop} {s:AD} {x:Str} {t:Tok} {Cm:Z} {ys:Array U} {Q:U->AD->Prop} (N7:s.heap.IsTuple Cm ys)(h:∀h',IP h' (s.heap.objs.size+4) (s.heap.objs.size+2) (s.heap.objs.size+3) .none->G6 h' (s.heap.objs.size+2) (.ref s.heap.objs.size) (.ref (s.heap.objs.size+1))->
    G6 h' (s.heap.objs.size+3) .none .none->h'.IsStrIter s.heap.objs.size (Ku x) x t 0->h'.IsTupleIter (s.heap.objs.size+1) Cm 0->h'.objs.size=s.heap.objs.size+5->
    (∀c o,s.heap.get? c=some o->h'.get? c=some o)->Q (.ref (s.heap.objs.size+4)) { s with heap:=h' }) :
  AU (Ai prog w) A (call (.type "zip") [.str x t,.ref Cm]) Q E s:=by
 refine callType_new F.called_zip (by decide) (F.typeCall_zip_2 _ _) (F.newCall_zip_2 _ _) (λobj=>F.args_object_init_3 obj _ _) F.entry_zip_new (aas x t Cm ys) ⟨N7,?_⟩;have DD:(Zy s.heap x t).objs.size=s.heap.objs.size+1:=K2 ..;have CP:(Zz s.heap x t Cm).objs.size=s.heap.objs.size+2:=by rw[K2,DD]
 have LY:(a0 s.heap x t Cm).objs.size=s.heap.objs.size+3:=by rw[K2,CP]
 have R0:(a3 s.heap x t Cm).objs.size=s.heap.objs.size+4:=by rw[K2,LY]
 have WV:(R2 s.heap x t Cm).objs.size=s.heap.objs.size+5:=by rw[K2,R0]
 have PQ:(R2 s.heap x t Cm).get? (a3 s.heap x t Cm).objs.size=some _:=F6 _ rfl;have FX:(R2 s.heap x t Cm).get? (a0 s.heap x t Cm).objs.size=some _:=Cr _ (F6 _ rfl);have g3:(R2 s.heap x t Cm).get? (Zz s.heap x t Cm).objs.size=some _:=Cr _ (Cr _ (F6 _ rfl));have g2:(R2 s.heap x t Cm).get? (Zy s.heap x t).objs.size=some _:=Cr _ (Cr _ (Cr _ (F6 _ rfl)));have g1:(R2 s.heap x t Cm).get? s.heap.objs.size=some _:=Cr _ (Cr _ (Cr _ (Cr _ (F6 _ rfl))));show _/\_;rw[CP,LY,R0]at PQ;rw[DD,CP]at g3;rw[LY]at FX;rw[DD]at g2;rw[R0];exact⟨⟨_,PQ,rfl⟩,h _ PQ g3 FX ⟨_,g1,rfl,rfl⟩ ⟨_,g2,rfl,rfl⟩ WV λc o x=>
  Cr _ (Cr _ (Cr _ (Cr _ (Cr _ x))))⟩
def gh(K:AT)(x:Str)(l:Z):It:=⟨λi H=>i<x.cps.size/\∃ys y,CA K H l ys/\ys[i]?=some y,
 λi H v H'=>∃p c y,x.cps[i]?=some c/\H p=none/\H'=upd H p (.tup [.str ⟨#[c]⟩,y])/\v=.ref p/\∀ys,CA K H l ys->ys[i]?=some y,
 λi H=>∃ys,CA K H l ys/\i=min x.cps.size ys.length⟩
structure iU(z TI Bq Bj Bd:Z):Prop where
 TIz:TI≠z
 TOz:Bq≠z
 TITO:TI≠Bq
 TIi1:TI≠Bj
 TIi2:TI≠Bd
 TOi1:Bq≠Bj
 TOi2:Bq≠Bd
 i1z:Bj≠z
 i2z:Bd≠z
 i12:Bj≠Bd
def ag3{P:BR}{w:BA}{K:AT}{elts:List AN}{Bh:Nat}{pos:Pos}(x:Str)(t:Tok)(l z TI Bq Bj Bd:Z)(ap:iU z TI Bq Bj Bd) :
  Turn P w K (.Tuple elts Bh pos) (gh K x l) [z,TI,Bq,Bj,Bd] z (λi h=>IP h z TI Bq .none/\G6 h TI (.ref Bj) (.ref Bd)/\(∃a b,G6 h Bq a b)/\h.IsStrIter Bj (Ku x) x t i/\h.IsTupleIter Bd l i) where
 mem:=by simp
 obj:=λi h st b J=>by
  obtain⟨Aj,I2,⟨a,CT,IS⟩,⟨Cc,A1,c1,d1⟩,CD,A7,c2,C1⟩:=st;have J:b=z\/b=TI\/b=Bq\/b=Bj\/b=Bd:=by simpa using J
  rcases J with q|q|q|q|q<;>subst q
  .exact⟨_,Aj,λv z=>by have Es:Data.fields _=U2 v:=z;cases Es⟩
  .exact⟨_,I2,λv z=>by have Es:Data.seq _ _=U2 v:=z;cases Es⟩
  .exact⟨_,IS,λv z=>by have Es:Data.seq _ _=U2 v:=z;cases Es⟩
  .exact⟨Cc,A1,λv z=>by rw[d1]at z;cases z⟩
  .exact⟨CD,A7,λv z=>by rw[C1]at z;cases z⟩
 keep:=λi h h' st k=>by obtain⟨Aj,I2,⟨a,CT,IS⟩,⟨Cc,A1,A6⟩,CD,A7,AZ⟩:=st;exact⟨k z (by simp) _ Aj,k TI (by simp) _ I2,⟨a,CT,k Bq (by simp) _ IS⟩,⟨Cc,k Bj (by simp) _ A1,A6⟩,CD,k Bd (by simp) _ A7,AZ⟩
 item:=by
  intro X hP hw Ag AB i pins s σ H E I hf st AQ;subst hP hw Ag;obtain⟨A0,ys,y,Ac,Ao⟩:=AQ;obtain⟨its,BZ,BF,wu⟩:=I.tuple Ac;obtain⟨Aj,I2,⟨a,CT,IS⟩,YV,HZ⟩:=st;have nl:∀b∈[z,TI,Bq,Bj,Bd],l≠b:=λb J q=>by
   subst q;rcases Ac with(h|⟨o,h⟩)|⟨o,Ur,n,h,_⟩
   .rw[(hf l J).1]at h;cases h
   .rw[(hf l J).1]at h;cases h
   .have h1:=I.ok.mod.Ou l o h;rcases(hf l J).2.2.2.1 with q|q
    .exact I.ok.RI l o h1 q
    .exact absurd (Gk (Cv (I.ok.bs l o h1).1) q) (IK _)
  have B1:X.A.in1.handled=none:=I.ok.hd AB;have Hh:=jV (prog:=X.prog) (w:=X.w) (A:=X.A.in1) B1 Bj x t;have HN:=jW (prog:=X.prog) (w:=X.w) (A:=X.A.in1) B1 Bd l (nl Bd (by simp)) its.toArray;have hlen:=BZ.length;have b3:i<ys.length:=(List.getElem?_eq_some_iff.mp Ao).1
  have MY:SN z TI Bq Bj Bd [Bj] [Bd,l]:=⟨ap.TIz,ap.TOz,ap.TITO,ap.TIi1,ap.TIi2,ap.TOi1,ap.TOi2,ap.i1z,ap.i2z,ap.i12,by simpa using ap.i1z.symm,by simpa using ap.TOi1,by simpa using ap.i12.symm,
   by simp only[La,LZ,or_false,not_or];exact⟨ap.i2z.symm,(nl z (by simp)).symm⟩,by simp only[La,LZ,or_false,not_or];exact⟨ap.TOi2,(nl Bq (by simp)).symm⟩,by simp only[La,LZ,or_false,not_or];exact⟨ap.i12,(nl Bj (by simp)).symm⟩⟩
  refine acX Hh HN MY Aj I2 IS YV ⟨HZ,BF⟩ A0 (by rw[DJ,<-hlen];exact b3) λKm TW h' BW DW CB a1 a2 Du GE KO Jy AG=>?_;obtain⟨c,t1,vp,rfl⟩:=DW;obtain⟨HL,VT,EJ⟩:=BZ.get Ao;have Hm:HL=TW:=by rw[sN]at CB;rw[VT]at CB;exact Dz CB
  subst Hm;refine⟨_,rfl,?_⟩;refine wpAny_letOwnedTupleGo_zip a1 λh2 wv TJ=>?_;have aee:∀b∈[z,TI,Bq,Bj,Bd],b<s.heap.objs.size:=λb J=>by
   have J:b=z\/b=TI\/b=Bq\/b=Bj\/b=Bd:=by simpa using J
   obtain⟨Cc,A1,_⟩:=YV;obtain⟨CD,A7,_⟩:=HZ;rcases J with q|q|q|q|q<;>subst q
   .exact Cv Aj
   .exact Cv I2
   .exact Cv IS
   .exact Cv A1
   .exact Cv A7
  have oJ:∀b∈[z,TI,Bq,Bj,Bd],b≠s.heap.objs.size:=λb J=>ET (aee b J);have keep:∀b o,b∉[z,Bq,Bj,Bd]->s.heap.get? b=some o->h2.get? b=some o:=λb o J q=>by have J:¬(b=z\/b=Bq\/b=Bj\/b=Bd):=λw=>J (by simpa using w);exact TJ.extBut b o (λw=>J (.inl w)) (AG b o (λw=>J (.inl w)) (λw=>J (.inr (.inl w))) (λw=>J (.inr (.inr (.inl w)))) (λw=>J (.inr (.inr (.inr w)))) q)
  have aZ:fs h2 s.heap.objs.size ([.str ⟨#[c]⟩ t1,HL]:List U).toArray:=⟨_,TJ.extBut _ _ (oJ z (by simp)).symm KO,rfl,_,rfl⟩;have AR:H s.heap.objs.size=none:=I.BE.fresh (By _);have Bu:Inv X pins σ (upd H s.heap.objs.size (.tup [.str ⟨#[c]⟩,y])) { s with heap:=h2,toks:=BW }:=I.qg (its:=[.str ⟨#[c]⟩ t1,HL]) (ch:=[z,Bq,Bj,Bd]) keep (λb J=>hf b (by
   have J:b=z\/b=Bq\/b=Bj\/b=Bd:=by simpa using J
   rcases J with q|q|q|q<;>simp[q])) (By _) aZ (.cons ⟨t1,rfl⟩ (.cons EJ .nil)) (by show 2<=CH;decide)
  refine⟨.ref s.heap.objs.size,_,Bu,rfl,⟨s.heap.objs.size,c,y,vp,AR,rfl,rfl,λzs wx=>by rw[I.eM wx Ac];exact Ao⟩,?_,λb J=>?_⟩
  .refine⟨wv,TJ.extBut _ _ ap.TIz (AG _ _ ap.TIz ap.TITO ap.TIi1 ap.TIi2 I2),⟨_,_,TJ.extBut _ _ ap.TOz a2⟩,?_,?_⟩
   .obtain⟨Cc,A1,A6⟩:=Du;exact⟨Cc,TJ.extBut _ _ ap.i1z A1,A6⟩
   .obtain⟨⟨CD,A7,AZ⟩,_⟩:=GE;exact⟨CD,TJ.extBut _ _ ap.i2z A7,AZ⟩
  .rw[Co (oJ b J)];exact(hf b J).1
 done:=by
  intro X hP hw Ag AB i pins s σ H E I hf st AQ;subst hP hw Ag;obtain⟨ys,Ac,A0⟩:=AQ;obtain⟨its,BZ,BF,wu⟩:=I.tuple Ac;obtain⟨Aj,I2,⟨a,CT,IS⟩,YV,HZ⟩:=st;have nl:∀b∈[z,TI,Bq,Bj,Bd],l≠b:=λb J q=>by
   subst q;rcases Ac with(h|⟨o,h⟩)|⟨o,Ur,n,h,_⟩
   .rw[(hf l J).1]at h;cases h
   .rw[(hf l J).1]at h;cases h
   .have h1:=I.ok.mod.Ou l o h;rcases(hf l J).2.2.2.1 with q|q
    .exact I.ok.RI l o h1 q
    .exact absurd (Gk (Cv (I.ok.bs l o h1).1) q) (IK _)
  have B1:X.A.in1.handled=none:=I.ok.hd AB;have Hh:=jV (prog:=X.prog) (w:=X.w) (A:=X.A.in1) B1 Bj x t;have HN:=jW (prog:=X.prog) (w:=X.w) (A:=X.A.in1) B1 Bd l (nl Bd (by simp)) its.toArray;have hlen:=BZ.length
  have MY:SN z TI Bq Bj Bd [Bj] [Bd,l]:=⟨ap.TIz,ap.TOz,ap.TITO,ap.TIi1,ap.TIi2,ap.TOi1,ap.TOi2,ap.i1z,ap.i2z,ap.i12,by simpa using ap.i1z.symm,by simpa using ap.TOi1,by simpa using ap.i12.symm,
   by simp only[La,LZ,or_false,not_or];exact⟨ap.i2z.symm,(nl z (by simp)).symm⟩,by simp only[La,LZ,or_false,not_or];exact⟨ap.TOi2,(nl Bq (by simp)).symm⟩,by simp only[La,LZ,or_false,not_or];exact⟨ap.i12,(nl Bj (by simp)).symm⟩⟩
  refine acW Hh HN MY Aj I2 IS YV ⟨HZ,BF⟩ ?_ λh' BW Bh=>⟨rfl,I.aJ (ch:=[z,Bq,Bj,Bd]) (λb o J q=>?_) λb J=>hf b ?_⟩
  .have es:its.toArray.size=its.length:=by simp
   rw[es,<-hlen];lia
  .have J:¬(b=z\/b=Bq\/b=Bj\/b=Bd):=λw=>J (by simpa using w);exact Bh b o (λw=>J (.inl w)) (λw=>J (.inr (.inl w))) (λw=>J (.inr (.inr (.inl w)))) (λw=>J (.inr (.inr (.inr w)))) q
  .have J:b=z\/b=Bq\/b=Bj\/b=Bd:=by simpa using J
   rcases J with q|q|q|q<;>simp[q]
 self:=λA i s Q E st h=>wpAny_pyIter_zip st.1 h
section
variable{X:AX}{elts:List AN}{Bh:Nat}{TV:Pos}
def aiE(n:Nat):iU (n+4) (n+2) (n+3) n (n+1):=
 ⟨(show n+2≠n+4 from ET (show(n+2:Nat)<n+4 by lia)),
  (show n+3≠n+4 from ET (show(n+3:Nat)<n+4 by lia)),
  (show n+2≠n+3 from ET (show(n+2:Nat)<n+3 by lia)),
  (show n+2≠n from ML (show(n:Nat)<n+2 by lia)),
  (show n+2≠n+1 from ML (show(n+1:Nat)<n+2 by lia)),
  (show n+3≠n from ML (show(n:Nat)<n+3 by lia)),
  (show n+3≠n+1 from ML (show(n+1:Nat)<n+3 by lia)),
  (show n≠n+4 from ET (show(n:Nat)<n+4 by lia)),
  (show n+1≠n+4 from ET (show(n+1:Nat)<n+4 by lia)),
  (show n≠n+1 from ET (show(n:Nat)<n+1 by lia))⟩
def mw(K:AT)(Bo:Et):TI:=λσ H R=>Bo σ H λvs H1=>∃x l,vs=[.str x,.ref l]/\(∃ys,CA K H1 l ys)/\R (gh K x l) H1
def acr{a b:AN}{Bo:Et}{p pos:Pos}(AQ:DK X "zip")(hm:X.AA "zip"=none)(A2:F8 X [a,b] Bo)(hs:Aw [a,b] X.env=[(false,BC a X.env),(false,BC b X.env)]:=by rfl)(HZ:Aw [b] X.env=[(false,BC b X.env)]:=by rfl) :
  Fv X (.Tuple elts Bh TV) (.Call (.Name "zip" p) [a,b] [] pos) (mw X.K Bo):=by
 have J:Kv "zip"=some (.type "zip"):=by kernel_rfl
 intro pins s σ H R I h;refine sK (Ov I AQ hm J (RT (BS (A2 pos pins s σ H _ I h) λus s1⟨vs,H1,As,A6,A_⟩=>?_) (by rw[hs,HZ]) (by rw[HZ];rfl)));obtain⟨x,l,e,⟨ys,Ac⟩,q⟩:=A_;subst e;obtain⟨u,TW,rfl,⟨t,rfl⟩,EJ⟩:=vals2 A6;cases EJ;obtain⟨its,BZ,BF,Aj⟩:=As.tuple Ac;refine tm (show s1.heap.IsTuple l its.toArray from BF) λh' a1 a2 Du GE KO Jy AG=>?_;have Bu:Inv X pins σ H1 { s1 with heap:=h' }:=As.kept (t':=s1.toks) AG;refine wpAny_pyIter_zip a1 ?_;refine⟨s1.heap.objs.size+4,[s1.heap.objs.size+4,s1.heap.objs.size+2,s1.heap.objs.size+3,s1.heap.objs.size,s1.heap.objs.size+1],_,_,H1,rfl,Bu,ag3 x t l _ _ _ _ _ (aiE s1.heap.objs.size),⟨a1,a2,⟨_,_,Du⟩,GE,KO⟩,λb J=>?_,q⟩;have J:s1.heap.objs.size<=b:=by
  have J:b=s1.heap.objs.size+4\/b=s1.heap.objs.size+2\/b=s1.heap.objs.size+3\/b=s1.heap.objs.size\/b=s1.heap.objs.size+1:=by simpa using J
  rcases J with q|q|q|q|q
  .rw[q];exact Pr _ _
  .rw[q];exact Pr _ _
  .rw[q];exact Pr _ _
  .rw[q];exact By _
  .rw[q];exact Pr _ _
 exact As.PP J (As.BE.fresh J)
end
end CE
namespace Cj
open PySem PySem.Spec CE
section
variable{X:AX}{F:B5}{e a b c BL iter elt:AN}{es:List AN}{pos p:Pos}{m n:AY}{ma:Ad}
noncomputable def I8(c:Nat):D:=.str ⟨#[c]⟩
def ee:D->R (List D)
 |.str x=>.ok (x.cps.toList.map I8)
 |_=>.bad
def z4{K:AT}{G:A4}(x:Str):KH K (gf x) (x.cps.toList.map I8) G where
 go:=λi H s A0=>by
  have h:i<x.cps.size:=by simpa using A0
  exact h
 Jt:=λi H v H' s A0 y=>by obtain⟨e,c,AB,rfl⟩:=y;refine⟨I8 c,?_,.inl ⟨e,by unfold I8;simp only[At]⟩⟩;rw[EH,fW,AB];rfl
 stop:=λH s=>by
  have h:(x.cps.toList.map I8).length=x.cps.size:=by simp
  exact h
def Sf(m:AY):Ad:=λρ=>(m ρ).bind ee
def xu:Oc (Jq F (Sf m)) (lZ (CN F m)):=by
 rintro σ H Q ⟨G,ρ,r,h⟩;unfold Sf at h;refine⟨G,ρ,r,?_⟩;refine rb h λd Aa h v H1 AV A6 s1 a=>?_;cases d with
 |str x=>simp only[At]at a;exact⟨x,a,h _ H1 AV A6 s1 (z4 x)⟩
 |_=>cases h
noncomputable def PL(ds:List D):List D:=ds.zipIdx.map λp=>.tup [.int (p.2:Int),p.1]
def ut{ds:List D}{i:Nat}{d:D}(e:ds[i]?=some d):(PL ds)[i]?=some (.tup [.int (i:Int),d]):=by unfold PL;rw[EH,sP,e];simp
def T7:List D->R (List D)
 |[.lst ds]=>.ok (PL ds)
 |[.Cd ds]=>.ok (PL ds)
 |_=>.bad
def nC{K:AT}{G:A4}{l:Z}{ds:List D}{xs:List V}(h:Bb K G l xs)(q:AP K G ds xs):KH K (gc K l) (PL ds) G where
 go:=λi H s A0=>by
  have A0:i<ds.length:=by simpa[PL]using A0
  obtain⟨v,e,_⟩:=q.get (C5 A0);exact⟨xs,v,Bb.mono s h,e⟩
 Jt:=λi H v H' s A0 y=>by obtain⟨p,x,AW,rfl,rfl,y⟩:=y;have ex:=y xs (Bb.mono s h);obtain⟨d,e,a⟩:=q.Ys ex;exact⟨_,ut e,.inr ⟨p,_,_,AW,rfl,rfl,rfl,.cons (by simp only[At]) (.cons a .nil)⟩⟩
 stop:=λH s=>⟨xs,Bb.mono s h,by simp[PL,q.length]⟩
def P0(m:Ad):Ad:=λρ=>(m ρ).bind T7
def y5(Ag:F.K=X.K):Oc (Jq F (P0 ma)) (l7 X.K (EL F ma)):=by
 rintro σ H Q ⟨G,ρ,r,h⟩;unfold P0 at h;refine⟨G,ρ,r,?_⟩;refine rb h λds Aa h vs H1 AV A6 s1 al=>?_;unfold T7 at h
 split at h
 .rename_i ds;obtain⟨v,rfl,a⟩:=al.one;simp only[At]at a;obtain⟨q,xs,rfl,Ac,EY⟩:=a;have Gg:Bb X.K AV q xs:=Bb.of Ac;rw[<-Ag]at Gg;refine⟨q,rfl,⟨xs,by rw[<-Ag];exact Bb.mono A6.AJ.sub Gg⟩,?_⟩;rw[<-Ag];exact h _ H1 AV A6 s1 (nC Gg EY)
 .rename_i ds;obtain⟨v,rfl,a⟩:=al.one;simp only[At]at a;obtain⟨q,xs,rfl,Ac,EY⟩:=a;refine⟨q,rfl,⟨xs,by rw[<-Ag];exact Bb.mono A6.AJ.sub Ac⟩,?_⟩;rw[<-Ag];exact h _ H1 AV A6 s1 (nC Ac EY)
 .exact h.elim
def R1(xs:List Nat)(ys:List D):List D:=(xs.zip ys).map λp=>.tup [I8 p.1,p.2]
def rV:List D->R (List D)
 |[.str x,.EQ ys]=>.ok (R1 x.cps.toList ys)
 |_=>.bad
def z5{K:AT}{G:A4}{x:Str}{l:Z}{ds:List D}{xs:List V}(h:CA K G l xs)(q:AP K G ds xs):KH K (gh K x l) (R1 x.cps.toList ds) G where
 go:=λi H s A0=>by
  have A0:i<min x.cps.size ds.length:=by simpa[R1]using A0
  have h1:i<ds.length:=by lia
  obtain⟨v,e,_⟩:=q.get (C5 h1);exact⟨by lia,xs,v,CA.mono s h,e⟩
 Jt:=λi H v H' s A0 y=>by
  obtain⟨p,c,LU,AB,AW,rfl,rfl,y⟩:=y;have ex:=y xs (CA.mono s h);obtain⟨d,e,a⟩:=q.Ys ex;refine⟨.tup [I8 c,d],?_,.inr ⟨p,_,_,AW,rfl,rfl,rfl,.cons (by unfold I8;simp only[At]) (.cons a .nil)⟩⟩;unfold R1;rw[EH];have bP:(x.cps.toList.zip ds)[i]?=some (c,d):=by rw[List.getElem?_zip_eq_some];exact⟨by rw[fW];exact AB,e⟩
  rw[bP];rfl
 stop:=λH s=>⟨xs,CA.mono s h,by simp[R1,q.length]⟩
def Ze(m:Ad):Ad:=λρ=>(m ρ).bind rV
def xW(Ag:F.K=X.K):Oc (Jq F (Ze ma)) (mw X.K (EL F ma)):=by
 rintro σ H Q ⟨G,ρ,r,h⟩;unfold Ze at h;refine⟨G,ρ,r,?_⟩;refine rb h λds Aa h vs H1 AV A6 s1 al=>?_;unfold rV at h
 split at h
 .rename_i x ys;obtain⟨v,w,rfl,Au,L4⟩:=al.two;simp only[At]at Au L4;subst Au;obtain⟨q,xs,rfl,Ac,EY⟩:=L4;refine⟨x,q,rfl,⟨xs,by rw[<-Ag];exact CA.mono A6.AJ.sub Ac⟩,?_⟩;rw[<-Ag];exact h _ H1 AV A6 s1 (z5 Ac EY)
 .exact h.elim
structure GM(X:AX)(BL:AN)(set:D->A8->R A8):Prop where
 ex:∃g,Iw X BL g/\∀F:B5,F.K=X.K->MR F g set
 Ep:∀d ρ c,set d ρ≠.exc c
 keeps:Keeps set
def abA(i:Nat){x:Str}(hN:X.N.Nodup)(A0:X.N[i]?=some x:=by rfl)(A5:Loc X.env.scope x:=by first|exact DX rfl|exact CY rfl)(hf:X.fn x=true\/X.env.scope.names.lookup x=some .local:=by first|exact .inl rfl|exact .inr rfl):GM X (.Name x pos) (B_ i):=
 ⟨⟨H4 i,Vq hN A0 A5 hf,λ_ _=>Yr i⟩,Z9 i,Z8 i⟩
structure Xy(X:AX)(aeP:List AN)(Am:List (D->A8->R A8)):Prop where
 ex:∃g,UF X aeP g/\∀F:B5,F.K=X.K->Ue F g (Hx Am)
 Ep:∀f∈Am,∀d ρ c,f d ρ≠.exc c
 keeps:∀f∈Am,Keeps f
def abB:Xy X [] []:=⟨⟨Yo,p3,λ_ _=>m7⟩,(λ_ h=>nomatch h),(λ_ h=>nomatch h)⟩
def ab7{f:D->A8->R A8}{Am:List (D->A8->R A8)}(h:GM X e f)(t:Xy X es Am)(hs:(Kt (e::es) X.env).map (·.2)=KD e X.env::(Kt es X.env).map (·.2):=by rfl):Xy X (e::es) (f::Am):=by obtain⟨⟨g,h1,h2⟩,h3,h4⟩:=h;obtain⟨⟨O6,t1,Fo⟩,t3,e1⟩:=t;exact⟨⟨UY g O6,dQ h1 t1 hs,λF N3=>ah (h2 F N3) (Fo F N3)⟩,λk AG=>by rcases List.mem_cons.mp AG with rfl|AG;exact h3;exact t3 k AG,λk AG=>by rcases List.mem_cons.mp AG with rfl|AG;exact h4;exact e1 k AG⟩
def aaP{k:Nat}{Am:List (D->A8->R A8)}(AB:X.calm=true)(h:Xy X es Am)(AR:(Kt es X.env).length=Am.length:=by rfl)(GO:(Kt es X.env).findIdx? (·.1)=none:=by rfl):GM X (.Tuple es k pos) (G8 Am):=by obtain⟨⟨O6,t1,Fo⟩,t3,e1⟩:=h;exact⟨⟨Yq X.K Am.length O6,p2 AB t1 AR GO,λF N3=>by rw[<-N3];exact m8 rfl (Fo F N3)⟩,ph t3,pg e1⟩
abbrev UZ(X:AX)(scope:DT)(N:List Str)(e:AN)(m:AY):Prop:=∀cl C s H Ae BD Ak,J4 (E_ X scope N cl C s H Ae) (Cw X.K BD Ak) e m
abbrev Ma(X:AX)(scope:DT)(N:List Str)(ifs:List AN)(m:C7):Prop:=∀cl C s H Ae BD Ak,Oe (E_ X scope N cl C s H Ae) ifs (Fp (Cw X.K BD Ak) m)
abbrev U_(X:AX)(scope:DT)(N:List Str)(BL:AN)(set:D->A8->R A8):Prop:=∃g,(∀cl C s H Ae,Iw (E_ X scope N cl C s H Ae) BL g)/\(∀BD Ak,MR (Cw X.K BD Ak) g set)
def ji{scope:DT}{N:List Str}{g:HQ}{set:D->A8->R A8}(h:∀cl C s H Ae,Iw (E_ X scope N cl C s H Ae) BL g)(k:∀F:B5,F.K=X.K->MR F g set):U_ X scope N BL set:=⟨g,h,λBD Ak=>k (Cw X.K BD Ak) rfl⟩
def Ez:C7:=λ_=>.ok true
def u7{scope:DT}{N:List Str}:Ma X scope N [] Ez:=λcl C s H Ae BD Ak pins s' σ H' Q I h=>by obtain⟨G,ρ,r,k⟩:=h;exact pN pins s' σ H' Q I (k H' G r (Bn.refl _ _))
def jw{scope:DT}{N:List Str}{ifs:List AN}{nl:Nat}{caps:List Nat}{mi:Ad}{set:D->A8->R A8}{mt:C7}{D3:AY}(Ag:F.K=X.K)(A0:SG X F BL iter mi)(AQ:U_ X scope N BL set)(BF:Ma X scope N ifs mt)(he:UZ X scope N elt D3)(A5:∀d ρ c,set d ρ≠.exc c)(AG:Keeps set){Q:TE->Prop}(k:∀g,(∀cl C s H Ae,Iw (E_ X scope N cl C s H Ae) BL g)->(∀cl C s H Ae,Oe (E_ X scope N cl C s H Ae) ifs (TY X.K mt))->(∀cl C s H Ae,Al (E_ X scope N cl C s H Ae) elt (ew X.K D3))->Dq (Ie F (Ej nl caps mi set mt D3)) (RS (Jq F mi) g (TY X.K mt) (ew X.K D3) nl caps)->Q (Ie F (Ej nl caps mi set mt D3))):Q (Ie F (Ej nl caps mi set mt D3)):=by
 obtain⟨g,g1,g2⟩:=AQ;refine k g g1 (λcl C s H Ae pins s' σ H' IC I h=>?_) (λcl C s H Ae pins s' σ H' IC I h=>?_) ?_
 .obtain⟨BD,Ak,h⟩:=h;exact BF cl C s H Ae BD Ak pins s' σ H' IC I h
 .obtain⟨BD,Ak,h⟩:=h;exact he cl C s H Ae BD Ak pins s' σ H' IC I h
 .have z:=wX (F:=F) (nl:=nl) (caps:=caps) (mi:=mi) (tst:=mt) (elt:=D3) (g:=g) (set:=set) (λBD Ak=>by rw[Ag];exact g2 BD Ak) A5 AG;rw[Ag]at z;exact z
def aaL{scope:DT}{N:List Str}{ifs:List AN}{nl:Nat}{caps:List Nat}{mi:Ad}{set:D->A8->R A8}{mt:C7}{D3:AY}(S:M6 X.env.scope X.N scope N nl caps)(A0:SG X F BL iter mi)(AQ:U_ X scope N BL set)(A5:∀d ρ c,set d ρ≠.exc c)(AG:Keeps set)(BF:Ma X scope N ifs mt)(he:UZ X scope N elt D3)(AB:X.calm=true:=by rfl)(Ag:F.K=X.K:=by rfl)(hs:∀x,JS iter X.env x=pure x:=by intro _;rfl):iv X F (.ListComp elt [⟨BL,iter,ifs,0⟩] scope pos) (Ej nl caps mi set mt D3):=
 jw (nl:=nl) (caps:=caps) (Q:=λt=>Al X (.ListComp elt [⟨BL,iter,ifs,0⟩] scope pos) t) Ag A0 AQ BF he A5 AG λg g1 t1 A1 imp=>Al.imp (nO S AB A0 g1 t1 A1 hs) imp
def ae7(i:Nat){y:Str}{py:Pos}{scope:DT}{N:List Str}{ifs:List AN}{nl:Nat}{caps:List Nat}{mi:Ad}{set:D->A8->R A8}{mt:C7}{D3:AY}{Ba:Pos}(hN:X.N.Nodup)(S:M6 X.env.scope X.N scope N nl caps)(A0:SG X F BL iter mi)(AQ:U_ X scope N BL set)(A5:∀d ρ c,set d ρ≠.exc c)(AG:Keeps set)(BF:Ma X scope N ifs mt)(he:UZ X scope N elt D3)(Ao:X.N[i]?=some y:=by rfl)(AF:X.env.kindOf y=some .local:=by rfl)(OD:Kw (.ListComp elt [⟨BL,iter,ifs,0⟩] scope Ba) (some (.Name y py)) pos.line X.env=pure true:=by rfl)(AB:X.calm=true:=by rfl)(Ag:F.K=X.K:=by rfl)(hs:∀x,JS iter X.env x=pure x:=by intro _;rfl) :
  iO X F (.Assign [.Name y py] (.ListComp elt [⟨BL,iter,ifs,0⟩] scope Ba) pos) (G1 i (Ej nl caps mi set mt D3)):=by
 refine Cf.imp (t:=Kl (Ie F (Ej nl caps mi set mt D3)) (H4 i)) ?_ cI;refine jw (nl:=nl) (caps:=caps) (Q:=λt=>Cf X (.Assign [.Name y py] (.ListComp elt [⟨BL,iter,ifs,0⟩] scope Ba) pos) (Kl t (H4 i))) Ag A0 AQ BF he A5 AG λg g1 t1 A1 imp=>?_;exact Cf.imp (pE S AB hN Ao AF A0 g1 t1 A1 OD hs) λBw σ H h=>imp σ H _ h
end
section
variable{X:AX}{F:B5}{e a b c:AN}{es:List AN}{pos p:Pos}{m n:AY}{ma:Ad}
noncomputable def QK:List D->Option (List Bool)
 |[]=>some []
 |.AO b::r=>(QK r).map (b::·)
 |_::_=>none
theorem jj{K:AT}{G:A4}:∀{ds:List D}{xs:List V}{bs:List Bool},AP K G ds xs->QK ds=some bs->xs=bs.map V.AO
 |[],_,_,q,e=>by simp only[AP]at q;subst q;cases e;rfl
 |d::ds,_,bs,q,e=>by
  simp only[AP]at q;obtain⟨v,r,rfl,a,ME⟩:=q;cases d with
  |AO b=>
   simp only[At]at a;subst a;simp only[QK]at e;cases A1:QK ds with
   |none=>rw[A1]at e;cases e
   |some cs=>rw[A1]at e;have B7:b::cs=bs:=Dz e;subst B7;rw[jj ME A1];rfl
  |_=>cases e
theorem qr:∀{bs:List Bool}{us:List U},Vals (bs.map V.AO) us->us=bs.map Ru
 |[],_,r=>by cases r;rfl
 |b::bs,_,r=>by
  cases r with
  |cons A6 AZ=>cases A6;rw[qr AZ];rfl
def uO(AB:X.calm=true)(Qd:X.A.handled=none):G9 X (.builtin "all") (λxs H Q=>∃(p:Z)(bs:List Bool),xs=[.ref p]/\Bb X.K H p (bs.map V.AO)/\Q (.AO (bs.all id)) H):=by
 intro pins s σ H xs us Q I r h;obtain⟨p,bs,rfl,Ac,q⟩:=h;obtain⟨u,rfl,EJ⟩:=vals1 r;cases EJ;obtain⟨its,BZ,pl,Aj⟩:=I.list Ac;have Fy:=qr BZ;refine call_all_walk (fx pl.isList ?_);have LF:p≠s.heap.objs.size:=by obtain⟨o,AE,_⟩:=pl.isList;exact ET (Cv AE)
 refine⟨s.heap.objs.size,_,_,_,_,_,λi=>(bs[i]?).getD true,rfl,Walks.list (prog:=X.prog) (w:=X.w) (A:=X.A.in1) Qd s.heap.objs.size p LF its.toArray,⟨⟨_,F6 _ rfl,rfl,rfl⟩,pl.isList.push _⟩,?_,λh' BW Bh=>?_⟩
 .intro i v s' IC SE hP ao;rw[Fy]at hP;have hP:(bs.map Ru)[i]?=some v:=by simpa using hP
  rw[EH]at hP;cases B7:bs[i]? with
  |none=>rw[B7]at hP;cases hP
  |some b=>rw[B7]at hP;have ev:Ru b=v:=Dz hP;subst ev;dsimp only at ao;rw[B7]at ao;exact K6 ao
 .have TD:(EI its.toArray.size).all (λi=>(bs[i]?).getD true)=bs.all id:=by
    have AF:its.toArray.size=bs.length:=by rw[Fy];simp
    rw[AF,Rm,OM,OM];constructor
    .intro B1 x A5;obtain⟨i,A0,rfl⟩:=List.mem_iff_getElem.mp A5;have:=B1 i (List.mem_range.mpr A0);rw[C5 A0]at this;exact this
    .intro B1 i A0;have A0:=List.mem_range.mp A0;rw[C5 A0];exact B1 _ (JU A0)
  rw[TD];exact⟨.AO _,H,I.kept (t':=BW) λb o A7=>Bh b o (by
   intro z;have z:b=s.heap.objs.size:=by simpa using z
   exact absurd (Cv A7) (by rw[z];exact IK _)) (Cr _ A7),rfl,q⟩
def Db:List D->R D
 |[.lst ds]=>match QK ds with|some bs=>.ok (.AO (bs.all id))|none=>.bad
 |_=>.bad
def abp:NY F (λxs H Q=>∃(p:Z)(bs:List Bool),xs=[.ref p]/\Bb X.K H p (bs.map V.AO)/\Q (.AO (bs.all id)) H) Db:=by
 intro σ ρ G H xs ds Q r al k;unfold Db at k
 split at k
 .rename_i ds
  split at k
  .rename_i bs B7;obtain⟨v,rfl,Au⟩:=al.one;simp only[At]at Au;obtain⟨q,xs,rfl,Ac,EY⟩:=Au;have:=jj EY B7;subst this;exact⟨q,bs,rfl,Bb.of (r.AJ.sub _ _ Ac),k _ H G r (Bn.refl _ _) (by simp only[At])⟩
  .exact k.elim
 .exact k.elim
end
section
variable{X:AX}{F:B5}{e a b c:AN}{es:List AN}{pos p:Pos}{m n:AY}{ma:Ad}
noncomputable def ownAt(i:Nat)(ρ:A8):R (List D):=match ρ[i]? with
 |some (.ob (.lst ds))=>.ok ds
 |_=>.bad
def Lp(i:Nat)(m:AY):B6:=λρ=>(ownAt i ρ).bind λds=>(m ρ).bind λd=>if ds.length<1000000 then .ok (.BK (ρ.set i (.BQ (ds++[d]))))else .bad
end
abbrev Lz(K:AT)(n:Nat)(mf:List D->R Bf):IE:=Oo K n (λ_ _ _=>False) mf
structure Dr(P:BR)(w:BA)(K:AT)(AA:Str->Option U)(base:Aq)(x:Str)(n k:Nat)(mf:List D->R Bf):Prop where
 ex:∃(f:Z)(fd:FH)(ps:List Str),ps.length=n/\Fu P w K AA base FJ k f fd ps (Lz K n mf)/\AA x=some (.ref f)/\IM K (.ref f)=true/\Binds K fd ps []
section
variable{X:AX}{F:B5}{e:AN}{es:List AN}{pos p:Pos}{ma:Ad}{x:Str}{n k:Nat}{mf:List D->R Bf}
end
structure D1(K:AT)(AA:Str->Option U)(x:Str)(st:BG)(ps:List Str):Prop where
 ex:∃(f:Z)(fd:FH),M7 K x x st f fd/\AA x=some (.ref f)/\Binds K fd ps []
def v5{P:BR}{w:BA}{K:AT}{AA:Str->Option U}{base:Aq}{x:Str}{st:BG}{N ps:List Str}{k:Nat}{m:B6}(d:D1 K AA x st ps)(S:C2 N ps (BP st))(h:∀(f:Z)(BV:U)(A:Bk)(outer:List Env)(s:AD)(H:A4)(E:CS),Bz k (A.deeper (K4 x (BP st) s.heap.objs.size f BV))->∀BD Ak,iq (EE FJ P w K AA base N x (BP st) f BV A outer s H E).Fn (Cw K BD Ak) (FA st) m) :
  Dr P w K AA base x ps.length (k+1) (Cx N.length m):=by
 obtain⟨f,fd,fn,hm,J⟩:=d.ex;refine⟨f,fd,ps,rfl,fn.ok S ZA λBV A outer s H vs Q E AS hs=>?_,hm,fn.AJ,J⟩;obtain⟨G,BF⟩:=Xd hs;exact⟨_,h f BV A outer s H E AS G H,BF⟩
def uX{K:AT}{h:Aq}{AA:Str->Option U}{x:Str}{st:BG}{ps:List Str}{f:Z}{F3:U}{DN an:Option Z}{Lu:Array (Option U)}{Cu doc pm BV C_:U}(X:K.In h)(G:h.Ns DQ AA)(a:El K DQ x=some (some (.ref f)))(l:K.lookup f=some ⟨F3,DN,.func (Im x x (KW st) (FA st) (BP st) .none Cu doc pm an BV C_),Lu⟩)(c:OJ K BV x=true)(k:IM K (.ref f)=true)(b:∀(Cu doc pm:U)(an:Option Z)(BV C_:U)(us:List U),us.length=ps.length->Rw (Im x x (KW st) (FA st) (BP st) .none Cu doc pm an BV C_) ⟨us,[]⟩=pure (ps.zip us)):D1 K AA x st ps:=
 ⟨f,_,QY (st:=st) l c k,Kq X G a,(QY (st:=st) l c k).binds b⟩
def zW{K:AT}{mf:List D->R Bf}{H:A4}{a:Z}{ns:List Int}(J8:Bb K H a (ns.map V.int))(h:mf [.Cd (ns.map .int)]=.ok (.v (.AO true)))(E:CS):Lz K 1 mf [.ref a] H (λv _=>v=.AO true) E:=by
 refine⟨H,[.Cd (ns.map .int)],Sub.refl _,.cons ?_ .nil,rfl,?_⟩
 .simp only[At];refine⟨a,_,rfl,J8,?_⟩;induction ns with
  |nil=>exact .nil
  |cons n r Bg=>exact .cons (by simp only[At]) (n6 r)
 .rw[h];intro v G' H' _ Au;simp only[At]at Au;exact Au
where
 n6 {K:AT} {H:A4}:∀r:List Int,AP K H (r.map .int) (r.map V.int)
  |[]=>.nil
  |n::r=>.cons (by simp only[At]) (n6 r)
section
variable{X:AX}{F:B5}{e a b c BL iter elt:AN}{es:List AN}{pos p:Pos}{m n:AY}{ma:Ad}{scope:DT}{N:List Str}
structure Oa(X:AX)(scope:DT)(N:List Str)(BL:AN)(set:D->A8->R A8):Prop where
 g:U_ X scope N BL set
 BK:∀d ρ c,set d ρ≠.exc c
 AJ:Keeps set
def sW(i:Nat){x:Str}(hN:N.Nodup:=by decide+kernel)(A0:N[i]?=some x:=by rfl)(AF:(KC scope X.env).names.lookup x=some .local:=by rfl):Oa X scope N (.Name x pos) (B_ i):=
 ⟨ji (g:=H4 i) (λcl C s H Ae=>Vq (X:=E_ X scope N cl C s H Ae) hN A0 (.inl AF) (.inr AF)) λF _=>Yr i,Z9 i,Z8 i⟩
def sX(i j:Nat){x y:Str}{D5 py:Pos}{k:Nat}(AB:X.calm=true:=by rfl)(hN:N.Nodup:=by decide+kernel)(A0:N[i]?=some x:=by rfl)(BO:N[j]?=some y:=by rfl)(AF:(KC scope X.env).names.lookup x=some .local:=by rfl)(hm:(KC scope X.env).names.lookup y=some .local:=by rfl) :
  Oa X scope N (.Tuple [.Name x D5,.Name y py] k pos) (G8 [B_ i,B_ j]):=by
 refine⟨ji (g:=Yq X.K 2 (UY (H4 i) (UY (H4 j) Yo))) (λcl C s H Ae=>?_) (λF N3=>?_),ph ?_,pg ?_⟩
 .exact p2 (X:=E_ X scope N cl C s H Ae) AB (dQ (Vq (X:=E_ X scope N cl C s H Ae) hN A0 (.inl AF) (.inr AF)) (dQ (Vq (X:=E_ X scope N cl C s H Ae) hN BO (.inl hm) (.inr hm)) p3 rfl) rfl) rfl rfl
 .rw[<-N3];exact m8 rfl (ah (Yr i) (ah (Yr j) m7))
 .intro f hf;rcases List.mem_cons.mp hf with rfl|hf
  .exact Z9 i
  .rw[List.mem_singleton.mp hf];exact Z9 j
 .intro f hf;rcases List.mem_cons.mp hf with rfl|hf
  .exact Z8 i
  .rw[List.mem_singleton.mp hf];exact Z8 j
def aaM(nl:Nat)(caps:List Nat){ifs:List AN}{mi:Ad}{set:D->A8->R A8}{mt:C7}{D3:AY}(S:O1 X.env.scope X.N scope N nl caps=true)(A0:SG X F BL iter mi)(AQ:Oa X scope N BL set)(BF:Ma X scope N ifs mt)(he:UZ X scope N elt D3)(AB:X.calm=true:=by rfl)(Ag:F.K=X.K:=by rfl)(hs:∀x,JS iter X.env x=pure x:=by intro _;rfl):iv X F (.ListComp elt [⟨BL,iter,ifs,0⟩] scope pos) (Ej nl caps mi set mt D3):=
 aaL (.of S) A0 AQ.g AQ.BK AQ.AJ BF he AB Ag hs
def ae8(i:Nat)(nl:Nat)(caps:List Nat){y:Str}{py:Pos}{ifs:List AN}{mi:Ad}{set:D->A8->R A8}{mt:C7}{D3:AY}{Ba:Pos}(hN:X.N.Nodup)(S:O1 X.env.scope X.N scope N nl caps=true)(A0:SG X F BL iter mi)(AQ:Oa X scope N BL set)(BF:Ma X scope N ifs mt)(he:UZ X scope N elt D3)(Ao:X.N[i]?=some y:=by rfl)(AF:X.env.kindOf y=some .local:=by rfl)(OD:Kw (.ListComp elt [⟨BL,iter,ifs,0⟩] scope Ba) (some (.Name y py)) pos.line X.env=pure true:=by rfl)(AB:X.calm=true:=by rfl)(Ag:F.K=X.K:=by rfl)(hs:∀x,JS iter X.env x=pure x:=by intro _;rfl) :
  iO X F (.Assign [.Name y py] (.ListComp elt [⟨BL,iter,ifs,0⟩] scope Ba) pos) (G1 i (Ej nl caps mi set mt D3)):=
 ae7 i hN (.of S) A0 AQ.g AQ.BK AQ.AJ BF he Ao AF OD AB Ag hs
def R7(i:Nat)(a:Ad):B6:=λρ=>((G1 i a) ρ).bind λf=>match f with
 |.BK B9=>.ok (.BK (L9 i B9))
 |f=>.ok f
end
def qf{K:AT}{c:Z}{dd:Option Z}{its:Array U}{n:Nat}{BY:Array (Option U)}{xs:List V}{ds:List D}(l:K.lookup c=some ⟨.type "tuple",dd,.seq its n,BY⟩)(Aj:its.size<=CH)(v:Vals xs its.toList)(a:∀G,AP K G ds xs) :
  ∀G,At K G (.EQ ds) (.ref c):=λG=>by
 simp only[At];exact⟨c,xs,rfl,.inr ⟨_,its,n,l,rfl,rfl,Aj,v⟩,a G⟩
def Oi(i:Int)(t:Tok):RelV (.int i) (.int i t):=⟨t,rfl⟩
def dj(x:Str)(t:Tok):RelV (.str x) (.str x t):=⟨t,rfl⟩
def OR{K:AT}{G:A4}(i:Int):At K G (.int i) (.int i):=by simp only[At]
def gL{K:AT}{G:A4}(i:Str):At K G (.str i) (.str i):=by simp only[At]
structure Ax(X:AX)(F:B5)(e:AN)(m:AY):Prop where
 o:Al X e (CN F m)
structure J1(X:AX)(F:B5)(e:AN)(m:Ad):Prop where
 o:Al X e (Ie F m)
structure FN(X:AX)(F:B5)(e:AN)(m:C7):Prop where
 o:F0 X e (Fp F m)
structure Qt(X:AX)(F:B5)(e:AN)(m:C7):Prop where
 o:Ix X e (Fp F m)
structure Ew(X:AX)(F:B5)(es:List AN)(m:Ad):Prop where
 o:F8 X es (EL F m)
structure ED(X:AX)(F:B5)(st:BG)(m:B6):Prop where
 o:Cf X st (EM F m)
structure IF(X:AX)(F:B5)(st:List BG)(m:B6):Prop where
 o:FU X st (EM F m)
structure MC(X:AX)(F:B5)(BL e:AN)(m:Ad):Prop where
 o:Fv X BL e (Jq F m)
structure SM(X:AX)(F:B5)(e:Option AN)(m:MT):Prop where
 o:UG X e (W7 F m)
section
variable{X:AX}{F:B5}{e a b c BL iter elt:AN}{es:List AN}{pos p:Pos}{m n:AY}{ma:Ad}{st:BG}{RR:List BG}
def agn(i:Nat){x:Str}(hN:X.N[i]?=some x:=by rfl)(Az:Gx X.env.scope x:=by first|exact DX rfl|exact CY (DX rfl)|exact CY (CY rfl))(hd:(x==("__debug__" :Str))=false:=by decide)(Dh:(x==("__classdict__" :Str))=false:=by decide):Ax X F (.Name x pos) (A3 i):=⟨Al.imp (HG hN Az hd Dh) (y0 i)⟩
def ahA{i:Int}{j}:Ax X F (.Constant (.int i) j pos) (AM (.int i)):=⟨Al.imp ZU (VX λ_=>by simp only[At])⟩
def agp{i:Bool}{j}:Ax X F (.Constant (.bool i) j pos) (AM (.AO i)):=⟨Al.imp ab_ (VX λ_=>by simp only[At])⟩
def agg{i:Str}{j}:Ax X F (.Constant (.str i) j pos) (AM (.str i)):=⟨Al.imp dP (VX λ_=>by simp only[At])⟩
def ag_{j}:Ax X F (.Constant .none j pos) (AM .non):=⟨Al.imp abI (VX λ_=>by simp only[At])⟩
def afK:Ew X F [] AL:=⟨F8.imp LO n4⟩
def afJ{m:AY}{r:Ad}(h:Ax X F e m)(t:Ew X F es r)(hs:notStar e=true:=by rfl):Ew X F (e::es) (A9 m r):=⟨have h:=h.1;have t:=t.1;F8.imp (Jl h t (pQ e es X.env hs)) w_⟩
def agl{k}{m:Ad}(h:Ew X F es m):Ax X F (.Tuple es k pos) (D8 m):=⟨have h:=h.1;Al.imp (p0 h) xw⟩
def ai3{m:Ad}(h:Ew X F es m):J1 X F (.List es pos) (G0 m):=⟨have h:=h.1;Al.imp (abE h) yH⟩
def ah6{m:Ad}(h:J1 X F e m):Ax X F e (FE m):=⟨have h:=h.1;Al.imp h y9⟩
def agq{m:AY}(h:Ax X F e m):Ax X F e (QH m):=⟨have h:=h.1;Al.imp h x4⟩
def ahI{m:C7}(h:FN X F e m):FN X F e (Oy m):=⟨have h:=h.1;F0.imp h wT⟩
def aiN{m:AY}(h:Ax X F e m)(he:∀whole,isTrue e X.env whole=(do let v <-whole;NN e.pos;JW [v] (truthy v)):=by intro _;rfl):FN X F e (Be m):=⟨have h:=h.1;F0.imp (acN h he) YZ⟩
def aiQ{m:C7}(h:FN X F a m):Qt X F (.BoolOp .And [a] pos) m:=⟨have h:=h.1;acT h⟩
def aiU{m:C7}(h:FN X F a m):Qt X F (.BoolOp .Or [a] pos) m:=⟨have h:=h.1;acV h⟩
def aiP{m n:C7}(h:FN X F a m)(k:Qt X F (.BoolOp .And (b::es) pos) n):Qt X F (.BoolOp .And (a::b::es) pos) (QG m n):=⟨have h:=h.1;have k:=k.1;Ix.imp (acS h k) x2⟩
def aiT{m n:C7}(h:FN X F a m)(k:Qt X F (.BoolOp .Or (b::es) pos) n):Qt X F (.BoolOp .Or (a::b::es) pos) (HC m n):=⟨have h:=h.1;have k:=k.1;Ix.imp (acU h k) yP⟩
def aiO{m:C7}(h:Qt X F e m):FN X F e m:=⟨have h:=h.1;Ix.pt h⟩
def aiL{m:C7}(h:FN X F a m):FN X F (.UnaryOp .Not a pos) (En m):=⟨have h:=h.1;F0.imp (acM h) yM⟩
def agb{op}{m:AY}(h:Ax X F a m):Ax X F (.BoolOp op [a] pos) m:=⟨have h:=h.1;abK h⟩
def afo{m n:AY}(h:Ax X F a m)(k:Ax X F (.BoolOp .And (b::es) pos) n):Ax X F (.BoolOp .And (a::b::es) pos) (LL m n):=⟨have h:=h.1;have k:=k.1;Al.imp (abZ h k) x3⟩
def agc{m n:AY}(h:Ax X F a m)(k:Ax X F (.BoolOp .Or (b::es) pos) n):Ax X F (.BoolOp .Or (a::b::es) pos) (VA m n):=⟨have h:=h.1;have k:=k.1;Al.imp (abL h k) yQ⟩
def aga{m:AY}(h:Ax X F a m):Ax X F (.UnaryOp .Not a pos) (Zg m):=⟨have h:=h.1;Al.imp (abJ h) yN⟩
def ah7{k:C7}{m n:AY}(h:FN X F c k)(A2:Ax X F a m)(J:Ax X F b n):Ax X F (.IfExp c a b pos) (Sg k m n):=⟨have h:=h.1;have A2:=A2.1;have J:=J.1;Al.imp (abj h A2 J) yB⟩
def aha:IF X F [] DE:=⟨FU.imp pI yL⟩
def ahT{m n:B6}(h:ED X F st m)(k:IF X F RR n):IF X F (st::RR) (BI m n):=⟨have h:=h.1;have k:=k.1;FU.imp (ZW h k) xn⟩
def ahb{m:B6}(h:ED X F st m):IF X F [st] m:=⟨have h:=h.1;ZX h⟩
def ahV{m:AY}(h:Ax X F e m)(hs:PE e=true:=by rfl):ED X F (.Expr e pos) (V5 m):=⟨have h:=h.1;Cf.imp (Vu h (M1 _ _ _ _ hs)) y3⟩
def ahc{m:AY}(h:Ax X F e m):ED X F (.Return (some e) pos) (CK m):=⟨have h:=h.1;Cf.imp (PG h) xj⟩
def ahe{m:Ad}(h:J1 X F e m):ED X F (.Return (some e) pos) (IZ m):=⟨have h:=h.1;Cf.imp (PG h) xk⟩
def ahg(i:Nat){x:Str}{p:Pos}(hN:X.N[i]?=some x:=by rfl)(Az:Gx X.env.scope x:=by first|exact DX rfl|exact CY (DX rfl)|exact CY (CY rfl))(hd:(x==("__debug__" :Str))=false:=by decide)(Dh:(x==("__classdict__" :Str))=false:=by decide):ED X F (.Return (some (.Name x p)) pos) (IZ (P2 i)):=⟨Cf.imp (PG (HG hN Az hd Dh)) (xl i)⟩
def ah_{k:C7}{m n:B6}{xs ys:List BG}(h:FN X F c k)(A2:IF X F xs m)(J:IF X F ys n):ED X F (.If c xs ys pos) (DA k m n):=⟨have h:=h.1;have A2:=A2.1;have J:=J.1;Cf.imp (pG h A2 J) yC⟩
def ahZ{m:B6}(i:Nat)(h:ED X F st m):ED X F st (V8 i m):=⟨have h:=h.1;Cf.imp h y8⟩
def ahj(i:Nat){x:Str}{p:Pos}{m:AY}(hN:X.N.Nodup)(he:Ax X F e m)(A0:X.N[i]?=some x:=by rfl)(A5:Loc X.env.scope x:=by first|exact DX rfl|exact CY rfl)(hs:PE e=true:=by rfl)(hf:X.fn x=true\/X.env.scope.names.lookup x=some .local:=by first|exact .inl rfl|exact .inr rfl):ED X F (.Assign [.Name x p] e pos) (E8 i m):=⟨have he:=he.1;Cf.imp (SW hN A0 A5 he (M1 _ _ _ _ hs) hf) xo⟩
def ahF(i:Nat){x:Str}{p:Pos}{m:Ad}(hN:X.N.Nodup)(he:J1 X F e m)(A0:X.N[i]?=some x:=by rfl)(A5:Loc X.env.scope x:=by first|exact DX rfl|exact CY rfl)(hs:PE e=true:=by rfl)(hf:X.fn x=true\/X.env.scope.names.lookup x=some .local:=by first|exact .inl rfl|exact .inr rfl):ED X F (.Assign [.Name x p] e pos) (G1 i m):=⟨have he:=he.1;Cf.imp (SW hN A0 A5 he (M1 _ _ _ _ hs) hf) cI⟩
def agi(A2:Ax X F a m)(J:Ax X F b n):Ax X F (.BinOp a .Sub b pos) (AK Op m n):=⟨have A2:=A2.1;have J:=J.1;QT ac7 (WT λ_ _ _=>by simp only[At]) A2 J⟩
def agW(A2:Ax X F a m)(J:Ax X F b n):Ax X F (.BinOp a .Mult b pos) (AK Nk m n):=⟨have A2:=A2.1;have J:=J.1;QT ac4 (ZJ λ_ _ _=>by simp only[At]) A2 J⟩
def ah3(A2:Ax X F a m)(J:Ax X F b n):Ax X F (.BinOp a .FloorDiv b pos) (AK JY m n):=⟨have A2:=A2.1;have J:=J.1;QT nk (ZJ λ_ _ _=>by simp only[At]) A2 J⟩
def agV(A2:Ax X F a m)(J:Ax X F b n):Ax X F (.BinOp a .Mod b pos) (AK Ht m n):=⟨have A2:=A2.1;have J:=J.1;QT nu (ZJ λ_ _ _=>by simp only[At]) A2 J⟩
def agd(A2:Ax X F a m)(J:Ax X F b n):Ax X F (.BinOp a .Pow b pos) (AK dS m n):=⟨have A2:=A2.1;have J:=J.1;QT ac6 (ZJ λ_ _ _=>by simp only[At]) A2 J⟩
def aiJ(A2:Ax X F a m)(J:Ax X F b n):FN X F (.Compare a [.Lt] [b] pos) (Be (AK Ox m n)):=⟨have A2:=A2.1;have J:=J.1;Qu nt (WT λ_ _ _=>by simp only[At]) A2 J (PD _)⟩
def ahM(A2:Ax X F a m)(J:Ax X F b n):FN X F (.Compare a [.Gt] [b] pos) (Be (AK Yu m n)):=⟨have A2:=A2.1;have J:=J.1;Qu ac3 (WT λ_ _ _=>by simp only[At]) A2 J (PD _)⟩
def agY(A2:Ax X F a m):Ax X F (.UnaryOp .USub a pos) (DZ ZD m):=⟨have A2:=A2.1;ud agA (λσ ρ G H x Av Q r BU k=>by
 unfold ZD at k
 split at k
 .rename_i i;simp only[At]at BU;exact⟨i,BU,k _ H G r (Bn.refl _ _) (by simp only[At])⟩
 .exact k.elim) A2⟩
def afN(A2:Ax X F a m)(J:Ax X F b n):Ax X F (.BinOp a .Add b pos) (AK DY m n):=⟨have A2:=A2.1;have J:=J.1;QT (ng.or (nh.or ni)) nX A2 J⟩
def ahL(B0:X.A.units+64<Ce)(A2:Ax X F a m)(J:Ax X F b n)(Ag:F.K=X.K:=by rfl):FN X F (.Compare a [.Eq] [b] pos) (Be (AK (Ct true) m n)):=⟨have A2:=A2.1;have J:=J.1;Qu (nj Ag B0) (ZI true) A2 J (PD _)⟩
def aiK(B0:X.A.units+64<Ce)(A2:Ax X F a m)(J:Ax X F b n)(Ag:F.K=X.K:=by rfl):FN X F (.Compare a [.NotEq] [b] pos) (Be (AK (Ct false) m n)):=⟨have A2:=A2.1;have J:=J.1;Qu (nv Ag B0) (ZI false) A2 J (PD _)⟩
def ah1(B0:X.A.units+64<Ce)(A2:Ax X F a m)(J:Ax X F b n)(Ag:F.K=X.K:=by rfl):Ax X F (.Compare a [.Eq] [b] pos) (AK (Ct true) m n):=⟨have A2:=A2.1;have J:=J.1;Xm (nj Ag B0) (ZI true) A2 J (PD _)⟩
def agX(B0:X.A.units+64<Ce)(A2:Ax X F a m)(J:Ax X F b n)(Ag:F.K=X.K:=by rfl):Ax X F (.Compare a [.NotEq] [b] pos) (AK (Ct false) m n):=⟨have A2:=A2.1;have J:=J.1;Xm (nv Ag B0) (ZI false) A2 J (PD _)⟩
def ahm(B0:X.A.units+64<Ce)(A2:Ax X F a m)(J:Ax X F b n)(Ag:F.K=X.K:=by rfl)(hm:I0 .In b=false:=by with_unfolding_all rfl):FN X F (.Compare a [.In] [b] pos) (Be (AK (inD true) m n)):=⟨have A2:=A2.1;have J:=J.1;Qu (nq Ag B0) (bb true) A2 J hm⟩
def aiM(B0:X.A.units+64<Ce)(A2:Ax X F a m)(J:Ax X F b n)(Ag:F.K=X.K:=by rfl)(hm:I0 .NotIn b=false:=by with_unfolding_all rfl):FN X F (.Compare a [.NotIn] [b] pos) (Be (AK (inD false) m n)):=⟨have A2:=A2.1;have J:=J.1;Qu (ac5 Ag B0) (bb false) A2 J hm⟩
def ah8(B0:X.A.units+64<Ce)(A2:Ax X F a m)(J:Ax X F b n)(Ag:F.K=X.K:=by rfl)(hm:I0 .In b=false:=by with_unfolding_all rfl):Ax X F (.Compare a [.In] [b] pos) (AK (inD true) m n):=⟨have A2:=A2.1;have J:=J.1;Xm (nq Ag B0) (bb true) A2 J hm⟩
def aiI(A2:Ax X F a m)(J:Ax X F b n):FN X F (.Compare a [.Is] [b] pos) (Be (AK (JA true) m n)):=⟨have A2:=A2.1;have J:=J.1;Qu nr (λσ ρ G H x y Av FC Q r BU CJ k=>by
 unfold JA at k
 split at k
 .simp only[At]at CJ;rw[nA BU]at k;exact⟨CJ,k _ H G r (Bn.refl _ _) (by simp only[At];rfl)⟩
 .exact k.elim) A2 J (PD _)⟩
def ahB(A2:Ax X F a m)(J:Ax X F b n):Ax X F (.Compare a [.Is] [b] pos) (AK (JA true) m n):=⟨have A2:=A2.1;have J:=J.1;Xm nr (λσ ρ G H x y Av FC Q r BU CJ k=>by
 unfold JA at k
 split at k
 .simp only[At]at CJ;rw[nA BU]at k;exact⟨CJ,k _ H G r (Bn.refl _ _) (by simp only[At];rfl)⟩
 .exact k.elim) A2 J (PD _)⟩
def agx{op JH:KG}{r B2:EO}{f g:D->D->R D}{l:AY}(AE:Ds X (Fk op) r)(Dy:Ds X (Fk JH) B2)(hf:GX F r f)(AQ:GX F B2 g)(A2:Ax X F a m)(J:Ax X F b n)(AB:Ax X F c l)(hm:lastMarks [op,JH] [b,c]=false:=by with_unfolding_all rfl):Ax X F (.Compare a [op,JH] [b,c] pos) (Nf f g m n l):=⟨have A2:=A2.1;have J:=J.1;have AB:=AB.1;Al.imp (abb AE Dy A2 J AB hm) (n1 hf AQ)⟩
def r3{op JH:KG}{r B2:EO}{f g:D->D->R D}{l:AY}(AE:Ds X (Fk op) r)(Dy:Ds X (Fk JH) B2)(hf:GX F r f)(AQ:GX F B2 g)(A2:Ax X F a m)(J:Ax X F b n)(AB:Ax X F c l)(hm:lastMarks [op,JH] [b,c]=false:=by with_unfolding_all rfl):FN X F (.Compare a [op,JH] [b,c] pos) (Be (Nf f g m n l)):=⟨have A2:=A2.1;have J:=J.1;have AB:=AB.1;F0.imp (adB AE Dy A2 J AB hm) λσ H Q h=>by obtain⟨G,ρ,r,k⟩:=mx (F:=F) (m:=Nf f g m n l) σ H Q h;exact n1 hf AQ σ H _ ⟨G,ρ,r,k⟩⟩
def agQ(hm:X.AA "len"=none)(A2:Ew X F [e] ma)(Ag:F.K=X.K:=by rfl)(AQ:DK X "len":=by rfl)(he:Aw [e] X.env=(false,BC e X.env)::Aw [] X.env:=by rfl)(D0:(CW pos (Aw [] X.env)).any (·.1)=false:=by rfl):Ax X F (.Call (.Name "len" p) [e] [] pos) (Cg Di ma):=⟨have A2:=A2.1;bA ta (abt Ag) hm PySem.boot_len A2 AQ (by decide) (by decide) he D0⟩
def W8{Ev:Str}{T:String}{CB:Pos}(tt:Qs X.K T)(hm:X.AA "isinstance"=none)(xC:X.AA Ev=none)(vj:Kv Ev=some (.type T))(A2:Ax X F a m)(Ag:F.K=X.K:=by rfl)(AQ:DK X "isinstance":=by rfl)(vS:DK X Ev:=by rfl)(xF:Ev≠"__name__":=by decide)(vr:(Ev==("__debug__" :Str))=false:=by decide)(HZ:Aw [.Name Ev CB] X.env=(false,BC (.Name Ev CB) X.env)::Aw [] X.env:=by rfl)(he:Aw [a,.Name Ev CB] X.env=(false,BC a X.env)::Aw [.Name Ev CB] X.env:=by rfl)(D0:(CW pos (Aw [.Name Ev CB] X.env)).any (·.1)=false:=by rfl):Ax X F (.Call (.Name "isinstance" p) [a,.Name Ev CB] [] pos) (DZ (JB T) m):=⟨by
 have A2:=A2.1;have J:Kv "isinstance"=some (.builtin "isinstance"):=by kernel_rfl
 refine Al.imp (Vo (t_ Ag tt) AQ hm J (Jl A2 (Jl (aba vS xC vj (v:=.ty T) rfl xF vr) LO HZ) he) (by decide) (by decide) he D0) ?_;rintro σ H Q ⟨G,ρ,r,h⟩;unfold DZ at h;refine⟨G,ρ,r,?_⟩;refine rb h λd Aa h x H1 AV A6 s1 BU=>?_;unfold JB at h;cases e:Ve d with
 |none=>rw[e]at h;cases h
 |some UJ=>rw[e]at h;exact⟨AV,d,x,UJ,A6.AJ.sub,rfl,BU,e,h _ H1 AV A6 s1 (by simp only[At])⟩⟩
def ahC(A2:Ax X F a m)(J:Ax X F b n)(hs:UH b)(Ag:F.K=X.K:=by rfl):Ax X F (.Subscript a b pos) (AK Ah m n):=⟨have A2:=A2.1;have J:=J.1;Al.imp (Vp Us A2 J hs) (Y_ (nY Ag))⟩
def ai6:SM X F none IY:=⟨λpins s σ H Q I h=>by obtain⟨G,ρ,r,k⟩:=h;exact ad1 pins s σ H Q I (k H G r (Bn.refl _ _))⟩
def ai7(h:Ax X F e m):SM X F (some e) (HD m):=⟨have h:=h.1;λpins s σ H Q I hw=>by
 obtain⟨G,ρ,r,k⟩:=hw;refine ad2 h pins s σ H Q I ⟨G,ρ,r,?_⟩;unfold HD at k;refine rb k λd Aa k x H1 AV A6 s1 BU=>?_;cases d with
 |int i=>simp only[At]at BU;exact⟨i,BU,k H1 AV A6 s1⟩
 |_=>exact k.elim⟩
def age{lo A0:Option AN}{CB:Pos}{WK WJ:MT}(A2:Ax X F a m)(AF:SM X F lo WK)(B1:SM X F A0 WJ)(Ag:F.K=X.K:=by rfl):Ax X F (.Subscript a (.Slice lo A0 none CB) pos) (GR Fj m WK WJ):=⟨have A2:=A2.1;have AF:=AF.1;have B1:=B1.1;Al.imp (nx (aex.or aey) A2 AF B1) (xr Ag)⟩
def agh(hm:X.AA "str"=none)(A2:Ew X F [e] ma)(AQ:DK X "str":=by rfl)(he:Aw [e] X.env=(false,BC e X.env)::Aw [] X.env:=by rfl)(D0:(CW pos (Aw [] X.env)).any (·.1)=false:=by rfl):Ax X F (.Call (.Name "str" p) [e] [] pos) (Cg T3 ma):=⟨have A2:=A2.1;bB tk abv hm (by kernel_rfl) A2 AQ (by decide) (by decide) he D0⟩
def aiS(h:Ax X F e m)(Ag:F.K=X.K:=by rfl):MC X F BL e (Hs m):=⟨have h:=h.1;Fv.imp (aco h) (by rw[<-Ag];exact yF)⟩
def aiX(h:Ax X F e m)(Ag:F.K=X.K:=by rfl):MC X F BL e (Zd m):=⟨have h:=h.1;Fv.imp (acq h) (by rw[<-Ag];exact xy)⟩
def aiW(h:Ax X F e m):MC X F BL e (Sf m):=⟨have h:=h.1;Fv.imp (acp h) xu⟩
def aiV(hm:X.AA "range"=none)(A2:Ew X F [a] ma)(AQ:DK X "range":=by rfl)(hs:Aw [a] X.env=[(false,BC a X.env)]:=by rfl):MC X F BL (.Call (.Name "range" p) [a] [] pos) (Gp ma):=⟨have A2:=A2.1;Fv.imp (p5 AQ hm A2 hs) xh⟩
def aiR{elts:List AN}{k:Nat}{eJ:Pos}(hm:X.AA "enumerate"=none)(A2:Ew X F [a] ma)(Ag:F.K=X.K:=by rfl)(AQ:DK X "enumerate":=by rfl)(hs:Aw [a] X.env=[(false,BC a X.env)]:=by rfl):MC X F (.Tuple elts k eJ) (.Call (.Name "enumerate" p) [a] [] pos) (P0 ma):=⟨have A2:=A2.1;Fv.imp (acn AQ hm A2 hs) (y5 Ag)⟩
def aiY{elts:List AN}{k:Nat}{eJ:Pos}(hm:X.AA "zip"=none)(A2:Ew X F [a,b] ma)(Ag:F.K=X.K:=by rfl)(AQ:DK X "zip":=by rfl)(hs:Aw [a,b] X.env=[(false,BC a X.env),(false,BC b X.env)]:=by rfl)(HZ:Aw [b] X.env=[(false,BC b X.env)]:=by rfl):MC X F (.Tuple elts k eJ) (.Call (.Name "zip" p) [a,b] [] pos) (Ze ma):=⟨have A2:=A2.1;Fv.imp (acr AQ hm A2 hs HZ) (xW Ag)⟩
def ahX{body:List BG}{mi:Ad}{set:D->A8->R A8}{Eo:B6}(AW:U1 (Ai X.prog X.w) X.A X.env X.xe)(A0:MC X F BL iter mi)(AQ:GM X BL set)(J:IF X F body Eo)(AB:X.calm=true:=by rfl)(Ag:F.K=X.K:=by rfl)(hs:∀x,JS iter X.env x=pure x:=by intro _;rfl):ED X F (.For BL iter body [] pos) (Eb mi set Eo):=⟨by
 have A0:=A0.1;have J:=J.1;obtain⟨⟨g,h1,h2⟩,h3,_⟩:=AQ;exact Cf.imp (pF AW AB A0 h1 J hs) (y6 (h2 F Ag) h3)⟩
def ahE{st:BG}{i:Nat}{a:Ad}(h:ED X F st (G1 i a)):ED X F st (R7 i a):=⟨have h:=h.1;Cf.imp h λBw σ H⟨G,ρ,r,k⟩=>by
 refine⟨G,ρ,r,?_⟩;unfold R7 at k;refine rb k λf e k=>?_;cases f with
 |BK B9=>intro σ' G' H' B2 s';obtain⟨Bl,AZ,s2⟩:=B2.L9 i;exact k σ' Bl H' AZ (s'.trans s2)
 |DB d=>exact k
 |HI d=>exact k
 |Dw d=>exact k
 |rs d _=>exact k
 |F9 d=>exact k
 |C_ d=>exact k⟩
def afO{k:Nat}(AS:Bz k X.A)(hm:X.AA "all"=none)(A2:Ew X F [e] ma)(AB:X.calm=true:=by rfl)(AQ:DK X "all":=by rfl)(he:Aw [e] X.env=(false,BC e X.env)::Aw [] X.env:=by rfl)(D0:(CW pos (Aw [] X.env)).any (·.1)=false:=by rfl):Ax X F (.Call (.Name "all" p) [e] [] pos) (Cg Db ma):=⟨have A2:=A2.1;bA (uO AB AS.hd) abp hm (by kernel_rfl) A2 AQ (by decide) (by decide) he D0⟩
def ahO (i:Nat) {x:Str} {D5:Pos} {apos:Pos} {Ba:Pos} (he:Ax X F e m) (hN:X.N[i]?=some x:=by rfl) (Az:Gx X.env.scope x:=by first|exact DX rfl|exact CY (DX rfl)|exact CY (CY rfl)) (hd:(x==("__debug__" :Str))=false:=by decide) (Dh:(x==("__classdict__" :Str))=false:=by decide) (HV:Ik (.Name x D5) "append" X.env (BC (.Name x D5) X.env)=BC (.Name x D5) X.env:=by rfl) (HX:(apos.endLine==Ba.line)=true:=by rfl) (HW:((CW Ba (Aw [e] X.env)).all (λx=>!x.1)&&(He Ba (Hd [] X.env)).all (λx=>x.1.isSome)
   &&decide (([e]:List AN).length+([]:List FS).length+(if([]:List FS).isEmpty then 0 else 1)<30))=true:=by rfl) (hs:Aw [e] X.env=(false,BC e X.env)::Aw [] X.env:=by rfl) (HY:(CW Ba (Aw [] X.env)).any (·.1)=false:=by rfl) (Ag:F.K=X.K:=by rfl):ED X F (.Expr (.Call (.Attribute (.Name x D5) "append" apos) [e] [] Ba) pos) (Lp i m):=⟨by
 have he:=he.1;refine Cf.imp (Vu (PF Rb f9 fA Zw (HG hN Az hd Dh) (Jl he LO hs) HV HW HX hs HY) (M1 _ _ _ _ rfl)) ?_;rintro Bw σ H ⟨G,ρ,r,h⟩;unfold Lp ownAt at h;cases CO:ρ[i]? with
 |none=>rw[CO]at h;cases h
 |some s=>
  rw[CO]at h;cases s with
  |un=>cases h
  |AI _=>cases h
  |DF _=>cases h
  |D4 _ _=>cases h
  |ob ob=>
   cases ob with
   |BN _ _=>cases h
   |ins _ _ _=>cases h
   |lst ds=>
    obtain⟨q,xs,A1,h1,h2,h3,h4⟩:=r.own CO;have h:Fi F G Bw ((m ρ).bind λd=>if ds.length<1000000 then .ok (.BK (ρ.set i (.BQ (ds++[d]))))else .bad):=h;refine⟨.ref q,A1,.inl ⟨rfl,xs,Bb.of h1⟩,G,ρ,r,?_⟩;refine rb h λd Aa h v H1 AV A6 s1 Au=>?_;obtain⟨D_,ES,GI,II,PS,TB,Jb⟩:=A6.own CO;rw[A1]at GI;cases GI;by_cases AF:ds.length<1000000
    .rw[if_pos AF]at h;refine⟨q,ES,v,rfl,rfl,II,by rw[<-Jb.length];exact L_ AF (by decide),?_⟩;exact h σ AV _ (A6.mut CO A1 (Jb.snoc Au)) s1.g
    .rw[if_neg AF]at h;exact h.elim⟩
def ags{x:Str}{n k:Nat}{mf:List D->R Bf}(c:Dr X.prog X.w X.K X.AA X.base x n k mf)(AS:Bz k X.A)(A2:Ew X F (e::es) ma)(IR:F.EX=λ_ _=>False:=by rfl)(Ag:F.K=X.K:=by rfl)(AQ:DK X x:=by rfl)(FD:(x==("__debug__" :Str))=false:=by decide)(he:Aw (e::es) X.env=(false,BC e X.env)::Aw es X.env:=by rfl)(D0:(CW pos (Aw es X.env)).any (·.1)=false:=by rfl):Ax X F (.Call (.Name x p) (e::es) [] pos) (Bt n mf ma):=⟨by
 have A2:=A2.1;obtain⟨f,fd,ps,AR,EB,hm,AG,J⟩:=c.ex;refine Al.imp (SU EB AS AQ hm AG J .nil RL A2 FD he D0) ?_;rw[<-Ag];exact mz (xe:=λ_ _ _=>False) (E:=ga) IR⟩
def ahz{x:Str}{n k:Nat}{mf:List D->R Bf}(c:Dr X.prog X.w X.K X.AA X.base x n k mf)(AS:Bz k X.A)(A2:Ew X F (e::es) ma)(IR:F.EX=λ_ _=>False:=by rfl)(Ag:F.K=X.K:=by rfl)(AQ:DK X x:=by rfl)(FD:(x==("__debug__" :Str))=false:=by decide)(he:Aw (e::es) X.env=(false,BC e X.env)::Aw es X.env:=by rfl)(D0:(CW pos (Aw es X.env)).any (·.1)=false:=by rfl):J1 X F (.Call (.Name x p) (e::es) [] pos) (Mf n mf ma):=⟨by
 have A2:=A2.1;obtain⟨f,fd,ps,AR,EB,hm,AG,J⟩:=c.ex;refine Al.imp (SU EB AS AQ hm AG J .nil RL A2 FD he D0) ?_;rw[<-Ag];exact wV (xe:=λ_ _ _=>False) (E:=ga) IR⟩
variable{scope:DT}{N:List Str}
abbrev ip(X:AX)(scope:DT)(N:List Str)(e:AN)(m:AY):Prop:=∀cl C s H Ae BD Ak,Ax (E_ X scope N cl C s H Ae) (Cw X.K BD Ak) e m
noncomputable def L5(sc:DT)(MX:List Str)(nl:Nat)(caps:List Nat):List Str:=((sc.names.drop 1).take nl).map (·.1)++caps.map λj=>MX.getD j ""
def ai0(nl:Nat)(caps:List Nat){ifs:List AN}{mi:Ad}{set:D->A8->R A8}{mt:C7}{D3:AY}(S:O1 X.env.scope X.N scope (L5 scope X.N nl caps) nl caps=true)(A0:MC X F BL iter mi)(AQ:Oa X scope (L5 scope X.N nl caps) BL set)(BF:Ma X scope (L5 scope X.N nl caps) ifs mt)(he:ip X scope (L5 scope X.N nl caps) elt D3)(AB:X.calm=true:=by rfl)(Ag:F.K=X.K:=by rfl)(hs:∀x,JS iter X.env x=pure x:=by intro _;rfl):J1 X F (.ListComp elt [⟨BL,iter,ifs,0⟩] scope pos) (Ej nl caps mi set mt D3):=
 ⟨Cj.aaM nl caps S A0.1 AQ BF (λcl C s H Ae BD Ak=>(he cl C s H Ae BD Ak).1) AB Ag hs⟩
def ahR(i:Nat)(nl:Nat)(caps:List Nat){y:Str}{py:Pos}{ifs:List AN}{mi:Ad}{set:D->A8->R A8}{mt:C7}{D3:AY}{Ba:Pos}(hN:X.N.Nodup)(S:O1 X.env.scope X.N scope (L5 scope X.N nl caps) nl caps=true)(A0:MC X F BL iter mi)(AQ:Oa X scope (L5 scope X.N nl caps) BL set)(BF:Ma X scope (L5 scope X.N nl caps) ifs mt)(he:ip X scope (L5 scope X.N nl caps) elt D3)(Ao:X.N[i]?=some y:=by rfl)(AF:X.env.kindOf y=some .local:=by rfl)(OD:Kw (.ListComp elt [⟨BL,iter,ifs,0⟩] scope Ba) (some (.Name y py)) pos.line X.env=pure true:=by rfl)(AB:X.calm=true:=by rfl)(Ag:F.K=X.K:=by rfl)(hs:∀x,JS iter X.env x=pure x:=by intro _;rfl) :
  ED X F (.Assign [.Name y py] (.ListComp elt [⟨BL,iter,ifs,0⟩] scope Ba) pos) (G1 i (Ej nl caps mi set mt D3)):=
 ⟨Cj.ae8 i nl caps hN S A0.1 AQ BF (λcl C s H Ae BD Ak=>(he cl C s H Ae BD Ak).1) Ao AF OD AB Ag hs⟩
end
def E9(P:BR)(w:BA){K:AT}(AA:Str->Option U)(base:Aq){x:Str}{st:BG}{N ps:List Str}(k:Nat)(m:B6)(d:D1 K AA x st ps)(S:C2 N ps (BP st))(h:∀(f:Z)(BV:U)(A:Bk)(outer:List Env)(s:AD)(H:A4)(E:CS),Bz k (A.deeper (K4 x (BP st) s.heap.objs.size f BV))->∀BD Ak,IF (EE FJ P w K AA base N x (BP st) f BV A outer s H E).Fn (Cw K BD Ak) (FA st) m) :
  Dr P w K AA base x ps.length (k+1) (Cx N.length m):=Cj.v5 d S λf BV A outer s H E AS BD Ak=>(h f BV A outer s H E AS BD Ak).1
structure Qj(K:AT)(AA:Str->Option U)(x:Str)(d:D):Prop where
 ex:∃(v:V)(u:U),AA x=some u/\RelV v u/\∀G,At K G d v
def TZ{X:AX}{F:B5}{x:Str}{d:D}{pos:Pos}(c:Qj X.K X.AA x d)(Ag:F.K=X.K:=by rfl)(AQ:DK X x:=by rfl)(hd:(x==("__debug__" :Str))=false:=by decide):Ax X F (.Name x pos) (AM d):=by obtain⟨v,u,h1,h2,h3⟩:=c.ex;exact⟨Cj.uc h1 h2 (by rw[Ag];exact h3) AQ hd⟩
end Cj
namespace CE
open PySem PySem.Spec PyProof.Rows
section
variable{X:AX}{BL:AN}
def iu(a b c:Int):Prop:=c≠0/\Builtin.Range.small a b c=true/\0<=fB a b c/\Builtin.divisionGoesByPylong (b-a) c=false
instance(a b c:Int):Decidable (iu a b c):=by unfold iu;infer_instance
end
section
variable{X:AX}{a e:AN}{Bo:Et}{pos p pos' JI:Pos}
def rJoin(K:AT):V->List V->A4->Br->Prop:=λx vs H Q=>∃sep p ys,x=.str sep/\vs=[.ref p]/\Bb K H p (ys.map V.str)/\(ys.map (·.length)).sum+ys.length*sep.length<=16777216/\Q (.str (Txt.join sep ys)) H
theorem qt:∀{xs:List V}{us:List U},xs.length=us.length->(∀(i:Nat) x y,xs[i]?=some x->us[i]?=some y->RelV x y)->Vals xs us
 |[],[],_,_=>.nil
 |[],_::_,h,_=>by simp at h
 |_::_,[],h,_=>by simp at h
 |x::xs,u::us,h,f=>.cons (f 0 x u (by simp) (by simp)) (qt (by simpa using h) λi a b A1 A7=>f (i+1) a b (by simpa using A1) (by simpa using A7))
theorem pT:∀{ys:List Str}{its:List U},Vals (ys.map V.str) its->StrsAre its ys
 |[],_,h=>by cases h;exact .nil
 |y::ys,_,h=>by
  cases h with
  |cons r Hw=>obtain⟨t,rfl⟩:=r;exact .cons y t (pT Hw)
def ab0:UB X "str.join" (rJoin X.K):=by intro pins s σ H x vs v us Q I BB BZ h;obtain⟨sep,p,ys,rfl,rfl,Ac,Aj,q⟩:=h;obtain⟨t,rfl⟩:=BB;obtain⟨u,rfl,EJ⟩:=vals1 BZ;cases EJ;obtain⟨its,r,pl,_⟩:=I.list Ac;exact join_list pl.isList (by simpa using pT r) Aj λt' k=>⟨.str _,H,I.tok _,⟨_,rfl⟩,q⟩
def zh{pins:List (Z×Obj)}{σ :St}{H1:A4}{s2:AD}{Q:Br}{r:Z}{j:Int}{t u v:Tok}(Bu:Inv X pins σ H1 s2)(AB:X.calm=true)(AS:IsRange s2.heap r 0 j 1 t u v)(A_: -(2^62)<=j)(B4:j<=1000000)(q:∀l,H1 l=none->Q (.ref l) (upd H1 l (.lst ((EI j.toNat).map λi=>.int (i:Nat))))):AU (Ai X.prog X.w) X.A (call (.type "list") [.ref r]) (Fs X pins σ Q) X.xe s2:=by
 have AR:fB 0 j 1=(j.toNat:Nat):=by rw[rangeSize_one];split<;>lia
 refine call_list_range (Bu.ok.hd AB) AS (small_one (by lia) (by lia) (by lia) (by lia)) AR (by lia) λh' BW YB E1 AJ e it=>?_;obtain⟨acc,rfl⟩:∃l:List U,YB=l.toArray:=⟨YB.toList,by simp⟩;have Az:Vals ((EI j.toNat).map λi=>V.int ((i:Nat):Int)) acc:=by
  have AF:acc.length=j.toNat:=by simpa using it.1
  refine qt ?_ ?_
  .simp[AF]
  .intro i x y A1 A7;rw[EH]at A1;have A0:i<j.toNat:=by rw[<-AF];exact(List.getElem?_eq_some_iff.mp A7).1
   rw[Tk A0]at A1;cases A1;obtain⟨tt,rfl⟩:=it.2 i y (by simpa using A7);exact⟨tt,by simp⟩
 exact⟨.ref _,_,Bu.laid (t':=BW) AJ (By _) (show E5 X.prog X.w _ h' _ (.lst _)from⟨Eg (m:=1000000) (by simp;lia) (by decide),acc,E1,Az,e⟩),rfl,q _ (Bu.BE.fresh (By _))⟩
def aei(Bo:Et):TE:=λσ H Q=>Bo σ H λvs H1=>∃j:Int,vs=[.int j]/\-(2^62)<=j/\j<=1000000/\∀l,H1 l=none->Q (.ref l) (upd H1 l (.lst ((EI j.toNat).map λi=>.int (i:Nat))))
def abk(AQ:DK X "list")(hm:X.AA "list"=none)(Qf:DK X "range")(K_:X.AA "range"=none)(AB:X.calm=true)(A2:F8 X [a] Bo)(hs:Aw [a] X.env=[(false,BC a X.env)]:=by rfl)(HZ:Aw [.Call (.Name "range" JI) [a] [] pos'] X.env=[(false,BC (.Call (.Name "range" JI) [a] [] pos') X.env)]:=by rfl) :
  Al X (.Call (.Name "list" p) [.Call (.Name "range" JI) [a] [] pos'] [] pos) (aei Bo):=by
 intro pins s σ H Q I h;refine Tn (Ov (u:=.type "list") I AQ hm (by kernel_rfl) ?_);refine RT ?_ HZ rfl;rw[HZ];refine Wa ?_;refine Call_ (Ov I Qf K_ boot_range (RT (BS (A2 pos' pins s σ H _ I h) λus s1⟨vs,H1,As,A6,A_⟩=>?_) hs rfl));obtain⟨j,e,A_,B4,q⟩:=A_;subst e;cases A6 with
 |cons r Hw=>cases Hw;obtain⟨t,rfl⟩:=r;refine call_range_1 (Wx ?_);exact zh (As.kept λb o e=>Cr _ e) AB (IsRange.new ..) A_ B4 q
end
end CE
namespace Cj
open PySem PySem.Spec CE
abbrev Cz:=A8->R (D×A8)
abbrev FM:=A8->R (List D×A8)
def Yg(F:B5)(G:A4)(σ :St)(Q:Br):R (D×A8)->Prop
 |.ok (d,B9)=>∀v H' G',Rel F G' H' σ B9->Sub G G'->At F.K G' d v->Q v H'
 |.exc c=>Jg F c
 |.bad=>False
def yb(F:B5)(G:A4)(σ :St)(Q:List V->A4->Prop):R (List D×A8)->Prop
 |.ok (d,B9)=>∀v H' G',Rel F G' H' σ B9->Sub G G'->AP F.K G' d v->Q v H'
 |.exc c=>Jg F c
 |.bad=>False
def JM(F:B5)(m:Cz):TE:=λσ H Q=>∃G ρ,Rel F G H σ ρ/\Yg F G σ Q (m ρ)
def TR(F:B5)(m:FM):Et:=λσ H Q=>∃G ρ,Rel F G H σ ρ/\yb F G σ Q (m ρ)
def lf(m:AY):Cz:=λρ=>(m ρ).bind λd=>.ok (d,ρ)
def Lo(m:Ad):FM:=λρ=>(m ρ).bind λd=>.ok (d,ρ)
section
variable{F:B5}
def yD{m:AY}:Dq (JM F (lf m)) (CN F m):=by
 rintro σ H Q ⟨G,ρ,r,h⟩;refine⟨G,ρ,r,?_⟩;unfold lf at h;cases Aa:m ρ with
 |bad=>rw[Aa]at h;cases h
 |exc c=>rw[Aa]at h;exact h
 |ok d=>rw[Aa]at h;exact λv H' G' B2 u a=>h v H' G' B2 u.g a
def yE{m:Ad}:SH (TR F (Lo m)) (EL F m):=by
 rintro σ H Q ⟨G,ρ,r,h⟩;refine⟨G,ρ,r,?_⟩;unfold Lo at h;cases Aa:m ρ with
 |bad=>rw[Aa]at h;cases h
 |exc c=>rw[Aa]at h;exact h
 |ok d=>rw[Aa]at h;exact λv H' G' B2 u a=>h v H' G' B2 u.g a
def yc{G Bl Ab:A4}{σ :St}{Cq:A8}{Q:Br}(s:Sub G Bl):∀{r:R D},Yg F G σ Q (r.bind λd=>.ok (d,Cq))->Hq F Bl Ab σ Cq Q r
 |.ok d,h=>λv H' G' B2 u a=>h v H' G' B2 (s.trans u.g) a
 |.exc _,h=>h
 |.bad,h=>h
def Lq(f:D->D->R D)(a b:Cz):Cz:=λρ=>(a ρ).bind λx=>(b x.2).bind λy=>(f x.1 y.1).bind λd=>.ok (d,y.2)
def my{r:EO}{f:D->D->R D}{ma Eo:Cz}(AE:GX F r f):Dq (JM F (Lq f ma Eo)) (Mq r (JM F ma) (JM F Eo)):=by
 rintro σ H Q ⟨G,ρ,r,h⟩;unfold Lq at h;refine⟨G,ρ,r,?_⟩;cases Aa:ma ρ with
 |bad=>rw[Aa]at h;cases h
 |exc c=>rw[Aa]at h;exact h
 |ok x=>
  obtain⟨Av,ρ1⟩:=x;rw[Aa,R.DH]at h;intro x H1 AV A6 s1 BU;refine⟨AV,ρ1,A6,?_⟩;cases B7:Eo ρ1 with
  |bad=>simp only[B7]at h;cases h
  |exc c=>simp only[B7]at h;exact h
  |ok y=>obtain⟨FC,Cq⟩:=y;simp only[B7,R.DH]at h;intro y Ab Bl AZ s2 CJ;exact AE σ Cq Bl Ab x y Av FC Q AZ (BU.mono s2) CJ (yc (s1.trans s2) h)
def IW(a:Cz)(r:FM):FM:=λρ=>(a ρ).bind λx=>(r x.2).bind λy=>.ok (x.1::y.1,y.2)
def wa{ma:Cz}{PA:FM}:SH (TR F (IW ma PA)) (aB (JM F ma) (TR F PA)):=by
 rintro σ H Q ⟨G,ρ,r,h⟩;unfold IW at h;refine⟨G,ρ,r,?_⟩;cases Aa:ma ρ with
 |bad=>rw[Aa]at h;cases h
 |exc c=>rw[Aa]at h;exact h
 |ok x=>
  obtain⟨Av,ρ1⟩:=x;rw[Aa,R.DH]at h;intro x H1 AV A6 s1 BU;refine⟨AV,ρ1,A6,?_⟩;cases B7:PA ρ1 with
  |bad=>simp only[B7]at h;cases h
  |exc c=>simp only[B7]at h;exact h
  |ok y=>obtain⟨FC,Cq⟩:=y;simp only[B7,R.DH]at h;intro y Ab Bl AZ s2 CJ;exact h (x::y) Ab Bl AZ (s1.trans s2) (.cons (BU.mono s2) CJ)
def P1(m:FM):Cz:=λρ=>(m ρ).bind λx=>if x.1.length<=1000000 then .ok (.tup x.1,x.2)else .bad
def xx{m:FM}:Dq (JM F (P1 m)) (eC (TR F m)):=by
 rintro σ H Q ⟨G,ρ,r,h⟩;unfold P1 at h;refine⟨G,ρ,r,?_⟩;cases Aa:m ρ with
 |bad=>rw[Aa]at h;cases h
 |exc c=>rw[Aa]at h;exact h
 |ok x=>
  obtain⟨ds,ρ1⟩:=x;rw[Aa,R.DH]at h;intro vs H1 AV A6 s1 a;by_cases AF:ds.length<=1000000
  .simp only[if_pos AF]at h;refine⟨by rw[<-a.length];exact Eg AF (by decide),λp AW=>?_⟩;refine h (.ref p) _ _ (A6.lay AW) (s1.trans (Sub.upd (A6.AJ.sub.gone AW))) ?_;simp only[At];exact⟨p,vs,rfl,DO,a.mono (Sub.upd (A6.AJ.sub.gone AW))⟩
  .simp only[if_neg AF]at h;cases h
def R6(i:Nat)(a:Cz):B6:=λρ=>(a ρ).bind λx=>(B_ i x.1 x.2).bind λB9=>.ok (.BK B9)
def xp{i:Nat}{a:Cz}:GB (EM F (R6 i a)) (Kl (JM F a) (H4 i)):=by
 rintro Bw σ H ⟨G,ρ,r,h⟩;unfold R6 B_ at h;refine⟨G,ρ,r,?_⟩;cases Aa:a ρ with
 |bad=>rw[Aa]at h;cases h
 |exc c=>rw[Aa]at h;exact h
 |ok x=>
  obtain⟨d,ρ1⟩:=x;rw[Aa,R.DH]at h;intro v H1 AV A6 s1 Au;by_cases A0:i<ρ1.length
  .simp only[if_pos A0]at h;exact h _ AV H1 (A6.set A0 Au) s1
  .simp only[if_neg A0]at h;cases h
def V6(a:Cz):B6:=λρ=>(a ρ).bind λx=>.ok (.BK x.2)
def y4{a:Cz}:GB (EM F (V6 a)) (e5 (JM F a)):=by
 rintro Bw σ H ⟨G,ρ,r,h⟩;unfold V6 at h;refine⟨G,ρ,r,?_⟩;cases Aa:a ρ with
 |bad=>rw[Aa]at h;cases h
 |exc c=>rw[Aa]at h;exact h
 |ok x=>obtain⟨d,ρ1⟩:=x;rw[Aa]at h;exact λv H' G' B2 s' _=>h σ G' H' B2 s'
def yd(F:B5)(G:A4)(σ :St)(Q:It->A4->Prop):R (List D×A8)->Prop
 |.ok (ds,B9)=>∀Bp H' G',Rel F G' H' σ B9->Sub G G'->KH F.K Bp ds G'->Q Bp H'
 |.exc c=>Jg F c
 |.bad=>False
def e7(F:B5)(m:FM):TI:=λσ H Q=>∃G ρ,Rel F G H σ ρ/\yd F G σ Q (m ρ)
def R5(m:FM):FM:=λρ=>(m ρ).bind λx=>(PJ x.1).bind λds=>.ok (ds,x.2)
def Ng(mi:FM)(set:D->A8->R A8)(body:B6):B6:=λρ=>(mi ρ).bind λx=>H3 set body x.1 x.2
end
section
variable{F:B5}
def xi{m:FM}:Oc (e7 F (R5 m)) (cH (TR F m)):=by
 rintro σ H Q ⟨G,ρ,r,h⟩;unfold R5 at h;refine⟨G,ρ,r,?_⟩;cases Aa:m ρ with
 |bad=>rw[Aa]at h;cases h
 |exc c=>rw[Aa]at h;exact h
 |ok x=>
  obtain⟨ds,ρ1⟩:=x;rw[Aa,R.DH]at h;intro vs H1 AV A6 s1 a;unfold PJ at h;simp only at h
  split at h
  .rename_i j
   split at h
   .rename_i BO;exact⟨j,a.ints1,BO.1,BO.2,h _ H1 AV A6 s1 (nE 0 j.toNat)⟩
   .exact h.elim
  .exact h.elim
def y7{mi:FM}{set:D->A8->R A8}{body:B6}{g:HQ}(AQ:MR F g set)(A5:∀d ρ c,set d ρ≠.exc c):GB (EM F (Ng mi set body)) (e6 (e7 F mi) g (EM F body)):=by
 rintro Bw σ H ⟨G,ρ,r,h⟩;unfold Ng at h;refine⟨G,ρ,r,?_⟩;cases Aa:mi ρ with
 |bad=>rw[Aa]at h;cases h
 |exc c=>rw[Aa]at h;exact h
 |ok x=>
  obtain⟨ds,ρ⟩:=x;rw[Aa,R.DH]at h;intro Bp H1 AV A6 s1 it;have h:Fi F G Bw (H3 set body ds ρ):=h;refine⟨λi m σ2 Ab=>m=ds.length-i/\i<=ds.length/\∃Bl Cq,Rel F Bl Ab σ2 Cq/\Sub AV Bl/\Fi F Bl Bw (H3 set body (ds.drop i) Cq),⟨ds.length,by simp,GV _,AV,ρ,A6,Sub.refl _,Fi.mono s1 (by simpa using h)⟩,?_⟩;rintro i m σ2 Ab ⟨rfl,A0,Bl,Cq,AZ,s2,k2⟩;by_cases DI:i<ds.length
  .refine .inr ⟨it.go i Ab (s2.trans AZ.AJ.sub) DI,λσ3 CI=>∃Dm Ny,Rel F Dm CI σ3 Ny/\Sub AV Dm/\Fi F Dm Bw (H3 set body (ds.drop (i+1)) Ny),λσ3 CI⟨Dm,Ny,Cy,s3,k3⟩=>⟨ds.length-(i+1),by lia,rfl,DI,Dm,Ny,Cy,s3,k3⟩,λx CI y=>?_⟩;obtain⟨d,Dm,B8,Cy,s3,Du⟩:=it.turn AZ s2 DI y;have E2:ds.drop i=d::ds.drop (i+1):=by
    rw[RU DI];have:=C5 DI;rw[B8]at this;rw[Dz this]
   rw[E2]at k2;simp only[H3]at k2;cases D9:set d Cq with
   |bad=>rw[D9]at k2;cases k2
   |exc c=>exact absurd D9 (A5 d Cq c)
   |ok F5=>
    rw[D9,R.DH]at k2;refine AQ σ2 Cq Dm CI x d _ F5 Cy Du D9 λσ5 Ia=>⟨Dm,F5,Ia,?_⟩;have Ly:Sub Bl Dm:=s3.g;refine rb k2 λf O2 k2=>?_;cases f with
    |BK JO=>exact λσ7 I9 FL F4 EK=>⟨I9,JO,F4,s2.trans (Ly.trans EK),Fi.mono (Ly.trans EK) k2⟩
    |C_ JO=>exact λσ7 I9 FL F4 EK=>⟨I9,JO,F4,s2.trans (Ly.trans EK),Fi.mono (Ly.trans EK) k2⟩
    |F9 JO=>exact λσ7 I9 FL F4 EK=>k2 σ7 I9 FL F4 (Ly.trans EK)
    |DB d=>exact k2
    |HI ds=>exact k2
    |Dw t=>exact k2
    |rs t _=>exact k2
  .have e:ds.drop i=[]:=Tc (by lia);rw[e]at k2;have Fy:i=ds.length:=by lia
   subst Fy;exact .inl ⟨it.stop Ab (s2.trans AZ.AJ.sub),k2 σ2 Bl Ab AZ (Sub.refl _)⟩
noncomputable def del(H:A4)(a:Z):A4:=λb=>if b=a then none else H b
def UU{H:A4}{a:Z}:del H a a=none:=by simp[del]
def OX{H:A4}{a b:Z}(h:b≠a):del H a b=H b:=by simp[del,h]
def UV(H:A4)(a:Z):Sub (del H a) H:=λb o e=>by
 unfold del at e
 split at e
 .cases e
 .exact e
def C3.ik{G H H':A4}{σ :St}{ρ:A8}(r:Rel F G H σ ρ)(k:∀a,C3 H σ ρ a->H' a=H a){a:Z}(h:C3 H' σ ρ a):C3 H σ ρ a:=by obtain⟨i,BY,o,A1,A7,f⟩:=h;refine⟨i,BY,o,A1,A7,?_⟩;obtain⟨BM,B8,q⟩:=r.BY i BY A1;rw[A7]at B8;cases B8;exact(q.keep (G':=G) (H':=H') (Sub.refl _) λb GJ=>⟨k b ⟨i,BY,o,A1,A7,GJ⟩,(q.foot GJ).2.1⟩).2 a f
def Rel.drop{G H:A4}{σ :St}{ρ:A8}(r:Rel F G H σ ρ)(i:Nat):Rel F G H σ (ρ.set i .un):=by
 by_cases A0:i<ρ.length
 .have hs:i< σ.length:=by rw[r.len];exact A0
  have z:=r.RP (s:=.un) (o:= σ[i]) A0 trivial λ_ f=>f.elim;rw[Cj.Vy (C5 hs)]at z;exact z
 .rw[List.set_eq_of_length_le (by lia)];exact r
def Rel.dropped{G H:A4}{σ :St}{ρ:A8}(r:Rel F G H σ ρ){i:Nat}{s:C4}{o:Option V}{a:Z}(e:ρ[i]?=some s)(A1: σ[i]?=some o)(f:F7 H s o a):¬C3 H σ (ρ.set i .un) a:=λ⟨j,t,u,Dg,EN,Mt⟩=>by
 rcases get_set Dg with⟨_,z⟩|⟨ne,Dg⟩
 .subst z;exact Mt
 .exact ne (r.Mw i j a s t o u e Dg A1 EN f Mt)
def Rel.behind{G H G' H':A4}{σ :St}{ρ:A8}{EX:Str->A4->Prop}(r:Rel F G H σ ρ){i:Nat}{ds:L2}{a:Z}(e:ρ[i]?=some (.ob ds))(Aa: σ[i]?=some (some (.ref a)))(k:E4 ⟨F.K,G,del H a,EX,Gc⟩ G' H'){s':C4}(hs:s'=.un\/∃GG ES,s'=.ob GG/\G' a=none/\H' a=some ES/\MV F.K G' GG ES):Rel F G' H' σ (ρ.set i s'):=by
 have A0:i<ρ.length:=(List.getElem?_eq_some_iff.mp e).1;obtain⟨b,xs,A1,h1,h2,h3,h4⟩:=r.obj e;rw[Aa]at A1;have B7:b=a:=by cases A1;rfl
 subst B7;have nb:∀{c},F.Ak c≠none->c≠b:=λ{c} AB z=>by subst z;exact AB h3
 have Gs:=r.drop i;have no:¬C3 H σ (ρ.set i .un) b:=r.dropped e Aa rfl;have Bh:∀c,C3 H σ (ρ.set i .un) c->H' c=H c/\G' c=none/\F.Ak c=none:=λc AB=>by
  obtain⟨g1,g2,g3⟩:=Gs.foot AB;have PB:c≠b:=λz=>no (by rw[<-z];exact AB);have AR:FT (del H b) c:=by unfold FT;rw[OX PB];exact Gs.U9 AB
  refine⟨?_,(k.new c AR).trans g2,g3⟩;cases ec:H c with
  |none=>exact absurd ec g1
  |some o=>exact k.B1 c o (by show del H b c=some o;rw[OX PB];exact ec)
 have A6:Rel F G' H' σ (ρ.set i .un):=by
  refine Gs.over rfl ⟨k.sub,r.AJ.DU.trans k.DU,λc o z=>?_,λc AB=>?_⟩ k.DU Bh
  .have PB:=nb (c:=c) (by rw[z];exact λw=>nomatch w);exact k.B1 c o (by show del H b c=some o;rw[OX PB];exact r.AJ.B1 c o z)
  .have PB:=nb AB.1;have AR:FT (del H b) c:=by unfold FT;rw[OX PB];exact r.AJ.B1.Hu AB
   rw[k.new c AR];exact r.AJ.new c AB
 rcases hs with rfl|⟨GG,ES,rfl,g1,g2,g3⟩
 .exact A6
 .have ZF:¬C3 H' σ (ρ.set i .un) b:=λz=>no (z.ik Gs λc AB=>(Bh c AB).1);have AZ:=A6.setB (i:=i) (ob:=GG) (by simpa using A0) g2 g1 h3 g3 λj s o _ Dg EN f=>ZF ⟨j,s,o,Dg,EN,f⟩;rw[Cj.Vy Aa,List.set_set]at AZ;exact AZ
def mV(F:B5)(a:Z)(Q:Br):R (D×List D)->Prop
 |.ok (d,GG)=>∀v ES G' H',E4 F G' H'->G' a=none->H' a=some (.lst ES)->AP F.K G' GG ES->At F.K G' d v->Q v H'
 |.exc _=>False
 |.bad=>False
def spS(K:AT)(n:Nat)(mf:List D->List D->R (D×List D)):IE:=λvs H Q E=>∃G a xs ds es ws,vs=.ref a::ws/\H a=some (.lst xs)/\G a=none/\Sub G H/\AP K G ds xs/\AP K G es ws/\es.length=n/\mV ⟨K,G,del H a,λ_ _=>False,Gc⟩ a Q (mf ds es)
def JD(i n:Nat)(mf:List D->List D->R (D×List D))(m:Ad):Cz:=λρ=>(ownAt i ρ).bind λds=>(m ρ).bind λes=>if es.length=n then(Ep (mf ds es)).bind λx=>.ok (x.1,ρ.set i (.BQ x.2))else .bad
def wW{i n:Nat}{mf:List D->List D->R (D×List D)}{m:Ad}{E:CS}:Dq (JM F (JD i n mf m)) (W6 (spS F.K n mf) [] E (aB (Ky i) (EL F m))):=by
 rintro σ H Q ⟨G,ρ,r,h⟩;unfold JD ownAt at h;cases CO:ρ[i]? with
 |none=>rw[CO]at h;cases h
 |some s=>
  rw[CO]at h;cases s with
  |un=>cases h
  |AI _=>cases h
  |DF _=>cases h
  |D4 _ _=>cases h
  |ob ob=>
   cases ob with
   |BN _ _=>cases h
   |ins _ _ _=>cases h
   |lst ds=>
    obtain⟨a,xs,A1,h1,h2,h3,h4⟩:=r.own CO;have h:Yg F G σ Q ((m ρ).bind λes=>if es.length=n then(Ep (mf ds es)).bind λx=>.ok (x.1,ρ.set i (.BQ x.2))else .bad):=h;refine⟨.ref a,A1,G,ρ,r,?_⟩;refine rb h λes Aa h vs H1 AV A6 s1 Au=>?_;obtain⟨F1,ES,GI,II,PS,TB,Jb⟩:=A6.own CO;rw[A1]at GI;cases GI;by_cases AR:es.length=n
    .rw[if_pos AR]at h;rw[K0];refine⟨AV,a,ES,ds,es,vs,rfl,II,PS,A6.AJ.sub,Jb,Au,AR,?_⟩;cases em:mf ds es with
     |bad=>rw[em]at h;cases h
     |exc c=>rw[em]at h;cases h
     |ok x=>obtain⟨d,GG⟩:=x;rw[em]at h;intro v zs G' H' k g1 g2 g3 FX;exact h v H' G' (A6.behind CO A1 k (.inr ⟨.lst GG,.lst zs,rfl,g1,g2,zs,rfl,g3⟩)) (s1.g.trans k.DU) FX
    .rw[if_neg AR]at h;cases h
def ei(K:AT)(n:Nat)(mf:List D->List D->R Bf):IE:=λvs H Q E=>∃G a xs ds es ws,vs=.ref a::ws/\H a=some (.lst xs)/\G a=none/\Sub G H/\AP K G ds xs/\AP K G es ws/\es.length=n/\mT ⟨K,G,del H a,λ_ _=>False,Gc⟩ Q (mf ds es)
def PZ(N:Nat)(ds es:List D):A8:=.BQ ds::Ha (N-1) es
def V4(N:Nat)(m:B6)(ds es:List D):R Bf:=(m (PZ N ds es)).bind outD
def ov{K:AT}{G H:A4}{EX:Str->A4->Prop}{N:Nat}{ds es:List D}{a:Z}{xs ws:List V}(h1:H a=some (.lst xs))(h2:G a=none)(s:Sub G H)(q:AP K G ds xs)(Au:AP K G es ws) :
  Rel ⟨K,G,del H a,EX,Gc⟩ G H (Jp (N+1) (.ref a::ws)) (PZ (N+1) ds es):=by
 have Gs:Rel ⟨K,G,H,EX,Gc⟩ G H (Jp N ws) (Ha N es):=ou s Au;have CF:Jp (N+1) (.ref a::ws)=some (.ref a)::Jp N ws:=by unfold Jp;simp
 have A1:PZ (N+1) ds es=.BQ ds::Ha N es:=rfl;rw[CF,A1];have WP:∀(i:Nat)(Am:C4),(Ha N es)[i]?=some Am->dR Am=true:=λi Am z=>by
  unfold Ha at z;by_cases A0:i<es.length
  .rw[Gl (by simpa using A0),EH,C5 A0]at z;cases z;rfl
  .rw[GU (by simpa using A0),NE]at z
   split at z
   .cases z;rfl
   .cases z
 refine⟨⟨s,Sub.refl _,UV H a,λ_ _=>rfl⟩,by simp[Gs.len],λi t e=>?_,λi j b Am Yl o BM DD CP _ _ f PM=>?_⟩
 .cases i with
  |zero=>simp at e;subst e;exact⟨some (.ref a),by simp,a,.lst xs,rfl,h1,h2,UU,xs,rfl,q⟩
  |succ i=>
   rw[Rc]at e |-;obtain⟨o,A7,z⟩:=Gs.BY i t e;refine⟨o,A7,?_⟩;cases t with
   |un=>trivial
   |AI d=>exact z
   |ob Am=>exact absurd (WP i _ e) (λw=>nomatch w)
   |DF Am=>exact absurd (WP i _ e) (λw=>nomatch w)
   |D4 _ Am=>exact absurd (WP i _ e) (λw=>nomatch w)
 .cases i with
  |zero=>
   cases j with
   |zero=>rfl
   |succ j=>exact absurd PM (Vs (WP j Yl (by simpa using CP)) BM b)
  |succ i=>exact absurd f (Vs (WP i Am (by simpa using DD)) o b)
def uA{K:AT}{n N:Nat}{m:B6}{vs:List V}{H:A4}{Q:Br}{E:CS}(h:ei K n (V4 (N+1) m) vs H Q E) :
  ∃G Ak,EM (Cw K G Ak) m { BK:=λ_ H'=>Q .non H',DB:=Q } (Jp (N+1) vs) H:=by
 obtain⟨G,a,xs,ds,es,ws,rfl,h1,h2,s,q,Au,l,k⟩:=h;refine⟨G,del H a,G,PZ (N+1) ds es,ov h1 h2 s q Au,?_⟩;unfold V4 at k;refine rb k λf e k=>?_;cases f with
 |BK ρ=>exact λσ' G' H' r _=>k .non G' H' r.AJ (by simp only[At])
 |DB d=>exact k
 |HI ds=>exact k
 |Dw t=>exact k
 |rs t _=>cases k
 |F9 ρ=>cases k
 |C_ ρ=>cases k
end
def O0(elt:Cz):List D->List D->List D->R (List D×List D)
 |[],dd,ws=>.ok (ws,dd)
 |d::ds,dd,ws=>(elt [.AI d,.BQ dd]).bind λy=>match y.2 with
  |[.AI _,.ob (.lst H2)]=>if ws.length<1000000 then O0 elt ds H2 (ws++[y.1])else .bad
  |_=>.bad
def Mg(j:Nat)(mi:Ad)(elt:Cz):Cz:=λρ=>(ownAt j ρ).bind λdd=>(mi ρ).bind λds=>(Ep (O0 elt ds dd [])).bind λx=>.ok (.lst x.1,ρ.set j (.BQ x.2))
def qZ(K:AT)(m:Cz):TE:=λσ H Q=>∃BD Ak,JM (Cw K BD Ak) m σ H Q
section
variable{F:B5}
def Rel.guard{K:AT}{BD Ak G H:A4}{σ :St}{ρ:A8}{acc:Z}{o:D2}(r:Rel (Cw K BD Ak) G H σ ρ)(h:H acc=some o)(AQ:G acc=none)(no:¬C3 H σ ρ acc):Rel (Cw K BD (upd Ak acc o)) G H σ ρ:=by
 refine r.over (F':=Cw K BD (upd Ak acc o)) rfl ⟨r.AJ.sub,r.AJ.DU,Sub.at r.AJ.B1 h,λb J=>?_⟩ (Sub.refl _) λa A2=>?_
 .by_cases z:b=acc
  .subst z;rw[AQ];exact(r.AJ.DU.gone AQ).symm
  .exact r.AJ.new b (by have J:FT (upd Ak acc o) b:=J;unfold FT at J;rw[Co z]at J;exact J)
 .obtain⟨g1,g2,g3⟩:=r.foot A2;exact⟨rfl,g2,by show upd Ak acc o a=none;rw[Co (λw=>no (by rw[<-w];exact A2))];exact g3⟩
def Rel.agB{K:AT}{BD Ak G H:A4}{σ :St}{ρ:A8}{acc:Z}{o:D2}(r:Rel (Cw K BD (upd Ak acc o)) G H σ ρ)(h0:Ak acc=none):Rel (Cw K BD Ak) G H σ ρ:=by have Ee:Sub Ak (upd Ak acc o):=Sub.upd h0;refine r.over (F':=Cw K BD Ak) rfl ⟨r.AJ.sub,r.AJ.DU,Ee.trans r.AJ.B1,λb J=>r.AJ.new b (Ee.Hu J)⟩ (Sub.refl _) λa A2=>?_;obtain⟨g1,g2,g3⟩:=r.foot A2;exact⟨rfl,g2,Ee.gone g3⟩
def Rel.rewrite{K:AT}{BD Ak G H:A4}{σ :St}{ρ:A8}{acc:Z}{o:D2}(r:Rel (Cw K BD Ak) G H σ ρ)(AQ:G acc=none)(h0:Ak acc=none)(no:¬C3 H σ ρ acc):Rel (Cw K BD Ak) G (upd H acc o) σ ρ:=by
 refine r.over rfl ⟨Sub.Ot r.AJ.sub AQ,r.AJ.DU,λc u z=>?_,r.AJ.new⟩ (Sub.refl _) λa A2=>?_
 .rw[Co (I_ z h0)];exact r.AJ.B1 c u z
 .obtain⟨g1,g2,g3⟩:=r.foot A2;exact⟨Co (λw=>no (by rw[<-w];exact A2)),g2,g3⟩
def ow{K:AT}{BD Ak G H:A4}{a:Z}{xs:List V}{d:D}{dd:List D}{x:V}(k:E4 (Cw K BD Ak) G H)(h0:Ak a=none)(AQ:G a=none)(A2:H a=some (.lst xs))(q:AP K G dd xs)(BU:At K G d x):Rel (Cw K BD Ak) G H [some x,some (.ref a)] [.AI d,.BQ dd]:=by
 refine⟨k,rfl,λi s e=>?_,λi j b s s' o BM DD CP _ _ f PM=>?_⟩
 .match i,e with
  |0,e=>simp at e;subst e;exact⟨some x,rfl,x,rfl,BU⟩
  |1,e=>simp at e;subst e;exact⟨some (.ref a),rfl,a,.lst xs,rfl,A2,AQ,h0,xs,rfl,q⟩
  |i+2,e=>simp at e
 .have one:∀{i:Nat}{s:C4}{o:Option V},([C4.AI d,.BQ dd]:A8)[i]?=some s->F7 H s o b->i=1:=λ{i s o} e f=>by
    match i,e with
    |0,e=>simp at e;subst e;cases f
    |1,_=>rfl
    |i+2,e=>simp at e
  rw[one DD f,one CP PM]
def nI{H:A4}{a b:Z}{x:V}{s:D}{dd:List D}(h:C3 H [some x,some (.ref a)] [.AI s,.BQ dd] b):b=a:=by
 obtain⟨i,t,o,A1,A7,f⟩:=h
 match i,A1,A7 with
 |0,A1,_=>simp at A1;subst A1;cases f
 |1,A1,A7=>simp at A1 A7;subst A1 A7;have f:some (V.ref a)=some (.ref b):=f;cases f;rfl
 |i+2,A1,_=>simp at A1
def wY{j:Nat}{mi:Ad}{elt:Cz}:Dq (JM F (Mg j mi elt)) (RS (Jq F mi) (H4 0) aE (qZ F.K elt) 1 [j]):=by
 rintro σ H Q ⟨G,ρ,r,h⟩;unfold Mg ownAt at h;refine⟨G,ρ,r,?_⟩;cases CO:ρ[j]? with
 |none=>rw[CO]at h;cases h
 |some BY=>
  rw[CO]at h;cases BY with
  |un=>cases h
  |AI _=>cases h
  |DF _=>cases h
  |D4 _ _=>cases h
  |ob ob=>
   cases ob with
   |BN _ _=>cases h
   |ins _ _ _=>cases h
   |lst gw=>
    have h:Yg F G σ Q ((mi ρ).bind λds=>(Ep (O0 elt ds gw [])).bind λx=>.ok (.lst x.1,ρ.set j (.BQ x.2))):=h;refine rb h λds Aa h Bp H1 AV A6 Km it acc N4=>?_;obtain⟨a,xs,A1,h1,h2,h3,h4⟩:=A6.own CO;have Nm:a≠acc:=λw=>by rw[w,N4]at h1;cases h1
    cases eg:O0 elt ds gw []with
    |bad=>rw[eg]at h;cases h
    |exc c=>rw[eg]at h;cases h
    |ok res=>
     obtain⟨JK,SY⟩:=res;rw[eg]at h;have aw:del H1 a acc=none:=by rw[OX (KB Nm)];exact N4
     refine⟨λi m σ2 Ab=>m=ds.length-i/\i<=ds.length/\∃Bl o ys ws zs dd,σ2=[o,some (.ref a)]/\E4 (Cw F.K AV (del H1 a)) Bl Ab/\Ab acc=some (.lst ys)/\Bl acc=none/\AP F.K Bl ws ys/\Ab a=some (.lst zs)/\Bl a=none/\AP F.K Bl dd zs/\O0 elt (ds.drop i) dd ws=.ok (JK,SY),
      ⟨ds.length,by simp,GV _,AV,none,[],[],xs,gw,?_,⟨Sub.Ot A6.AJ.sub (A6.AJ.sub.gone N4),Sub.refl _,λb o z=>?_,λ_ _=>rfl⟩,DO,A6.AJ.sub.gone N4,.nil,by rw[Co Nm];exact h1,h2,h4,by simpa using eg⟩,?_⟩
     .show Q1 1 none++[j].map (λj=> σ.getD j none)=_;simp[Hc,A1]
     .have nb:b≠acc:=λw=>by
        have z:del H1 a b=some o:=z;rw[w,aw]at z;cases z
      rw[Co nb];exact UV H1 a b o z
     rintro i m σ2 Ab ⟨rfl,A0,Bl,o,ys,ws,zs,dd,rfl,k2,Ao,Yv,CJ,Aj,VH,MY,IT⟩;have Ar:Sub AV Bl:=k2.DU;by_cases DI:i<ds.length
     .refine .inr ⟨it.go i Ab (Ar.trans k2.sub) DI,λx CI y=>?_⟩;have rb:Rel (Cw F.K AV (del H1 a)) Bl Ab [some .non,some (.ref a)] [.AI .non,.BQ dd]:=ow k2 UU VH Aj MY (by simp only[At]);obtain⟨d,Dm,B8,Cy,Gi,Du⟩:=KH.turn (F:=Cw F.K AV (del H1 a)) it rb Ar DI y;have E2:ds.drop i=d::ds.drop (i+1):=by
       rw[RU DI];have:=C5 DI;rw[B8]at this;rw[Dz this]
      rw[E2]at IT;simp only[O0]at IT;have wq:CI acc=some (.lst ys):=Gi.h _ _ Ao;have wQ:Dm acc=none:=by rw[Gi.n acc (.of Ao λ_ z=>nomatch z)];exact Yv
      have ww:CI a=some (.lst zs):=Gi.h _ _ Aj;have wR:Dm a=none:=by rw[Gi.n a (.of Aj λ_ z=>nomatch z)];exact VH
      have Lv:Rel (Cw F.K AV (del H1 a)) Dm CI [some x,some (.ref a)] [.AI d,.BQ dd]:=ow Cy.AJ UU wR ww (MY.mono Gi.g) Du;have aac:¬C3 CI [some x,some (.ref a)] [.AI d,.BQ dd] acc:=λw=>Nm (nI w).symm;have Ia:=Lv.guard wq wQ aac;dsimp only[H4,aE];rw[if_pos rfl];refine⟨AV,upd (del H1 a) acc (.lst ys),Dm,[.AI d,.BQ dd],Ia,?_⟩;cases KX:elt [.AI d,.BQ dd]with
      |bad=>rw[KX]at IT;cases IT
      |exc c=>rw[KX]at IT;cases IT
      |ok y=>
       obtain⟨aid,JO⟩:=y;rw[KX,R.DH]at IT;intro v M8 LV Lw Jm Jy;simp only at IT
       split at IT
       .rename_i ae3 H2
        split at IT
        .rename_i AF;have wt:M8 acc=some (.lst ys):=Lw.AJ.B1 _ _ DO;have mB:LV acc=none:=by
          rw[Lw.AJ.new acc (.of (o:=.lst ys) DO λ_ z=>nomatch z)];exact A6.AJ.sub.gone N4
         have aad:¬C3 M8 [some x,some (.ref a)] [.AI ae3,.BQ H2] acc:=λw=>Nm (nI w).symm;have F4:=Lw.agB aw;have al:AP F.K LV ws ys:=(CJ.mono Gi.g).mono Jm;obtain⟨F1,aiF,Cp,D6,Ef,L1,er⟩:=F4.own (i:=1) rfl;have Cp:some (some (V.ref a))=some (some (V.ref F1)):=Cp;cases Cp;have Ib:=F4.rewrite (o:=.lst (ys++[v])) mB aw aad;refine⟨ys,wt,by rw[<-al.length];exact L_ AF (by decide),_,by lia,rfl,DI,LV,some x,ys++[v],ws++[aid],aiF,H2,rfl,Ib.AJ,DO,mB,al.snoc Jy,?_,Ef,er,IT⟩;rw[Co Nm];exact D6
        .cases IT
       .cases IT
     .have e:ds.drop i=[]:=Tc (by lia);rw[e]at IT;simp only[O0]at IT;cases IT;have Fy:i=ds.length:=by lia
      subst Fy;refine .inl ⟨it.stop Ab (Ar.trans k2.sub),?_⟩;have dW:=A6.behind (EX:=λ_ _=>False) CO A1 k2 (s':=.BQ SY) (.inr ⟨.lst SY,.lst zs,rfl,VH,Aj,zs,rfl,MY⟩);have aae:¬C3 Ab σ (ρ.set j (.BQ SY)) acc:=λz=>by
       have Fm:¬C3 H1 σ (ρ.set j .un) a:=A6.dropped CO A1 rfl;have Gs:=A6.drop j;obtain⟨l,s,o,DD,CP,f⟩:=z;rcases get_set DD with⟨rfl,zs⟩|⟨ne,DD⟩
       .subst zs;rw[A1]at CP;cases CP;have f:some (V.ref a)=some (.ref acc):=f;cases f;exact Nm rfl
       .have aiG:C3 Ab σ (ρ.set j .un) acc:=⟨l,s,o,by rw[Pt ne];exact DD,CP,f⟩;have Es:=aiG.ik Gs λc AB=>by
         have g1:=(Gs.foot AB).1;have PB:c≠a:=λw=>Fm (by rw[<-w];exact AB);cases ec:H1 c with
         |none=>exact absurd ec g1
         |some o=>exact k2.B1 c o (by show del H1 a c=some o;rw[OX PB];exact ec)
        exact(Gs.foot Es).1 N4
      refine h (.ref acc) Ab _ (dW.take Ao Yv (A6.AJ.B1.gone N4) aae) (Km.g.trans (Ar.trans (Sub.upd Yv))) ?_;simp only[At];exact⟨acc,ys,rfl,DO,CJ.mono (Sub.upd Yv)⟩
end
end Cj
namespace Cj
open PySem PySem.Spec CE PyProof.Rows
abbrev Ub(X:AX)(F:B5)(e:AN)(m:Cz):Prop:=Al X e (JM F m)
def AP.erase{K:AT}{G:A4}{ds:List D}{xs:List V}(n:Nat)(q:AP K G ds xs):AP K G (ds.eraseIdx n) (xs.eraseIdx n):=by rw[f7,f7];exact(q.take n).append (q.drop (n+1))
section
variable{X:AX}{F:B5}{e a b c:AN}{es:List AN}{pos p:Pos}{m n:AY}{ma:Ad}
def Zh(i:Nat)(m:AY):Cz:=λρ=>(ownAt i ρ).bind λds=>(m ρ).bind λd=>match d with
 |.int k=>if-(2^63)<=k/\k<2^63 then match Rz k ds.length with
  |some j=>match ds[j]? with
   |some y=>.ok (y,ρ.set i (.BQ (ds.eraseIdx j)))
   |none=>.bad
  |none=>.bad
  else .bad
 |_=>.bad
def Se(i:Nat)(m:Cz):B6:=λρ=>(ownAt i ρ).bind λ_=>(m ρ).bind λx=>(ownAt i x.2).bind λds=>if ds.length<1000000 then .ok (.BK (x.2.set i (.BQ (ds++[x.1]))))else .bad
noncomputable def Ux:List D->R (List D)
 |[.lst xs]=>.ok xs
 |[.Cd xs]=>.ok xs
 |[.tup xs]=>.ok xs
 |_=>.bad
def Si(m:Ad):Ad:=λρ=>(m ρ).bind Ux
def yG(Ag:F.K=X.K):Dq (Ie F (Si ma)) (aA (λxs H Q=>∃p ys,xs=[.ref p]/\(Bb X.K H p ys\/CA X.K H p ys)/\∀l,H l=none->Q (.ref l) (upd H l (.lst ys))) (EL F ma)):=by
 rintro σ H Q ⟨G,ρ,r,h⟩;unfold Si at h;refine⟨G,ρ,r,?_⟩;refine rb h λds Aa h vs H1 AV A6 s1 a=>?_;unfold Ux at h
 split at h
 .obtain⟨v,rfl,Au⟩:=a.one;simp only[At]at Au;obtain⟨q,xs,rfl,Ac,EY⟩:=Au;refine⟨q,xs,rfl,.inl (Bb.of (A6.AJ.sub _ _ Ac)),λl AF=>?_⟩;exact h l xs _ AV (A6.lay0 AF) (s1.trans (Bn.lay0 AF)) (s1.h.gone AF) DO (A6.AJ.sub.gone AF) EY
 .obtain⟨v,rfl,Au⟩:=a.one;simp only[At]at Au;obtain⟨q,xs,rfl,Ac,EY⟩:=Au;refine⟨q,xs,rfl,.inl (by rw[<-Ag];exact Bb.mono A6.AJ.sub Ac),λl AF=>?_⟩;exact h l xs _ AV (A6.lay0 AF) (s1.trans (Bn.lay0 AF)) (s1.h.gone AF) DO (A6.AJ.sub.gone AF) EY
 .obtain⟨v,rfl,Au⟩:=a.one;simp only[At]at Au;obtain⟨q,xs,rfl,Ac,EY⟩:=Au;refine⟨q,xs,rfl,.inr (CA.of (A6.AJ.sub _ _ Ac)),λl AF=>?_⟩;exact h l xs _ AV (A6.lay0 AF) (s1.trans (Bn.lay0 AF)) (s1.h.gone AF) DO (A6.AJ.sub.gone AF) EY
 .exact h.elim
def Uy:List D->R (List D)
 |[.int j]=>if-(2^62)<=j/\j<=1000000 then .ok (Ge 0 j.toNat)else .bad
 |_=>.bad
def Sh(m:Ad):Ad:=λρ=>(m ρ).bind Uy
theorem ij{K:AT}{G:A4}:∀(l:List Nat),AP K G (l.map λi=>.int (0+((i:Nat):Int))) (l.map λi=>V.int ((i:Nat):Int))
 |[]=>.nil
 |i::l=>.cons (by simp[At]) (ij l)
noncomputable def OS:List D->R D
 |[.int i]=>.ok (.int (if i<0 then-i else i))
 |_=>.bad
def abo:NY F (λxs H Q=>∃i,xs=[.int i]/\Q (.int (if i<0 then-i else i)) H) OS:=by
 intro σ ρ G H xs ds Q r al k;unfold OS at k
 split at k
 .exact⟨_,al.ints1,k _ H G r (Bn.refl _ _) (by simp only[At])⟩
 .exact k.elim
noncomputable def Vc:List D->R D
 |[.int i]=>.ok (.int i)
 |[.AO k]=>.ok (.int (if k then 1 else 0))
 |[.str x]=>if x.length<=640 then match intText? x with|some i=>.ok (.int i)|none=>.bad else .bad
 |_=>.bad
def abw:NY F (λxs H Q=>((∃i,xs=[.int i]/\Q (.int i) H)\/∃k,xs=[.AO k]/\Q (.int (if k then 1 else 0)) H)\/((∃i,xs=[.int i]/\Q (.int i) H)\/∃x i,xs=[.str x]/\x.length<=640/\intText? x=some i/\Q (.int i) H)) Vc:=by
 intro σ ρ G H xs ds Q r al k;unfold Vc at k
 split at k
 .rename_i i;exact .inl (.inl ⟨i,al.ints1,k _ H G r (Bn.refl _ _) (by simp only[At])⟩)
 .rename_i c;obtain⟨v,rfl,Au⟩:=al.one;simp only[At]at Au;subst Au;exact .inl (.inr ⟨c,rfl,k _ H G r (Bn.refl _ _) (by simp only[At])⟩)
 .rename_i x
  split at k
  .rename_i AF
   split at k
   .rename_i i A0;obtain⟨v,rfl,Au⟩:=al.one;simp only[At]at Au;subst Au;exact .inr (.inr ⟨x,i,rfl,AF,A0,k _ H G r (Bn.refl _ _) (by simp only[At])⟩)
   .exact k.elim
  .exact k.elim
 .exact k.elim
noncomputable def W5:List D->Option (List Str)
 |[]=>some []
 |.str x::r=>(W5 r).map (x::·)
 |_=>none
theorem pU{K:AT}{G:A4}:∀{ds:List D}{xs:List V}{ys:List Str},AP K G ds xs->W5 ds=some ys->xs=ys.map V.str
 |[],_,_,h,e=>by simp only[AP]at h;subst h;cases e;rfl
 |d::ds,_,_,h,e=>by
  simp only[AP]at h;obtain⟨v,r,rfl,q,t⟩:=h;cases d with
  |str x=>
   unfold W5 at e;cases CO:W5 ds with
   |none=>rw[CO]at e;cases e
   |some zs=>rw[CO]at e;cases e;simp only[At]at q;rw[q,pU t CO];rfl
  |_=>cases e
def Ye(sep:Str):List D->R D
 |[.lst ds]=>match W5 ds with
  |some ys=>if(ys.map (·.length)).sum+ys.length*sep.length<=16777216 then .ok (.str (Txt.join sep ys))else .bad
  |none=>.bad
 |_=>.bad
def Zf(sep:Str)(m:FM):Cz:=λρ=>(m ρ).bind λx=>(Ye sep x.1).bind λd=>.ok (d,x.2)
def R8(set:D->A8->R A8)(m:AY):B6:=λρ=>(m ρ).bind λd=>(set d ρ).bind λB9=>.ok (.BK B9)
def uS{op:Operator}{r:EO}{f:D->D->R D}{m n:Cz}(AE:Ds X (Ip op) r)(hf:GX F r f)(A2:Ub X F a m)(J:Ub X F b n):Ub X F (.BinOp a op b pos) (Lq f m n):=Al.imp (ZV AE A2 J) (my hf)
def q0{n:Nat}{mf:List D->R Bf}{xe:CS->Str->A4->Prop}{E:CS}{AV H1:A4}{σ :CE.St}{ρ:A8}{ds:List D}{vs:List V}{Q:Br}(A5:F.EX=xe E)(A6:Rel F AV H1 σ ρ)(a:AP F.K AV ds vs)(AR:ds.length=n)(h:Hq F AV H1 σ ρ Q ((mf ds).bind HJ)):Oo F.K n xe mf vs H1 Q E:=by
 refine⟨AV,ds,A6.AJ.sub,a,AR,?_⟩;cases e:mf ds with
 |bad=>rw[e]at h;cases h
 |exc c=>rw[e]at h;intro G' H' k;have z:=h G' H' (E4.of A6 k).AJ;rw[A5]at z;exact z
 |ok t=>
  rw[e,R.DH]at h;cases t with
  |v d=>exact λv G' H' k Au=>h v H' G' (E4.of A6 k) ⟨k.DU,k.B1,k.new⟩ Au
  |o es=>intro p xs G' H' k h1 h2 h3 h4;have h2:H1 p=none:=h2;have B2:=E4.of A6 k;have no:¬C3 H' σ ρ p:=C3.fresh A6 k.B1 h2;refine h (.ref p) H' _ (B2.take h3 h1 (A6.AJ.B1.gone h2) no) (Bn.put ⟨k.DU,k.B1,k.new⟩ h2 h1) ?_;simp only[At];exact⟨p,xs,rfl,DO,h4.mono (Sub.upd h1)⟩
  |t t=>intro v G' H' k q;obtain⟨a1,a2,Du⟩:=(E4.of A6 k).eE (F':=⟨F.K,AV,H1,xe E,Gc⟩) rfl q ⟨k.DU,k.B1,k.new⟩ λb J=>⟨(q.own b J).2,A6.AJ.B1.gone (q.own b J).2,C3.fresh A6 k.B1 (q.own b J).2⟩;exact h v H' _ a1 a2 Du
end
structure UA(P:BR)(w:BA)(K:AT)(AA:Str->Option U)(base:Aq)(x:Str)(n k:Nat)(mf:List D->List D->R (D×List D)):Prop where
 ex:∃(f:Z)(fd:FH)(ps:List Str),Fu P w K AA base FJ k f fd ps (spS K n mf)/\AA x=some (.ref f)/\IM K (.ref f)=true/\Binds K fd ps []
structure Y1(P:BR)(w:BA)(K:AT)(AA:Str->Option U)(base:Aq)(x:Str)(n k:Nat)(mf:List D->List D->R Bf):Prop where
 ex:∃(f:Z)(fd:FH)(ps:List Str),Fu P w K AA base FJ k f fd ps (ei K n mf)/\AA x=some (.ref f)/\IM K (.ref f)=true/\Binds K fd ps []
section
variable{X:AX}{F:B5}{e a b c:AN}{es:List AN}{pos p:Pos}{m n:AY}{ma:Ad}
def uT(j:Nat){iter elt:AN}{scope:DT}{x y:Str}{D5:Pos}{mi:Ad}{D3:Cz}(S:O1 X.env.scope X.N scope [x,y] 1 [j]=true)(A0:SG X F (.Name x D5) iter mi)(he:∀cl C s H Ae BD Ak,Ub (E_ X scope [x,y] cl C s H Ae) (Cw X.K BD Ak) elt D3)(hN:[x,y].Nodup:=by decide+kernel)(AF:(KC scope X.env).names.lookup x=some .local:=by rfl)(AB:X.calm=true:=by rfl)(Ag:F.K=X.K:=by rfl)(hs:∀x,JS iter X.env x=pure x:=by intro _;rfl):Ub X F (.ListComp elt [⟨.Name x D5,iter,[],0⟩] scope pos) (Mg j mi D3):=by
 refine Al.imp (nO (N:=[x,y]) (nl:=1) (caps:=[j]) (g:=H4 0) (tc:=aE) (te:=qZ X.K D3) (.of S) AB A0 (λcl C s H Ae=>Vq (X:=E_ X scope [x,y] cl C s H Ae) hN rfl (.inl AF) (.inr AF)) (λcl C s H Ae=>pN) (λcl C s H Ae pins s' σ H' IC I h=>?_) hs) ?_
 .obtain⟨BD,Ak,h⟩:=h;exact he cl C s H Ae BD Ak pins s' σ H' IC I h
 .rw[<-Ag];exact wY
end
def afA{K:AT}{n:Nat}{mf:List D->List D->R Bf}:∀vs H Q E,ei K n mf vs H Q E->vs.length=n+1:=λvs H Q E h=>by obtain⟨G,a,xs,ds,es,ws,rfl,_,_,_,_,q,l,_⟩:=h;rw[FQ,<-q.length,l]
def pz{K:AT}{n:Nat}{mf:List D->List D->R (D×List D)}:∀vs H Q E,spS K n mf vs H Q E->vs.length=n+1:=λvs H Q E h=>by obtain⟨G,a,xs,ds,es,ws,rfl,_,_,_,_,q,l,_⟩:=h;rw[FQ,<-q.length,l]
def v7{P:BR}{w:BA}{K:AT}{AA:Str->Option U}{base:Aq}{x Ed Fm:Str}{st:BG}{N ps:List Str}{k:Nat}{m:B6}(d:D1 K AA x st (Ed::ps))(S:C2 (Fm::N) (Ed::ps) (BP st))(h:∀(f:Z)(BV:U)(A:Bk)(outer:List Env)(s:AD)(H:A4)(E:CS),Bz k (A.deeper (K4 x (BP st) s.heap.objs.size f BV))->∀BD Ak,iq (EE FJ P w K AA base (Fm::N) x (BP st) f BV A outer s H E).Fn (Cw K BD Ak) (FA st) m) :
  Y1 P w K AA base x ps.length (k+1) (V4 (N.length+1) m):=by
 obtain⟨f,fd,fn,hm,J⟩:=d.ex;refine⟨f,fd,Ed::ps,fn.ok S afA λBV A outer s H vs Q E AS hs=>?_,hm,fn.AJ,J⟩;obtain⟨G,Ak,BF⟩:=uA hs;exact⟨_,h f BV A outer s H E AS G Ak,BF⟩
noncomputable def WI:List D->List D->R (D×List D)
 |[.int n],[.int m]=>if 0<m/\Qi n m then .ok (.int (n%m),[.int (n/m)])else .bad
 |_,_=>.bad
def e4(K:AT):Ei:=V_ (Kl (Mq (PI (λ_ j=>0<j) λi j=>.int (i%j)) (Mq (Vw K) (Ky 0) (Mp (.int 0))) (Ky 1)) (H4 2))
 (V_ (Kl (Mq (PI Qi λi j=>.int (i/j)) (Mq (Vw K) (Ky 0) (Mp (.int 0))) (Ky 1)) (m6 (Ky 0) (Mp (.int 0)) oc)) (TS (Ky 2)))
def vH{K:AT}{vs:List V}{H:A4}{Q:Br}{E:CS}{Bw:Ends}(Yw:Bw.DB=Q)(h:spS K 1 WI vs H Q E):e4 K Bw (Jp 3 vs) H:=by
 obtain⟨G,a,xs,ds,es,ws,rfl,h1,h2,s,q,Au,l,k⟩:=h;unfold WI at k
 split at k
 .rename_i n m
  split at k
  .rename_i hm;have A1:=q.ints1;have A7:=Au.ints1;subst A1 A7;have ig:∀{H':A4}{j:Int},H' a=some (.lst [.int j])->∀IC:Br,IC (.int j) H'->Vw K (.ref a) (.int 0) H' IC:=λ{H' j} B1 IC D_=>.inl ⟨a,[.int j],0,.int j,rfl,rfl,Bb.of B1,rfl,D_⟩;refine⟨.ref a,rfl,ig h1 _ ⟨.int m,rfl,n,m,rfl,rfl,hm.1,?_⟩⟩;refine⟨.ref a,rfl,ig h1 _ ⟨.int m,rfl,n,m,rfl,rfl,hm.2,?_⟩⟩;refine⟨.ref a,rfl,a,[.int n],0,0,rfl,rfl,h1,rfl,?_⟩;refine⟨.int (n%m),rfl,?_⟩;rw[Yw];refine k (.int (n%m)) [.int (n/m)] G _ ⟨Sub.Ot s h2,Sub.refl _,λb o z=>?_,λ_ _=>rfl⟩ h2 DO (.cons (by simp only[At]) .nil) (by simp only[At]);have z:del H a b=some o:=z;have nb:b≠a:=λw=>by rw[w,UU]at z;cases z
   rw[Co nb];exact UV H a b o z
  .exact k.elim
 .exact k.elim
def vG {X:AX} {x y z:Str} {DW CB Vn abP abQ abR abS A_ B4 Cn I7 LP Gq Hv LQ RM A6 AZ:Pos} {LK Hb cP} (hN:X.N.Nodup) (h0:X.N[0]?=some x:=by rfl) (h1:X.N[1]?=some y:=by rfl) (h2:X.N[2]?=some z:=by rfl)(ep:Gx X.env.scope x:=by first|exact DX rfl|exact CY (DX rfl)|exact CY (CY rfl)) (qv:Gx X.env.scope y:=by first|exact DX rfl|exact CY (DX rfl)|exact CY (CY rfl)) (afb:Gx X.env.scope z:=by first|exact DX rfl|exact CY (DX rfl)|exact CY (CY rfl)) (Yk:Loc X.env.scope z:=by first|exact DX rfl|exact CY rfl)(Av:(x==("__debug__" :Str))=false:=by decide) (QR:(x==("__classdict__" :Str))=false:=by decide) (FC:(y==("__debug__" :Str))=false:=by decide) (jY:(y==("__classdict__" :Str))=false:=by decide) (hB:(z==("__debug__" :Str))=false:=by decide) (vQ:(z==("__classdict__" :Str))=false:=by decide)(hf:X.fn z=true\/X.env.scope.names.lookup z=some .local:=by first|exact .inl rfl|exact .inr rfl)(hs:swapsWithSole [.Subscript (.Name x A_) (.Constant (.int 0) Hb B4) Cn] (.BinOp (.Subscript (.Name x I7) (.Constant (.int 0) cP LP) Gq) .FloorDiv (.Name y Hv) LQ) RM.line X.env=pure false:=by rfl)(hw:swappedStores [.Subscript (.Name x A_) (.Constant (.int 0) Hb B4) Cn] (.BinOp (.Subscript (.Name x I7) (.Constant (.int 0) cP LP) Gq) .FloorDiv (.Name y Hv) LQ) X.env=pure none:=by rfl)(II:(Kt [.Subscript (.Name x A_) (.Constant (.int 0) Hb B4) Cn] X.env).map (·.2)=[KD (.Subscript (.Name x A_) (.Constant (.int 0) Hb B4) Cn) X.env]:=by rfl)(A2:∀v,KD (.Subscript (.Name x A_) (.Constant (.int 0) Hb B4) Cn) X.env v=(do
    let Dj <-JW [v] (BC (.Name x A_) X.env)
    let GP <-JW [v,Dj] (BC (.Constant (.int 0) Hb B4) X.env)
    NN Cn
    JW [v,Dj,GP] (setItem Dj GP v)
    release [v,Dj,GP] []):=by intro _;rfl) :
  FU X [.Assign [.Name z DW] (.BinOp (.Subscript (.Name x CB) (.Constant (.int 0) LK Vn) abP) .Mod (.Name y abQ) abR) abS,
   .Assign [.Subscript (.Name x A_) (.Constant (.int 0) Hb B4) Cn] (.BinOp (.Subscript (.Name x I7) (.Constant (.int 0) cP LP) Gq) .FloorDiv (.Name y Hv) LQ) RM,.Return (some (.Name z A6)) AZ] (e4 X.K):=
 ZW (SW hN h2 Yk (ZV nu (Vp Us (HG h0 ep Av QR) ZU D5) (HG h1 qv FC jY)) (M1 _ _ _ _ rfl) hf)
  (ZW (pD (ZV nk (Vp Us (HG h0 ep Av QR) ZU D5) (HG h1 qv FC jY)) (acm (HG h0 ep Av QR) ZU set_list A2) hs hw II) (ZX (PG (HG h2 afb hB vQ))))
def v6{P:BR}{w:BA}{K:AT}{AA:Str->Option U}{base:Aq}{x Fm CQ C0 Ed DW:Str}{st:BG}{k:Nat}(d:D1 K AA x st [Ed,DW])(S:C2 [Fm,CQ,C0] [Ed,DW] (BP st))(h:∀(f:Z)(BV:U)(A:Bk)(outer:List Env)(s:AD)(H:A4)(E:CS),Bz k (A.deeper (K4 x (BP st) s.heap.objs.size f BV))->FU (EE FJ P w K AA base [Fm,CQ,C0] x (BP st) f BV A outer s H E).Fn (FA st) (e4 K)) :
  UA P w K AA base x 1 (k+1) WI:=by
 obtain⟨f,fd,fn,hm,J⟩:=d.ex;refine⟨f,fd,[Ed,DW],fn.ok S pz λBV A outer s H vs Q E AS hs=>?_,hm,fn.AJ,J⟩;exact⟨_,h f BV A outer s H E AS,vH rfl hs⟩
end Cj
namespace Cj
open PySem PySem.Spec CE
structure GD(X:AX)(F:B5)(e:AN)(m:Cz):Prop where
 o:Al X e (JM F m)
structure SK(X:AX)(F:B5)(es:List AN)(m:FM):Prop where
 o:F8 X es (TR F m)
structure iT(X:AX)(F:B5)(BL e:AN)(m:FM):Prop where
 o:Fv X BL e (e7 F m)
section
variable{X:AX}{F:B5}{e a b c BL iter elt:AN}{es:List AN}{pos p:Pos}{m n:AY}{ma:Ad}{st:BG}{RR:List BG}
def ahP (i:Nat) {x:Str} {D5:Pos} {apos:Pos} {Ba:Pos} {m:Cz} (he:GD X F e m) (hN:X.N[i]?=some x:=by rfl) (Az:Gx X.env.scope x:=by first|exact DX rfl|exact CY (DX rfl)|exact CY (CY rfl)) (hd:(x==("__debug__" :Str))=false:=by decide) (Dh:(x==("__classdict__" :Str))=false:=by decide) (HV:Ik (.Name x D5) "append" X.env (BC (.Name x D5) X.env)=BC (.Name x D5) X.env:=by rfl) (HX:(apos.endLine==Ba.line)=true:=by rfl) (HW:((CW Ba (Aw [e] X.env)).all (λx=>!x.1)&&(He Ba (Hd [] X.env)).all (λx=>x.1.isSome)
   &&decide (([e]:List AN).length+([]:List FS).length+(if([]:List FS).isEmpty then 0 else 1)<30))=true:=by rfl) (hs:Aw [e] X.env=(false,BC e X.env)::Aw [] X.env:=by rfl) (HY:(CW Ba (Aw [] X.env)).any (·.1)=false:=by rfl):ED X F (.Expr (.Call (.Attribute (.Name x D5) "append" apos) [e] [] Ba) pos) (Se i m):=⟨by
 have he:=he.1;refine Cf.imp (Vu (PF Rb f9 fA Zw (HG hN Az hd Dh) (Jl he LO hs) HV HW HX hs HY) (M1 _ _ _ _ rfl)) ?_;rintro Bw σ H ⟨G,ρ,r,h⟩;unfold Se ownAt at h;cases CO:ρ[i]? with
 |none=>rw[CO]at h;cases h
 |some s=>
  rw[CO]at h;cases s with
  |un=>cases h
  |AI _=>cases h
  |DF _=>cases h
  |D4 _ _=>cases h
  |ob ob=>
   cases ob with
   |BN _ _=>cases h
   |ins _ _ _=>cases h
   |lst aj1=>
    obtain⟨q,xs,A1,h1,h2,h3,h4⟩:=r.own CO;rw[R.DH]at h;refine⟨.ref q,A1,.inl ⟨rfl,xs,Bb.of h1⟩,G,ρ,r,?_⟩;cases Aa:m ρ with
    |bad=>rw[Aa]at h;cases h
    |exc c=>rw[Aa]at h;exact h
    |ok y=>
     obtain⟨d,ρ1⟩:=y;rw[Aa,R.DH]at h;intro v H1 AV A6 s1 Au;simp only at h;cases O3:ρ1[i]? with
     |none=>rw[O3]at h;cases h
     |some s=>
      rw[O3]at h;cases s with
      |un=>cases h
      |AI _=>cases h
      |DF _=>cases h
      |D4 _ _=>cases h
      |ob ob=>
       cases ob with
       |BN _ _=>cases h
       |ins _ _ _=>cases h
       |lst ds=>
        rw[R.DH]at h;obtain⟨D_,ES,GI,II,PS,TB,Jb⟩:=A6.own O3;rw[A1]at GI;cases GI;by_cases AF:ds.length<1000000
        .rw[if_pos AF]at h;refine⟨q,ES,v,rfl,rfl,II,by rw[<-Jb.length];exact L_ AF (by decide),?_⟩;exact h σ AV _ (A6.mut O3 A1 (Jb.snoc Au)) s1
        .rw[if_neg AF]at h;exact h.elim⟩
def ai1(hm:X.AA "list"=none)(A2:Ew X F [e] ma)(Ag:F.K=X.K:=by rfl)(AQ:DK X "list":=by rfl)(he:Aw [e] X.env=(false,BC e X.env)::Aw [] X.env:=by rfl)(D0:(CW pos (Aw [] X.env)).any (·.1)=false:=by rfl):J1 X F (.Call (.Name "list" p) [e] [] pos) (Si ma):=⟨have A2:=A2.1;Al.imp (ZT tf AQ hm (by kernel_rfl) A2 (by decide) (by decide) he D0) (yG Ag)⟩
def ai2{JI pos':Pos}(hm:X.AA "list"=none)(K_:X.AA "range"=none)(A2:Ew X F [a] ma)(AB:X.calm=true:=by rfl)(AQ:DK X "list":=by rfl)(Qf:DK X "range":=by rfl)(hs:Aw [a] X.env=[(false,BC a X.env)]:=by rfl)(HZ:Aw [.Call (.Name "range" JI) [a] [] pos'] X.env=[(false,BC (.Call (.Name "range" JI) [a] [] pos') X.env)]:=by rfl):J1 X F (.Call (.Name "list" p) [.Call (.Name "range" JI) [a] [] pos'] [] pos) (Sh ma):=⟨by
 have A2:=A2.1;refine Al.imp (abk AQ hm Qf K_ AB A2 hs HZ) ?_;rintro σ H Q ⟨G,ρ,r,h⟩;unfold Sh at h;refine⟨G,ρ,r,?_⟩;refine rb h λds Aa h vs H1 AV A6 s1 a=>?_;unfold Uy at h
 split at h
 .rename_i j
  split at h
  .rename_i BO;refine⟨j,a.ints1,BO.1,BO.2,λl AF=>?_⟩;exact h l _ _ AV (A6.lay0 AF) (s1.trans (Bn.lay0 AF)) (s1.h.gone AF) DO (A6.AJ.sub.gone AF) (ij _)
  .exact h.elim
 .exact h.elim⟩
def afM(hm:X.AA "abs"=none)(A2:Ew X F [e] ma)(AQ:DK X "abs":=by rfl)(he:Aw [e] X.env=(false,BC e X.env)::Aw [] X.env:=by rfl)(D0:(CW pos (Aw [] X.env)).any (·.1)=false:=by rfl):Ax X F (.Call (.Name "abs" p) [e] [] pos) (Cg OS ma):=⟨have A2:=A2.1;bA uN abo hm (by kernel_rfl) A2 AQ (by decide) (by decide) he D0⟩
def agj(hm:X.AA "int"=none)(A2:Ew X F [e] ma)(AQ:DK X "int":=by rfl)(he:Aw [e] X.env=(false,BC e X.env)::Aw [] X.env:=by rfl)(D0:(CW pos (Aw [] X.env)).any (·.1)=false:=by rfl):Ax X F (.Call (.Name "int" p) [e] [] pos) (Cg Vc ma):=⟨have A2:=A2.1;bB (uP.or uQ) abw hm (by kernel_rfl) A2 AQ (by decide) (by decide) he D0⟩
def agP {sep:Str} {j:Nat} {D5 apos Ba:Pos} {m:FM} (A2:SK X F [e] m) (Ag:F.K=X.K:=by rfl) (HV:Ik (.Constant (.str sep) j D5) "join" X.env (BC (.Constant (.str sep) j D5) X.env)=BC (.Constant (.str sep) j D5) X.env:=by rfl) (HX:(apos.endLine==Ba.line)=true:=by rfl) (HW:((CW Ba (Aw [e] X.env)).all (λx=>!x.1)&&(He Ba (Hd [] X.env)).all (λx=>x.1.isSome)
   &&decide (([e]:List AN).length+([]:List FS).length+(if([]:List FS).isEmpty then 0 else 1)<30))=true:=by rfl) (hs:Aw [e] X.env=(false,BC e X.env)::Aw [] X.env:=by rfl) (HY:(CW Ba (Aw [] X.env)).any (·.1)=false:=by rfl):GD X F (.Call (.Attribute (.Constant (.str sep) j D5) "join" apos) [e] [] Ba) (Zf sep m):=⟨by
 have A2:=A2.1;refine Al.imp (PF rn PySem.F.slot_str_join PySem.F.type_str_join ab0 dP A2 HV HW HX hs HY) ?_;rintro σ H Q ⟨G,ρ,r,h⟩;unfold Zf at h;refine⟨rfl,G,ρ,r,?_⟩;cases Aa:m ρ with
 |bad=>rw[Aa]at h;cases h
 |exc c=>rw[Aa]at h;exact h
 |ok y=>
  obtain⟨ds,ρ1⟩:=y;rw[Aa,R.DH]at h;intro vs H1 AV A6 s1 Au;unfold Ye at h;simp only at h
  split at h
  .rename_i Am
   split at h
   .rename_i ys CV
    split at h
    .rename_i Aj;obtain⟨v,rfl,L4⟩:=Au.one;simp only[At]at L4;obtain⟨q,xs,rfl,Ac,EY⟩:=L4;refine⟨sep,q,ys,rfl,rfl,?_,Aj,h _ H1 AV A6 s1 (by simp only[At])⟩;rw[<-pU EY CV];exact Bb.of (A6.AJ.sub _ _ Ac)
    .exact h.elim
   .exact h.elim
  .exact h.elim⟩
def ahG{BL:AN}{set:D->A8->R A8}(he:Ax X F e m)(AQ:GM X BL set)(Ag:F.K=X.K:=by rfl)(hs:swapsWithSole [BL] e pos.line X.env=pure false:=by rfl)(hw:swappedStores [BL] e X.env=pure none:=by rfl)(h1:(Kt [BL] X.env).map (·.2)=[KD BL X.env]:=by rfl):ED X F (.Assign [BL] e pos) (R8 set m):=⟨by
 have he:=he.1;obtain⟨⟨g,g1,g2⟩,g3,_⟩:=AQ;refine Cf.imp (pD he g1 hs hw h1) ?_;rintro Bw σ H ⟨G,ρ,r,h⟩;unfold R8 at h;refine⟨G,ρ,r,?_⟩;refine rb h λd Aa h v H1 AV A6 s1 Au=>?_;cases es:set d ρ with
 |bad=>rw[es]at h;cases h
 |exc c=>exact absurd es (g3 d ρ c)
 |ok B9=>rw[es]at h;exact g2 F Ag σ ρ AV H1 v d _ B9 A6 Au es λσ' B2=>h σ' AV H1 B2 s1.g⟩
def agK(h:Ax X F e m):GD X F e (lf m):=⟨have h:=h.1;Al.imp h yD⟩
def agF{m n:Cz}(A2:GD X F a m)(J:GD X F b n):GD X F (.BinOp a .Add b pos) (Lq DY m n):=⟨have A2:=A2.1;have J:=J.1;uS (ng.or (nh.or ni)) nX A2 J⟩
def agJ{m n:Cz}(A2:GD X F a m)(J:GD X F b n)(hs:UH b)(Ag:F.K=X.K:=by rfl):GD X F (.Subscript a b pos) (Lq Ah m n):=⟨have A2:=A2.1;have J:=J.1;Al.imp (Vp Us A2 J hs) (my (nY Ag))⟩
def agL:SK X F [] (Lo AL):=⟨F8.imp LO (λσ H Q h=>n4 σ H Q (yE σ H Q h))⟩
def agI{m:Cz}{r:FM}(h:GD X F e m)(t:SK X F es r)(hs:notStar e=true:=by rfl):SK X F (e::es) (IW m r):=⟨have h:=h.1;have t:=t.1;F8.imp (Jl h t (pQ e es X.env hs)) wa⟩
def ago{k}{m:FM}(h:SK X F es m):GD X F (.Tuple es k pos) (P1 m):=⟨have h:=h.1;Al.imp (p0 h) xx⟩
def ahD(i:Nat){x:Str}{p:Pos}{m:Cz}(hN:X.N.Nodup)(he:GD X F e m)(A0:X.N[i]?=some x:=by rfl)(A5:Loc X.env.scope x:=by first|exact DX rfl|exact CY rfl)(hs:PE e=true:=by rfl)(hf:X.fn x=true\/X.env.scope.names.lookup x=some .local:=by first|exact .inl rfl|exact .inr rfl):ED X F (.Assign [.Name x p] e pos) (R6 i m):=⟨have he:=he.1;Cf.imp (SW hN A0 A5 he (M1 _ _ _ _ hs) hf) xp⟩
def ahW{m:Cz}(h:GD X F e m)(hs:PE e=true:=by rfl):ED X F (.Expr e pos) (V6 m):=⟨have h:=h.1;Cf.imp (Vu h (M1 _ _ _ _ hs)) y4⟩
def aiZ{BL:AN}{m:FM}(hm:X.AA "range"=none)(A2:SK X F [a] m)(AQ:DK X "range":=by rfl)(hs:Aw [a] X.env=[(false,BC a X.env)]:=by rfl):iT X F BL (.Call (.Name "range" p) [a] [] pos) (R5 m):=⟨have A2:=A2.1;Fv.imp (p5 AQ hm A2 hs) xi⟩
def ahY{BL iter:AN}{body:List BG}{mi:FM}{set:D->A8->R A8}{Eo:B6}(AW:U1 (Ai X.prog X.w) X.A X.env X.xe)(A0:iT X F BL iter mi)(AQ:GM X BL set)(J:IF X F body Eo)(AB:X.calm=true:=by rfl)(Ag:F.K=X.K:=by rfl)(hs:∀x,JS iter X.env x=pure x:=by intro _;rfl):ED X F (.For BL iter body [] pos) (Ng mi set Eo):=⟨by
 have A0:=A0.1;have J:=J.1;obtain⟨⟨g,h1,h2⟩,h3,_⟩:=AQ;exact Cf.imp (pF AW AB A0 h1 J hs) (y7 (h2 F Ag) h3)⟩
def agG(i:Nat){x y:Str}{py:Pos}{n k:Nat}{mf:List D->List D->R (D×List D)}(c:UA X.prog X.w X.K X.AA X.base x n k mf)(AS:Bz k X.A)(A2:Ew X F es ma)(hN:X.N[i]?=some y:=by rfl)(Az:Gx X.env.scope y:=by first|exact DX rfl|exact CY (DX rfl)|exact CY (CY rfl))(hd:(y==("__debug__" :Str))=false:=by decide)(Dh:(y==("__classdict__" :Str))=false:=by decide)(Ag:F.K=X.K:=by rfl)(AQ:DK X x:=by rfl)(FD:(x==("__debug__" :Str))=false:=by decide)(he:Aw (.Name y py::es) X.env=(false,BC (.Name y py) X.env)::Aw es X.env:=by rfl)(D0:(CW pos (Aw es X.env)).any (·.1)=false:=by rfl):GD X F (.Call (.Name x p) (.Name y py::es) [] pos) (JD i n mf ma):=⟨by
 have A2:=A2.1;obtain⟨f,fd,ps,EB,hm,AG,J⟩:=c.ex;refine Al.imp (SU EB AS AQ hm AG J .nil RL (Jl (HG hN Az hd Dh) A2 he) FD he D0) ?_;rw[<-Ag];exact wW⟩
def agH(j:Nat){scope:DT}{x y:Str}{D5:Pos}{mi:Ad}{D3:Cz}(S:O1 X.env.scope X.N scope [x,y] 1 [j]=true)(A0:MC X F (.Name x D5) iter mi)(he:∀cl C s H Ae BD Ak,GD (E_ X scope [x,y] cl C s H Ae) (Cw X.K BD Ak) elt D3)(hN:[x,y].Nodup:=by decide+kernel)(AF:(KC scope X.env).names.lookup x=some .local:=by rfl)(AB:X.calm=true:=by rfl)(Ag:F.K=X.K:=by rfl)(hs:∀x,JS iter X.env x=pure x:=by intro _;rfl):GD X F (.ListComp elt [⟨.Name x D5,iter,[],0⟩] scope pos) (Mg j mi D3):=
 ⟨Cj.uT j S A0.1 (λcl C s H Ae BD Ak=>(he cl C s H Ae BD Ak).1) hN AF AB Ag hs⟩
end
def afL(P:BR)(w:BA){K:AT}(AA:Str->Option U)(base:Aq){x Ed Fm:Str}{st:BG}{N ps:List Str}(k:Nat)(m:B6)(d:D1 K AA x st (Ed::ps))(S:C2 (Fm::N) (Ed::ps) (BP st))(h:∀(f:Z)(BV:U)(A:Bk)(outer:List Env)(s:AD)(H:A4)(E:CS),Bz k (A.deeper (K4 x (BP st) s.heap.objs.size f BV))->∀BD Ak,IF (EE FJ P w K AA base (Fm::N) x (BP st) f BV A outer s H E).Fn (Cw K BD Ak) (FA st) m) :
  Y1 P w K AA base x ps.length (k+1) (V4 (N.length+1) m):=Cj.v7 d S λf BV A outer s H E AS BD Ak=>(h f BV A outer s H E AS BD Ak).1
def GA.inj{K:AT}{c:Str}{C MQ:Z}(h:GA K c C)(h':GA K c MQ):C=MQ:=by unfold GA at h h';rw[h]at h';cases h';rfl
theorem o4{K:AT}{G:A4}{f:Str}{d:D}:∀{xs:List (Str×V)}{ds:List D},AP K G ds (xs.map (·.2))->((xs.map (·.1)).zip ds).lookup f=some d->∃v,xs.lookup f=some v/\At K G d v
 |[],_,_,e=>by simp at e
 |(k,v)::xs,[],h,_=>by have:=h.length;simp at this
 |(k,v)::xs,e::ds,h,l=>by
  simp only[DP,AP]at h;obtain⟨Ig,r,A1,a,t⟩:=h;cases A1;simp only[DP,ND,Wq]at l |-;cases AG:f==k with
  |true=>rw[AG]at l;cases l;exact⟨v,rfl,a⟩
  |false=>rw[AG]at l;exact o4 t l
theorem bk{f:Str}:∀{xs:List (Str×V)},(xs.map (·.1)).all (λk=>!(f==k))=true->xs.lookup f=none
 |[],_=>rfl
 |(k,v)::xs,h=>by simp only[DP,NF,FR,fc]at h;rw[Wq,h.1];exact bk (by simpa using h.2)
structure Xt(K:AT)(c:Str)(Am:List Str):Prop where
 ex:∃C,GA K c C/\Ju K C/\∀f∈Am,Qo K C f
noncomputable def Eu(c f:Str):D->R D
 |.ins E1 ns ds=>if E1=c then match(ns.zip ds).lookup f with
  |some d=>.ok d
  |none=>.bad
  else .bad
 |_=>.bad
section
variable{X:AX}{F:B5}{e a b c o:AN}{es:List AN}{pos p:Pos}{m n:AY}{ma:Ad}
structure Na(P:BR)(w:BA)(K:AT)(AA:Str->Option U)(base:Aq)(BX mt:Str)(n k:Nat)(mf:List D->R Bf):Prop where
 ex:∃(C f:Z)(fd:FH)(ps:List Str),GA K BX C/\Ju K C/\Meth K C mt f/\Fu P w K AA base FJ k f fd ps (Lz K (n+1) mf)/\Binds K fd ps []
def Nq(BX mt:Str):D->R D
 |.ins E1 ns ds=>if E1=BX/\ns.all (λk=>!(mt==k))=true then .ok (.ins E1 ns ds)else .bad
 |_=>.bad
def IX(BX mt:Str)(n:Nat)(mf:List D->R Bf)(o:AY)(ma:Ad):AY:=λρ=>(o ρ).bind λd=>(Nq BX mt d).bind λd=>(ma ρ).bind λds=>if ds.length=n then(mf (d::ds)).bind HJ else .bad
def yJ{BX mt:Str}{n:Nat}{mf:List D->R Bf}{C:Z}{E:CS}(A5:F.EX=λ_ _=>False)(IJ:GA F.K BX C):Dq (CN F (IX BX mt n mf m ma)) (aC C mt (Lz F.K (n+1) mf) [] E (CN F m) (EL F ma)):=by
 rintro σ H Q ⟨G,ρ,r,h⟩;unfold IX at h;refine⟨G,ρ,r,?_⟩;refine rb h λd Aa h x H1 AV A6 s1 BU=>?_;cases d with
 |ins E1 ns ds=>
  simp only[Nq]at h
  split at h
  .rename_i AB;obtain⟨PT,Gm⟩:=AB;subst PT;have UO:=BU;simp only[At]at BU;obtain⟨q,Av,xs,rfl,⟨MQ,c1,g1⟩,rfl,al⟩:=BU;have:=c1.inj IJ;subst this;refine⟨q,Av,xs,rfl,A6.AJ.sub _ _ g1,bk Gm,AV,ρ,A6,?_⟩;rw[R.DH]at h;refine rb h λes B7 h vs Ab Bl AZ s2 Au=>?_;by_cases AR:es.length=n
   .rw[if_pos AR]at h;rw[K0];exact q0 (xe:=λ_ _ _=>False) A5 AZ (.cons (UO.mono s2.g) Au) (by simp[AR]) (h.mono (s1.trans s2))
   .rw[if_neg AR]at h;cases h
  .exact h.elim
 |_=>cases h
noncomputable def cX:D->Option Key
 |.int i=>some (.inl i)
 |.str x=>some (.inr x)
 |_=>none
def Yj:List D->Option (List Key)
 |[]=>some []
 |d::ds=>match cX d,Yj ds with
  |some k,some ks=>some (k::ks)
  |_,_=>none
def cD:D->Option Jw
 |.tup ds=>(Yj ds).map .inr
 |d=>(cX d).map .inl
def ZE:List D->Option C8
 |[]=>some []
 |d::ds=>match cD d,ZE ds with
  |some k,some ks=>some (k::ks)
  |_,_=>none
def Mc:D->Option C8
 |.tup ds=>ZE ds
 |_=>none
def md{K:AT}{G:A4}{d:D}{v:V}{k:Key}(e:cX d=some k)(a:At K G d v):v=Cu k:=by
 cases d<;>first
  |(cases e;done)
  |(cases e;simp only[At]at a;exact a)
theorem mg{K:AT}{G:A4}:∀{ds:List D}{vs:List V}{ks:List Key},Yj ds=some ks->AP K G ds vs->vs=ks.map Cu
 |[],_,_,e,a=>by simp only[AP]at a;subst a;cases e;rfl
 |d::ds,_,_,e,a=>by
  simp only[AP]at a;obtain⟨v,r,rfl,Au,ME⟩:=a;unfold Yj at e
  split at e
  .rename_i k ks A1 A7;cases e;rw[md A1 Au,mg A7 ME];rfl
  .cases e
def aab{K:AT}{G:A4}{d:D}{v:V}{k:Jw}(e:cD d=some k)(a:At K G d v):NV G k v:=by
 unfold cD at e
 split at e
 .obtain⟨ks,A1,rfl⟩:=Option.map_eq_some_iff.mp e;simp only[At]at a;obtain⟨b,xs,rfl,J,al⟩:=a;exact⟨b,rfl,by rw[J,mg A1 al]⟩
 .obtain⟨k,A1,rfl⟩:=Option.map_eq_some_iff.mp e;exact md A1 a
theorem oN{K:AT}{G:A4}:∀{ds:List D}{vs:List V}{ks:C8},ZE ds=some ks->AP K G ds vs->Paired (NV G) ks vs
 |[],_,_,e,a=>by simp only[AP]at a;subst a;cases e;exact .nil
 |d::ds,_,_,e,a=>by
  simp only[AP]at a;obtain⟨v,r,rfl,Au,ME⟩:=a;unfold ZE at e
  split at e
  .rename_i k ks A1 A7;cases e;exact .cons (aab A1 Au) (oN A7 ME)
  .cases e
def Ut{K:AT}{G:A4}{d:D}{v:V}{ks:C8}(e:Mc d=some ks)(a:At K G d v):∃b,v=.ref b/\Jx G ks b:=by
 cases d with
 |tup ds=>simp only[At]at a;obtain⟨b,xs,rfl,J,al⟩:=a;exact⟨b,rfl,xs,J,oN e al⟩
 |_=>cases e
def Vb{G H:A4}{k:C8}{a:Z}(h:Jx G k a)(s:Sub G H):Jx H k a:=h.mono λb xs e=>s b _ e
theorem dw{κ:Type}[DecidableEq κ](k:κ):∀Ay:List (κ×V),(Gj Ay k).isSome=(Ay.map (·.1)).any (λx=>decide (x=k))
 |[]=>rfl
 |(x,v)::Ay=>by
  have Bg:=dw k Ay;unfold Gj at Bg |-;rw[Kp,DP,Px];by_cases h:x=k
  .simp[h]
  .simp only[h,decide_false,Bool.false_or];exact Bg
def GF(b:Bool)(k d:D):R D:=match d with
 |.BN ks _=>match Mc k with
  |some Bh=>.ok (.AO (if b then ks.any (λx=>decide (x=Bh))else !ks.any (λx=>decide (x=Bh))))
  |none=>.bad
 |_=>.bad
def jP{b:Bool}{σ :St}{ρ:A8}{G H:A4}{y x:V}{Mx dd:D}{Q:Br}(r:Rel F G H σ ρ)(CJ:At F.K G Mx y)(BU:At F.K G dd x)(h:Hq F G H σ ρ Q (GF b Mx dd)) :
  ∃a o,x=.ref a/\J3 H a y o/\Q (.AO (if b then o.isSome else !o.isSome)) H:=by
 unfold GF at h
 split at h
 .rename_i ks ds
  split at h
  .rename_i Bh Ck;simp only[At]at BU;obtain⟨a,xs,rfl,AQ,rfl,al⟩:=BU;obtain⟨q,rfl,Ac⟩:=Ut Ck CJ;refine⟨a,Gj xs Bh,rfl,J3.t (r.AJ.sub _ _ AQ) (Vb Ac r.AJ.sub),?_⟩;rw[dw];exact h _ H G r (Bn.refl _ _) (by simp only[At])
  .exact h.elim
 .exact h.elim
def n2:Dq (CN F (AK (GF true) m n)) (r6 (CN F m) (CN F n)):=by rintro σ H Q ⟨G,ρ,r,h⟩;unfold AK at h;refine⟨G,ρ,r,?_⟩;refine rb h λMx Aa h y H1 AV A6 s1 CJ=>?_;refine⟨AV,ρ,A6,?_⟩;refine rb h λdd B7 h x Ab Bl AZ s2 BU=>?_;exact jP (b:=true) AZ (CJ.mono s2.g) BU (h.mono (s1.trans s2))
def n3:Dq (CN F (AK (GF false) m n)) (r7 (CN F m) (CN F n)):=by rintro σ H Q ⟨G,ρ,r,h⟩;unfold AK at h;refine⟨G,ρ,r,?_⟩;refine rb h λMx Aa h y H1 AV A6 s1 CJ=>?_;refine⟨AV,ρ,A6,?_⟩;refine rb h λdd B7 h x Ab Bl AZ s2 BU=>?_;exact jP (b:=false) AZ (CJ.mono s2.g) BU (h.mono (s1.trans s2))
def Sk(i:Nat):B6:=λρ=>if i<ρ.length then .ok (.BK (ρ.set i (.ob (.BN [] []))))else .bad
noncomputable def SZ:List C8->List D->C8->D->List D
 |k::ks,d::ds,Bh,v=>(if k=Bh then v else d)::SZ ks ds Bh v
 |_,_,_,_=>[]
def putD(ks:List C8)(ds:List D)(Bh:C8)(d:D):R L2:=if ks.any (λx=>decide (x=Bh))=false/\ks.length<1000000 then .ok (.BN (ks++[Bh]) (ds++[d]))else if ks.any (λx=>decide (x=Bh))=true/\ks.length<1000000 then .ok (.BN ks (SZ ks ds Bh d))else .bad
def Mh(i:Nat)(mk mv:AY):B6:=λρ=>(mv ρ).bind λv=>match ρ[i]? with
 |some (.ob (.BN ks ds))=>(mk ρ).bind λk=>match Mc k with
  |some Bh=>(putD ks ds Bh v).bind λo=>.ok (.BK (ρ.set i (.ob o)))
  |none=>.bad
 |_=>.bad
def LM(m:AY):B6:=λρ=>(m (Em ρ)).bind λd=>.ok (.DB d)
def bt:B6:=λ_=>.bad
end
mutual
noncomputable def Kj:D->Bool
 |.ins _ _ _=>false
 |.tup ds=>LN ds
 |.lst ds=>LN ds
 |.Cd ds=>LN ds
 |.DM _ ds=>LN ds
 |.BN _ ds=>LN ds
 |.EQ ds=>LN ds
 |_=>true
noncomputable def LN:List D->Bool
 |[]=>true
 |d::ds=>Kj d&&LN ds
end
def VY:D2->Bool
 |.ins _ _ _=>true
 |_=>false
section
variable{K:AT}{G G':A4}
def FV.off(h:∀b o,G b=some o->VY o=false->G' b=some o){a:Z}{u:D2}(B0:VY u=false)(r:FV G a u):FV G' a u:=by
 rcases r with r|⟨o,r⟩
 .exact .inl (h _ _ r B0)
 .exact .inr ⟨o,h _ _ r rfl⟩
mutual
theorem At.off(h:∀b o,G b=some o->VY o=false->G' b=some o):∀{d:D}{v:V},Kj d=true->At K G d v->At K G' d v
 |.non,_,_,q=>by simpa only[At]using q
 |.AO _,_,_,q=>by simpa only[At]using q
 |.int _,_,_,q=>by simpa only[At]using q
 |.str _,_,_,q=>by simpa only[At]using q
 |.tup _,_,n,q=>by simp only[At,Kj]at q n |-;obtain⟨a,xs,e,g,r⟩:=q;exact⟨a,xs,e,h _ _ g rfl,AP.off h n r⟩
 |.lst _,_,n,q=>by simp only[At,Kj]at q n |-;obtain⟨a,xs,e,g,r⟩:=q;exact⟨a,xs,e,h _ _ g rfl,AP.off h n r⟩
 |.Cd _,_,n,q=>by
  simp only[At,Kj]at q n |-;obtain⟨a,xs,e,g,r⟩:=q;refine⟨a,xs,e,?_,AP.off h n r⟩;rcases g with g|g
  .exact .inl (FV.off h rfl g)
  .exact .inr g
 |.EQ _,_,n,q=>by
  simp only[At,Kj]at q n |-;obtain⟨a,xs,e,g,r⟩:=q;refine⟨a,xs,e,?_,AP.off h n r⟩;rcases g with g|g
  .exact .inl (FV.off h rfl g)
  .exact .inr g
 |.DM _ _,_,n,q=>by simp only[At,Kj]at q n |-;obtain⟨a,xs,e,g,k,r⟩:=q;exact⟨a,xs,e,h _ _ g rfl,k,AP.off h n r⟩
 |.BN _ _,_,n,q=>by simp only[At,Kj]at q n |-;obtain⟨a,xs,e,g,k,r⟩:=q;exact⟨a,xs,e,h _ _ g rfl,k,AP.off h n r⟩
 |.ins _ _ _,_,n,_=>by simp only[Kj]at n;cases n
 |.QV _,_,n,q=>by simp only[At]at q |-;obtain⟨a,xs,e,⟨C,c1,g⟩,r⟩:=q;exact⟨a,xs,e,⟨C,c1,h _ _ g rfl⟩,r⟩
theorem AP.off(h:∀b o,G b=some o->VY o=false->G' b=some o):∀{ds:List D}{vs:List V},LN ds=true->AP K G ds vs->AP K G' ds vs
 |[],_,_,q=>by simpa only[AP]using q
 |_::_,_,n,q=>by simp only[AP,LN,FR]at q n |-;obtain⟨v,r,e,a,t⟩:=q;exact⟨v,r,e,At.off h n.1 a,AP.off h n.2 t⟩
end
end
noncomputable def aet:C4->Bool
 |.ob (.ins _ _ _)=>true
 |.ob _=>false
 |.DF _=>false
 |.D4 _ _=>false
 |_=>true
def be(ρ:A8):Bool:=ρ.all aet
def Qh(m:AY):AY:=λρ=>(m (Em ρ)).bind λd=>if Kj d=true/\be ρ=true then .ok d else .bad
section
variable{F:B5}
open Classical in
noncomputable def LC(H:A4)(σ :St)(ρ:A8)(G:A4):A4:=λb=>if C3 H σ ρ b then none else G b
def x5{m:AY}:Dq (CN F (Qh m)) (CN F m):=by
 rintro σ H Q ⟨G,ρ,r,h⟩;refine⟨Ja σ ρ G H,Em ρ,r.plus,?_⟩;unfold Qh at h;refine rb h λd Aa h v H' G' B2 s' a=>?_;by_cases hd:Kj d=true/\be ρ=true
 .rw[if_pos hd]at h;have Vm:∀b,C3 H σ ρ b->G b=none:=λb z=>(r.foot z).2.1;have Vl:∀b,C3 H σ ρ b->F.Ak b=none:=λb z=>(r.foot z).2.2;have dN:∀b,C3 H σ ρ b->∃AE,H b=some AE/\VY AE=true:=λb⟨i,s,o,A1,A7,f⟩=>by
   have A0:=List.all_eq_true.mp hd.2 _ (EU A1);cases s with
   |un=>cases f
   |AI _=>cases f
   |DF _=>cases A0
   |D4 _ _=>cases A0
   |ob ob=>
    have f:o=some (.ref b):=f;obtain⟨c,AE,B8,h1,_,_,h4⟩:=r.obj A1;rw[A7,f]at B8;cases B8;cases ob with
    |lst _=>cases A0
    |BN _ _=>cases A0
    |ins _ _ _=>obtain⟨C,Av,xs,_,rfl,_⟩:=h4;exact⟨_,h1,rfl⟩
  have off:∀b,¬C3 H σ ρ b->LC H σ ρ G' b=G' b:=λb n=>by unfold LC;rw[if_neg n]
  have on:∀b,C3 H σ ρ b->LC H σ ρ G' b=none:=λb n=>by unfold LC;rw[if_pos n]
  have Ar:Sub G (LC H σ ρ G'):=λb o e=>by
   have n:¬C3 H σ ρ b:=λz=>by rw[Vm b z]at e;cases e
   rw[off b n];exact s'.g b o (Yp r b o e)
  have cU:∀b,C3 H σ ρ b->∀o,H b=some o->H' b=some o:=λb z o e=>B2.AJ.sub _ _ (s'.g _ _ (by rw[PR z];exact e));have rel:Rel F (LC H σ ρ G') H' σ ρ:=by
   refine r.over rfl ⟨λb o e=>?_,r.AJ.DU.trans Ar,B2.AJ.B1,λb J=>?_⟩ Ar λb BQ=>?_
   .by_cases n:C3 H σ ρ b
    .rw[on b n]at e;cases e
    .rw[off b n]at e;exact B2.AJ.sub b o e
   .have n:¬C3 H σ ρ b:=λz=>J.1 (Vl b z);rw[off b n];exact B2.AJ.new b J
   .refine⟨?_,on b BQ,Vl b BQ⟩;cases B7:H b with
    |none=>exact absurd B7 (r.foot BQ).1
    |some o=>exact cU b BQ o B7
  refine h v H' _ rel ⟨Ar,s'.h,λb J=>?_⟩ (At.off (λb o e A0=>?_) hd.1 a)
  .by_cases n:C3 H σ ρ b
   .rw[on b n,Vm b n]
   .rw[off b n,s'.n b J];unfold Ja;rw[if_neg n]
  .have n:¬C3 H σ ρ b:=λz=>by
     obtain⟨AE,A1,A7⟩:=dN b z;have:=s'.g b AE (by rw[PR z];exact A1);rw[e]at this;cases this;rw[A0]at A7;cases A7
   rw[off b n];exact e
 .rw[if_neg hd]at h;cases h
abbrev Iv:=A8->R A8
def ye(F:B5)(σ :St)(Bw:Ends):R A8->Prop
 |.ok B9=>∀G' H',Rel F G' H' σ B9->Bw.BK σ H'
 |.exc c=>Jg F c
 |.bad=>False
def Nt(F:B5)(m:Iv):Ei:=λBw σ H=>∃G ρ,Rel F G H σ ρ/\ye F σ Bw (m ρ)
def Mj(a b:Iv):Iv:=λρ=>(a ρ).bind b
def xv{a b:Iv}:GB (Nt F (Mj a b)) (V_ (Nt F a) (Nt F b)):=by
 rintro Bw σ H ⟨G,ρ,r,h⟩;unfold Mj at h;refine⟨G,ρ,r,?_⟩;cases Aa:a ρ with
 |bad=>rw[Aa]at h;cases h
 |exc c=>rw[Aa]at h;exact h
 |ok ρ1=>rw[Aa,R.DH]at h;exact λG' H' B2=>⟨G',ρ1,B2,h⟩
def Oz(c:C7):Iv:=λρ=>(c ρ).bind λk=>if k=true then .bad else .ok ρ
def yA{c:C7}:GB (Nt F (Oz c)) (e8 (Fp F c) rB e9):=by
 rintro Bw σ H ⟨G,ρ,r,h⟩;unfold Oz at h;refine⟨G,ρ,r,?_⟩;refine rb h λk Aa h H1 AV A6 s1=>?_;cases k with
 |true=>cases h
 |false=>exact h AV H1 A6
theorem dT{f:Str}{v:V}:∀{Am:List (Str×V)},(Am.map (·.1)).all (λk=>!(f==k))=true->HH f v Am=Am++[(f,v)]
 |[],_=>rfl
 |(g,x)::Am,h=>by
  simp only[DP,NF,FR,fc]at h;have ne:g≠f:=λz=>by subst z;simp at h
  rw[HH,if_neg ne,dT (by simpa using h.2)];rfl
def Kh(BX f:Str)(m:AY):Iv:=λρ=>(m ρ).bind λd=>match(ρ[0]? :Option C4)with
 |some (.ob (.ins E1 ns ds))=>if E1=BX/\ns.all (λk=>!(f==k))=true/\ns.length<1000 then .ok (ρ.set 0 (.ob (.ins BX (ns++[f]) (ds++[d]))))else .bad
 |_=>.bad
end
section
variable{X:AX}{F:B5}{e o:AN}{pos:Pos}{m:AY}
def ae9{BX f x:Str}{Am:List Str}{D5 pos':Pos}(k:Xt X.K BX Am)(he:J4 X F e m)(hf:f∈Am:=by decide+kernel)(hN:X.N[0]?=some x:=by rfl)(Az:Gx X.env.scope x:=by first|exact DX rfl|exact CY (DX rfl)|exact CY (CY rfl))(hd:(x==("__debug__" :Str))=false:=by decide)(Dh:(x==("__classdict__" :Str))=false:=by decide)(hs:PE e=true:=by rfl)(Ag:F.K=X.K:=by rfl) :
  Cf X (.Assign [.Attribute (.Name x D5) f pos'] e pos) (Nt F (Kh BX f m)):=by
 refine Cf.imp (ad7 (HG hN Az hd Dh) he (M1 _ _ _ _ hs)) ?_;rintro Bw σ H ⟨G,ρ,r,h⟩;unfold Kh at h;refine⟨G,ρ,r,?_⟩;refine rb h λd Aa h v H1 AV A6 s1 Au=>?_
 split at h
 .rename_i E1 ns ds CO
  split at h
  .rename_i AB;obtain⟨rfl,Gm,vm⟩:=AB;obtain⟨q,AE,A1,h1,h2,h3,C,Av,xs,c1,rfl,rfl,al⟩:=A6.obj CO;obtain⟨MQ,k1,k2,k3⟩:=k.ex;rw[Ag]at c1;have:=c1.inj k1;subst this;refine⟨.ref q,A1,q,C,Av,xs,rfl,h1,k2,k3 f hf,by simpa using vm,?_⟩;refine h AV _ (A6.ZB CO A1 ⟨C,Av,HH f v xs,by rw[Ag];exact c1,rfl,?_,?_⟩)
   .rw[dT Gm];simp
   .rw[dT Gm,Po];exact al.snoc Au
  .exact h.elim
 .exact h.elim
end
def mU(F:B5)(x C:Z)(Q:Br):R (List Str×List D)->Prop
 |.ok (ns,ds)=>∀Av xs G' H',E4 F G' H'->G' x=none->H' x=some (.ins C Av xs)->xs.map (·.1)=ns->AP F.K G' ds (xs.map (·.2))->Q .non H'
 |.exc _=>False
 |.bad=>False
def W3(K:AT)(BX:Str)(n:Nat)(mf:List D->R (List Str×List D)):IE:=λvs H Q E=>∃G x C Av es ws,vs=.ref x::ws/\GA K BX C/\H x=some (.ins C Av [])/\G x=none/\Sub G H/\AP K G es ws/\es.length=n/\mU ⟨K,G,del H x,λ_ _=>False,Gc⟩ x C Q (mf es)
def V9(BX:Str)(n:Nat)(mf:List D->R (List Str×List D))(ma:Ad):AY:=λρ=>(ma ρ).bind λds=>if ds.length=n then(Ep (mf ds)).bind λx=>.ok (.ins BX x.1 x.2)else .bad
section
variable{X:AX}{F:B5}{e:AN}{es:List AN}{pos p:Pos}{ma:Ad}
def yI{BX:Str}{n:Nat}{mf:List D->R (List Str×List D)}{C:Z}{E:CS}(IJ:GA F.K BX C):Dq (CN F (V9 BX n mf ma)) (rA C (W3 F.K BX n mf) [] E (EL F ma)):=by
 rintro σ H Q ⟨G,ρ,r,h⟩;unfold V9 at h;refine⟨G,ρ,r,?_⟩;refine rb h λds Aa h vs H1 AV A6 s1 Au x Av A5 vv ne=>?_;by_cases AR:ds.length=n
 .rw[if_pos AR]at h;rw[K0];have dm:Sub H1 (del (upd (upd H1 Av (.own x)) x (.ins C Av [])) x):=λb o e=>by
   have CQ:b≠x:=λz=>by rw[z,A5]at e;cases e
   have C0:b≠Av:=λz=>by rw[z,vv]at e;cases e
   rw[OX CQ,Co CQ,Co C0];exact e
  have ae6:Sub AV (upd (upd H1 Av (.own x)) x (.ins C Av [])):=A6.AJ.sub.trans (dm.trans (UV _ _));refine⟨AV,x,C,Av,ds,vs,rfl,IJ,DO,A6.AJ.sub.gone A5,ae6,Au,AR,?_⟩;cases em:mf ds with
  |bad=>rw[em]at h;cases h
  |exc c=>rw[em]at h;cases h
  |ok y=>obtain⟨ns,es'⟩:=y;rw[em]at h;intro QR xs G' H' k g1 g2 g3 FX;refine⟨rfl,?_⟩;have B1:Sub H1 H':=dm.trans k.B1;have nw:∀b,FT H1 b->G' b=AV b:=λb J=>k.new b (dm.Hu J);have AZ:Rel F G' H' σ ρ:=A6.grow k.DU k.sub B1 nw;have no:¬C3 H' σ ρ x:=C3.fresh A6 B1 A5;refine h (.ref x) H' _ (AZ.take g2 g1 (A6.AJ.B1.gone A5) no) ((s1.trans ⟨k.DU,B1,nw⟩).put (s1.h.gone A5) g1) ?_;simp only[At];exact⟨x,QR,xs,rfl,⟨C,IJ,DO⟩,g3,FX.mono (Sub.upd g1)⟩
 .rw[if_neg AR]at h;cases h
structure gi(P:BR)(w:BA)(K:AT)(AA:Str->Option U)(base:Aq)(BX:Str)(n k:Nat)(mf:List D->R (List Str×List D)):Prop where
 ex:∃(C f:Z)(fd:FH)(ps:List Str),GA K BX C/\Y2 K C f/\Fu P w K AA base FJ k f fd ps (W3 K BX n mf)/\AA BX=some (.ref C)/\Binds K fd ps []
end
noncomputable def Kd(BX:Str)(es:List D):A8:=.ob (.ins BX [] [])::es.map .AI
noncomputable def outI(BX:Str):R A8->R (List Str×List D)
 |.ok (.ob (.ins c ns ds)::_)=>if c=BX then .ok (ns,ds)else .bad
 |_=>.bad
def acH{K:AT}{G H:A4}{EX:Str->A4->Prop}{BX:Str}{C Av x:Z}{es:List D}{ws:List V}(IJ:GA K BX C)(h1:H x=some (.ins C Av []))(h2:G x=none)(s:Sub G H)(Au:AP K G es ws) :
  Rel ⟨K,G,del H x,EX,Gc⟩ G H (some (.ref x)::ws.map some) (Kd BX es):=by
 refine⟨⟨s,Sub.refl _,UV H x,λ_ _=>rfl⟩,by simp[Kd,Au.length],λi t e=>?_,λi j b Am Yl o BM DD CP _ _ f PM=>?_⟩
 .cases i with
  |zero=>simp[Kd]at e;subst e;exact⟨some (.ref x),by simp,x,_,rfl,h1,h2,UU,C,Av,[],IJ,rfl,rfl,.nil⟩
  |succ i=>
   simp only[Kd,Rc]at e |-;rw[EH]at e;cases E2:es[i]? with
   |none=>rw[E2]at e;cases e
   |some d=>rw[E2]at e;cases e;obtain⟨v,A1,a⟩:=Au.get E2;exact⟨some v,by rw[EH,A1];rfl,v,rfl,a⟩
 .have one:∀{i:Nat}{Am:C4}{o:Option V},(Kd BX es)[i]?=some Am->F7 H Am o b->i=0:=λ{i Am o} e f=>by
    cases i with
    |zero=>rfl
    |succ i=>
     simp only[Kd,Rc,EH]at e;cases E2:es[i]? with
     |none=>rw[E2]at e;cases e
     |some d=>rw[E2]at e;cases e;cases f
  rw[one DD f,one CP PM]
def xb{K:AT}{BX:Str}{n:Nat}{m:Iv}{vs:List V}{H:A4}{Q:Br}{E:CS}(h:W3 K BX n (λes=>outI BX (m (Kd BX es))) vs H Q E) :
  ∃G Ak,Nt (Cw K G Ak) m { BK:=λ_ H'=>Q .non H',DB:=Q } (vs.map some) H:=by
 obtain⟨G,x,C,Av,es,ws,rfl,IJ,h1,h2,s,Au,l,k⟩:=h;refine⟨G,del H x,G,Kd BX es,acH IJ h1 h2 s Au,?_⟩;replace k:mU ⟨K,G,del H x,λ_ _=>False,Gc⟩ x C Q (outI BX (m (Kd BX es))):=k;cases em:m (Kd BX es)with
 |bad=>rw[em]at k;cases k
 |exc c=>rw[em]at k;cases k
 |ok B9=>
  rw[em]at k;intro G' H' r;unfold outI at k
  split at k
  .rename_i aj0 ns ds FY heq;cases heq;obtain⟨a,AE,A1,g1,g2,g3,MQ,QR,xs,c1,rfl,A7,al⟩:=r.obj (i:=0) rfl;have A1:some (some (V.ref x))=some (some (V.ref a)):=A1;cases A1
   split at k
   .rename_i AB;subst AB;have:=c1.inj IJ;subst this;exact k QR xs G' H' r.AJ g2 g1 A7 al
   .exact k.elim
  .exact k.elim
end Cj
namespace Cj
open PySem PySem.Spec CE PyProof.Rows
def px{K:AT}{BX:Str}{n:Nat}{mf:List D->R (List Str×List D)}:∀vs H Q E,W3 K BX n mf vs H Q E->vs.length=n+1:=λvs H Q E h=>by obtain⟨G,x,C,Av,es,ws,rfl,_,_,_,_,q,l,_⟩:=h;rw[FQ,<-q.length,l]
def aeV{N:List Str}{vs:List V}(h:vs.length=N.length):CE.start N vs=vs.map some:=by unfold CE.start;simp[h]
def yO{P:BR}{w:BA}{K:AT}{AA:Str->Option U}{base:Aq}{x qual BX Ed:Str}{st:BG}{ps:List Str}{k:Nat}{m:Iv}{f:Z}{fd:FH}(fn:M7 K x qual st f fd)(S:C2 (Ed::ps) (Ed::ps) (BP st))(h:∀(f:Z)(BV:U)(A:Bk)(outer:List Env)(s:AD)(H:A4)(E:CS),Bz k (A.deeper (K4 qual (BP st) s.heap.objs.size f BV))->∀BD Ak,FU (EE FJ P w K AA base (Ed::ps) qual (BP st) f BV A outer s H E).Fn (FA st) (Nt (Cw K BD Ak) m)) :
  Fu P w K AA base FJ (k+1) f fd (Ed::ps) (W3 K BX ps.length λes=>outI BX (m (Kd BX es))):=fn.ok S px λBV A outer s H vs Q E AS hs=>by
 have AF:=px vs H Q E hs;obtain⟨G,Ak,BF⟩:=xb hs;refine⟨_,h f BV A outer s H E AS G Ak,?_⟩;rw[aeV (by simpa using AF)];exact BF
def zQ{P:BR}{w:BA}{K:AT}{AA:Str->Option U}{base:Aq}{x qual BX Ed:Str}{st:BG}{N ps:List Str}{k:Nat}{m:B6}{C f:Z}{fd:FH}(fn:M7 K x qual st f fd)(IJ:GA K BX C)(AB:Ju K C)(hm:Meth K C x f)(J:Binds K fd (Ed::ps) [])(S:C2 N (Ed::ps) (BP st))(h:∀(f:Z)(BV:U)(A:Bk)(outer:List Env)(s:AD)(H:A4)(E:CS),Bz k (A.deeper (K4 qual (BP st) s.heap.objs.size f BV))->∀BD Ak,IF (EE FJ P w K AA base N qual (BP st) f BV A outer s H E).Fn (Cw K BD Ak) (FA st) m) :
  Na P w K AA base BX x ps.length (k+1) (Cx N.length m):=by
 refine⟨C,f,fd,Ed::ps,IJ,AB,hm,fn.ok S ZA λBV A outer s H vs Q E AS hs=>?_,J⟩;obtain⟨G,BF⟩:=Xd hs;exact⟨_,(h f BV A outer s H E AS G H).1,BF⟩
section
variable{X:AX}{F:B5}{e a b c:AN}{es:List AN}{pos p:Pos}{m n:AY}{ma:Ad}
noncomputable def Qx:List D->R D
 |[.lst xs]=>.ok (.tup xs)
 |[.Cd xs]=>.ok (.tup xs)
 |[.tup xs]=>.ok (.tup xs)
 |_=>.bad
def abx(Ag:F.K=X.K):NY F (λxs H Q=>∃p ys,xs=[.ref p]/\((Bb X.K H p ys/\∀l,H l=none->Q (.ref l) (upd H l (.tup ys)))\/(CA X.K H p ys/\Q (.ref p) H))) Qx:=by
 intro σ ρ G H xs ds Q r al k;unfold Qx at k
 split at k
 .obtain⟨v,rfl,Au⟩:=al.one;simp only[At]at Au;obtain⟨q,ys,rfl,Ac,EY⟩:=Au;refine⟨q,ys,rfl,.inl ⟨Bb.of (r.AJ.sub _ _ Ac),λl AF=>?_⟩⟩;refine k (.ref l) _ _ (r.lay AF) (Bn.lay r.AJ.sub AF) ?_;simp only[At];exact⟨l,ys,rfl,DO,EY.mono (Sub.upd (r.AJ.sub.gone AF))⟩
 .obtain⟨v,rfl,Au⟩:=al.one;simp only[At]at Au;obtain⟨q,ys,rfl,Ac,EY⟩:=Au;refine⟨q,ys,rfl,.inl ⟨by rw[<-Ag];exact Bb.mono r.AJ.sub Ac,λl AF=>?_⟩⟩;refine k (.ref l) _ _ (r.lay AF) (Bn.lay r.AJ.sub AF) ?_;simp only[At];exact⟨l,ys,rfl,DO,EY.mono (Sub.upd (r.AJ.sub.gone AF))⟩
 .obtain⟨v,rfl,Au⟩:=al.one;have sU:=Au;simp only[At]at Au;obtain⟨q,ys,rfl,Ac,EY⟩:=Au;exact⟨q,ys,rfl,.inr ⟨CA.of (r.AJ.sub _ _ Ac),k _ H G r (Bn.refl _ _) sU⟩⟩
 .exact k.elim
end
end Cj
namespace DL
open PySem PyProof.Rows
section
variable{prog:BR}{w:BA}{A:Bk}{E:U->AD->Prop}{s:AD}
def tq{t b:Z}{ws:List U}{Q:U->AD->Prop}(BF:IsTup s.heap t ([]:List U).toArray)(J:IsTup s.heap b ws.toArray)(h:Q (.ref b) s):AU (Ai prog w) A (Ip .Add (.ref t) (.ref b)) Q E s:=by
 obtain⟨⟨cls,dd,data,BY⟩,AE,AB,n,hd⟩:=id BF;obtain⟨⟨tx,T4,data2,LR⟩,Ka,Gm,C0,hd2⟩:=id J;simp only at AB hd Gm hd2;subst AB hd Gm hd2
 exact concat_meets ⟨_,AE,rfl⟩ ⟨_,Ka,rfl⟩ fj seq_tuple_add fU fC (fH _ _)
  (tuple_addW0 t b ([]:List U).toArray ws.toArray n C0 dd T4 BY LR (by simp)) ⟨AE,Ka,h⟩
end
end DL
namespace CE
open PySem PySem.Spec PyProof.Rows
variable{X:AX}
def oY(K:AT):EO:=λx y H Q=>∃a b ys,x=.ref a/\y=.ref b/\CA K H a []/\CA K H b ys/\Q (.ref b) H
def ac2:Ds X (Ip .Add) (oY X.K):=by intro pins s σ H x y v u Q I BB Bm h;obtain⟨a,b,ys,rfl,rfl,A2,J,q⟩:=h;cases BB;cases Bm;obtain⟨its,A6,DW,_⟩:=I.tuple A2;cases A6;obtain⟨Gn,AZ,CB,_⟩:=I.tuple J;exact DL.tq DW CB ⟨.ref b,H,I,rfl,q⟩
end CE
namespace Cj
open PySem PySem.Spec CE PyProof.Rows
section
variable{X:AX}{F:B5}{e a b c:AN}{es:List AN}{pos p:Pos}{m n:AY}{ma:Ad}
noncomputable def Nz:D->D->R D
 |.tup xs,.tup ys=>if xs.length+ys.length<=1000000 then .ok (.tup (xs++ys))else .bad
 |_,_=>.bad
def abq(Ag:F.K=X.K):GX F (λx y H Q=>pP X.K x y H Q\/oY X.K x y H Q) Nz:=by
 intro σ ρ G H x y Av FC Q r BU CJ k;unfold Nz at k
 split at k
 .rename_i ds es;have UO:=BU;have sV:=CJ;simp only[At]at BU CJ
  split at k
  .rename_i AF;obtain⟨p,xs,rfl,h1,A_⟩:=BU;obtain⟨CB,ys,rfl,h2,B4⟩:=CJ;by_cases A5:xs=[]
   .subst A5;refine .inr ⟨p,CB,ys,rfl,rfl,CA.of (r.AJ.sub _ _ h1),CA.of (r.AJ.sub _ _ h2),?_⟩;have e:ds=[]:=W_ (by rw[A_.length];rfl);subst e;exact k _ H G r (Bn.refl _ _) sV
   .refine .inl ⟨p,CB,xs,ys,rfl,rfl,CA.of (r.AJ.sub _ _ h1),CA.of (r.AJ.sub _ _ h2),A5,by rw[<-A_.length,<-B4.length];exact Eg AF (by decide),λAo=>?_,λ_ l AR=>?_⟩
    .subst Ao;have e:es=[]:=W_ (by rw[B4.length];rfl);subst e;rw[K0]at k;exact k _ H G r (Bn.refl _ _) UO
    .refine k (.ref l) _ _ (r.lay AR) (Bn.lay r.AJ.sub AR) ?_;simp only[At];exact⟨l,xs++ys,rfl,DO,(A_.append B4).mono (Sub.upd (r.AJ.sub.gone AR))⟩
  .exact k.elim
 .exact k.elim
def Om(d:D)(l h:Option Int):R D:=match d with
 |.tup xs=>if DL.CC xs.length 0 l=0/\DL.CC xs.length xs.length h=xs.length then .bad else .ok (.tup (FW xs l h))
 |_=>.bad
def xt(Ag:F.K=X.K){lo A0:MT}:Dq (CN F (GR Om m lo A0)) (eA (og X.K) (CN F m) (W7 F lo) (W7 F A0)):=by
 rintro σ H Q ⟨G,ρ,r,h⟩;unfold GR at h;refine⟨G,ρ,r,?_⟩;refine rb h λd Aa h x H1 AV A6 s1 BU=>?_;refine⟨AV,ρ,A6,?_⟩;refine rb h λl el h Ab Bl AZ s2=>?_;refine⟨Bl,ρ,AZ,?_⟩;refine rb h λu ui h CI Dm Cy s3=>?_;have up:=(s1.trans s2).trans s3;have NW:=(BU.mono s2.g).mono s3.g;cases d with
 |tup ds=>
  simp only[Om]at h
  split at h
  .exact h.elim
  .rename_i hw;simp only[At]at NW;obtain⟨q,xs,rfl,Ac,EY⟩:=NW;rw[EY.length]at hw;refine⟨q,xs,rfl,CA.of (Cy.AJ.sub _ _ Ac),hw,λl' AR=>?_⟩;refine h (.ref l') _ _ (Cy.lay AR) (up.trans (Bn.lay Cy.AJ.sub AR)) ?_;simp only[At];exact⟨l',_,rfl,DO,(EY.cut l u).mono (Sub.upd (Cy.AJ.sub.gone AR))⟩
 |_=>cases h
instance(i j:Int):Decidable (IntMulOk i j):=by unfold IntMulOk;infer_instance
end
section
variable{X:AX}{F:B5}{e a b c:AN}{es:List AN}{pos p:Pos}{m n:AY}{ma:Ad}
end
end Cj
namespace Cj
open PySem PySem.Spec CE
section
variable{X:AX}{F:B5}{e a b c o BL iter elt:AN}{es:List AN}{pos p:Pos}{m n:AY}{ma:Ad}{st:BG}{RR:List BG}
def ah5{BX f:Str}{Am:List Str}(k:Xt X.K BX Am)(he:Ax X F o m)(hf:f∈Am:=by decide+kernel)(Ag:F.K=X.K:=by rfl)(J:Ik o f X.env (BC o X.env)=BC o X.env:=by rfl):Ax X F (.Attribute o f pos) (DZ (Eu BX f) m):=⟨by
 have he:=he.1;refine Al.imp (abh he J) ?_;rintro σ H Q ⟨G,ρ,r,h⟩;unfold DZ at h;refine⟨G,ρ,r,?_⟩
 revert h;refine λg=>rb g λd Aa h x H1 AV A6 s1 BU=>?_
 cases d with
 |ins E1 ns ds=>
  simp only[Eu]at h
  split at h
  .rename_i AB;subst AB
   split at h
   .rename_i d' AF;simp only[At]at BU;obtain⟨q,Av,xs,rfl,⟨C,c1,g1⟩,rfl,al⟩:=BU;obtain⟨v,Az,Au⟩:=o4 al AF;obtain⟨MQ,k1,k2,k3⟩:=k.ex;rw[Ag]at c1;have:=c1.inj k1;subst this;exact⟨q,C,Av,xs,v,rfl,A6.AJ.sub _ _ g1,k2,k3 f hf,Az,h v H1 AV A6 s1 Au⟩
   .exact h.elim
  .exact h.elim
 |_=>exact h.elim⟩
def agT {BX mt:Str} {n k:Nat} {mf:List D->R Bf} {pl:Sem Bool} {apos:Pos} (c:Na X.prog X.w X.K X.AA X.base BX mt n k mf) (AS:Bz k X.A) (he:Ax X F o m) (A2:Ew X F (e::es) ma) (IR:F.EX=λ_ _=>False:=by rfl) (Ag:F.K=X.K:=by rfl) (GO:Aw (e::es) X.env=(false,BC e X.env)::Aw es X.env:=by rfl) (D0:(CW pos (Aw es X.env)).any (·.1)=false:=by rfl) (BF:BC (.Call (.Attribute o mt apos) (e::es) [] pos) X.env=(do
   let Dj <-BC o X.env
   NN apos.atName
   let(f,first) <-JW [Dj] (Q5 Dj mt pl)
   Rv pos f first (CW pos (Aw (e::es) X.env)) (He pos (Hd [] X.env))):=by rfl):Ax X F (.Call (.Attribute o mt apos) (e::es) [] pos) (IX BX mt n mf m ma):=⟨by
 have he:=he.1;have A2:=A2.1;obtain⟨C,f,fd,ps,c1,c2,c3,EB,J⟩:=c.ex;refine Al.imp (abG (pl:=pl) he c2 c3 EB AS J .nil RL A2 GO D0 BF) ?_;rw[<-Ag];exact yJ IR (by rw[Ag];exact c1)⟩
def alR(B0:X.A.units+64<Ce)(A2:Ax X F a m)(J:Ax X F b n)(h1:I0 .In b=false:=by with_unfolding_all rfl):Ax X F (.Compare a [.In] [b] pos) (AK (GF true) m n):=⟨have A2:=A2.1;have J:=J.1;Al.imp (nN (nL (by lia) A2 J) h1) n2⟩
def ah0(B0:X.A.units+64<Ce)(A2:Ax X F a m)(J:Ax X F b n)(h1:I0 .NotIn b=false:=by with_unfolding_all rfl):Ax X F (.Compare a [.NotIn] [b] pos) (AK (GF false) m n):=⟨have A2:=A2.1;have J:=J.1;Al.imp (nN (nM (by lia) A2 J) h1) n3⟩
def ahJ(B0:X.A.units+64<Ce)(A2:Ax X F a m)(J:Ax X F b n)(h1:I0 .In b=false:=by with_unfolding_all rfl):FN X F (.Compare a [.In] [b] pos) (Be (AK (GF true) m n)):=⟨by
 have A2:=A2.1;have J:=J.1;refine F0.imp (pK (nL (by lia) A2 J) h1) λσ H Q h=>?_;obtain⟨G,ρ,r,k⟩:=YZ σ H Q h;exact n2 σ H _ ⟨G,ρ,r,k⟩⟩
def ahK(B0:X.A.units+64<Ce)(A2:Ax X F a m)(J:Ax X F b n)(h1:I0 .NotIn b=false:=by with_unfolding_all rfl):FN X F (.Compare a [.NotIn] [b] pos) (Be (AK (GF false) m n)):=⟨by
 have A2:=A2.1;have J:=J.1;refine F0.imp (pK (nM (by lia) A2 J) h1) λσ H Q h=>?_;obtain⟨G,ρ,r,k⟩:=YZ σ H Q h;exact n3 σ H _ ⟨G,ρ,r,k⟩⟩
def ahl(i:Nat){x:Str}{p q:Pos}(hN:X.N.Nodup)(A0:X.N[i]?=some x:=by rfl)(A5:Loc X.env.scope x:=by first|exact DX rfl|exact CY rfl)(hf:X.fn x=true\/X.env.scope.names.lookup x=some .local:=by first|exact .inl rfl|exact .inr rfl):ED X F (.Assign [.Name x p] (.Dict [] [] q) pos) (Sk i):=⟨by
 refine Cf.imp (SW hN A0 A5 abg (M1 _ _ _ _ rfl) hf) ?_;rintro Bw σ H ⟨G,ρ,r,h⟩;unfold Sk at h;intro a A2
 split at h
 .rename_i AF;refine h _ G _ ((r.lay0 A2).setB AF DO (r.AJ.sub.gone A2) (r.AJ.B1.gone A2) ⟨[],rfl,rfl,.nil⟩ λj es o _ A1 A7 f=>C3.fresh r (Sub.upd A2) A2 ⟨j,es,o,A1,A7,f⟩) (Sub.refl _)
 .exact h.elim⟩
def aec(e a b:AN)(p:Pos)(l:Nat)(env:Env):Kw e (some (.Subscript a b p)) l env=pure false:=by cases e<;>rfl
theorem d_{K:AT}{G:A4}{Bh:C8}{d:D}{v:V}(Au:At K G d v):∀{xs:List (C8×V)}{ds:List D},AP K G ds (xs.map (·.2))->AP K G (SZ (xs.map (·.1)) ds Bh d) ((xs.map λDf=>if Df.1=Bh then(Df.1,v)else Df).map (·.2))
 |[],ds,h=>by cases ds<;>exact .nil
 |(k,u)::xs,[],h=>by simp[AP]at h
 |(k,u)::xs,e::ds,h=>by
  simp only[DP,AP,MG]at h;obtain⟨_,_,⟨rfl,rfl⟩,h1,h2⟩:=h;simp only[DP,SZ];by_cases q:k=Bh
  .rw[if_pos q,if_pos q];exact .cons Au (d_ Au h2)
  .rw[if_neg q,if_neg q];exact .cons h1 (d_ Au h2)
def ahU(i:Nat){x:Str}{D5 pos':Pos}{k v:AN}{mk mv:AY}(B0:X.A.units+64<Ce)(AG:Ax X F k mk)(Az:Ax X F v mv)(hN:X.N[i]?=some x:=by rfl)(wj:Gx X.env.scope x:=by first|exact DX rfl|exact CY (DX rfl)|exact CY (CY rfl))(hd:(x==("__debug__" :Str))=false:=by decide)(Dh:(x==("__classdict__" :Str))=false:=by decide):ED X F (.Assign [.Subscript (.Name x D5) k pos'] v pos) (Mh i mk mv):=⟨by
 have AG:=AG.1;have Az:=Az.1;refine Cf.imp (ad6 (by lia) (HG hN wj hd Dh) AG Az (aec _ _ _ _ _ _)) ?_;rintro Bw σ H ⟨G,ρ,r,h⟩;unfold Mh at h;refine⟨G,ρ,r,?_⟩;refine rb h λaj2 Aa h v H1 AV A6 s1 Au=>?_
 split at h
 .rename_i ks ds CO;obtain⟨q,AE,A1,_⟩:=A6.obj CO;refine⟨.ref q,A1,AV,ρ,A6,?_⟩;refine rb h λMx B7 h y Ab Bl AZ s2 CJ=>?_;obtain⟨D_,Dy,GI,h1,h2,h3,xs,rfl,rfl,al⟩:=AZ.obj CO;rw[A1]at GI;cases GI
  split at h
  .rename_i Bh Ck;unfold putD at h
   split at h
   .rename_i AB;obtain⟨PT,Gm⟩:=AB;obtain⟨jb,rfl,VJ⟩:=Ut Ck CJ;have AR:Gj xs Bh=none:=by
     have:=dw Bh xs;rw[PT]at this;exact Option.not_isSome_iff_eq_none.mp (by rw[this];exact Hy)
    refine⟨q,_,rfl,SD.t h1 (Vb VJ AZ.AJ.sub) (L_ (by simpa using Gm) (by decide)),?_⟩;rw[acO _ AR];refine h σ Bl _ (AZ.ZB CO A1 ⟨xs++[(Bh,v)],rfl,by simp,?_⟩) (s1.g.trans s2.g);rw[Po];exact al.snoc (Au.mono s2.g)
   .split at h
    .rename_i AB;obtain⟨PT,Gm⟩:=AB;obtain⟨jb,rfl,VJ⟩:=Ut Ck CJ;refine⟨q,_,rfl,SD.t h1 (Vb VJ AZ.AJ.sub) (L_ (by simpa using Gm) (by decide)),?_⟩;have B3:putK xs Bh v=xs.map (λDf=>if Df.1=Bh then(Df.1,v)else Df):=by
      unfold putK;rw[XH]at PT;exact if_pos PT
     rw[B3];refine h σ Bl _ (AZ.ZB CO A1 ⟨_,rfl,?_,d_ (Au.mono s2.g) al⟩) (s1.g.trans s2.g);rw[Tz];refine List.map_congr_left λDf _=>?_;show(if Df.1=Bh then(Df.1,v)else Df).1=Df.1
     split<;>rfl
    .exact h.elim
  .exact h.elim
 .exact h.elim⟩
def ahi(h:Ax X F e m):ED X F (.Return (some e) pos) (LM m):=⟨by
 have h:=h.1;refine Cf.imp (PG h) ?_;rintro Bw σ H ⟨G,ρ,r,h⟩;unfold LM at h;refine⟨_,_,r.plus,?_⟩;cases Aa:m (Em ρ)with
 |bad=>rw[Aa]at h;cases h
 |exc c=>rw[Aa]at h;exact h
 |ok d=>rw[Aa,R.DH]at h;exact λv H' G' B2 s' a=>h v G' H' B2.AJ a⟩
def ahQ{st:BG}:ED X F st bt:=⟨Cf.imp pH λBw σ H⟨G,ρ,r,h⟩=>h.elim⟩
def agr(h:Ax X F e m):Ax X F e (Qh m):=⟨have h:=h.1;Al.imp h x5⟩
def agS{BX:Str}{n k:Nat}{mf:List D->R (List Str×List D)}(c:gi X.prog X.w X.K X.AA X.base BX n k mf)(AS:Bz (k+1) X.A)(A2:Ew X F (e::es) ma)(Ag:F.K=X.K:=by rfl)(AQ:DK X BX:=by rfl)(FD:(BX==("__debug__" :Str))=false:=by decide)(he:Aw (e::es) X.env=(false,BC e X.env)::Aw es X.env:=by rfl)(D0:(CW pos (Aw es X.env)).any (·.1)=false:=by rfl):Ax X F (.Call (.Name BX p) (e::es) [] pos) (V9 BX n mf ma):=⟨by
 have A2:=A2.1;obtain⟨C,f,fd,ps,c1,c2,EB,hm,J⟩:=c.ex;refine Al.imp (abF c2 EB AS AQ hm J .nil RL A2 FD he D0) ?_;rw[<-Ag];exact yI (by rw[Ag];exact c1)⟩
def agm(hm:X.AA "tuple"=none)(A2:Ew X F [e] ma)(Ag:F.K=X.K:=by rfl)(AQ:DK X "tuple":=by rfl)(he:Aw [e] X.env=(false,BC e X.env)::Aw [] X.env:=by rfl)(D0:(CW pos (Aw [] X.env)).any (·.1)=false:=by rfl):Ax X F (.Call (.Name "tuple" p) [e] [] pos) (Cg Qx ma):=⟨have A2:=A2.1;bB tl (abx Ag) hm (by kernel_rfl) A2 AQ (by decide) (by decide) he D0⟩
def agw(A2:Ax X F a m)(J:Ax X F b n)(Ag:F.K=X.K:=by rfl):Ax X F (.BinOp a .Add b pos) (AK Nz m n):=⟨have A2:=A2.1;have J:=J.1;QT (ac1.or ac2) (abq Ag) A2 J⟩
def agf{lo A0:Option AN}{CB:Pos}{WK WJ:MT}(A2:Ax X F a m)(AF:SM X F lo WK)(B1:SM X F A0 WJ)(Ag:F.K=X.K:=by rfl):Ax X F (.Subscript a (.Slice lo A0 none CB) pos) (GR Om m WK WJ):=⟨have A2:=A2.1;have AF:=AF.1;have B1:=B1.1;Al.imp (nx aez A2 AF B1) (xt Ag)⟩
structure YA(X:AX)(F:B5)(st:BG)(m:Iv):Prop where
 o:Cf X st (Nt F m)
structure Y9(X:AX)(F:B5)(st:List BG)(m:Iv):Prop where
 o:FU X st (Nt F m)
def ahx{m:Iv}(h:YA X F st m):Y9 X F [st] m:=⟨ZX h.1⟩
def ahu{a b:Iv}(h:YA X F st a)(k:Y9 X F RR b):Y9 X F (st::RR) (Mj a b):=⟨FU.imp (ZW h.1 k.1) xv⟩
def ahw{c:AN}{r:BG}{k:C7}(h:FN X F c k):YA X F (.If c [r] [] pos) (Oz k):=⟨Cf.imp (pG h.1 (ZX pH) pI) yA⟩
def ahv{BX f x:Str}{Am:List Str}{D5 pos':Pos}(k:Xt X.K BX Am)(he:Ax X F e m)(hf:f∈Am:=by decide+kernel)(hN:X.N[0]?=some x:=by rfl)(Az:Gx X.env.scope x:=by first|exact DX rfl|exact CY (DX rfl)|exact CY (CY rfl))(hd:(x==("__debug__" :Str))=false:=by decide)(Dh:(x==("__classdict__" :Str))=false:=by decide)(hs:PE e=true:=by rfl)(Ag:F.K=X.K:=by rfl) :
  YA X F (.Assign [.Attribute (.Name x D5) f pos'] e pos) (Kh BX f m):=⟨Cj.ae9 k he.1 hf hN Az hd Dh hs Ag⟩
end
structure Qm(K:AT)(BX x qual:Str)(st:BG)(ps:List Str):Prop where
 ex:∃(C f:Z)(fd:FH),GA K BX C/\Ju K C/\Meth K C x f/\M7 K x qual st f fd/\Binds K fd ps []
structure InK(K:AT)(AA:Str->Option U)(BX qual:Str)(st:BG)(ps:List Str):Prop where
 ex:∃(C f:Z)(fd:FH),GA K BX C/\Y2 K C f/\M7 K "__init__" qual st f fd/\AA BX=some (.ref C)/\Binds K fd ps []
def WU(P:BR)(w:BA){K:AT}(AA:Str->Option U)(base:Aq){x qual BX Ed:Str}{st:BG}{N ps:List Str}(k:Nat)(m:B6)(d:Qm K BX x qual st (Ed::ps))(S:C2 N (Ed::ps) (BP st))(h:∀(f:Z)(BV:U)(A:Bk)(outer:List Env)(s:AD)(H:A4)(E:CS),Bz k (A.deeper (K4 qual (BP st) s.heap.objs.size f BV))->∀BD Ak,IF (EE FJ P w K AA base N qual (BP st) f BV A outer s H E).Fn (Cw K BD Ak) (FA st) m) :
  Na P w K AA base BX x ps.length (k+1) (Cx N.length m):=by
 obtain⟨C,f,fd,h1,h2,h3,h4,h5⟩:=d.ex;exact zQ h4 h1 h2 h3 h5 S h
def aho(P:BR)(w:BA){K:AT}(AA:Str->Option U)(base:Aq){qual BX Ed:Str}{st:BG}{ps:List Str}(k:Nat)(m:Iv)(d:InK K AA BX qual st (Ed::ps))(S:C2 (Ed::ps) (Ed::ps) (BP st))(h:∀(f:Z)(BV:U)(A:Bk)(outer:List Env)(s:AD)(H:A4)(E:CS),Bz k (A.deeper (K4 qual (BP st) s.heap.objs.size f BV))->∀BD Ak,Y9 (EE FJ P w K AA base (Ed::ps) qual (BP st) f BV A outer s H E).Fn (Cw K BD Ak) (FA st) m) :
  gi P w K AA base BX ps.length (k+1) (λes=>outI BX (m (Kd BX es))):=by
 obtain⟨C,f,fd,h1,h2,h3,h4,h5⟩:=d.ex;exact⟨C,f,fd,Ed::ps,h1,h2,yO h3 S λf BV A outer s H E AS BD Ak=>(h f BV A outer s H E AS BD Ak).1,h4,h5⟩
end Cj
namespace Cj
open PySem PySem.Spec CE PyProof.Rows
section
variable{K:AT}{G G' H H':A4}
def Bc.nil:Bc K G H [] []:=by simp only[Bc]
def Bc.cons{t:T}{Ap:List T}{v:V}{vs:List V}(h:C9 K G H t v)(k:Bc K G H Ap vs):Bc K G H (t::Ap) (v::vs):=by simp only[Bc];exact⟨v,vs,rfl,h,k⟩
theorem Bc.length:∀{Ap:List T}{vs:List V},Bc K G H Ap vs->Ap.length=vs.length
 |[],_,h=>by simp only[Bc]at h;subst h;rfl
 |_::_,_,h=>by simp only[Bc]at h;obtain⟨v,r,rfl,_,t⟩:=h;simp[Bc.length t]
theorem eI:∀{Ap:List T}{vs:List V}{i:Nat}{t:T},Bc K G H Ap vs->Ap[i]?=some t->∃v,vs[i]?=some v/\C9 K G H t v
 |[],_,_,_,_,e=>by simp at e
 |_::_,_,0,_,h,e=>by simp only[Bc]at h;obtain⟨v,r,rfl,q,t⟩:=h;simp at e;subst e;exact⟨v,by simp,q⟩
 |_::_,_,i+1,d,h,e=>by simp only[Bc]at h;obtain⟨v,r,rfl,q,t⟩:=h;obtain⟨u,h1,h2⟩:=eI (i:=i) (t:=d) t (by simpa using e);exact⟨u,by simpa using h1,h2⟩
theorem Bc.append:∀{Ap us:List T}{vs ws:List V},Bc K G H Ap vs->Bc K G H us ws->Bc K G H (Ap++us) (vs++ws)/\Ca H (Ap++us) (vs++ws)=Ca H Ap vs++Ca H us ws
 |[],_,_,_,h,t=>by simp only[Bc]at h;subst h;exact⟨t,by rw[PO];rfl⟩
 |_::_,_,_,_,h,t=>by simp only[Bc]at h;obtain⟨v,r,rfl,q,s⟩:=h;obtain⟨h1,h2⟩:=Bc.append s t;exact⟨.cons q h1,by rw[List.cons_append,List.cons_append,Ho,Ho,h2,RW]⟩
theorem rQ:∀{ds:List D}{xs:List V},AP K G ds xs->Bc K G H (ds.map T.AI) xs/\Ca H (ds.map T.AI) xs=[]
 |[],_,h=>by simp only[AP]at h;subst h;exact⟨.nil,PO⟩
 |_::_,_,h=>by simp only[AP]at h;obtain⟨v,r,rfl,q,t⟩:=h;obtain⟨h1,h2⟩:=rQ t;exact⟨.cons (by simp only[C9];exact q) h1,by rw[DP,Ho,h2];simp only[Ae,K0]⟩
theorem af:∀{Ap:List T}{xs:List V}{k:Nat}{t:T}{v:V}{b:Z},Ap[k]?=some t->xs[k]?=some v->b∈Ae H t v->b∈Ca H Ap xs
 |[],_,_,_,_,_,e,_,_=>by simp at e
 |_::_,[],_,_,_,_,_,e,_=>by simp at e
 |_::_,_::_,0,_,_,_,A1,A7,h=>by simp at A1 A7;subst A1 A7;rw[Ho];exact MJ _ h
 |_::_,_::_,k+1,_,_,_,A1,A7,h=>by rw[Ho];exact Ii _ (af (by simpa using A1) (by simpa using A7) h)
theorem rR{us Nw:List T}{q:Z}{ys FP:List V}(Ac:H q=some (.lst ys))(n:Bc K G H Nw FP)(f:Ca H Nw FP=Ca H us ys):∀{Ap:List T}{xs:List V}{k:Nat},Bc K G H Ap xs->(Ca H Ap xs).Nodup->Ap[k]?=some (.lst us)->xs[k]?=some (.ref q)->
  Bc K G (upd H q (.lst FP)) (Ap.set k (.lst Nw)) xs/\Ca (upd H q (.lst FP)) (Ap.set k (.lst Nw)) xs=Ca H Ap xs
 |[],_,_,_,_,e,_=>by simp at e
 |t::Ap,_,k,h,Cb,A1,A7=>by
  simp only[Bc]at h;obtain⟨v,r,rfl,h1,h2⟩:=h;rw[Ho]at Cb |-;obtain⟨T1,c7,c8⟩:=List.nodup_append.mp Cb;cases k with
  |zero=>
   simp at A1 A7;subst A1 A7;have EF:Ae H (.lst us) (.ref q)=q::Ca H us ys:=HU Ac;rw[EF]at T1 c8 |-;have CQ:q∉Ca H us ys:=(List.nodup_cons.mp T1).1;have C0:q∉Ca H Ap r:=λz=>c8 q (by simp) q z rfl;obtain⟨Cp,D6⟩:=n.keep (H':=upd H q (.lst FP)) λb J=>Co λz=>CQ (by rw[<-z,<-f];exact J);obtain⟨Ef,L1⟩:=h2.keep (H':=upd H q (.lst FP)) λb J=>Co λz=>C0 (by rw[<-z];exact J);refine⟨.cons ?_ Ef,?_⟩
   .simp only[C9];exact⟨q,FP,rfl,DO,Cp⟩
   .rw[ft,Ho,HU DO,D6,L1,f]
  |succ k=>simp only[Rc]at A1 A7;have Zv:q∈Ca H Ap r:=af A1 A7 (by rw[HU Ac];simp);have CQ:q∉Ae H t v:=λz=>c8 q z q Zv rfl;obtain⟨Cp,D6⟩:=h1.yj (o:=.lst FP) CQ;obtain⟨Ef,L1⟩:=rR Ac n f h2 c7 A1 A7;exact⟨.cons Cp Ef,by rw[List.set_cons_succ,Ho,D6,L1]⟩
end
section
variable{F:B5}{G H:A4}{σ :CE.St}{ρ:A8}
def Rel.ab2(r:Rel F G H σ ρ){i k:Nat}{Ap us Nw:List T}{a q:Z}{xs ys FP:List V}(e:ρ[i]?=some (.DF (.lst Ap)))(A1: σ[i]?=some (some (.ref a)))(A2:H a=some (.lst xs))(Ck:Ap[k]?=some (.lst us))(ex:xs[k]?=some (.ref q))(Ac:H q=some (.lst ys))(n:Bc F.K G H Nw FP)(f:Ca H Nw FP=Ca H us ys):Rel F G (upd H q (.lst FP)) σ (ρ.set i (.DF (.lst (Ap.set k (.lst Nw))))):=by
 obtain⟨v,A7,Cp,D6,Ef⟩:=r.tree e;rw[A1]at A7;cases A7;simp only[C9]at Cp;obtain⟨F1,ES,Aa,O8,wl⟩:=Cp;cases Aa;rw[A2]at O8;cases O8;have EF:Ae H (.lst Ap) (.ref a)=a::Ca H Ap xs:=HU A2;rw[EF]at D6 Ef;obtain⟨T1,c7⟩:=List.nodup_cons.mp D6;have Zv:q∈Ca H Ap xs:=af Ck ex (by rw[HU Ac];simp);have na:a≠q:=λz=>T1 (by rw[z];exact Zv);obtain⟨DW,CB⟩:=rR Ac n f wl c7 Ck ex;have lG:upd H q (.lst FP) a=some (.lst xs):=by rw[Co na];exact A2
 have bC:Ae (upd H q (.lst FP)) (.lst (Ap.set k (.lst Nw))) (.ref a)=a::Ca H Ap xs:=by rw[HU lG,CB]
 refine r.oI e A1 (a:=q) ⟨.ref a,rfl,by rw[EF];exact E3 _ Zv⟩ ⟨.ref a,rfl,⟨?_,?_,?_⟩⟩ λb GJ=>.inl ?_
 .simp only[C9];exact⟨a,xs,rfl,lG,DW⟩
 .rw[bC];exact D6
 .rw[bC];exact Ef
 .obtain⟨u,Hm,J⟩:=GJ;cases Hm;rw[bC,<-EF]at J;exact⟨.ref a,rfl,J⟩
end
section
variable{X:AX}{F:B5}{e a b c BL iter elt:AN}{es:List AN}{pos p:Pos}{m n:AY}{ma:Ad}
def ahh(i:Nat){x:Str}{p:Pos}(hN:X.N[i]?=some x:=by rfl)(Az:Gx X.env.scope x:=by first|exact DX rfl|exact CY (DX rfl)|exact CY (CY rfl))(hd:(x==("__debug__" :Str))=false:=by decide)(Dh:(x==("__classdict__" :Str))=false:=by decide) :
  ED X F (.Return (some (.Name x p)) pos) (VD (Sl i)):=⟨Cf.imp (PG (HG hN Az hd Dh)) (xm i)⟩
noncomputable def Nu(i:Nat)(ρ:A8):R (List T):=match ρ[i]? with
 |some (.DF (.lst Ap))=>.ok Ap
 |_=>.bad
def afr{i:Nat}{ρ:A8}{Ap:List T}(h:Nu i ρ=.ok Ap):ρ[i]?=some (.DF (.lst Ap)):=by
 unfold Nu at h
 split at h
 .rename_i e;cases h;exact e
 .cases h
def afq{i:Nat}{ρ:A8}{c:Str}(h:Nu i ρ=.exc c):False:=by
 unfold Nu at h
 split at h<;>cases h
def Rel.root{G H:A4}{σ :CE.St}{ρ:A8}(r:Rel F G H σ ρ){i:Nat}{Ap:List T}(e:ρ[i]?=some (.DF (.lst Ap))):∃a xs,σ[i]?=some (some (.ref a))/\H a=some (.lst xs)/\Bc F.K G H Ap xs/\(Ca H Ap xs).Nodup:=by obtain⟨v,A7,Cp,D6,Ef⟩:=r.tree e;simp only[C9]at Cp;obtain⟨a,xs,rfl,A2,wl⟩:=Cp;rw[HU A2]at D6;exact⟨a,xs,A7,A2,wl,(List.nodup_cons.mp D6).2⟩
end
end Cj
namespace Cj
open PySem PySem.Spec CE
noncomputable def Ji(ds:List D):T:=.lst (ds.map T.AI)
def L6(set:D->A8->R A8)(tst:C7)(elt:Ad):List D->A8->List T->R (List T)
 |[],_,ws=>.ok ws
 |d::ds,ρ,ws=>(set d ρ).bind λρ1=>(tst ρ1).bind λb=>if b=true then(elt ρ1).bind λy=>if ws.length<1000000 then L6 set tst elt ds ρ1 (ws++[Ji y])else .bad else L6 set tst elt ds ρ1 ws
def Lr(nl:Nat)(caps:List Nat)(mi:Ad)(set:D->A8->R A8)(tst:C7)(elt:Ad):Od:=λρ=>(mi ρ).bind λds=>(Ep (L6 set tst elt ds (KQ nl caps ρ) [])).bind λAp=>.ok (.lst Ap)
def ey(K:AT)(m:Ad):TE:=λσ H Q=>∃BD Ak,Ie (Cw K BD Ak) m σ H Q
section
variable{F:B5}
def wZ{nl:Nat}{caps:List Nat}{mi:Ad}{set:D->A8->R A8}{tst:C7}{elt:Ad}{g:HQ}(AQ:∀G H,MR (Cw F.K G H) g set)(A5:∀d ρ c,set d ρ≠.exc c)(AG:Keeps set) :
  Dq (TU F (Lr nl caps mi set tst elt)) (RS (Jq F mi) g (TY F.K tst) (ey F.K elt) nl caps):=by
 rintro σ H Q ⟨G,ρ,r,h⟩;unfold Lr at h;refine⟨G,ρ,r,?_⟩;refine rb h λds Aa h Bp H1 AV A6 Km it acc A2=>?_;cases CO:L6 set tst elt ds (KQ nl caps ρ) []with
 |bad=>rw[CO]at h;cases h
 |exc c=>rw[CO]at h;cases h
 |ok res=>
  rw[CO]at h
  refine⟨λi m σ2 Ab=>m=ds.length-i/\i<=ds.length/\∃Bl Cq ys ws,Rel (Cw F.K AV H1) Bl Ab σ2 Cq/\NR Cq/\Ab acc=some (.lst ys)/\Bl acc=none/\Bc F.K Bl Ab ws ys/\(Ca Ab ws ys).Nodup/\(∀b∈Ca Ab ws ys,b≠acc/\Bl b=none/\H1 b=none)/\L6 set tst elt (ds.drop i) Cq ws=.ok res,
   ⟨ds.length,by simp,GV _,AV,_,[],[],ot A6 A2 nl caps,cE _ _ _,DO,A6.AJ.sub.gone A2,.nil,by simp[PO],by simp[PO],by simpa using CO⟩,?_⟩
  rintro i m σ2 Ab ⟨rfl,A0,Bl,Cq,ys,ws,AZ,C0,h1,h2,h3,h5,h6,h4⟩;have Ar:Sub AV Bl:=AZ.AJ.DU;by_cases DI:i<ds.length
  .refine .inr ⟨it.go i Ab (Ar.trans AZ.AJ.sub) DI,λx CI y=>?_⟩;obtain⟨d,Dm,B8,Cy,Gi,Du⟩:=KH.turn (F:=Cw F.K AV H1) it AZ Ar DI y;have E2:ds.drop i=d::ds.drop (i+1):=by
    rw[RU DI];have:=C5 DI;rw[B8]at this;rw[Dz this]
   rw[E2]at h4;simp only[L6]at h4;have mv:∀{Xw Fa Xx Uf:A4},Bn Xw Fa Xx Uf->Bc F.K Xw Fa ws ys->Ca Fa ws ys=Ca Ab ws ys->(∀b∈Ca Ab ws ys,Xw b=none)->Bc F.K Xx Uf ws ys/\Ca Uf ws ys=Ca Ab ws ys/\(∀b∈Ca Ab ws ys,Xx b=none):=λ{Xw Fa Xx Uf} u q e n=>by
    obtain⟨Cp,D6⟩:=q.keep (H':=Uf) λb J=>by
     cases B7:Fa b with
     |none=>exact absurd B7 (q.some b J)
     |some o=>exact u.h b o B7
    refine⟨Cp.mono u.g,D6.trans e,λb J=>?_⟩;rw[u.n b (q.Hu b (by rw[e];exact J))];exact n b J
   obtain⟨Cn,F2,Me⟩:=mv Gi h3 rfl λb J=>(h6 b J).2.1;cases D9:set d Cq with
   |bad=>rw[D9]at h4;cases h4
   |exc c=>exact absurd D9 (A5 d Cq c)
   |ok F5=>
    rw[D9,R.DH]at h4;refine AQ AV H1 σ2 Cq Dm CI x d _ F5 Cy Du D9 λσ5 Ia=>⟨AV,H1,Dm,F5,Ia,?_⟩;have Mk:NR F5:=AG d Cq F5 D9 C0;have UL:CI acc=some (.lst ys):=Gi.h _ _ h1;have g3:Dm acc=none:=by rw[Gi.n acc (.of h1 λ_ z=>nomatch z)];exact h2
    cases Ga:tst F5 with
    |bad=>rw[Ga]at h4;cases h4
    |exc c=>rw[Ga]at h4;cases h4
    |ok b=>
     rw[Ga,R.DH]at h4;intro M8 LV Lw Qy;have OT:M8 acc=some (.lst ys):=Qy.h _ _ UL;have KZ:LV acc=none:=by rw[Qy.n acc (.of UL λ_ z=>nomatch z)];exact g3
     obtain⟨Gq,XN,oD⟩:=mv Qy Cn F2 Me;cases b with
     |false=>rw[if_neg Hy]at h4;rw[if_neg Hy];exact⟨_,by lia,rfl,DI,LV,F5,ys,ws,Lw,Mk,OT,KZ,Gq,by rw[XN];exact h5,by rw[XN];exact λb J=>⟨(h6 b J).1,oD b J,(h6 b J).2.2⟩,h4⟩
     |true=>
      rw[if_pos rfl]at h4;rw[if_pos rfl];refine⟨AV,H1,LV,F5,Lw,?_⟩;cases QS:elt F5 with
      |bad=>rw[QS]at h4;cases h4
      |exc c=>rw[QS]at h4;cases h4
      |ok y=>
       rw[QS,R.DH]at h4;intro a xs M9 Ob Ib u8 a1 a2 Du GE;have gM:M9 acc=some (.lst ys):=u8.h _ _ OT;have QZ:Ob acc=none:=by rw[u8.n acc (.of OT λ_ z=>nomatch z)];exact KZ
       obtain⟨LQ,f8,zN⟩:=mv u8 Gq XN oD;by_cases AF:ws.length<1000000
       .rw[if_pos AF]at h4;have Nm:a≠acc:=λz=>by rw[z,OT]at a1;cases a1
        have na:a∉Ca Ab ws ys:=λz=>(Gq.some a (by rw[XN];exact z)) a1;have Hj:H1 a=none:=Lw.AJ.B1.gone a1;obtain⟨DD,CP⟩:=rQ (K:=F.K) (G:=Ob) (H:=M9) GE;have Fq:C9 F.K Ob M9 (Ji y) (.ref a):=by unfold Ji;simp only[C9];exact⟨a,xs,rfl,a2,DD⟩
        have fn:Ae M9 (Ji y) (.ref a)=[a]:=by unfold Ji;rw[HU a2,CP]
        obtain⟨DW,CB⟩:=LQ.append (.cons Fq .nil);have Vn:Ca M9 [Ji y] [V.ref a]=[a]:=by rw[Ho,fn,PO];rfl
        rw[Vn,f8]at CB;have aam:acc∉Ca M9 (ws++[Ji y]) (ys++[.ref a]):=by
         rw[CB];intro z;rcases List.mem_append.mp z with z|z
         .exact(h6 acc z).1 rfl
         .exact Nm (List.mem_singleton.mp z).symm
        obtain⟨Cp,D6⟩:=DW.keep (H':=upd M9 acc (.lst (ys++[.ref a]))) λb J=>Co λz=>aam (by rw[<-z];exact J);rw[CB]at D6;refine⟨ys,gM,by rw[<-LQ.length];exact L_ AF (by decide),_,by lia,rfl,DI,Ob,F5,ys++[.ref a],ws++[Ji y],?_,Mk,DO,QZ,Cp,?_,?_,h4⟩
        .have k0:(Cw F.K AV H1).Ak acc=none:=A2;refine Ib.over rfl ⟨Sub.Ot Ib.AJ.sub QZ,Ib.AJ.DU,λc o z=>?_,Ib.AJ.new⟩ (Sub.refl _) λb⟨j,s,o,Dg,_,f⟩=>absurd f (Vs (Mk j s Dg) o b);rw[Co (I_ z k0)];exact Ib.AJ.B1 c o z
        .rw[D6];refine List.nodup_append.mpr ⟨h5,by simp,λx A5 y Ao z=>?_⟩;have:=List.mem_singleton.mp Ao;exact na (by rw[<-this,<-z];exact A5)
        .rw[D6];intro b J;rcases List.mem_append.mp J with J|J
         .exact⟨(h6 b J).1,zN b J,(h6 b J).2.2⟩
         .have:=List.mem_singleton.mp J;subst this;exact⟨Nm,Du,Hj⟩
       .rw[if_neg AF]at h4;cases h4
  .have e:ds.drop i=[]:=Tc (by lia);rw[e]at h4;simp only[L6]at h4;cases h4;have Fy:i=ds.length:=by lia
   subst Fy;refine .inl ⟨it.stop Ab (Ar.trans AZ.AJ.sub),?_⟩;have k:E4 ⟨F.K,AV,H1,λ_ _=>False,Gc⟩ Bl Ab:=AZ.AJ;have EF:Ae Ab (.lst res) (.ref acc)=acc::Ca Ab res ys:=HU h1;refine h (.ref acc) Ab Bl (E4.of A6 k) (Km.trans ⟨k.DU,k.B1,k.new⟩) ⟨?_,?_,?_⟩ ?_
   .simp only[C9];exact⟨acc,ys,rfl,h1,h3⟩
   .rw[EF];exact List.nodup_cons.mpr ⟨λz=>(h6 acc z).1 rfl,h5⟩
   .rw[EF];intro b J;rcases List.mem_cons.mp J with rfl|J
    .exact⟨h2,A6.AJ.B1.gone A2⟩
    .exact⟨(h6 b J).2.1,A6.AJ.B1.gone (h6 b J).2.2⟩
   .rw[EF];intro b J;rcases List.mem_cons.mp J with rfl|J
    .exact Km.h.gone A2
    .exact Km.h.gone (h6 b J).2.2
end
section
variable{X:AX}{F:B5}{e a b c BL iter elt:AN}{es:List AN}{pos p:Pos}{m n:AY}{ma:Ad}{scope:DT}{N:List Str}
abbrev ir(X:AX)(scope:DT)(N:List Str)(e:AN)(m:Ad):Prop:=∀cl C s H Ae BD Ak,J1 (E_ X scope N cl C s H Ae) (Cw X.K BD Ak) e m
def u1{ifs:List AN}{nl:Nat}{caps:List Nat}{mi:Ad}{set:D->A8->R A8}{mt:C7}{D3:Ad}(Ag:F.K=X.K)(AQ:Oa X scope N BL set)(BF:Ma X scope N ifs mt)(he:ir X scope N elt D3){Q:TE->Prop}(k:∀g,(∀cl C s H Ae,Iw (E_ X scope N cl C s H Ae) BL g)->(∀cl C s H Ae,Oe (E_ X scope N cl C s H Ae) ifs (TY X.K mt))->(∀cl C s H Ae,Al (E_ X scope N cl C s H Ae) elt (ey X.K D3))->Dq (TU F (Lr nl caps mi set mt D3)) (RS (Jq F mi) g (TY X.K mt) (ey X.K D3) nl caps)->Q (TU F (Lr nl caps mi set mt D3))):Q (TU F (Lr nl caps mi set mt D3)):=by
 obtain⟨⟨g,g1,g2⟩,A5,AG⟩:=AQ;refine k g g1 (λcl C s H Ae pins s' σ H' IC I h=>?_) (λcl C s H Ae pins s' σ H' IC I h=>?_) ?_
 .obtain⟨BD,Ak,h⟩:=h;exact BF cl C s H Ae BD Ak pins s' σ H' IC I h
 .obtain⟨BD,Ak,h⟩:=h;exact(he cl C s H Ae BD Ak).1 pins s' σ H' IC I h
 .have z:=wZ (F:=F) (nl:=nl) (caps:=caps) (mi:=mi) (tst:=mt) (elt:=D3) (g:=g) (set:=set) (λBD Ak=>by rw[Ag];exact g2 BD Ak) A5 AG;rw[Ag]at z;exact z
def ahS(i:Nat)(nl:Nat)(caps:List Nat){y:Str}{py:Pos}{ifs:List AN}{mi:Ad}{set:D->A8->R A8}{mt:C7}{D3:Ad}{Ba:Pos}(hN:X.N.Nodup)(S:O1 X.env.scope X.N scope (L5 scope X.N nl caps) nl caps=true)(A0:MC X F BL iter mi)(AQ:Oa X scope (L5 scope X.N nl caps) BL set)(BF:Ma X scope (L5 scope X.N nl caps) ifs mt)(he:ir X scope (L5 scope X.N nl caps) elt D3)(Ao:X.N[i]?=some y:=by rfl)(AF:X.env.kindOf y=some .local:=by rfl)(OD:Kw (.ListComp elt [⟨BL,iter,ifs,0⟩] scope Ba) (some (.Name y py)) pos.line X.env=pure true:=by rfl)(AB:X.calm=true:=by rfl)(Ag:F.K=X.K:=by rfl)(hs:∀x,JS iter X.env x=pure x:=by intro _;rfl) :
  ED X F (.Assign [.Name y py] (.ListComp elt [⟨BL,iter,ifs,0⟩] scope Ba) pos) (VE i (Lr nl caps mi set mt D3)):=by
 refine⟨Cf.imp (t:=Kl (TU F (Lr nl caps mi set mt D3)) (H4 i)) ?_ xq⟩;refine u1 (nl:=nl) (caps:=caps) (mi:=mi) (Q:=λt=>Cf X (.Assign [.Name y py] (.ListComp elt [⟨BL,iter,ifs,0⟩] scope Ba) pos) (Kl t (H4 i))) Ag AQ BF he λg g1 t1 A1 imp=>?_;exact Cf.imp (pE (.of S) AB hN Ao AF A0.1 g1 t1 A1 OD hs) λBw σ H h=>imp σ H _ h
end
def Nx(c:C7)(b:B6):Nat->A8->R FK
 |0,_=>.bad
 |n+1,ρ=>(c ρ).bind λk=>if k=true then(b ρ).bind λf=>match f with
  |.BK B9=>Nx c b n B9
  |.C_ B9=>Nx c b n B9
  |.F9 B9=>.ok (.BK B9)
  |f=>.ok f
  else .ok (.BK ρ)
def Uj(c:C7)(b:B6):B6:=Nx c b 1000
section
variable{F:B5}
def y1{c:C7}{b:B6}:GB (EM F (Uj c b)) (rI (Fp F c) (EM F b)):=by
 rintro Bw σ H ⟨G,ρ,r,h⟩;refine⟨λm σ2 Ab=>∃Bl Cq,Rel F Bl Ab σ2 Cq/\Sub G Bl/\Fi F Bl Bw (Nx c b m Cq),⟨1000,G,ρ,r,Sub.refl _,h⟩,?_⟩;rintro m σ2 Ab ⟨Bl,Cq,AZ,s2,k2⟩;refine⟨Bl,Cq,AZ,?_⟩;cases m with
 |zero=>cases k2
 |succ n=>
  simp only[Nx]at k2;refine rb k2 λk ec k2 CI Dm Cy Gi=>?_;cases k with
  |false=>rw[if_neg Hy]at k2 |-;exact k2 σ2 Dm CI Cy Gi.g
  |true=>
   rw[if_pos rfl]at k2 |-;refine⟨λσ4 Gv=>∃Ud F5,Rel F Ud Gv σ4 F5/\Sub G Ud/\Fi F Ud Bw (Nx c b n F5),λσ4 Gv q=>⟨n,Wp _,q⟩,Dm,Cq,Cy,?_⟩;refine rb k2 λf B7 k2=>?_;cases f with
   |BK JO=>exact λσ7 I9 FL F4 EK=>⟨I9,JO,F4,s2.trans (Gi.g.trans EK),Fi.mono (Gi.g.trans EK) k2⟩
   |C_ JO=>exact λσ7 I9 FL F4 EK=>⟨I9,JO,F4,s2.trans (Gi.g.trans EK),Fi.mono (Gi.g.trans EK) k2⟩
   |F9 JO=>exact λσ7 I9 FL F4 EK=>k2 σ7 I9 FL F4 (Gi.g.trans EK)
   |DB d=>exact k2
   |HI ds=>exact k2
   |Dw t=>exact k2
   |rs t _=>exact k2
end
section
variable{X:AX}{F:B5}{e a b c o:AN}{es:List AN}{pos p:Pos}{m n:AY}{ma:Ad}
def ahH{body:List BG}{Zs:C7}{Eo:B6}(AW:U1 (Ai X.prog X.w) X.A X.env X.xe)(AB:FN X F c Zs)(J:IF X F body Eo):ED X F (.While c body [] pos) (Uj Zs Eo):=⟨Cf.imp (ad9 AW AB.1 J.1) y1⟩
noncomputable def findD(ks:List C8)(ds:List D)(Bh:C8):Option D:=((ks.zip ds).find? λp=>decide (p.1=Bh)).map (·.2)
theorem bT{K:AT}{G:A4}(Bh:C8):∀{ds:List D}{xs:List (C8×V)},AP K G ds (xs.map (·.2))->match findD (xs.map (·.1)) ds Bh with
  |some d=>∃v,Gj xs Bh=some v/\At K G d v
  |none=>Gj xs Bh=none
 |[],xs,h=>by
  simp only[AP]at h;have:xs=[]:=by simpa using h
  subst this;rfl
 |d::ds,[],h=>by simp only[AP,OO]at h;obtain⟨v,r,e,_⟩:=h;cases e
 |d::ds,(k,v)::xs,h=>by
  simp only[AP,DP]at h;obtain⟨Ig,r,e,a,t⟩:=h;cases e;have Bg:=bT (K:=K) (G:=G) Bh (ds:=ds) (xs:=xs) t;unfold findD Gj at Bg |-;simp only[DP,ND,Kp];by_cases AG:k=Bh
  .simp only[AG,decide_true,gA];exact⟨v,rfl,a⟩
  .simp only[AG,decide_false];exact Bg
def V3(m n:AY):AY:=λρ=>(m ρ).bind λd=>match d with
 |.BN ks ds=>(n ρ).bind λk=>match Mc k with
  |some Bh=>.ok ((findD ks ds Bh).getD .non)
  |none=>.bad
 |_=>.bad
def wb:Dq (CN F (V3 m n)) (r5 (CN F m) (CN F n)):=by
 rintro σ H Q ⟨G,ρ,r,h⟩;unfold V3 at h;refine⟨G,ρ,r,?_⟩;refine rb h λdd Aa h x H1 AV A6 s1 BU=>?_;cases dd with
 |BN ks ds=>
  simp only at h;simp only[At]at BU;obtain⟨a,xs,rfl,AQ,rfl,al⟩:=BU;refine⟨a,rfl,.inr ⟨xs,.inl (A6.AJ.sub _ _ AQ)⟩,AV,ρ,A6,?_⟩;refine rb h λMx B7 h y Ab Bl AZ s2 CJ=>?_;cases Ck:Mc Mx with
  |none=>rw[Ck]at h;cases h
  |some Bh=>
   rw[Ck]at h;simp only at h;obtain⟨q,rfl,Ac⟩:=Ut Ck CJ;refine⟨Gj xs Bh,J3.t (AZ.AJ.sub _ _ (s2.g _ _ AQ)) (Vb Ac AZ.AJ.sub),?_⟩;have f:=bT (K:=F.K) (G:=AV) Bh al;cases EF:findD (xs.map (·.1)) ds Bh with
   |none=>rw[EF]at f h;rw[show Gj xs Bh=none from f];exact h .non Ab Bl AZ (s1.trans s2) (by simp only[fk,At])
   |some d=>rw[EF]at f h;obtain⟨v,ev,Au⟩:=f;rw[ev];exact h v Ab Bl AZ (s1.trans s2) (Au.mono s2.g)
 |_=>cases h
def agy {apos Ba:Pos} (B0:X.A.units+64<Ce) (AE:Ax X F o m) (he:Ax X F e n) (h1:Ik o "get" X.env (BC o X.env)=BC o X.env:=by rfl)(h2:((CW Ba (Aw [e] X.env)).all (λx=>!x.1)&&(He Ba (Hd [] X.env)).all (λx=>x.1.isSome)
  &&decide (([e]:List AN).length+([]:List FS).length+(if([]:List FS).isEmpty then 0 else 1)<30))=true:=by rfl) (h3:(apos.endLine==Ba.line)=true:=by rfl) (h4:CW Ba (Aw [e] X.env)=[(false,BC e X.env)]:=by rfl) :
  Ax X F (.Call (.Attribute o "get" apos) [e] [] Ba) (V3 m n):=⟨Al.imp (abf (by lia) AE.1 he.1 ⟨h1,h2,h3,h4⟩) wb⟩
def Lh(d k:D):R D:=match d with
 |.BN ks ds=>match Mc k with
  |some Bh=>match findD ks ds Bh with
   |some v=>.ok v
   |none=>.bad
  |none=>.bad
 |_=>.bad
def x7:Dq (CN F (AK Lh m n)) (r4 (CN F m) (CN F n)):=by
 rintro σ H Q ⟨G,ρ,r,h⟩;unfold AK at h;refine⟨G,ρ,r,?_⟩;refine rb h λdd Aa h x H1 AV A6 s1 BU=>?_;refine⟨AV,ρ,A6,?_⟩;refine rb h λMx B7 h y Ab Bl AZ s2 CJ=>?_;unfold Lh at h
 split at h
 .rename_i ks ds
  split at h
  .rename_i Bh Ck;simp only[At]at BU;obtain⟨a,xs,rfl,AQ,rfl,al⟩:=BU;obtain⟨q,rfl,Ac⟩:=Ut Ck CJ;have f:=bT (K:=F.K) (G:=AV) Bh al
   split at h
   .rename_i d EF;rw[EF]at f;obtain⟨v,ev,Au⟩:=f;refine⟨a,v,rfl,?_,h v Ab Bl AZ (s1.trans s2) (Au.mono s2.g)⟩;rw[<-ev];exact J3.t (AZ.AJ.sub _ _ (s2.g _ _ AQ)) (Vb Ac AZ.AJ.sub)
   .exact h.elim
  .exact h.elim
 .exact h.elim
def agz(B0:X.A.units+64<Ce)(AE:Ax X F o m)(he:Ax X F e n)(hs:gk e):Ax X F (.Subscript o e pos) (AK Lh m n):=⟨Al.imp (abe (by lia) AE.1 he.1 hs) x7⟩
def acb(F:B5):V->List V->A4->Br->Prop:=λx vs H Q=>∃G d1 C1 p y ds xs j,Sub G H/\x=.ref p/\vs=[y]/\At F.K G d1 y/\Gw F.K G C1 p false ds xs/\okN 7 d1=true/\ds.all (okN 7)=true/\ds.length<1000000/\ds.findIdx? (λz=>CU z d1)=some j/\Q (.int (j:Nat)) H
def sx{pins:List (Z×Obj)}{σ :CE.St}{G H:A4}{s:AD}(I:Inv X pins σ H s)(Ar:Sub G H){d1:D}{ds:List D}{xs:List V}{its:List U}(q:AP X.K G ds xs)(r:Vals xs its)(o:ds.all (okN 7)=true){i:Nat}{d:D}{u:U}(A1:ds[i]?=some d)(A7:its[i]?=some u):MD X.K G d1 u=CU d d1:=by
 obtain⟨v,ev,Au⟩:=q.get A1;have AE:okN 7 d=true:=List.all_eq_true.mp o d (EU A1);have BZ:RelV v u:=by obtain⟨HL,Hm,EJ⟩:=r.get ev;rw[A7]at Hm;cases Hm;exact EJ
 exact gP I Ar AE ⟨v,Au,BZ⟩
def aaz(Ag:F.K=X.K)(B0:X.A.units+64<Ce):UB X "list.index" (acb F):=by
 intro pins s σ H x vs v us Q I BB BZ h;obtain⟨G,d1,C1,p,y,ds,xs,j,Ar,rfl,rfl,a1,Gg,Cc,CD,AF,BO,q⟩:=h;rw[Ag]at a1 Gg;cases BB;obtain⟨u,rfl,EJ⟩:=vals1 BZ;obtain⟨its,A6,t1,E7⟩:=Gg.heap I Ar;have hm:=Zt I Ar (A:=X.A.in1) (d1:=d1) (by simp only[in1_units];lia) Cc a1 EJ Gg.HR A6 CD;obtain⟨⟨cls,dict,data,slots⟩,g1,g2,nn,g3⟩:=E7 rfl;simp only at g2 g3;subst g2 g3;obtain⟨DI,A1,A7⟩:=List.findIdx?_eq_some_iff_getElem.mp BO;have VR:its.length=ds.length:=by rw[<-A6.length,<-Gg.HR.length]
 have xA:j<its.length:=by lia
 have ia:∀(i:Nat)(h:i<ds.length),MD X.K G d1 (its[i]'(by lia))=CU ds[i] d1:=λi h=>sx I Ar Gg.HR A6 CD (C5 h) (C5 (by lia));have Do:s.TypeIs (.ref p) "list":=⟨_,g1,rfl⟩;have wf:(j:Int)<2^63-1:=by
  have:(j:Int)<1000000:=by lia
  lia
 refine call_meets ru Do PySem.F.entry_list_index (PySem.F.args_list_index_2 _ _) (SeqAt.list_indexAt p its.toArray nn dict slots u (MD X.K G d1) j (by simpa using xA) wf ?_ ?_) ⟨g1,λw hw=>hm w (by simpa using hw),?_⟩
 .have:=ia j DI;rw[A1]at this;simpa using this
 .intro k AG va;have z:=ia k (by lia);have B8:=A7 k va;rw[Bool.not_eq_true]at B8;rw[B8]at z;simpa using z
 .exact⟨.int (j:Nat),H,I.tok _,⟨_,rfl⟩,q⟩
def QA:D->List D->R D
 |.lst ds,[d]=>if okN 7 d=true/\ds.all (okN 7)=true/\ds.length<1000000 then match ds.findIdx? (λz=>CU z d)with
  |some j=>.ok (.int (j:Nat))
  |none=>.bad
  else .bad
 |_,_=>.bad
def Mi(m:AY)(ma:Ad):AY:=λρ=>(m ρ).bind λd=>match d with
 |.lst ds=>(ma ρ).bind λes=>QA (.lst ds) es
 |_=>.bad
def ah9 {apos Ba:Pos} (B0:X.A.units+64<Ce) (AE:Ax X F o m) (A2:Ew X F [e] ma) (Ag:F.K=X.K:=by rfl)(HV:Ik o "index" X.env (BC o X.env)=BC o X.env:=by rfl)(HW:((CW Ba (Aw [e] X.env)).all (λx=>!x.1)&&(He Ba (Hd [] X.env)).all (λx=>x.1.isSome)
    &&decide (([e]:List AN).length+([]:List FS).length+(if([]:List FS).isEmpty then 0 else 1)<30))=true:=by rfl)
  (HX:(apos.endLine==Ba.line)=true:=by rfl) (hs:Aw [e] X.env=(false,BC e X.env)::Aw [] X.env:=by rfl) (HY:(CW Ba (Aw [] X.env)).any (·.1)=false:=by rfl) :
  Ax X F (.Call (.Attribute o "index" apos) [e] [] Ba) (Mi m ma):=by
 refine⟨Al.imp (PF Rb ru PySem.F.type_list_index (aaz (F:=F) Ag B0) AE.1 A2.1 HV HW HX hs HY) ?_⟩;rintro σ H Q ⟨G,ρ,r,h⟩;unfold Mi at h;refine⟨G,ρ,r,?_⟩;refine rb h λdd Aa h x H1 AV A6 s1 BU=>?_;cases dd with
 |lst ds=>
  simp only at h;simp only[At]at BU;obtain⟨p,xs,rfl,AQ,al⟩:=BU;refine⟨.inl ⟨rfl,xs,Bb.of (A6.AJ.sub _ _ AQ)⟩,AV,ρ,A6,?_⟩;refine rb h λes B7 h vs Ab Bl AZ s2 CJ=>?_;unfold QA at h
  split at h
  .rename_i GG d A1;cases A1
   split at h
   .rename_i AB
    split at h
    .rename_i j J5;obtain⟨y,rfl,Au⟩:=CJ.one;exact⟨Bl,d,.lst ds,p,y,ds,xs,j,AZ.AJ.sub,rfl,rfl,Au,.lst (s2.g _ _ AQ) (al.mono s2.g),AB.1,AB.2.1,AB.2.2,J5,h _ Ab Bl AZ (s1.trans s2) (by simp only[At])⟩
    .exact h.elim
   .exact h.elim
  .exact h.elim
 |_=>cases h
end
def ez(K:AT):CS->Str->A4->Prop:=λE c H=>∃C,GA K c C/\∀a,H a=none->E (.ref C) (some a) H
def LB(K:AT)(G H:A4)(E:CS):B5:=⟨K,G,H,ez K E,Gc⟩
def Rel.Gz{F F':B5}{G H:A4}{σ :CE.St}{ρ:A8}(r:Rel F G H σ ρ)(Ag:F'.K=F.K)(h0:F'.BD=F.BD)(h1:F'.Ak=F.Ak)(hP:F'.pin=F.pin:=by rfl):Rel F' G H σ ρ:=
 r.over (hP:=hP) Ag ⟨r.AJ.sub,by rw[h0];exact r.AJ.DU,by rw[h1];exact r.AJ.B1,λb J=>by rw[h1]at J;rw[h0];exact r.AJ.new b J⟩ (Sub.refl _) λa A2=>⟨rfl,(r.foot A2).2.1,by rw[h1];exact(r.foot A2).2.2⟩
def RH(m:C7):C7:=λρ=>Ep (m ρ)
def WR(m:B6):B6:=λρ=>Ep (m ρ)
def WQ(m:Ad):Ad:=λρ=>Ep (m ρ)
section
variable{K:AT}{BD Ak:A4}{E:CS}
def zT{m:C7}:NZ (Fp (LB K BD Ak E) (RH m)) (Fp (Cw K BD Ak) m):=by
 rintro σ H Q ⟨G,ρ,r,h⟩;unfold RH at h;refine⟨G,ρ,r.Gz rfl rfl rfl,?_⟩;cases e:m ρ with
 |bad=>rw[e]at h;cases h
 |exc c=>rw[e]at h;cases h
 |ok b=>rw[e]at h;exact λH' G' B2 u=>h H' G' (B2.Gz rfl rfl rfl) u
def zR{m:Ad}:SH (EL (LB K BD Ak E) (WQ m)) (EL (Cw K BD Ak) m):=by
 rintro σ H Q ⟨G,ρ,r,h⟩;unfold WQ at h;refine⟨G,ρ,r.Gz rfl rfl rfl,?_⟩;cases e:m ρ with
 |bad=>rw[e]at h;cases h
 |exc c=>rw[e]at h;cases h
 |ok b=>rw[e]at h;exact λvs H' G' B2 u a=>h vs H' G' (B2.Gz rfl rfl rfl) u a
def E4.Gz{F F':B5}{G H:A4}(k:E4 F G H)(h0:F'.BD=F.BD)(h1:F'.Ak=F.Ak):E4 F' G H:=⟨k.sub,by rw[h0];exact k.DU,by rw[h1];exact k.B1,λb J=>by rw[h1]at J;rw[h0];exact k.new b J⟩
def zS{m:B6}:GB (EM (LB K BD Ak E) (WR m)) (EM (Cw K BD Ak) m):=by
 rintro Bw σ H ⟨G,ρ,r,h⟩;unfold WR at h;refine⟨G,ρ,r.Gz rfl rfl rfl,?_⟩;cases e:m ρ with
 |bad=>rw[e]at h;cases h
 |exc c=>rw[e]at h;cases h
 |ok f=>
  rw[e]at h;cases f with
  |BK B9=>exact λσ' G' H' B2 s=>h σ' G' H' (B2.Gz rfl rfl rfl) s
  |F9 B9=>exact λσ' G' H' B2 s=>h σ' G' H' (B2.Gz rfl rfl rfl) s
  |C_ B9=>exact λσ' G' H' B2 s=>h σ' G' H' (B2.Gz rfl rfl rfl) s
  |DB d=>exact λv G' H' k a=>h v G' H' (k.Gz rfl rfl) a
  |HI ds=>exact λa xs G' H' k h1 h2 h3 h4=>h a xs G' H' (k.Gz rfl rfl) h1 h2 h3 h4
  |Dw t=>exact λv G' H' k q=>h v G' H' (k.Gz rfl rfl) ⟨q.at_,q.Cb,q.own⟩
  |rs d B9=>exact λv σ' G' H' B2 a=>h v σ' G' H' (B2.Gz rfl rfl rfl) a
end
section
variable{X:AX}{e c:AN}{es:List AN}{st:BG}{pos p:Pos}{K:AT}{BD Ak:A4}{E:CS}{mt:C7}{ms:B6}{ma:Ad}
def afP{t:TT}(h:F0 X.Fn e t):F0 X e t:=λpins s σ H Q I q=>H9 (h pins s σ H Q (I.Ko _) q) (λ_ s'⟨H',Bp,z⟩=>⟨H',Bp.Js,z⟩) λ_ _ z=>z.elim
def agD{t:Et}(h:F8 X.Fn es t):F8 X es t:=λpos pins s σ H Q I q=>H9 (h pos pins s σ H Q (I.Ko _) q) (λ_ s'⟨vs,H',Bp,r,z⟩=>⟨vs,H',Bp.Js,r,z⟩) λ_ _ z=>z.elim
def agE{t:Ei}(h:Cf X.Fn st t):Cf X st t:=λpins s σ H D I q=>H9 (h pins s σ H D (I.Ko _) q) (λf s' z=>by
 cases f with
 |next=>obtain⟨σ',H',Bp,z⟩:=z;exact⟨σ',H',Bp.Js,z⟩
 |brk=>obtain⟨σ',H',Bp,z⟩:=z;exact⟨σ',H',Bp.Js,z⟩
 |cont=>obtain⟨σ',H',Bp,z⟩:=z;exact⟨σ',H',Bp.Js,z⟩
 |ret v=>obtain⟨x,σ',H',Bp,z⟩:=z;exact⟨x,σ',H',Bp.Js,z⟩) λ_ _ z=>z.elim
def ahs(h:FN X.Fn (Cw K BD Ak) e mt):FN X (LB K BD Ak E) e (RH mt):=⟨λpins s σ H Q I q=>afP h.1 pins s σ H Q I (zT σ H Q q)⟩
def ahq(h:Ew X.Fn (Cw K BD Ak) es ma):Ew X (LB K BD Ak E) es (WQ ma):=⟨λpos pins s σ H Q I q=>agD h.1 pos pins s σ H Q I (zR σ H Q q)⟩
def ahr(h:ED X.Fn (Cw K BD Ak) st ms):ED X (LB K BD Ak E) st (WR ms):=⟨λpins s σ H D I q=>agE h.1 pins s σ H D I (zS D σ H q)⟩
end
structure Ui(P:BR)(w:BA)(K:AT)(AA:Str->Option U)(base:Aq)(x:Str)(n k:Nat)(mf:List D->R Bf):Prop where
 ex:∃(f:Z)(fd:FH)(ps:List Str),ps.length=n/\Fu P w K AA base (HM P w) k f fd ps (Oo K n (ez K) mf)/\AA x=some (.ref f)/\IM K (.ref f)=true/\Binds K fd ps []
structure Xu(K:AT)(AA:Str->Option U)(c:Str):Prop where
 ex:∃C,GA K c C/\AA c=some (.ref C)/\Py K C [.type "ValueError",.type "Exception",.type "BaseException",.type "object"] "ValueError.__new__"=true
noncomputable def VB(c:Str):B6:=λ_=>.exc c
section
variable{P:BR}{w:BA}{K:AT}{AA:Str->Option U}{base:Aq}{N:List Str}{qual:Str}{scope:DT}{f:Z}{cd:U}{A:Bk}{outer:List Env}{s0:AD}{Fa:A4}{E:CS}{BD Ak:A4}
def f3{x:Str}{np Ba pos Xf:Pos}{m:Str}{j:Nat}(k:Xu K AA x)(AQ:DK (EE (HM P w) P w K AA base N qual scope f cd A outer s0 Fa E) x:=by rfl)(hd:(x==("__debug__" :Str))=false:=by decide) :
  ED (EE (HM P w) P w K AA base N qual scope f cd A outer s0 Fa E) (LB K BD Ak E) (.Raise (some (.Call (.Name x np) [.Constant (.str m) j Xf] [] Ba)) none pos) (VB x):=by
 obtain⟨C,h1,h2,h3⟩:=k.ex;refine⟨λpins s σ H D I q=>ad8 (X:=EE (HM P w) P w K AA base N qual scope f cd A outer s0 Fa E) PySem.F.excBase_ValueError h3 h2 rfl AQ hd pins s σ H D I ?_⟩;obtain⟨G,ρ,r,h⟩:=q;obtain⟨MQ,c1,c2⟩:=(show Jg (LB K BD Ak E) x from h) G H r.AJ;have:MQ=C:=by unfold GA at c1 h1;rw[h1]at c1;cases c1;rfl
 subst this;exact agZ c2
def agv{x:Str}{n k:Nat}{mf:List D->R Bf}{e:AN}{es:List AN}{ma:Ad}{pos p:Pos}(c:Ui P w K AA base x n k mf)(AS:Bz k (EE (HM P w) P w K AA base N qual scope f cd A outer s0 Fa E).A)(A2:Ew (EE (HM P w) P w K AA base N qual scope f cd A outer s0 Fa E) (LB K BD Ak E) (e::es) ma)(AQ:DK (EE (HM P w) P w K AA base N qual scope f cd A outer s0 Fa E) x:=by rfl)(FD:(x==("__debug__" :Str))=false:=by decide)(he:Aw (e::es) (EE (HM P w) P w K AA base N qual scope f cd A outer s0 Fa E).env=(false,BC e (EE (HM P w) P w K AA base N qual scope f cd A outer s0 Fa E).env)::Aw es (EE (HM P w) P w K AA base N qual scope f cd A outer s0 Fa E).env:=by rfl)(D0:(CW pos (Aw es (EE (HM P w) P w K AA base N qual scope f cd A outer s0 Fa E).env)).any (·.1)=false:=by rfl) :
  Ax (EE (HM P w) P w K AA base N qual scope f cd A outer s0 Fa E) (LB K BD Ak E) (.Call (.Name x p) (e::es) [] pos) (Bt n mf ma):=by
 obtain⟨PM,fd,ps,AR,EB,hm,AG,J⟩:=c.ex;exact⟨Al.imp (SU (X:=EE (HM P w) P w K AA base N qual scope f cd A outer s0 Fa E) EB AS AQ hm AG J .nil abU A2.1 FD he D0) (mz (F:=LB K BD Ak E) (xe:=ez K) (E:=E) rfl)⟩
end
def qc(P:BR)(w:BA){K:AT}(AA:Str->Option U)(base:Aq){x:Str}{st:BG}{N ps:List Str}(k:Nat)(m:B6)(d:D1 K AA x st ps)(S:C2 N ps (BP st))(h:∀(f:Z)(BV:U)(A:Bk)(outer:List Env)(s:AD)(H:A4)(E:CS),Bz k (A.deeper (K4 x (BP st) s.heap.objs.size f BV))->∀BD Ak,IF (EE (HM P w) P w K AA base N x (BP st) f BV A outer s H E) (LB K BD Ak E) (FA st) m) :
  Ui P w K AA base x ps.length (k+1) (Cx N.length m):=by
 obtain⟨f,fd,fn,hm,J⟩:=d.ex;refine⟨f,fd,ps,rfl,?_,hm,fn.AJ,J⟩;obtain⟨F3,DN,Cu,doc,pm,an,BV,C_,Lu,rfl,lk,Dh⟩:=fn.ex;refine lj lk Dh S ZA λA outer s H vs Q E AS hs=>?_;obtain⟨G,BF⟩:=Xd hs;exact⟨_,(h f BV A outer s H E AS G H).1,BF⟩
def R4(n:Nat)(mf:List D->R Bf)(m:Ad):AY:=λρ=>(m ρ).bind λds=>if ds.length=n then(Ep (mf ds)).bind HJ else .bad
section
variable{X:AX}{F:B5}{e:AN}{es:List AN}{pos p:Pos}{ma:Ad}
def abV{P:BR}{w:BA}:Passes (HM P w) X (λ_ _ _=>False):=λ_ _ _ _ _ _ _ h=>by obtain⟨_,_,_,_,_,_,_,z⟩:=h;cases z
def wU{n:Nat}{mf:List D->R Bf}{m:Ad}{xe:CS->Str->A4->Prop}{E:CS}:Dq (CN F (R4 n mf m)) (W6 (Oo F.K n xe mf) [] E (EL F m)):=by
 rintro σ H Q ⟨G,ρ,r,h⟩;unfold R4 at h;refine⟨G,ρ,r,?_⟩;refine rb h λds Aa h vs H1 AV A6 s1 a=>?_;by_cases AR:ds.length=n
 .rw[if_pos AR]at h;rw[K0];refine⟨AV,ds,A6.AJ.sub,a,AR,?_⟩;cases e:mf ds with
  |bad=>rw[e]at h;cases h
  |exc c=>rw[e]at h;cases h
  |ok t=>
   rw[e]at h;have h:Hq F G H σ ρ Q (HJ t):=h;cases t with
   |v d=>exact λv G' H' k Au=>h v H' G' (E4.of A6 k) (s1.trans ⟨k.DU,k.B1,k.new⟩) Au
   |o es=>intro p xs G' H' k h1 h2 h3 h4;have h2:H1 p=none:=h2;have B2:=E4.of A6 k;have no:¬C3 H' σ ρ p:=C3.fresh A6 k.B1 h2;refine h (.ref p) H' _ (B2.take h3 h1 (A6.AJ.B1.gone h2) no) ((s1.trans ⟨k.DU,k.B1,k.new⟩).put (s1.h.gone h2) h1) ?_;simp only[At];exact⟨p,xs,rfl,DO,h4.mono (Sub.upd h1)⟩
   |t t=>intro v G' H' k q;obtain⟨a1,a2,Du⟩:=(E4.of A6 k).eE (F':=⟨F.K,AV,H1,xe E,Gc⟩) rfl q (s1.trans ⟨k.DU,k.B1,k.new⟩) λb J=>⟨s1.h.gone (q.own b J).2,A6.AJ.B1.gone (q.own b J).2,C3.fresh A6 k.B1 (q.own b J).2⟩;exact h v H' _ a1 a2 Du
 .rw[if_neg AR]at h;cases h
def agu{x:Str}{n k:Nat}{mf:List D->R Bf}(c:Ui X.prog X.w X.K X.AA X.base x n k mf)(AS:Bz k X.A)(A2:Ew X F (e::es) ma)(Ag:F.K=X.K:=by rfl)(AQ:DK X x:=by rfl)(FD:(x==("__debug__" :Str))=false:=by decide)(he:Aw (e::es) X.env=(false,BC e X.env)::Aw es X.env:=by rfl)(D0:(CW pos (Aw es X.env)).any (·.1)=false:=by rfl):Ax X F (.Call (.Name x p) (e::es) [] pos) (R4 n mf ma):=by obtain⟨f,fd,ps,AR,EB,hm,AG,J⟩:=c.ex;refine⟨Al.imp (SU EB AS AQ hm AG J .nil abV A2.1 FD he D0) ?_⟩;rw[<-Ag];exact wU
end
end Cj
namespace CE
open PySem PySem.Spec PySem.Calls PyProof.Rows PySem.W PySem.Builtin PySem.Builtin.ObjectAttr PySem.Builtin.Getset_descriptor
section
variable{prog:BR}{w:BA}{A:Bk}{E:U->AD->Prop}{s:AD}{K:Frag}{a D:Z}
end
end CE
namespace Cj
open PySem PySem.Spec CE
section
variable{X:AX}{F:B5}{a:AN}{pos p:Pos}{m:AY}
end
section
variable{X:AX}{F:B5}{a b:AN}{pos p:Pos}{m n:AY}
end
end Cj
namespace G7
open PySem PySem.SetTable
theorem hU(xs:Array Nat)(j:Nat)(hs:xs.toList.Pairwise (· <·)):∀fuel lo A0,A0<=lo+fuel->lo<=A0->A0<=xs.size->(∀k,k<lo->xs.getD k j<j)->(∀k,A0<=k->k<xs.size->j<=xs.getD k j)->
  below.go xs j fuel lo A0<=xs.size/\(∀k,k<below.go xs j fuel lo A0->xs.getD k j<j)/\(∀k,below.go xs j fuel lo A0<=k->k<xs.size->j<=xs.getD k j)
 |0,lo,A0,h1,h2,h3,h4,h5=>by
  have e:lo=A0:=by lia
  subst e;exact⟨h3,h4,h5⟩
 |fuel+1,lo,A0,h1,h2,h3,h4,h5=>by
  have mono:∀a b,a<=b->b<xs.size->xs.getD a j<=xs.getD b j:=by
   intro a b O9 J;rcases To O9 with rfl|O9
   .exact By _
   have:=List.pairwise_iff_getElem.mp hs a b (by simp;lia) (by simpa using J) O9;simp only[fQ]at this;rw[Pl,Pl,JP (by lia),JP J];exact MK this
  unfold below.go;by_cases h:lo<A0
  .rw[if_pos h];dsimp only;by_cases q:xs.getD ((lo+A0)/2) j<j
   .rw[if_pos q];refine hU xs j hs fuel _ A0 (by lia) (by lia) h3 (λk AG=>?_) h5;exact Nat.lt_of_le_of_lt (mono k ((lo+A0)/2) (by lia) (by lia)) q
   .rw[if_neg q];refine hU xs j hs fuel lo _ (by lia) (by lia) (by lia) h4 λk AG LG=>?_;exact Eg (Nat.not_lt.mp q) (mono _ k AG LG)
  .rw[if_neg h];have e:lo=A0:=by lia
   subst e;exact⟨h3,h4,h5⟩
def Xc{xs:Array Nat}(hs:xs.toList.Pairwise (· <·))(j:Nat):below xs j<=xs.size/\(∀y∈xs.toList.take (below xs j),y<j)/\(∀y∈xs.toList.drop (below xs j),j<=y):=by
 obtain⟨a,b,c⟩:=hU xs j hs xs.size 0 xs.size (by lia) (by lia) (By _) (λk AG=>absurd AG (Te _)) (λk h1 h2=>absurd h2 (by lia));refine⟨a,λy Ao=>?_,λy Ao=>?_⟩
 .obtain⟨k,AG,rfl⟩:=Kr Ao;have Je:k<below xs j/\k<xs.size:=by simpa[NH,Nat.lt_min]using AG
  have:=b k Je.1;rw[Pl,JP Je.2]at this;simpa using this
 .obtain⟨k,AG,rfl⟩:=Kr Ao;have Je:below xs j+k<xs.size:=by simp at AG;lia
  have:=c (below xs j+k) (Pr _ _) Je;rw[Pl,JP Je]at this;simpa using this
def Yb{α:Type}(xs:Array α)(p:Nat)(x:α):(insertAt xs p x).toList=xs.toList.take p++x::xs.toList.drop p:=by unfold insertAt;simp[Array.toList_extract,List.extract_eq_take_drop];exact Wi (by simp)
structure Tab(t:E0)(n:Nat):Prop where
 UW:t.dummies= #[]
 Mm:t.place.size=n
 RN:t.place.toList.Pairwise (· <·)
 le:∀j∈t.place.toList,j<=t.mask
def slot_of{t:E0}{n:Nat}(T:Tab t n)(j:Nat):(∃i,t.slot j=.live i/\t.place.toList[i]?=some j)\/(t.slot j=.empty/\j∉t.place.toList):=by
 obtain⟨a,b,c⟩:=Xc T.RN j;unfold slot;dsimp only;by_cases h:t.place[below t.place j]?=some j
 .left
  refine⟨below t.place j,?_,by simpa using h⟩;rw[h];simp
 .right
  constructor
  .have:(t.place[below t.place j]?==some j)=false:=by simpa using h
   rw[this,T.UW];simp[has]
  .intro m;have CM:=m;rw[<-Rf (below t.place j) t.place.toList]at CM;rcases List.mem_append.mp CM with CM|CM
   .exact absurd (b j CM) (IK _)
   .cases hd:t.place.toList.drop (below t.place j)with
    |nil=>rw[hd]at CM;cases CM
    |cons y r=>
     have Ao:t.place[below t.place j]?=some y:=by
      have:(t.place.toList.drop (below t.place j))[0]?=some y:=by rw[hd];rfl
      rw[Tp]at this;simpa using this
     have AS:=T.RN;rw[<-Rf (below t.place j) t.place.toList,hd]at AS;have AS:=(List.pairwise_append.mp AS).2.1;rw[hd]at CM;rcases List.mem_cons.mp CM with rfl|CM
     .exact h Ao
     .have h1:=(List.pairwise_cons.mp AS).1 j CM;have h2:=c y (by rw[hd];simp);lia
def pq{t:E0}{n:Nat}(T:Tab t n){j:Nat}(m:j∈t.place.toList):∃i,t.slot j=.live i/\t.place.toList[i]?=some j:=by
 rcases slot_of T j with h|h
 .exact h
 .exact absurd m h.2
def af4{t:E0}{n:Nat}(T:Tab t n){j:Nat}(m:j∉t.place.toList):t.slot j=.empty:=by
 rcases slot_of T j with⟨i,h,e⟩|h
 .exact absurd (EU e) m
 .exact h.1
def acQ{t:E0}{n:Nat}(T:Tab t n){j:Nat}(m:j∉t.place.toList)(BO:j<=t.mask):∃p,(t.put j).2=p/\p<=n/\Tab (t.put j).1 (n+1)/\(t.put j).1.place.toList=t.place.toList.take p++j::t.place.toList.drop p/\(t.put j).1={ t with place:=(t.put j).1.place }:=by
 obtain⟨a,b,c⟩:=Xc T.RN j;have e:(t.put j).1.place.toList=t.place.toList.take (below t.place j)++j::t.place.toList.drop (below t.place j):=by unfold put;exact Yb _ _ _
 have E2:(t.put j).1.dummies= #[]:=by unfold put;simp[has,T.UW]
 have em:(t.put j).1.mask=t.mask:=rfl;refine⟨below t.place j,rfl,T.Mm▸a,⟨E2,?_,?_,?_⟩,e,?_⟩
 .have:(t.put j).1.place.toList.length=n+1:=by
    rw[e,K5,FQ,NH,Tg];have:=T.Mm;simp only[NC];lia
  simpa using this
 .rw[e];have AS:=T.RN;rw[<-Rf (below t.place j) t.place.toList]at AS;obtain⟨A6,AZ,Cy⟩:=List.pairwise_append.mp AS;refine List.pairwise_append.mpr ⟨A6,List.pairwise_cons.mpr ⟨λy Ao=>?_,AZ⟩,λx A5 y Ao=>?_⟩
  .rcases To (c y Ao)with q|q
   .exact absurd (q▸T_ Ao) m
   .exact q
  .rcases List.mem_cons.mp Ao with rfl|Ao
   .exact b x A5
   .exact Cy x A5 y Ao
 .intro y Ao;rw[em];rw[e]at Ao;rcases List.mem_append.mp Ao with Ao|Ao
  .exact T.le y (Rh Ao)
  .rcases List.mem_cons.mp Ao with rfl|Ao
   .exact BO
   .exact T.le y (T_ Ao)
 .have uf:(t.put j).1.dummies=t.dummies:=E2.trans T.UW.symm;show(t.put j).1=_;have:(t.put j).1={ t with place:=(t.put j).1.place,dummies:=(t.put j).1.dummies }:=rfl;rw[this,uf]
noncomputable def L3(mask:Nat)(p:Probe):Probe:=
 if p.more>0 then{ p with j:=p.j+1,more:=p.more-1 }else
 { p with j:=(leap mask p.i p.perturb).1,more:=runEnd mask (leap mask p.i p.perturb).1-(leap mask p.i p.perturb).1,i:=(leap mask p.i p.perturb).1,perturb:=(leap mask p.i p.perturb).2 }
def iW(t:E0)(p:Probe):t.advance p=L3 t.mask p:=rfl
noncomputable def pJ(mask:Nat)(i q:Nat):Probe:={ j:=i,more:=runEnd mask i-i,i,perturb:=q,dummy:=none }
def C6(mask:Nat)(h:Int):Nat->Probe
 |0=>pJ mask (bits h%(mask+1)) (bits h)
 |n+1=>L3 mask (C6 mask h n)
noncomputable def CZ(mask:Nat)(h:Int):Nat->Nat×Nat
 |0=>(bits h%(mask+1),bits h)
 |n+1=>leap mask (CZ mask h n).1 (CZ mask h n).2
def Dw(mask i:Nat):Nat:=runEnd mask i-i
def Ar(mask:Nat)(h:Int):Nat->Nat
 |0=>0
 |n+1=>Ar mask h n+Dw mask (CZ mask h n).1+1
def ack(mask i:Nat):Dw mask i<=9:=by unfold Dw runEnd;split<;>lia
def dg(mask i:Nat):i<=runEnd mask i:=by unfold runEnd;split<;>lia
theorem pj(mask:Nat)(h:Int):∀n,Ar mask h n<=10*n
 |0=>By _
 |n+1=>by have:=pj mask h n;have:=ack mask (CZ mask h n).1;unfold Ar;lia
def sl{mask i q r:Nat}(AS:r<Dw mask i):L3 mask { j:=i+r,more:=Dw mask i-r,i:=i,perturb:=q,dummy:=none }={ j:=i+(r+1),more:=Dw mask i-(r+1),i:=i,perturb:=q,dummy:=none }:=by unfold L3;rw[if_pos (by show Dw mask i-r>0;lia)];simp only[Probe.mk.injEq];refine⟨by lia,by lia,trivial,trivial,trivial⟩
def sm{mask i q:Nat}:L3 mask { j:=i+Dw mask i,more:=Dw mask i-Dw mask i,i:=i,perturb:=q,dummy:=none }=pJ mask (leap mask i q).1 (leap mask i q).2:=by unfold L3;rw[if_neg (by show¬(Dw mask i-Dw mask i>0);lia)];rfl
theorem SX(mask:Nat)(h:Int):∀L r,r<=Dw mask (CZ mask h L).1->C6 mask h (Ar mask h L+r)={ j:=(CZ mask h L).1+r,more:=Dw mask (CZ mask h L).1-r,i:=(CZ mask h L).1,perturb:=(CZ mask h L).2,dummy:=none }
 |0,0,_=>rfl
 |L,r+1,AS=>by have:=SX mask h L r (by lia);show L3 mask (C6 mask h (Ar mask h L+r))=_;rw[this];exact sl (by lia)
 |L+1,0,_=>by have:=SX mask h L (Dw mask (CZ mask h L).1) (By _);show L3 mask (C6 mask h (Ar mask h L+Dw mask (CZ mask h L).1))=_;rw[this,sm];rfl
def u5(h:Int):bits h<2^64:=by unfold bits;have:=Pv h (b:=2^64) (by decide);have:=Ps h (b:=2^64) (by decide);lia
theorem o9(mask:Nat)(h:Int):∀n,(CZ mask h n).2=bits h/32^n
 |0=>by simp[CZ]
 |n+1=>by show(CZ mask h n).2/32=_;rw[o9 mask h n,Nat.div_div_eq_div_mul,Nat.pow_succ]
def zn(mask:Nat)(h:Int)(n:Nat)(AR:13<=n):(CZ mask h n).2=0:=by
 rw[o9];apply Nat.div_eq_of_lt;have h1:=u5 h;have h2:32^13<=32^n:=Nat.pow_le_pow_right (by decide) AR;have h3:(2:Nat)^64<32^13:=by decide
 lia
noncomputable def Ke(mask:Nat):Nat->Nat->Nat
 |0,i=>i
 |n+1,i=>(Ke mask n i*5+1)%(mask+1)
theorem o8(mask:Nat)(h:Int):∀m,(CZ mask h (13+m)).1=Ke mask m (CZ mask h 13).1
 |0=>rfl
 |m+1=>by have e:(CZ mask h (13+(m+1))).2=0:=zn mask h _ (by lia);have A7:(CZ mask h (13+m)).2/32=0:=e;show((CZ mask h (13+m)).1*5+1+(CZ mask h (13+m)).2/32)%(mask+1)=_;rw[A7,o8 mask h m];rfl
theorem YM(mask:Nat)(a:Nat):∀b i,Ke mask (a+b) i=Ke mask b (Ke mask a i)
 |0,_=>rfl
 |b+1,i=>by show(Ke mask (a+b) i*5+1)%(mask+1)=_;rw[YM mask a b i];rfl
noncomputable def ZP(mask:Nat):Nat->Nat->List Nat
 |0,_=>[]
 |n+1,i=>i::ZP mask n ((i*5+1)%(mask+1))
theorem nz(mask i:Nat):∀n,Ke mask n ((i*5+1)%(mask+1))=Ke mask (n+1) i
 |0=>rfl
 |n+1=>by show(Ke mask n _*5+1)%_=_;rw[nz mask i n];rfl
theorem c4(mask:Nat):∀n i j,j∈ZP mask n i->∃m,m<n/\Ke mask m i=j
 |0,_,_,h=>by cases h
 |n+1,i,j,h=>by
  rcases List.mem_cons.mp h with rfl|h
  .exact⟨0,by lia,rfl⟩
  .obtain⟨m,h1,h2⟩:=c4 mask n _ j h;exact⟨m+1,by lia,by rw[<-nz];exact h2⟩
structure Gu(mask:Nat):Prop where
 all:∀j,j<=mask->j∈ZP mask (mask+1) 0
 back:Ke mask (mask+1) 0=0
def Gu.reach{mask:Nat}(C:Gu mask){i j:Nat}(A0:i<=mask)(BO:j<=mask):∃m,m<=mask/\Ke mask m i=j:=by
 obtain⟨a,a1,a2⟩:=c4 _ _ _ _ (C.all i A0);obtain⟨b,EZ,DG⟩:=c4 _ _ _ _ (C.all j BO);by_cases h:a<=b
 .refine⟨b-a,by lia,?_⟩;rw[<-a2,<-YM,show a+(b-a)=b by lia,DG]
 .refine⟨mask+1-a+b,by lia,?_⟩;rw[<-a2,<-YM,show a+(mask+1-a+b)=(mask+1)+b by lia,YM,C.back,DG]
def gu{mask:Nat}(h:(EI (mask+1)).all (λj=>(ZP mask (mask+1) 0).contains j)=true)(b:Ke mask (mask+1) 0=0):Gu mask:=
 ⟨λj BO=>by have:=List.all_eq_true.mp h j (List.mem_range.mpr (by lia));exact List.contains_iff_mem.mp this,b⟩
def jJ:Gu 7:=gu (by decide+kernel) (by decide+kernel)
def jI:Gu 31:=gu (by decide+kernel) (by decide+kernel)
def jH:Gu 127:=gu (by decide+kernel) (by decide+kernel)
def bl(mask:Nat)(h:Int):∀n,(CZ mask h n).1<=mask
 |0=>fg (XB _ (by lia))
 |n+1=>fg (XB _ (by lia))
def Gu.leap{mask:Nat}(C:Gu mask)(h:Int){j:Nat}(BO:j<=mask):∃L,L<mask+15/\(CZ mask h L).1=j:=by obtain⟨m,h1,h2⟩:=C.reach (bl mask h 13) BO;exact⟨13+m,by lia,by rw[o8];exact h2⟩
def Gu.cover{mask:Nat}(C:Gu mask)(h:Int){j:Nat}(BO:j<=mask):∃n,n<10*turns mask/\(C6 mask h n).j=j:=by
 obtain⟨L,h1,h2⟩:=C.leap h BO;refine⟨Ar mask h L,?_,?_⟩
 .have:=pj mask h L;unfold turns;lia
 .have:=SX mask h L 0 (GV _);simp only[gJ]at this;rw[this];exact h2
def wB{P:List Nat}{mask:Nat}(hs:P.Pairwise (· <·))(AR:P.length<=mask):∃j,j<=mask/\j∉P:=by
 apply Pi;intro no;have all:∀j,j<=mask->j∈P:=λj BO=>Pi λz=>no ⟨j,BO,z⟩;have Cb:(EI (mask+1)).Nodup:=List.nodup_range;have sub:∀x∈EI (mask+1),x∈P:=λx A5=>all x (by have:=List.mem_range.mp A5;lia);have key:∀(l:List Nat),l.Nodup->∀(P:List Nat),(∀x∈l,x∈P)->l.length<=P.length:=by
  intro l;induction l with
  |nil=>intro _ P _;simp
  |cons a r Bg=>intro Cb P sub;obtain⟨CQ,C0⟩:=List.nodup_cons.mp Cb;have A2:=sub a (by simp);have:=Bg C0 (P.erase a) (λx A5=>(Wb (by intro e;subst e;exact CQ A5)).mpr (sub x (by simp[A5])));rw[Wf A2]at this;have:0<P.length:=Rd A2;simp;lia
 have:=key _ Cb P sub;simp at this;lia
def least(p:Nat->Prop):(∃n,p n)->∃n,p n/\∀m,m<n->¬p m:=by
 rintro⟨n,h⟩;induction n using Nat.strongRecOn with
 |_ n Bg=>
  by_cases q:∃m,m<n/\p m
  .obtain⟨m,m1,m2⟩:=q;exact Bg m m1 m2
  .exact⟨n,h,λm hm AW=>q ⟨m,hm,AW⟩⟩
def Gu.first{mask:Nat}(C:Gu mask){P:List Nat}(hs:P.Pairwise (· <·))(AR:P.length<=mask)(h:Int):∃N,N<10*turns mask/\(C6 mask h N).j∉P/\∀m,m<N->(C6 mask h m).j∈P:=by obtain⟨j,LK,Hb⟩:=wB hs AR;obtain⟨n,CQ,C0⟩:=C.cover h LK;obtain⟨N,Y3,UD⟩:=least (λn=>(C6 mask h n).j∉P) ⟨n,by rw[C0];exact Hb⟩;refine⟨N,?_,Y3,λm hm=>Pi (UD m hm)⟩;have:¬n<N:=λz=>UD n z (by rw[C0];exact Hb);lia
theorem o7(mask:Nat)(h:Int):∀n,(C6 mask h n).dummy=none
 |0=>rfl
 |n+1=>by
  show(L3 mask (C6 mask h n)).dummy=none;unfold L3
  split<;>exact o7 mask h n
def dh{mask i:Nat}(A0:i<=mask):runEnd mask i<=mask:=by unfold runEnd;split<;>lia
structure iK(mask:Nat)(p:Probe):Prop where
 i:p.i<=mask
 j:p.j+p.more<=mask
theorem pM(mask:Nat)(h:Int):∀n,iK mask (C6 mask h n)
 |0=>by have:=bl mask h 0;have h2:=dh this;have h3:=dg mask (CZ mask h 0).1;exact⟨this,by show(CZ mask h 0).1+(runEnd mask (CZ mask h 0).1-(CZ mask h 0).1)<=mask;lia⟩
 |n+1=>by
  obtain⟨a,b⟩:=pM mask h n;show iK mask (L3 mask (C6 mask h n));unfold L3
  split
  .rename_i q;refine⟨a,?_⟩;show(C6 mask h n).j+1+((C6 mask h n).more-1)<=mask;lia
  .have h1:(g5 mask (C6 mask h n).i (C6 mask h n).perturb).1<=mask:=fg (XB _ (by lia));have h2:=dh h1;have h3:=dg mask (g5 mask (C6 mask h n).i (C6 mask h n).perturb).1;refine⟨h1,?_⟩;show(g5 mask (C6 mask h n).i (C6 mask h n).perturb).1+(runEnd mask _-_)<=mask;lia
def pL(mask:Nat)(h:Int)(n:Nat):(C6 mask h n).j<=mask:=by have:=(pM mask h n).j;lia
section
variable{α:Type}
def HO(t:E0)(es:Array (Int×α))(j:Nat)(e:Int×α):Prop:=∃i:Nat,t.place.toList[i]?=some j/\es.toList[i]?=some e
structure Fw(t:E0)(es:Array (Int×α)):Prop where
 tab:Tab t es.size
 jG:Gu t.mask
 room:es.size<=t.mask
 find:∀j e,HO t es j e->∃n,(C6 t.mask e.1 n).j=j/\∀m,m<n->(C6 t.mask e.1 m).j∈t.place.toList
def Fw.len{t:E0}{es:Array (Int×α)}(I:Fw t es):t.place.toList.length=es.size:=by simpa using I.tab.Mm
theorem Fw.first{t:E0}{es:Array (Int×α)}(I:Fw t es)(h:Int):∃N,N<10*turns t.mask/\(C6 t.mask h N).j∉t.place.toList/\∀m,m<N->(C6 t.mask h m).j∈t.place.toList:=
 I.jG.first I.tab.RN (by rw[I.len];exact I.room) h
def Fw.ent{t:E0}{es:Array (Int×α)}(I:Fw t es){j i:Nat}(e:t.place.toList[i]?=some j):∃x,es.toList[i]?=some x:=by have:i<t.place.toList.length:=(List.getElem?_eq_some_iff.mp e).1;rw[I.len]at this;exact⟨_,C5 (by simpa using this)⟩
def pA{t:E0}{n:Nat}(T:Tab t n){i k j:Nat}(a:t.place.toList[i]?=some j)(b:t.place.toList[k]?=some j):i=k:=by
 obtain⟨a1,a2⟩:=List.getElem?_eq_some_iff.mp a;obtain⟨EZ,DG⟩:=List.getElem?_eq_some_iff.mp b;have r:=List.pairwise_iff_getElem.mp T.RN;rcases Rk i k with h|h|h
 .have:=r i k a1 EZ h;lia
 .exact h
 .have:=r k i EZ a1 h;lia
def HO.inj{t:E0}{es:Array (Int×α)}{n:Nat}(T:Tab t n){j:Nat}{e Bi:Int×α}(a:HO t es j e)(b:HO t es j Bi):e=Bi:=by obtain⟨i,a1,a2⟩:=a;obtain⟨k,EZ,DG⟩:=b;have:=pA T a1 EZ;subst this;rw[a2]at DG;exact Dz DG
theorem pC{t:E0}{es:Array (Int×α)}(I:Fw t es){f:Nat->Int}(hf:∀(i:Nat) e,es.toList[i]?=some e->f i=e.1)(h:Int){N:Nat}(h1:(C6 t.mask h N).j∉t.place.toList)(h2:∀m,m<N->(C6 t.mask h m).j∈t.place.toList) :
  ∀fuel n,n<=N->N-n<fuel->
  (probe.go t f h fuel (C6 t.mask h n)=some (.empty (C6 t.mask h N).j none)/\∀m,n<=m->m<N->∀e,HO t es (C6 t.mask h m).j e->e.1≠h)\/
  (∃m i e,n<=m/\m<N/\t.place.toList[i]?=some (C6 t.mask h m).j/\es.toList[i]?=some e/\e.1=h/\probe.go t f h fuel (C6 t.mask h n)=some (.candidate (C6 t.mask h m).j i (C6 t.mask h (m+1)))/\∀CM,n<=CM->CM<m->∀e,HO t es (C6 t.mask h CM).j e->e.1≠h)
 |0,n,_,ajn=>by lia
 |fuel+1,n,AR,N3=>by
  unfold probe.go;by_cases q:n=N
  .subst q
   left
   rw[af4 I.tab h1];dsimp only;rw[o7];exact⟨rfl,λm a b=>by lia⟩
  .obtain⟨i,s1,s2⟩:=pq I.tab (h2 n (by lia));obtain⟨x,A5⟩:=I.ent s2;rw[s1];dsimp only;by_cases w:x.1=h
   .right
    refine⟨n,i,x,By _,by lia,s2,A5,w,?_,λCM a b=>by lia⟩;rw[if_pos (by rw[hf i x A5,w];simp),iW];rfl
   .rw[if_neg (by rw[hf i x A5];simpa using w),iW];have no:∀e,HO t es (C6 t.mask h n).j e->e.1≠h:=λe he=>by
     rw[HO.inj I.tab he ⟨i,s2,A5⟩];exact w
    rcases pC I hf h h1 h2 fuel (n+1) (by lia) (by lia)with⟨a,b⟩|⟨m,VW,e,a1,a2,Du,GE,KO,Jy,gq⟩
    .refine .inl ⟨a,λm c d=>?_⟩;rcases To c with rfl|c
     .exact no
     .exact b m c d
    .refine .inr ⟨m,VW,e,by lia,a2,Du,GE,KO,Jy,λCM c d=>?_⟩;rcases To c with rfl|c
     .exact no
     .exact gq CM c d
def uo{t t':E0}{es:Array (Int×α)}(AF:t.place.toList.length=es.size){j p:Nat}{e:Int×α}(AW:p<=es.size)(hP:t'.place.toList=t.place.toList.take p++j::t.place.toList.drop p){Pa:Nat}{Bi:Int×α}(h:HO t' (insertAt es p e) Pa Bi):(Pa=j/\Bi=e)\/HO t es Pa Bi:=by
 obtain⟨i,a,b⟩:=h;rw[hP]at a;rw[Yb]at b;have E7:(t.place.toList.take p).length=p:=by rw[NH,AF];lia
 have Cm:(es.toList.take p).length=p:=by rw[NH,NC];lia
 rcases Rk i p with q|q|q
 .right
  rw[Gl (by lia),fG q]at a;rw[Gl (by lia),fG q]at b;exact⟨i,a,b⟩
 .left
  subst q;rw[GU (by lia),E7,XI]at a;rw[GU (by lia),Cm,XI]at b;simp at a b;exact⟨a.symm,b.symm⟩
 .right
  obtain⟨k,rfl⟩:∃k,i=p+1+k:=⟨i-p-1,by lia⟩;rw[GU (by lia),E7,show p+1+k-p=k+1 by lia,Rc,Tp]at a;rw[GU (by lia),Cm,show p+1+k-p=k+1 by lia,Rc,Tp]at b;exact⟨p+k,a,b⟩
theorem Fw.put{t:E0}{es:Array (Int×α)}(I:Fw t es){h:Int}{x:α}{N:Nat}(h1:(C6 t.mask h N).j∉t.place.toList)(h2:∀m,m<N->(C6 t.mask h m).j∈t.place.toList)(AS:es.size+1<=t.mask) :
  Fw (t.put (C6 t.mask h N).j).1 (insertAt es (t.put (C6 t.mask h N).j).2 (h,x))/\(t.put (C6 t.mask h N).j).2<=es.size/\(insertAt es (t.put (C6 t.mask h N).j).2 (h,x)).size=es.size+1:=by
 obtain⟨p,DW,CB,UJ,hP,_⟩:=acQ I.tab h1 (pL _ _ _);have hsz:(insertAt es p (h,x)).size=es.size+1:=by
  have:(insertAt es p (h,x)).toList.length=es.size+1:=by rw[Yb,K5,FQ,NH,Tg,NC];lia
  simpa using this
 rw[DW];have N8:∀y∈t.place.toList,y∈(t.put (C6 t.mask h N).j).1.place.toList:=λy Ao=>by
  rw[hP];rw[<-Rf p t.place.toList]at Ao;rcases List.mem_append.mp Ao with Ao|Ao
  .exact MJ _ Ao
  .exact Ii _ (E3 _ Ao)
 refine⟨⟨by rw[hsz];exact UJ,I.jG,by rw[hsz];exact AS,λj e he=>?_⟩,CB,hsz⟩;rcases uo I.len CB hP he with⟨rfl,rfl⟩|he
 .exact⟨N,rfl,λm hm=>N8 _ (h2 m hm)⟩
 .obtain⟨n,CQ,C0⟩:=I.find j e he;exact⟨n,CQ,λm hm=>N8 _ (C0 m hm)⟩
end
theorem pc(mask:Nat)(h:Int):∀L m,m<Ar mask h L->∃Fb r,Fb<L/\r<=Dw mask (CZ mask h Fb).1/\m=Ar mask h Fb+r
 |0,m,hm=>by simp[Ar]at hm
 |L+1,m,hm=>by
  by_cases q:m<Ar mask h L
  .obtain⟨Fb,r,a,b,c⟩:=pc mask h L m q;exact⟨Fb,r,by lia,b,c⟩
  .unfold Ar at hm;exact⟨L,m-Ar mask h L,by lia,by lia,by lia⟩
structure Own(M:Nat)(owner:Array (Option Nat))(a:List Nat):Prop where
 Mm:owner.size=M+1
 Cb:a.Nodup
 le:∀j∈a,j<=M
 of:∀j k:Nat,owner[j]?=some (some k)↔a[k]?=some j
def Own.free{M:Nat}{owner:Array (Option Nat)}{a:List Nat}(O:Own M owner a){j:Nat}(BO:j<=M):(owner.getD j (some 0)).isNone=true↔j∉a:=by
 have hs:j<owner.size:=by have:=O.Mm;lia
 rw[Pl,JP hs];constructor
 .intro h m;obtain⟨k,AG,rfl⟩:=Kr m;have:=(O.of _ k).mpr (C5 AG);rw[JP hs]at this;simp only[OL]at h;rw[Dz this]at h;cases h
 .intro h;simp only[OL];cases e:owner[j]with
  |none=>rfl
  |some k=>exfalso;have:=(O.of j k).mp (by rw[JP hs,e]);exact h (EU this)
theorem lr{M:Nat}{owner:Array (Option Nat)}{a:List Nat}(O:Own M owner a)(h:Int):∀fuel L,(∃Nb,L<=Nb/\Nb<L+fuel/\(CZ M h Nb).1∉a)->
  ∃Fb k,layClean.free M owner fuel (CZ M h L).1 (CZ M h L).2=some ((CZ M h Fb).1+k)/\k<=Dw M (CZ M h Fb).1/\(CZ M h Fb).1+k∉a/\L<=Fb/\(∀MS,L<=MS->MS<Fb->∀r,r<=Dw M (CZ M h MS).1->(CZ M h MS).1+r∈a)/\∀r,r<k->(CZ M h Fb).1+r∈a
 |0,L,⟨Nb,h1,h2,_⟩=>by lia
 |fuel+1,L,⟨Nb,h1,h2,h3⟩=>by
  unfold layClean.free;have hle:=bl M h L;have ajw:=dh hle;have ajo:=dg M (CZ M h L).1;cases hf:(EI (runEnd M (CZ M h L).1+1-(CZ M h L).1)).find? λk=>(owner.getD ((CZ M h L).1+k) (some 0)).isNone with
  |some k=>
   dsimp only;obtain⟨A_,as,bs,B4,Cn⟩:=List.find?_eq_some_iff_append.mp hf;have AG:k∈EI (runEnd M (CZ M h L).1+1-(CZ M h L).1):=by rw[B4];simp
   have AG:=List.mem_range.mp AG;refine⟨L,k,rfl,by unfold Dw;lia,(O.free (by lia)).mp A_,By _,λMS c d=>by lia,λr AS=>?_⟩;have:r∈as:=by
    have Ck:as.length=k:=by
     have:=congrArg (·[as.length]?) B4;simp only[GU (By _),XI,rv]at this;have l:as.length<runEnd M (CZ M h L).1+1-(CZ M h L).1:=by have:=congrArg Q3 B4;simp at this;lia
     rw[Tk l]at this;exact Dz this
    have:=congrArg (·[r]?) B4;rw[Gl (by lia),Tk (by lia)]at this;exact EU this.symm
   have no:=Cn r this;apply Pi;intro z;rw[(O.free (by lia)).mpr z]at no;simp at no
  |none=>
   dsimp only;have all:∀r,r<=Dw M (CZ M h L).1->(CZ M h L).1+r∈a:=λr AS=>by have:=List.find?_eq_none.mp hf r (List.mem_range.mpr (by unfold Dw at AS;lia));apply Pi;intro z;exact this ((O.free (by unfold Dw at AS;lia)).mpr z)
   have ne:L≠Nb:=by rintro rfl;exact h3 (by simpa using all 0 (GV _))
   obtain⟨Fb,k,a1,a2,Du,GE,KO,Jy⟩:=lr O h fuel (L+1) ⟨Nb,by lia,by lia,h3⟩;refine⟨Fb,k,a1,a2,Du,by lia,λMS c d=>?_,Jy⟩;rcases To c with rfl|c
   .exact all
   .exact KO MS c d
def wC{M:Nat}(C:Gu M){owner:Array (Option Nat)}{a:List Nat}(O:Own M owner a)(AF:a.length<=M)(h:Int):∃N,layClean.free M owner (turns M) (bits h%(M+1)) (bits h)=some (C6 M h N).j/\(C6 M h N).j∉a/\∀m,m<N->(C6 M h m).j∈a:=by
 have:∃j,j<=M/\j∉a:=by
  apply Pi;intro no;have all:∀j,j<=M->j∈a:=λj BO=>Pi λz=>no ⟨j,BO,z⟩;have key:∀(l:List Nat),l.Nodup->∀(P:List Nat),(∀x∈l,x∈P)->l.length<=P.length:=by
   intro l;induction l with
   |nil=>intro _ P _;simp
   |cons a r Bg=>intro Cb P sub;obtain⟨CQ,C0⟩:=List.nodup_cons.mp Cb;have A2:=sub a (by simp);have:=Bg C0 (P.erase a) (λx A5=>(Wb (by intro e;subst e;exact CQ A5)).mpr (sub x (by simp[A5])));rw[Wf A2]at this;have:0<P.length:=Rd A2;simp;lia
  have:=key (EI (M+1)) List.nodup_range a (λx A5=>all x (by have:=List.mem_range.mp A5;lia));simp at this;lia
 obtain⟨j,LK,Hb⟩:=this;obtain⟨Nb,E7,Cm⟩:=C.leap h LK;obtain⟨Fb,k,a1,a2,Du,GE,KO,Jy⟩:=lr O h (turns M) 0 ⟨Nb,GV _,by unfold turns;lia,by rw[Cm];exact Hb⟩;have e:=SX M h Fb k a2;refine⟨Ar M h Fb+k,by rw[e];exact a1,by rw[e];exact Du,λm hm=>?_⟩;by_cases q:m<Ar M h Fb
 .obtain⟨MS,r,EZ,DG,Lf⟩:=pc M h Fb m q;rw[Lf,SX M h MS r DG];exact KO MS (GV _) EZ r DG
 .obtain⟨r,rfl⟩:∃r,m=Ar M h Fb+r:=⟨m-Ar M h Fb,by lia⟩;rw[SX M h Fb r (by lia)];exact Jy r (by lia)
noncomputable def a4(M:Nat)(acc:Option (Array (Option Nat)×Nat))(h:Int):Option (Array (Option Nat)×Nat):=do
 let(owner,k) <-acc
 let j <-layClean.free M owner (turns M) (bits h%(M+1)) (bits h)
 pure (owner.setIfInBounds j (some k),k+1)
def zZ(M:Nat)(hs:Array Int):layClean M hs=(hs.toList.foldl (a4 M) (some (Array.replicate (M+1) none,0))).map (·.1):=by unfold layClean;rw[<-Array.foldl_toList];rfl
structure Laid(M:Nat)(hs:List Int)(a:List Nat):Prop where
 len:a.length=hs.length
 find:∀(k:Nat) j h,a[k]?=some j->hs[k]?=some h->∃n,(C6 M h n).j=j/\∀m,m<n->(C6 M h m).j∈a
def Own.add{M:Nat}{owner:Array (Option Nat)}{a:List Nat}(O:Own M owner a){j:Nat}(BO:j<=M)(AR:j∉a):Own M (owner.setIfInBounds j (some a.length)) (a++[j]):=by
 have hs:j<owner.size:=by have:=O.Mm;lia
 refine⟨by simp[O.Mm],?_,?_,λi k=>?_⟩
 .refine List.nodup_append.mpr ⟨O.Cb,by simp,λx A5 y Ao=>?_⟩;simp at Ao;subst Ao;intro e;subst e;exact AR A5
 .intro i A0;rcases List.mem_append.mp A0 with A0|A0
  .exact O.le i A0
  .simp at A0;lia
 .rw[Array.getElem?_setIfInBounds];by_cases q:j=i
  .subst q;rw[if_pos rfl,if_pos hs];constructor
   .intro e;have e:=Dz (Dz e);subst e;rw[GU (By _)];simp
   .intro e;rcases Rk k a.length with w|w|w
    .rw[Gl w]at e;exact absurd (EU e) AR
    .rw[w]
    .rw[Rg (by simp;lia)]at e;cases e
  .rw[if_neg q,O.of i k];rcases Rk k a.length with w|w|w
   .rw[Gl w]
   .subst w;rw[GU (By _),Rg (By _)];simp;exact q
   .rw[Rg (by lia),Rg (by simp;lia)]
theorem lm{M:Nat}(C:Gu M):∀(hs done:List Int)(owner:Array (Option Nat))(a:List Nat),Own M owner a->Laid M done a->done.length+hs.length<=M->
  ∃ZR F1,hs.foldl (a4 M) (some (owner,a.length))=some (ZR,F1.length)/\Own M ZR F1/\Laid M (done++hs) F1
 |[],done,owner,a,O,L,_=>⟨owner,a,rfl,O,by simpa using L⟩
 |h::hs,done,owner,a,O,L,AF=>by
  simp only[FQ]at AF;obtain⟨N,f1,f2,F2⟩:=wC C O (by rw[L.len];lia) h;have UE:=O.add (pL M h N) f2;have Fb:Laid M (done++[h]) (a++[(C6 M h N).j]):=by
   refine⟨by simp[L.len],λk j g h1 h2=>?_⟩;rcases Rk k a.length with w|w|w
   .rw[Gl w]at h1;rw[Gl (by rw[<-L.len];exact w)]at h2;obtain⟨n,CQ,C0⟩:=L.find k j g h1 h2;exact⟨n,CQ,λm hm=>MJ _ (C0 m hm)⟩
   .subst w;rw[GU (By _)]at h1;rw[L.len,GU (By _)]at h2;simp at h1 h2;subst h1;subst h2;exact⟨N,rfl,λm hm=>MJ _ (F2 m hm)⟩
   .rw[Rg (by simp;lia)]at h1;cases h1
  have step:a4 M (some (owner,a.length)) h=some (owner.setIfInBounds (C6 M h N).j (some a.length),(a++[(C6 M h N).j]).length):=by unfold a4;simp only[Option.bind_eq_bind,fl,f1];simp
  obtain⟨ZR,F1,A6,AZ,Cy⟩:=lm C hs (done++[h]) _ _ UE Fb (by simp;lia);refine⟨ZR,F1,?_,AZ,by simpa using Cy⟩;rw[Tj,step];exact A6
def z_{M:Nat}(C:Gu M){hs:Array Int}(AF:hs.size<=M):∃owner a,layClean M hs=some owner/\Own M owner a/\Laid M hs.toList a:=by
 have O:Own M (Array.replicate (M+1) none) []:=⟨by simp,by simp,by simp,λj k=>by
  rw[Array.getElem?_replicate]
  split<;>simp⟩
 obtain⟨owner,a,A6,AZ,Cy⟩:=lm C hs.toList [] _ [] O ⟨rfl,by simp⟩ (by simpa using AF);refine⟨owner,a,?_,AZ,by simpa using Cy⟩;rw[zZ];have:(Q3 ([]:List Nat))=0:=rfl;rw[this]at A6;rw[A6];rfl
def nR{l P:List Nat}(Cb:l.Nodup)(sub:∀x∈l,x∈P):l.length<=P.length:=by
 induction l generalizing P with
 |nil=>simp
 |cons a r Bg=>obtain⟨CQ,C0⟩:=List.nodup_cons.mp Cb;have A2:=sub a (by simp);have:=Bg C0 (P:=P.erase a) (λx A5=>(Wb (by intro e;subst e;exact CQ A5)).mpr (sub x (by simp[A5])));rw[Wf A2]at this;have:0<P.length:=Rd A2;simp;lia
section
variable{α:Type}
theorem filterMap_get{es:List α}:∀{l:List Nat},(∀k∈l,k<es.length)->(l.filterMap (es[·]?)).length=l.length/\∀(i:Nat) e,(l.filterMap (es[·]?))[i]?=some e->∃k,l[i]?=some k/\es[k]?=some e
 |[],_=>⟨rfl,λi e h=>by simp at h⟩
 |k::l,AG=>by
  have vX:k<es.length:=AG k (by simp);have h0:es[k]?=some es[k]:=C5 vX;obtain⟨a,b⟩:=filterMap_get (es:=es) (l:=l) λx A5=>AG x (by simp[A5]);rw[RX,h0];refine⟨by simp[a],λi e h=>?_⟩;cases i with
  |zero=>simp at h;exact⟨k,rfl,by rw[h0,h]⟩
  |succ i=>simpa using b i e (by simpa using h)
def zU{M:Nat}(C:Gu M){es:Array (Int×α)}(AF:es.size<=M)(finger moves:Nat)(led plain:Bool) :
  ∃t' order,laid M finger moves led plain (es.map (·.1))=some (t',order)/\t'.mask=M/\t'.led=led/\t'.plain=plain/\t'.moves=moves/\t'.dummies= #[]/\
   (order.filterMap (es[·]?)).size=es.size/\Fw t' (order.filterMap (es[·]?))/\∀e,e∈(order.filterMap (es[·]?)).toList↔e∈es.toList:=by
 obtain⟨owner,a,c1,O,L⟩:=z_ C (hs:=es.map (·.1)) (by simpa using AF);have zj:a.length=es.size:=by rw[L.len];simp
 have abn:∀j,j<=M->∃x,owner[j]?=some x:=λj BO=>⟨_,JP (by have:=O.Mm;lia)⟩;obtain⟨live,bE⟩:∃live,live=(EI (M+1)).filterMap λj=>(owner.getD j none).map (j,·):=⟨_,rfl⟩;have mem:∀j k,(j,k)∈live↔a[k]?=some j:=by
  intro j k;rw[bE,List.mem_filterMap];constructor
  .rintro⟨i,A0,e⟩;obtain⟨x,A5⟩:=abn i (by have:=List.mem_range.mp A0;lia);rw[Pl,A5,OL]at e;cases x with
   |none=>cases e
   |some y=>simp at e;obtain⟨rfl,rfl⟩:=e;exact(O.of _ _).mp A5
  .intro e;have BO:=O.le j (EU e);refine⟨j,List.mem_range.mpr (by lia),?_⟩;rw[Pl,(O.of j k).mpr e];rfl
 have rise:(live.map (·.1)).Pairwise (· <·):=by
  rw[bE,fh];refine List.Pairwise.filterMap _ (R:=(· <·)) ?_ (by simpa using List.pairwise_lt_range);intro i VW vW b J CT GL;cases q:owner.getD i none with
  |none=>rw[q]at J;simp at J
  |some y=>
   cases D_:owner.getD VW none with
   |none=>rw[D_]at GL;simp at GL
   |some LU=>rw[q]at J;rw[D_]at GL;simp at J GL;subst J;subst GL;exact vW
 have T1:(live.map (·.1)).Nodup:=rise.imp (λh=>ET h);have OE:live.length=es.size:=by
  apply Nat.le_antisymm
  .have:=nR T1 (P:=a) (λx A5=>by
     obtain⟨p,DW,rfl⟩:=List.mem_map.mp A5;exact EU ((mem p.1 p.2).mp DW))
   simp at this;lia
  .have:=nR O.Cb (P:=live.map (·.1)) (λx A5=>by
     obtain⟨k,AG,rfl⟩:=Kr A5;exact List.mem_map.mpr ⟨(a[k],k),(mem _ _).mpr (C5 AG),rfl⟩)
   simp at this;lia
 have ac8:∀k∈live.map (·.2),k<es.toList.length:=λk AG=>by obtain⟨p,DW,rfl⟩:=List.mem_map.mp AG;have:=(List.getElem?_eq_some_iff.mp ((mem p.1 p.2).mp DW)).1;simp;lia
 have bX:((live.map (·.2)).toArray.filterMap (es[·]?)).toList=(live.map (·.2)).filterMap (es.toList[·]?):=by rw[Array.toList_filterMap];simp
 obtain⟨g1,g2⟩:=filterMap_get ac8;have hsz:((live.map (·.2)).toArray.filterMap (es[·]?)).size=es.size:=by
  have:((live.map (·.2)).toArray.filterMap (es[·]?)).toList.length=es.size:=by rw[bX,g1];simp[OE]
  simpa using this
 refine⟨_,_,by
  unfold laid;rw[c1];show some _=_;rw[<-bE],rfl,rfl,rfl,rfl,rfl,hsz,⟨⟨rfl,?_,?_,?_⟩,C,by rw[hsz];exact AF,?_⟩,λe=>?_⟩
 .rw[hsz];simp[OE]
 .simpa using rise
 .intro j BO;have BO:j∈live.map (·.1):=by simpa using BO
  obtain⟨p,DW,rfl⟩:=List.mem_map.mp BO;exact O.le _ (EU ((mem p.1 p.2).mp DW))
 .rintro j e ⟨i,h1,h2⟩;have h1:(live.map (·.1))[i]?=some j:=by simpa using h1
  rw[bX]at h2;obtain⟨k,k1,k2⟩:=g2 i e h2;have AG:live[i]?=some (j,k):=by
   rw[EH]at h1 k1;cases q:live[i]? with
   |none=>rw[q]at h1;cases h1
   |some p=>rw[q]at h1 k1;simp at h1 k1;rw[<-h1,<-k1]
  have AG:=(mem j k).mp (EU AG);obtain⟨n,CQ,C0⟩:=L.find k j e.1 AG (by simp at k2 |-;exact⟨_,k2⟩);refine⟨n,CQ,λm hm=>?_⟩;have:=C0 m hm;obtain⟨k',Je,Bi⟩:=Kr this;have:(C6 M e.1 m).j∈live.map (·.1):=List.mem_map.mpr ⟨((C6 M e.1 m).j,k'),(mem _ _).mpr (by rw[<-Bi];exact C5 Je),rfl⟩;simpa using this
 .rw[bX,List.mem_filterMap];constructor
  .rintro⟨k,_,q⟩;exact EU q
  .intro q;obtain⟨k,AG,rfl⟩:=Kr q;refine⟨k,?_,C5 AG⟩;have YQ:k<a.length:=by rw[zj];simpa using AG
   exact List.mem_map.mpr ⟨(a[k],k),(mem _ _).mpr (C5 YQ),rfl⟩
end
section
variable{prog:BR}{w:BA}{A:Bk}{E:U->AD->Prop}{s:AD}{K:Type}[DecidableEq K]{knd:KeyKind prog w K}
def nS{ks:List K}{a:Z}{n:Nat}{Q:Bool->AD->Prop}(AG:EW knd s.heap ks a)(h:Q false s):AU (Ai prog w) A (X0 (n+1) (.ref a)) Q E s:=by
 have Do:=AG.typeIs;obtain⟨o,items,m,AE,_,hd,A0⟩:=AG;unfold X0;refine AH (Rt Do ?_);dsimp only;rw[if_pos (by rfl)];refine AH (An ?_);simp only[JQ,FZ,if_false];refine AH (K1 AE hd ?_);dsimp only;refine AH ?_;rw[<-RZ];refine NG _ (λrest r s'=>r.1=none/\s'=s/\∀v∈rest,OI v=true) _ ?_ ?_ _ _ ⟨rfl,rfl,A0.byValue⟩
 .rintro v rest r s' ⟨AS,rfl,al⟩;have e:X0 n v=pure false:=by
   have:=al v GT;cases v<;>first|(simp[OI]at this;done)|(unfold X0;rfl)
  rw[e];refine AH (An ?_);simp only[FZ,if_false];exact An ⟨rfl,rfl,λu B0=>al u (E3 _ B0)⟩
 .rintro⟨A6,AZ⟩ s' ⟨AS,rfl,_⟩;simp only at AS;subst AS;exact An h
theorem uI{ks:List K}{a:Z}{Q:Bool->AD->Prop}(AG:EW knd s.heap ks a)(h:∀b,Q b s):AU (Ai prog w) A (MN 8 (.ref a)) Q E s:=by
 have Do:=AG.typeIs;obtain⟨o,items,m,AE,_,hd,A0⟩:=AG;unfold MN;refine AH (OG Do F.slot_tuple_hash.lookup ?_);dsimp only;refine AH (K1 AE hd ?_);simp only[OL];refine AH ?_;rw[<-RZ];refine NG _ (λrest r s'=>r.1=none/\s'=s/\∀v∈rest,OI v=true) _ ?_ ?_ _ _ ⟨rfl,rfl,A0.byValue⟩
 .rintro v rest r s' ⟨AS,rfl,al⟩;have e:∃b,MN 7 v=pure b:=by
   have:=al v GT;cases v<;>first|(simp[OI]at this;done)|(unfold MN;exact⟨_,rfl⟩)
  obtain⟨b,e⟩:=e;rw[e];refine AH (An ?_);cases b with
  |true=>exact An ⟨rfl,rfl,λu B0=>al u (E3 _ B0)⟩
  |false=>exact An (An (h _))
 .rintro⟨A6,AZ⟩ s' ⟨AS,rfl,_⟩;simp only at AS;subst AS;exact An (h _)
structure Uc(knd:KeyKind prog w K)(h:Aq)(es:List (Int×U)):Prop where
 el:∀e∈es,∃ks b,e.2=.ref b/\EW knd h ks b/\e.1=EA knd ks
def Xz(knd:KeyKind prog w K)(h:Aq)(es:List (Int×U))(ks:List K):Prop:=∃e∈es,∃b,e.2=.ref b/\EW knd h ks b
def aak{ks:List K}{x:Z}(A5:EW knd s.heap ks x):∀(l:List U),(∀y∈l,∃Ey b,y=.ref b/\EW knd s.heap Ey b)->∀{Q:Bool->AD->Prop},Q false s->AU (Ai prog w) A (searchCouldBeSeen (.ref x) l) Q E s:=by
 intro l AF Q h;unfold searchCouldBeSeen;refine AH ?_;refine NG _ (λrest r s'=>r.1=none/\s'=s/\∀y∈rest,∃Ey b,y=.ref b/\EW knd s.heap Ey b) _ ?_ ?_ _ _ ⟨rfl,rfl,AF⟩
 .rintro v rest r s' ⟨AS,rfl,al⟩;obtain⟨Ey,b,rfl,J⟩:=al v GT;have YC:=λu(B0:u∈rest)=>al u (E3 _ B0);dsimp only;by_cases q:(x==b)=true
  .rw[if_pos (by simp[q])];exact An ⟨rfl,rfl,YC⟩
  .rw[if_neg (by simp[OI];simpa using q)];refine AH (wpAny_eqIsQuiet_tuple A5 ?_);simp only[JQ,FZ,if_false];refine AH (wpAny_eqIsQuiet_tuple J ?_);simp only[JQ,FZ,if_false];refine AH (nS A5 ?_);simp only[FZ,if_false];refine AH (nS J ?_);simp only[FZ,if_false];exact An ⟨rfl,rfl,YC⟩
 .rintro⟨A6,AZ⟩ s' ⟨AS,rfl,_⟩;simp only at AS;subst AS;exact An h
end
section
variable{prog:BR}{w:BA}{A:Bk}{E:U->AD->Prop}{s:AD}{K:Type}[DecidableEq K]{knd:KeyKind prog w K}
def Uc.at{h:Aq}{t:E0}{es:Array (Int×U)}(X:Uc knd h es.toList){j:Nat}{e:Int×U}(q:HO t es j e):∃ks b,e.2=.ref b/\EW knd h ks b/\e.1=EA knd ks:=by obtain⟨i,_,q⟩:=q;exact X.el e (EU q)
theorem Fw.fits{t:E0}{es:Array (Int×U)}(I:Fw t es):t.fits es.size=true:=by unfold SetTable.fits SetTable.fill;rw[I.tab.UW,I.tab.Mm];have:=I.room;simp;lia
def Fw.mem{t:E0}{es:Array (Int×U)}(I:Fw t es){e:Int×U}(m:e∈es.toList):∃j,HO t es j e:=by
 obtain⟨i,A0,rfl⟩:=Kr m;have:i<t.place.toList.length:=by rw[I.len];simpa using A0
 exact⟨_,i,C5 this,C5 A0⟩
theorem HO.place{t:E0}{es:Array (Int×U)}{j:Nat}{e:Int×U}(q:HO t es j e):j∈t.place.toList:=by obtain⟨i,q,_⟩:=q;exact EU q
def Fw.ac0{t:E0}{es:Array (Int×U)}(I:Fw t es)(X:Uc knd s.heap es.toList){ks:List K}{N:Nat}(h1:(C6 t.mask (EA knd ks) N).j∉t.place.toList)(B1:Xz knd s.heap es.toList ks) :
  ∃m e b,m<N/\HO t es (C6 t.mask (EA knd ks) m).j e/\e.1=EA knd ks/\e.2=.ref b/\EW knd s.heap ks b:=by
 obtain⟨e,D3,b,B7,GQ⟩:=B1;obtain⟨j,q⟩:=I.mem D3;obtain⟨Ey,CT,A1,k1,A7⟩:=X.el e D3;rw[B7]at A1;cases A1;have:=GQ.inj k1;subst this;obtain⟨n,CQ,C0⟩:=I.find j e q;rw[A7]at CQ C0;refine⟨n,e,b,?_,by rw[CQ];exact q,A7,B7,GQ⟩;rcases Rk n N with z|z|z
 .exact z
 .subst z;exact absurd (by rw[CQ];exact q.place) h1
 .exact absurd (C0 N z) h1
theorem pa{a x:Z}{o:Obj}{B3:Nat}{t:E0}{es:Array (Int×U)}{ks:List K}(B0:A.units<Ce)(AE:s.heap.get? a=some o)(hd:o.data=.set es B3 t)(I:Fw t es)(X:Uc knd s.heap es.toList)(A5:EW knd s.heap ks x)(ZK:t.mask%2=1){N:Nat}(hN:N<10*turns t.mask)(h1:(C6 t.mask (EA knd ks) N).j∉t.place.toList)(h2:∀m,m<N->(C6 t.mask (EA knd ks) m).j∈t.place.toList){Q:SetFound->AD->Prop}(yes:Xz knd s.heap es.toList ks->Q (.there none) s)(no:¬Xz knd s.heap es.toList ks->Q (.free (C6 t.mask (EA knd ks) N).j false) s) :
  ∀(fuel n:Nat)(st:Option Probe),n<=N->N-n<fuel->st.getD (t.probeStart (EA knd ks))=C6 t.mask (EA knd ks) n->
   (∀m,m<n->∀e,HO t es (C6 t.mask (EA knd ks) m).j e->∀b,e.2=.ref b->¬EW knd s.heap ks b)->
   AU (Ai prog w) A (setSearchFrom a (.ref x) (EA knd ks) true fuel st) Q E s
 |0,n,_,_,z,_,_=>by lia
 |fuel+1,n,st,AR,hf,GO,N5=>by
  unfold setSearchFrom;refine AH (OK AE hd I.fits ?_);dsimp only;rw[if_neg (by unfold SetTable.gaveWay;simp[ZK])];rw[GO];unfold SetTable.probe;have G:=pC I (f:=λi=>(es[i]?.map (·.1)).getD 0) (λi e q=>by simp at q;simp[q]) (EA knd ks) h1 h2 (10*turns t.mask) n AR (by lia);generalize Aj:probe.go t _ (EA knd ks) (10*turns t.mask) (C6 t.mask (EA knd ks) n)=z;rcases G with⟨g,g2⟩|⟨m,i,e,m1,m2,Me,Sd,zM,g,g2⟩
  .have g:=Aj.symm.trans g;subst g;dsimp only;refine An (no λB1=>?_);obtain⟨m,e,b,m1,q,B4,Cn,I7⟩:=I.ac0 X h1 B1;by_cases z:m<n
   .exact N5 m z e q b Cn I7
   .exact g2 m (by lia) m1 e q B4
  .have g:=Aj.symm.trans g;subst g;dsimp only;have KX:HO t es (C6 t.mask (EA knd ks) m).j e:=⟨i,Me,Sd⟩;obtain⟨Ey,b,B7,GQ,_⟩:=X.at KX;have Fy:es[i]?=some (e.1,.ref b):=by
    have:es[i]?=some e:=by simpa using Sd
    rw[this,<-B7]
   have BY:t.slot (C6 t.mask (EA knd ks) m).j=.live i:=by obtain⟨VW,s1,s2⟩:=pq I.tab (EU Me);rw[s1,pA I.tab s2 Me]
   have seen:∀y∈(Array.filter (λz:Int×U=>z.1==EA knd ks) es).toList.map (·.2),∃Ey b,y=.ref b/\EW knd s.heap Ey b:=λy Ao=>by
    obtain⟨e,he,rfl⟩:=List.mem_map.mp Ao;have he:e∈es.toList:=by simp at he;simpa using he.1
    obtain⟨k2,DG,c1,c2,c3⟩:=X.el e he;exact⟨k2,DG,c1,c2⟩
   cases AF:t.led
   all_goals first
    |rw[if_neg (show¬((!true)=true)by simp)]
    |(rw[if_pos (show(!false)=true from rfl)];refine AH (aak A5 _ seen ?_);rw[if_neg (show¬(false=true)by simp)])
   all_goals
    rw[Fy];dsimp only;refine AH (K3 (fo B0 GQ A5 ?_));refine AH (OK AE hd I.fits ?_);dsimp only;by_cases q:Ey=ks
    .subst q;rw[if_pos (by simp)];exact An (yes ⟨e,EU Sd,b,B7,GQ⟩)
    .rw[if_neg (by simp[q])];have ux:t.sameMemory t.moves t.mask=some true:=by unfold SetTable.sameMemory;simp
     rw[ux];dsimp only;rw[if_pos rfl,BY];dsimp only;rw[Fy];dsimp only;refine AH (wpAny_isSame_ref_self ?_);rw[if_pos rfl];refine AH (An ?_);dsimp only;rw[if_neg (by simp[q])];refine pa B0 AE hd I X A5 ZK hN h1 h2 yes no fuel (m+1) _ (by lia) (by lia) rfl λCM hm Bi he CT T5 cT=>?_;have key:∀e:Int×U,HO t es (C6 t.mask (EA knd ks) CM).j e->e.2=.ref CT->e.1=EA knd ks:=λe he B7=>by obtain⟨k2,DG,c1,c2,c3⟩:=X.at he;rw[B7]at c1;cases c1;rw[c3,c2.inj cT]
     by_cases z:CM<n
     .exact N5 CM z Bi he CT T5 cT
     .by_cases CP:CM<m
      .exact g2 CM (by lia) CP Bi he (key Bi he T5)
      .have:CM=m:=by lia
       subst this;have:=HO.inj I.tab he KX;subst this;rw[B7]at T5;cases T5;exact q (GQ.inj cT)
end
section
variable{prog:BR}{w:BA}{A:Bk}{E:U->AD->Prop}{s:AD}{K:Type}[DecidableEq K]{knd:KeyKind prog w K}
def Y6(mask n:Nat):Prop:=(mask=7/\n<5)\/(mask=31/\n<19)\/(mask=127/\n<77)
def tW{mask n:Nat}(h:Y6 mask n):Gu mask/\mask%2=1:=by
 rcases h with⟨rfl,_⟩|⟨rfl,_⟩|⟨rfl,_⟩
 .exact⟨jJ,rfl⟩
 .exact⟨jI,rfl⟩
 .exact⟨jH,rfl⟩
def gn(w:BA)(bv:Bool)(t:E0):Prop:=t.led=(!w.params.followText "set-order")/\(bv=true->t.plain=true)
def Ua(knd:KeyKind prog w K)(bv:Bool):Prop:=bv=true->∀k v,knd.is k v=true->MN 7 v=pure true
structure Iy(knd:KeyKind prog w K)(bv:Bool)(ok:Z->Prop)(h:Aq)(a:Z)(S:List (List K)):Prop where
 ex:∃o es B3 t,h.get? a=some o/\o.ExactSet/\o.data=.set es B3 t/\Fw t es/\Uc knd h es.toList/\(∀ks,Xz knd h es.toList ks↔ks∈S)/\es.size=S.length/\Y6 t.mask es.size/\gn w bv t/\∀e∈es.toList,∀b,e.2=.ref b->ok b
def Yi{h h':Aq}{a b:Z}{o:Obj}{ks:List K}{es:Array (Int×U)}{B3:Nat}{t:E0}(AE:h.get? a=some o)(hd:o.data=.set es B3 t)(Ee:IL a h h')(x:EW knd h ks b):EW knd h' ks b:=by
 obtain⟨BM,items,n,Dy,AB,Ea,A0⟩:=x;have LF:b≠a:=by rintro rfl;rw[AE]at Dy;cases Dy;rw[hd]at Ea;cases Ea
 exact⟨BM,items,n,(Ee.2 b LF).trans Dy,AB,Ea,A0⟩
def yo{h h':Aq}{a b:Z}{o:Obj}{ks:List K}{es:Array (Int×U)}{B3:Nat}{t:E0}(AE:h'.get? a=some o)(hd:o.data=.set es B3 t)(Ee:IL a h h')(x:EW knd h' ks b):EW knd h ks b:=by
 obtain⟨BM,items,n,Dy,AB,Ea,A0⟩:=x;have LF:b≠a:=by rintro rfl;rw[AE]at Dy;cases Dy;rw[hd]at Ea;cases Ea
 exact⟨BM,items,n,(Ee.2 b LF).symm.trans Dy,AB,Ea,A0⟩
def mA{h:Aq}{a:Z}{o:Obj}{es es':Array (Int×U)}{B3:Nat}{t t':E0}(AE:h.get? a=some o)(A5:o.ExactSet)(hd:o.data=.set es B3 t):∃BM,(h.update a (Obj.putSet es' t')).get? a=some BM/\BM.ExactSet/\BM.data=.set es' (B3+1) t':=by
 refine⟨_,Pf _ AE (by rw[putSet_of es' t' hd];rfl),?_,?_⟩
 .rw[putSet_of es' t' hd];exact A5
 .rw[putSet_of es' t' hd]
def oG{α:Type}{es:Array α}{p:Nat}{x e:α}:e∈(insertAt es p x).toList↔e=x\/e∈es.toList:=by
 rw[Yb];constructor
 .intro h;rcases List.mem_append.mp h with h|h
  .exact .inr (Rh h)
  .rcases List.mem_cons.mp h with h|h
   .exact .inl h
   .exact .inr (T_ h)
 .rintro(rfl|h)
  .simp
  .rw[<-Rf p es.toList]at h;rcases List.mem_append.mp h with h|h
   .exact MJ _ h
   .exact Ii _ (E3 _ h)
def acI{a:Z}{o:Obj}{B3:Nat}{t:E0}{es:Array (Int×U)}{M wanted:Nat}{Q:Unit->AD->Prop}(AE:s.heap.get? a=some o)(A5:o.ExactSet)(hd:o.data=.set es B3 t)(I:Fw t es)(C:Gu M)(AF:es.size<=M)(Qa:sL wanted=M+1)(hm:M<=127)(h:∀es' t' BM h',IL a s.heap h'->h'.get? a=some BM->BM.ExactSet->BM.data=.set es' (B3+1) t'->t'.mask=M->t'.led=t.led->t'.plain=t.plain->Fw t' es'->es'.size=es.size->(∀e,e∈es'.toList↔e∈es.toList)->Q () { s with heap:=h' }) :
  AU (Ai prog w) A (setRelay a wanted) Q E s:=by
 unfold setRelay;refine AH (OK AE hd I.fits ?_);dsimp only;rw[if_neg (by rw[Qa];show¬(M+1>CH);rw[K8];lia)];obtain⟨t',order,A6,AZ,Cy,Lv,Ia,Lw,F4,Ib,dW⟩:=zU C AF t.finger (t.movedTo M) t.led t.plain;have e:t.relaid (es.map (·.1)) wanted=some (t',order):=by unfold SetTable.relaid;rw[Qa];exact A6
 rw[e];have step:AU (Ai prog w) A (if((order.filterMap (es[·]?)).size !=es.size)=true then(do unsupported "internal:set-table-lost-an-element";pure (order.filterMap (es[·]?),t'))else pure (order.filterMap (es[·]?),t')) (λr s'=>AU (Ai prog w) A (storeSet a r.1 r.2) Q E s') E s:=by rw[if_neg (by rw[F4];simp)];refine An ?_;obtain⟨BM,g1,g2,g3⟩:=mA (es':=order.filterMap (es[·]?)) (t':=t') AE A5 hd;exact wpAny_storeSet_of AE hd (h _ t' BM _ (Pu _ _ _) g1 g2 g3 AZ Cy Lv Ib F4 dW) (by rw[F4,K8];lia)
 exact AH step
theorem uJ{ks:List K}{a:Z}{bv:Bool}{Q:Bool->AD->Prop}(Az:Ua knd bv)(AG:EW knd s.heap ks a)(h:∀b,(bv=true->b=true)->Q b s):AU (Ai prog w) A (MN 8 (.ref a)) Q E s:=by
 cases bv with
 |false=>exact uI AG λb=>h b λz=>nomatch z
 |true=>
  have Do:=AG.typeIs;obtain⟨o,items,m,AE,_,hd,A0⟩:=AG;unfold MN;refine AH (OG Do F.slot_tuple_hash.lookup ?_);dsimp only;refine AH (K1 AE hd ?_);simp only[OL];refine AH ?_;rw[<-RZ];have all:∀v∈items.toList,MN 7 v=pure true:=by
   generalize items.toList=l at A0;clear AE hd Do;induction A0 with
   |nil=>intro v Az;cases Az
   |cons p _ Bg=>
    intro v hm;rcases List.mem_cons.mp hm with rfl|hm
    .exact Az rfl _ _ p
    .exact Bg v hm
  refine NG _ (λrest r s'=>r.1=none/\s'=s/\∀v∈rest,MN 7 v=pure true) _ ?_ ?_ _ _ ⟨rfl,rfl,all⟩
  .rintro v rest r s' ⟨AS,rfl,al⟩;rw[al v GT];refine AH (An ?_);exact An ⟨rfl,rfl,λu B0=>al u (E3 _ B0)⟩
  .rintro⟨A6,AZ⟩ s' ⟨AS,rfl,_⟩;simp only at AS;subst AS;exact An (h true λ_=>rfl)
def si{bv:Bool}(Az:Ua knd bv){ok:Z->Prop}{a x:Z}{S:List (List K)}{ks:List K}{Q:Bool->AD->Prop}(B0:A.units<Ce)(T:Iy knd bv ok s.heap a S)(A5:EW knd s.heap ks x)(BE:ok x)(J8:S.length<76)(h:∀b h',IL a s.heap h'->Iy knd bv ok h' a (if ks∈S then S else S++[ks])->Q b { s with heap:=h' }) :
  AU (Ai prog w) A (setAddHashed a (.ref x) (EA knd ks)) Q E s:=by
 obtain⟨o,es,B3,t,AE,hex,hd,I,X,hm,AR,AS,BW,AG⟩:=T.ex;obtain⟨C,ZK⟩:=tW AS;obtain⟨N,tM,Y3,UD⟩:=I.first (EA knd ks);unfold setAddHashed setAddHashedIn;refine K3 (AH (OK AE hd I.fits ?_));dsimp only;rw[if_neg (by simp[byScan,Value.scannable])];unfold setSearch;refine AH (pa B0 AE hd I X A5 ZK tM Y3 UD (λyes=>?_) (λno=>?_) 100000 0 none (GV _) ?_ rfl λm hm=>absurd hm (Te _))
 .dsimp only;refine An ?_;have:=h false s.heap (sC _ _) (by rw[if_pos ((hm ks).mp yes)];exact T);exact this
 .dsimp only;refine AH (OK AE hd I.fits ?_);dsimp only;have Aj:es.size+1<=t.mask:=by
   rcases AS with⟨e,_⟩|⟨e,_⟩|⟨e,_⟩<;>lia
  obtain⟨KU,DW,CB⟩:=I.put (x:=D7 x) Y3 UD Aj;have ZF:ks∉S:=λz=>no ((hm ks).mpr z)
  have fin:∀(t1:E0),t1.mask=t.mask->t1.place=(t.put (C6 t.mask (EA knd ks) N).j).1.place->t1.dummies= #[]->gn w bv t1->
    AU (Ai prog w) A (do
     storeSet a (X1 es (t.put (C6 t.mask (EA knd ks) N).j).2 (EA knd ks,D7 x)) t1
     if(!false&&t1.tooFull)=true then do
        setRelay a (SetTable.grown (es.size+1))
        pure true
      else pure true) Q E s:=by
   intro t1 A1 A7 B8 eH;have As:Fw t1 (X1 es (t.put (C6 t.mask (EA knd ks) N).j).2 (EA knd ks,D7 x)):=by obtain⟨⟨a1,a2,Du,GE⟩,b,c,d⟩:=KU;have em:(t.put (C6 t.mask (EA knd ks) N).j).1.mask=t.mask:=rfl;rw[em]at GE b c d;refine⟨⟨B8,by rw[A7];exact a2,by rw[A7];exact Du,by rw[A7,A1];exact GE⟩,by rw[A1];exact b,by rw[A1];exact c,λj e he=>?_⟩;rw[A1,A7];exact d j e (by obtain⟨i,Bj,Bd⟩:=he;exact⟨i,by rw[<-A7];exact Bj,Bd⟩)
   obtain⟨Cc,g1,g2,g3⟩:=mA (es':=X1 es (t.put (C6 t.mask (EA knd ks) N).j).2 (EA knd ks,D7 x)) (t':=t1) AE hex hd;have oT:=Pu s.heap a (Obj.putSet (X1 es (t.put (C6 t.mask (EA knd ks) N).j).2 (EA knd ks,D7 x)) t1);have done:∀(h':Aq)(es':Array (Int×U))(t':E0)(BM:Obj)(QU:Nat),IL a s.heap h'->h'.get? a=some BM->BM.ExactSet->BM.data=.set es' QU t'->Fw t' es'->es'.size=es.size+1->(∀e,e∈es'.toList↔e=(EA knd ks,D7 x)\/e∈es.toList)->Y6 t'.mask es'.size->gn w bv t'->Q true { s with heap:=h' }:=by
    intro h' es' t' BM QU Ee A_ B4 Cn I7 LP Gq Hv LQ;refine h true h' Ee ⟨BM,es',QU,t',A_,B4,Cn,I7,⟨λe he=>?_⟩,λk2=>?_,?_,Hv,LQ,λe he b B7=>?_⟩
    .rcases(Gq e).mp he with rfl|he
     .exact⟨ks,x,rfl,Yi AE hd Ee A5,rfl⟩
     .obtain⟨k3,Lf,c1,c2,c3⟩:=X.el e he;exact⟨k3,Lf,c1,Yi AE hd Ee c2,c3⟩
    .rw[if_neg ZF,Tt,<-hm k2];constructor
     .rintro⟨e,he,b,B7,GQ⟩;have GQ:=yo A_ Cn Ee GQ;rcases(Gq e).mp he with rfl|he
      .cases B7;exact .inr (by rw[GQ.inj A5];simp)
      .exact .inl ⟨e,he,b,B7,GQ⟩
     .rintro(⟨e,he,b,B7,GQ⟩|z)
      .exact⟨e,(Gq e).mpr (.inr he),b,B7,Yi AE hd Ee GQ⟩
      .simp at z;subst z;exact⟨_,(Gq _).mpr (.inl rfl),x,rfl,Yi AE hd Ee A5⟩
    .rw[if_neg ZF,LP,AR];simp
    .rcases(Gq e).mp he with rfl|he
     .cases B7;exact BE
     .exact AG e he b B7
   refine AH (wpAny_storeSet_of AE hd ?_ (by rw[CB,K8];lia));have rO:t1.tooFull=decide ((es.size+1)*5≥t.mask*3):=by
    unfold SetTable.tooFull SetTable.fill;have:t1.place.size=es.size+1:=by have:=As.tab.Mm;rw[CB]at this;exact this
    rw[this,A1,B8];simp
   by_cases full:(es.size+1)*5≥t.mask*3
   .rw[if_pos (by rw[rO];simpa using full)];have big:∃M,Gu M/\sL (SetTable.grown (es.size+1))=M+1/\M<=127/\es.size+1<=M/\Y6 M (es.size+1):=by
     rcases AS with⟨e,l⟩|⟨e,l⟩|⟨e,l⟩
     .have:es.size=4:=by lia
      rw[this];exact⟨31,jI,by decide+kernel,by lia,by lia,.inr (.inl ⟨rfl,by lia⟩)⟩
     .have:es.size=18:=by lia
      rw[this];exact⟨127,jH,by decide+kernel,by lia,by lia,.inr (.inr ⟨rfl,by lia⟩)⟩
     .lia
    obtain⟨M,c1,c2,c3,Mv,h_⟩:=big;refine AH (acI g1 g2 g3 As c1 (by rw[CB];exact Mv) c2 c3 λes' t' BM h' Ee A_ B4 Cn I7 acY acZ LP Gq Hv=>An ?_);exact done h' es' t' BM _ (oT.trans Ee) A_ B4 Cn LP (by rw[Gq,CB]) (λe=>by rw[Hv e,oG]) (by rw[I7,Gq,CB];exact h_) ⟨acY.trans eH.1,λz=>acZ.trans (eH.2 z)⟩
   .rw[if_neg (by rw[rO];simpa using full)];refine An (done _ _ t1 Cc _ oT g1 g2 g3 As CB (λe=>oG) ?_ eH);rw[A1,CB];rcases AS with⟨e,l⟩|⟨e,l⟩|⟨e,l⟩
    .exact .inl ⟨e,by lia⟩
    .exact .inr (.inl ⟨e,by lia⟩)
    .exact .inr (.inr ⟨e,by lia⟩)
  have E2:(t.put (C6 t.mask (EA knd ks) N).j).1.dummies= #[]:=KU.tab.UW
  split
  .refine AH (uJ Az A5 λb J=>?_);cases b
   .exact fin _ rfl rfl E2 ⟨BW.1,λz=>nomatch J z⟩
   .exact fin _ rfl rfl E2 ⟨BW.1,λz=>by have q:=BW.2 z;first|exact q|(show(t.plain&&true)=true;rw[q];rfl)|rfl⟩
  .refine AH (An ?_);exact fin _ rfl rfl E2 ⟨BW.1,λz=>by have q:=BW.2 z;first|exact q|(show(t.plain&&true)=true;rw[q];rfl)|rfl⟩
 .have:10*turns t.mask<=1420:=by
    rcases AS with⟨e,_⟩|⟨e,_⟩|⟨e,_⟩<;>rw[e]<;>decide
  lia
end
end G7
namespace G7
open PySem PySem.Spec PyProof.Rows
section
variable{prog:BR}{w:BA}{K:Type}[DecidableEq K]{knd:X3 prog w K}
noncomputable def L7(S:List (List K))(ks:List K):List (List K):=if ks∈S then S else S++[ks]
def IG(keys:List (List K)):List (List K):=keys.foldl L7 []
def gz(keys:List (List K)):(IG keys).length<=keys.length:=by
 have:∀(l S:List (List K)),(l.foldl L7 S).length<=S.length+l.length:=by
  intro l;induction l with
  |nil=>intro S;simp
  |cons k l Bg=>
   intro S;have:=Bg (L7 S k);have h2:(L7 S k).length<=S.length+1:=by unfold L7;split<;>simp
   simp only[Tj,FQ];lia
 have:=this keys [];simpa[IG]using this
def vD{keys:List (List K)}{i:Nat}{ks:List K}(h:keys[i]?=some ks):IG (keys.take (i+1))=L7 (IG (keys.take i)) ks:=by unfold IG;rw[Pp,h];simp[List.foldl_append]
section
variable{A:Bk}{R:Result->AD->Prop}{I:Z}{Ae wr:List Z}{G:Array GenState->Array GenState->Prop}{n:Nat}{P:Nat->U->Prop}{St:Nat->AD->Prop}
def Uh(knd:X3 prog w K)(keys:List (List K))(P:Nat->U->Prop)(no:List Z)(h:Aq):Prop:=∀i v,P i v->∃b ks,v=.ref b/\b∉no/\keys[i]?=some ks/\EW knd h ks b
def Uh.but{keys:List (List K)}{no:List Z}{h h':Aq}(k:Uh knd keys P no h)(m:∀b o,b∉no->h.get? b=some o->h'.get? b=some o):Uh knd keys P no h':=λi v p=>by obtain⟨b,ks,e,nb,q,o,it,c,AE,r⟩:=k i v p;exact⟨b,ks,e,nb,q,o,it,c,m b o nb AE,r⟩
def Iy.moved{bv:Bool}{ok:Z->Prop}{h h':Aq}{S:Z}{L:List (List K)}(T:Iy knd bv ok h S L)(zP:∀o,h.get? S=some o->h'.get? S=some o)(m:∀b o,ok b->h.get? b=some o->h'.get? b=some o):Iy knd bv ok h' S L:=by
 obtain⟨o,es,B3,t,AE,hex,hd,tO,X,hm,AR,AS,BW,J⟩:=T.ex;have AJ:∀e∈es.toList,∀b ks,e.2=.ref b->(EW knd h ks b↔EW knd h' ks b):=λe he b ks B7=>by
  have nb:=J e he b B7;obtain⟨k2,DG,c1,⟨CD,it,c,g1,g2⟩,c3⟩:=X.el e he;rw[B7]at c1;cases c1;have m3:=m b CD nb g1;constructor
  .rintro⟨BM,Ur,E1,A_,B4⟩;rw[g1]at A_;cases A_;exact⟨CD,Ur,E1,m3,B4⟩
  .rintro⟨BM,Ur,E1,A_,B4⟩;rw[m3]at A_;cases A_;exact⟨CD,Ur,E1,g1,B4⟩
 refine⟨o,es,B3,t,zP o AE,hex,hd,tO,⟨λe he=>?_⟩,λks=>?_,AR,AS,BW,J⟩
 .obtain⟨k2,DG,c1,c2,c3⟩:=X.el e he;exact⟨k2,DG,c1,(AJ e he DG k2 c1).mp c2,c3⟩
 .rw[<-hm ks];constructor
  .rintro⟨e,he,b,B7,GQ⟩;exact⟨e,he,b,B7,(AJ e he b ks B7).mpr GQ⟩
  .rintro⟨e,he,b,B7,GQ⟩;exact⟨e,he,b,B7,(AJ e he b ks B7).mp GQ⟩
def zl{bv:Bool}(Az:Ua knd bv){ok:Z->Prop}(BE:∀i b,P i (.ref b)->ok b)(W:WalksS prog w A.in1 I Ae wr G n P St)(S:Z)(Qb:S∉Ae)(keys:List (List K))(AR:keys.length=n)(J:n<77)(B0:A.in1.units<Ce) :
  ∀(k i:Nat)(s:AD),n-i=k->i<=n->St i s->Uh knd keys P (S::wr) s.heap->Iy knd bv (λb=>b∉S::wr/\ok b) s.heap S (IG (keys.take i))->
   (∀s',Moved (S::wr) G s s'->Iy knd bv (λb=>b∉S::wr/\ok b) s'.heap S (IG keys)->R (.ok (.ret .none)) s')->
   Ld (Ai prog w) A (.builtin "set.update.loop" ⟨[.ref S,.ref I],[]⟩) R s:=by
 have vf:S∉wr:=λh=>Qb (W.sub _ h);have N8:∀b∈wr,b∈S::wr:=λb J=>E3 _ J;have keep:∀{s s':AD}{L:List (List K)},Moved wr G s s'->Iy knd bv (λb=>b∉S::wr/\ok b) s.heap S L->Iy knd bv (λb=>b∉S::wr/\ok b) s'.heap S L:=λm T=>
  T.moved (λo e=>m.heap S o vf e) λb o nb e=>m.heap b o (λz=>nb.1 (N8 b z)) e
 intro k;induction k with
 |zero=>
  intro i s AG A0 GO mO T hR;have e:i=n:=by lia
  subst e;refine Rn rx ?_;rw[Ta fS _];show AU _ A.in1 (KF (.ref I)>>=_) _ _ s;refine AH (W.done s _ _ GO λs' hm=>?_);show AU _ A.in1 (ret JV) _ _ s';rw[<-AR,Wr]at T;exact An (hR s' (hm.mono N8) (keep hm T))
 |succ k Bg=>
  intro i s AG A0 GO mO T hR;have DI:i<n:=by lia
  refine Rn rx ?_;rw[Ta fS _];show AU _ A.in1 (KF (.ref I)>>=_) _ _ s;refine AH (W.item i s _ _ DI GO λv s' hP wg hm=>?_);have mr:Uh knd keys P (S::wr) s'.heap:=mO.but λb o nb e=>hm.heap b o (λz=>nb (N8 b z)) e;have UJ:=keep hm T;obtain⟨b,ks,rfl,nb,Ck,GQ⟩:=mr i v hP;show AU _ A.in1 (JW [D7 b] (setAdd S (.ref b))>>=_) _ _ s';refine AH (K3 ?_);unfold setAdd;refine K3 (AH (wpAny_pyHash_tuple B0 GQ ?_));have room:(IG (keys.take i)).length<76:=by have:=gz (keys.take i);rw[NH]at this;lia
  refine si Az (s:={ s' with toks:=s'.toks+(ks.length+1) }) B0 UJ GQ ⟨nb,BE i b hP⟩ room λc h' Ee tP=>?_;have sa:Iy knd bv (λb=>b∉S::wr/\ok b) h' S (IG (keys.take (i+1))):=by rw[vD Ck];exact tP
  have XO:∀CT o,CT∉S::wr->s'.heap.get? CT=some o->h'.get? CT=some o:=λCT o aaQ e=>by rw[Ee.2 CT (λz=>aaQ (by rw[z];exact GT))];exact e
  refine An ⟨X5 fS _,Bg (i+1) _ (by lia) DI (W.frame _ s' _ _ wg (Pr _ _) λCT GL o e=>?_) (mr.but XO) sa λJL xB vd=>?_⟩
  .rw[Ee.2 CT (λh:CT=S=>Qb (by rw[<-h];exact GL))];exact e
  .refine hR JL (Moved.trans W.gtrans ((hm.mono N8).then_heap (Pr _ _) λCT o GL e=>?_) xB) vd;rw[Ee.2 CT (λh:CT=S=>GL (by rw[h];exact GT))];exact e
end
end
section
variable{prog:BR}{w:BA}{A:Bk}{E:U->AD->Prop}{s:AD}{K:Type}[DecidableEq K]{knd:X3 prog w K}
noncomputable def Jn(led:Bool):Obj:={ cls:=.type "set",dict:=none,data:=.set #[] 0 (.fresh 0 0 led) }
def Iy.new{bv:Bool}{ok:Z->Prop}{h:Aq}{S:Z}{led:Bool}(el:led=!w.params.followText "set-order")(e:h.get? S=some (Jn led)):Iy knd bv ok h S []:=
 ⟨_,#[],0,_,e,⟨rfl,rfl,rfl⟩,rfl,⟨⟨rfl,rfl,by simp[SetTable.fresh],by simp[SetTable.fresh]⟩,jJ,GV _,λj e he=>by obtain⟨i,_,q⟩:=he;simp at q⟩,⟨λe he=>by simp at he⟩,λks=>⟨λ⟨e,he,_⟩=>by simp at he,λz=>by simp at z⟩,rfl,.inl ⟨rfl,by show 0<5;lia⟩,⟨el,λ_=>rfl⟩,λe he=>by simp at he⟩
theorem adI(a:U){Q₁:U->AD->Prop}(h:Q₁ (.ref s.heap.objs.size) { s with heap:=s.heap.push (Jn (!w.params.followText "set-order")) }):Ld (Ai prog w) A (.call (.builtin "set.__new__") { pos:=[.type "set",a] }) (wants Q₁ E) s:=by
 have N8:=sub_set_self;refine codeAny_of_tree ?_;refine AH (wpAny_of_eq (F.newCall_set_1 a) (An ⟨X5 F.plain_set_new _,Rn F.entry_set_new ?_⟩));rw[Ta F.plain_set_new _];obtain⟨AW,g,d,BW,os⟩:=s;have nn:∀{A:Bk}{Q:U->AD->Prop}{E:U->AD->Prop},Q (.ref AW.objs.size) ⟨AW.push (Jn (!w.params.followText "set-order")),g,d,BW,os⟩->AU (Ai prog w) A (newSet (.type "set")) Q E ⟨AW,g,d,BW,os⟩:=λ{A Q E} Ac=>by unfold newSet setsByText;exact AH (AH (fm (An (Ks Ac))))
 unfold IN.«set.__new__»;generalize hN:newSet=aip at nn |-
 wp_walk
 exact nn (An h)
set_option maxHeartbeats 3200000 in
theorem jm{bv:Bool}(Az:Ua knd bv){l:Z}{items:Array U}{keys:List (List K)}{Q:U->AD->Prop}(B1:A.handled=none)(B0:A.units+64<Ce)(AF:s.heap.IsList l items)(AG:keys.length=items.size)(J:items.size<77)(A0:∀(i:Nat) v,items[i]?=some v->∃b ks,v=.ref b/\keys[i]?=some ks/\EW knd s.heap ks b)(h:∀(h':Aq)(BW:Nat),Iy knd bv (λb=>∃i:Nat,items[i]?=some (.ref b)) h' s.heap.objs.size (IG keys)->(∀b o,s.heap.get? b=some o->h'.get? b=some o)->Q (.ref s.heap.objs.size) { s with heap:=h',toks:=BW }) :
  AU (Ai prog w) A (call (.type "set") [.ref l]) Q E s:=by
 obtain⟨c,FY,aju⟩:=F.called_set.mro;have ajt:=F.called_set.made;have N8:=F.called_set.sub;refine wpAny_call (codeAny_of_tree ?_);show AU _ _ (callAny (.type "set") _) _ _ _;refine An ⟨Code.quiet_builtin _ (by decide+kernel),Rn F.entry_type_call ?_⟩;rw[Around.under_plain (weight_type_call_type "set" [.ref l] []) rfl];have h1:=F.called_set.notType;have h2:=F.called_set.canCreate;have ajm:=F.typeCall_set_1 (.ref l)
 repeat (any_goals (first|assumption|wp_step))
 refine Rs (adI (.ref l) (E:=E) (Q₁:=λobj Ci=>∃led:Bool,led=(!w.params.followText "set-order")/\obj=.ref s.heap.objs.size/\Ci={ s with heap:=s.heap.push (Jn led) }) ⟨_,rfl,rfl,rfl⟩) λr Ci AS=>?_;rcases r with e|GK
 .exact AS
 .cases GK with
  |ret obj=>
   obtain⟨led,el,rfl,rfl⟩:=AS;have J8:(s.heap.push (Jn led)).get? s.heap.objs.size=some (Jn led):=F6 _ rfl;have Do:Rr { s with heap:=s.heap.push (Jn led) } (.ref s.heap.objs.size) "set":=⟨_,J8,rfl⟩;have VR:=F.called_set.init.lookup;have ajl:=F.called_set.init.bind (.ref s.heap.objs.size)
   repeat (any_goals (first|assumption|wp_step))
   refine Rs (codeAny_call_builtin (R:=wants (λr Ic=>r=.none/\∃h' BW,Ic={ s with heap:=h',toks:=BW }/\Iy knd bv (λb=>∃i:Nat,items[i]?=some (.ref b)) h' s.heap.objs.size (IG keys)/\(∀b o,s.heap.get? b=some o->h'.get? b=some o)) E) F.called_set.init.plain F.entry_set_init (check_set_init_1 Do ?_)) λadz Ic aV=>?_
   .obtain⟨ol,TH,Qd,nl,Qe⟩:=AF;obtain⟨aj_,aaO,aja,ac9⟩:=ol;simp only at Qd Qe;subst Qd;subst Qe;have xO:(s.heap.push (Jn led)).get? l=some { cls:=.type "list",dict:=aaO,data:=.seq items nl,slots:=ac9 }:=Cr _ TH;have ajy:=F.sub_list_set;have ajx:=F.sub_list_frozenset;have LF:(Lb "list"==Lb "dict")=false:=by decide
    have lS:(s.heap.push (Jn led)).IsList l items:=⟨_,xO,rfl,nl,rfl⟩;unfold IN.«set.__init__» noKeywords Builtin.Frozenset.updateFrom;generalize vb:pyIter=Fv
    wp_walk
    subst vb;refine fx lS ?_;refine AH (wpAny_runValue ?_);have lT:l<s.heap.objs.size:=Cv TH;have bO:(s.heap.push (Jn led)).objs.size=s.heap.objs.size+1:=K2 _ _;have xG:l≠(s.heap.push (Jn led)).objs.size:=by rw[bO];exact ET (Wy lT)
    have Qb:s.heap.objs.size∉[(s.heap.push (Jn led)).objs.size,l]:=by rw[bO];simp only[La,Tq,LZ,or_false,not_or];exact⟨ET (Wp _),ML lT⟩
    have m9:∀b o,s.heap.get? b=some o->((s.heap.push (Jn led)).push { cls:=.type "list_iterator",data:=.fields #[.ref l,.int 0 0] }).get? b=some o:=λb o e=>Cr _ (Cr _ e);have XO:∀b o,s.heap.get? b=some o->b∉s.heap.objs.size::[(s.heap.push (Jn led)).objs.size]:=λb o e=>by have:=Cv e;rw[bO];simp only[La,Tq,LZ,or_false,not_or];exact⟨ET this,ET (Wy this)⟩
    refine zl (knd:=knd) Az (ok:=λb=>∃i:Nat,items[i]?=some (.ref b)) (λi b p=>⟨i,p⟩) ((Walks.list (by simp[B1]) _ l xG items).toS) s.heap.objs.size Qb keys AG J (by simp only[fY];lia) (items.size-0) 0 _ (by lia) (GV _)
     ⟨⟨_,F6 _ rfl,rfl,rfl⟩,(lS.push _)⟩ (λi v p=>?_) (Iy.new (led:=led) el (Cr _ J8)) ?hR
    .obtain⟨b,ks,rfl,q,o,it,c,AE,r⟩:=A0 i v p;exact⟨b,ks,rfl,XO b o AE,q,o,it,c,m9 b o AE,r⟩
    case hR=>intro s' hm TC;obtain⟨h',g',d',aeo,bg⟩:=s';have eg:g'=s.gens:=hm.gens;have E2:d'=s.drawn:=hm.drawn;have My:bg=s.os:=hm.os;subst eg;subst E2;subst My;show AU _ _ _ _ _ _;refine An ?_;show AU _ _ (ret JV) _ _ _;obtain⟨o,es,B3,t,A_,B4,Cn,I7,LP,Gq,Hv,LQ,dV,RM⟩:=TC.ex;exact An ⟨rfl,h',aeo,rfl,⟨o,es,B3,t,A_,B4,Cn,I7,LP,Gq,Hv,LQ,dV,λe he b B7=>(RM e he b B7).2⟩,λb o e=>hm.heap b o (XO b o e) (m9 b o e)⟩
   .rcases adz with e|w8
    .exact aV
    .cases w8 with
     |ret r=>
      obtain⟨rfl,h',BW,rfl,TC,Je⟩:=aV
      repeat (any_goals (first|assumption|wp_step))
      exact h _ _ TC Je
     |_=>cases aV
  |_=>cases AS
end
end G7
namespace LT
open PySem PyProof.Rows
structure FI(kd:KA)(Bs:Array JX)(st:Fl):Prop where
 k:Iq st=kd
 p:(BH st).Perm Bs
 n:NK st= #[]
 f:Ry st=none
def FI.Kx{kd:KA}{Bs:Array JX}{st:Fl}(b:FI kd Bs st):(BH st).size=Bs.size:=b.p.size_eq
def FI.to{kd:KA}{Bs:Array JX}{st:Fl}(b:FI kd Bs st){xs:Array JX}(q:xs.Perm (BH st)):FI kd Bs (setArr st xs):=⟨b.k,q.trans b.p,b.n,b.f⟩
structure M5(prog:BR)(w:BA)(A:Bk)(s:AD)(kd:KA)(κ:KeyKind)(Bs:Array JX):Prop where
 lt:∀(E:U->AD->Prop)(x y:JX){Q:Bool->AD->Prop},x∈Bs.toList->y∈Bs.toList->Q (κ.blt ((κ.keyOf x.1).getD κ.dflt) ((κ.keyOf y.1).getD κ.dflt)) s->AU (Ai prog w) A (keyLt' kd x.1 y.1) Q E s
section
variable{prog:BR}{w:BA}{A:Bk}{E:U->AD->Prop}{s:AD}{Bs:Array JX}{κ:KeyKind}{kd:KA}
def FI.at{st:Fl}(b:FI kd Bs st){i:Nat}(A0:i<Bs.size):∃x,(BH st)[i]?=some x/\x∈Bs.toList/\KK κ (BH st) i=(κ.keyOf x.1).getD κ.dflt:=by
 have g:i<(BH st).size:=by rw[b.Kx];exact A0
 have e:=getElem?_pos (BH st) i g;refine⟨_,e,(Array.perm_iff_toList_perm.mp b.p).mem_iff.mp (by simp),?_⟩;unfold KK;rw[e]
def V1(C:M5 prog w A s kd κ Bs){st:Fl}(b:FI kd Bs st){i j:Nat}{Q:Option Bool->Fl->Prop}(A0:i<Bs.size)(BO:j<Bs.size)(h:Q (some (κ.blt (KK κ (BH st) i) (KK κ (BH st) j))) st):wpS (Ai prog w) A E s (ltAt' i j) Q st:=by obtain⟨x,H7,H8,Pc⟩:=b.at (κ:=κ) A0;obtain⟨y,Dg,EN,Mt⟩:=b.at (κ:=κ) BO;rw[Pc,Mt]at h;rw[ltAt'_eq];refine EV (wpS_get ?_);show wpS _ _ _ _ (elem' (BH st) i>>=λx=>elem' (BH st) j>>=λy=>lt' x y) Q st;rw[elem'_eq,H7,elem'_eq,Dg];refine EV (G5 (EV (G5 ?_)));rw[lt'_eq];refine EV (wpS_get (EV (wpS_lift (Ts ?_))));rw[b.k];exact C.lt _ x y H8 EN ⟨rfl,G5 h⟩
def qk{xs:Array JX}:G4 κ xs 1:=λi j a c=>by
 have:i=j:=by lia
 subst this;exact Q0 _
def afQ{xs:Array JX}{n:Nat}(h:G4 κ xs n)(q:κ.kle (KK κ xs (n-1)) (KK κ xs n)):G4 κ xs (n+1):=λi j a c=>by
 by_cases e:j<n
 .exact h i j a e
 have e:j=n:=by lia
 subst e;by_cases g:i=j
 .subst g;exact Q0 _
 .exact Ws (h i (j-1) (by lia) (by lia)) q
def Xj{xs:Array JX}{n:Nat}(h:NonIncK κ xs n)(q:κ.kle (KK κ xs n) (KK κ xs (n-1))):NonIncK κ xs (n+1):=λi j a c=>by
 by_cases e:j<n
 .exact h i j a e
 have e:j=n:=by lia
 subst e;by_cases g:i=j
 .subst g;exact Q0 _
 .exact Ws q (h i (j-1) (by lia) (by lia))
def NonIncK.same{xs ys:Array JX}{n:Nat}(h:NonIncK κ xs n)(e:∀k,KK κ ys k=KK κ xs k):NonIncK κ ys n:=λi j a c=>by rw[e,e];exact h i j a c
def ie(C:M5 prog w A s kd κ Bs){st:Fl}{a Ec:Nat}{Q:AscSt->Fl->Prop}(AR:Ec<=Bs.size)(A2:1<=a)(an:a<=Ec)(b:FI kd Bs st)(hs:G4 κ (BH st) a)(h:∀n,a<=n->n<=Ec->G4 κ (BH st) n->(n<Ec->κ.klt (KK κ (BH st) n) (KK κ (BH st) (n-1)))->Q (none,n) st):wpS (Ai prog w) A E s (ascLoop a Ec) Q st:=by
 unfold ascLoop;refine Rp (I:=λx c t=>t=st/\c=(none,x)/\G4 κ (BH st) x) ?_ ?_ ⟨rfl,rfl,hs⟩
 .rintro x c t g1 g2 ⟨rfl,rfl,g3⟩;dsimp only;refine EV (V1 C b (by lia) (by lia) ?_);cases e:κ.blt (KK κ (BH t) x) (KK κ (BH t) (x-1))with
  |true=>exact G5 (h x g1 (by lia) g3 λ_=>e)
  |false=>exact G5 ⟨rfl,rfl,afQ g3 e⟩
 .rintro c t ⟨rfl,rfl,g⟩;have em:max a Ec=Ec:=by lia
  rw[em]at g |-;exact h Ec an (By _) g λz=>absurd z (IK _)
def rJ(C:M5 prog w A s kd κ Bs){st:Fl}{n Ec:Nat}{Q:Option Nat->Fl->Prop}(AR:Ec<=Bs.size)(h1:1<=n)(nn:n<=Ec)(b:FI kd Bs st)(hs:NonIncK κ (BH st) n)(h:∀m t,FI kd Bs t->m<=Ec->G4 κ (BH t) m->Q (some m) t):wpS (Ai prog w) A E s (tail3 n Ec) Q st:=by
 have Aj:n<=(BH st).size:=by rw[b.Kx];lia
 have CT:FI kd Bs (setArr st (mirror (BH st) 0 n ((n-0)/2))):=b.to (XE _ _ _ _);unfold tail3;refine EV (XF (EV (ie C AR h1 nn CT (λi j g1 g2=>?_) λm m1 m2 Me _=>G5 (h m _ CT m2 Me))));show κ.kle (KK κ (mirror (BH st) 0 n ((n-0)/2)) i) (KK κ (mirror (BH st) 0 n ((n-0)/2)) j);rw[KK_mirror Aj,KK_mirror Aj,if_pos ⟨GV _,by lia⟩,if_pos ⟨GV _,g2⟩];exact hs _ _ (by lia) (by lia)
def Flat(κ:KeyKind)(xs:Array JX)(m q:Nat):Prop:=q+1<=m/\∀i,m-(q+1)<=i->i<m->KK κ xs i=KK κ xs (m-1)
def bV{xs:Array JX}{m:Nat}(h:1<=m):Flat κ xs m 0:=⟨h,λi a c=>by
 have:i=m-1:=by lia
 rw[this]⟩
def vE(C:M5 prog w A s kd κ Bs){st:Fl}{n Ec:Nat}{Q:DescSt->Fl->Prop}(AR:Ec<=Bs.size)(h1:1<=n)(nn:n<=Ec)(b:FI kd Bs st)(hs:NonIncK κ (BH st) n)(h:∀m q t,FI kd Bs t->n<=m->m<=Ec->NonIncK κ (BH t) m->Flat κ (BH t) m q->Q (none,m,q) t):wpS (Ai prog w) A E s (descLoop n Ec) Q st:=by
 unfold descLoop;refine Rp (I:=λx c t=>∃q,c=(none,x,q)/\FI kd Bs t/\NonIncK κ (BH t) x/\Flat κ (BH t) x q) ?_ ?_ ⟨0,rfl,b,hs,bV h1⟩
 .rintro x c t g1 g2 ⟨q,rfl,b,g3,FX⟩;dsimp only;have Aj:x<=(BH t).size:=by rw[b.Kx];lia
  refine EV (V1 C b (by lia) (by lia) ?_);cases e:κ.blt (KK κ (BH t) x) (KK κ (BH t) (x-1))with
  |true=>
   have up:=Xj g3 (X2 e);dsimp only;rw[if_pos rfl];by_cases z:q>0
   .rw[if_pos z];exact EV (XF (G5 ⟨0,rfl,b.to (XE _ _ _ _),NonIncK.same up (gB Aj FX.2),bV (by lia)⟩))
   .rw[if_neg z];exact G5 ⟨0,rfl,b,up,bV (by lia)⟩
  |false=>
   dsimp only;rw[if_neg (by simp)];refine EV (V1 C b (by lia) (by lia) ?_);cases Bi:κ.blt (KK κ (BH t) (x-1)) (KK κ (BH t) x)with
   |true=>exact G5 (h x q t b g1 (by lia) g3 FX)
   |false=>
    have KX:KK κ (BH t) x=KK κ (BH t) (x-1):=sG Bi e;refine G5 ⟨q+1,rfl,b,Xj g3 Bi,by have:=FX.1;lia,λi a c=>?_⟩;rw[show x+1-1=x by lia];by_cases w:i=x
    .rw[w]
    .rw[KX];exact FX.2 i (by lia) (by lia)
 .rintro c t ⟨q,rfl,b,g3,FX⟩;have em:max n Ec=Ec:=by lia
  rw[em]at g3 FX |-;exact h Ec q t b nn (By _) g3 FX
def jT(C:M5 prog w A s kd κ Bs){st:Fl}{n Ec:Nat}{Q:Option Nat->Fl->Prop}(AR:Ec<=Bs.size)(nn:n+1<=Ec)(b:FI kd Bs st)(hs:NonIncK κ (BH st) (n+1))(h:∀m t,FI kd Bs t->m<=Ec->G4 κ (BH t) m->Q (some m) t):wpS (Ai prog w) A E s (descPart n Ec) Q st:=by
 unfold descPart;refine EV (wpS_lift (MO ⟨rfl,EV (vE C AR (by lia) nn b hs λm q t CT m1 m2 g1 g2=>?_)⟩));dsimp only;have Aj:m<=(BH t).size:=by rw[CT.Kx];lia
 by_cases z:q>0
 .rw[if_pos z];exact EV (XF (rJ C AR (by lia) m2 (CT.to (XE _ _ _ _)) (NonIncK.same g1 (gB Aj g2.2)) h))
 .rw[if_neg z];exact rJ C AR (by lia) m2 CT g1 h
def adv(C:M5 prog w A s kd κ Bs){st:Fl}{Ec:Nat}{Q:Option Nat->Fl->Prop}(AR:Ec<=Bs.size)(h1:1<=Ec)(b:FI kd Bs st)(h:∀m t,FI kd Bs t->m<=Ec->G4 κ (BH t) m->Q (some m) t) :
  wpS (Ai prog w) A E s (countRun' 0 Ec) Q st:=by
 rw[countRun0_eq];refine EV (ie C AR (By 1) h1 b qk λn CQ C0 g1 g2=>?_);dsimp only;by_cases e:n=Ec
 .rw[if_pos (by simpa using e)];exact G5 (h n st b C0 g1)
 rw[if_neg (by simpa using e)];have g2:=g2 (by lia);have Aj:n<=(BH st).size:=by rw[b.Kx];lia
 by_cases z:n>1
 .rw[if_pos z];refine EV (V1 C b (by lia) (by lia) ?_);cases Bi:κ.blt (KK κ (BH st) 0) (KK κ (BH st) (n-1))with
  |true=>exact G5 (h n st b C0 g1)
  |false=>
   dsimp only;rw[if_neg (by simp)];have GK:∀k,0<=k->k<n->KK κ (BH st) k=KK κ (BH st) (n-1):=λk _ AG=>
    sG (g1 k (n-1) (by lia) (by lia)) (Ws Bi (g1 0 k (GV _) AG))
   have OZ:NonIncK κ (BH st) n:=λi j a c=>by rw[GK i (GV _) (by lia),GK j (GV _) c];exact Q0 _
   exact EV (XF (jT C AR (by lia) (b.to (XE _ _ _ _)) (NonIncK.same (Xj OZ (X2 g2)) (gB Aj GK)) h))
 .rw[if_neg z];have A1:n=1:=by lia
  subst A1;exact jT C AR (by lia) b (Xj (λi j a c=>by
   have:i=j:=by lia
   subst this;exact Q0 _) (X2 g2)) h
def sZ(C:M5 prog w A s kd κ Bs){st:Fl}{n ok:Nat}{Q:Bool->Fl->Prop}(AR:n<=Bs.size)(AG:ok<=n)(b:FI kd Bs st)(hs:G4 κ (BH st) ok)(h:∀t,FI kd Bs t->G4 κ (BH t) n->Q true t):wpS (Ai prog w) A E s (binarySort' 0 n ok) Q st:=by
 rw[binarySort'_eq];simp only[Pw];refine EV (wpS_mono (Rp (I:=λk c t=>c=(none,())/\FI kd Bs t/\G4 κ (BH t) (min k n)) (Q:=λc t=>c=(none,())/\FI kd Bs t/\G4 κ (BH t) n) ?_ ?_ ?_) ?_)
 .rintro k c t k1 k2 ⟨rfl,b,g⟩;have Ck:min k n=k:=by lia
  rw[Ck]at g;have Aj:k<(BH t).size:=by rw[b.Kx];lia
  refine EV (wpS_mono (Rp (I:=λx c u=>u=t/\∃l r,c=(none,l,r)/\l<=r/\r<=k/\r-l<=k-x/\(∀i,i<l->κ.kle (KK κ (BH t) i) (KK κ (BH t) k))/\∀i,r<=i->i<k->κ.klt (KK κ (BH t) k) (KK κ (BH t) i))
   (Q:=λc u=>u=t/\∃l r,c=(none,l,r)/\l<=k/\(∀i,i<l->κ.kle (KK κ (BH t) i) (KK κ (BH t) k))/\∀i,l<=i->i<k->κ.klt (KK κ (BH t) k) (KK κ (BH t) i)) ?_ ?_ ⟨rfl,0,k,rfl,by lia,by lia,by lia,λi z=>by lia,λi z Es=>by lia⟩) ?_)
  .rintro x c u _ H8 ⟨rfl,l,r,rfl,E7,Cm,aaE,lo,A0⟩;dsimp only;by_cases z:l≥r
   .rw[if_pos z];have e:l=r:=by lia
    subst e;exact G5 ⟨rfl,l,l,rfl,Cm,lo,A0⟩
   rw[if_neg z];refine EV (V1 C b (by lia) (by lia) ?_);cases e:κ.blt (KK κ (BH u) k) (KK κ (BH u) ((l+r)/2))with
   |true=>exact G5 ⟨rfl,l,(l+r)/2,rfl,by lia,by lia,by lia,lo,λi a c=>KeyOrd.klt_of_klt_of_kle e (g _ _ a c)⟩
   |false=>exact G5 ⟨rfl,(l+r)/2+1,r,rfl,by lia,by lia,by lia,λi a=>Ws (g i ((l+r)/2) (by lia) (by lia)) (show κ.kle _ _ from e),A0⟩
  .rintro c u ⟨rfl,l,r,rfl,E7,Cm,aaE,lo,A0⟩;have e:l=r:=by lia
   subst e;exact⟨rfl,l,l,rfl,Cm,lo,A0⟩
  .rintro c u ⟨rfl,l,r,rfl,E7,lo,A0⟩;show wpS _ _ _ _ (moveDown' k l>>=λ_=>pure (NI (none,()))) _ _;rw[moveDown'_eq];refine EV (wpS_modify (G5 ⟨rfl,b.to (bubble_perm _ _ _),?_⟩));rw[show min (k+1) n=k+1 by lia];intro i j ak0 cQ;show κ.kle (KK κ (bubble (BH u) k (k-l)) i) (KK κ (bubble (BH u) k (k-l)) j);rw[KK_bubble Aj (by lia),KK_bubble Aj (by lia),show k-(k-l)=l by lia]
   repeat' split
   all_goals first|lia|exact Q0 _|exact lo _ (by lia)|exact X2 (A0 _ (by lia) (by lia))|exact g _ _ (by lia) (by lia)
 .rintro c t ⟨rfl,b,g⟩;rw[show min (max (max ok 1) n) n=n by lia]at g;exact⟨rfl,b,g⟩
 .refine⟨rfl,b,?_⟩;by_cases z:ok=0
  .subst z;intro i j a c;exact qk i j a (by lia)
  .rw[show min (max ok 1) n=ok by lia];exact hs
 .rintro c t ⟨rfl,b,g⟩;exact G5 (h t b g)
def adw(C:M5 prog w A s kd κ Bs){st:Fl}{Q:Unit->Fl->Prop}(b:FI kd Bs st)(h2:2<=Bs.size)(Q_:Bs.size<64)(h:∀t,(BH t).Perm Bs->Ry t=none->G4 κ (BH t) Bs.size->Q () t):wpS (Ai prog w) A E s sortRuns' Q st:=by
 rw[sortRuns'_eq];refine EV (wpS_get ?_);dsimp only;have PA:minRun' Bs.size Bs.size 0=Bs.size:=by
  obtain⟨f,hf⟩:∃f,Bs.size=f+1:=⟨Bs.size-1,by lia⟩;have:minRun' (f+1) Bs.size 0=Bs.size:=by rw[minRun'_succ,if_pos Q_,gJ]
  rwa [<-hf]at this
 simp only[b.Kx,PA]
 refine EV (wpS_mono (Rp (I:=λx c t=>(x=0/\c=(none,0)/\FI kd Bs t)\/(1<=x/\c=(none,Bs.size)/\(BH t).Perm Bs/\Ry t=none/\NK t= #[(0,Bs.size,0)]/\G4 κ (BH t) Bs.size))
  (Q:=λc t=>c=(none,Bs.size)/\(BH t).Perm Bs/\Ry t=none/\NK t= #[(0,Bs.size,0)]/\G4 κ (BH t) Bs.size) ?_ ?_ (.inl ⟨rfl,rfl,b⟩)) ?_)
 .have last:∀t,FI kd Bs t->G4 κ (BH t) Bs.size->(BH (setPending t ((NK t).push (0,Bs.size,0)))).Perm Bs/\Ry (setPending t ((NK t).push (0,Bs.size,0)))=none/\NK (setPending t ((NK t).push (0,Bs.size,0)))= #[(0,Bs.size,0)]/\G4 κ (BH (setPending t ((NK t).push (0,Bs.size,0)))) Bs.size:=
    λt b g=>⟨b.p,b.f,by show(NK t).push _=_;rw[b.n];rfl,g⟩
  rintro x c t _ H8 (⟨rfl,rfl,b⟩|⟨H7,rfl,g⟩)
  .dsimp only;rw[if_neg (by lia)];simp only[Nat.sub_zero,Nat.min_self,Pw];refine EV (adv C (By _) (by lia) b λm t b m1 g=>?_);dsimp only;by_cases z:m<Bs.size
   .rw[if_pos z];refine EV (wpS_lift (MO ⟨rfl,EV (sZ C (By _) m1 b g λu b g=>?_)⟩));simp only[JQ,FZ,if_false];refine EV (wpS_get ?_);rw[b.n];exact EV (wpS_modify (G5 (.inr ⟨by lia,rfl,last u b g⟩)))
   .rw[if_neg z];have e:m=Bs.size:=by lia
    subst e;refine EV (wpS_get ?_);rw[b.n];exact EV (wpS_modify (G5 (.inr ⟨by lia,rfl,last t b g⟩)))
  .dsimp only;rw[if_pos (By _)];exact G5 ⟨rfl,g⟩
 .rintro c t (⟨z,_,_⟩|⟨_,e,g⟩)
  .lia
  .exact⟨e,g⟩
 .rintro c t ⟨rfl,g1,g2,g3,FX⟩;dsimp only;refine EV (wpS_mono (Rp (I:=λ_ c u=>u=t/\c=(none,())) (Q:=λc u=>u=t/\c=(none,())) ?_ (λ_ _ z=>z) ⟨rfl,rfl⟩) ?_)
  .rintro x c u _ _ ⟨rfl,rfl⟩;refine EV (wpS_get ?_);rw[if_pos (by rw[g3];exact By 1)];exact G5 ⟨rfl,rfl⟩
  .rintro c u ⟨rfl,rfl⟩;exact G5 (h _ g1 g2 FX)
end
noncomputable def ltI:List Int->List Int->Bool
 |[],[]=>false
 |[],_::_=>true
 |_::_,[]=>false
 |a::x,b::y=>if a=b then ltI x y else decide (a<b)
theorem YO:∀a,ltI a a=false
 |[]=>rfl
 |_::x=>by simp[ltI,YO x]
theorem V0:∀a b c,ltI a b=true->ltI b c=true->ltI a c=true
 |[],[],_,h,_=>by cases h
 |[],_::_,[],_,h=>by cases h
 |[],_::_,_::_,_,_=>rfl
 |_::_,[],_,h,_=>by cases h
 |_::_,_::_,[],_,h=>by cases h
 |a::x,b::y,c::z,h1,h2=>by
  simp only[ltI]at h1 h2 |-;by_cases A1:a=b
  .subst A1;rw[if_pos rfl]at h1;by_cases A7:a=c
   .subst A7;rw[if_pos rfl]at h2 |-;exact V0 x y z h1 h2
   .rw[if_neg A7]at h2 |-;exact h2
  .rw[if_neg A1]at h1;have h1:=of_decide_eq_true h1;by_cases A7:b=c
   .subst A7;rw[if_neg A1];exact decide_eq_true h1
   .rw[if_neg A7]at h2;have h2:=of_decide_eq_true h2;rw[if_neg (by lia)];exact decide_eq_true (by lia)
theorem Uz:∀a b,ltI a b=false->ltI b a=false->a=b
 |[],[],_,_=>rfl
 |[],_::_,h,_=>by cases h
 |_::_,[],_,h=>by cases h
 |a::x,b::y,h1,h2=>by
  simp only[ltI]at h1 h2;by_cases e:a=b
  .subst e;rw[if_pos rfl]at h1 h2;rw[Uz x y h1 h2]
  .rw[if_neg e]at h1;rw[if_neg (λz=>e z.symm)]at h2;have h1:=of_decide_eq_false h1;have h2:=of_decide_eq_false h2;exact absurd (by lia) e
def bp(a b c:List Int)(h:ltI a c=true):ltI a b=true\/ltI b c=true:=by
 cases A1:ltI a b with
 |true=>exact .inl rfl
 |false=>
  cases A7:ltI b c with
  |true=>exact .inr rfl
  |false=>
   exfalso;cases B8:ltI b a with
   |true=>rw[V0 b a c B8 h]at A7;cases A7
   |false=>rw[Uz a b A1 B8,A7]at h;cases h
section
variable{prog:BR}{w:BA}{A:Bk}{E:U->AD->Prop}{s:AD}
def om{a b:Int}{t u:Tok}{Q:U->AD->Prop}(h:Q (.bool (decide (a<b))) s):AU (Ai prog w) A (richCompare .Lt (.int a t) (.int b u)) Q E s:=
 wpAny_richCompare_same (op:=.Lt) (U4 s a t) (U4 s b u) slot_int_lt (call_int_lt ⟨(λe=>nomatch e),h⟩)
def xc{x y:List Int}{a b:Z}{P:Fin->AD->Prop}(A5:EW (Io prog w) s.heap x a)(Ao:EW (Io prog w) s.heap y b)(h:P (.done (.ret (.bool (ltI x y)))) s) :
  AU (Ai prog w) A (IN.«tuple.__lt__» ⟨[.ref a,.ref b],[]⟩) P E s:=by
 have tb:=Ao.typeIs;obtain⟨aaN,xs,na,JJ,_,vA,xX⟩:=A5;obtain⟨ob,ys,nb,ZY,_,db,Jf⟩:=Ao;show AU _ _ (isInstance (.ref b) (.type "tuple")>>=_) _ _ s;refine AH (Pq tb Wj ?_);simp only[JQ,FZ,if_false];refine AH (Tl JJ vA (AH (Tl ZY db (AH ?_))));refine NG _ (λrest r s'=>r.1=none/\s'=s/\∃M3 LU ES FP,rest=List.zip ES FP/\ItemsAre (Io prog w) M3 ES/\ItemsAre (Io prog w) LU FP/\ltI M3 LU=ltI x y/\decide (ES.length<FP.length)=decide (xs.size<ys.size)) _ ?_ ?_ _ _ ⟨rfl,rfl,x,y,xs.toList,ys.toList,rfl,xX,Jf,rfl,by simp⟩
 .rintro⟨u,v⟩ rest r s' ⟨AS,rfl,M3,LU,ES,FP,Aj,h1,h2,AF,AR⟩;cases h1 with
  |nil=>simp at Aj
  | @cons k1 HL H8 Ms g1 h1=>
    cases h2 with
    |nil=>simp at Aj
    | @cons k2 Ig EN aiB g2 h2=>
      simp only[ND,MG,Tr]at Aj;obtain⟨⟨rfl,rfl⟩,rfl⟩:=Aj;refine AH ((Io prog w).eqBool g1 g2 ?_);by_cases e:k1=k2
      .subst e;simp only[decide_true,JQ,FZ,if_false];refine An ⟨rfl,rfl,H8,EN,Ms,aiB,rfl,h1,h2,?_,by simpa using AR⟩;rw[<-AF];simp[ltI]
      .simp only[decide_eq_false e,Tu,if_true];obtain⟨t1,rfl⟩:=fv g1;obtain⟨Fo,rfl⟩:=fv g2;refine AH (MO (AH (om ?_)));rw[<-AF]at h;simp only[ltI,if_neg e]at h;exact AH (An (An (An h)))
 .rintro⟨A6,AZ⟩ s' ⟨AS,rfl,M3,LU,ES,FP,Aj,h1,h2,AF,AR⟩;simp only at AS;subst AS;refine An ?_;have fin:decide (xs.size<ys.size)=ltI x y:=by
   rw[<-AF,<-AR];cases h1 with
   |nil=>cases h2<;>simp[ltI]
   |cons _ _=>cases h2 with
    |nil=>simp[ltI]
    |cons _ _=>simp at Aj
  show P (.done (.ret (.bool (decide (xs.size<ys.size))))) s';rw[fin];exact h
theorem acF{x y:List Int}{a b:Z}{Q:U->AD->Prop}(B0:A.units<Ce)(A5:EW (Io prog w) s.heap x a)(Ao:EW (Io prog w) s.heap y b)(h:Q (.bool (ltI x y)) s) :
  AU (Ai prog w) A (richCompare .Lt (.ref a) (.ref b)) Q E s:=
 rf (op:=.Lt) A5.typeIs Ao.typeIs F.slot_tuple_lt (JT F.slot_tuple_lt A5.typeIs F.entry_tuple_lt (xc A5 Ao ⟨_,rfl,(λe=>nomatch e),h⟩) (F.args_tuple_lt_2 _ _)) B0
structure IA(prog:BR)(w:BA)(h:Aq)(v:U)(k:Int×Int×Int):Prop where
 ex:∃a o m b t,v=.ref a/\h.get? a=some o/\o.cls=.type "tuple"/\o.data=.seq #[.int k.1 t,.ref b] m/\EW (Io prog w) h [k.2.1,k.2.2] b
noncomputable def Gb(k:Int×Int×Int):List Int:=[k.1,k.2.1,k.2.2]
theorem IA.inj{h:Aq}{v:U}{k k':Int×Int×Int}(x:IA prog w h v k)(y:IA prog w h v k'):k=k':=by obtain⟨a,o,m,b,t,rfl,AE,AB,hd,J⟩:=x.ex;obtain⟨F1,BM,CM,CT,t',e,Dy,Qc,Ea,GL⟩:=y.ex;cases e;rw[AE]at Dy;cases Dy;rw[hd]at Ea;simp at Ea;obtain⟨⟨⟨A1,_⟩,rfl⟩,_⟩:=Ea;have A7:=J.inj GL;simp at A7;obtain⟨k1,k2,k3⟩:=k;obtain⟨zE,zF,zG⟩:=k';simp at A1 A7 |-;exact⟨A1,A7⟩
def mZ(b:Bool)(x y:U):keyLt' (tuples' b) x y=(do
  let xs <-ro x;let ys <-ro y
  for ((p,q),i) in(xs.toList.zip ys.toList).zipIdx do
   if !(<-eqBool p q)then return <-oneLt' (b&&i==0) p q
  return xs.size<ys.size):=rfl
def nd{x y:U}{Q:Bool->AD->Prop}(h:AU (Ai prog w) A (richCompare .Lt x y) (λv s'=>∃c,v=.bool c/\Q c s') E s):AU (Ai prog w) A (oneLt' false x y) Q E s:=by rw[oneLt'_eq];simp only[FZ,if_false];refine AH (H9 h (λv s'⟨c,e,q⟩=>?_) λ_ _ e=>e);subst e;exact K6 q
def zK{x y:U}{k k':Int×Int×Int}{Q:Bool->AD->Prop}(B0:A.units<Ce)(A5:IA prog w s.heap x k)(Ao:IA prog w s.heap y k')(h:Q (ltI (Gb k) (Gb k')) s):AU (Ai prog w) A (keyLt' (tuples' true) x y) Q E s:=by
 obtain⟨a,o,m,b,t,rfl,AE,AB,hd,J⟩:=A5.ex;obtain⟨F1,BM,CM,CT,t',rfl,Dy,Qc,Ea,GL⟩:=Ao.ex;rw[mZ];refine AH (Rq AE hd (AH (Rq Dy Ea ?_)));simp only[ND,List.zip_nil_left,Ti,Wm,Td,X8,Gb,ltI]at h |-;refine AH (AH (AH (Wo ?_)));by_cases e:k.1=k'.1
 .rw[if_pos e]at h;rw[if_neg (by simp[e])];refine An ?_;dsimp only;refine AH (AH (fo B0 J GL ?_));by_cases A7:k.2.1=k'.2.1/\k.2.2=k'.2.2
  .rw[if_neg (by simp[A7.1,A7.2])];rw[if_pos A7.1,if_pos A7.2]at h;exact An (An (An h))
  .rw[if_pos (by simp;exact Classical.not_and_iff_not_or_not.mp A7)];refine AH (nd (acF B0 J GL ⟨_,rfl,An (An (An ?_))⟩));simpa only[ltI]using h
 .rw[if_neg e]at h;rw[if_pos (by simpa using e)];exact AH (oneLt_int (An (An (An h))))
def nF:KeyOrd:=⟨List Int,ltI,YO,V0,bp,Uz⟩
open Classical in
noncomputable def YF(prog:BR)(w:BA)(h:Aq):KeyKind:={ nF with keyOf:=λv=>if q:∃k,IA prog w h v k then some (Gb (choose q))else none,dflt:=[] }
def cZ{h:Aq}{v:U}{k:Int×Int×Int}(x:IA prog w h v k):(YF prog w h).keyOf v=some (Gb k):=by have q:∃k,IA prog w h v k:=⟨k,x⟩;exact(dif_pos q).trans (congrArg (λz=>some (Gb z)) ((Pg q).inj x))
def IA.mono{h h':Aq}{v:U}{k:Int×Int×Int}(m:∀b o,h.get? b=some o->h'.get? b=some o)(x:IA prog w h v k):IA prog w h' v k:=by obtain⟨a,o,m1,b,t,e,AE,AB,hd,CD,it,n,g,r⟩:=x.ex;exact⟨a,o,m1,b,t,e,m _ _ AE,AB,hd,CD,it,n,m _ _ g,r⟩
theorem bx{β:Type}{f:U->Sem β}{g:U->β}:∀{vs:List U}{Q:List β->AD->Prop},(∀v∈vs,∀(R:β->AD->Prop),R (g v) s->AU (Ai prog w) A (f v) R E s)->Q (vs.map g) s->AU (Ai prog w) A (vs.mapM f) Q E s
 |[],Q,_,h=>by rw[List.mapM_nil];exact An h
 |v::vs,Q,hf,h=>by rw[List.mapM_cons];refine AH (hf v (by simp) _ (AH (bx (λu B0=>hf u (by simp[B0])) (An h))))
def mm{vs:List U}{g:U->U}{T:String}{Q:KA->AD->Prop}(AR:vs≠[])(h1:∀v∈vs,∃a o m r,v=.ref a/\s.heap.get? a=some o/\o.cls=.type "tuple"/\o.data=.seq (g v::r).toArray m)(h2:∀v∈vs,s.TypeIs (g v) T)(h:Q (tuples' (Lb T !=.type "tuple")) s) :
  AU (Ai prog w) A (keyKind' vs.toArray) Q E s:=by
 rw[keyKind'_eq,List.mapM_toArray];rw[map_eq_pure_bind];refine AH (AH (bx (g:=λv=>some (g v)) (λv Az R hR=>?_) (An ?_)))
 .obtain⟨a,o,m,r,rfl,AE,AB,hd⟩:=h1 v Az;show AU _ _ (typeOf (.ref a)>>=_) R E s;refine AH (Rt ⟨o,AE,AB⟩ ?_);rw[if_neg (by simp)];refine AH (Rq AE hd (An ?_));simpa using hR
 .rw[if_pos (by simp)];refine AH (MO ?_);have e:Array.filterMap id (vs.map λv=>some (g v)).toArray=(vs.map g).toArray:=by simp
  rw[e,oneTypeOnly'_eq,List.mapM_toArray,map_eq_pure_bind];refine AH (AH (AH (bx (g:=λ_=>.type T) (λv Az R hR=>?_) (An ?_))))
  .obtain⟨u,B0,rfl⟩:=List.mem_map.mp Az;exact Rt (h2 u B0) hR
  .obtain⟨v,r,rfl⟩:=List.exists_cons_of_ne_nil AR;have CF:(List.map (λ_=>Lb T) (List.map g (v::r))).toArray[0]?=some (.type T):=by simp
   rw[CF];dsimp only;rw[if_pos (by simp)];exact An (An h)
end
section
variable{prog:BR}{w:BA}{A:Bk}{E:U->AD->Prop}{s:AD}
def pv{a:Z}{vs:List U}{n:Nat}{κ:KeyKind}{kd:KA}{P:Fin->AD->Prop}(AE:s.heap.get? a=some (F_ "list" vs.toArray n))(Q_:vs.length<64)(AG:∀h':Aq,(∀b o,b≠a->s.heap.get? b=some o->h'.get? b=some o)->vs≠[]->(∀R:KA->AD->Prop,R kd { s with heap:=h' }->AU (Ai prog w) A (keyKind' vs.toArray) R E { s with heap:=h' })/\M5 prog w A { s with heap:=h' } kd κ (pairsOf vs))(h:∀t:Fl,(BH t).Perm (pairsOf vs)->G4 κ (BH t) (pairsOf vs).size->P (.done (.ret .none)) { s with heap:=sortedHeap s.heap a vs ((BH t).map (·.2)) }) :
  AU (Ai prog w) A (IN.«list.sort» ⟨[.ref a],[]⟩) P E s:=by
 rw[list_sort_plain];have A2:a<s.heap.objs.size:=Cv AE;obtain⟨A1,g1⟩:∃A1,(s.heap.update a (I1 λ_=> #[])).get? a=some (F_ "list" #[] A1):=⟨_,get?_update_seq AE (λ_=> #[])⟩;refine AH (Rq AE rfl (AH (listUpdate_at AE rfl (AH (seqEpoch_at g1 rfl (AH (wpAny_newTuple (AH (wpAny_newList (K3 ?_))))))))));have keep:∀b o,b≠a->s.heap.get? b=some o->(((s.heap.update a (I1 λ_=> #[])).push (F_ "tuple" vs.toArray 0)).push (F_ "list" #[] 0)).get? b=some o:=λb o nb e=>
  Cr _ (Cr _ (by rw[Heap.get?_update_ne _ _ _ _ nb];exact e))
 have KZ:(((s.heap.update a (I1 λ_=> #[])).push (F_ "tuple" vs.toArray 0)).push (F_ "list" #[] 0)).get? a=some (F_ "list" #[] A1):=Cr _ (Cr _ g1);show AU (Ai prog w) A _ P E { s with heap:=((s.heap.update a (I1 λ_=> #[])).push (F_ "tuple" vs.toArray 0)).push (F_ "list" #[] 0) };dsimp only;by_cases z:vs.toArray.size<2
 .rw[if_pos z,if_pos z];refine AH (An ?_);rw[StateT.run_pure];refine AH (An (AH (seqEpoch_at KZ rfl (AH (listUpdate_at KZ rfl ?_ (hsz2:=by rw[Array.size_map];show(pairsOf vs).size<=_;rw[U0,K8];lia))))));simp only[bne_self_eq_false,FZ,if_false];refine An (h (SortSt.mk' general' (vs.toArray.zip vs.toArray) #[] 7 none) (sQ _) λi j c d=>?_);have z:vs.length<2:=by simpa using z
  have:i=j:=by rw[U0]at d;lia
  subst this;exact Q0 _
 .rw[if_neg z,if_neg z];have z:¬vs.length<2:=by simpa using z
  obtain⟨k1,k2⟩:=AG _ keep (by intro e;subst e;simp at z)
  refine AH (k1 _ (AH (H9 (adw (κ:=κ) k2 (st:=SortSt.mk' kd (vs.toArray.zip vs.toArray) #[] 7 none) (Q:=λ_ t=>(BH t).Perm (pairsOf vs)/\Ry t=none/\G4 κ (BH t) (pairsOf vs).size)
   ⟨rfl,sQ _,rfl,rfl⟩ (by rw[U0];lia) (by rw[U0];exact Q_) λt a1 a2 Du=>⟨a1,a2,Du⟩) ?_ λ_ _ e=>e)))
  rintro⟨⟨⟩,t⟩ s' ⟨rfl,AW,hf,hs⟩;dsimp only;refine AH (seqEpoch_at KZ rfl (AH (listUpdate_at KZ rfl ?_ (hsz2:=by refine Eg (fz ((Array.size_map ..).trans (AW.size_eq.trans (U0 _)))) ?_;rw[K8];lia))));rw[hf];simp only[bne_self_eq_false,FZ,if_false];exact An (h t AW hs)
def af8{l:Z}{vs:List U}{κ:KeyKind}{kd:KA}{Q:U->AD->Prop}(AF:s.heap.IsList l vs.toArray)(Q_:vs.length<64)(AG:∀(h':Aq)(NX:Bk)(SE:U->AD->Prop),NX.units<=A.units+8->(∀b o,s.heap.get? b=some o->h'.get? b=some o)->vs≠[]->(∀R:KA->AD->Prop,R kd { s with heap:=h' }->AU (Ai prog w) NX (keyKind' vs.toArray) R SE { s with heap:=h' })/\M5 prog w NX { s with heap:=h' } kd κ (pairsOf vs))(h:∀t:Fl,(BH t).Perm (pairsOf vs)->G4 κ (BH t) (pairsOf vs).size->Q (.ref (s.heap.objs.size+1)) { s with heap:=sortedAll s.heap vs ((BH t).map (·.2)) }) :
  AU (Ai prog w) A (call (.builtin "sorted") [.ref l]) Q E s:=by
 refine s8 kind_sorted plain_sorted entry_sorted (args_sorted1 _) ?_;unfold IN.«sorted»;refine AH (m:=checkCount "sorted" 1 1 _) (An (AH (collect_list AF (AH (wpAny_newList ?_)))));have Aj:((s.heap.push (F_ "list" #[] 0)).update s.heap.objs.size (I1 (· ++vs.toArray))).objs.size=s.heap.objs.size+1:=by rw[Heap.size_update,size_push']
 have g:(((s.heap.push (F_ "list" #[] 0)).update s.heap.objs.size (I1 (· ++vs.toArray))).push (F_ "list" vs.toArray 0)).get? (s.heap.objs.size+1)=some (F_ "list" vs.toArray 0):=by rw[<-Aj];exact F6 _ rfl
 have keep:∀b o,s.heap.get? b=some o->(((s.heap.push (F_ "list" #[] 0)).update s.heap.objs.size (I1 (· ++vs.toArray))).push (F_ "list" vs.toArray 0)).get? b=some o:=λb o e=>
  Cr _ (by rw[Heap.get?_update_ne _ _ _ _ (ET (Cv e))];exact Cr _ e)
 show AU _ _ _ _ _ { s with heap:=((s.heap.push (F_ "list" #[] 0)).update s.heap.objs.size (I1 (· ++vs.toArray))).push (F_ "list" vs.toArray 0) };rw[Aj];refine AH (K3 (JT slot_list_sort ⟨_,g,rfl⟩ entry_list_sort (pv g Q_ (λh' k ne=>AG h' _ _ (by simp only[fY];lia) (λb o e=>k b o (λz=>absurd (z▸Cv e) (by have:=Cv e;exact λq=>absurd q (Nat.not_lt.mpr (ON _)))) (keep b o e)) ne) λt a1 a2=>⟨_,rfl,?_⟩) (args_list_sort _)))
 exact An ⟨_,rfl,h t a1 a2⟩
end
def Kf(a b:Int×Int×Int):Bool:=!ltI (Gb b) (Gb a)
def Mo(ks:List (Int×Int×Int)):List (Int×Int×Int):=ks.mergeSort Kf
def W4(ks:List (Int×Int×Int)):(Mo ks).Perm ks:=RY _ _
def w7{a b:Int×Int×Int}(h:Gb a=Gb b):a=b:=by obtain⟨a1,a2,Du⟩:=a;obtain⟨EZ,DG,Lf⟩:=b;simp only[Gb,MG,and_true]at h;simp only[Tr];exact h
def zb(a b c:Int×Int×Int)(h1:Kf a b=true)(h2:Kf b c=true):Kf a c=true:=by
 unfold Kf at*;cases e:ltI (Gb c) (Gb a)with
 |false=>rfl
 |true=>
  rcases bp _ (Gb b) _ e with z|z
  .rw[z]at h2;cases h2
  .rw[z]at h1;cases h1
def za(a b:Int×Int×Int):(Kf a b||Kf b a)=true:=by
 unfold Kf;cases e:ltI (Gb b) (Gb a)with
 |false=>rfl
 |true=>
  cases A7:ltI (Gb a) (Gb b)with
  |false=>rfl
  |true=>have:=V0 _ _ _ e A7;rw[YO]at this;cases this
def afD{ks l:List (Int×Int×Int)}(p:l.Perm ks)(h:l.Pairwise λa b=>Kf a b=true):l=Mo ks:=
 rq (le:=λa b=>Kf a b=true) (λa b _ _ h1 h2=>by unfold Kf at h1 h2;exact w7 (Uz _ _ (by simpa using h2) (by simpa using h1))) h (Wg zb za ks) (p.trans (W4 ks).symm)
section
variable{prog:BR}{w:BA}{A:Bk}{E:U->AD->Prop}{s:AD}
def af6{l:Z}{vs:List U}{ks:List (Int×Int×Int)}{Q:U->AD->Prop}(B0:A.units+64<Ce)(AF:s.heap.IsList l vs.toArray)(Q_:vs.length<64)(AR:vs.length=ks.length)(AG:∀(i:Nat) v k,vs[i]?=some v->ks[i]?=some k->IA prog w s.heap v k)(h:∀G3:List U,G3.length=vs.length->(∀(i:Nat) v k,G3[i]?=some v->(Mo ks)[i]?=some k->v∈vs/\IA prog w s.heap v k)->Q (.ref (s.heap.objs.size+1)) { s with heap:=sortedAll s.heap vs G3.toArray }) :
  AU (Ai prog w) A (call (.builtin "sorted") [.ref l]) Q E s:=by
 classical
 have all:∀v∈vs,∃k,IA prog w s.heap v k:=λv Az=>by obtain⟨i,A0,rfl⟩:=Kr Az;exact⟨_,AG i _ _ (C5 A0) (C5 (by lia))⟩
 obtain⟨HB,I4⟩:∃HB:U->Int×Int×Int,∀v∈vs,IA prog w s.heap v (HB v):=⟨λv=>if q:∃k,IA prog w s.heap v k then Th q else default,λv Az=>by have q:=all v Az;simp only[dif_pos q];exact Pg q⟩
 have bD:ks=vs.map HB:=by
  apply Wz;intro i;rw[EH];cases e:vs[i]? with
  |none=>rw[s9]at e;simp;lia
  |some v=>have A0:=(List.getElem?_eq_some_iff.mp e).1;have A7:ks[i]?=some ks[i]:=C5 (by lia);rw[A7,(AG i v _ e A7).inj (I4 v (EU e))];rfl
 have pm:∀p∈(pairsOf vs).toList,p.1=p.2/\p.1∈vs:=λp AW=>by rw[X9]at AW;exact mem_zip_self AW
 refine af8 (κ:=YF prog w s.heap) (kd:=tuples' true) AF Q_ (λh' NX SE J7 AJ ne=>⟨λR hR=>?_,⟨λt9 x y tN A5 Ao Dn=>?_⟩⟩) λt AW hs=>?_
 .have g:∀v∈vs,∃u,(∃a o m r,v=D7 a/\h'.get? a=some o/\o.cls=.type "tuple"/\o.data=.seq (u::r).toArray m)/\Rr { s with heap:=h' } u "int":=λv Az=>by
    obtain⟨a,o,m,b,t,e,AE,AB,hd,J⟩:=((I4 v Az).mono AJ).ex;exact⟨_,⟨a,o,m,[.ref b],e,AE,AB,hd⟩,U4 _ _ _⟩
  obtain⟨O5,VM⟩:∃O5:U->U,∀v∈vs,(∃a o m r,v=D7 a/\h'.get? a=some o/\o.cls=.type "tuple"/\o.data=.seq (O5 v::r).toArray m)/\Rr { s with heap:=h' } (O5 v) "int":=⟨λv=>if q:∃u,(∃a o m r,v=D7 a/\h'.get? a=some o/\o.cls=.type "tuple"/\o.data=.seq (u::r).toArray m)/\Rr { s with heap:=h' } u "int" then Th q else .none,λv Az=>by have q:=g v Az;simp only[dif_pos q];exact Pg q⟩
  exact mm (s:={ s with heap:=h' }) (g:=O5) (T:="int") ne (λv Az=>(VM v Az).1) (λv Az=>(VM v Az).2) hR
 .obtain⟨_,H8⟩:=pm x A5;obtain⟨_,EN⟩:=pm y Ao;rw[cZ (I4 _ H8),cZ (I4 _ EN)]at Dn;exact zK (s:={ s with heap:=h' }) (by lia) ((I4 _ H8).mono AJ) ((I4 _ EN).mono AJ) Dn
 .obtain⟨G3,ev⟩:∃G3:List U,G3=(BH t).toList.map (·.2):=⟨_,rfl⟩;have My:(BH t).map (·.2)=G3.toArray:=by rw[ev];apply Array.ext';simp
  have CZ:(BH t).toList.Perm (pairsOf vs).toList:=Array.perm_iff_toList_perm.mp AW;have hC:∀p∈(BH t).toList,p.1=p.2/\p.1∈vs:=λp AW=>pm p (CZ.mem_iff.mp AW);have PH:G3.Perm vs:=by
   rw[ev];have:=CZ.map (·.2);rw[X9]at this;have e:(vs.zip vs).map (·.2)=vs:=by
    have:∀l:List U,(l.zip l).map (·.2)=l:=λl=>by induction l with
     |nil=>rfl
     |cons a l Bg=>simp[Bg]
    exact this vs
   rwa [e]at this
  have ek:(G3.map HB).Pairwise λa b=>Kf a b=true:=by
   rw[sA];intro i j A0 BO VN;have li:i<(BH t).toList.length:=by rw[ev]at A0;simpa using A0
   have zi:j<(BH t).toList.length:=by rw[ev]at BO;simpa using BO
   have ed:i<(BH t).size:=by simpa using li
   have Vz:j<(BH t).size:=by simpa using zi
   have q:=hs i j (MK VN) (by rw[<-AW.size_eq];exact Vz);have Bh:∀n(AR:n<(BH t).size),KK (YF prog w s.heap) (BH t) n=Gb (HB (BH t)[n].2):=λn AR=>by have m:=hC (BH t)[n] (by simp);unfold KK;rw[JP AR];show((YF prog w s.heap).keyOf (BH t)[n].1).getD _=_;rw[cZ (I4 _ m.2),m.1];rfl
   rw[Bh i ed,Bh j Vz]at q;have q:ltI (Gb (HB (BH t)[j].2)) (Gb (HB (BH t)[i].2))=false:=q;unfold Kf;simp only[ev,fZ,fQ];rw[q];rfl
  have es:G3.map HB=Mo ks:=afD (by rw[bD];exact PH.map HB) ek;rw[My];refine h G3 PH.length_eq λi v k A1 A7=>?_;have mv:v∈vs:=PH.mem_iff.mp (EU A1);rw[<-es,EH,A1]at A7;simp at A7;exact⟨mv,by rw[<-A7];exact I4 v mv⟩
end
end LT
namespace CE
open PySem PySem.Spec PyProof.Rows
section
variable{X:AX}
def iP(a:Z)(n:Nat)(h:Aq):Prop:=∃o es B3 t,h.get? a=some o/\o.ExactSet/\o.data=.set es B3 t/\t.fits es.size=true/\es.size=n
def a7(a:Z)(n:Nat):D2:=.ext (iP a n)
def aed{P:BR}{w:BA}{H:A4}{h:Aq}{a:Z}{n:Nat}(x:iP a n h):E5 P w H h a (a7 a n):=
 ⟨x,by obtain⟨o,_,_,_,e,_⟩:=x;exact⟨o,e⟩,λh1 h2 y k=>by obtain⟨o,es,B3,t,e,r⟩:=y;exact⟨o,es,B3,t,k o e,r⟩⟩
def j0(H:A4)(ys:List V)(keys:List (List Key)):Prop:=keys.length=ys.length/\∀(i:Nat) y k,ys[i]?=some y->keys[i]?=some k->∃b,y=.ref b/\H b=some (.tup (k.map Cu))
def acg(K:AT):List V->A4->Br->Prop:=λxs H Q=>∃p ys keys,xs=[.ref p]/\Bb K H p ys/\ys.length<77/\j0 H ys keys/\∀l,H l=none->Q (.ref l) (upd H l (a7 l (G7.IG keys).length))
def th(B1:X.A.handled=none)(B0:X.A.units+64<Ce):G9 X (.type "set") (acg X.K):=by
 intro pins s σ H xs us Q I r h;obtain⟨p,ys,keys,rfl,Ac,AR,⟨AF,AG⟩,q⟩:=h;obtain⟨u,rfl,BB⟩:=vals1 r;cases BB;obtain⟨its,B2,pl,Aj⟩:=I.list Ac;have hlen:=B2.length;refine G7.jm (bv:=false) (λz=>nomatch z) (knd:=GS X.prog X.w) (items:=its.toArray) (keys:=keys) B1 B0 pl.isList (by rw[DJ];lia) (by rw[DJ];lia) (λi v Az=>?_) λh' BW T AJ=>?_
 .have Az:its[i]?=some v:=by simpa using Az
  have A0:=(List.getElem?_eq_some_iff.mp Az).1;have CV:ys[i]?=some ys[i]:=C5 (by lia);have Ck:keys[i]?=some keys[i]:=C5 (by lia);obtain⟨b,A1,A7⟩:=AG i _ _ CV Ck;obtain⟨Ig,N9,BZ⟩:=B2.get CV;rw[Az]at N9;cases N9;rw[A1]at BZ;cases BZ;exact⟨b,_,rfl,Ck,me I.BE A7⟩
 .obtain⟨o,es,B3,t,g1,g2,g3,FX,PQ,KZ,m4,QZ⟩:=T.ex;exact⟨.ref s.heap.objs.size,_,I.laid (t':=BW) AJ (By _) (aed ⟨o,es,B3,t,g1,g2,g3,FX.fits,m4⟩),rfl,q _ (I.BE.fresh (By _))⟩
def ace:List V->A4->Br->Prop:=λxs H Q=>∃a n,xs=[.ref a]/\H a=some (a7 a n)/\n<1000/\Q (.int n) H
def td:G9 X (.builtin "len") ace:=by intro pins s σ H xs us Q I r h;obtain⟨a,n,rfl,A2,AR,q⟩:=h;obtain⟨u,rfl,BB⟩:=vals1 r;cases BB;obtain⟨⟨o,es,B3,t,g1,g2,g3,FX,PQ⟩,_⟩:=(show E5 X.prog X.w H s.heap a (a7 a n)from I.BE a _ A2);subst PQ;exact call_len_set g1 g2 g3 FX (by lia) ⟨.int es.size,H,I.tok _,⟨_,rfl⟩,q⟩
def KI(H:A4)(y:V)(k:Int×Int×Int):Prop:=∃a b,y=.ref a/\H a=some (.tup [.int k.1,.ref b])/\H b=some (.tup [.int k.2.1,.int k.2.2])
def mY{pins:List (Z×Obj)}{σ :St}{H:A4}{s:AD}{y:V}{u:U}{k:Int×Int×Int}(I:Inv X pins σ H s)(r:RelV y u)(h:KI H y k):LT.IA X.prog X.w s.heap u k:=by
 obtain⟨a,b,rfl,A2,J⟩:=h;cases r;obtain⟨_,its,v1,o,AE,AB,n,hd⟩:=(show E5 X.prog X.w H s.heap a (.tup _)from I.BE a _ A2);obtain⟨_,Gn,v2,CD,Ka,Gm,C0,hd2⟩:=(show E5 X.prog X.w H s.heap b (.tup _)from I.BE b _ J);cases v1 with
 |cons H7 t1=>
  cases t1 with
  |cons H8 Fo=>
   cases Fo;obtain⟨t,rfl⟩:=H7;cases H8;cases v2 with
   |cons Dg Km=>
    cases Km with
    |cons EN TW=>cases TW;obtain⟨t1,rfl⟩:=Dg;obtain⟨Fo,rfl⟩:=EN;exact⟨a,o,n,b,t,rfl,AE,AB,hd,CD,_,C0,Ka,Gm,hd2,.cons (intKind_is _ _ _ _) (.cons (intKind_is _ _ _ _) .nil)⟩
def aci(K:AT):List V->A4->Br->Prop:=λxs H Q=>∃p ys ks,xs=[.ref p]/\Bb K H p ys/\ys.length<64/\ys.length=ks.length/\(∀(i:Nat) y k,ys[i]?=some y->ks[i]?=some k->KI H y k)/\
 ∀l zs,H l=none->zs.length=ys.length->(∀(i:Nat) z k,zs[i]?=some z->(LT.Mo ks)[i]?=some k->z∈ys/\KI H z k)->Q (.ref l) (upd H l (.lst zs))
def KI.inj{H:A4}{y:V}{k k':Int×Int×Int}(x:KI H y k)(z:KI H y k'):k=k':=by obtain⟨a,b,rfl,A2,J⟩:=x;obtain⟨F1,CT,e,O8,GL⟩:=z;cases e;rw[A2]at O8;simp only[fi,D2.tup.injEq,MG,V.int.injEq,V.ref.injEq,and_true]at O8;obtain⟨A1,rfl⟩:=O8;rw[J]at GL;simp only[fi,D2.tup.injEq,MG,V.int.injEq,and_true]at GL;obtain⟨k1,k2,k3⟩:=k;obtain⟨zE,zF,zG⟩:=k';simp only[Tr];exact⟨A1,GL⟩
theorem dx{κ:Type}{R:V->κ->Prop}:∀{vs:List U}{ks:List κ},vs.length=ks.length->(∀(i:Nat) v k,vs[i]?=some v->ks[i]?=some k->∃z,RelV z v/\R z k)->∃zs,Vals zs vs/\zs.length=vs.length/\∀(i:Nat) z k,zs[i]?=some z->ks[i]?=some k->R z k
 |[],_,_,_=>⟨[],.nil,rfl,λi z k e=>by simp at e⟩
 |v::vs,[],h,_=>by simp at h
 |v::vs,k::ks,h,g=>by
  obtain⟨z,DD,CP⟩:=g 0 v k rfl rfl;obtain⟨zs,Cp,D6,Ef⟩:=dx (vs:=vs) (ks:=ks) (by simpa using h) λi v k A1 A7=>g (i+1) v k (by simpa using A1) (by simpa using A7);refine⟨z::zs,.cons DD Cp,by simp[D6],λi Es k' A1 A7=>?_⟩;cases i with
  |zero=>simp at A1 A7;subst A1 A7;exact CP
  |succ i=>exact Ef i Es k' (by simpa using A1) (by simpa using A7)
def ti(B0:X.A.units+64<Ce):G9 X (.builtin "sorted") (aci X.K):=by
 intro pins s σ H xs us Q I r h;obtain⟨p,ys,ks,rfl,Ac,AR,AG,YQ,q⟩:=h;obtain⟨u,rfl,BB⟩:=vals1 r;cases BB;obtain⟨its,B2,pl,Aj⟩:=I.list Ac;have hlen:=B2.length;refine LT.af6 (ks:=ks) B0 pl.isList (by lia) (by lia) (λi v k A1 A7=>?_) λG3 l' g=>?_
 .obtain⟨y,CV,Bm⟩:∃y,ys[i]?=some y/\RelV y v:=by
    have A0:i<ys.length:=by rw[hlen];exact(List.getElem?_eq_some_iff.mp A1).1
    obtain⟨Ig,Bi,BZ⟩:=B2.get (C5 A0);rw[A1]at Bi;cases Bi;exact⟨_,C5 A0,BZ⟩
  exact mY I Bm (YQ i y k CV A7)
 .have back:∀v∈its,∃y∈ys,RelV y v:=λv Az=>by
    obtain⟨i,A0,rfl⟩:=Kr Az;have IU:i<ys.length:=by lia
    obtain⟨Ig,Bi,BZ⟩:=B2.get (C5 IU);rw[C5 A0]at Bi;cases Bi;exact⟨_,JU IU,BZ⟩
  have find:∀y∈ys,∃k,KI H y k:=λy Ao=>by obtain⟨j,BO,rfl⟩:=Kr Ao;exact⟨_,YQ j _ _ (C5 BO) (C5 (by lia))⟩
  obtain⟨zs,Cp,D6,Ef⟩:=dx (R:=λz k=>z∈ys/\KI H z k) (vs:=G3) (ks:=LT.Mo ks) (by rw[l',(LT.W4 ks).length_eq];lia) λi v k A1 A7=>by obtain⟨g1,g2⟩:=g i v k A1 A7;obtain⟨y,Dg,EN⟩:=back v g1;obtain⟨k',Je⟩:=find y Dg;have:=(mY I EN Je).inj g2;subst this;exact⟨y,EN,Dg,Je⟩
  obtain⟨B3,he⟩:=sortedAll_at s.heap its G3.toArray;refine⟨.ref (s.heap.objs.size+1),_,I.laid (a:=s.heap.objs.size+1) (t':=s.toks) (λb o e=>sortedAll_old e) (ON _) (show E5 X.prog X.w _ _ _ (.lst zs)from⟨by rw[K8];lia,G3,B3,Cp,he⟩),rfl,q _ zs (I.BE.fresh (ON _)) (by lia) Ef⟩
end
end CE
namespace Cj
open PySem PySem.Spec CE PyProof.Rows
section
variable{X:AX}{F:B5}{e a b c:AN}{es:List AN}{pos p:Pos}{m n:AY}{ma:Ad}
noncomputable def m_:D->Option Key
 |.int i=>some (.inl i)
 |.str x=>some (.inr x)
 |_=>none
def keysOf:List D->Option (List Key)
 |[]=>some []
 |d::ds=>match m_ d,keysOf ds with
  |some k,some ks=>some (k::ks)
  |_,_=>none
def rT:D->Option (List Key)
 |.tup ds=>keysOf ds
 |_=>none
def Qw:List D->Option (List (List Key))
 |[]=>some []
 |d::ds=>match rT d,Qw ds with
  |some k,some ks=>some (k::ks)
  |_,_=>none
def Uw:List D->R D
 |[.lst ds]=>if ds.length<77 then match Qw ds with
  |some ks=>.ok (.int (G7.IG ks).length)
  |none=>.bad
  else .bad
 |_=>.bad
theorem mh{K:AT}{G:A4}:∀{ds:List D}{ks:List Key}{xs:List V},keysOf ds=some ks->AP K G ds xs->xs=ks.map Cu
 |[],ks,xs,e,h=>by simp only[keysOf]at e;cases e;simp only[AP]at h;subst h;rfl
 |d::ds,ks,xs,e,h=>by
  simp only[keysOf]at e
  split at e
  .rename_i k Ey A1 A7;cases e;simp only[AP]at h;obtain⟨v,r,rfl,a1,a2⟩:=h;rw[mh A7 a2,DP];cases d<;>simp only[m_]at A1<;>first|(cases A1;done)|(cases A1;simp only[At]at a1;subst a1;rfl)
  .cases e
theorem qd{K:AT}{G:A4}:∀{ds:List D}{ks:List (List Key)}{xs:List V},Qw ds=some ks->AP K G ds xs->j0 G xs ks
 |[],ks,xs,e,h=>by simp only[Qw]at e;cases e;simp only[AP]at h;subst h;exact⟨rfl,λi y k A1=>by simp at A1⟩
 |d::ds,ks,xs,e,h=>by
  simp only[Qw]at e
  split at e
  .rename_i k Ey A1 A7;cases e;simp only[AP]at h;obtain⟨v,r,rfl,a1,a2⟩:=h;obtain⟨E7,Cm⟩:=qd A7 a2;refine⟨by simp[E7],λi y k' A_ B4=>?_⟩;cases i with
   |succ i=>exact Cm i y k' (by simpa using A_) (by simpa using B4)
   |zero=>
    simp at A_ B4;subst A_ B4;cases d<;>simp only[rT]at A1<;>first|(cases A1;done)|skip
    simp only[At]at a1;obtain⟨b,ys,rfl,g,q⟩:=a1;exact⟨b,rfl,by rw[g,mh A1 q]⟩
  .cases e
def agR{JI pos':Pos}(B1:X.A.handled=none)(B0:X.A.units+64<Ce)(hm:X.AA "len"=none)(K_:X.AA "set"=none)(A2:Ew X F [e] ma)(Ag:F.K=X.K:=by rfl)(AQ:DK X "len":=by rfl)(Qf:DK X "set":=by rfl)(hs:Aw [.Call (.Name "set" JI) [e] [] pos'] X.env=(false,BC (.Call (.Name "set" JI) [e] [] pos') X.env)::Aw [] X.env:=by rfl)(he:Aw [e] X.env=(false,BC e X.env)::Aw [] X.env:=by rfl)(D0:(CW pos (Aw [] X.env)).any (·.1)=false:=by rfl)(aT:(CW pos' (Aw [] X.env)).any (·.1)=false:=by rfl) :
  Ax X F (.Call (.Name "len" p) [.Call (.Name "set" JI) [e] [] pos'] [] pos) (Cg Uw ma):=by
 refine⟨Al.imp (Vo td AQ hm PySem.boot_len (Jl (ZT (th B1 B0) Qf K_ (by kernel_rfl) A2.1 (by decide) (by decide) he aT) LO hs) (by decide) (by decide) hs D0) ?_⟩;rintro σ H Q ⟨G,ρ,r,h⟩;unfold Cg at h;refine⟨G,ρ,r,?_⟩;refine rb h λds Aa h vs H1 AV A6 s1 a=>?_;unfold Uw at h
 split at h
 .split at h
  .split at h
   .rename_i ks Ck;obtain⟨v,rfl,Au⟩:=a.one;simp only[At]at Au;obtain⟨q,xs,rfl,Ac,EY⟩:=Au;have kt:=qd Ck EY;have AF:=EY.length;refine⟨q,xs,ks,rfl,Bb.of (A6.AJ.sub _ _ Ac),by lia,⟨kt.1,λi y k A1 A7=>?_⟩,λl GN=>?_⟩
    .obtain⟨b,B7,wJ⟩:=kt.2 i y k A1 A7;exact⟨b,B7,A6.AJ.sub _ _ wJ⟩
    .have:=G7.gz ks;have:=kt.1;refine⟨l,_,rfl,DO,by lia,?_⟩;exact h _ _ AV (A6.lay0 GN) (s1.trans (Bn.lay0 GN)) (by simp only[At])
   .exact h.elim
  .exact h.elim
 .exact h.elim
def V7(i:Nat)(m:AY):Cz:=λρ=>(ownAt i ρ).bind λds=>(m ρ).bind λd=>match d with
 |.lst es=>if ds.length+es.length<=1000000 then .ok (.non,ρ.set i (.BQ (ds++es)))else .bad
 |_=>.bad
def ah2 (i:Nat) {x:Str} {D5:Pos} {apos:Pos} {Ba:Pos} (he:Ax X F e m) (hN:X.N[i]?=some x:=by rfl) (Az:Gx X.env.scope x:=by first|exact DX rfl|exact CY (DX rfl)|exact CY (CY rfl)) (hd:(x==("__debug__" :Str))=false:=by decide) (Dh:(x==("__classdict__" :Str))=false:=by decide)(HV:Ik (.Name x D5) "extend" X.env (BC (.Name x D5) X.env)=BC (.Name x D5) X.env:=by rfl) (HX:(apos.endLine==Ba.line)=true:=by rfl)(HW:((CW Ba (Aw [e] X.env)).all (λx=>!x.1)&&(He Ba (Hd [] X.env)).all (λx=>x.1.isSome)
    &&decide (([e]:List AN).length+([]:List FS).length+(if([]:List FS).isEmpty then 0 else 1)<30))=true:=by rfl)
  (hs:Aw [e] X.env=(false,BC e X.env)::Aw [] X.env:=by rfl) (HY:(CW Ba (Aw [] X.env)).any (·.1)=false:=by rfl) :
  GD X F (.Call (.Attribute (.Name x D5) "extend" apos) [e] [] Ba) (V7 i m):=by
 refine⟨Al.imp (PF Rb PySem.F.slot_list_extend PySem.F.type_list_extend aax (HG hN Az hd Dh) (Jl he.1 LO hs) HV HW HX hs HY) ?_⟩;rintro σ H Q ⟨G,ρ,r,h⟩;unfold V7 ownAt at h;cases CO:ρ[i]? with
 |none=>rw[CO]at h;cases h
 |some s=>
  rw[CO]at h;cases s with
  |un=>cases h
  |AI _=>cases h
  |DF _=>cases h
  |D4 _ _=>cases h
  |ob ob=>
   cases ob with
   |BN _ _=>cases h
   |ins _ _ _=>cases h
   |lst ds=>
    obtain⟨q,xs,A1,h1,h2,h3,h4⟩:=r.own CO;rw[R.DH]at h;refine⟨.ref q,A1,.inl ⟨rfl,xs,Bb.of h1⟩,G,ρ,r,?_⟩;refine rb h λd Aa h v H1 AV A6 s1 Au=>?_;obtain⟨D_,ES,GI,II,PS,TB,Jb⟩:=A6.own CO;rw[A1]at GI;cases GI;cases d with
    |lst es=>
     simp only at h
     split at h
     .rename_i AF;simp only[At]at Au;obtain⟨CB,ys,rfl,g2,B4⟩:=Au;refine⟨q,CB,ES,ys,rfl,rfl,II,A6.AJ.sub _ _ g2,by rw[<-Jb.length,<-B4.length,K8];lia,?_⟩;exact h .non _ AV (A6.mut CO A1 (Jb.append B4)) s1.g (by simp only[At])
     .exact h.elim
    |_=>cases h
def ajR(i:Nat)(m n:AY):Cz:=λρ=>(ownAt i ρ).bind λds=>(m ρ).bind λd=>(n ρ).bind λy=>match d with
 |.int k=>if 0<=k/\k<2^63/\ds.length<1000000 then .ok (.non,ρ.set i (.BQ (ds.take (min k.toNat ds.length)++y::ds.drop (min k.toNat ds.length))))else .bad
 |_=>.bad
noncomputable def S9(k:Int×Int×Int):D:=.tup [.int k.1,.tup [.int k.2.1,.int k.2.2]]
noncomputable def cS:D->Option (Int×Int×Int)
 |.tup [.int n,.tup [.int h,.int d]]=>some (n,h,d)
 |_=>none
def QC:List D->Option (List (Int×Int×Int))
 |[]=>some []
 |d::ds=>match cS d,QC ds with
  |some k,some ks=>some (k::ks)
  |_,_=>none
def W1:List D->R (List D)
 |[.lst ds]=>if ds.length<64 then match QC ds with
  |some ks=>.ok ((LT.Mo ks).map S9)
  |none=>.bad
  else .bad
 |_=>.bad
def Zj(m:Ad):Ad:=λρ=>(m ρ).bind W1
def yi{d:D}{k:Int×Int×Int}(h:cS d=some k):d=S9 k:=by
 unfold cS at h
 split at h
 .cases h;rfl
 .cases h
def jK{K:AT}{G:A4}{v:V}{k:Int×Int×Int}:At K G (S9 k) v↔KI G v k:=by
 unfold S9 KI;simp only[At,AP];constructor
 .rintro⟨a,xs,rfl,g,v1,A6,rfl,rfl,v2,AZ,rfl,⟨b,ys,rfl,g2,Cp,s1,rfl,rfl,D6,s2,rfl,rfl,rfl⟩,rfl⟩;exact⟨a,b,rfl,g,g2⟩
 .rintro⟨a,b,rfl,g,g2⟩;exact⟨a,_,rfl,g,_,_,rfl,rfl,_,_,rfl,⟨b,_,rfl,g2,_,_,rfl,rfl,_,_,rfl,rfl,rfl⟩,rfl⟩
theorem mW:∀{ds:List D}{ks:List (Int×Int×Int)},QC ds=some ks->ds=ks.map S9
 |[],ks,h=>by simp only[QC]at h;cases h;rfl
 |d::ds,ks,h=>by
  simp only[QC]at h
  split at h
  .rename_i k Ey A1 A7;cases h;rw[yi A1,mW A7];rfl
  .cases h
theorem iA{K:AT}{G:A4}:∀{ds:List D}{xs:List V},xs.length=ds.length->(∀(i:Nat) x d,xs[i]?=some x->ds[i]?=some d->At K G d x)->AP K G ds xs
 |[],[],_,_=>.nil
 |[],_::_,h,_=>by simp at h
 |_::_,[],h,_=>by simp at h
 |d::ds,x::xs,h,g=>.cons (g 0 x d rfl rfl) (iA (by simpa using h) λi x d A1 A7=>g (i+1) x d (by simpa using A1) (by simpa using A7))
def ai4(B0:X.A.units+64<Ce)(hm:X.AA "sorted"=none)(A2:Ew X F [e] ma)(Ag:F.K=X.K:=by rfl)(AQ:DK X "sorted":=by rfl)(he:Aw [e] X.env=(false,BC e X.env)::Aw [] X.env:=by rfl)(D0:(CW pos (Aw [] X.env)).any (·.1)=false:=by rfl) :
  J1 X F (.Call (.Name "sorted" p) [e] [] pos) (Zj ma):=by
 refine⟨Al.imp (Vo (ti B0) AQ hm (by kernel_rfl) A2.1 (by decide) (by decide) he D0) ?_⟩;rintro σ H Q ⟨G,ρ,r,h⟩;unfold Zj at h;refine⟨G,ρ,r,?_⟩;refine rb h λds Aa h vs H1 AV A6 s1 a=>?_;unfold W1 at h
 split at h
 .split at h
  .split at h
   .rename_i ks Ck;obtain⟨v,rfl,Au⟩:=a.one;simp only[At]at Au;obtain⟨q,xs,rfl,Ac,EY⟩:=Au;have hd:=mW Ck;subst hd;have AF:=EY.length;rw[Eh]at AF;have ml:∀(i:Nat) y k,xs[i]?=some y->ks[i]?=some k->KI AV y k:=λi y k A1 A7=>by
     obtain⟨LU,B8,D9⟩:=EY.get (i:=i) (d:=S9 k) (by rw[EH,A7];rfl);rw[A1]at B8;cases B8;exact jK.mp D9
    have up:∀{y k},KI AV y k->KI H1 y k:=λ⟨a,b,e,g1,g2⟩=>⟨a,b,e,A6.AJ.sub _ _ g1,A6.AJ.sub _ _ g2⟩;rename_i _ DI;rw[Eh]at DI;refine⟨q,xs,ks,rfl,Bb.of (A6.AJ.sub _ _ Ac),by lia,by lia,λi y k A1 A7=>up (ml i y k A1 A7),λl zs GN Aj AQ=>?_⟩;have Yk:(LT.Mo ks).length=ks.length:=(LT.W4 ks).length_eq;refine h l zs _ AV (A6.lay0 GN) (s1.trans (Bn.lay0 GN)) (s1.h.gone GN) DO (A6.AJ.sub.gone GN) (iA (by rw[Eh];lia) λi z d A1 A7=>?_);rw[EH]at A7;cases B8:(LT.Mo ks)[i]? with
    |none=>rw[B8]at A7;cases A7
    |some k=>rw[B8]at A7;cases A7;obtain⟨m1,m2⟩:=AQ i z k A1 B8;obtain⟨j,BO,rfl⟩:=Kr m1;have g1:=ml j _ _ (C5 BO) (C5 (by lia));rw[(up g1).inj m2]at g1;exact jK.mpr g1
   .exact h.elim
  .exact h.elim
 .exact h.elim
end
section
variable{X:AX}{F:B5}{e a b c:AN}{es:List AN}{pos p:Pos}{m n:AY}{ma:Ad}
def putN(i:Nat)(ρ:A8)(ds:List D)(v:D):Option Nat->R FK
 |some j=>.ok (.BK (ρ.set i (.BQ (ds.set j v))))
 |none=>.bad
def putK(i:Nat)(ρ:A8)(ds:List D)(v:D):D->R FK
 |.int j=>putN i ρ ds v (JC ds.length j)
 |_=>.bad
def gT(i:Nat)(ρ:A8)(Ap:List T)(m:AY):Option Nat->R FK
 |some j=>match Ap[j]? with
  |some (.lst us)=>(m ρ).bind λd=>if us.length<1000000 then .ok (.BK (ρ.set i (.DF (.lst (Ap.set j (.lst (us++[.AI d])))))))else .bad
  |_=>.bad
 |none=>.bad
def UN(i:Nat)(ρ:A8)(Ap:List T)(m:AY):D->R FK
 |.int j=>gT i ρ Ap m (JC Ap.length j)
 |_=>.bad
def Za(i:Nat)(mk m:AY):B6:=λρ=>(Nu i ρ).bind λAp=>(mk ρ).bind λk=>UN i ρ Ap m k
def ahN (i:Nat) {x:Str} {D5 Z_ pos':Pos} {apos Ba:Pos} {k:AN} {mk:AY} (AG:Ax X F k mk) (xR:UH k) (he:Ax X F e m) (hN:X.N[i]?=some x:=by rfl) (Az:Gx X.env.scope x:=by first|exact DX rfl|exact CY (DX rfl)|exact CY (CY rfl)) (hd:(x==("__debug__" :Str))=false:=by decide) (Dh:(x==("__classdict__" :Str))=false:=by decide)(HV:Ik (.Subscript (.Name x D5) k pos') "append" X.env (BC (.Subscript (.Name x D5) k pos') X.env)=BC (.Subscript (.Name x D5) k pos') X.env:=by rfl) (HX:(apos.endLine==Ba.line)=true:=by rfl)(HW:((CW Ba (Aw [e] X.env)).all (λx=>!x.1)&&(He Ba (Hd [] X.env)).all (λx=>x.1.isSome)
    &&decide (([e]:List AN).length+([]:List FS).length+(if([]:List FS).isEmpty then 0 else 1)<30))=true:=by rfl)
  (hs:Aw [e] X.env=(false,BC e X.env)::Aw [] X.env:=by rfl) (HY:(CW Ba (Aw [] X.env)).any (·.1)=false:=by rfl) :
  ED X F (.Expr (.Call (.Attribute (.Subscript (.Name x D5) k pos') "append" apos) [e] [] Ba) Z_) (Za i mk m):=by
 refine⟨Cf.imp (Vu (PF Rb f9 fA Zw (Vp Us (HG hN Az hd Dh) AG.1 xR) (Jl he.1 LO hs) HV HW HX hs HY) (M1 _ _ _ _ rfl)) ?_⟩;rintro Bw σ H ⟨G,ρ,r,h⟩;unfold Za at h;cases CO:Nu i ρ with
 |bad=>rw[CO]at h;cases h
 |exc c=>exact(afq CO).elim
 |ok Ap=>
  rw[CO,R.DH]at h;have CF:=afr CO;obtain⟨a,xs,A1,A2,wl,Cb⟩:=r.root CF;refine⟨.ref a,A1,G,ρ,r,?_⟩;refine rb h λkd Ck h w H1 AV A6 s1 L4=>?_;cases kd with
  |int j=>
   simp only[UN]at h;simp only[At]at L4;cases E6:JC Ap.length j with
   |none=>rw[E6]at h;cases h
   |some n=>
    rw[E6]at h;simp only[gT]at h;obtain⟨F1,ES,GI,O8,aR,T0⟩:=A6.root CF;rw[A1]at GI;cases GI;cases O4:Ap[n]? with
    |none=>rw[O4]at h;cases h
    |some t=>
     rw[O4]at h;cases t with
     |AI _=>cases h
     |DM _ _=>cases h
     |BN _ _=>cases h
     |ins _ _ _=>cases h
     |lst us=>
      simp only at h;obtain⟨v,ev,r2⟩:=eI aR O4;simp only[C9]at r2;obtain⟨q,ys,rfl,Ac,alQ⟩:=r2;have ue:Fx ES j=some (.ref q):=by unfold Fx;rw[<-aR.length,E6];exact ev
      refine .inl ⟨a,ES,j,.ref q,rfl,L4,Bb.of O8,ue,.inl ⟨rfl,ys,Bb.of Ac⟩,AV,ρ,A6,?_⟩;refine rb h λd em h u Ab Bl AZ s2 sT=>?_;by_cases aa:us.length<1000000
      .rw[if_pos aa]at h;obtain⟨GE,ai9,D9,lH,afF,ajV⟩:=AZ.root CF;rw[A1]at D9;cases D9;have wm:ai9=ES:=by
        have:=s2.h _ _ O8;rw[lH]at this;cases this;rfl
       subst wm;have aU:Ab q=some (.lst ys):=s2.h _ _ Ac;obtain⟨aks,kg,qV⟩:=eI afF O4;rw[ev]at kg;cases kg;simp only[C9]at qV;obtain⟨LP,alS,WV,l0,qW⟩:=qV;cases WV;rw[aU]at l0;cases l0;obtain⟨DW,CB⟩:=qW.append (us:=[T.AI d]) (ws:=[u]) (.cons (by simp only[C9];exact sT) .nil);have Vn:Ca Ab [T.AI d] [u]=[]:=by rw[Ho,PO];simp only[Ae,K0]
       rw[Vn,K0]at CB;have Ia:=AZ.ab2 CF A1 lH O4 ev aU DW CB;exact⟨q,ys,u,rfl,rfl,aU,by rw[<-qW.length];exact L_ aa (by decide),h _ Bl _ Ia (s1.trans s2).g⟩
      .rw[if_neg aa]at h;cases h
  |_=>cases h
def ahk(i:Nat){x:Str}{p:Pos}(hN:X.N.Nodup)(he:J1 X F e ma)(A0:X.N[i]?=some x:=by rfl)(A5:Loc X.env.scope x:=by first|exact DX rfl|exact CY rfl)(hs:Kw e (some (.Name x p)) pos.line X.env=pure false:=by rfl)(hf:X.fn x=true\/X.env.scope.names.lookup x=some .local:=by first|exact .inl rfl|exact .inr rfl):ED X F (.Assign [.Name x p] e pos) (G1 i ma):=⟨Cf.imp (SW hN A0 A5 he.1 hs hf) cI⟩
end
section
variable{P:BR}{w:BA}{K:AT}{AA:Str->Option U}{base:Aq}{N:List Str}{qual:Str}{scope:DT}{f:Z}{cd:U}{A:Bk}{outer:List Env}{s0:AD}{Fa:A4}{E:CS}{BD Ak:A4}
end
section
variable{X:AX}{F:B5}{e:AN}{es:List AN}{pos p:Pos}{ma:Ad}
end
section
variable{X:AX}{F:B5}{e:AN}{pos p:Pos}{m n:AY}{ma:Ad}
end
end Cj
namespace CE
open PySem PySem.Spec PyProof.Rows
section
variable{X:AX}{i j:Nat}{x n y:Str}{W:Z}{e:AN}{te:TE}{E:CS}{uK:BG}{aeb:List BG}{Ap:Ei}{abY np AW pos py:Pos}
end
end CE
namespace Cj
open PySem PySem.Spec CE PyProof.Rows
section
variable{X:AX}{F:B5}{pos:Pos}
end
section
variable{X:AX}{F:B5}{a b:AN}{pos p:Pos}{m n:AY}{ma:Ad}
end
section
variable{X:AX}{F:B5}{e:AN}{es:List AN}{pos p:Pos}{ma:Ad}
end
end Cj
namespace LT
open PySem PyProof.Rows
section
variable{prog:BR}{w:BA}{A:Bk}{E:U->AD->Prop}{s:AD}{Bs:Array JX}{κ:KeyKind}{kd:KA}
end
section
variable{prog:BR}{w:BA}{A:Bk}{E:U->AD->Prop}{s:AD}{es:Array DictEntry}
end
section
variable{prog:BR}{w:BA}{A:Bk}{E:U->AD->Prop}{s:AD}
end
end LT
namespace CE
open PySem PySem.Spec PyProof.Rows
section
variable{X:AX}
end
end CE
namespace Cj
open PySem PySem.Spec CE PyProof.Rows
section
variable{X:AX}{F:B5}{e a b c:AN}{es:List AN}{pos p:Pos}{m n:AY}{ma:Ad}
noncomputable def J2(G H:A4):A4:=λb=>match H b with
 |some (.tup xs)=>some (.tup xs)
 |_=>G b
def sv{G H:A4}{b:Z}{xs:List V}(e:H b=some (.tup xs)):J2 G H b=some (.tup xs):=by unfold J2;rw[e]
def i_{G H:A4}{b:Z}(h:FT H b):J2 G H b=G b:=by
 unfold J2
 split
 .rename_i xs e;exact absurd e (h.2 xs)
 .rfl
def iZ{G H:A4}(s:Sub G H):Sub G (J2 G H):=λb o e=>by
 unfold J2
 split
 .rename_i xs z;rw[s b o e]at z;rw[z]
 .exact e
def su{G H:A4}(s:Sub G H):Sub (J2 G H) H:=λb o e=>by
 unfold J2 at e
 split at e
 .rename_i xs z;rw[z];exact e
 .exact s b o e
theorem Rel.J2{G H:A4}{σ :CE.St}{ρ:A8}(r:Rel F G H σ ρ):Rel F (J2 G H) H σ ρ:=r.grow (iZ r.AJ.sub) (su r.AJ.sub) (Sub.refl _) λb h=>i_ h
theorem Bn.J2{G H:A4}(s:Sub G H):Bn G H (J2 G H) H:=⟨iZ s,Sub.refl _,λb h=>i_ h⟩
end
end Cj
namespace LT
open PySem PyProof.Rows
def uq:entryFor table "set.__iter__"=some IN.«frozenset.__iter__»:=entryFor_alias (id':="frozenset.__iter__") (by kernel_rfl) (by kernel_rfl) (by decide+kernel) (by kernel_rfl)
def jB:entryFor table "set_iterator.__next__"=some IN.«set_iterator.__next__»:=entryFor_of_tree (by kernel_rfl)
def S_:Slot "set_iterator" (NJ "__next__") "set_iterator.__next__":=Slot.of (owner:="set_iterator") (n:="__next__") (by rw[gC,fN];kernel_rfl) (by decide+kernel) (by decide+kernel) (by decide+kernel) (.inl (by kernel_rfl)) (by rw[gH];kernel_rfl)
def ic(a:U):argsOk "set_iterator.__next__" { pos:=[a] }:=by kernel_rfl
noncomputable abbrev S1(w:BA):Bool:=w.params.followText "set-order"
structure ID(w:BA)(h:Aq)(d:Z)(es:Array (Int×U))(B3:Nat)(t:E0):Prop where
 ex:∃o,h.get? d=some o/\o.ExactSet/\o.data=.set es B3 t
 fits:t.fits es.size=true
 plain:t.plain=true
 sorted:t.place.toList.Pairwise (· <·)
 led:t.led=!S1 w
def ID.at{w:BA}{h h':Aq}{d:Z}{es:Array (Int×U)}{B3:Nat}{t:E0}(x:ID w h d es B3 t)(e:∀o,h.get? d=some o->h'.get? d=some o):ID w h' d es B3 t:=
 ⟨let⟨o,AE,r⟩:=x.ex;⟨o,e _ AE,r⟩,x.fits,x.plain,x.sorted,x.led⟩
def ID.typeIs{w:BA}{s:AD}{d:Z}{es:Array (Int×U)}{B3:Nat}{t:E0}(x:ID w s.heap d es B3 t):s.TypeIs (.ref d) "set":=let⟨o,AE,c,_⟩:=x.ex;⟨o,AE,c.1⟩
def Kn(w:BA)(d:Z)(B3:Nat)(es:Array (Int×U)):Array (Int×U):=if S1 w=true then pickOrder (w.params.setOrder d B3) es else es
theorem p7{α:Type}(next:Nat->Nat):∀(n a:Nat)(l:List α)(acc:Array α),l.length=n->(pickOrder.go next n a l acc).toList.Perm (acc.toList++l)
 |0,a,l,acc,h=>by have:l=[]:=W_ h;subst this;simp[pickOrder.go]
 |n+1,a,l,acc,h=>by
  rw[pickOrder.go.eq_2];have AF:next a%l.length<l.length:=XB _ (by lia);rw[C5 AF];dsimp only;refine(p7 next n (a+1) _ _ (by rw[List.length_eraseIdx_of_lt AF];lia)).trans ?_;rw[Array.toList_push,RW];refine List.Perm.append_left _ ?_;generalize next a%l.length=k at AF |-;rw[f7];have e:l=l.take k++l[k]::l.drop (k+1):=by rw[List.getElem_cons_drop,Rf]
  conv=>rhs;rw[e]
  show(l[k]::(l.take k++l.drop (k+1))).Perm _;exact List.perm_middle.symm
def qx(w:BA)(d:Z)(B3:Nat)(es:Array (Int×U)):(Kn w d B3 es).toList.Perm es.toList:=by
 unfold Kn
 split
 .have:=p7 (w.params.setOrder d B3) es.size 0 es.toList #[] (by simp);simpa[pickOrder]using this
 .exact g0 _
def aN(w:BA)(d:Z)(B3:Nat)(es:Array (Int×U)):(Kn w d B3 es).size=es.size:=by have:=(qx w d B3 es).length_eq;simpa using this
def below_at{xs:Array Nat}(hs:xs.toList.Pairwise (· <·)){i:Nat}(A0:i<xs.size):Tw xs (xs[i]+1)=i+1:=by
 obtain⟨EZ,DG,Lf⟩:=G7.Xc hs (xs[i]+1);have p:=List.pairwise_iff_getElem.mp hs;generalize Tw xs (xs[i]+1)=k at EZ DG Lf;have IU:i<xs.toList.length:=by simpa using A0
 by_cases h1:k<=i
 .have m:xs[i]∈xs.toList.drop k:=by
    rw[fR];exact⟨i-k,by simp;lia,by simp[List.getElem_drop,show k+(i-k)=i by lia]⟩
  have:=Lf _ m;lia
 .by_cases h2:i+1<k
  .have m:xs.toList[i+1]'(by simp;lia)∈xs.toList.take k:=by
     rw[fR];exact⟨i+1,by simp;lia,by simp[List.getElem_take]⟩
   have q:=DG _ m;have:=p i (i+1) IU (by simp;lia) (by lia);simp at q this;lia
  .lia
def sY{xs:Array Nat}(hs:xs.toList.Pairwise (· <·)):Tw xs 0=0:=by
 obtain⟨EZ,DG,Lf⟩:=G7.Xc hs 0;generalize Tw xs 0=k at EZ DG Lf;cases k with
 |zero=>rfl
 |succ k=>
  have m:xs.toList[0]'(by simp;lia)∈xs.toList.take (k+1):=by rw[fR];exact⟨0,by simp;lia,by simp⟩
  exact absurd (DG _ m) (Te _)
def MA(h:Aq)(it d:Z)(i n B3:Nat)(slot:Nat):Prop:=∃o,h.get? it=some o/\o.cls=.type "set_iterator"/\o.data=.fields #[.int slot 0,.int i 0,.ref d,.int n 0,.int B3 0]
def MA.typeIs{s:AD}{it d:Z}{i n B3 slot:Nat}(x:MA s.heap it d i n B3 slot):s.TypeIs (.ref it) "set_iterator":=let⟨o,AE,c,_⟩:=x;⟨o,AE,c⟩
def MA.at{h h':Aq}{it d:Z}{i n B3 slot:Nat}(x:MA h it d i n B3 slot)(e:∀o,h.get? it=some o->h'.get? it=some o):MA h' it d i n B3 slot:=let⟨o,AE,r⟩:=x;⟨o,e _ AE,r⟩
section
variable{prog:BR}{w:BA}{A:Bk}{E:U->AD->Prop}{s:AD}{es:Array (Int×U)}{t:E0}
def hZ{Q:Bool->AD->Prop}(h:Q (S1 w) s):AU (Ai prog w) A setsByText Q E s:=by unfold setsByText;exact AH (fm (An h))
def vL{d:Z}{B3:Nat}{Q:Bool->AD->Prop}(hm:ID w s.heap d es B3 t)(h:Q false s):AU (Ai prog w) A (setDrawn d) Q E s:=by
 obtain⟨o,AE,AB,hd⟩:=hm.ex;unfold setDrawn;refine AH (OK AE hd hm.fits ?_);dsimp only;refine AH (hZ (An ?_));have e:∀b:Bool,(!b&&(!t.plain&&decide (es.size>1)))=false:=by simp[hm.plain]
 show Q (!_&&(!t.plain&&decide (es.size>1))) s;rw[e];exact h
theorem adF{d:Z}{B3:Nat}{Q:U->AD->Prop}(hm:ID w s.heap d es B3 t)(Dn:Q (.ref s.heap.objs.size) { s with heap:=s.heap.push { cls:=.type "set_iterator",data:=.fields #[.int 0 0,.int 0 0,.ref d,.int es.size 0,.int B3 0] } }) :
  AU (Ai prog w) A (pyIter (.ref d)) Q E s:=by
 have Do:s.TypeIs (.ref d) "set":=hm.typeIs;obtain⟨o,AE,AB,lL⟩:=hm.ex;refine wpAny_pyIter_slot Do F.slot_set_iter (JT F.slot_set_iter Do uq ?_ (F.args_set_iter_1 _));unfold IN.«frozenset.__iter__»;refine AH ?_;unfold Builtin.Frozenset.slot0;refine AH ?_;show AU _ _ (pure (D7 d,([]:List U))) _ _ s;refine An ?_;show AU _ _ (pure d) _ _ s;refine An ?_;unfold Builtin.Frozenset.sizeOf;refine AH (AH (fK AE lL hm.fits (An ?_)));refine AH (vL hm ?_);dsimp only;rw[if_neg Hy];refine AH (An ?_);refine AH (wpAny_setEpoch_of AE lL hm.fits ?_);unfold newFields;refine AH (Ks (An ⟨_,rfl,"set_iterator",_,⟨_,F6 _ rfl,rfl⟩,S_.lookup,?_⟩));simpa[Le]using Dn
def Spot(w:BA)(t:E0)(i slot:Nat):Prop:=S1 w=false->Tw t.place slot=i
def pi{d:Z}{i B3 slot:Nat}{Q:Option (U×Nat)->AD->Prop}(hm:ID w s.heap d es B3 t)(AW:Spot w t i slot)(h:∀Mn,(i<es.size->Spot w t (i+1) Mn)->Q ((Kn w d B3 es)[i]?.map λe=>(e.2,Mn)) s):AU (Ai prog w) A (setNext d slot i B3) Q E s:=by
 obtain⟨o,AE,AB,hd⟩:=hm.ex;unfold setNext;refine AH (OK AE hd hm.fits ?_);dsimp only;refine AH (hZ ?_);by_cases b:S1 w=true
 .rw[if_pos b];rw[if_neg (by simp)];refine AH ?_;unfold setWalk;refine AH (OK AE hd hm.fits ?_);dsimp only;refine AH (hZ ?_);rw[if_pos b];refine AH (fm (An (An ?_)));have:=h slot λ_ z=>by rw[b]at z;cases z
  unfold Kn at this;rw[if_pos b]at this;exact this
 .have CT:S1 w=false:=by simpa using b
  have AF:t.led=true:=by rw[hm.led,CT];rfl
  rw[if_neg b];have A1:¬((!t.plain&&decide (es.size>1))=true):=by simp[hm.plain]
  refine(show AU (Ai prog w) A (if(!t.plain&&decide (es.size>1))=true then _ else _) Q E s from ?_);rw[if_neg A1];refine AH ?_;have A7:¬((!t.led&&!es.isEmpty)=true):=by simp[AF]
  refine(show AU (Ai prog w) A (if(!t.led&&!es.isEmpty)=true then _ else pure ()) _ E s from ?_);rw[if_neg A7];refine An (An ?_);have J:=AW CT;rw[J];have Aj:t.place.size=es.size:=by have:=hm.fits;unfold SetTable.fits at this;simp at this;exact this.1
  by_cases A0:i<es.size
  .have:=h (t.place[i]+1) λ_ _=>below_at hm.sorted (by lia);unfold Kn at this;rw[if_neg b]at this;rw[JP A0]at this |-;rw[JP (show i<t.place.size by lia)];exact this
  .have:=h 0 λz=>absurd z A0;unfold Kn at this;rw[if_neg b]at this;rw[rp (by lia)]at this |-;exact this
def adM{it d:Z}{i B3 slot:Nat}{Q:Option U->AD->Prop}(hit:MA s.heap it d i es.size B3 slot)(AW:Spot w t i slot)(hm:ID w s.heap d es B3 t)(DI:i<es.size)(Dn:∀h' Mn v,(Kn w d B3 es)[i]?.map (·.2)=some v->Spot w t (i+1) Mn->MA h' it d (i+1) es.size B3 Mn->IL it s.heap h'->Q (some v) { s with heap:=h' }) :
  AU (Ai prog w) A (KF (.ref it)) Q E s:=by
 obtain⟨o,AE,AB,hd⟩:=id hit;obtain⟨DN,b7,Dh,ax⟩:=hm.ex;unfold KF
 refine AH (Ts (Pk (name:=NJ "__next__") hit.typeIs S_
  (JT S_ hit.typeIs jB ?_ (ic _))))
 unfold IN.«set_iterator.__next__»;refine AH ?_;show AU _ _ (pure (D7 it,([]:List U))) _ _ s;refine An ?_;dsimp only;refine AH (wpAny_fieldsOf AE hd ?_);dsimp only;refine AH (fK b7 ax hm.fits ?_);rw[if_neg (by simp)];refine AH (pi hm (by simpa using AW) λMn hs=>?_);have qX:i<(Kn w d B3 es).size:=by rw[aN];exact DI
 simp only[RV];rw[JP qX];simp only[gA];refine AH (Tv AE hd (by simp) ?_);have g1:(s.heap.update it (Obj.mapFields (·.setIfInBounds 0 (Le (Mn:Int))))).get? it=some _:=Pf _ AE (fM (R_ hd _));have d1:=R_ hd (·.setIfInBounds 0 (Le (Mn:Int)));refine AH (Tv g1 d1 (by simp) ?_);have g2:=Pf (Obj.mapFields (·.setIfInBounds 1 (Le ((i:Int)+1)))) g1 (fM (R_ d1 _));refine An ⟨_,rfl,AH (An (An (Dn _ Mn _ (by rw[JP qX];rfl) (hs DI) ⟨_,g2,?_,?_⟩ ?_)))⟩
 .rw[ff,ff];exact AB
 .rw[R_ d1];simp[Le]
 .exact(Pu _ _ _).trans (Pu _ _ _)
def adL{it d:Z}{i B3 slot:Nat}{Q:Option U->AD->Prop}(B1:A.handled=none)(hit:MA s.heap it d i es.size B3 slot)(AW:Spot w t i slot)(hm:ID w s.heap d es B3 t)(A0:i=es.size)(Dn:∀h',Heap.ExtBut it s.heap h'->Q none { s with heap:=h' }):AU (Ai prog w) A (KF (.ref it)) Q E s:=by
 obtain⟨o,AE,AB,hd⟩:=id hit;obtain⟨DN,b7,Dh,ax⟩:=hm.ex;unfold KF
 refine AH (Ts (Pk (name:=NJ "__next__") hit.typeIs S_
  (JT S_ hit.typeIs jB ?_ (ic _))))
 unfold IN.«set_iterator.__next__»;refine AH ?_;show AU _ _ (pure (D7 it,([]:List U))) _ _ s;refine An ?_;dsimp only;refine AH (wpAny_fieldsOf AE hd ?_);dsimp only;refine AH (fK b7 ax hm.fits ?_);rw[if_neg (by simp)];refine AH (pi hm (by simpa using AW) λMn hs=>?_);simp only[RV];rw[rp (by rw[aN];lia)];simp only[Option.map_none];refine AH (Tv AE hd (by simp) ?_);refine AH ?_;simp only[newExc,newTuple];refine AH (Ks ?_ (by size_fits));refine AH (m:=X7 _ _) (wpAny_of_eq (a:=JV) (by first|rfl|(simp only[X7];rfl)) ?_);refine Ks ?_ (by size_fits);simp only[raiseNew];refine AH (wpAny_handled ?_);rw[show A.in1.handled=none from B1];refine AH (An (wpAny_throw ?_));refine AH (Pq (T:="StopIteration") (b:=true) ⟨_,F6 _ rfl,rfl⟩ isSubtype_stop ?_);exact An (Dn _ (((Pu ..).extBut.push _).push _))
def pr:Slot "set_iterator" (NJ "__iter__") "set_iterator.__iter__":=Slot.of (owner:="set_iterator") (n:="__iter__") (by rw[gC,fN];kernel_rfl) (by decide+kernel) (by decide+kernel) (by decide+kernel) (.inl (by kernel_rfl)) (by rw[gH];kernel_rfl)
def ur:entryFor table "set_iterator.__iter__"=some IN.«dict_keyiterator.__iter__»:=entryFor_alias (id':="dict_keyiterator.__iter__") (by kernel_rfl) (by kernel_rfl) (by decide+kernel) (by kernel_rfl)
def t0(a:U):argsOk "set_iterator.__iter__" { pos:=[a] }:=by kernel_rfl
def ado{it d:Z}{i n B3 slot:Nat}{Q:U->AD->Prop}(hit:MA s.heap it d i n B3 slot)(h:Q (.ref it) s):AU (Ai prog w) A (pyIter (.ref it)) Q E s:=
 wpAny_pyIter_slot hit.typeIs pr (JT pr hit.typeIs ur (id (An ⟨.ref it,rfl,"set_iterator",_,hit.typeIs,S_.lookup,h⟩)) (t0 _))
def aep(B1:A.handled=none)(I d:Z)(LF:d≠I)(es:Array (Int×U))(B3:Nat)(t:E0) :
  Walks prog w A I [I,d] [I] es.size (λi v=>(Kn w d B3 es)[i]?.map (·.2)=some v) (λi h=>(∃slot,MA h I d i es.size B3 slot/\Spot w t i slot)/\ID w h d es B3 t) where
 sub:=λb J=>by simp at J;simp[J]
 frame:=λ_ _ _⟨⟨BY,st,sp⟩,m⟩ AG=>⟨⟨BY,st.at λo e=>AG I (by simp) o e,sp⟩,m.at λo e=>AG d (by simp) o e⟩
 item:=λi s Q E A0⟨⟨BY,st,sp⟩,m⟩ Dn=>adM st sp m A0 λh' ef v Az LG b4 J=>
  Dn _ h' s.toks Az ⟨⟨ef,b4,LG⟩,m.at λo e=>J.extBut d o LF e⟩ λb o GL e=>J.extBut b o (λh=>GL (by simp[h])) e
 done:=λs Q E⟨⟨BY,st,sp⟩,m⟩ Dn=>adL B1 st sp m rfl λh' vw=>Dn h' s.toks λb o J e=>vw b o (λh=>J (by simp[h])) e
 self:=λ_ _ _ _⟨⟨BY,st,sp⟩,m⟩ Dn=>ado st Dn
end
section
variable{prog:BR}{w:BA}{A:Bk}{E:U->AD->Prop}{s:AD}{es:Array (Int×U)}{t:E0}
def adG:typeLookup (.type "set") "__len__"=pure (some (.builtin "set.__len__")):=by rw[gC,fN];kernel_rfl
def z6{acc:Array U}{es:Array (Int×U)}{n:Nat}(h:ItemsOf (λi v=>es[i]?.map (·.2)=some v) acc n)(AR:es.size=n):acc.toList=es.toList.map (·.2):=by
 apply Wz;intro i;have A1:acc.toList[i]?=acc[i]?:=by simp
 rw[EH,A1];cases e:acc[i]? with
 |none=>
  have:acc.size<=i:=by simpa using e
  rw[h.1]at this;have A7:es.toList[i]?=none:=Rg (by simpa using(by lia:es.size<=i));rw[A7];rfl
 |some v=>have:=h.2 i v e;rw[<-this];simp
theorem u0{d:Z}{B3:Nat}{Q:List U->AD->Prop}(B1:A.handled=none)(hm:ID w s.heap d es B3 t)(AR:es.size<=CH)(Dn:∀h' BW,(∀b o,s.heap.get? b=some o->h'.get? b=some o)->s.heap.objs.size<h'.objs.size->Q ((Kn w d B3 es).toList.map (·.2)) { s with heap:=h',toks:=BW }):AU (Ai prog w) A (collect (.ref d)) Q E s:=by
 have DI:d<s.heap.objs.size:=by obtain⟨o,AE,_⟩:=hm.ex;exact Cv AE
 have lC:s.heap.objs.size≠d:=λe=>IK _ (e▸DI);unfold collect;refine AH (wpAny_runValue (Rn F.entry_proto_collect ?_));rw[Ta F.plain_proto_collect _];show AU _ A.in1 (newList []>>=λl=>again (.builtin "list.__iadd__" ⟨[l,.ref d],[]⟩)) _ _ s;refine AH (Ks ?_);refine An ⟨X5 F.plain_list_iadd _,Rn F.entry_list_iadd ?_⟩;rw[Ta F.plain_list_iadd _];have YR:ID w (s.heap.push { cls:=.type "list",data:=.seq ([]:List U).toArray }) d es B3 t:=hm.at λo e=>Cr _ e;have lA:(s.heap.push { cls:=.type "list",data:=.seq ([]:List U).toArray }).get? s.heap.objs.size=some { cls:=.type "list",data:=.seq ([]:List U).toArray }:=F6 _ rfl;show AU _ A.in1 (ra (.ref s.heap.objs.size) (.ref d) (.ref s.heap.objs.size)) _ _ { s with heap:=s.heap.push { cls:=.type "list",data:=.seq ([]:List U).toArray } };generalize EF:s.heap.push { cls:=.type "list",data:=.seq ([]:List U).toArray }=f1 at YR lA |-;unfold ra;refine AH (Rt (s:={ s with heap:=f1 }) (YR.typeIs (s:={ s with heap:=f1 })) ?_);have h1:rr (.ref s.heap.objs.size) (.ref d)=false:=by simp[rr,lC]
 rw[if_neg (by rw[h1];decide)];refine AH (adF (s:={ s with heap:=f1 }) YR ?_);dsimp only;have Jd:MA (f1.push { cls:=.type "set_iterator",data:=.fields #[.int 0 0,.int 0 0,.ref d,.int es.size 0,.int B3 0] }) f1.objs.size d 0 es.size B3 0:=⟨_,F6 _ rfl,rfl,rfl⟩;have K_:ID w (f1.push { cls:=.type "set_iterator",data:=.fields #[.int 0 0,.int 0 0,.ref d,.int es.size 0,.int B3 0] }) d es B3 t:=YR.at λo e=>Cr _ e;have aq:(f1.push { cls:=.type "set_iterator",data:=.fields #[.int 0 0,.int 0 0,.ref d,.int es.size 0,.int B3 0] }).get? s.heap.objs.size=some { cls:=.type "list",data:=.seq ([]:List U).toArray }:=Cr _ lA;have VO:∀b o,s.heap.get? b=some o->(f1.push { cls:=.type "set_iterator",data:=.fields #[.int 0 0,.int 0 0,.ref d,.int es.size 0,.int B3 0] }).get? b=some o:=λb o e=>Cr _ (by rw[<-EF];exact Cr _ e);have Aj:f1.objs.size=s.heap.objs.size+1:=by rw[<-EF];exact size_push' _ _
 generalize f1.push { cls:=.type "set_iterator",data:=.fields #[.int 0 0,.int 0 0,.ref d,.int es.size 0,.int B3 0] }=f2 at Jd K_ aq VO |-;have ab4:d≠f1.objs.size:=ET (by rw[Aj];exact Wy DI);have W:=(aep (prog:=prog) (w:=w) (A:=A.in1) B1 f1.objs.size d ab4 es B3 t).toS;have Qb:s.heap.objs.size∉[f1.objs.size,d]:=λh=>by
  rcases List.mem_cons.mp h with e|h
  .lia
  .exact lC (List.mem_singleton.mp h)
 refine AH (K3 ?_);unfold Builtin.List.listLengthHint;refine AH (OG (s:={ s with heap:=f2 }) (K_.typeIs (s:={ s with heap:=f2 })) adG ?_)
 (generalize b2:("set.__len__" :String)=n5;(fail_if_success (clear b2 n5));wp_delta;rw[show splitId n5=some ("set","__len__")from by subst b2;decide+kernel];subst b2)
 refine AH (Pq (b:=true) (K_.typeIs (s:={ s with heap:=f2 })) (by rw[gH];kernel_rfl) ?_);rw[if_neg (by simp)];dsimp only;rw[if_pos (by decide+kernel)];refine AH (Rt (K_.typeIs (s:={ s with heap:=f2 })) ?_);refine An ?_;rw[if_pos (by decide+kernel)];refine AH (MO (AH ?_));show AU _ A.in1 (updateSeq s.heap.objs.size (·.push .none)>>=λ_=>updateSeq s.heap.objs.size (·.pop)) _ _ { s with heap:=f2 };refine AH (wpAny_updateSeq (s:={ s with heap:=f2 }) aq rfl ?_);have lB:=Pf (I1 (·.push JV)) aq rfl;refine wpAny_updateSeq lB rfl ?_;have ve:=Pf (I1 (·.pop)) lB rfl
 have RK:∀b o,b≠s.heap.objs.size->f2.get? b=some o->
   ((f2.update s.heap.objs.size (I1 (·.push JV))).update s.heap.objs.size (I1 (·.pop))).get? b=some o:=
  λb o J e=>(Wh _ _ (KB J)).trans ((Wh _ _ (KB J)).trans e)
 refine An ⟨X5 F.plain_extend_loop _,codeAny_extend_loopS W AR _ Qb _ es.size 0 _ _ _ (by lia) (GV _)
  (W.frame 0 ({ s with heap:=f2 }:AD) _ s.toks ⟨⟨0,Jd,λ_=>sY hm.sorted⟩,K_⟩ (By _) λb J o e=>RK b o (λh=>Qb (h▸J)) e) ve (ItemsOf.nil _) λs' YB E1 xD TC N4=>?_⟩
 show AU _ A (load s.heap.objs.size>>=_) _ _ s';refine AH (wpAny_load TC ?_);refine An ?_;show Q YB.toList s';rw[z6 N4 (aN _ _ _ _)];obtain⟨m1,m2,Me,Sd,zM⟩:=xD;have Fz:=Cv TC;obtain⟨a1,a2,Du,GE,KO⟩:=s';dsimp only at m1 m2 Me Sd Fz;subst m2 Me Sd;refine Dn a1 GE (λb o e=>?_) Fz;have J:=Cv e;exact m1 b o (λz=>by
  rcases List.mem_cons.mp z with e|z
  .rw[e]at J;exact IK _ J
  .rw[List.mem_singleton.mp z,Aj]at J;exact absurd J (Nat.not_lt.mpr (ON _))) (RK b o (λz=>by rw[z]at J;exact IK _ J) (VO b o e))
end
noncomputable def EG(k:Int×Int):List Int:=[k.1,k.2]
def Kg(a b:Int×Int):Bool:=!ltI (EG b) (EG a)
def Jo(ks:List (Int×Int)):List (Int×Int):=ks.mergeSort Kg
def bU{a b:Int×Int}(h:EG a=EG b):a=b:=by simp only[EG,MG,and_true]at h;exact Rx h.1 h.2
def bi(a b c:Int×Int)(h1:Kg a b=true)(h2:Kg b c=true):Kg a c=true:=by
 unfold Kg at*;cases e:ltI (EG c) (EG a)with
 |false=>rfl
 |true=>
  rcases bp _ (EG b) _ e with z|z
  .rw[z]at h2;cases h2
  .rw[z]at h1;cases h1
def cg(a b:Int×Int):(Kg a b||Kg b a)=true:=by
 unfold Kg;cases e:ltI (EG b) (EG a)with
 |false=>rfl
 |true=>
  cases A7:ltI (EG a) (EG b)with
  |false=>rfl
  |true=>have:=V0 _ _ _ e A7;rw[YO]at this;cases this
def en{ks l:List (Int×Int)}(p:l.Perm ks)(h:l.Pairwise λa b=>Kg a b=true):l=Jo ks:=
 rq (le:=λa b=>Kg a b=true) (λa b _ _ h1 h2=>by unfold Kg at h1 h2;exact bU (Uz _ _ (by simpa using h2) (by simpa using h1))) h (Wg bi cg ks) (p.trans (RY _ _).symm)
section
variable{prog:BR}{w:BA}{A:Bk}{E:U->AD->Prop}{s:AD}{es:Array (Int×U)}{t:E0}
def af9{d:Z}{B3:Nat}{κ:KeyKind}{kd:KA}{vs:List U}{Q:U->AD->Prop}(B1:A.handled=none)(hm:ID w s.heap d es B3 t)(ev:(Kn w d B3 es).toList.map (·.2)=vs)(AR:vs.length<64)(AG:∀(h':Aq)(BW:Nat)(NX:Bk)(SE:U->AD->Prop),NX.units<=A.units+8->(∀b o,s.heap.get? b=some o->h'.get? b=some o)->vs≠[]->(∀R:KA->AD->Prop,R kd { s with heap:=h',toks:=BW }->AU (Ai prog w) NX (keyKind' vs.toArray) R SE { s with heap:=h',toks:=BW })/\M5 prog w NX { s with heap:=h',toks:=BW } kd κ (pairsOf vs))(h:∀(u:Fl)(l:Z)(h':Aq) BW e,(BH u).Perm (pairsOf vs)->G4 κ (BH u) (pairsOf vs).size->s.heap.objs.size<=l->(∀b o,s.heap.get? b=some o->h'.get? b=some o)->h'.get? l=some (F_ "list" ((BH u).map (·.2)) e)->Q (.ref l) { s with heap:=h',toks:=BW }) :
  AU (Ai prog w) A (call (.builtin "sorted") [.ref d]) Q E s:=by
 refine s8 kind_sorted plain_sorted entry_sorted (args_sorted1 _) ?_;unfold IN.«sorted»;have Aj:es.size<=CH:=by have:=congrArg Q3 ev;rw[Eh,NC,aN]at this;rw[K8];lia
 refine AH (m:=checkCount "sorted" 1 1 _) (An (AH (u0 (A:=A.in1) B1 hm Aj λf BW AJ Aj=>?_)));rw[ev];refine AH (wpAny_newList ?_);have g:(f.push (F_ "list" vs.toArray 0)).get? f.objs.size=some (F_ "list" vs.toArray 0):=F6 _ rfl;have keep:∀b o,s.heap.get? b=some o->(f.push (F_ "list" vs.toArray 0)).get? b=some o:=λb o e=>Cr _ (AJ b o e);have Aj:=MK Aj;show AU _ _ _ _ _ { s with heap:=f.push (F_ "list" vs.toArray 0),toks:=BW };refine AH (K3 (JT slot_list_sort ⟨_,g,rfl⟩ entry_list_sort (pv (s:={ s with heap:=f.push (F_ "list" vs.toArray 0),toks:=BW }) (κ:=κ) (kd:=kd) g AR (λh' k ne=>AG h' BW _ _ (by simp only[fY];lia) (λb o e=>k b o (λz=>absurd (z▸Cv e) (Nat.not_lt.mpr Aj)) (keep b o e)) ne) λu AW hs=>⟨_,rfl,?_⟩) (args_list_sort _)));obtain⟨e,ge⟩:=sortedHeap_at (out:=(BH u).map (·.2)) g;refine An ⟨_,rfl,h u _ _ BW e AW hs Aj (λb o q=>?_) ge⟩;have ZY:=keep b o q;exact(sortedHeap_old (λz:b=f.objs.size=>absurd (z▸Cv q) (Nat.not_lt.mpr Aj)) (Cv ZY)).trans ZY
def HP(prog:BR)(w:BA)(h:Aq)(v:U)(k:Int×Int):Prop:=∃a,v=.ref a/\EW (Io prog w) h [k.1,k.2] a
theorem HP.inj{h:Aq}{v:U}{k k':Int×Int}(x:HP prog w h v k)(y:HP prog w h v k'):k=k':=by obtain⟨a,rfl,A5⟩:=x;obtain⟨b,e,Ao⟩:=y;cases e;have:=A5.inj Ao;simp at this;exact Rx this.1 this.2
def HP.mono{h h':Aq}{v:U}{k:Int×Int}(m:∀b o,h.get? b=some o->h'.get? b=some o)(x:HP prog w h v k):HP prog w h' v k:=by obtain⟨a,e,CD,it,n,g,r⟩:=x;exact⟨a,e,CD,it,n,m _ _ g,r⟩
def cM{k:Int}{v:U}(h:(Io prog w).is k v=true):∃t,v=.int k t:=by
 have h:XC k v=true:=h;cases v<;>simp[XC]at h
 exact⟨_,by rw[h]⟩
theorem HP.at{h:Aq}{v:U}{k:Int×Int}(x:HP prog w h v k):∃a o m t u,v=.ref a/\h.get? a=some o/\o.cls=.type "tuple"/\o.data=.seq #[.int k.1 t,.int k.2 u] m:=by
 obtain⟨a,e,o,it,n,g,c,d,i⟩:=x;generalize AF:it.toList=l at i;cases i with
 |cons DW q=>
  cases q with
  |cons CB q=>
   cases q;rename_i v1 v2;obtain⟨t,rfl⟩:=cM DW;obtain⟨u,rfl⟩:=cM CB;have:it= #[.int k.1 t,.int k.2 u]:=by apply Array.ext';rw[AF]
   exact⟨a,o,n,t,u,e,g,c,by rw[d,this]⟩
def zL{x y:U}{k k':Int×Int}{Q:Bool->AD->Prop}(A5:HP prog w s.heap x k)(Ao:HP prog w s.heap y k')(h:Q (ltI (EG k) (EG k')) s):AU (Ai prog w) A (keyLt' (tuples' true) x y) Q E s:=by
 obtain⟨a,o,m,t,u,rfl,AE,AB,hd⟩:=A5.at;obtain⟨F1,BM,CM,t',HL,rfl,Dy,Qc,Ea⟩:=Ao.at;rw[mZ];refine AH (Rq AE hd (AH (Rq Dy Ea ?_)));simp only[ND,List.zip_nil_left,Ti,Wm,Td,X8,EG,ltI]at h |-;refine AH (AH (AH (Wo ?_)));by_cases e:k.1=k'.1
 .rw[if_pos e]at h;rw[if_neg (by simp[e])];refine An ?_;dsimp only;refine AH (AH (Wo ?_));by_cases A7:k.2=k'.2
  .rw[if_neg (by simp[A7])];rw[if_pos A7]at h;exact An (An (An h))
  .rw[if_neg A7]at h;rw[if_pos (by simpa using A7)];exact AH (nd (om ⟨_,rfl,An (An (An h))⟩))
 .rw[if_neg e]at h;rw[if_pos (by simpa using e)];exact AH (oneLt_int (An (An (An h))))
open Classical in
noncomputable def YG(prog:BR)(w:BA)(h:Aq):KeyKind:={ nF with keyOf:=λv=>if q:∃k,HP prog w h v k then some (EG (choose q))else none,dflt:=[] }
def c_{h:Aq}{v:U}{k:Int×Int}(x:HP prog w h v k):(YG prog w h).keyOf v=some (EG k):=by have q:∃k,HP prog w h v k:=⟨k,x⟩;exact(dif_pos q).trans (congrArg (λz=>some (EG z)) ((Pg q).inj x))
def af7{d:Z}{B3:Nat}{us:List U}{ks:List (Int×Int)}{Q:U->AD->Prop}(B1:A.handled=none)(hm:ID w s.heap d es B3 t)(Hm:es.toList.map (·.2)=us)(AR:us.length<64)(AF:us.length=ks.length)(AG:∀(i:Nat) v k,us[i]?=some v->ks[i]?=some k->HP prog w s.heap v k)(h:∀(vs:List U)(l:Z)(h':Aq) BW e,vs.length=us.length->(∀(i:Nat) v k,vs[i]?=some v->(Jo ks)[i]?=some k->v∈us/\HP prog w s.heap v k)->s.heap.objs.size<=l->(∀b o,s.heap.get? b=some o->h'.get? b=some o)->h'.get? l=some (F_ "list" vs.toArray e)->Q (.ref l) { s with heap:=h',toks:=BW }) :
  AU (Ai prog w) A (call (.builtin "sorted") [.ref d]) Q E s:=by
 classical
 have all:∀v∈us,∃k,HP prog w s.heap v k:=λv Az=>by obtain⟨i,A0,rfl⟩:=Kr Az;exact⟨_,AG i _ _ (C5 A0) (C5 (by lia))⟩
 obtain⟨HB,I4⟩:∃HB:U->Int×Int,∀v∈us,HP prog w s.heap v (HB v):=⟨λv=>if q:∃k,HP prog w s.heap v k then Th q else default,λv Az=>by have q:=all v Az;simp only[dif_pos q];exact Pg q⟩
 have bD:ks=us.map HB:=by
  apply Wz;intro i;rw[EH];cases e:us[i]? with
  |none=>rw[s9]at e;simp;lia
  |some v=>have A0:=(List.getElem?_eq_some_iff.mp e).1;have A7:ks[i]?=some ks[i]:=C5 (by lia);rw[A7,(AG i v _ e A7).inj (I4 v (EU e))];rfl
 obtain⟨vs,ev⟩:∃vs,(Kn w d B3 es).toList.map (·.2)=vs:=⟨_,rfl⟩;have pu:vs.Perm us:=by rw[<-ev,<-Hm];exact(qx w d B3 es).map _
 have pm:∀p∈(pairsOf vs).toList,p.1=p.2/\p.1∈us:=λp AW=>by rw[X9]at AW;have:=mem_zip_self AW;exact⟨this.1,pu.mem_iff.mp this.2⟩
 refine af9 (κ:=YG prog w s.heap) (kd:=tuples' true) B1 hm ev (by rw[pu.length_eq];exact AR) (λh' BW NX SE J7 AJ ne=>⟨λR hR=>?_,⟨λt9 x y tN A5 Ao Dn=>?_⟩⟩) λu l h' BW e AW hs GN AJ g=>?_
 .have g:∀v∈vs,∃u,(∃a o m r,v=D7 a/\h'.get? a=some o/\o.cls=.type "tuple"/\o.data=.seq (u::r).toArray m)/\Rr { s with heap:=h',toks:=BW } u "int":=λv Az=>by
    obtain⟨a,o,m,t,u,e,AE,AB,hd⟩:=((I4 v (pu.mem_iff.mp Az)).mono AJ).at;exact⟨_,⟨a,o,m,[.int _ u],e,AE,AB,hd⟩,U4 _ _ _⟩
  obtain⟨O5,VM⟩:∃O5:U->U,∀v∈vs,(∃a o m r,v=D7 a/\h'.get? a=some o/\o.cls=.type "tuple"/\o.data=.seq (O5 v::r).toArray m)/\Rr { s with heap:=h',toks:=BW } (O5 v) "int":=⟨λv=>if q:v∈vs then Th (g v q)else .none,λv Az=>by simp only[dif_pos Az];exact Pg (g v Az)⟩
  exact mm (s:={ s with heap:=h',toks:=BW }) (g:=O5) (T:="int") ne (λv Az=>(VM v Az).1) (λv Az=>(VM v Az).2) hR
 .obtain⟨_,H8⟩:=pm x A5;obtain⟨_,EN⟩:=pm y Ao;rw[c_ (I4 _ H8),c_ (I4 _ EN)]at Dn;exact zL (s:={ s with heap:=h',toks:=BW }) ((I4 _ H8).mono AJ) ((I4 _ EN).mono AJ) Dn
 .obtain⟨G3,Lj⟩:∃G3:List U,G3=(BH u).toList.map (·.2):=⟨_,rfl⟩;have My:(BH u).map (·.2)=G3.toArray:=by rw[Lj];apply Array.ext';simp
  have CZ:(BH u).toList.Perm (pairsOf vs).toList:=Array.perm_iff_toList_perm.mp AW;have hC:∀p∈(BH u).toList,p.1=p.2/\p.1∈us:=λp AW=>pm p (CZ.mem_iff.mp AW);have PH:G3.Perm us:=by
   rw[Lj];have:=CZ.map (·.2);rw[X9]at this;have e:∀l:List U,(l.zip l).map (·.2)=l:=λl=>by induction l with
    |nil=>rfl
    |cons a l Bg=>simp[Bg]
   rw[e]at this;exact this.trans pu
  have ek:(G3.map HB).Pairwise λa b=>Kg a b=true:=by
   rw[sA];intro i j A0 BO VN;have ed:i<(BH u).size:=by rw[Lj]at A0;simpa using A0
   have Vz:j<(BH u).size:=by rw[Lj]at BO;simpa using BO
   have q:=hs i j (MK VN) (by rw[<-AW.size_eq];exact Vz);have Bh:∀n(AR:n<(BH u).size),KK (YG prog w s.heap) (BH u) n=EG (HB (BH u)[n].2):=λn AR=>by have m:=hC (BH u)[n] (by simp);unfold KK;rw[JP AR];show((YG prog w s.heap).keyOf (BH u)[n].1).getD _=_;rw[c_ (I4 _ m.2),m.1];rfl
   rw[Bh i ed,Bh j Vz]at q;have q:ltI (EG (HB (BH u)[j].2)) (EG (HB (BH u)[i].2))=false:=q;unfold Kg;simp only[Lj,fZ,fQ];rw[q];rfl
  have es:G3.map HB=Jo ks:=en (by rw[bD];exact PH.map HB) ek;rw[My]at g;refine h G3 l h' BW e PH.length_eq (λi v k A1 A7=>?_) GN AJ g;have mv:v∈us:=PH.mem_iff.mp (EU A1);rw[<-es,EH,A1]at A7;simp at A7;exact⟨mv,by rw[<-A7];exact I4 v mv⟩
end
end LT
namespace CE
open PySem PySem.Spec PyProof.Rows
section
variable{X:AX}
def iM(w:BA)(a:Z)(bs:List Z)(h:Aq):Prop:=∃es B3 t,LT.ID w h a es B3 t/\es.toList.map (·.2)=bs.map D7
def Vv(w:BA)(a:Z)(bs:List Z):D2:=.ext (iM w a bs)
def adA{P:BR}{w v:BA}{H:A4}{h:Aq}{a:Z}{bs:List Z}(x:iM v a bs h):E5 P w H h a (Vv v a bs):=
 ⟨x,by obtain⟨_,_,_,r,_⟩:=x;obtain⟨o,e,_⟩:=r.ex;exact⟨o,e⟩,λh1 h2 y k=>by obtain⟨es,B3,t,r,e⟩:=y;exact⟨es,B3,t,r.at k,e⟩⟩
def LX(H:A4)(y:V)(k:Int×Int):Prop:=∃b,y=.ref b/\H b=some (.tup [.int k.1,.int k.2])
def YJ{P:BR}{w:BA}{H:A4}{h:Aq}{b:Z}{k:Int×Int}(ok:Dx P w H h)(J:H b=some (.tup [.int k.1,.int k.2])):EW (Io P w) h [k.1,k.2] b:=by
 obtain⟨_,Gn,v2,CD,Ka,Gm,C0,hd2⟩:=(show E5 P w H h b (.tup _)from ok b _ J);cases v2 with
 |cons Dg Km=>
  cases Km with
  |cons EN TW=>cases TW;obtain⟨t1,rfl⟩:=Dg;obtain⟨Fo,rfl⟩:=EN;exact⟨CD,_,C0,Ka,Gm,hd2,.cons (intKind_is _ _ _ _) (.cons (intKind_is _ _ _ _) .nil)⟩
noncomputable def L8(ks:List (Int×Int)):List (Int×Int):=ks.foldl (λS k=>if k∈S then S else S++[k]) []
theorem jN:∀(ks S:List (Int×Int)),(ks.map LT.EG).foldl G7.L7 (S.map LT.EG)=(ks.foldl (λS k=>if k∈S then S else S++[k]) S).map LT.EG
 |[],_=>rfl
 |k::ks,S=>by
  have e:G7.L7 (S.map LT.EG) (LT.EG k)=(if k∈S then S else S++[k]).map LT.EG:=by
   unfold G7.L7;by_cases h:k∈S
   .rw[if_pos h,if_pos (We h)]
   .rw[if_neg h,if_neg (λz=>by obtain⟨q,A_,B4⟩:=List.mem_map.mp z;exact h (LT.bU B4▸A_))];simp
  simp only[DP,Tj];rw[e];exact jN ks _
def gy(ks:List (Int×Int)):G7.IG (ks.map LT.EG)=(L8 ks).map LT.EG:=jN ks []
theorem Xh:∀(ks S:List (Int×Int)),S.Nodup->(ks.foldl (λS k=>if k∈S then S else S++[k]) S).Nodup/\∀k,k∈ks.foldl (λS k=>if k∈S then S else S++[k]) S↔k∈S\/k∈ks
 |[],S,h=>⟨h,λk=>by simp⟩
 |a::ks,S,h=>by
  simp only[Tj];by_cases m:a∈S
  .rw[if_pos m];obtain⟨g1,g2⟩:=Xh ks S h;refine⟨g1,λk=>?_⟩;rw[g2,La];constructor
   .rintro(z|z)
    .exact .inl z
    .exact .inr (.inr z)
   .rintro(z|rfl|z)
    .exact .inl z
    .exact .inl m
    .exact .inr z
  .rw[if_neg m];obtain⟨g1,g2⟩:=Xh ks (S++[a]) (List.nodup_append.mpr ⟨h,by simp,λx A5 y Ao e=>by simp at Ao;subst Ao e;exact m A5⟩);refine⟨g1,λk=>?_⟩;rw[g2];simp[or_assoc]
def gx(ks:List (Int×Int)):(L8 ks).Nodup:=(Xh ks [] Rj).1
def jM(ks:List (Int×Int))(k:Int×Int):k∈L8 ks↔k∈ks:=by unfold L8;rw[(Xh ks [] Rj).2];simp
theorem p1{α:Type}[DecidableEq α]:∀{S L:List α},S.Nodup->(∀x∈S,x∈L)->L.length<=S.length->L.Perm S
 |[],L,_,_,h=>by have:L=[]:=W_ (by simpa using h);subst this;exact g0 _
 |a::S,L,n,s,h=>by have A2:=s a GT;have JF:=List.nodup_cons.mp n;refine(List.perm_cons_erase A2).trans (List.Perm.cons a (p1 JF.2 (λx A5=>(Wb (λe=>JF.1 (by rw[<-e];exact A5))).mpr (s x (E3 _ A5))) ?_));rw[Wf A2];simp at h;lia
theorem oq:∀{l:List U},(∀v∈l,∃b,v=.ref b)->∃bs:List Z,l=bs.map .ref
 |[],_=>⟨[],rfl⟩
 |v::l,h=>by obtain⟨b,rfl⟩:=h v GT;obtain⟨bs,e⟩:=oq λu B0=>h u (E3 _ B0);exact⟨b::bs,by rw[e];rfl⟩
theorem mj{α β:Type}{R:α->β->Prop}:∀{l:List α},(∀v∈l,∃b,R v b)->∃bs:List β,Paired R l bs
 |[],_=>⟨[],.nil⟩
 |v::l,h=>by obtain⟨b,J⟩:=h v GT;obtain⟨bs,e⟩:=mj λu B0=>h u (E3 _ B0);exact⟨b::bs,.cons J e⟩
theorem SS{α β:Type}{R:α->β->Prop}:∀{l:List α}{m:List β},Paired R l m->l.length=m.length
 |_,_,.nil=>rfl
 |_,_,.cons h t=>by simp[SS t]
theorem ZS{α β:Type}{R:α->β->Prop}:∀{l:List α}{m:List β},Paired R l m->∀(i:Nat) a b,l[i]?=some a->m[i]?=some b->R a b
 |_,_,.nil,i,a,b,e,_=>by simp at e
 |_,_,.cons h t,0,a,b,A1,A7=>by simp at A1 A7;subst A1 A7;exact h
 |_,_,.cons h t,i+1,a,b,A1,A7=>ZS t i a b (by simpa using A1) (by simpa using A7)
theorem dO{α β:Type}{R:α->β->Prop}:∀{l:List α}{m:List β},Paired R l m->∀a∈l,∃b∈m,R a b
 |_,_,.nil,a,h=>by cases h
 |_,_,.cons h t,a,m=>by
  rcases List.mem_cons.mp m with rfl|m
  .exact⟨_,GT,h⟩
  .obtain⟨b,EZ,DG⟩:=dO t a m;exact⟨b,E3 _ EZ,DG⟩
def ach(w:BA)(K:AT):List V->A4->Br->Prop:=λxs H Q=>∃p ys ks,xs=[.ref p]/\Bb K H p ys/\ys.length<64/\Paired (LX H) ys ks/\
 ∀l bs Ey,H l=none->Paired (λb k=>LX H (.ref b) k) bs Ey->Ey.Perm (L8 ks)->Q (.ref l) (upd H l (Vv w l bs))
def tg(B1:X.A.handled=none)(B0:X.A.units+64<Ce):G9 X (.type "set") (ach X.w X.K):=by
 intro pins s σ H xs us Q I r h;obtain⟨p,ys,ks,rfl,Ac,AR,AG,q⟩:=h;obtain⟨u,rfl,BB⟩:=vals1 r;cases BB;obtain⟨its,B2,pl,Aj⟩:=I.list Ac;have hlen:=B2.length;have ajq:=(SS AG);have Az:G7.Ua (Io X.prog X.w) true:=λ_ k v A0=>by obtain⟨t,rfl⟩:=LT.cM A0;unfold MN;rfl
 have aic:∀(i:Nat) b,its[i]?=some (.ref b)->∃k,ks[i]?=some k/\LX H (.ref b) k:=λi b e=>by have A0:=(List.getElem?_eq_some_iff.mp e).1;have CV:ys[i]?=some ys[i]:=C5 (by lia);have Ck:ks[i]?=some ks[i]:=C5 (by lia);have Bh:=ZS AG i _ _ CV Ck;obtain⟨Ig,N9,BZ⟩:=B2.get CV;rw[e]at N9;cases N9;obtain⟨c,ec,AB⟩:=Bh;rw[ec]at BZ;cases BZ;exact⟨_,Ck,b,rfl,AB⟩
 refine G7.jm (bv:=true) Az (knd:=Io X.prog X.w) (items:=its.toArray) (keys:=ks.map LT.EG) B1 B0 pl.isList (by rw[DJ,Eh];lia) (by rw[DJ];lia) (λi v Az=>?_) λh' BW T AJ=>?_
 .have Az:its[i]?=some v:=by simpa using Az
  have A0:=(List.getElem?_eq_some_iff.mp Az).1;have CV:ys[i]?=some ys[i]:=C5 (by lia);have Ck:ks[i]?=some ks[i]:=C5 (by lia);obtain⟨b,A1,A7⟩:=ZS AG i _ _ CV Ck;obtain⟨Ig,N9,BZ⟩:=B2.get CV;rw[Az]at N9;cases N9;rw[A1]at BZ;cases BZ;exact⟨b,LT.EG ks[i],rfl,by rw[EH,Ck];rfl,YJ I.BE A7⟩
 .obtain⟨o,es,B3,t,g1,g2,g3,FX,PQ,KZ,m4,QZ,m5,wI⟩:=T.ex;obtain⟨bs,B7⟩:∃bs:List Z,es.toList.map (·.2)=bs.map .ref:=oq λv Az=>by
   obtain⟨e,he,rfl⟩:=List.mem_map.mp Az;obtain⟨_,b,A1,_⟩:=PQ.el e he;exact⟨b,A1⟩
  have J:∀b∈bs,∃e∈es.toList,e.2=.ref b:=λb J=>by
   have:D7 b∈es.toList.map (·.2):=by rw[B7];exact We J
   obtain⟨e,he,z⟩:=List.mem_map.mp this;exact⟨e,he,z⟩
  have VP:∀b∈bs,∃k,LX H (.ref b) k:=λb GL=>by obtain⟨e,he,z⟩:=J b GL;obtain⟨i,Fy⟩:=wI e he b z;obtain⟨k,_,AG⟩:=aic i b (by simpa using Fy);exact⟨k,AG⟩
  obtain⟨Ey,SV⟩:=mj VP;refine⟨.ref s.heap.objs.size,_,I.laid (t':=BW) AJ (By _) (adA ⟨es,B3,t,⟨⟨o,g1,g2,g3⟩,FX.fits,m5.2 rfl,FX.tab.RN,m5.1⟩,B7⟩),rfl,q _ bs Ey (I.BE.fresh (By _)) SV (p1 (gx ks) (λk AG=>?_) ?_)⟩
  .have:LT.EG k∈G7.IG (ks.map LT.EG):=by rw[gy];exact We AG
   obtain⟨e,he,b,T5,GQ⟩:=(KZ _).mpr this;have Eo:b∈bs:=by
    have:D7 b∈es.toList.map (·.2):=by rw[<-T5];exact We he
    rw[B7]at this;obtain⟨DG,h2,A7⟩:=List.mem_map.mp this;cases A7;exact h2
   obtain⟨k2,m2,c,ec,AB⟩:=dO SV b Eo;cases ec;have TN:EW (Io X.prog X.w) h' (LT.EG k2) b:=by obtain⟨o,it,n,g,r⟩:=YJ I.BE AB;exact⟨o,it,n,AJ _ _ g,r⟩
   rw[LT.bU (GQ.inj TN)];exact m2
  .have A1:=congrArg Q3 (gy ks);have A7:=congrArg Q3 B7;rw[Eh]at A1 A7;have:=(SS SV);rw[Eh,NC]at A7;lia
def acj(w:BA):List V->A4->Br->Prop:=λxs H Q=>∃a bs ks,xs=[.ref a]/\H a=some (Vv w a bs)/\bs.length<64/\Paired (λb k=>LX H (.ref b) k) bs ks/\
 ∀l zs,H l=none->zs.length=ks.length->(∀(i:Nat) z k,zs[i]?=some z->(LT.Jo ks)[i]?=some k->LX H z k)->Q (.ref l) (upd H l (.lst zs))
def tj(B1:X.A.handled=none):G9 X (.builtin "sorted") (acj X.w):=by
 intro pins s σ H xs us Q I r h;obtain⟨a,bs,ks,rfl,A2,AR,AG,q⟩:=h;obtain⟨u,rfl,BB⟩:=vals1 r;cases BB;obtain⟨⟨es,B3,t,g,B7⟩,_⟩:=(show E5 X.prog X.w H s.heap a (Vv X.w a bs)from I.BE a _ A2);have AF:=(SS AG);refine LT.af7 (ks:=ks) B1 g B7 (by simpa using AR) (by simpa using AF) (λi v k A1 A7=>?_) λvs l h' BW e lv wP AW AJ gl=>?_
 .rw[EH]at A1;obtain⟨b,B8,rfl⟩:=Option.map_eq_some_iff.mp A1;obtain⟨c,ec,AB⟩:=ZS AG i b k B8 A7;cases ec;exact⟨b,rfl,YJ I.BE AB⟩
 .have CZ:(LT.Jo ks).length=ks.length:=(RY _ _).length_eq;obtain⟨zs,Cp,D6,Ef⟩:=dx (R:=λz k=>LX H z k) (vs:=vs) (ks:=LT.Jo ks) (by rw[lv,CZ,Eh];exact AF) λi v k A1 A7=>by
   obtain⟨m1,m2⟩:=wP i v k A1 A7;obtain⟨b,J,rfl⟩:=List.mem_map.mp m1;obtain⟨k',_,c,ec,AB⟩:=dO AG b J;cases ec;have:LT.HP X.prog X.w s.heap (.ref b) k':=⟨b,rfl,YJ I.BE AB⟩;have:=m2.inj this;subst this;exact⟨.ref b,rfl,b,rfl,AB⟩
  rw[Eh]at lv;refine⟨.ref l,_,I.laid (a:=l) (t':=BW) AJ AW (show E5 X.prog X.w _ _ _ (.lst zs)from⟨by rw[K8];lia,vs,e,Cp,gl⟩),rfl,q l zs (I.BE.fresh AW) (by lia) Ef⟩
end
end CE
namespace Cj
open PySem PySem.Spec CE PyProof.Rows
section
variable{X:AX}{F:B5}{e a b c:AN}{es:List AN}{pos p:Pos}{m n:AY}{ma:Ad}
noncomputable def SR(k:Int×Int):D:=.tup [.int k.1,.int k.2]
noncomputable def cW:D->Option (Int×Int)
 |.tup [.int a,.int b]=>some (a,b)
 |_=>none
def QE:List D->Option (List (Int×Int))
 |[]=>some []
 |d::ds=>match cW d,QE ds with
  |some k,some ks=>some (k::ks)
  |_,_=>none
def W2:List D->R (List D)
 |[.lst ds]=>if ds.length<64 then match QE ds with
  |some ks=>.ok ((LT.Jo (L8 ks)).map SR)
  |none=>.bad
  else .bad
 |_=>.bad
def Zk(m:Ad):Ad:=λρ=>(m ρ).bind W2
def yn{K:AT}{G:A4}{d:D}{k:Int×Int}{v:V}(e:cW d=some k)(h:At K G d v):LX G v k:=by
 unfold cW at e
 split at e
 .cases e;simp only[At,AP]at h;obtain⟨q,xs,rfl,Ac,v1,A6,rfl,rfl,v2,AZ,rfl,rfl,rfl⟩:=h;exact⟨q,rfl,Ac⟩
 .cases e
theorem mb{K:AT}{G:A4}:∀{ds:List D}{ks:List (Int×Int)}{xs:List V},QE ds=some ks->AP K G ds xs->Paired (LX G) xs ks
 |[],ks,xs,e,h=>by simp only[QE]at e;cases e;simp only[AP]at h;subst h;exact .nil
 |d::ds,ks,xs,e,h=>by
  simp only[QE]at e
  split at e
  .rename_i k Ey A1 A7;cases e;simp only[AP]at h;obtain⟨v,r,rfl,a1,a2⟩:=h;exact .cons (yn A1 a1) (mb A7 a2)
  .cases e
theorem pairs_at{K:AT}{G H:A4}:∀{L:List (Int×Int)}{zs:List V},zs.length=L.length->(∀(i:Nat) z k,zs[i]?=some z->L[i]?=some k->LX H z k)->AP K (J2 G H) (L.map SR) zs
 |[],[],_,_=>.nil
 |[],_::_,h,_=>by simp at h
 |_::_,[],h,_=>by simp at h
 |k::L,z::zs,h,g=>by obtain⟨b,rfl,J⟩:=g 0 z k rfl rfl;refine .cons ?_ (pairs_at (by simpa using h) λi z k A1 A7=>g (i+1) z k (by simpa using A1) (by simpa using A7));unfold SR;simp only[At,AP];exact⟨b,_,rfl,sv J,_,_,rfl,rfl,_,_,rfl,rfl,rfl⟩
def mM{G H:A4}(s:Sub G H){v:V}{k:Int×Int}:LX G v k->LX H v k:=λ⟨b,e,h⟩=>⟨b,e,s _ _ h⟩
def ai5{JI pos':Pos}(B1:X.A.handled=none)(B0:X.A.units+64<Ce)(hm:X.AA "sorted"=none)(K_:X.AA "set"=none)(A2:Ew X F [e] ma)(Ag:F.K=X.K:=by rfl)(AQ:DK X "sorted":=by rfl)(Qf:DK X "set":=by rfl)(hs:Aw [.Call (.Name "set" JI) [e] [] pos'] X.env=(false,BC (.Call (.Name "set" JI) [e] [] pos') X.env)::Aw [] X.env:=by rfl)(he:Aw [e] X.env=(false,BC e X.env)::Aw [] X.env:=by rfl)(D0:(CW pos (Aw [] X.env)).any (·.1)=false:=by rfl)(aT:(CW pos' (Aw [] X.env)).any (·.1)=false:=by rfl) :
  J1 X F (.Call (.Name "sorted" p) [.Call (.Name "set" JI) [e] [] pos'] [] pos) (Zk ma):=by
 refine⟨Al.imp (Vo (tj B1) AQ hm (by kernel_rfl) (Jl (ZT (tg B1 B0) Qf K_ (by kernel_rfl) A2.1 (by decide) (by decide) he aT) LO hs) (by decide) (by decide) hs D0) ?_⟩;rintro σ H Q ⟨G,ρ,r,h⟩;unfold Zk at h;refine⟨G,ρ,r,?_⟩;refine rb h λds Aa h vs H1 AV A6 s1 a=>?_;unfold W2 at h
 split at h
 .split at h
  .split at h
   .rename_i ks Ck;obtain⟨v,rfl,Au⟩:=a.one;simp only[At]at Au;obtain⟨q,xs,rfl,Ac,EY⟩:=Au;have kt:=mb Ck EY;have AF:=EY.length;refine⟨q,xs,ks,rfl,Bb.of (A6.AJ.sub _ _ Ac),by lia,Paired.WH kt λ_ _ z=>mM A6.AJ.sub z,λl bs Ey GN SV pp=>?_⟩;have Jh:=SS SV;have lk:=pp.length_eq;have ld:=G7.gz (ks.map LT.EG);have ajQ:=SS kt;rw[gy,Eh,Eh]at ld;refine⟨l,bs,Ey,rfl,DO,by lia,Paired.WH SV λ_ _ z=>mM (Sub.upd GN) z,λCm zs N7 Yk VH=>?_⟩;have es:LT.Jo Ey=LT.Jo (L8 ks):=LT.en ((RY _ _).trans pp) (Wg LT.bi LT.cg _);rw[<-es]at h;have AZ:=(A6.lay0 (o:=Vv X.w l bs) GN).J2;exact h Cm _ _ _ (AZ.lay0 N7) (((s1.trans (Bn.lay0 GN)).trans (Bn.J2 (A6.lay0 GN).AJ.sub)).trans (Bn.lay0 N7)) (s1.h.gone (Sub.gone (Sub.upd GN) N7)) DO (AZ.AJ.sub.gone N7) (pairs_at (by rw[Yk];exact(RY _ _).length_eq.symm) VH)
   .exact h.elim
  .exact h.elim
 .exact h.elim
end
end Cj
namespace CE
open PySem PySem.Spec PyProof.Rows
section
variable{prog:BR}{w:BA}{A:Bk}{E:U->AD->Prop}{s:AD}
end
section
variable{X:AX}{pos:Pos}
end
end CE
namespace Cj
open PySem PySem.Spec CE PyProof.Rows
section
variable{X:AX}{F:B5}{e:AN}{es:List AN}{pos p:Pos}{m n:AY}{ma:Ad}
def yK{BX mt:Str}{mf:List D->R Bf}{C:Z}{E:CS}(A5:F.EX=λ_ _=>False)(IJ:GA F.K BX C):Dq (CN F (IX BX mt 0 mf m AL)) (aC C mt (Lz F.K (0+1) mf) [] E (CN F m) aD):=by
 rintro σ H Q ⟨G,ρ,r,h⟩;unfold IX at h;refine⟨G,ρ,r,?_⟩;refine rb h λd Aa h x H1 AV A6 s1 BU=>?_;cases d with
 |ins E1 ns ds=>
  simp only[Nq]at h
  split at h
  .rename_i AB;obtain⟨PT,Gm⟩:=AB;subst PT;have UO:=BU;simp only[At]at BU;obtain⟨q,Av,xs,rfl,⟨MQ,c1,g1⟩,rfl,al⟩:=BU;have:=c1.inj IJ;subst this;refine⟨q,Av,xs,rfl,A6.AJ.sub _ _ g1,bk Gm,?_⟩;rw[R.DH]at h;have h:Hq F G H σ ρ Q ((mf [.ins E1 (xs.map (·.1)) ds]).bind HJ):=h;show Lz F.K (0+1) mf ([V.ref q]++[]) H1 Q E;rw[K0];exact q0 (xe:=λ_ _ _=>False) A5 A6 (.cons UO .nil) (by simp) (h.mono s1)
  .exact h.elim
 |_=>cases h
def agU {o:AN} {BX mt:Str} {k:Nat} {mf:List D->R Bf} {pl:Sem Bool} {apos:Pos} (c:Na X.prog X.w X.K X.AA X.base BX mt 0 k mf) (AS:Bz k X.A) (he:Ax X F o m) (IR:F.EX=λ_ _=>False:=by rfl) (Ag:F.K=X.K:=by rfl)(BF:BC (.Call (.Attribute o mt apos) [] [] pos) X.env=(do
    let Dj <-BC o X.env
    NN apos.atName
    let(f,first) <-JW [Dj] (Q5 Dj mt pl)
    Rv pos f first (CW pos (Aw [] X.env)) (He pos (Hd [] X.env))):=by rfl) :
  Ax X F (.Call (.Attribute o mt apos) [] [] pos) (IX BX mt 0 mf m AL):=by
 obtain⟨C,f,fd,ps,c1,c2,c3,EB,J⟩:=c.ex;refine⟨Al.imp (abH (pl:=pl) he.1 c2 c3 EB AS J .nil RL BF) ?_⟩;rw[<-Ag];exact yK IR (by rw[Ag];exact c1)
end
end Cj
namespace CE
open PySem PySem.Spec PyProof.Rows
section
variable{X:AX}{elts:List AN}{Bh:Nat}{TV:Pos}
end
end CE
namespace Cj
open PySem PySem.Spec CE PyProof.Rows
section
variable{X:AX}{F:B5}{a b:AN}{pos p:Pos}{ma:Ad}
end
end Cj
namespace Cj
open PySem PySem.Spec CE
mutual
noncomputable def Nn:D->Bool
 |.lst _=>false
 |.Cd _=>false
 |.tup ds=>Kk ds
 |.ins _ _ ds=>Kk ds
 |.DM _ ds=>Kk ds
 |.BN _ ds=>Kk ds
 |.EQ ds=>Kk ds
 |_=>true
noncomputable def Kk:List D->Bool
 |[]=>true
 |d::ds=>Nn d&&Kk ds
end
def VZ:D2->Bool
 |.lst _=>true
 |_=>false
section
variable{K:AT}{G G':A4}
def FV.bZ(h:∀b o,G b=some o->VZ o=false->G' b=some o){a:Z}{u:D2}(B0:VZ u=false)(r:FV G a u):FV G' a u:=by
 rcases r with r|⟨o,r⟩
 .exact .inl (h _ _ r B0)
 .exact .inr ⟨o,h _ _ r rfl⟩
mutual
theorem At.bZ(h:∀b o,G b=some o->VZ o=false->G' b=some o):∀{d:D}{v:V},Nn d=true->At K G d v->At K G' d v
 |.non,_,_,q=>by simpa only[At]using q
 |.AO _,_,_,q=>by simpa only[At]using q
 |.int _,_,_,q=>by simpa only[At]using q
 |.str _,_,_,q=>by simpa only[At]using q
 |.tup _,_,n,q=>by simp only[At,Nn]at q n |-;obtain⟨a,xs,e,g,r⟩:=q;exact⟨a,xs,e,h _ _ g rfl,AP.RJ h n r⟩
 |.lst _,_,n,_=>by simp only[Nn]at n;cases n
 |.Cd _,_,n,_=>by simp only[Nn]at n;cases n
 |.EQ _,_,n,q=>by
  simp only[At,Nn]at q n |-;obtain⟨a,xs,e,g,r⟩:=q;refine⟨a,xs,e,?_,AP.RJ h n r⟩;rcases g with g|g
  .exact .inl (FV.bZ h rfl g)
  .exact .inr g
 |.DM _ _,_,n,q=>by simp only[At,Nn]at q n |-;obtain⟨a,xs,e,g,k,r⟩:=q;exact⟨a,xs,e,h _ _ g rfl,k,AP.RJ h n r⟩
 |.BN _ _,_,n,q=>by simp only[At,Nn]at q n |-;obtain⟨a,xs,e,g,k,r⟩:=q;exact⟨a,xs,e,h _ _ g rfl,k,AP.RJ h n r⟩
 |.ins _ _ _,_,n,q=>by simp only[At,Nn]at q n |-;obtain⟨a,Av,xs,e,⟨C,c1,g⟩,k,r⟩:=q;exact⟨a,Av,xs,e,⟨C,c1,h _ _ g rfl⟩,k,AP.RJ h n r⟩
 |.QV _,_,n,q=>by simp only[At]at q |-;obtain⟨a,xs,e,⟨C,c1,g⟩,r⟩:=q;exact⟨a,xs,e,⟨C,c1,h _ _ g rfl⟩,r⟩
theorem AP.RJ(h:∀b o,G b=some o->VZ o=false->G' b=some o):∀{ds:List D}{vs:List V},Kk ds=true->AP K G ds vs->AP K G' ds vs
 |[],_,_,q=>by simpa only[AP]using q
 |_::_,_,n,q=>by simp only[AP,Kk,FR]at q n |-;obtain⟨v,r,e,a,t⟩:=q;exact⟨v,r,e,At.bZ h n.1 a,AP.RJ h n.2 t⟩
end
end
mutual
noncomputable def OU:T->Bool
 |.AI _=>true
 |.lst Ap=>YE Ap
 |_=>false
noncomputable def YE:List T->Bool
 |[]=>true
 |t::Ap=>OU t&&YE Ap
end
mutual
theorem gO{K:AT}{G H:A4}:∀{t:T}{v:V},OU t=true->C9 K G H t v->∀b∈Ae H t v,∃xs,H b=some (.lst xs)
 |.AI _,_,_,_,b,J=>by simp only[Ae]at J;cases J
 |.lst _,_,n,h,b,J=>by
  simp only[C9,OU]at h n;obtain⟨a,xs,rfl,q,r⟩:=h;rw[HU q]at J;rcases List.mem_cons.mp J with rfl|J
  .exact⟨xs,q⟩
  .exact iY n r b J
 |.DM _ _,_,n,_,_,_=>by simp only[OU]at n;cases n
 |.BN _ _,_,n,_,_,_=>by simp only[OU]at n;cases n
 |.ins _ _ _,_,n,_,_,_=>by simp only[OU]at n;cases n
theorem iY{K:AT}{G H:A4}:∀{Ap:List T}{vs:List V},YE Ap=true->Bc K G H Ap vs->∀b∈Ca H Ap vs,∃xs,H b=some (.lst xs)
 |[],_,_,_,b,J=>by rw[PO]at J;cases J
 |_::_,_,n,h,b,J=>by
  simp only[Bc,YE,FR]at h n;obtain⟨v,r,rfl,q,t⟩:=h;rw[Ho]at J;rcases List.mem_append.mp J with J|J
  .exact gO n.1 q b J
  .exact iY n.2 t b J
end
def aeu:C4->Bool
 |.ob (.lst _)=>true
 |.ob _=>false
 |.DF t=>OU t
 |.D4 _ t=>OU t
 |_=>true
def ZM(ρ:A8):Bool:=ρ.all aeu
section
variable{F:B5}
end
section
variable{X:AX}{F:B5}{e:AN}
end
section
variable{K:AT}{BD Ak:A4}{E:CS}
end
section
variable{X:AX}{e:AN}{K:AT}{BD Ak:A4}{E:CS}{m:AY}
end
section
variable{F:B5}
end
section
variable{X:AX}{F:B5}{e o:AN}{es:List AN}{pos:Pos}{ma:Ad}{m n:AY}
end
noncomputable def Nv:List T->Option (List D)
 |[]=>some []
 |.AI d::Ap=>(Nv Ap).map (d::·)
 |_=>none
theorem eN:∀{Ap:List T}{ds:List D},Nv Ap=some ds->Ap=ds.map .AI
 |[],ds,h=>by simp only[Nv]at h;cases h;rfl
 |t::Ap,ds,h=>by
  cases t with
  |AI d=>simp only[Nv]at h;obtain⟨r,e,rfl⟩:=Option.map_eq_some_iff.mp h;rw[eN e];rfl
  |_=>simp[Nv]at h
section
variable{K:AT}{G H:A4}
theorem rP:∀{ds:List D}{xs:List V},AP K G ds xs->Bc K G H (ds.map .AI) xs
 |[],xs,h=>by simp only[AP]at h;subst h;exact Bc.nil
 |d::ds,xs,h=>by simp only[AP]at h;obtain⟨v,r,rfl,a,t⟩:=h;exact Bc.cons (by simp only[C9];exact a) (rP t)
theorem eF:∀{ds:List D}{xs:List V},Bc K G H (ds.map .AI) xs->AP K G ds xs
 |[],xs,h=>by simp only[OO,Bc]at h;subst h;exact AP.nil
 |d::ds,xs,h=>by simp only[DP,Bc]at h;obtain⟨v,r,rfl,a,t⟩:=h;simp only[C9]at a;exact AP.cons a (eF t)
theorem ag:∀(ds:List D)(xs:List V),Ca H (ds.map .AI) xs=[]
 |[],xs=>PO
 |d::ds,[]=>by simp only[DP,Ca]
 |d::ds,x::xs=>by rw[DP,Ho,ag ds xs];simp only[Ae,List.nil_append]
end
section
variable{F:B5}{G H:A4}{σ :CE.St}{ρ:A8}
def Rel.oO(r:Rel F G H σ ρ){i:Nat}{s s':C4}{o:Option V}(e:ρ[i]?=some s)(My: σ[i]?=some o)(q:KM F G H o s')(f:∀b,F7 H s' o b->F7 H s o b):Rel F G H σ (ρ.set i s'):=by have A0:i<ρ.length:=(List.getElem?_eq_some_iff.mp e).1;have z:=r.RP (i:=i) (s:=s') (o:=o) A0 q λb GJ j t u ne A7 B8 wF=>ne (r.Mw i j b _ _ _ _ e A7 My B8 (f b GJ) wF).symm;rw[Cj.Vy My]at z;exact z
def Rel.agC(r:Rel F G H σ ρ){i k:Nat}{ds:List D}(e:ρ[i]?=some (.D4 k (.lst (ds.map .AI)))):∃a,σ[i]?=some (some (.ref a))/\F.pin k=some (.ref a)/\Rel F G H σ (ρ.set i (.BQ ds)):=by
 obtain⟨o,A1,v,rfl,⟨Cp,D6,Ef⟩,L1⟩:=r.BY i _ e;simp only[C9]at Cp;obtain⟨a,xs,rfl,q,FY⟩:=Cp;have EF:Ae H (.lst (ds.map .AI)) (.ref a)=[a]:=by rw[HU q,ag]
 rw[EF]at Ef;have:=Ef a (by simp);refine⟨a,A1,L1,r.oO e A1 ⟨a,_,rfl,q,this.1,this.2,xs,rfl,eF FY⟩ λb GJ=>?_⟩;have GJ:some (V.ref a)=some (.ref b):=GJ;cases GJ;exact⟨.ref a,rfl,by rw[EF];simp⟩
def Rel.oy(r:Rel F G H σ ρ){i k:Nat}{ds:List D}{a:Z}(e:ρ[i]?=some (.BQ ds))(Aa: σ[i]?=some (some (.ref a)))(AW:F.pin k=some (.ref a)):Rel F G H σ (ρ.set i (.D4 k (.lst (ds.map .AI)))):=by
 obtain⟨b,xs,A1,h1,h2,h3,h4⟩:=r.own e;rw[Aa]at A1;cases A1;have EF:Ae H (.lst (ds.map .AI)) (.ref a)=[a]:=by rw[HU h1,ag]
 refine r.oO e Aa ⟨.ref a,rfl,⟨by simp only[C9];exact⟨a,xs,rfl,h1,rP h4⟩,by rw[EF];simp,λb J=>?_⟩,AW⟩ λb GJ=>?_
 .rw[EF,Tq]at J;subst J;exact⟨h2,h3⟩
 .obtain⟨v,A7,J⟩:=GJ;cases A7;rw[EF,Tq]at J;subst J;rfl
end
def Nh(i:Nat)(m:Cz):Cz:=λρ=>match ρ[i]? with
 |some (.D4 k (.lst Ap))=>match Nv Ap with
  |some ds=>(m (ρ.set i (.BQ ds))).bind λx=>match x.2[i]? with
   |some (.ob (.lst GG))=>.ok (x.1,x.2.set i (.D4 k (.lst (GG.map .AI))))
   |_=>.bad
  |none=>.bad
 |_=>.bad
def xg{F:B5}{i:Nat}{m:Cz}:Dq (JM F (Nh i m)) (JM F m):=by
 rintro σ H Q ⟨G,ρ,r,h⟩;unfold Nh at h
 split at h
 .rename_i k Ap e
  split at h
  .rename_i ds Hm;have:=eN Hm;subst this;obtain⟨a,Aa,AW,A6⟩:=r.agC e;refine⟨G,_,A6,?_⟩;cases em:m (ρ.set i (.BQ ds))with
   |bad=>rw[em]at h;cases h
   |exc c=>rw[em]at h;exact h
   |ok x=>
    obtain⟨d,B9⟩:=x;rw[em,R.DH]at h;intro v H' G' B2 s' Au;simp only at h
    split at h
    .rename_i GG Bi;exact h v H' G' (B2.oy Bi Aa AW) s' Au
    .exact h.elim
  .exact h.elim
 .exact h.elim
section
variable{X:AX}{F:B5}{e:AN}{pos:Pos}{m:AY}{D3:Cz}
def agN(i:Nat)(h:GD X F e D3):GD X F e (Nh i D3):=⟨Al.imp h.1 xg⟩
def Zi(i:Nat):B6:=λρ=>match ρ[i]? with
 |some (.ob o)=>.ok (.rs (JG o) (ρ.set i (.AI (JG o))))
 |_=>.bad
def ahf(i:Nat){x:Str}{D5:Pos}(hN:X.N[i]?=some x:=by rfl)(Az:Gx X.env.scope x:=by first|exact DX rfl|exact CY (DX rfl)|exact CY (CY rfl))(hd:(x==("__debug__" :Str))=false:=by decide)(Dh:(x==("__classdict__" :Str))=false:=by decide) :
  ED X F (.Return (some (.Name x D5)) pos) (Zi i):=⟨Cf.imp (PG (HG hN Az hd Dh)) λBw σ H⟨G,ρ,r,k⟩=>by
 unfold Zi at k
 split at k
 .rename_i o e;obtain⟨a,AE,A1,_⟩:=r.obj e;obtain⟨G',B2,s'⟩:=r.JZ e;have A0:i<ρ.length:=(List.getElem?_eq_some_iff.mp e).1;obtain⟨v,A7,Au⟩:=B2.AI (i:=i) (d:=JG o) (by rw[Tb A0]);exact⟨v,A7,k v σ G' H B2 Au⟩
 .exact k.elim⟩
end
noncomputable def acw(a:Z):Nat->Option V:=λk=>if k=0 then some (.ref a)else none
def Yn(K:AT)(G H:A4)(a:Z):B5:=⟨K,G,H,λ_ _=>False,acw a⟩
def Rel.aaV{F F':B5}{G H:A4}{σ :CE.St}{ρ:A8}(r:Rel F G H σ ρ)(Ag:F'.K=F.K)(h0:F'.BD=F.BD)(h1:F'.Ak=F.Ak)(np:∀(i k:Nat)(t:T),ρ[i]?≠some (.D4 k t)):Rel F' G H σ ρ:=by
 refine⟨⟨r.AJ.sub,by rw[h0];exact r.AJ.DU,by rw[h1];exact r.AJ.B1,λb J=>by rw[h1]at J;rw[h0];exact r.AJ.new b J⟩,r.len,λi s e=>?_,r.Mw⟩;obtain⟨o,A1,q⟩:=r.BY i s e;refine⟨o,A1,?_⟩;cases s with
 |un=>trivial
 |AI d=>obtain⟨v,z,a⟩:=q;exact⟨v,z,by rw[Ag];exact a⟩
 |ob ob=>obtain⟨a,AE,DD,CP,LY,R0,WV⟩:=q;exact⟨a,AE,DD,CP,LY,by rw[h1];exact R0,by rw[Ag];exact WV⟩
 |DF t=>obtain⟨v,z,Cp,D6,Ef⟩:=q;exact⟨v,z,by rw[Ag];exact Cp,D6,λb J=>by rw[h1];exact Ef b J⟩
 |D4 k t=>exact absurd e (np i k t)
def cK(N:Nat)(ds es:List D):A8:=.D4 0 (.lst (ds.map .AI))::Ha (N-1) es
def Vk(d:D)(ρ:A8):R (D×List D):=match(ρ[0]? :Option C4)with
 |some (.D4 0 (.lst Ap))=>match Nv Ap with
  |some ds=>.ok (d,ds)
  |none=>.bad
 |_=>.bad
def bh:FK->R (D×List D)
 |.BK ρ=>Vk .non ρ
 |.rs d ρ=>Vk d ρ
 |_=>.bad
def Zc(N:Nat)(m:B6)(ds es:List D):R (D×List D):=(m (cK N ds es)).bind bh
def uB{K:AT}{n N:Nat}{m:B6}{vs:List V}{H:A4}{Q:Br}{E:CS}(h:spS K n (Zc (N+1) m) vs H Q E) :
  ∃G Ak a,EM (Yn K G Ak a) m { BK:=λ_ H'=>Q .non H',DB:=Q } (Jp (N+1) vs) H:=by
 obtain⟨G,a,xs,ds,es,ws,rfl,h1,h2,s,q,Au,l,k⟩:=h;have Gs:Rel ⟨K,G,del H a,λ_ _=>False,Gc⟩ G H (Jp (N+1) (.ref a::ws)) (PZ (N+1) ds es):=ov h1 h2 s q Au;have A6:Rel (Yn K G (del H a) a) G H (Jp (N+1) (.ref a::ws)) (PZ (N+1) ds es):=Gs.aaV rfl rfl rfl λi k t e=>by
  have m:=EU e;unfold PZ Ha at m;rcases List.mem_cons.mp m with z|m
  .cases z
  .rcases List.mem_append.mp m with m|m
   .obtain⟨d,_,z⟩:=List.mem_map.mp m;cases z
   .obtain⟨_,z⟩:=List.mem_replicate.mp m;cases z
 have AZ:=A6.oy (i:=0) (k:=0) (ds:=ds) (a:=a) rfl rfl rfl;refine⟨G,del H a,a,G,_,AZ,?_⟩;unfold Zc at k;have fin:∀(d:D)(B9:A8)(σ' :CE.St)(G' H':A4)(v:V),mV ⟨K,G,del H a,λ_ _=>False,Gc⟩ a Q (Vk d B9)->Rel (Yn K G (del H a) a) G' H' σ' B9->At K G' d v->Q v H':=λd B9 σ' G' H' v k r Au=>by
  unfold Vk at k
  split at k
  .rename_i Ap CF
   split at k
   .rename_i GG Hm;have:=eN Hm;subst this;obtain⟨o,A1,u,rfl,⟨Cp,D6,Ef⟩,L1⟩:=r.BY 0 _ CF;have L1:some (V.ref a)=some u:=L1;cases L1;simp only[C9]at Cp;obtain⟨b,ys,B7,D_,FY⟩:=Cp;cases B7;have BQ:=Ef a (by rw[HU D_];simp);exact k v ys G' H' ⟨r.AJ.sub,r.AJ.DU,r.AJ.B1,r.AJ.new⟩ BQ.1 D_ (eF FY) Au
   .exact k.elim
  .exact k.elim
 have Fy:(PZ (N+1) ds es).set 0 (.D4 0 (.lst (ds.map .AI)))=cK (N+1) ds es:=rfl;rw[Fy];cases e:m (cK (N+1) ds es)with
 |bad=>rw[e]at k;cases k
 |exc c=>rw[e]at k;cases k
 |ok f=>
  rw[e,R.DH]at k;cases f with
  |BK B9=>exact λσ' G' H' r s'=>fin .non B9 σ' G' H' .non k r (by simp only[At])
  |rs d B9=>exact λv σ' G' H' r Au=>fin d B9 σ' G' H' v k r Au
  |DB d=>cases k
  |HI ds=>cases k
  |Dw t=>cases k
  |F9 ρ=>cases k
  |C_ ρ=>cases k
def v8(P:BR)(w:BA){K:AT}(AA:Str->Option U)(base:Aq){x Ed Fm:Str}{st:BG}{N ps:List Str}(k:Nat)(m:B6)(d:D1 K AA x st (Ed::ps))(S:C2 (Fm::N) (Ed::ps) (BP st))(h:∀(f:Z)(BV:U)(A:Bk)(outer:List Env)(s:AD)(H:A4)(E:CS),Bz k (A.deeper (K4 x (BP st) s.heap.objs.size f BV))->∀BD Ak a,IF (EE FJ P w K AA base (Fm::N) x (BP st) f BV A outer s H E).Fn (Yn K BD Ak a) (FA st) m) :
  UA P w K AA base x ps.length (k+1) (Zc (N.length+1) m):=by
 obtain⟨f,fd,fn,hm,J⟩:=d.ex;refine⟨f,fd,Ed::ps,fn.ok S pz λBV A outer s H vs Q E AS hs=>?_,hm,fn.AJ,J⟩;obtain⟨G,Ak,a,BF⟩:=uB hs;exact⟨_,(h f BV A outer s H E AS G Ak a).1,BF⟩
section
variable{F:B5}{G H:A4}{σ :CE.St}{ρ:A8}
end
section
variable{X:AX}{F:B5}{e c:AN}{pos:Pos}{m:AY}
def nV:FK->R A8
 |.BK ρ=>.ok ρ
 |_=>.bad
end
section
variable{X:AX}{F:B5}{e c:AN}{pos:Pos}{m:AY}
end
section
variable{F:B5}
end
section
variable{X:AX}{F:B5}{k:AN}{pos:Pos}{mk:AY}
end
section
variable{X:AX}{F:B5}{es:List AN}{pos:Pos}{ma:Ad}
end
def V2(m:Ad):Ad:=λρ=>(m (Em ρ)).bind λds=>if Kk ds=true/\ZM ρ=true then .ok ds else .bad
section
variable{F:B5}
def x6{m:Ad}:Dq (Ie F (V2 m)) (Ie F m):=by
 rintro σ H Q ⟨G,ρ,r,h⟩;refine⟨Ja σ ρ G H,Em ρ,r.plus,?_⟩;unfold V2 at h;refine rb h λds Aa h p xs H' G' B2 s' AR A2 AQ q=>?_;by_cases hd:Kk ds=true/\ZM ρ=true
 .rw[if_pos hd]at h;have Vm:∀b,C3 H σ ρ b->G b=none:=λb z=>(r.foot z).2.1;have Vl:∀b,C3 H σ ρ b->F.Ak b=none:=λb z=>(r.foot z).2.2;have dN:∀b,C3 H σ ρ b->∃AE,H b=some AE/\VZ AE=true:=λb⟨i,s,o,A1,A7,f⟩=>by
   have A0:=List.all_eq_true.mp hd.2 _ (EU A1);cases s with
   |un=>cases f
   |AI _=>cases f
   |DF t=>obtain⟨v,rfl,GJ⟩:=f;obtain⟨BM,B8,Ig,D9,ok⟩:=r.BY i _ A1;rw[A7]at B8;cases B8;cases D9;obtain⟨xs,e⟩:=gO A0 ok.at_ b GJ;exact⟨_,e,rfl⟩
   |D4 n t=>obtain⟨v,rfl,GJ⟩:=f;obtain⟨BM,B8,Ig,D9,ok,_⟩:=r.BY i _ A1;rw[A7]at B8;cases B8;cases D9;obtain⟨xs,e⟩:=gO A0 ok.at_ b GJ;exact⟨_,e,rfl⟩
   |ob ob=>
    have f:o=some (.ref b):=f;obtain⟨c,AE,B8,h1,_,_,h4⟩:=r.obj A1;rw[A7,f]at B8;cases B8;cases ob with
    |lst _=>obtain⟨xs,rfl,_⟩:=h4;exact⟨_,h1,rfl⟩
    |BN _ _=>cases A0
    |ins _ _ _=>cases A0
  have off:∀b,¬C3 H σ ρ b->LC H σ ρ G' b=G' b:=λb n=>by unfold LC;rw[if_neg n]
  have on:∀b,C3 H σ ρ b->LC H σ ρ G' b=none:=λb n=>by unfold LC;rw[if_pos n]
  have Ar:Sub G (LC H σ ρ G'):=λb o e=>by
   have n:¬C3 H σ ρ b:=λz=>by rw[Vm b z]at e;cases e
   rw[off b n];exact s'.g b o (Yp r b o e)
  have cU:∀b,C3 H σ ρ b->∀o,H b=some o->H' b=some o:=λb z o e=>B2.AJ.sub _ _ (s'.g _ _ (by rw[PR z];exact e));have rel:Rel F (LC H σ ρ G') H' σ ρ:=by
   refine r.over rfl ⟨λb o e=>?_,r.AJ.DU.trans Ar,B2.AJ.B1,λb J=>?_⟩ Ar λb BQ=>?_
   .by_cases n:C3 H σ ρ b
    .rw[on b n]at e;cases e
    .rw[off b n]at e;exact B2.AJ.sub b o e
   .have n:¬C3 H σ ρ b:=λz=>J.1 (Vl b z);rw[off b n];exact B2.AJ.new b J
   .refine⟨?_,on b BQ,Vl b BQ⟩;cases B7:H b with
    |none=>exact absurd B7 (r.foot BQ).1
    |some o=>exact cU b BQ o B7
  refine h p xs H' _ rel ⟨Ar,s'.h,λb J=>?_⟩ AR A2 (by rw[off p (λz=>(r.foot z).1 AR)];exact AQ) (AP.RJ (λb o e A0=>?_) hd.1 q)
  .by_cases n:C3 H σ ρ b
   .rw[on b n,Vm b n]
   .rw[off b n,s'.n b J];unfold Ja;rw[if_neg n]
  .have n:¬C3 H σ ρ b:=λz=>by
     obtain⟨AE,A1,A7⟩:=dN b z;have:=s'.g b AE (by rw[PR z];exact A1);rw[e]at this;cases this;rw[A0]at A7;cases A7
   rw[off b n];exact e
 .rw[if_neg hd]at h;cases h
end
section
variable{X:AX}{F:B5}{e:AN}{pos:Pos}
def ahy{m:Ad}(h:J1 X F e m):J1 X F e (V2 m):=⟨Al.imp h.1 x6⟩
end
section
variable{X:AX}{F:B5}{e:AN}{pos:Pos}
end
def Sj(i:Nat)(m:Cz):Cz:=λρ=>(ownAt i ρ).bind λ_=>(m ρ).bind λx=>Zh i (λ_=>.ok x.1) x.2
section
variable{X:AX}{F:B5}{e:AN}{es:List AN}{pos p:Pos}{m:AY}{ma:Ad}
def agO (i:Nat) {x:Str} {D5:Pos} {apos:Pos} {Ba:Pos} {m:Cz} (he:GD X F e m) (hN:X.N[i]?=some x:=by rfl) (Az:Gx X.env.scope x:=by first|exact DX rfl|exact CY (DX rfl)|exact CY (CY rfl)) (hd:(x==("__debug__" :Str))=false:=by decide) (Dh:(x==("__classdict__" :Str))=false:=by decide) (HV:Ik (.Name x D5) "pop" X.env (BC (.Name x D5) X.env)=BC (.Name x D5) X.env:=by rfl) (HX:(apos.endLine==Ba.line)=true:=by rfl) (HW:((CW Ba (Aw [e] X.env)).all (λx=>!x.1)&&(He Ba (Hd [] X.env)).all (λx=>x.1.isSome)
   &&decide (([e]:List AN).length+([]:List FS).length+(if([]:List FS).isEmpty then 0 else 1)<30))=true:=by rfl) (hs:Aw [e] X.env=(false,BC e X.env)::Aw [] X.env:=by rfl) (HY:(CW Ba (Aw [] X.env)).any (·.1)=false:=by rfl):GD X F (.Call (.Attribute (.Name x D5) "pop" apos) [e] [] Ba) (Sj i m):=⟨by
 have he:=he.1;refine Al.imp (PF Rb PySem.F.slot_list_pop PySem.F.type_list_pop ab1 (HG hN Az hd Dh) (Jl he LO hs) HV HW HX hs HY) ?_;rintro σ H Q ⟨G,ρ,r,h⟩;unfold Sj ownAt at h;cases CO:ρ[i]? with
 |none=>rw[CO]at h;cases h
 |some s=>
  rw[CO]at h;cases s with
  |un=>cases h
  |AI _=>cases h
  |DF _=>cases h
  |D4 _ _=>cases h
  |ob ob=>
   cases ob with
   |BN _ _=>cases h
   |ins _ _ _=>cases h
   |lst ds=>
    obtain⟨q,xs,A1,h1,h2,h3,h4⟩:=r.own CO;rw[R.DH]at h;refine⟨.ref q,A1,.inl ⟨rfl,xs,Bb.of h1⟩,G,ρ,r,?_⟩;cases Aa:m ρ with
    |bad=>rw[Aa]at h;cases h
    |exc c=>rw[Aa]at h;exact h
    |ok y=>
     obtain⟨d,ρ1⟩:=y;rw[Aa,R.DH]at h;intro v H1 AV A6 s1 Au;simp only[Zh,ownAt]at h;cases O3:ρ1[i]? with
     |none=>rw[O3]at h;cases h
     |some ae0=>
      rw[O3]at h;cases ae0 with
      |un=>cases h
      |AI _=>cases h
      |DF _=>cases h
      |D4 _ _=>cases h
      |ob ob=>
       cases ob with
       |BN _ _=>cases h
       |ins _ _ _=>cases h
       |lst GH=>
        rw[R.DH,R.DH]at h;obtain⟨D_,ES,GI,II,PS,TB,Jb⟩:=A6.own O3;rw[A1]at GI;cases GI;cases d with
        |int k=>
         simp only[At]at Au;subst Au;simp only at h
         split at h
         .rename_i AG
          split at h
          .rename_i j J5
           split at h
           .rename_i y CV;obtain⟨w,Hn,L4⟩:=Jb.get CV;refine⟨q,ES,k,j,w,rfl,rfl,II,AG.1,AG.2,by rw[<-Jb.length];exact J5,Hn,?_⟩;exact h w _ AV (A6.mut O3 A1 (Jb.erase j)) s1 L4
           .exact h.elim
          .exact h.elim
         .exact h.elim
        |_=>exact h.elim⟩
def VC(m:Cz):B6:=λρ=>(m ρ).bind λx=>.ok (.DB x.1)
def ahd{m:Cz}(h:GD X F e m):ED X F (.Return (some e) pos) (VC m):=⟨Cf.imp (PG h.1) λBw σ H⟨G,ρ,r,k⟩=>by
 unfold VC at k;refine⟨G,ρ,r,?_⟩;cases Aa:m ρ with
 |bad=>rw[Aa]at k;cases k
 |exc c=>rw[Aa]at k;exact k
 |ok d=>rw[Aa,R.DH]at k;exact λv H' G' B2 u a=>k v G' H' B2.AJ a⟩
def df:Bf->R D
 |.v d=>.ok d
 |_=>.bad
def Zb(mf:List D->List D->R Bf)(mo:Ad):AY:=λρ=>(mo ρ).bind λds=>(Ep (mf ds [])).bind df
def agt{x:Str}{k:Nat}{mf:List D->List D->R Bf}{mo:Ad}(c:Y1 X.prog X.w X.K X.AA X.base x 0 k mf)(AS:Bz k X.A)(AE:J1 X F e mo)(Ag:F.K=X.K:=by rfl)(AQ:DK X x:=by rfl)(FD:(x==("__debug__" :Str))=false:=by decide)(he:Aw [e] X.env=(false,BC e X.env)::Aw [] X.env:=by rfl)(D0:(CW pos (Aw [] X.env)).any (·.1)=false:=by rfl) :
  Ax X F (.Call (.Name x p) [e] [] pos) (Zb mf mo):=⟨by
 obtain⟨f,fd,ps,EB,hm,AG,J⟩:=c.ex;refine Al.imp (SU EB AS AQ hm AG J .nil RL (Jl AE.1 LO he) FD he D0) ?_;rw[<-Ag];rintro σ H Q ⟨G,ρ,r,h⟩;unfold Zb at h;refine⟨G,ρ,r,?_⟩;refine rb h λds Aa h a xs H1 AV A6 s1 AR A2 w0 q=>?_;refine⟨AV,a,xs,ds,[],[],rfl,A2,w0,A6.AJ.sub,q,AP.nil,rfl,?_⟩;cases em:mf ds []with
 |bad=>rw[em]at h;cases h
 |exc c=>rw[em]at h;cases h
 |ok t=>
  rw[em]at h;cases t with
  |t _=>cases h
  |o _=>cases h
  |v d=>
   intro v G' H' k Au;have na:∀b,C3 H1 σ ρ b->b≠a:=λb BQ z=>C3.fresh r s1.h AR (by rw[<-z];exact BQ);have h0:F.Ak a=none:=r.AJ.B1.gone AR;have OZ:∀b,b≠a->del H1 a b=H1 b:=λb J=>OX J;refine h v H' G' (A6.over rfl ⟨k.sub,A6.AJ.DU.trans k.DU,λb o e=>?_,λb J=>?_⟩ k.DU λb BQ=>?_) ⟨s1.g.trans k.DU,λb o e=>?_,λb J=>?_⟩ Au
   .have nb:b≠a:=λz=>by rw[z,h0]at e;cases e
    exact k.B1 b o (by show del H1 a b=some o;rw[OZ b nb];exact A6.AJ.B1 b o e)
   .have nb:b≠a:=λz=>J.1 (by rw[z];exact h0);rw[show G' b=AV b from k.new b (by show FT (del H1 a) b;unfold FT;rw[OZ b nb];exact A6.AJ.B1.Hu J)];exact A6.AJ.new b J
   .obtain⟨g1,g2,g3⟩:=A6.foot BQ;refine⟨?_,?_,g3⟩
    .cases B7:H1 b with
     |none=>exact absurd B7 g1
     |some o=>exact k.B1 b o (by show del H1 a b=some o;rw[OZ b (na b BQ)];exact B7)
    .rw[show G' b=AV b from k.new b (by show FT (del H1 a) b;unfold FT;rw[OZ b (na b BQ)];exact A6.U9 BQ)];exact g2
   .have nb:b≠a:=λz=>by rw[z,AR]at e;cases e
    exact k.B1 b o (by show del H1 a b=some o;rw[OZ b nb];exact s1.h b o e)
   .have nb:b≠a:=λz=>J.1 (by rw[z];exact AR);rw[show G' b=AV b from k.new b (by show FT (del H1 a) b;unfold FT;rw[OZ b nb];exact s1.h.Hu J)];exact s1.n b J⟩
end
def DC{N P:List Str}{sc:DT}(a:sc.kind=.function:=by rfl)(b:sc.isCoroutine=false:=by rfl)(c:sc.isGenerator=false:=by rfl)(d:N.Nodup:=by decide+kernel)(e:N.take P.length=P:=by rfl)(f:∀x∈P,sc.names.lookup x=some .local\/sc.names.lookup x=some .cell:=by decide+kernel)(g:∀y∈sc.names,y.2≠.free:=by decide+kernel):C2 N P sc:=⟨a,b,c,d,e,f,g⟩
def oh(f:Str->Str->Int):V->List V->A4->Br->Prop:=λx vs H Q=>∃a b,x=.str a/\vs=[.str b]/\Q (.int (f a b)) H
section
variable{X:AX}
def aay:UB X "str.find" (oh Txt.find):=by intro pins s σ H x vs v us Q I BB BZ h;obtain⟨a,b,rfl,rfl,q⟩:=h;obtain⟨t,rfl⟩:=BB;obtain⟨u,rfl,EJ⟩:=vals1 BZ;obtain⟨t',rfl⟩:=EJ;exact SC.find ⟨.int _,H,I.tok _,⟨_,rfl⟩,q⟩
end
noncomputable def eL(f:Str->Str->Int)(a:Str):D->R D
 |.str b=>.ok (.int (f a b))
 |_=>.bad
def aI(f:Str->Str->Int)(n:AY)(ρ:A8):D->R D
 |.str a=>(n ρ).bind (eL f a)
 |_=>.bad
def VF(f:Str->Str->Int)(m n:AY):AY:=λρ=>(m ρ).bind (aI f n ρ)
section
variable{X:AX}{F:B5}{o e:AN}{m n:AY}
def agk {name:Str} {id:String} {f:Str->Str->Int} {apos Ba:Pos} (slot:Slot "str" name id) (a_:typeOf (.builtin id)=pure (.type "method_descriptor")) (hm:UB X id (oh f)) (AE:Ax X F o m) (he:Ax X F e n)(HV:Ik o name X.env (BC o X.env)=BC o X.env:=by rfl) (HX:(apos.endLine==Ba.line)=true:=by rfl)(HW:((CW Ba (Aw [e] X.env)).all (λx=>!x.1)&&(He Ba (Hd [] X.env)).all (λx=>x.1.isSome)
    &&decide (([e]:List AN).length+([]:List FS).length+(if([]:List FS).isEmpty then 0 else 1)<30))=true:=by rfl)
  (hs:Aw [e] X.env=(false,BC e X.env)::Aw [] X.env:=by rfl) (HY:(CW Ba (Aw [] X.env)).any (·.1)=false:=by rfl) :
  Ax X F (.Call (.Attribute o name apos) [e] [] Ba) (VF f m n):=by
 refine⟨Al.imp (PF rn slot a_ hm AE.1 (Jl he.1 LO hs) HV HW HX hs HY) ?_⟩;rintro σ H Q ⟨G,ρ,r,h⟩;unfold VF at h;refine⟨G,ρ,r,?_⟩;cases Aa:m ρ with
 |bad=>rw[Aa]at h;cases h
 |exc c=>rw[Aa]at h;exact h
 |ok d=>
  rw[Aa,R.DH]at h;intro v H1 AV A6 s1 Au;cases d with
  |str a=>
   simp only[aI]at h;simp only[At]at Au;subst Au;refine⟨rfl,AV,ρ,A6,?_⟩;cases B7:n ρ with
   |bad=>rw[B7]at h;cases h
   |exc c=>rw[B7]at h;exact h
   |ok C1=>
    rw[B7,R.DH]at h;intro v2 Ab Bl AZ s2 iB;cases C1 with
    |str b=>simp only[At]at iB;subst iB;exact⟨a,b,rfl,rfl,h _ Ab Bl AZ (s1.trans s2) (by simp only[At])⟩
    |_=>cases h
  |_=>cases h
def ah4 {apos Ba:Pos} (AE:Ax X F o m) (he:Ax X F e n)(HV:Ik o "find" X.env (BC o X.env)=BC o X.env:=by rfl) (HX:(apos.endLine==Ba.line)=true:=by rfl)(HW:((CW Ba (Aw [e] X.env)).all (λx=>!x.1)&&(He Ba (Hd [] X.env)).all (λx=>x.1.isSome)
    &&decide (([e]:List AN).length+([]:List FS).length+(if([]:List FS).isEmpty then 0 else 1)<30))=true:=by rfl)
  (hs:Aw [e] X.env=(false,BC e X.env)::Aw [] X.env:=by rfl) (HY:(CW Ba (Aw [] X.env)).any (·.1)=false:=by rfl) :
  Ax X F (.Call (.Attribute o "find" apos) [e] [] Ba) (VF Txt.find m n):=agk PySem.F.slot_str_find PySem.F.type_str_find aay AE he HV HX HW hs HY
end
@[simp] theorem Dl{α β:Type}(a:α)(k:α->R β):(R.ok a).bind k=k a:=(rfl)
@[simp] theorem alN{α β:Type}(c:Str)(k:α->R β):(R.exc c:R α).bind k=.exc c:=(rfl)
def RQ(b:B6):FK->R FK
 |.BK ρ=>b ρ
 |f=>.ok f
@[simp] theorem dr(a b:B6)(ρ:A8):BI a b ρ=(a ρ).bind (RQ b):=by unfold BI;congr 1
@[simp] theorem q1(b:B6)(ρ:A8):RQ b (.BK ρ)=b ρ:=(rfl)
@[simp] theorem ajh(b:B6)(d:D):RQ b (.DB d)=.ok (.DB d):=(rfl)
@[simp] theorem ajH(b:B6)(d:List D):RQ b (.HI d)=.ok (.HI d):=(rfl)
noncomputable def ZZ:Option C4->R D
 |some (.AI d)=>.ok d
 |_=>.bad
@[simp] theorem v_var(i:Nat)(ρ:A8):A3 i ρ=ZZ ρ[i]?:=by unfold A3 ZZ;rfl
@[simp] theorem aj9(d:D):ZZ (some (.AI d))=.ok d:=(rfl)
@[simp] theorem afT(d:D)(ρ:A8):AM d ρ=.ok d:=(rfl)
@[simp] theorem aky(f:D->D->R D)(a b:AY)(ρ:A8):AK f a b ρ=(a ρ).bind λx=>(b ρ).bind λy=>f x y:=(rfl)
@[simp] theorem alI(f:D->R D)(a:AY)(ρ:A8):DZ f a ρ=(a ρ).bind f:=(rfl)
@[simp] theorem aL(ρ:A8):AL ρ=.ok []:=(rfl)
@[simp] theorem dq(a:AY)(r:Ad)(ρ:A8):A9 a r ρ=(a ρ).bind λx=>(r ρ).bind λxs=>.ok (x::xs):=(rfl)
def Vd(xs:List D):R D:=if xs.length<=1000000 then .ok (.tup xs)else .bad
@[simp] theorem af_(m:Ad)(ρ:A8):D8 m ρ=(m ρ).bind Vd:=(rfl)
@[simp] theorem akp{xs:List D}(h:xs.length<=1000000):Vd xs=.ok (.tup xs):=if_pos h
@[simp] theorem afW(m:Ad)(ρ:A8):FE m ρ=(m ρ).bind λxs=>.ok (.lst xs):=(rfl)
@[simp] theorem afX(m:Ad)(ρ:A8):G0 m ρ=(m ρ).bind lim:=(rfl)
@[simp] theorem akt(m:AY)(ρ:A8):Be m ρ=(m ρ).bind MF:=(rfl)
@[simp] theorem aiy(b:Bool):MF (.AO b)=.ok b:=(rfl)
@[simp] theorem v_and(a b:C7)(ρ:A8):QG a b ρ=(a ρ).bind λc=>if c=true then b ρ else .ok false:=(rfl)
@[simp] theorem v_or(a b:C7)(ρ:A8):HC a b ρ=(a ρ).bind λc=>if c=true then .ok true else b ρ:=(rfl)
@[simp] theorem v_not(a:C7)(ρ:A8):En a ρ=(a ρ).bind λc=>.ok (!c):=(rfl)
@[simp] theorem aku(a b:AY)(ρ:A8):LL a b ρ=(a ρ).bind λx=>(MF x).bind λc=>if c=true then b ρ else .ok (.AO false):=(rfl)
@[simp] theorem akO(c:C7)(a b:B6)(ρ:A8):DA c a b ρ=(c ρ).bind λk=>if k=true then a ρ else b ρ:=(rfl)
@[simp] theorem akb(ρ:A8):DE ρ=.ok (.BK ρ):=(rfl)
@[simp] theorem akG(a:AY)(ρ:A8):CK a ρ=(a ρ).bind λd=>.ok (.DB d):=(rfl)
@[simp] theorem akh(a:Ad)(ρ:A8):IZ a ρ=(a ρ).bind λd=>.ok (.HI d):=(rfl)
@[simp] theorem afZ(i:Nat)(d:D)(ρ:A8):B_ i d ρ=if i<ρ.length then .ok (ρ.set i (.AI d))else .bad:=(rfl)
@[simp] theorem al9(i:Nat)(a:AY)(ρ:A8):E8 i a ρ=(a ρ).bind λd=>(B_ i d ρ).bind λB9=>.ok (.BK B9):=(rfl)
@[simp] theorem afY(i:Nat)(a:Ad)(ρ:A8):G1 i a ρ=(a ρ).bind λds=>if i<ρ.length then .ok (.BK (ρ.set i (.BQ ds)))else .bad:=(rfl)
@[simp] theorem alA(i:Nat)(a:Cz)(ρ:A8):R6 i a ρ=(a ρ).bind λx=>(B_ i x.1 x.2).bind λB9=>.ok (.BK B9):=(rfl)
@[simp] theorem akM(a:Cz)(ρ:A8):V6 a ρ=(a ρ).bind λx=>.ok (.BK x.2):=(rfl)
@[simp] theorem al7(f:List D->R D)(m:Ad)(ρ:A8):Cg f m ρ=(m ρ).bind f:=(rfl)
@[simp] theorem al2(n:Nat)(mf:List D->R Bf)(m:Ad)(ρ:A8):Bt n mf m ρ=(m ρ).bind λds=>if ds.length=n then(mf ds).bind HJ else .bad:=(rfl)
@[simp] theorem al5(n:Nat)(mf:List D->R Bf)(m:Ad)(ρ:A8):Mf n mf m ρ=(m ρ).bind λds=>if ds.length=n then(mf ds).bind de else .bad:=(rfl)
def qo(mi:Ad)(set:D->A8->R A8)(body:B6)(ρ:A8):Eb mi set body ρ=(mi ρ).bind λds=>H3 set body ds ρ:=(rfl)
@[simp] theorem akD(m:Ad)(ρ:A8):Gp m ρ=(m ρ).bind PJ:=(rfl)
@[simp] theorem akQ(m:AY)(ρ:A8):Hs m ρ=(m ρ).bind eb:=(rfl)
@[simp] theorem v_bor(m:AY)(ρ:A8):QH m ρ=(m (Em ρ)).bind ZN:=(rfl)
@[simp] theorem al1(m:C7)(ρ:A8):Oy m ρ=m (Em ρ):=(rfl)
def qm(nl:Nat)(caps:List Nat)(mi:Ad)(set:D->A8->R A8)(tst:C7)(elt:AY)(ρ:A8):Ej nl caps mi set tst elt ρ=(mi ρ).bind λds=>Ep (Hk set tst elt ds (KQ nl caps ρ) []):=(rfl)
@[simp] theorem aiv(i j:Int):DY (.int i) (.int j)=.ok (.int (i+j)):=(rfl)
@[simp] theorem akj(i j:Int):Op (.int i) (.int j)=.ok (.int (i-j)):=(rfl)
@[simp] theorem ajU{i j:Int}(h1: -18446744073709551616<i)(h2:i<18446744073709551616):Nk (.int i) (.int j)=.ok (.int (i*j)):=if_pos (DX ⟨h1,h2⟩)
@[simp] theorem mul_r{i j:Int}(h1: -18446744073709551616<j)(h2:j<18446744073709551616):Nk (.int i) (.int j)=.ok (.int (i*j)):=if_pos (CY ⟨h1,h2⟩)
@[simp] theorem aih{i j:Int}(h1:0<j)(h2:j<1073741824):JY (.int i) (.int j)=.ok (.int (i/j)):=if_pos ⟨h1,h2⟩
@[simp] theorem ajT{i j:Int}(h:0<j):Ht (.int i) (.int j)=.ok (.int (i%j)):=if_pos h
def ad4:dS (.int 10) (.int 30)=.ok (.int 1000000000000000000000000000000):=(rfl)
@[simp] theorem ajP(i j:Int):Ox (.int i) (.int j)=.ok (.AO (decide (i<j))):=(rfl)
@[simp] theorem ajJ(i j:Int):QF (.int i) (.int j)=.ok (.AO (decide (i<=j))):=(rfl)
@[simp] theorem ajk(i j:Int):Yu (.int i) (.int j)=.ok (.AO (decide (j<i))):=(rfl)
@[simp] theorem aj5(i j:Int):Ct true (.int i) (.int j)=.ok (.AO (i==j)):=(rfl)
@[simp] theorem ajW(i j:Int):Ct false (.int i) (.int j)=.ok (.AO (!(i==j))):=(rfl)
@[simp] theorem ajK(xs:List D):Di [.lst xs]=.ok (.int xs.length):=(rfl)
@[simp] theorem ajM(xs:List D):Di [.tup xs]=.ok (.int xs.length):=(rfl)
@[simp] theorem ajL(xs:List D):Di [.Cd xs]=.ok (.int xs.length):=(rfl)
@[simp] theorem ajD(d:D):HJ (.v d)=.ok d:=(rfl)
@[simp] theorem ajC(ds:List D):HJ (.o ds)=.ok (.lst ds):=(rfl)
@[simp] theorem ajA(ds:List D):de (.o ds)=.ok ds:=(rfl)
@[simp] theorem aje(d:D):outD (.DB d)=.ok (.v d):=(rfl)
@[simp] theorem ajd(d:List D):outD (.HI d)=.ok (.o d):=(rfl)
@[simp] theorem afU(N:Nat)(m:B6)(ds:List D):Cx N m ds=(m (Ha N ds)).bind outD:=(rfl)
def cF:Option C4->R (List D)
 |some (.BQ ds)=>.ok ds
 |_=>.bad
@[simp] theorem ak8(i:Nat)(ρ:A8):ownAt i ρ=cF ρ[i]?:=by unfold ownAt cF;rfl
@[simp] theorem ajf(ds:List D):cF (some (.BQ ds))=.ok ds:=(rfl)
@[simp] theorem aii(set:D->A8->R A8)(body:B6)(ρ:A8):H3 set body [] ρ=.ok (.BK ρ):=(rfl)
theorem lp{set:D->A8->R A8}{body:B6}(I:Nat->A8->Prop):∀(ds:List D)(i:Nat)(ρ:A8),(∀(j:Nat) d ρ,ds[j]?=some d->I (i+j) ρ->∃ρ1 B9,set d ρ=.ok ρ1/\body ρ1=.ok (.BK B9)/\I (i+j+1) B9)->I i ρ->∃B9,H3 set body ds ρ=.ok (.BK B9)/\I (i+ds.length) B9
 |[],i,ρ,_,h=>⟨ρ,rfl,h⟩
 |d::ds,i,ρ,st,h=>by
  obtain⟨ρ1,Cq,A1,A7,h2⟩:=st 0 d ρ rfl h;obtain⟨B9,B8,h3⟩:=lp I ds (i+1) Cq (λj d ρ e A0=>by obtain⟨a,b,c1,c2,c3⟩:=st (j+1) d ρ (by simpa using e) (by rw[show i+(j+1)=i+1+j by lia];exact A0);exact⟨a,b,c1,c2,by rw[show i+1+j+1=i+(j+1)+1 by lia];exact c3⟩) (by simpa using h2)
  refine⟨B9,?_,by rw[FQ,show i+(ds.length+1)=i+1+ds.length by lia];exact h3⟩;rw[H3,A1,Dl,A7,Dl];exact B8
def w9{mi:Ad}{set:D->A8->R A8}{body:B6}{ds:List D}{ρ:A8}(I:Nat->A8->Prop)(A0:mi ρ=.ok ds)(st:∀(j:Nat) d ρ,ds[j]?=some d->I j ρ->∃ρ1 B9,set d ρ=.ok ρ1/\body ρ1=.ok (.BK B9)/\I (j+1) B9)(h:I 0 ρ):∃B9,Eb mi set body ρ=.ok (.BK B9)/\I ds.length B9:=by obtain⟨B9,e,h'⟩:=lp I ds 0 ρ (λj d ρ e BO=>by rw[Pw]at BO |-;exact st j d ρ e BO) h;rw[Pw]at h';exact⟨B9,by rw[qo,A0,Dl,e],h'⟩
@[simp] theorem aiz(d:D):FO (.AI d)=.AI d:=(rfl)
def gS(i:Nat)(ρ:A8)(ds:List D)(d:D):R FK:=if ds.length<1000000 then .ok (.BK (ρ.set i (.BQ (ds++[d]))))else .bad
@[simp] theorem aix{i:Nat}{ρ:A8}{ds:List D}{d:D}(h:ds.length<1000000):gS i ρ ds d=.ok (.BK (ρ.set i (.BQ (ds++[d])))):=if_pos h
@[simp] theorem akv(i:Nat)(m:AY)(ρ:A8):Lp i m ρ=(ownAt i ρ).bind λds=>(m ρ).bind λd=>gS i ρ ds d:=(rfl)
@[simp] theorem akx(i:Nat)(m:Cz)(ρ:A8):Se i m ρ=(ownAt i ρ).bind λ_=>(m ρ).bind λx=>(ownAt i x.2).bind λds=>gS i x.2 ds x.1:=(rfl)
@[simp] theorem akT(m:AY)(ρ:A8):lf m ρ=(m ρ).bind λd=>.ok (d,ρ):=(rfl)
@[simp] theorem akU(m:Ad)(ρ:A8):Lo m ρ=(m ρ).bind λd=>.ok (d,ρ):=(rfl)
@[simp] theorem akJ(a:Cz)(r:FM)(ρ:A8):IW a r ρ=(a ρ).bind λx=>(r x.2).bind λy=>.ok (x.1::y.1,y.2):=(rfl)
@[simp] theorem alH(m:FM)(ρ:A8):P1 m ρ=(m ρ).bind λx=>(Vd x.1).bind λd=>.ok (d,x.2):=by
  unfold P1 Vd
  congr 1;funext x
  split<;>rfl
def kh(i:Nat)(ds:List D)(ρ:A8):D->R (D×A8)
 |.lst es=>if ds.length+es.length<=1000000 then .ok (.non,ρ.set i (.BQ (ds++es)))else .bad
 |_=>.bad
@[simp] theorem akN(i:Nat)(m:AY)(ρ:A8):V7 i m ρ=(ownAt i ρ).bind λds=>(m ρ).bind λd=>kh i ds ρ d:=by unfold V7;congr 1
@[simp] theorem aif{i:Nat}{ds es:List D}{ρ:A8}(h:ds.length+es.length<=1000000):kh i ds ρ (.lst es)=.ok (.non,ρ.set i (.BQ (ds++es))):=if_pos h
def Vt(i:Nat)(ds:List D)(ρ:A8):D->R (D×A8)
 |.int k=>if-(2^63)<=k/\k<2^63 then match Rz k ds.length with
  |some j=>match ds[j]? with
   |some y=>.ok (y,ρ.set i (.BQ (ds.eraseIdx j)))
   |none=>.bad
  |none=>.bad
  else .bad
 |_=>.bad
@[simp] theorem akB(i:Nat)(m:AY)(ρ:A8):Zh i m ρ=(ownAt i ρ).bind λds=>(m ρ).bind λd=>Vt i ds ρ d:=by unfold Zh;congr 1
def ad0{i:Nat}{ds:List D}{ρ:A8}{k:Nat}(h:k<ds.length)(AF:ds.length<1000000):Vt i ds ρ (.int (k:Int))=.ok (ds[k],ρ.set i (.BQ (ds.eraseIdx k))):=by
 have EZ: -(2^63)<=(k:Int):=Int.le_trans (by decide) (Int.natCast_nonneg k);have DG:(k:Int)<2^63:=Int.lt_trans (b:=1000000) (by lia) (by decide);have s:Rz (k:Int) ds.length=some k:=by rw[PySem.seqIndex_of (by lia) (by lia)];simp
 simp only[Vt,if_pos (And.intro EZ DG),s,C5 h]
@[simp] theorem akW(m:Ad)(ρ:A8):Sh m ρ=(m ρ).bind Uy:=(rfl)
@[simp] theorem akV(m:Ad)(ρ:A8):Si m ρ=(m ρ).bind Ux:=(rfl)
@[simp] theorem alJ(set:D->A8->R A8)(m:AY)(ρ:A8):R8 set m ρ=(m ρ).bind λd=>(set d ρ).bind λB9=>.ok (.BK B9):=(rfl)
@[simp] theorem qq(m:AY)(ρ:A8):LM m ρ=(m (Em ρ)).bind λd=>.ok (.DB d):=(rfl)
@[simp] theorem ajE(ds:List D):eb (.lst ds)=.ok ds:=(rfl)
@[simp] theorem ajN{xs:List D}(h:xs.length<=1000000):lim xs=.ok xs:=if_pos h
@[simp] theorem aji:Em []=[]:=(rfl)
@[simp] theorem aj7(s:C4)(ρ:A8):Em (s::ρ)=N1 s::Em ρ:=(rfl)
@[simp] theorem ail(d:D):N1 (.AI d)=.AI d:=(rfl)
@[simp] theorem aio:N1 .un=.un:=(rfl)
@[simp] theorem aim(ds:List D):N1 (.ob (.lst ds))=.AI (.lst ds):=(rfl)
@[simp] theorem ajb(i:Int):ZN (.int i)=.ok (.int i):=(rfl)
@[simp] theorem ajY{α:Type}(a:α):Ep (R.ok a)=.ok a:=(rfl)
def dy:Option C4->R (List D)
 |some (.ob (.lst ds))=>.ok ds
 |_=>.bad
@[simp] theorem alK(i:Nat)(ρ:A8):P2 i ρ=dy ρ[i]?:=by unfold P2 dy;rfl
@[simp] theorem alO(ds:List D):dy (some (.BQ ds))=.ok ds:=(rfl)
@[simp] theorem akI(f g:D->D->R D)(a b c:AY)(ρ:A8):Nf f g a b c ρ=(a ρ).bind λx=>(b ρ).bind λy=>(f x y).bind λz=>(MF z).bind λk=>if k=true then(c ρ).bind λw=>g y w else .ok (.AO false):=(rfl)
@[simp] theorem ak1(N:Nat)(ds:List D):Ha N ds=ds.map .AI++Q1 (N-ds.length) .un:=(rfl)
def Go{xs:List D}{k:Nat}{d:D}(h:xs[k]?=some d):Ah (.lst xs) (.int (k:Int))=.ok d:=by
 have AG:=(List.getElem?_eq_some_iff.mp h).1;have e:Fx xs (k:Int)=some d:=by unfold Fx JC;rw[if_pos (by lia),if_pos (by lia)];simpa using h
 simp only[Ah,e]
def zA{xs:List D}{k:Nat}{d:D}(h:xs[k]?=some d):Ah (.Cd xs) (.int (k:Int))=.ok d:=by
 have AG:=(List.getElem?_eq_some_iff.mp h).1;have e:Fx xs (k:Int)=some d:=by unfold Fx JC;rw[if_pos (by lia),if_pos (by lia)];simpa using h
 simp only[Ah,e]
def cO{xs:List D}{k:Nat}{d:D}(h:xs[k]?=some d):Ah (.tup xs) (.int (k:Int))=.ok d:=by
 have AG:=(List.getElem?_eq_some_iff.mp h).1;have e:Fx xs (k:Int)=some d:=by unfold Fx JC;rw[if_pos (by lia),if_pos (by lia)];simpa using h
 simp only[Ah,e]
def Sz(x:Int){n:Nat}(h:0<n):∃k:Nat,k<n/\x%(n:Int)=(k:Int):=by have h0:0<=x%(n:Int):=Ps _ (by lia);have h1:x%(n:Int)<(n:Int):=Pv _ (by lia);obtain⟨k,e⟩:=fT h0;exact⟨k,by lia,e⟩
@[simp] theorem adp(n:Nat)(h:n<1000000):PJ [.int (n:Int)]=.ok (Ge 0 n):=by have: -(2^62)<=(n:Int)/\(n:Int)<2^62:=⟨by lia,by lia⟩;simp only[PJ,if_pos this,RV]
def acC{n j:Nat}{d:D}(h:(Ge 0 n)[j]?=some d):j<n/\d=.int (j:Int):=by
 unfold Ge at h;rw[EH]at h;cases e:(EI n)[j]? with
 |none=>rw[e]at h;cases h
 |some k=>
  rw[e]at h;have BO:j<n:=by have:=(List.getElem?_eq_some_iff.mp e).1;simpa using this
  rw[Tk BO]at e;cases e;simp at h;exact⟨BO,h.symm⟩
@[simp] theorem acE(a:Int)(n:Nat):(Ge a n).length=n:=by simp[Ge]
@[simp] theorem alM{α β aiH:Type}(r:R α)(f:α->R β)(g:β->R aiH):(r.bind f).bind g=r.bind λx=>(f x).bind g:=by cases r<;>rfl
def Ends{β:Type}(r:R β)(T:β->Prop):Prop:=∃b,r=.ok b/\T b
@[simp] theorem aj3{β:Type}(b:β)(T:β->Prop):Ends (.ok b) T=T b:=propext ⟨λ⟨c,e,h⟩=>by cases e;exact h,λh=>⟨b,rfl,h⟩⟩
def MU(I:A8->Prop)(f:FK):Prop:=∃ρ,f=.BK ρ/\I ρ
@[simp] theorem aiq(I:A8->Prop)(ρ:A8):MU I (.BK ρ)=I ρ:=propext ⟨λ⟨r,e,h⟩=>by cases e;exact h,λh=>⟨ρ,rfl,h⟩⟩
def j6{β:Type}{mi:Ad}{set:D->A8->R A8}{body:B6}{ds:List D}{ρ:A8}{k:FK->R β}{T:β->Prop}(I:Nat->A8->Prop)(A0:mi ρ=.ok ds)(h0:I 0 ρ)(st:∀(j:Nat) d ρ,ds[j]?=some d->I j ρ->Ends ((set d ρ).bind body) (MU (I (j+1))))(fin:∀B9,I ds.length B9->Ends (k (.BK B9)) T):Ends ((Eb mi set body ρ).bind k) T:=by
 obtain⟨B9,e,h⟩:=w9 (body:=body) (set:=set) (mi:=mi) I A0 (λj d ρ hd Jd=>by
  obtain⟨b,e,B9,rfl,h⟩:=st j d ρ hd Jd;cases es:set d ρ with
  |bad=>rw[es]at e;cases e
  |exc c=>rw[es]at e;cases e
  |ok ρ1=>rw[es,Dl]at e;exact⟨ρ1,B9,rfl,e,h⟩) h0
 rw[e,Dl];exact fin B9 h
def q4(i:Nat):FK->R FK
 |.BK B9=>.ok (.BK (L9 i B9))
 |f=>.ok f
@[simp] theorem alB(i:Nat)(a:Ad)(ρ:A8):R7 i a ρ=(G1 i a ρ).bind (q4 i):=by unfold R7;congr 1
@[simp] theorem aki(i:Nat)(ρ:A8):q4 i (.BK ρ)=.ok (.BK (L9 i ρ)):=(rfl)
@[simp] theorem alC(f:D->Option Int->Option Int->R D)(m:AY)(lo A0:MT)(ρ:A8):GR f m lo A0 ρ=(m ρ).bind λd=>(lo ρ).bind λl=>(A0 ρ).bind λh=>f d l h:=(rfl)
def XR(i:Nat)(ρ:A8):Option C4->A8
 |some (.ob o)=>ρ.set i (.AI (JG o))
 |_=>ρ
@[simp] theorem aik(i:Nat)(ρ:A8):L9 i ρ=XR i ρ ρ[i]?:=by unfold L9 XR;rfl
@[simp] theorem aij(i:Nat)(ρ:A8)(ds:List D):XR i ρ (some (.BQ ds))=ρ.set i (.AI (.lst ds)):=(rfl)
@[simp] theorem akc(ρ:A8):IY ρ=.ok none:=(rfl)
@[simp] theorem ak9(m:AY)(ρ:A8):HD m ρ=(m ρ).bind intD:=(rfl)
@[simp] theorem ak2(i:Int):intD (.int i)=.ok (some i):=(rfl)
def uk{β α:Type}{mi:Ad}{elt:AY}{tst:C7}{caps:List Nat}{ρ:A8}{k:List D->R β}{T:β->Prop}(g:α->D)(xs:List α)(p:α->Bool)(f:α->D)(A0:mi ρ=.ok (xs.map g))(AF:xs.length<=1000)(BF:∀a∈xs,tst (.AI (g a)::caps.map λj=>FO (ρ.getD j .un))=.ok (p a))(h:∀a∈xs,p a=true->elt (.AI (g a)::caps.map λj=>FO (ρ.getD j .un))=.ok (f a))(fin:Ends (k ((xs.filter p).map f)) T):Ends ((Ej 1 caps mi (B_ 0) tst elt ρ).bind k) T:=by
 have go:∀(xs:List α)(ws:List D)(s0:C4),ws.length+xs.length<=1000000->(∀a∈xs,tst (.AI (g a)::caps.map λj=>FO (ρ.getD j .un))=.ok (p a))->(∀a∈xs,p a=true->elt (.AI (g a)::caps.map λj=>FO (ρ.getD j .un))=.ok (f a))->Hk (B_ 0) tst elt (xs.map g) (s0::caps.map λj=>FO (ρ.getD j .un)) ws=.ok (ws++(xs.filter p).map f):=by
  intro xs;induction xs with
  |nil=>intro ws s0 _ _ _;simp[Hk]
  |cons a xs Bg=>
   intro ws s0 AF BF h;simp only[FQ]at AF;have CF:B_ 0 (g a) (s0::caps.map λj=>FO (ρ.getD j .un))=.ok (.AI (g a)::caps.map λj=>FO (ρ.getD j .un)):=by simp
   rw[DP,Hk,CF,Dl,BF a (by simp),Dl];cases e:p a with
   |true=>simp only[if_true,h a (by simp) e,Dl,if_pos (show ws.length<1000000 by lia)];rw[Bg (ws++[f a]) _ (by simp;lia) (λx A5=>BF x (by simp[A5])) λx A5=>h x (by simp[A5])];simp[e]
   |false=>simp only[FZ,if_false];rw[Bg ws _ (by lia) (λx A5=>BF x (by simp[A5])) λx A5=>h x (by simp[A5])];simp[e]
 rw[qm,A0,Dl];have e:=go xs [] .un (by simp;lia) BF h;have:Ep (Hk (B_ 0) tst elt (xs.map g) (KQ 1 caps ρ) [])=.ok ((xs.filter p).map f):=by show Ep (Hk (B_ 0) tst elt (xs.map g) (.un::caps.map λj=>FO (ρ.getD j .un)) [])=_;rw[e];rfl
 rw[this,Dl];exact fin
def O_{β α:Type}{mi:Ad}{elt:AY}{caps:List Nat}{ρ:A8}{k:List D->R β}{T:β->Prop}(g:α->D)(xs:List α)(f:α->D)(A0:mi ρ=.ok (xs.map g))(AF:xs.length<=1000)(h:∀a∈xs,elt (.AI (g a)::caps.map λj=>FO (ρ.getD j .un))=.ok (f a))(fin:Ends (k (xs.map f)) T):Ends ((Ej 1 caps mi (B_ 0) Ez elt ρ).bind k) T:=
 uk g xs (λ_=>true) f A0 AF (λ_ _=>rfl) (λa A2 _=>h a A2) (by rw[List.filter_eq_self.mpr λ_ _=>rfl];exact fin)
def oj(n:Nat):Ge 0 n=(EI n).map λ(i:Nat)=>.int (i:Int):=by simp[Ge]
def bH{β:Type}{mi:Ad}{elt:AY}{caps:List Nat}{ρ:A8}{k:List D->R β}{T:β->Prop}(n:Nat)(f:Nat->D)(A0:mi ρ=.ok (Ge 0 n))(AF:n<=1000)(h:∀a,a<n->elt (.AI (.int (a:Int))::caps.map λj=>FO (ρ.getD j .un))=.ok (f a))(fin:Ends (k ((EI n).map f)) T):Ends ((Ej 1 caps mi (B_ 0) Ez elt ρ).bind k) T:=
 O_ (λ(i:Nat)=>.int (i:Int)) (EI n) f (by rw[A0,oj]) (by simpa using AF) (λa A2=>h a (by simpa using A2)) fin
def T6{β α:Type}{mi:Ad}{set:D->A8->R A8}{body:B6}{ρ:A8}{k:FK->R β}{T:β->Prop}(g:α->D)(xs:List α)(I:Nat->A8->Prop)(A0:mi ρ=.ok (xs.map g))(h0:I 0 ρ)(st:∀(j:Nat) a ρ,xs[j]?=some a->I j ρ->Ends ((set (g a) ρ).bind body) (MU (I (j+1))))(fin:∀B9,I xs.length B9->Ends (k (.BK B9)) T):Ends ((Eb mi set body ρ).bind k) T:=
 j6 I A0 h0 (λj d ρ hd Jd=>by
  rw[EH]at hd;cases e:xs[j]? with
  |none=>rw[e]at hd;cases hd
  |some a=>rw[e]at hd;cases hd;exact st j a ρ e Jd) (by rw[Eh];exact fin)
def Oh{β:Type}{mi:Ad}{set:D->A8->R A8}{body:B6}{ρ:A8}{k:FK->R β}{T:β->Prop}(n:Nat)(I:Nat->A8->Prop)(A0:mi ρ=.ok (Ge 0 n))(h0:I 0 ρ)(st:∀(j:Nat) ρ,j<n->I j ρ->Ends ((set (.int (j:Int)) ρ).bind body) (MU (I (j+1))))(fin:∀B9,I n B9->Ends (k (.BK B9)) T):Ends ((Eb mi set body ρ).bind k) T:=
 j6 I A0 h0 (λj d ρ hd Jd=>by obtain⟨BO,rfl⟩:=acC hd;exact st j ρ BO Jd) (by rw[acE];exact fin)
theorem oF{α β:Type}(f:α->β):∀(l:List α)(i:Nat),(l.map f).eraseIdx i=(l.eraseIdx i).map f
 |[],_=>rfl
 |x::l,0=>rfl
 |x::l,i+1=>by simp only[ry,DP,oF f l i]
def pB{α:Type}(g:α->D){l:List α}{i:Nat}{k:Nat}(h:k<l.length)(AF:l.length<1000000)(ρ:A8):Vt i (l.map g) ρ (.int (k:Int))=.ok (g l[k],ρ.set i (.BQ ((l.eraseIdx k).map g))):=by rw[ad0 (by simpa using h) (by simpa using AF),oF];simp
@[simp] theorem aiw{xs ys:List D}(h:xs.length+ys.length<=1000000):DY (.lst xs) (.lst ys)=.ok (.lst (xs++ys)):=if_pos h
@[simp] theorem pk(xs:List D)(l h:Option Int):Fj (.lst xs) l h=.ok (.lst (FW xs l h)):=(rfl)
@[simp] theorem ajG(xs:List D)(l h:Option Int):Fj (.Cd xs) l h=.ok (.lst (FW xs l h)):=(rfl)
def gt{α:Type}(xs:List α)(k:Nat):FW xs none (some (k:Int))=xs.take k:=by
 unfold FW;rw[DL.oS,DL.cx,List.drop_zero,Nat.sub_zero];by_cases h:k<=xs.length
 .rw[gD h]
 .rw[Nat.min_eq_right (by lia),Wr,Wi (by lia)]
def jF{α:Type}(xs:List α)(k:Nat):FW xs (some (k:Int)) none=xs.drop k:=by
 unfold FW;rw[DL.oS,DL.cx];by_cases h:k<=xs.length
 .rw[gD h,<-Tg,Wr]
 .rw[Nat.min_eq_right (by lia),List.drop_length,rz (by lia)];simp
def S8{α β:Type}(g:α->β)(xs:List α)(l h:Option Int):FW (xs.map g) l h=(FW xs l h).map g:=by unfold FW;simp[List.map_take,List.map_drop]
@[simp] theorem adE(Am:List (D->A8->R A8))(ds:List D)(ρ:A8):G8 Am (.tup ds) ρ=Hx Am ds ρ:=(rfl)
@[simp] theorem adn(ρ:A8):Hx [] [] ρ=.ok ρ:=(rfl)
@[simp] theorem adm(f:D->A8->R A8)(Am:List (D->A8->R A8))(d:D)(ds:List D)(ρ:A8):Hx (f::Am) (d::ds) ρ=(f d ρ).bind λB9=>Hx Am ds B9:=(rfl)
@[simp] theorem akZ(BX:Str)(n:Nat)(mf:List D->R (List Str×List D))(ma:Ad)(ρ:A8):V9 BX n mf ma ρ=(ma ρ).bind λds=>if ds.length=n then(Ep (mf ds)).bind λx=>.ok (.ins BX x.1 x.2)else .bad:=(rfl)
@[simp] theorem ajX(i:Int):ZD (.int i)=.ok (.int (-i)):=(rfl)
@[simp] theorem qp(m:Ad)(ρ:A8):P0 m ρ=(m ρ).bind T7:=(rfl)
@[simp] theorem v_is(m:AY)(ρ:A8):Sf m ρ=(m ρ).bind ee:=(rfl)
@[simp] theorem alD(m:Ad)(ρ:A8):Zj m ρ=(m ρ).bind W1:=(rfl)
@[simp] theorem aka(i:Nat)(m:B6)(ρ:A8):V8 i m ρ=m (L9 i ρ):=(rfl)
@[simp] theorem akP(c:C7)(a b:AY)(ρ:A8):Sg c a b ρ=(c ρ).bind λk=>if k=true then a ρ else b ρ:=(rfl)
@[simp] theorem akg(a b:AY)(ρ:A8):VA a b ρ=(a ρ).bind λx=>(MF x).bind λc=>if c=true then .ok (.AO true)else b ρ:=(rfl)
@[simp] theorem ak_(BX mt:Str)(n:Nat)(mf:List D->R Bf)(o:AY)(ma:Ad)(ρ:A8):IX BX mt n mf o ma ρ=(o ρ).bind λd=>(Nq BX mt d).bind λd=>(ma ρ).bind λds=>if ds.length=n then(mf (d::ds)).bind HJ else .bad:=(rfl)
@[simp] theorem akY(i:Nat)(a:Od)(ρ:A8):VE i a ρ=(a ρ).bind λt=>if i<ρ.length then .ok (.BK (ρ.set i (.DF t)))else .bad:=(rfl)
@[simp] theorem akX(a:Od)(ρ:A8):VD a ρ=(a ρ).bind λt=>.ok (.Dw t):=(rfl)
noncomputable def eO:Option C4->R T
 |some (.DF t)=>.ok t
 |_=>.bad
@[simp] theorem alL(i:Nat)(ρ:A8):Sl i ρ=eO ρ[i]?:=by unfold Sl eO;rfl
@[simp] theorem alP(t:T):eO (some (.DF t))=.ok t:=(rfl)
noncomputable def eK:Option C4->R (List T)
 |some (.DF (.lst Ap))=>.ok Ap
 |_=>.bad
@[simp] theorem alF(i:Nat)(ρ:A8):Nu i ρ=eK ρ[i]?:=by unfold Nu eK;rfl
@[simp] theorem akl(Ap:List T):eK (some (.DF (.lst Ap)))=.ok Ap:=(rfl)
@[simp] theorem ajc(t:T):outD (.Dw t)=.ok (.t t):=(rfl)
@[simp] theorem ain(t:T):N1 (.DF t)=.AI (toD t):=(rfl)
@[simp] theorem akw(i:Nat)(mk m:AY)(ρ:A8):Za i mk m ρ=(Nu i ρ).bind λAp=>(mk ρ).bind λk=>UN i ρ Ap m k:=(rfl)
def sz{i:Nat}{ρ:A8}{Ap:List T}{m:AY}{k:Nat}{us:List T}{d:D}(h:Ap[k]?=some (.lst us))(hm:m ρ=.ok d)(B0:us.length<1000000):UN i ρ Ap m (.int (k:Int))=.ok (.BK (ρ.set i (.DF (.lst (Ap.set k (.lst (us++[.AI d]))))))):=by
 have AG:=(List.getElem?_eq_some_iff.mp h).1;have e:JC Ap.length (k:Int)=some k:=by unfold JC;rw[if_pos (by lia),if_pos (by lia)];simp
 simp only[UN,e,gT,h,hm,Dl,if_pos B0]
@[simp] theorem akk(k:Bool):Vc [.AO k]=.ok (.int (if k then 1 else 0)):=(rfl)
@[simp] theorem ak3(x:D):JA true x .non=.ok (.AO (IV x)):=(rfl)
@[simp] theorem ajF(x:Str):ee (.str x)=.ok (x.cps.toList.map I8):=(rfl)
def Xn{α:Type}(g:α->D)(xs:List α):T7 [.lst (xs.map g)]=.ok (xs.zipIdx.map λp=>.tup [.int (p.2:Int),g p.1]):=by
 simp only[T7,PL]
 congr 1
 rw[List.zipIdx_map,Tz];rfl
def f6{α:Type}{xs:List α}{j:Nat}{p:α×Nat}(h:xs.zipIdx[j]?=some p):p.2=j/\xs[j]?=some p.1:=by
 rw[sP]at h;cases e:xs[j]? with
 |none=>rw[e]at h;cases h
 |some a=>rw[e]at h;simp at h;subst h;exact⟨rfl,rfl⟩
def rX{α:Type}{xs:List α}{p:α×Nat}(h:p∈xs.zipIdx):xs[p.2]?=some p.1:=by obtain⟨j,e⟩:=List.mem_iff_getElem?.mp h;obtain⟨h1,h2⟩:=f6 e;rw[h1];exact h2
def bF{β α:Type}{mi:Ad}{elt:AY}{caps:List Nat}{ρ:A8}{k:List D->R β}{UK:β->Prop}(g1 g2:α->D)(xs:List α)(f:α->D)(A0:mi ρ=.ok (xs.map λa=>.tup [g1 a,g2 a]))(AF:xs.length<=1000)(h:∀a∈xs,elt (.AI (g1 a)::.AI (g2 a)::caps.map λj=>FO (ρ.getD j .un))=.ok (f a))(fin:Ends (k (xs.map f)) UK):Ends ((Ej 2 caps mi (G8 [B_ 0,B_ 1]) Ez elt ρ).bind k) UK:=by
 have go:∀(xs:List α)(ws:List D)(s0 s1:C4),ws.length+xs.length<=1000000->(∀a∈xs,elt (.AI (g1 a)::.AI (g2 a)::caps.map λj=>FO (ρ.getD j .un))=.ok (f a))->Hk (G8 [B_ 0,B_ 1]) Ez elt (xs.map λa=>.tup [g1 a,g2 a]) (s0::s1::caps.map λj=>FO (ρ.getD j .un)) ws=.ok (ws++xs.map f):=by
  intro xs;induction xs with
  |nil=>intro ws s0 s1 _ _;simp[Hk]
  |cons a xs Bg=>
   intro ws s0 s1 AF h;simp only[FQ]at AF;have CF:G8 [B_ 0,B_ 1] (.tup [g1 a,g2 a]) (s0::s1::caps.map λj=>FO (ρ.getD j .un))=.ok (.AI (g1 a)::.AI (g2 a)::caps.map λj=>FO (ρ.getD j .un)):=by simp
   rw[DP,Hk,CF,Dl];simp only[Ez,Dl,if_true,h a (by simp),if_pos (show ws.length<1000000 by lia)];rw[Bg (ws++[f a]) _ _ (by simp;lia) λx A5=>h x (by simp[A5])];simp
 rw[qm,A0,Dl];have e:=go xs [] .un .un (by simp;lia) h;have:Ep (Hk (G8 [B_ 0,B_ 1]) Ez elt (xs.map λa=>.tup [g1 a,g2 a]) (KQ 2 caps ρ) [])=.ok (xs.map f):=by show Ep (Hk (G8 [B_ 0,B_ 1]) Ez elt (xs.map λa=>.tup [g1 a,g2 a]) (.un::.un::caps.map λj=>FO (ρ.getD j .un)) [])=_;rw[e];rfl
 rw[this,Dl];exact fin
def ul{β α:Type}{mi:Ad}{elt:Ad}{caps:List Nat}{ρ:A8}{k:T->R β}{UK:β->Prop}(g:α->D)(xs:List α)(f:α->List D)(A0:mi ρ=.ok (xs.map g))(AF:xs.length<=1000)(h:∀a∈xs,elt (.AI (g a)::caps.map λj=>FO (ρ.getD j .un))=.ok (f a))(fin:Ends (k (.lst (xs.map λa=>Ji (f a)))) UK):Ends ((Lr 1 caps mi (B_ 0) Ez elt ρ).bind k) UK:=by
 have go:∀(xs:List α)(ws:List T)(s0:C4),ws.length+xs.length<=1000000->(∀a∈xs,elt (.AI (g a)::caps.map λj=>FO (ρ.getD j .un))=.ok (f a))->L6 (B_ 0) Ez elt (xs.map g) (s0::caps.map λj=>FO (ρ.getD j .un)) ws=.ok (ws++xs.map λa=>Ji (f a)):=by
  intro xs;induction xs with
  |nil=>intro ws s0 _ _;simp[L6]
  |cons a xs Bg=>
   intro ws s0 AF h;simp only[FQ]at AF;have CF:B_ 0 (g a) (s0::caps.map λj=>FO (ρ.getD j .un))=.ok (.AI (g a)::caps.map λj=>FO (ρ.getD j .un)):=by simp
   rw[DP,L6,CF,Dl];simp only[Ez,Dl,if_true,h a (by simp),if_pos (show ws.length<1000000 by lia)];rw[Bg (ws++[Ji (f a)]) _ (by simp;lia) λx A5=>h x (by simp[A5])];simp
 have e:=go xs [] .un (by simp;lia) h;have:Lr 1 caps mi (B_ 0) Ez elt ρ=.ok (.lst (xs.map λa=>Ji (f a))):=by
  unfold Lr;rw[A0,Dl];have:Ep (L6 (B_ 0) Ez elt (xs.map g) (KQ 1 caps ρ) [])=.ok (xs.map λa=>Ji (f a)):=by show Ep (L6 (B_ 0) Ez elt (xs.map g) (.un::caps.map λj=>FO (ρ.getD j .un)) [])=_;rw[e];rfl
  rw[this,Dl]
 rw[this,Dl];exact fin
def Ends.done{β:Type}{r:R β}{b:β}(h:Ends r (· =b)):r=.ok b:=by obtain⟨c,e,rfl⟩:=h;exact e
end Cj
set_option hygiene false in
local macro_rules| `(tactic|simp! [$a,*])=> `(tactic|simp(disch:=first|lia|(simp;done)|(simp;lia)) [$a,*])
def Ff{α:Type}{l:List α}{i:Nat}{a:α}:l[i]?=some a↔∃h:i<l.length,l[i]=a:=List.getElem?_eq_some_iff
namespace Cs
open PySem PySem.Spec CE Cj
noncomputable def top(i:Nat):BG:=PySem.Challenge.pw_nohalfway_k65_whole_ways_end.main.body.getD i (.Pass ⟨0,0,0,0⟩)
abbrev Z6:BG:=top 46
abbrev cq:BG:=top 41
abbrev eP:BG:=top 47
abbrev ck:BG:=top 38
abbrev ci:BG:=top 48
abbrev cv:BG:=top 39
abbrev cp:BG:=top 40
abbrev eU:BG:=top 42
abbrev eR:BG:=top 43
abbrev eS:BG:=top 44
abbrev cj:BG:=top 45
abbrev eV:BG:=top 49
abbrev dG:BG:=top 7
abbrev dH:BG:=top 8
abbrev d5:BG:=top 31
abbrev dD:BG:=top 32
abbrev dB:BG:=top 33
abbrev dI:BG:=top 34
abbrev d6:BG:=top 35
abbrev d0:BG:=inClass (top 36) 0
abbrev cr:BG:=top 57
abbrev dM:BG:=top 56
abbrev eQ:BG:=top 58
abbrev dL:BG:=top 50
abbrev d4:BG:=inClass (top 36) 4
abbrev dE:BG:=top 14
abbrev dC:BG:=top 18
abbrev dF:BG:=top 19
abbrev d9:BG:=top 20
abbrev cz:BG:=inClass (top 36) 1
abbrev dA:BG:=top 21
abbrev eX:BG:=top 22
abbrev d2:BG:=inClass (top 36) 5
abbrev d3:BG:=inClass (top 36) 6
abbrev d8:BG:=top 13
abbrev d7:BG:=top 15
abbrev eY:BG:=top 23
abbrev cy:BG:=inClass (top 36) 3
abbrev eW:BG:=top 25
abbrev eZ:BG:=top 26
abbrev e_:BG:=top 27
abbrev cu:BG:=top 55
abbrev cn:BG:=top 51
abbrev eT:BG:=top 52
abbrev ct:BG:=top 53
abbrev dK:BG:=top 54
abbrev dJ:BG:=top 59
abbrev Oj:BG:=top 60
def S2:D:=.int 15
def S3:D:=.int 4
def S4:D:=.int 6
def S5:D:=.int 12
noncomputable def S6:D:=.EQ [.str (CL "0"),.str (CL "1"),.str (CL "x")]
noncomputable def QL:D:=.EQ [.int 8,.int 4,.int 2,.int 1]
structure Da(K:AT)(AA:Str->Option U):Prop where
 kS:D1 K AA "_law_digit" Z6 ["_law_state","_law_many"]
 kT:D1 K AA "_law_doors" cq ["_law_counts_here"]
 jx:D1 K AA "_law_net_by" eP ["_law_state"]
 kP:D1 K AA "_law_cell_at" ck ["_law_script","_law_k"]
 kN:D1 K AA "_law_book_by" ci ["_law_state","_law_doors_here"]
 kX:D1 K AA "_law_mix" cv ["_law_cell","_law_k"]
 kR:D1 K AA "_law_counts" cp ["_law_script"]
 k7:D1 K AA "_law_wires" eU ["_law_script","_law_counts_here"]
 jz:D1 K AA "_law_pattern" eR ["_law_number"]
 k4:D1 K AA "_law_row" eS ["_law_cell","_law_k","_law_doors_here"]
 kO:D1 K AA "_law_books" cj ["_law_cells","_law_counts_here"]
 k8:D1 K AA "_law_world" eV ["_law_script"]
 kH:D1 K AA "is_whole" dG ["thing"]
 kI:D1 K AA "is_whole_within" dH ["thing","least","greatest"]
 kr:D1 K AA "are_counts" d5 ["thing"]
 kE:D1 K AA "is_pair" dD ["thing"]
 kC:D1 K AA "is_door_among" dB ["counts","thing"]
 kJ:D1 K AA "is_wire_among" dI ["counts","thing"]
 ku:D1 K AA "far_doors" d6 ["counts","wires"]
 kn:InK K AA "Net" "Net.__init__" d0 ["self","counts","wires"]
 kU:D1 K AA "_law_fewer_rows" cr ["_law_book"]
 kY:D1 K AA "_law_more_rows" dM ["_law_book","_law_number"]
 jy:D1 K AA "_law_otherwise" eQ ["_law_books_here","_law_number"]
 kM:D1 K AA "_law_asked" dL ["_law_script"]
 kq:Qm K "Net" "outer" "Net.outer" d4 ["self"]
 kF:D1 K AA "is_pattern" dE ["thing"]
 kD:D1 K AA "is_number_or_none" dC ["thing","doors"]
 kG:D1 K AA "is_row" dF ["thing","doors"]
 ky:D1 K AA "is_book" d9 ["thing","doors"]
 km:Qm K "Net" "count" "Net.count" cz ["self","house"]
 kz:D1 K AA "is_books" dA ["thing","net"]
 kA:D1 K AA "refuse_unless_books" eX ["thing","net"]
 ko:Qm K "Net" "is_door" "Net.is_door" d2 ["self","thing"]
 kp:Qm K "Net" "is_outer" "Net.is_outer" d3 ["self","thing"]
 kx:D1 K AA "is_address" d8 ["thing"]
 kv:D1 K AA "fits" d7 ["pattern","address"]
 kB:D1 K AA "taken" eY ["book","door","address"]
 kl:Qm K "Net" "beyond" "Net.beyond" cy ["self","door"]
 k9:D1 K AA "onward" eW ["net","book","door","address"]
 kZ:D1 K AA "walked" eZ ["net","books","door","address"]
 l_:D1 K AA "way" e_ ["net","books","door","address"]
 kW:D1 K AA "_law_marks" cu ["_law_books_here","_law_address"]
 kQ:D1 K AA "_law_comes_to" cn ["_law_net","_law_books_here","_law_door","_law_address"]
 k6:D1 K AA "_law_walked_well" eT ["_law_net","_law_books_here","_law_door","_law_address","_law_told"]
 kV:D1 K AA "_law_from" ct ["_law_told","_law_door"]
 kL:D1 K AA "_law_alike_behind" dK ["_law_one","_law_other"]
 kK:D1 K AA "_law_address_right" dJ ["_law_net","_law_books_here","_law_other","_law_address","_law_told"]
 uU:D1 K AA "law" Oj ["_law_script"]
 q_:Xu K AA "NoAddress"
 qa:Xu K AA "NoBooks"
 qb:Xu K AA "NoDoor"
 cR:Xt K "Net" ["many","counts","joined","far"]
 iC:AA "abs"=none
 iD:AA "all"=none
 iE:AA "bool"=none
 iF:AA "enumerate"=none
 hr:AA "int"=none
 SP:AA "isinstance"=none
 hJ:AA "len"=none
 Xa:AA "list"=none
 Xb:AA "range"=none
 hL:AA "set"=none
 hM:AA "sorted"=none
 hO:AA "str"=none
 hS:AA "tuple"=none
 iJ:AA "zip"=none
 S2:Qj K AA "GREATEST_ADDRESS" S2
 S3:Qj K AA "MOST_DOORS" S3
 S4:Qj K AA "MOST_HOUSES" S4
 S5:Qj K AA "MOST_ROWS" S5
 S6:Qj K AA "SIGNS" S6
 QL:Qj K AA "WORTHS" QL
def qC:C2 ["_law_state","_law_many","_law_found"] ["_law_state","_law_many"] (BP Z6):=DC
def Ki:List D->List D->R (D×List D):=WI
def qD:C2 ["_law_counts_here","_law_doors_here","_law_house"] ["_law_counts_here"] (BP cq):=DC
def i7:B6:=
    BI (G1 1 (G0 (AL)))
    (BI (Eb (Gp (A9 (Cg Di (A9 (A3 0) (AL))) (AL))) (B_ 2) (V6 (V7 1 (FE (Ej 1 [2] (Gp (A9 (AK Ah (A3 0) (A3 2)) (AL))) (B_ 0) (Ez) (D8 (A9 (A3 1) (A9 (A3 0) (AL)))))))))
    (IZ (P2 1)))
def VG:List D->R Bf:=Cx 3 i7
def qH:C2 ["_law_state","_law_counts_here","_law_house","_law_doors_here","_law_wires_here","_law_k","_law_one"] ["_law_state"] (BP eP):=DC
def XZ:B6:=
    BI (G1 1 (G0 (AL)))
    (BI (Ng (R5 (IW (Lq DY (lf (AM (.int 1))) (JD 0 1 Ki (A9 (AM (.int 6)) (AL)))) (Lo AL))) (B_ 2) (Se 1 (Lq DY (lf (AM (.int 1))) (JD 0 1 Ki (A9 (AM (.int 4)) (AL))))))
    (BI (G1 3 (V2 (Mf 1 VG (A9 (A3 1) (AL)))))
    (BI (G1 4 (G0 (AL)))
    (BI (Ng (R5 (IW (JD 0 1 Ki (A9 (QH (AK DY (AK JY (Cg Di (A9 (A3 3) (AL))) (AM (.int 2))) (AM (.int 1)))) (AL))) (Lo AL))) (B_ 5) (BI (R6 6 (Sj 3 (JD 0 1 Ki (A9 (QH (Cg Di (A9 (A3 3) (AL)))) (AL)))))
    (Se 4 (P1 (IW (lf (A3 6)) (IW (Sj 3 (JD 0 1 Ki (A9 (QH (Cg Di (A9 (A3 3) (AL)))) (AL)))) (Lo AL)))))))
    (LM (D8 (A9 (A3 1) (A9 (A3 4) (AL)))))))))
def WA:List D->List D->R Bf:=V4 7 XZ
def adb:C2 ["_law_script","_law_k"] ["_law_script","_law_k"] (BP ck):=DC
def XX:B6:=
    BI (DA (Be (AK Ox (A3 1) (Cg Di (A9 (A3 0) (AL))))) (CK (AK Ah (A3 0) (A3 1))) (DE))
    (CK (AM (.int 0)))
def HE:List D->R Bf:=Cx 2 XX
def q8:C2 ["_law_state","_law_doors_here","_law_book","_law_k","_law_pattern_here","_law_into"] ["_law_state","_law_doors_here"] (BP ci):=DC
def XW:B6:=
    BI (G1 2 (G0 (AL)))
    (BI (Ng (R5 (IW (Nh 0 (JD 0 1 Ki (A9 (AM (.int 13)) (AL)))) (Lo AL))) (B_ 3) (BI (R6 4 (Nh 0 (Zf (CL "") (IW (Mg 0 (Gp (A9 (AM (.int 4)) (AL))) (Lq Ah (lf (AM (.str (CL "01x")))) (JD 1 1 Ki (A9 (AM (.int 3)) (AL))))) (Lo AL)))))
    (BI (R6 5 (Nh 0 (Lq Ah (lf (AK DY (FE (G0 (A9 (AM .non) (AL)))) (FE (Sh (A9 (A3 1) (AL)))))) (JD 0 1 Ki (A9 (AK DY (A3 1) (AM (.int 1))) (AL))))))
    (Se 2 (Nh 0 (P1 (IW (lf (A3 4)) (IW (lf (A3 5)) (IW (Lq Ah (lf (AK DY (FE (G0 (A9 (AM .non) (AL)))) (FE (Sh (A9 (A3 1) (AL)))))) (JD 0 1 Ki (A9 (AK DY (A3 1) (AM (.int 1))) (AL)))) (Lo AL))))))))))
    (Zi 2))
def Un:List D->List D->R (D×List D):=Zc 6 XW
def adf:C2 ["_law_cell","_law_k"] ["_law_cell","_law_k"] (BP cv):=DC
def hD:B6:=
    CK (AK JY (AK Ht (AK Nk (AK DY (AK Ht (A3 0) (AK dS (AM (.int 10)) (AM (.int 30)))) (AM (.int 1))) (AK DY (AK DY (AM (.int 48271)) (AK Nk (AK Nk (AM (.int 2)) (A3 1)) (A3 1))) (A3 1))) (AM (.int 2147483647))) (AM (.int 7)))
def JE:List D->R Bf:=Cx 2 hD
def qB:C2 ["_law_script","_law_many"] ["_law_script"] (BP cp):=DC
def i6:B6:=
    BI (E8 1 (AK DY (AM (.int 1)) (AK Ht (Bt 2 JE (A9 (Bt 2 HE (A9 (A3 0) (A9 (AM (.int 0)) (AL)))) (A9 (AM (.int 1)) (AL)))) (AM (.int 6)))))
    (IZ (Ej 1 [0] (Gp (A9 (A3 1) (AL))) (B_ 0) (Ez) (AK DY (AM (.int 1)) (AK Ht (Bt 2 JE (A9 (Bt 2 HE (A9 (A3 1) (A9 (AM (.int 1)) (AL)))) (A9 (AK DY (AM (.int 3)) (A3 0)) (AL)))) (AM (.int 4))))))
def Up:List D->R Bf:=Cx 2 i6
def qM:C2 ["_law_script","_law_counts_here","_law_doors_here","_law_some","_law_k","_law_dealt","_law_most","_law_many"] ["_law_script","_law_counts_here"] (BP eU):=DC
def hI:B6:=
    BI (E8 2 (FE (Mf 1 VG (A9 (A3 1) (AL)))))
    (BI (G1 3 (G0 (AL)))
    (BI (Eb (Gp (A9 (Cg Di (A9 (A3 2) (AL))) (AL))) (B_ 4) (Lp 3 (D8 (A9 (Bt 2 JE (A9 (AK DY (Bt 2 HE (A9 (A3 0) (A9 (AM (.int 2)) (AL)))) (AK Nk (A3 4) (A3 4))) (A9 (AK DY (AM (.int 20)) (A3 4)) (AL)))) (A9 (AK Ah (A3 2) (A3 4)) (AL))))))
    (BI (V8 3 (R7 5 (Ej 2 [] (Hs (FE (Zj (A9 (A3 3) (AL))))) (G8 [B_ 0,B_ 1]) (Ez) (A3 1))))
    (BI (E8 6 (AK JY (AK Op (Cg Di (A9 (A3 2) (AL))) (AM (.int 1))) (AM (.int 2))))
    (BI (E8 7 (AK Op (A3 6) (AK Ht (Bt 2 JE (A9 (Bt 2 HE (A9 (A3 0) (A9 (AM (.int 3)) (AL)))) (A9 (AM (.int 11)) (AL)))) (AK DY (AK JY (A3 6) (AM (.int 3))) (AM (.int 1))))))
    (IZ (Ej 1 [5] (Gp (A9 (A3 7) (AL))) (B_ 0) (Ez) (D8 (A9 (AK Ah (A3 1) (AK Nk (AM (.int 2)) (A3 0))) (A9 (AK Ah (A3 1) (AK DY (AK Nk (AM (.int 2)) (A3 0)) (AM (.int 1)))) (AL)))))))))))
def WF:List D->R Bf:=Cx 8 hI
def qJ:C2 ["_law_number","_law_signs","_law_k"] ["_law_number"] (BP eR):=DC
def hF:B6:=
    BI (E8 1 (AM (.str (CL ""))))
    (BI (Eb (Gp (A9 (AM (.int 4)) (AL))) (B_ 2) (BI (E8 1 (AK DY (A3 1) (AK Ah (AM (.str (CL "01xx"))) (AK Ht (A3 0) (AM (.int 4))))))
    (E8 0 (AK JY (A3 0) (AM (.int 4))))))
    (CK (A3 1)))
def WC:List D->R Bf:=Cx 3 hF
def qK:C2 ["_law_cell","_law_k","_law_doors_here","_law_number","_law_into","_law_out"] ["_law_cell","_law_k","_law_doors_here"] (BP eS):=DC
def hG:B6:=
    BI (E8 3 (Bt 2 JE (A9 (A3 0) (A9 (A3 1) (AL)))))
    (BI (E8 4 (AK Ah (FE (G0 (A9 (AM .non) (A9 (AK Ht (AK JY (A3 3) (AM (.int 700))) (A3 2)) (AL))))) (AK Ht (AK JY (A3 3) (AM (.int 256))) (AM (.int 2)))))
    (BI (E8 5 (AK Ah (FE (G0 (A9 (AK Ht (AK JY (A3 3) (AM (.int 3000))) (A3 2)) (A9 (AM .non) (AL))))) (Cg Vc (A9 (AK (Ct true) (AK Ht (AK JY (A3 3) (AM (.int 20000))) (AM (.int 9))) (AM (.int 0))) (AL)))))
    (CK (D8 (A9 (Bt 1 WC (A9 (A3 3) (AL))) (A9 (A3 4) (A9 (A3 5) (AL))))))))
def WD:List D->R Bf:=Cx 6 hG
def q9:C2 ["_law_cells","_law_counts_here","_law_books_here","_law_k","_law_cell","_law_house"] ["_law_cells","_law_counts_here"] (BP cj):=DC
def i5:B6:=
    BI (VE 2 (Lr 1 [] (Hs (A3 1)) (B_ 0) (Ez) (G0 (AL))))
    (BI (Eb (P0 (A9 (A3 0) (AL))) (G8 [B_ 3,B_ 4]) (BI (E8 5 (AK Ht (A3 3) (Cg Di (A9 (A3 1) (AL)))))
    (DA (Oy (Be (AK Ox (Cg Di (A9 (AK Ah (A3 2) (A3 5)) (AL))) (AM (.int 12))))) (Za 2 (A3 5) (Bt 3 WD (A9 (A3 4) (A9 (AK DY (AM (.int 31)) (A3 3)) (A9 (AK Ah (A3 1) (A3 5)) (AL)))))) (DE))))
    (VD (Sl 2)))
def Uo:List D->R Bf:=Cx 6 i5
def qN:C2 ["_law_script","_law_counts_here","_law_wires_here","_law_state"] ["_law_script"] (BP eV):=DC
def X_:B6:=
    BI (DA (Be (AK (Ct true) (AK Ht (Bt 2 HE (A9 (A3 0) (A9 (AM (.int 0)) (AL)))) (AM (.int 2))) (AM (.int 1)))) (BI (R8 (G8 [B_ 1,B_ 2]) (Zb WA (G0 (A9 (Cg OS (A9 (Bt 2 HE (A9 (A3 0) (A9 (AM (.int 1)) (AL)))) (AL))) (AL)))))
    (BI (G1 3 (G0 (A9 (Cg OS (A9 (Bt 2 HE (A9 (A3 0) (A9 (AM (.int 2)) (AL)))) (AL))) (AL))))
    (VC (P1 (IW (lf (A3 1)) (IW (lf (A3 2)) (IW (Mg 3 (Hs (A3 1)) (JD 1 1 Un (A9 (A3 0) (AL)))) (Lo AL)))))))) (DE))
    (BI (E8 1 (FE (Mf 1 Up (A9 (A3 0) (AL)))))
    (CK (D8 (A9 (A3 1) (A9 (FE (Mf 2 WF (A9 (A3 0) (A9 (A3 1) (AL))))) (A9 (Bt 2 Uo (A9 (GR Fj (A3 0) (HD (AM (.int 4))) (HD (AM (.int 63)))) (A9 (A3 1) (AL)))) (AL)))))))
def Su:List D->R Bf:=Cx 4 X_
def ad_:C2 ["thing"] ["thing"] (BP dG):=DC
def iH:B6:=
    CK (LL (DZ (JB "int") (A3 0)) (Zg (DZ (JB "bool") (A3 0))))
def bu:List D->R Bf:=Cx 1 iH
def ada:C2 ["thing","least","greatest"] ["thing","least","greatest"] (BP dH):=DC
def i0:B6:=
    CK (LL (Bt 1 bu (A9 (A3 0) (AL))) (Nf QF QF (A3 1) (A3 0) (A3 2)))
def P6:List D->R Bf:=Cx 3 i0
def adQ:C2 ["thing"] ["thing"] (BP d5):=DC
def ho:B6:=
    BI (DA (HC (En (Be (DZ (JB "list") (A3 0)))) (En (Be (Nf QF QF (AM (.int 1)) (Cg Di (A9 (A3 0) (AL))) (AM S4))))) (CK (AM (.AO false))) (DE))
    (CK (Cg Db (A9 (FE (Ej 1 [] (Hs (A3 0)) (B_ 0) (Ez) (Bt 3 P6 (A9 (A3 0) (A9 (AM (.int 1)) (A9 (AM S3) (AL))))))) (AL))))
def Sn:List D->R Bf:=Cx 1 ho
def adX:C2 ["thing"] ["thing"] (BP dD):=DC
def iG:B6:=
    CK (LL (DZ (JB "tuple") (A3 0)) (AK (Ct true) (Cg Di (A9 (A3 0) (AL))) (AM (.int 2))))
def Ul:List D->R Bf:=Cx 1 iG
def adV:C2 ["counts","thing"] ["counts","thing"] (BP dB):=DC
def hx:B6:=
    BI (DA (HC (En (Be (Bt 1 Ul (A9 (A3 1) (AL))))) (En (Be (Bt 3 P6 (A9 (AK Ah (A3 1) (AM (.int 0))) (A9 (AM (.int 0)) (A9 (AK Op (Cg Di (A9 (A3 0) (AL))) (AM (.int 1))) (AL)))))))) (CK (AM (.AO false))) (DE))
    (CK (Bt 3 P6 (A9 (AK Ah (A3 1) (AM (.int 1))) (A9 (AM (.int 0)) (A9 (AK Op (AK Ah (A3 0) (AK Ah (A3 1) (AM (.int 0)))) (AM (.int 1))) (AL))))))
def RB:List D->R Bf:=Cx 2 hx
def oW:C2 ["counts","thing","both"] ["counts","thing"] (BP dI):=DC
def i1:B6:=
    BI (DA (En (Be (Bt 1 Ul (A9 (A3 1) (AL))))) (CK (AM (.AO false))) (DE))
    (BI (E8 2 (LL (Bt 2 RB (A9 (A3 0) (A9 (AK Ah (A3 1) (AM (.int 0))) (AL)))) (Bt 2 RB (A9 (A3 0) (A9 (AK Ah (A3 1) (AM (.int 1))) (AL))))))
    (CK (LL (A3 2) (AK (Ct false) (AK Ah (A3 1) (AM (.int 0))) (AK Ah (A3 1) (AM (.int 1)))))))
def Zo:List D->R Bf:=Cx 3 i1
def oV:C2 ["counts","wires","far","wire"] ["counts","wires"] (BP d6):=DC
def hp:B6:=
    BI (Sk 2)
    (BI (Eb (Zd (A3 1)) (B_ 3) (BI (DA (En (Be (Bt 2 Zo (A9 (A3 0) (A9 (A3 3) (AL)))))) (bt) (DE))
    (BI (DA (Oy (HC (Be (AK (GF true) (AK Ah (A3 3) (AM (.int 0))) (A3 2))) (Be (AK (GF true) (AK Ah (A3 3) (AM (.int 1))) (A3 2))))) (bt) (DE))
    (BI (Mh 2 (AK Ah (A3 3) (AM (.int 0))) (AK Ah (A3 3) (AM (.int 1))))
    (Mh 2 (AK Ah (A3 3) (AM (.int 1))) (AK Ah (A3 3) (AM (.int 0))))))))
    (LM (A3 2)))
def R9:List D->R Bf:=Cx 4 hp
def adN:C2 ["self","counts","wires"] ["self","counts","wires"] (BP d0):=DC
def XT:Iv:=
    Mj (Oz (En (Be (Bt 1 Sn (A9 (A3 1) (AL))))))
    (Mj (Oz (En (Be (DZ (JB "list") (A3 2)))))
    (Mj (Kh "Net" "many" (Cg Di (A9 (A3 1) (AL))))
    (Mj (Kh "Net" "counts" (Cg Qx (A9 (A3 1) (AL))))
    (Mj (Kh "Net" "joined" (Cg Qx (A9 (A3 2) (AL))))
    (Kh "Net" "far" (Qh (Bt 2 R9 (A9 (DZ (Eu "Net" "counts") (A3 0)) (A9 (DZ (Eu "Net" "joined") (A3 0)) (AL))))))))))
def Zm:List D->R (List Str×List D):=λes=>outI "Net" (XT (Kd "Net" es))
def qE:C2 ["_law_book","_law_k"] ["_law_book"] (BP cr):=DC
def i8:B6:=
    BI (Eb (Gp (A9 (Cg Di (A9 (A3 0) (AL))) (AL))) (B_ 1) (DA (Be (AK (Ct true) (GR Om (AK Ah (A3 0) (A3 1)) (IY) (HD (AM (.int 2)))) (D8 (A9 (AM (.str (CL "xxxx"))) (A9 (AM .non) (AL)))))) (CK (GR Fj (A3 0) (IY) (HD (AK DY (A3 1) (AM (.int 1)))))) (DE)))
    (IZ (Si (A9 (A3 0) (AL))))
def W9:List D->R Bf:=Cx 2 i8
def qG:C2 ["_law_book","_law_number","_law_at","_law_row_here","_law_spot","_law_two"] ["_law_book","_law_number"] (BP dM):=DC
noncomputable def QJ:B6:=
    BI (DA (HC (Be (AK (Ct true) (Cg Di (A9 (A3 0) (AL))) (AM (.int 0)))) (Be (AK Yu (Cg Di (A9 (A3 0) (AL))) (AM (.int 11))))) (IZ (Si (A9 (A3 0) (AL)))) (DE))
    (BI (E8 2 (AK Ht (A3 1) (Cg Di (A9 (A3 0) (AL)))))
    (BI (E8 3 (AK Ah (A3 0) (A3 2)))
    (BI (E8 4 (VF Txt.find (AK Ah (A3 3) (AM (.int 0))) (AM (.str (CL "x")))))
    (BI (DA (HC (Be (AK (Ct true) (AK Ht (AK JY (A3 1) (AM (.int 12))) (AM (.int 2))) (AM (.int 0)))) (Be (AK Ox (A3 4) (AM (.int 0))))) (CK (AK DY (AK DY (GR Fj (A3 0) (IY) (HD (AK DY (A3 2) (AM (.int 1))))) (FE (G0 (A9 (A3 3) (AL))))) (GR Fj (A3 0) (HD (AK DY (A3 2) (AM (.int 1)))) (IY)))) (DE))
    (BI (R7 5 (Ej 1 [3,4] (Sf (AM (.str (CL "01")))) (B_ 0) (Ez) (D8 (A9 (AK DY (AK DY (GR Fj (AK Ah (A3 1) (AM (.int 0))) (IY) (HD (A3 2))) (A3 0)) (GR Fj (AK Ah (A3 1) (AM (.int 0))) (HD (AK DY (A3 2) (AM (.int 1)))) (IY))) (A9 (AK Ah (A3 1) (AM (.int 1))) (A9 (AK Ah (A3 1) (AM (.int 2))) (AL)))))))
    (CK (AK DY (AK DY (GR Fj (A3 0) (IY) (HD (A3 2))) (A3 5)) (GR Fj (A3 0) (HD (AK DY (A3 2) (AM (.int 1)))) (IY)))))))))
def P8:List D->R Bf:=Cx 6 QJ
def qI:C2 ["_law_books_here","_law_number","_law_found","_law_k"] ["_law_books_here","_law_number"] (BP eQ):=DC
def hE:B6:=
    BI (G1 2 (G0 (AL)))
    (BI (Eb (Gp (A9 (Cg Di (A9 (A3 0) (AL))) (AL))) (B_ 3) (Lp 2 (Bt 1 W9 (A9 (Bt 2 P8 (A9 (AK Ah (A3 0) (A3 3)) (A9 (AK JY (A3 1) (AK DY (A3 3) (AM (.int 1)))) (AL)))) (AL)))))
    (IZ (P2 2)))
def WB:List D->R Bf:=Cx 4 hE
def q7:C2 ["_law_script","_law_state"] ["_law_script"] (BP dL):=DC
def XV:B6:=
    BI (DA (Be (AK (Ct true) (AK Ht (Bt 2 HE (A9 (A3 0) (A9 (AM (.int 0)) (AL)))) (AM (.int 2))) (AM (.int 0)))) (IZ (Sh (A9 (AM (.int 16)) (AL)))) (DE))
    (BI (G1 1 (G0 (A9 (Cg OS (A9 (Bt 2 HE (A9 (A3 0) (A9 (AM (.int 3)) (AL)))) (AL))) (AL))))
    (VC (Mg 1 (Gp (A9 (AM (.int 4)) (AL))) (JD 1 1 Ki (A9 (AM (.int 16)) (AL))))))
def Ss:List D->R Bf:=Cx 2 XV
def oU:C2 ["self","found","house","number"] ["self"] (BP d4):=DC
def hn:B6:=
    BI (G1 1 (G0 (AL)))
    (BI (Eb (Gp (A9 (DZ (Eu "Net" "many") (A3 0)) (AL))) (B_ 2) (Eb (Gp (A9 (AK Ah (DZ (Eu "Net" "counts") (A3 0)) (A3 2)) (AL))) (B_ 3) (DA (Be (AK (GF false) (D8 (A9 (A3 2) (A9 (A3 3) (AL)))) (DZ (Eu "Net" "far") (A3 0)))) (Lp 1 (D8 (A9 (A3 2) (A9 (A3 3) (AL))))) (DE))))
    (IZ (P2 1)))
def Sm:List D->R Bf:=Cx 4 hn
def adY:C2 ["thing"] ["thing"] (BP dE):=DC
def hy:B6:=
    BI (DA (HC (En (Be (DZ (JB "str") (A3 0)))) (Be (AK (Ct false) (Cg Di (A9 (A3 0) (AL))) (Cg Di (A9 (AM QL) (AL)))))) (CK (AM (.AO false))) (DE))
    (CK (Cg Db (A9 (FE (Ej 1 [] (Sf (A3 0)) (B_ 0) (Ez) (AK (inD true) (A3 0) (AM S6)))) (AL))))
def Sq:List D->R Bf:=Cx 1 hy
def adW:C2 ["thing","doors"] ["thing","doors"] (BP dC):=DC
def XU:B6:=
    CK (VA (AK (JA true) (A3 0) (AM .non)) (Bt 3 P6 (A9 (A3 0) (A9 (AM (.int 0)) (A9 (AK Op (A3 1) (AM (.int 1))) (AL))))))
def P5:List D->R Bf:=Cx 2 XU
def adZ:C2 ["thing","doors"] ["thing","doors"] (BP dF):=DC
def hz:B6:=
    BI (DA (HC (En (Be (DZ (JB "tuple") (A3 0)))) (Be (AK (Ct false) (Cg Di (A9 (A3 0) (AL))) (AM (.int 3))))) (CK (AM (.AO false))) (DE))
    (BI (DA (En (Be (Bt 1 Sq (A9 (AK Ah (A3 0) (AM (.int 0))) (AL))))) (CK (AM (.AO false))) (DE))
    (CK (LL (Bt 2 P5 (A9 (AK Ah (A3 0) (AM (.int 1))) (A9 (A3 1) (AL)))) (Bt 2 P5 (A9 (AK Ah (A3 0) (AM (.int 2))) (A9 (A3 1) (AL)))))))
def Sr:List D->R Bf:=Cx 2 hz
def adT:C2 ["thing","doors"] ["thing","doors"] (BP d9):=DC
def hu:B6:=
    BI (DA (HC (En (Be (DZ (JB "list") (A3 0)))) (Be (AK Yu (Cg Di (A9 (A3 0) (AL))) (AM S5)))) (CK (AM (.AO false))) (DE))
    (CK (Cg Db (A9 (FE (Ej 1 [1] (Hs (A3 0)) (B_ 0) (Ez) (Bt 2 Sr (A9 (A3 0) (A9 (A3 1) (AL)))))) (AL))))
def Sp:List D->R Bf:=Cx 2 hu
def aeF:C2 ["self","house"] ["self","house"] (BP cz):=DC
def hj:B6:=
    CK (Sg (Be (Nf QF Ox (AM (.int 0)) (A3 1) (DZ (Eu "Net" "many") (A3 0)))) (AK Ah (DZ (Eu "Net" "counts") (A3 0)) (A3 1)) (AM (.int 0)))
def Zl:List D->R Bf:=Cx 2 hj
def adU:C2 ["thing","net"] ["thing","net"] (BP dA):=DC
def hv:B6:=
    BI (DA (HC (En (Be (DZ (JB "list") (A3 0)))) (Be (AK (Ct false) (Cg Di (A9 (A3 0) (AL))) (DZ (Eu "Net" "many") (A3 1))))) (CK (AM (.AO false))) (DE))
    (CK (Cg Db (A9 (FE (Ej 2 [1] (P0 (A9 (A3 0) (AL))) (G8 [B_ 0,B_ 1]) (Ez) (Bt 2 Sp (A9 (A3 1) (A9 (IX "Net" "count" 1 Zl (A3 2) (A9 (A3 0) (AL))) (AL)))))) (AL))))
def RA:List D->R Bf:=Cx 2 hv
def adg:C2 ["thing","net"] ["thing","net"] (BP eX):=DC
def hK:B6:=
    DA (RH (En (Be (Bt 2 RA (A9 (A3 0) (A9 (A3 1) (AL))))))) (VB "NoBooks") (DE)
def Zr:List D->R Bf:=Cx 2 hK
def adO:C2 ["self","thing"] ["self","thing"] (BP d2):=DC
def hk:B6:=
    CK (Bt 2 RB (A9 (DZ (Eu "Net" "counts") (A3 0)) (A9 (A3 1) (AL))))
def Zn:List D->R Bf:=Cx 2 hk
def adP:C2 ["self","thing"] ["self","thing"] (BP d3):=DC
def hl:B6:=
    CK (LL (IX "Net" "is_door" 1 Zn (A3 0) (A9 (A3 1) (AL))) (AK (GF false) (A3 1) (DZ (Eu "Net" "far") (A3 0))))
def Uk:List D->R Bf:=Cx 2 hl
def adS:C2 ["thing"] ["thing"] (BP d8):=DC
def ht:B6:=
    CK (Bt 3 P6 (A9 (A3 0) (A9 (AM (.int 0)) (A9 (AM S2) (AL)))))
def So:List D->R Bf:=Cx 1 ht
def adR:C2 ["pattern","address"] ["pattern","address"] (BP d7):=DC
def hq:B6:=
    BI (DA (HC (En (Be (Bt 1 Sq (A9 (A3 0) (AL))))) (En (Be (Bt 1 So (A9 (A3 1) (AL)))))) (CK (AM (.AO false))) (DE))
    (CK (Cg Db (A9 (FE (Ej 2 [1] (Ze (A9 (A3 0) (A9 (AM QL) (AL)))) (G8 [B_ 0,B_ 1]) (Ez) (AK (inD true) (A3 0) (D8 (A9 (AM (.str (CL "x"))) (A9 (Cg T3 (A9 (AK Ht (AK JY (A3 2) (A3 1)) (AM (.int 2))) (AL))) (AL))))))) (AL))))
def P4:List D->R Bf:=Cx 2 hq
def qP:C2 ["book","door","address","number","row"] ["book","door","address"] (BP eY):=DC
def hQ:B6:=
    BI (Eb (P0 (A9 (A3 0) (AL))) (G8 [B_ 3,B_ 4]) (DA (QG (HC (Be (AK (JA true) (AK Ah (A3 4) (AM (.int 1))) (AM .non))) (Be (AK (Ct true) (AK Ah (A3 4) (AM (.int 1))) (A3 1)))) (Be (Bt 2 P4 (A9 (AK Ah (A3 4) (AM (.int 0))) (A9 (A3 2) (AL)))))) (CK (A3 3)) (DE)))
    (CK (AM .non))
def WG:List D->R Bf:=Cx 5 hQ
def aeE:C2 ["self","door"] ["self","door"] (BP cy):=DC
def gs:B6:=
    CK (V3 (DZ (Eu "Net" "far") (A3 0)) (A3 1))
def P3:List D->R Bf:=Cx 2 gs
def qO:C2 ["net","book","door","address","number","out","far"] ["net","book","door","address"] (BP eW):=DC
def S0:B6:=
    BI (E8 4 (Bt 3 WG (A9 (A3 1) (A9 (AK Ah (A3 2) (AM (.int 1))) (A9 (A3 3) (AL))))))
    (BI (E8 5 (Sg (Be (AK (JA true) (A3 4) (AM .non))) (AM .non) (AK Ah (AK Ah (A3 1) (A3 4)) (AM (.int 2)))))
    (BI (DA (Be (AK (JA true) (A3 5) (AM .non))) (CK (D8 (A9 (AM (.str (CL "drop"))) (A9 (AK Ah (A3 2) (AM (.int 0))) (AL))))) (DE))
    (BI (E8 6 (IX "Net" "beyond" 1 P3 (A3 0) (A9 (D8 (A9 (AK Ah (A3 2) (AM (.int 0))) (A9 (A3 5) (AL)))) (AL))))
    (BI (DA (Be (AK (JA true) (A3 6) (AM .non))) (CK (D8 (A9 (AM (.str (CL "out"))) (A9 (AK Ah (A3 2) (AM (.int 0))) (A9 (A3 5) (AL)))))) (DE))
    (CK (D8 (A9 (AM (.str (CL "at"))) (A9 (AK Ah (A3 6) (AM (.int 0))) (A9 (AK Ah (A3 6) (AM (.int 1))) (AL))))))))))
def Nj:List D->R Bf:=Cx 7 S0
def qQ:C2 ["net","books","door","address","doors","told"] ["net","books","door","address"] (BP eZ):=DC
def iI:B6:=
    BI (G1 4 (G0 (AL)))
    (BI (Uj (Oy (Be (AK (inD false) (A3 2) (A3 4)))) (BI (Lp 4 (A3 2))
    (BI (E8 5 (Bt 4 Nj (A9 (A3 0) (A9 (AK Ah (A3 1) (AK Ah (A3 2) (AM (.int 0)))) (A9 (A3 2) (A9 (A3 3) (AL)))))))
    (BI (DA (Be (AK (Ct false) (AK Ah (A3 5) (AM (.int 0))) (AM (.str (CL "at"))))) (LM (D8 (A9 (A3 4) (A9 (A3 5) (AL))))) (DE))
    (E8 2 (D8 (A9 (AK Ah (A3 5) (AM (.int 1))) (A9 (AK Ah (A3 5) (AM (.int 2))) (AL)))))))))
    (LM (D8 (A9 (A3 4) (A9 (D8 (A9 (AM (.str (CL "ring"))) (A9 (Mi (A3 4) (A9 (A3 2) (AL))) (AL)))) (AL))))))
def Sv:List D->R Bf:=Cx 6 iI
def adh:C2 ["net","books","door","address"] ["net","books","door","address"] (BP e_):=DC
def hT:B6:=
    BI (V5 (Bt 2 Zr (WQ (A9 (A3 1) (A9 (A3 0) (AL))))))
    (BI (DA (RH (En (Be (IX "Net" "is_outer" 1 Uk (A3 0) (A9 (A3 2) (AL)))))) (VB "NoDoor") (DE))
    (BI (DA (RH (En (Be (Bt 1 So (A9 (A3 3) (AL)))))) (VB "NoAddress") (DE))
    (WR (CK (Bt 4 Sv (A9 (A3 0) (A9 (A3 1) (A9 (A3 2) (A9 (A3 3) (AL))))))))))
def RD:List D->R Bf:=Cx 4 hT
def ade:C2 ["_law_books_here","_law_address"] ["_law_books_here","_law_address"] (BP cu):=DC
def i9:B6:=
    IZ (Ej 1 [1] (Hs (A3 0)) (B_ 0) (Ez) (FE (Ej 1 [1] (Hs (A3 0)) (B_ 0) (Ez) (Bt 2 P4 (A9 (AK Ah (A3 0) (AM (.int 0))) (A9 (A3 1) (AL)))))))
def Zq:List D->R Bf:=Cx 2 i9
def qA:C2 ["_law_net","_law_books_here","_law_door","_law_address","_law_k","_law_behind"] ["_law_net","_law_books_here","_law_door","_law_address"] (BP cn):=DC
def SQ:B6:=
    BI (E8 4 (Bt 3 WG (A9 (AK Ah (A3 1) (AK Ah (A3 2) (AM (.int 0)))) (A9 (AK Ah (A3 2) (AM (.int 1))) (A9 (A3 3) (AL))))))
    (BI (DA (HC (Be (AK (JA true) (A3 4) (AM .non))) (Be (AK (JA true) (AK Ah (AK Ah (AK Ah (A3 1) (AK Ah (A3 2) (AM (.int 0)))) (A3 4)) (AM (.int 2))) (AM .non)))) (CK (D8 (A9 (AM (.str (CL "drop"))) (A9 (AK Ah (A3 2) (AM (.int 0))) (AL))))) (DE))
    (BI (E8 5 (D8 (A9 (AK Ah (A3 2) (AM (.int 0))) (A9 (AK Ah (AK Ah (AK Ah (A3 1) (AK Ah (A3 2) (AM (.int 0)))) (A3 4)) (AM (.int 2))) (AL)))))
    (BI (DA (Be (AK (JA true) (IX "Net" "beyond" 1 P3 (A3 0) (A9 (A3 5) (AL))) (AM .non))) (CK (AK Nz (D8 (A9 (AM (.str (CL "out"))) (AL))) (A3 5))) (DE))
    (CK (AK Nz (D8 (A9 (AM (.str (CL "at"))) (AL))) (IX "Net" "beyond" 1 P3 (A3 0) (A9 (A3 5) (AL))))))))
def P7:List D->R Bf:=Cx 6 SQ
def qL:C2 ["_law_net","_law_books_here","_law_door","_law_address","_law_told","_law_road","_law_end","_law_k","_law_last"] ["_law_net","_law_books_here","_law_door","_law_address","_law_told"] (BP eT):=DC
noncomputable def hH:B6:=
    BI (R8 (G8 [B_ 5,B_ 6]) (A3 4))
    (BI (DA (HC (Be (AK (Ct false) (GR Fj (A3 5) (IY) (HD (AM (.int 1)))) (FE (G0 (A9 (A3 2) (AL)))))) (Be (AK Ox (Cg Uw (A9 (A3 5) (AL))) (Cg Di (A9 (A3 5) (AL)))))) (CK (AM (.AO false))) (DE))
    (BI (Eb (Gp (A9 (AK Op (Cg Di (A9 (A3 5) (AL))) (AM (.int 1))) (AL))) (B_ 7) (DA (Be (AK (Ct false) (Bt 4 P7 (A9 (A3 0) (A9 (A3 1) (A9 (AK Ah (A3 5) (A3 7)) (A9 (A3 3) (AL)))))) (AK Nz (D8 (A9 (AM (.str (CL "at"))) (AL))) (AK Ah (A3 5) (AK DY (A3 7) (AM (.int 1))))))) (CK (AM (.AO false))) (DE)))
    (BI (E8 8 (Bt 4 P7 (A9 (A3 0) (A9 (A3 1) (A9 (AK Ah (A3 5) (DZ ZD (AM (.int 1)))) (A9 (A3 3) (AL)))))))
    (BI (DA (Be (AK (Ct true) (AK Ah (A3 8) (AM (.int 0))) (AM (.str (CL "at"))))) (CK (LL (AK (inD true) (GR Om (A3 8) (HD (AM (.int 1))) (IY)) (A3 5)) (AK (Ct true) (A3 6) (D8 (A9 (AM (.str (CL "ring"))) (A9 (Mi (A3 5) (A9 (GR Om (A3 8) (HD (AM (.int 1))) (IY)) (AL))) (AL))))))) (DE))
    (CK (AK (Ct true) (A3 6) (A3 8)))))))
def WE:List D->R Bf:=Cx 9 hH
def qF:C2 ["_law_told","_law_door","_law_road","_law_end","_law_at"] ["_law_told","_law_door"] (BP ct):=DC
def XY:B6:=
    BI (R8 (G8 [B_ 2,B_ 3]) (A3 0))
    (BI (E8 4 (Mi (A3 2) (A9 (A3 1) (AL))))
    (BI (DA (Be (AK (Ct false) (AK Ah (A3 3) (AM (.int 0))) (AM (.str (CL "ring"))))) (CK (D8 (A9 (GR Fj (A3 2) (HD (A3 4)) (IY)) (A9 (A3 3) (AL))))) (DE))
    (CK (D8 (A9 (FE (Zk (A9 (AK DY (GR Fj (A3 2) (HD (A3 4)) (IY)) (GR Fj (A3 2) (HD (AK Ah (A3 3) (AM (.int 1)))) (IY))) (AL)))) (A9 (D8 (A9 (AM (.str (CL "ring"))) (AL))) (AL)))))))
def Ni:List D->R Bf:=Cx 5 XY
def q6:C2 ["_law_one","_law_other","_law_door"] ["_law_one","_law_other"] (BP dK):=DC
def i4:B6:=
    BI (Eb (Hs (AK Ah (A3 0) (AM (.int 0)))) (B_ 2) (DA (Be (AK (inD true) (A3 2) (AK Ah (A3 1) (AM (.int 0))))) (CK (AK (Ct true) (Bt 2 Ni (A9 (A3 0) (A9 (A3 2) (AL)))) (Bt 2 Ni (A9 (A3 1) (A9 (A3 2) (AL)))))) (DE)))
    (CK (AM (.AO true)))
def Um:List D->R Bf:=Cx 3 i4
def oz:C2 ["_law_net","_law_books_here","_law_other","_law_address","_law_told","_law_outer","_law_door"] ["_law_net","_law_books_here","_law_other","_law_address","_law_told"] (BP dJ):=DC
def i3:B6:=
    BI (E8 5 (IX "Net" "outer" 0 Sm (A3 0) AL))
    (BI (Eb (Hs (A3 5)) (B_ 6) (BI (DA (En (Be (Bt 5 WE (A9 (A3 0) (A9 (A3 1) (A9 (A3 6) (A9 (A3 3) (A9 (AK Lh (A3 4) (D8 (A9 (A3 6) (A9 (A3 3) (AL))))) (AL))))))))) (CK (AM (.AO false))) (DE))
    (BI (DA (Be (AK (Ct false) (R4 4 RD (A9 (A3 0) (A9 (A3 2) (A9 (A3 6) (A9 (A3 3) (AL)))))) (AK Lh (A3 4) (D8 (A9 (A3 6) (A9 (A3 3) (AL))))))) (CK (AM (.AO false))) (DE))
    (DA (En (Be (Bt 2 Um (A9 (AK Lh (A3 4) (D8 (A9 (AK Ah (A3 5) (AM (.int 0))) (A9 (A3 3) (AL))))) (A9 (AK Lh (A3 4) (D8 (A9 (A3 6) (A9 (A3 3) (AL))))) (AL)))))) (CK (AM (.AO false))) (DE)))))
    (CK (AM (.AO true))))
def Zp:List D->R Bf:=Cx 7 i3
def oX:C2 ["_law_script","_law_counts_here","_law_wires_here","_law_books_here","_law_net","_law_other","_law_told","_law_asked_here","_law_address","_law_door","_law_marks_here","_law_k","_law_first"] ["_law_script"] (BP Oj):=DC
noncomputable def i2:B6:=
    BI (R8 (G8 [B_ 1,B_ 2,B_ 3]) (Bt 1 Su (A9 (A3 0) (AL))))
    (BI (E8 4 (V9 "Net" 2 Zm (A9 (A3 1) (A9 (A3 2) (AL)))))
    (BI (E8 5 (FE (Mf 2 WB (A9 (A3 3) (A9 (Bt 2 JE (A9 (Bt 2 HE (A9 (A3 0) (A9 (AM (.int 3)) (AL)))) (A9 (AM (.int 77)) (AL)))) (AL))))))
    (BI (Sk 6)
    (BI (E8 7 (Bt 1 Ss (A9 (A3 0) (AL))))
    (BI (Eb (Hs (A3 7)) (B_ 8) (Eb (Hs (IX "Net" "outer" 0 Sm (A3 4) AL)) (B_ 9) (Mh 6 (D8 (A9 (A3 9) (A9 (A3 8) (AL)))) (R4 4 RD (A9 (A3 4) (A9 (A3 3) (A9 (A3 9) (A9 (A3 8) (AL)))))))))
    (BI (V8 6 (R7 10 (Ej 1 [3] (Hs (A3 7)) (B_ 0) (Ez) (FE (Mf 2 Zq (A9 (A3 1) (A9 (A3 0) (AL))))))))
    (BI (Eb (P0 (A9 (A3 7) (AL))) (G8 [B_ 11,B_ 8]) (BI (DA (En (Be (Bt 5 Zp (A9 (A3 4) (A9 (A3 3) (A9 (A3 5) (A9 (A3 8) (A9 (A3 6) (AL))))))))) (CK (AM (.AO false))) (DE))
    (BI (E8 12 (AK Ah (A3 7) (Mi (A3 10) (A9 (AK Ah (A3 10) (A3 11)) (AL)))))
    (Eb (Hs (IX "Net" "outer" 0 Sm (A3 4) AL)) (B_ 9) (DA (Be (AK (Ct false) (AK Lh (A3 6) (D8 (A9 (A3 9) (A9 (A3 8) (AL))))) (AK Lh (A3 6) (D8 (A9 (A3 9) (A9 (A3 12) (AL))))))) (CK (AM (.AO false))) (DE))))))
    (CK (AM (.AO true))))))))))
def RC:List D->R Bf:=Cx 13 i2
def Jz{α β:Type}(a:α)(k:α->R β):(R.ok a).bind k=k a:=rfl
def uM{f:List D->R Bf}{a:AY}{ρ:A8}{x y:D}(A2:a ρ=.ok x)(h:f [x]=.ok (.v y)):Bt 1 f (A9 a AL) ρ=.ok y:=by simp only[Bt,A9,AL,A2,Jz,FQ,Pn,if_true,h,HJ]
def call2{f:List D->R Bf}{a b:AY}{ρ:A8}{x z y:D}(A2:a ρ=.ok x)(J:b ρ=.ok z)(h:f [x,z]=.ok (.v y)):Bt 2 f (A9 a (A9 b AL)) ρ=.ok y:=by simp only[Bt,A9,AL,A2,J,Jz,FQ,Pn,if_true,h,HJ]
def s_{f:D->D->R D}{a b:AY}{ρ:A8}{x y z:D}(A2:a ρ=.ok x)(J:b ρ=.ok y)(h:f x y=.ok z):AK f a b ρ=.ok z:=by simp only[AK,A2,J,Jz,h]
def oE{a:AY}{ρ:A8}{c:Bool}(A2:a ρ=.ok (.AO c)):Be a ρ=.ok c:=by simp only[Be,A2,Jz,MF]
def zO{a:C7}{ρ:A8}{c:Bool}(A2:a ρ=.ok c):En a ρ=.ok (!c):=by simp only[En,A2,Jz]
def zg{a:AY}{ρ:A8}{xs:List D}(A2:a ρ=.ok (.lst xs)):Cg Di (A9 a AL) ρ=.ok (.int (xs.length:Nat)):=by simp only[Cg,A9,AL,A2,Jz,Di]
noncomputable def Bv(cs:List Nat):List D:=cs.map λ(c:Nat)=>D.int (c:Int)
abbrev AC:=Nat×Nat
noncomputable def Af(d:AC):D:=.tup [.int (d.1:Nat),.int (d.2:Nat)]
def DS(w:AC×AC):D:=.tup [Af w.1,Af w.2]
noncomputable def ends(ws:List (AC×AC)):List AC:=(ws.map λw=>[w.1,w.2]).flatten
theorem bN{α:Type}:∀(l:List α)(i:Nat)(h:i<l.length),List.Perm (l[i]::l.eraseIdx i) l
 |x::l,0,_=>g0 _
 |x::l,i+1,h=>by have Bg:=bN l i (by simpa using h);simp only[List.getElem_cons_succ,ry];exact(List.Perm.swap x _ _).trans (Bg.cons x)
noncomputable def HT(cs:List Nat)(h:Nat):List AC:=(EI (cs.getD h 0)).map λk=>(h,k)
def Db(cs:List Nat)(n:Nat):List AC:=(EI n).flatMap (HT cs)
def YD(cs:List Nat)(n:Nat):Db cs (n+1)=Db cs n++HT cs n:=by unfold Db;rw[List.range_succ,List.flatMap_append];simp
def bz{cs:List Nat}{h:Nat}{d:AC}:d∈HT cs h↔d.1=h/\d.2<cs.getD h 0:=by
 unfold HT;rw[gK];constructor
 .rintro⟨k,AG,rfl⟩;exact⟨rfl,List.mem_range.mp AG⟩
 .rintro⟨rfl,h2⟩;exact⟨d.2,List.mem_range.mpr h2,rfl⟩
def Sw{cs:List Nat}{n:Nat}{d:AC}:d∈Db cs n↔d.1<n/\d.2<cs.getD d.1 0:=by
 unfold Db;rw[List.mem_flatMap];constructor
 .rintro⟨h,B1,hd⟩;obtain⟨rfl,h2⟩:=bz.mp hd;exact⟨List.mem_range.mp B1,h2⟩
 .rintro⟨h1,h2⟩;exact⟨d.1,List.mem_range.mpr h1,bz.mpr ⟨rfl,h2⟩⟩
def vM(cs:List Nat)(h:Nat):(HT cs h).Nodup:=by unfold HT;rw[s7,fh];exact List.nodup_range.imp λO9 z=>O9 (Prod.mk.inj z).2
theorem gN(cs:List Nat):∀n,(Db cs n).Nodup
 |0=>Rj
 |n+1=>by rw[YD];refine List.nodup_append.mpr ⟨gN cs n,vM cs n,λa A2 b J z=>?_⟩;subst z;have h1:=(Sw.mp A2).1;have h2:=(bz.mp J).1;lia
def ai{cs:List Nat}(h:∀c∈cs,c<=4)(k:Nat):cs.getD k 0<=4:=by
 rw[Hc];cases e:cs[k]? with
 |none=>simp
 |some c=>simpa using h c (EU e)
def jX{cs:List Nat}(h:∀c∈cs,1<=c/\c<=4)(k:Nat):(HT cs k).length<=4:=by unfold HT;rw[Eh,List.length_range];exact ai (λc AB=>(h c AB).2) k
theorem QI{cs:List Nat}(h:∀c∈cs,1<=c/\c<=4):∀n,(Db cs n).length<=4*n
 |0=>by simp[Db]
 |n+1=>by rw[YD,K5];have:=QI h n;have:=jX h n;lia
def UT{cs:List Nat}{h:Nat}(B1:h<cs.length):(Bv cs)[h]?=some (.int (cs.getD h 0:Nat)):=by simp[Bv,C5 B1,Hc]
structure IQ(cs:List Nat)(ws:List (AC×AC)):Prop where
 h1:1<=cs.length
 h6:cs.length<=6
 c:∀c∈cs,1<=c/\c<=4
 Cb:(ends ws).Nodup
 sub:∀d∈ends ws,d∈Db cs cs.length
 few:ws.length<100
def head_mem{cs:List Nat}(h1:1<=cs.length)(c:∀c∈cs,1<=c/\c<=4):((0,0):AC)∈Db cs cs.length:=by
 refine Sw.mpr ⟨h1,?_⟩;cases cs with
 |nil=>simp at h1
 |cons x r=>exact(c x (GT ..)).1
noncomputable def Hr(d:AC):C8:=[.inl (.inl (d.1:Nat)),.inl (.inl (d.2:Nat))]
def cV{a b:AC}(h:Hr a=Hr b):a=b:=by
 obtain⟨a1,a2⟩:=a;obtain⟨EZ,DG⟩:=b;simp only[Hr,MG,Sum.inl.injEq,and_true]at h;have h1:a1=EZ:=by lia
 have h2:a2=DG:=by lia
 rw[h1,h2]
def TP(d:AC):Mc (Af d)=some (Hr d):=rfl
def EC(ws:List (AC×AC)):List C8:=(ends ws).map Hr
def ER(ws:List (AC×AC)):List D:=(ws.map λw=>[Af w.2,Af w.1]).flatten
def ks_any(ws:List (AC×AC))(d:AC):(EC ws).any (λx=>decide (x=Hr d))=decide (d∈ends ws):=by
 unfold EC;rw[XH];by_cases h:d∈ends ws
 .rw[decide_eq_true h,f_];exact⟨d,h,by simp⟩
 .rw[decide_eq_false h,fa];intro x A5;simp only[g6,decide_eq_true_eq];exact λz=>h (cV z▸A5)
def j8(ws:List (AC×AC)):(ends ws).length=2*ws.length:=by
 induction ws with
 |nil=>rfl
 |cons w r Bg=>simp only[ends,DP,List.flatten_cons,K5,FQ,Pn]at Bg |-;lia
def jU{i:Nat}{mk mv:AY}{ρ:A8}{ks:List C8}{ds:List D}{k v:D}{Bh:C8}(hs:ρ[i]?=some (.ob (.BN ks ds)))(AG:mk ρ=.ok k)(Az:mv ρ=.ok v)(Ck:Mc k=some Bh)(AR:ks.any (λx=>decide (x=Bh))=false)(AF:ks.length<1000000) :
  Mh i mk mv ρ=.ok (.BK (ρ.set i (.ob (.BN (ks++[Bh]) (ds++[v]))))):=by
 simp only[Mh,Az,hs,AG,Jz,Ck,putD,if_pos (And.intro AR AF)]
def sy{ks:List C8}{a b:C8}(h:ks.any (λx=>decide (x=b))=false)(ne:a≠b):(ks++[a]).any (λx=>decide (x=b))=false:=by rw[List.any_append,h];simp[ne]
def aaD(ws:List (AC×AC))(w:AC×AC):EC (ws++[w])=EC ws++[Hr w.1]++[Hr w.2]:=by simp[EC,ends]
def afa(ws:List (AC×AC))(w:AC×AC):ER (ws++[w])=ER ws++[Af w.2]++[Af w.1]:=by simp[ER]
def aaY{P:List (AC×AC)}{w:AC×AC}{r:List (AC×AC)}(Cb:(ends (P++w::r)).Nodup):w.1∉ends P/\w.2∉ends P/\w.1≠w.2:=by
 have e:ends (P++w::r)=ends P++(w.1::w.2::ends r):=by simp[ends]
 rw[e]at Cb;obtain⟨_,C0,Nl⟩:=List.nodup_append.mp Cb;refine⟨λz=>Nl _ z w.1 (by simp) rfl,λz=>Nl _ z w.2 (by simp) rfl,λz=>?_⟩;rw[List.nodup_cons]at C0;exact C0.1 (by rw[z];simp)
def aO(i lo A0:Int):P6 [.int i,.int lo,.int A0]=.ok (.v (.AO (decide (lo<=i)&&decide (i<=A0)))):=by have w:bu [.int i]=.ok (.v (.AO true)):=rfl;simp[P6,i0,w];by_cases h:lo<=i<;>simp[h]
def gv{cs:List Nat}{d:AC}(h:d∈Db cs cs.length):RB [.tup (Bv cs),Af d]=.ok (.v (.AO true)):=by
 obtain⟨h1,h2⟩:=Sw.mp h;have p:Ul [Af d]=.ok (.v (.AO true)):=rfl;have CF:Ah (Af d) (.int 0)=.ok (.int d.1):=rfl;have A1:Ah (Af d) (.int 1)=.ok (.int d.2):=rfl;have A7:Ah (.tup (Bv cs)) (.int (d.1:Nat))=.ok (.int (cs.getD d.1 0:Nat)):=cO (UT h1);have l:(Bv cs).length=cs.length:=by simp[Bv]
 simp only[Hc]at h2 A7;simp[RB,hx,p,CF,A1,A7,l,aO,show¬((cs.length:Int)-1<(d.1:Nat))by lia];lia
def vK{a b:AC}(h:a≠b):Ct false (Af a) (Af b)=.ok (.AO true):=by
 show R.ok (D.AO (!(((a.1:Nat):Int)==((b.1:Nat):Int)&&(((a.2:Nat):Int)==((b.2:Nat):Int)&&true))))=_;by_cases h1:a.1=b.1
 .by_cases h2:a.2=b.2
  .exact absurd (Rx h1 h2) h
  .rw[beq_eq_false_iff_ne.mpr (show((a.2:Nat):Int)≠((b.2:Nat):Int)by lia)];simp
 .rw[beq_eq_false_iff_ne.mpr (show((a.1:Nat):Int)≠((b.1:Nat):Int)by lia)];simp
def afk{cs:List Nat}{w:AC×AC}(h1:w.1∈Db cs cs.length)(h2:w.2∈Db cs cs.length)(ne:w.1≠w.2):Zo [.tup (Bv cs),DS w]=.ok (.v (.AO true)):=by have p:Ul [DS w]=.ok (.v (.AO true)):=rfl;have CF:Ah (DS w) (.int 0)=.ok (Af w.1):=rfl;have A1:Ah (DS w) (.int 1)=.ok (Af w.2):=rfl;simp[Zo,i1,p,CF,A1,gv h1,gv h2,vK ne]
def cN(l:List D):JB "list" (.lst l)=.ok (.AO true):=rfl
theorem jk{α:Type}(f:α->Bool):∀l:List α,QK (l.map λa=>D.AO (f a))=some (l.map f)
 |[]=>rfl
 |a::l=>by simp[QK,jk f l]
def UM{α:Type}(f:α->Bool)(l:List α):Cj.Db [.lst (l.map λa=>D.AO (f a))]=.ok (.AO (l.all f)):=by simp[Cj.Db,jk,Function.comp_def]
def uV(cs:List Nat)(ws:List (AC×AC))(h:IQ cs ws):R9 [.tup (Bv cs),.tup (ws.map DS)]=.ok (.v (.BN (EC ws) (ER ws))):=by
 apply Ends.done;have few:=h.few;simp[R9,hp,Sk];refine T6 DS ws (λj ρ=>∃s3,ρ=[.AI (.tup (Bv cs)),.AI (.tup (ws.map DS)),.ob (.BN (EC (ws.take j)) (ER (ws.take j))),s3]) rfl ⟨.un,by simp[EC,ER,ends]⟩ ?_ ?_
 .rintro j w _ hw ⟨s3,rfl⟩;obtain⟨BO,Hn⟩:=Ff.mp hw;have afB:ws=ws.take j++w::ws.drop (j+1):=by rw[<-Hn];simp
  obtain⟨CQ,C0,Nl⟩:=aaY (P:=ws.take j) (w:=w) (r:=ws.drop (j+1)) (by rw[<-afB];exact h.Cb);have BW:ws.take (j+1)=ws.take j++[w]:=by rw[List.take_succ,hw];rfl
  have Ow:(EC (ws.take j)).length<1000:=by simp[EC,j8];lia
  have p_:∀x,x=w.1\/x=w.2->x∈Db cs cs.length:=λx A5=>h.sub x (List.mem_flatten.mpr ⟨[w.1,w.2],List.mem_map.mpr ⟨w,EU hw,rfl⟩,by simpa using A5⟩);have afm:=afk (p_ _ (.inl rfl)) (p_ _ (.inr rfl)) Nl;generalize hP:ws.take j=P at*;have CF:Ah (DS w) (.int 0)=.ok (Af w.1):=rfl;have A1:Ah (DS w) (.int 1)=.ok (Af w.2):=rfl;have k1:GF true (Af w.1) (.BN (EC P) (ER P))=.ok (.AO false):=by simp[GF,TP,ks_any,CQ]
  have k2:GF true (Af w.2) (.BN (EC P) (ER P))=.ok (.AO false):=by simp[GF,TP,ks_any,C0]
  have DW:=jU (i:=2) (mk:=AK Ah (A3 3) (AM (.int 0))) (mv:=AK Ah (A3 3) (AM (.int 1))) (ρ:=[.AI (.tup (Bv cs)),.AI (.tup (ws.map DS)),.ob (.BN (EC P) (ER P)),.AI (DS w)]) rfl rfl rfl (TP w.1) (by rw[ks_any];simp[CQ]) (by lia);have CB:=jU (i:=2) (mk:=AK Ah (A3 3) (AM (.int 1))) (mv:=AK Ah (A3 3) (AM (.int 0))) (ρ:=[.AI (.tup (Bv cs)),.AI (.tup (ws.map DS)),.ob (.BN (EC P++[Hr w.1]) (ER P++[Af w.2])),.AI (DS w)]) rfl rfl rfl (TP w.2) (sy (by rw[ks_any];simp[C0]) λz=>Nl (cV z)) (by simp;lia);have EB:N1 (.ob (.BN (EC P) (ER P)))=.AI (.BN (EC P) (ER P)):=rfl;simp at DW CB;simp[afm,Em,EB,CF,A1,k1,k2,DW,CB,BW,aaD,afa]
 .rintro _ ⟨s3,rfl⟩;have EB:N1 (.ob (.BN (EC ws) (ER ws)))=.AI (.BN (EC ws) (ER ws)):=rfl;simp[LM,Em,EB]
def tQ(cs:List Nat)(h1:1<=cs.length)(h6:cs.length<=6)(h:∀c∈cs,1<=c/\c<=4):Sn [.lst (Bv cs)]=.ok (.v (.AO true)):=by
 apply Ends.done;have lcs:(Bv cs).length=cs.length:=by simp[Bv]
 simp[Sn,ho,cN,lcs,S4,show(1:Int)<=cs.length by lia,show(cs.length:Int)<=6 by lia];refine O_ (λc:Nat=>D.int (c:Int)) cs (λ_=>.AO true) (by simp[Bv]) (by lia) (λc AB=>by have:=h c AB;simp[aO,S3];lia) ?_;have a:=UM (λ_:Nat=>true) cs;simp only[a];simp
def Va{a b:Iv}{ρ ρ1:A8}(h:a ρ=.ok ρ1):Mj a b ρ=b ρ1:=by simp only[Mj,h,Jz]
theorem qu:∀ws:List (AC×AC),LN (ER ws)=true
 |[]=>rfl
 |w::ws=>by show LN (Af w.2::Af w.1::ER ws)=true;simp only[LN,qu ws];rfl
def xa(cs:List Nat)(ws:List (AC×AC))(h:IQ cs ws):Zm [.lst (Bv cs),.lst (ws.map DS)]=.ok (["many","counts","joined","far"],[.int (cs.length:Nat),.tup (Bv cs),.tup (ws.map DS),.BN (EC ws) (ER ws)]):=by
 let r (ns:List Str) (ds:List D):A8:=[.ob (.ins "Net" ns ds),.AI (.lst (Bv cs)),.AI (.lst (ws.map DS))]
 have g1:Oz (En (Be (Bt 1 Sn (A9 (A3 1) (AL))))) (r [] [])=.ok (r [] []):=by have z:En (Be (Bt 1 Sn (A9 (A3 1) (AL)))) (r [] [])=.ok false:=zO (c:=true) (oE (uM rfl (tQ cs h.h1 h.h6 h.c)));simp only[Oz,z,Jz,FZ,if_false]
 have g2:Oz (En (Be (DZ (JB "list") (A3 2)))) (r [] [])=.ok (r [] []):=rfl;have f1:Kh "Net" "many" (Cg Di (A9 (A3 1) (AL))) (r [] [])=.ok (r ["many"] [.int (cs.length:Nat)]):=by
  have Ow:Cg Di (A9 (A3 1) AL) (r [] [])=.ok (.int (cs.length:Nat)):=by rw[zg (xs:=Bv cs) rfl];simp[Bv]
  rw[Kh,Ow];rfl
 have f2:Kh "Net" "counts" (Cg Qx (A9 (A3 1) (AL))) (r ["many"] [.int (cs.length:Nat)])=.ok (r ["many","counts"] [.int (cs.length:Nat),.tup (Bv cs)]):=rfl;have F2:Kh "Net" "joined" (Cg Qx (A9 (A3 2) (AL))) (r ["many","counts"] [.int (cs.length:Nat),.tup (Bv cs)])=.ok (r ["many","counts","joined"] [.int (cs.length:Nat),.tup (Bv cs),.tup (ws.map DS)]):=rfl;have f4:Kh "Net" "far" (Qh (Bt 2 R9 (A9 (DZ (Eu "Net" "counts") (A3 0)) (A9 (DZ (Eu "Net" "joined") (A3 0)) (AL))))) (r ["many","counts","joined"] [.int (cs.length:Nat),.tup (Bv cs),.tup (ws.map DS)])=.ok (r ["many","counts","joined","far"] [.int (cs.length:Nat),.tup (Bv cs),.tup (ws.map DS),.BN (EC ws) (ER ws)]):=by
  have z:Qh (Bt 2 R9 (A9 (DZ (Eu "Net" "counts") (A3 0)) (A9 (DZ (Eu "Net" "joined") (A3 0)) (AL)))) (r ["many","counts","joined"] [.int (cs.length:Nat),.tup (Bv cs),.tup (ws.map DS)])=.ok (.BN (EC ws) (ER ws)):=by have y:Bt 2 R9 (A9 (DZ (Eu "Net" "counts") (A3 0)) (A9 (DZ (Eu "Net" "joined") (A3 0)) (AL))) (Em (r ["many","counts","joined"] [.int (cs.length:Nat),.tup (Bv cs),.tup (ws.map DS)]))=.ok (.BN (EC ws) (ER ws)):=call2 (x:=.tup (Bv cs)) (z:=.tup (ws.map DS)) rfl rfl (uV cs ws h);have n:Kj (.BN (EC ws) (ER ws))=true/\be (r ["many","counts","joined"] [.int (cs.length:Nat),.tup (Bv cs),.tup (ws.map DS)])=true:=⟨by simp only[Kj];exact qu ws,rfl⟩;simp only[Qh,y,Jz,if_pos n]
  rw[Kh,z];rfl
 show outI "Net" (XT (r [] []))=_;unfold XT;rw[Va g1,Va g2,Va f1,Va f2,Va F2,f4];rfl
def UR(ns:List Int)(k:Nat):∃c:Int,HE [.Cd (ns.map D.int),.int k]=.ok (.v (.int c)):=by
 by_cases h:k<ns.length
 .refine⟨ns[k],?_⟩;have e:Ah (.Cd (ns.map D.int)) (.int (k:Int))=.ok (.int ns[k]):=zA (by simp[h]);simp[HE,XX,h,e]
 .exact⟨0,by simp[HE,XX,h]⟩
def Sy(c:Int)(k:Nat)(AG:k<1000):∃y:Int,JE [.int c,.int k]=.ok (.v (.int y)):=by
 have h1:(2:Int)*(k:Int)*(k:Int)<=2000000:=by
  have:k*k<=1000*1000:=Nat.mul_le_mul (by lia) (by lia);have e:(2:Int)*(k:Int)*(k:Int)=2*((k*k:Nat):Int):=by rw[Int.natCast_mul,Int.mul_assoc]
  rw[e];lia
 have h0:0<=(2:Int)*(k:Int)*(k:Int):=Int.mul_nonneg (by lia) (by lia)
 simp! [JE,hD,ad4]
def u3(ns:List Int):∃cs:List Nat,(1<=cs.length/\cs.length<=6)/\(∀c∈cs,1<=c/\c<=4)/\Up [.Cd (ns.map D.int)]=.ok (.o (Bv cs)):=by
 suffices h:Ends (Up [.Cd (ns.map D.int)]) λb=>∃cs:List Nat,(1<=cs.length/\cs.length<=6)/\(∀c∈cs,1<=c/\c<=4)/\b=.o (Bv cs)by
  obtain⟨b,e,cs,h1,h2,rfl⟩:=h;exact⟨cs,h1,h2,e⟩
 obtain⟨c0,CF⟩:=UR ns 0;obtain⟨c1,A1⟩:=UR ns 1;have vR:HE [.Cd (ns.map D.int),.int 0]=.ok (.v (.int c0)):=CF;have GI:HE [.Cd (ns.map D.int),.int 1]=.ok (.v (.int c1)):=A1;obtain⟨y,CV⟩:=Sy c0 1 (by decide);have QW:JE [.int c0,.int 1]=.ok (.v (.int y)):=CV;obtain⟨m,hm,em⟩:=Sz y (n:=6) (by decide);have uj:(1:Int)+y%6=((m+1:Nat):Int):=by have:y%6=(m:Int):=em;lia
 have ex:∀k:Nat,∃c:Nat,(1<=c/\c<=4)/\(k<10->∃z:Int,JE [.int c1,.int (3+(k:Int))]=.ok (.v (.int z))/\1+z%4=(c:Int)):=λk=>by
  by_cases AG:k<10
  .obtain⟨z,bP⟩:=Sy c1 (3+k) (by lia);obtain⟨q,Ac,eq⟩:=Sz z (n:=4) (by decide);exact⟨1+q,by lia,λ_=>⟨z,by rw[<-bP];simp,by have:z%4=(q:Int):=eq;lia⟩⟩
  .exact⟨1,by lia,λh=>absurd h AG⟩
 let US:Nat->Nat:=λk=>(ex k).choose
 have ts:∀k,1<=US k/\US k<=4:=λk=>(ex k).choose_spec.1;have tu:∀k:Nat,k<10->∃z:Int,JE [.int c1,.int (3+(k:Int))]=.ok (.v (.int z))/\1+z%4=(US k:Int):=λk=>(ex k).choose_spec.2
 simp! [Up,i6,vR,QW,uj,-Int.natCast_add]
 refine bH (m+1) (λk=>.int (US k:Int)) (by simp[show m+1<1000000 by lia,-Int.natCast_add]) (by lia) (λk AG=>?_) ?_
 .obtain⟨z,A7,B8⟩:=tu k (by lia);simp[GI,A7,B8]
 .simp;refine⟨(EI (m+1)).map US,⟨by simp,by simp;lia⟩,λc AB=>?_,by simp[Bv]⟩;obtain⟨k,_,rfl⟩:=List.mem_map.mp AB;exact ts k
def jS{cs:List Nat}(h6:cs.length<=6)(HS:∀c∈cs,1<=c/\c<=4):VG [.lst (Bv cs)]=.ok (.o ((Db cs cs.length).map Af)):=by
 apply Ends.done;have lcs:(Bv cs).length=cs.length:=by simp[Bv]
 simp! [VG,i7]
 refine Oh cs.length (λj ρ=>∃s2,ρ=[.AI (.lst (Bv cs)),.BQ ((Db cs j).map Af),s2]) (by simp[lcs,show cs.length<1000000 by lia]) ⟨.un,by simp[Db]⟩ ?_ ?_
 .rintro j _ BO ⟨s5,rfl⟩;have B8:Ah (.lst (Bv cs)) (.int (j:Int))=.ok (.int (cs.getD j 0:Nat)):=Go (UT BO);have YK:=ai (λc h=>(HS c h).2) j;simp;refine bH (cs.getD j 0) (λk=>Af (j,k)) (by simp only[Hc]at B8 YK;simp[B8,show cs[j]?.getD 0<1000000 by lia]) (by lia) (λk AG=>by simp[Af]) ?_;have Ow:=QI HS j;simp only[Hc]at YK |-;simp[show(Db cs j).length+cs[j]?.getD 0<=1000000 by lia];rw[YD];simp[HT]
 .rintro _ ⟨s5,rfl⟩;simp
abbrev NQ:=Int×AC
def T2(p:NQ):D:=.tup [.int p.1,Af p.2]
noncomputable def RF(p:NQ):Int×Int×Int:=(p.1,(p.2.1:Int),(p.2.2:Int))
noncomputable def Vf(k:Int×Int×Int):NQ:=(k.1,(k.2.1.toNat,k.2.2.toNat))
def qj(p:NQ):Vf (RF p)=p:=by simp[Vf,RF]
theorem mX:∀ps:List NQ,QC (ps.map T2)=some (ps.map RF)
 |[]=>rfl
 |p::ps=>by simp only[DP,QC,mX ps];rfl
def afE(ps:List NQ)(h:ps.length<64):∃Gr:List NQ,Gr.Perm ps/\W1 [.lst (ps.map T2)]=.ok (Gr.map T2):=by
 refine⟨(LT.Mo (ps.map RF)).map Vf,?_,?_⟩
 .refine((LT.W4 (ps.map RF)).map Vf).trans ?_;rw[Tz,show Vf∘RF=id from funext qj,List.map_id]
 .have AF:(ps.map T2).length<64:=by simpa using h
  simp only[W1,if_pos AF,mX]
  congr 1
  rw[Tz];refine List.map_congr_left λk AG=>?_;obtain⟨p,_,rfl⟩:=List.mem_map.mp ((LT.W4 (ps.map RF)).mem_iff.mp AG);simp only[g6,qj];rfl
noncomputable def pairUp(l:List AC)(n:Nat):List (AC×AC):=(EI n).map λk=>(l.getD (2*k) (0,0),l.getD (2*k+1) (0,0))
theorem j9(l:List AC):∀n,2*n<=l.length->ends (pairUp l n)=l.take (2*n)
 |0,_=>by simp[pairUp,ends]
 |n+1,h=>by
  have Bg:=j9 l n (by lia);have e:pairUp l (n+1)=pairUp l n++[(l.getD (2*n) (0,0),l.getD (2*n+1) (0,0))]:=by simp[pairUp,List.range_succ]
  have A7:ends (pairUp l n++[(l.getD (2*n) (0,0),l.getD (2*n+1) (0,0))])=ends (pairUp l n)++[l.getD (2*n) (0,0),l.getD (2*n+1) (0,0)]:=by simp[ends]
  have t1:l.take (2*n+1+1)=l.take (2*n)++[l[2*n],l[2*n+1]]:=by rw[Pp,Pp,C5 (show 2*n<l.length by lia),C5 (show 2*n+1<l.length by lia),RW];rfl
  rw[e,A7,Bg,show 2*(n+1)=2*n+1+1 by lia,t1];simp[C5 (show 2*n<l.length by lia),C5 (show 2*n+1<l.length by lia)]
def afl(ns:List Int)(cs:List Nat)(h1:1<=cs.length)(h6:cs.length<=6)(HS:∀c∈cs,1<=c/\c<=4):∃ws,IQ cs ws/\WF [.Cd (ns.map D.int),.lst (Bv cs)]=.ok (.o (ws.map DS)):=by
 suffices h:Ends (WF [.Cd (ns.map D.int),.lst (Bv cs)]) λb=>∃ws,IQ cs ws/\b=.o (ws.map DS)by
  obtain⟨b,e,ws,h,rfl⟩:=h;exact⟨ws,h,e⟩
 have tJ:1<=(Db cs cs.length).length:=Rd (head_mem h1 HS);have tK:=QI HS cs.length;have cA:=gN cs cs.length;have out:=jS h6 HS;generalize au:Db cs cs.length=al at*;obtain⟨c2,A7⟩:=UR ns 2;obtain⟨c3,B8⟩:=UR ns 3;have ua:HE [.Cd (ns.map D.int),.int 2]=.ok (.v (.int c2)):=A7;have UX:HE [.Cd (ns.map D.int),.int 3]=.ok (.v (.int c3)):=B8
 simp! [WF,hI,out]
 refine Oh al.length (λj ρ=>∃(ps:List NQ)(s4:C4),ps.map (·.2)=al.take j/\ρ=[.AI (.Cd (ns.map D.int)),.AI (.lst (Bv cs)),.AI (.lst (al.map Af)),.BQ (ps.map T2),s4,.un,.un,.un]) (by simp(disch:=first|lia|(simp;done)|(simp;lia))) ⟨[],.un,rfl,rfl⟩ ?_ ?_
 .rintro j _ BO ⟨ps,s4,AW,rfl⟩;have CZ:ps.length=j:=by
   have:=congrArg Q3 AW;simpa[gD (MK BO)]using this
  obtain⟨y,CV⟩:=Sy (c2+(j:Int)*(j:Int)) (20+j) (by lia);have QW:JE [.int (c2+(j:Int)*(j:Int)),.int (20+(j:Int))]=.ok (.v (.int y)):=by rw[<-CV];simp
  have E2:Ah (.lst (al.map Af)) (.int (j:Int))=.ok (Af al[j]):=Go (by simp[BO])
  simp! [ua,QW,E2]
  refine⟨ps++[(y,al[j])],?_,by simp[T2]⟩;rw[Po,AW,Pp,C5 BO];rfl
 .rintro _ ⟨ps,s4,AW,rfl⟩;rw[Wr]at AW;have CZ:ps.length=al.length:=by rw[<-AW,Eh]
  obtain⟨Gr,Ac,es⟩:=afE ps (by lia);have ajO:Gr.length=al.length:=by rw[Ac.length_eq,CZ]
  simp;refine bF (λp:NQ=>.int p.1) (λp=>Af p.2) Gr (λp=>Af p.2) (by simp[es];intros;rfl) (by lia) (λp _=>by simp) ?_;have hd:(Gr.map (·.2)).Perm al:=by rw[<-AW];exact Ac.map _
  have ug:Gr.map (λp=>Af p.2)=(Gr.map (·.2)).map Af:=by simp
  rw[ug];generalize Qe:Gr.map (·.2)=dl at hd;have ajI:dl.length=al.length:=hd.length_eq;obtain⟨y,CV⟩:=Sy c3 11 (by decide);have QW:JE [.int c3,.int 11]=.ok (.v (.int y)):=CV;have ait:=Ps y (b:=((al.length:Int)-1)/2/3+1) (by lia);have aiu:=Pv y (b:=((al.length:Int)-1)/2/3+1) (by lia);generalize Az:((al.length:Int)-1)/2-y%(((al.length:Int)-1)/2/3+1)=v;have wi:0<=v/\2*v+1<=al.length:=by lia
  obtain⟨n,rfl⟩:=fT wi.1
  simp! [UX,QW,Az]
  refine bH n (λk=>DS (dl.getD (2*k) (0,0),dl.getD (2*k+1) (0,0))) (by simp(disch:=first|lia|(simp;done)|(simp;lia))) (by lia) (λk AG=>?_) ?_
  .have a1:Ah (.lst (dl.map Af)) (.int (2*(k:Int)))=.ok (Af (dl.getD (2*k) (0,0))):=by
     have:=Go (xs:=dl.map Af) (k:=2*k) (d:=Af (dl.getD (2*k) (0,0))) (by simp[show 2*k<dl.length by lia]);rw[<-this];simp
   have a2:Ah (.lst (dl.map Af)) (.int (2*(k:Int)+1))=.ok (Af (dl.getD (2*k+1) (0,0))):=by have:=Go (xs:=dl.map Af) (k:=2*k+1) (d:=Af (dl.getD (2*k+1) (0,0))) (by simp[show 2*k+1<dl.length by lia]);rw[<-this];simp
   simp only[Hc]at a1 a2;simp[a1,a2,DS]
  .have KX:=j9 dl n (by lia);have aaR:dl.Nodup:=hd.nodup_iff.mpr cA;simp;refine⟨pairUp dl n,⟨h1,h6,HS,by rw[KX];exact aaR.sublist (List.take_sublist _ _),λd Ea=>?_,?_⟩,by simp[pairUp,DS]⟩
   .rw[KX]at Ea;rw[au];exact hd.mem_iff.mp (Rh Ea)
   .simp[pairUp];lia
def Fc(c:Nat):Prop:=c=48\/c=49\/c=120
structure KJ(x:Str):Prop where
 l:x.cps.toList.length=4
 s:∀c∈x.cps.toList,Fc c
def aeq{c:Nat}(h:Fc c):inD true (I8 c) S6=.ok (.AO true):=by rcases h with h|h|h<;>subst h<;>rfl
def len_str(x:Str)(h:x.cps.toList.length<=1000):Di [.str x]=.ok (.int (x.cps.toList.length:Int)):=by
 have e:x.length=x.cps.toList.length:=rfl;have A7:x.length<=1000000:=by lia
 rw[<-e];simp only[Di,if_pos A7]
def z2(x:Str):JB "str" (.str x)=.ok (.AO true):=rfl
def z3(l:List D):JB "tuple" (.tup l)=.ok (.AO true):=rfl
def afH:Di [QL]=.ok (.int 4):=rfl
def nK{x:Str}(h:KJ x):Sq [.str x]=.ok (.v (.AO true)):=by apply Ends.done;have l:=h.l;simp[Sq,hy,z2,len_str x (by lia),afH,l];refine O_ I8 x.cps.toList (λ_=>.AO true) (by simp) (by lia) (λc AB=>by simp[aeq (h.s c AB)]) ?_;have a:=UM (λ_:Nat=>true) x.cps.toList;simp only[a];simp
def acv(y:Int):∃c,Fc c/\Ah (.str (CL "01xx")) (.int (y%4))=.ok (.str ⟨#[c]⟩):=by
 have h:y%4=0\/y%4=1\/y%4=2\/y%4=3:=by lia
 rcases h with h|h|h|h<;>rw[h]
 .exact⟨48,.inl rfl,rfl⟩
 .exact⟨49,.inr (.inl rfl),rfl⟩
 .exact⟨120,.inr (.inr rfl),rfl⟩
 .exact⟨120,.inr (.inr rfl),rfl⟩
def sj{x y:Str}(h:x.length+y.length<=1000000):DY (.str x) (.str y)=.ok (.str (x++y)):=if_pos h
def tR(x:Str)(c:Nat):(x++(⟨#[c]⟩:Str)).cps.toList=x.cps.toList++[c]:=by show(x.cps++ #[c]).toList=_;simp
def abX(y:Int):∃p,KJ p/\WC [.int y]=.ok (.v (.str p)):=by
 suffices h:Ends (WC [.int y]) λb=>∃p,KJ p/\b=.v (.str p)by
  obtain⟨b,e,p,h,rfl⟩:=h;exact⟨p,h,e⟩
 simp[WC,hF];refine Oh 4 (λj ρ=>∃(z:Int)(x:Str)(s2:C4),x.cps.toList.length=j/\(∀c∈x.cps.toList,Fc c)/\ρ=[.AI (.int z),.AI (.str x),s2]) (by simp;exact adp 4 (by decide)) ⟨y,CL "",.un,by decide,(λc h=>nomatch (show c∈([]:List Nat)from h)),rfl⟩ ?_ ?_
 .rintro j _ BO ⟨z,x,s2,AF,hs,rfl⟩;obtain⟨c,AB,e⟩:=acv z;have Md:x.length+(⟨#[c]⟩:Str).length<=1000000:=by
   have h1:x.length=x.cps.toList.length:=rfl;have h2:(⟨#[c]⟩:Str).length=1:=rfl;lia
  simp! [e,sj Md]
  have ca:=tR x c;refine⟨_,_,by rw[<-NC,ca];simp[AF],λd hd=>?_,rfl,rfl⟩;rw[<-Array.mem_toList_iff,ca]at hd;rcases List.mem_append.mp hd with h|h
  .exact hs d h
  .rw[List.mem_singleton.mp h];exact AB
 .rintro _ ⟨z,x,s2,AF,hs,rfl⟩;simp;exact⟨AF,hs⟩
structure Bx where
 p:Str
 a:Option Nat
 b:Option Nat
noncomputable def Er:Option Nat->D
 |none=>.non
 |some k=>.int (k:Int)
def CR(r:Bx):D:=.tup [.str r.p,Er r.a,Er r.b]
structure SI(c:Nat)(r:Bx):Prop where
 p:KJ r.p
 a:∀k,r.a=some k->k<c
 b:∀k,r.b=some k->k<c
def nU{c:Nat}{o:Option Nat}(h:∀k,o=some k->k<c):P5 [Er o,.int (c:Int)]=.ok (.v (.AO true)):=by
 cases o with
 |none=>simp[P5,XU,Er,IV]
 |some k=>have:=h k rfl;simp[P5,XU,Er,IV,aO];lia
def adq{c:Nat}{p a b:D}{h1 h2 h3:Bool}(A1:Sq [p]=.ok (.v (.AO h1)))(A7:P5 [a,.int (c:Int)]=.ok (.v (.AO h2)))(B8:P5 [b,.int (c:Int)]=.ok (.v (.AO h3))):Sr [.tup [p,a,b],.int (c:Int)]=.ok (.v (.AO (h1&&h2&&h3))):=by have Fg:Ah (.tup [p,a,b]) (.int 0)=.ok p:=rfl;have Bj:Ah (.tup [p,a,b]) (.int 1)=.ok a:=rfl;have Bd:Ah (.tup [p,a,b]) (.int 2)=.ok b:=rfl;cases h1<;>cases h2<;>cases h3<;>simp[Sr,hz,z3,Fg,Bj,Bd,A1,A7,B8]
def adt{c:Nat}{r:Bx}(h:SI c r):Sr [CR r,.int (c:Int)]=.ok (.v (.AO true)):=adq (nK h.p) (nU h.a) (nU h.b)
def ads(cell:Int)(k:Nat)(AG:k<900)(c:Nat)(AB:1<=c):∃r,SI c r/\WD [.int cell,.int k,.int (c:Int)]=.ok (.v (CR r)):=by
 obtain⟨y,CV⟩:=Sy cell k (by lia);obtain⟨p,AW,B3⟩:=abX y;obtain⟨A_,xS,eq1⟩:=Sz (y/700) (n:=c) (by lia);obtain⟨B4,xT,eq2⟩:=Sz (y/3000) (n:=c) (by lia);have H7:∃o:Option Nat,(∀k,o=some k->k<c)/\Ah (.lst [.non,.int (A_:Int)]) (.int (y/256%2))=.ok (Er o):=by
  have h:y/256%2=0\/y/256%2=1:=by lia
  rcases h with h|h<;>rw[h]
  .exact⟨none,(λ_ z=>nomatch z),rfl⟩
  .exact⟨some A_,(λk z=>by cases z;exact xS),rfl⟩
 have H8:∃o:Option Nat,(∀k,o=some k->k<c)/\Ah (.lst [.int (B4:Int),.non]) (.int (if(y/20000%9==0)=true then 1 else 0))=.ok (Er o):=by
  cases h:(y/20000%9==0)
  .exact⟨some B4,(λk z=>by cases z;exact xT),rfl⟩
  .exact⟨none,(λ_ z=>nomatch z),rfl⟩
 obtain⟨Cc,h1,Bj⟩:=H7;obtain⟨CD,h2,Bd⟩:=H8;refine⟨⟨p,Cc,CD⟩,⟨AW,h1,h2⟩,?_⟩;simp only[beq_iff_eq]at Bd
 simp! [WD,hG,CV,eq1,eq2,Bj,Bd,B3,CR]
def BJ(b:List Bx):D:=.lst (b.map CR)
structure M4(c:Nat)(b:List Bx):Prop where
 l:b.length<=12
 r:∀r∈b,SI c r
def uC{c:Nat}{l:List D}{f:D->Bool}(AF:l.length<=12)(h:∀d∈l,Sr [d,.int (c:Int)]=.ok (.v (.AO (f d)))):Sp [.lst l,.int (c:Int)]=.ok (.v (.AO (l.all f))):=by apply Ends.done;simp[Sp,hu,cN,S5,show¬((12:Int)<l.length)by lia];refine O_ id l (λd=>.AO (f d)) (by simp) (by lia) (λd hd=>by simp[h d hd]) ?_;have a:=UM f l;simp[a]
def uE{c:Nat}{b:List Bx}(h:M4 c b):Sp [BJ b,.int (c:Int)]=.ok (.v (.AO true)):=by
 have:=uC (c:=c) (l:=b.map CR) (f:=λ_=>true) (by simpa using h.l) λd hd=>by obtain⟨r,AS,rfl⟩:=List.mem_map.mp hd;exact adt (h.r r AS)
 unfold BJ;rw[this];simp
def CG(cs:List Nat)(ws:List (AC×AC)):D:=.ins "Net" ["many","counts","joined","far"] [.int (cs.length:Nat),.tup (Bv cs),.tup (ws.map DS),.BN (EC ws) (ER ws)]
def bw(cs:List Nat)(ws:List (AC×AC)):Eu "Net" "many" (CG cs ws)=.ok (.int (cs.length:Int)):=rfl
def jt(cs:List Nat)(ws:List (AC×AC)):Eu "Net" "counts" (CG cs ws)=.ok (.tup (Bv cs)):=rfl
def adl(cs:List Nat)(ws:List (AC×AC)):Nq "Net" "count" (CG cs ws)=.ok (CG cs ws):=rfl
def u2{cs:List Nat}{ws:List (AC×AC)}{h:Nat}(B1:h<cs.length):Zl [CG cs ws,.int (h:Int)]=.ok (.v (.int (cs.getD h 0:Nat))):=by have e:Ah (.tup (Bv cs)) (.int (h:Int))=.ok (.int (cs.getD h 0:Nat)):=cO (UT B1);simp only[Hc]at e |-;simp[Zl,hj,bw,jt,e,B1]
def uF{cs:List Nat}{ws:List (AC×AC)}{l:List D}{f:D×Nat->Bool}(AF:l.length=cs.length)(h6:cs.length<=6)(h:∀p∈l.zipIdx,Sp [p.1,.int (cs.getD p.2 0:Nat)]=.ok (.v (.AO (f p)))):RA [.lst l,CG cs ws]=.ok (.v (.AO (l.zipIdx.all f))):=by
 apply Ends.done;simp[RA,hv,cN,bw,AF];have E6:=Xn id l;rw[List.map_id]at E6;refine bF (λp:D×Nat=>.int (p.2:Int)) (λp=>p.1) l.zipIdx (λp=>.AO (f p)) (by simp only[qp,dq,v_var,aL];simp[E6]) (by simp;lia) (λp AW=>?_) ?_
 .have:=(Ff.mp (rX AW)).1;have AB:=u2 (cs:=cs) (ws:=ws) (h:=p.2) (by lia);have J:=h p AW;simp only[Hc]at AB J;simp[adl,AB,J]
 .have a:=UM f l.zipIdx;simp[a]
structure Hf(cs:List Nat)(bs:List (List Bx)):Prop where
 l:bs.length=cs.length
 b:∀(i:Nat) b,bs[i]?=some b->M4 (cs.getD i 0) b
def uH{cs:List Nat}{ws:List (AC×AC)}{bs:List (List Bx)}(h6:cs.length<=6)(h:Hf cs bs):RA [.lst (bs.map BJ),CG cs ws]=.ok (.v (.AO true)):=by
 have:=uF (ws:=ws) (l:=bs.map BJ) (f:=λ_=>true) (by simpa using h.l) h6 λp AW=>by
  have e:=rX AW;rw[EH]at e;cases B7:bs[p.2]? with
  |none=>rw[B7]at e;cases e
  |some b=>rw[B7]at e;rw[<-Dz (show some (BJ b)=some p.1 from e)];exact uE (h.b _ _ B7)
 rw[this];simp
def Qv(b:List Bx):T:=.lst (b.map λr=>T.AI (CR r))
def Mr(bs:List (List Bx)):List T:=bs.map Qv
def afp(b:List Bx):toD (Qv b)=BJ b:=by
 have:∀l:List Bx,Jr (l.map λr=>T.AI (CR r))=l.map CR:=λl=>by
  induction l with
  |nil=>simp[Jr]
  |cons r l Bg=>simp[Jr,toD,Bg]
 unfold Qv BJ;rw[toD,this]
def rS(bs:List (List Bx)):toD (.lst (Mr bs))=.lst (bs.map BJ):=by
 have:∀l:List (List Bx),Jr (l.map Qv)=l.map BJ:=λl=>by
  induction l with
  |nil=>simp[Jr]
  |cons r l Bg=>simp[Jr,afp,Bg]
 unfold Mr;rw[toD,this]
def Hf.put{cs:List Nat}{bs:List (List Bx)}(h:Hf cs bs){k:Nat}{b:List Bx}{r:Bx}(e:bs[k]?=some b)(AF:b.length<12)(AS:SI (cs.getD k 0) r):Hf cs (bs.set k (b++[r])):=by
 refine⟨by simpa using h.l,λi x ex=>?_⟩;rw[fe]at ex;have AG:=(Ff.mp e).1;by_cases q:k=i
 .rw[if_pos q,if_pos AG]at ex;cases ex;subst q;refine⟨by simp;lia,λx A5=>?_⟩;rcases List.mem_append.mp A5 with A5|A5
  .exact(h.b _ _ e).r x A5
  .rw[List.mem_singleton.mp A5];exact AS
 .rw[if_neg q]at ex;exact h.b _ _ ex
def wK{cs:List Nat}(h:∀c∈cs,1<=c/\c<=4){k:Nat}(AG:k<cs.length):1<=cs.getD k 0/\cs.getD k 0<=4:=by have:=h (cs[k]) (JU _);simpa[AG]using this
def uG(zs:List Int)(Aj:zs.length<=100)(cs:List Nat)(h1:1<=cs.length)(h6:cs.length<=6)(HS:∀c∈cs,1<=c/\c<=4):∃bs,Hf cs bs/\Uo [.lst (zs.map D.int),.lst (Bv cs)]=.ok (.t (.lst (Mr bs))):=by
 suffices h:Ends (Uo [.lst (zs.map D.int),.lst (Bv cs)]) λb=>∃bs,Hf cs bs/\b=.t (.lst (Mr bs))by
  obtain⟨b,e,bs,h,rfl⟩:=h;exact⟨bs,h,e⟩
 have lcs:(Bv cs).length=cs.length:=by simp[Bv]
 simp[Uo,i5];refine ul (λc:Nat=>D.int (c:Int)) cs (λ_=>[]) (by simp[Bv]) (by lia) (λc _=>by simp) ?_;refine T6 (λp:Int×Nat=>.tup [.int (p.2:Int),.int p.1]) zs.zipIdx (λ_ ρ=>∃(bs:List (List Bx))(s3 s4 s5:C4),Hf cs bs/\ρ=[.AI (.lst (zs.map D.int)),.AI (.lst (Bv cs)),.DF (.lst (Mr bs)),s3,s4,s5]) (by simp[Xn]) ⟨cs.map λ_=>[],.un,.un,.un,⟨by simp,λi b e=>?_⟩,by simp[Mr,Qv,Ji]⟩ ?_ ?_
 .rw[EH]at e;cases ec:cs[i]? with
  |none=>rw[ec]at e;cases e
  |some c=>rw[ec]at e;cases e;exact⟨by simp,λr h=>nomatch h⟩
 .rintro j ⟨z,Pa⟩ _ BO ⟨bs,s3,s4,s5,ok,rfl⟩;obtain⟨A1,A7⟩:=f6 BO;simp only at A1 A7;subst A1;have ajp:Pa<zs.length:=(Ff.mp A7).1;obtain⟨k,AG,Ck⟩:=Sz (Pa:Int) (n:=cs.length) (by lia);have VP:k<bs.length:=by rw[ok.l];exact AG
  have B7:bs[k]?=some bs[k]:=C5 VP;have z7:Ah (.lst (bs.map BJ)) (.int (k:Int))=.ok (BJ bs[k]):=Go (by simp[VP]);have Jh:Di [BJ bs[k]]=.ok (.int (bs[k].length:Int)):=by simp[BJ]
  have mR:Ah (.lst (Bv cs)) (.int (k:Int))=.ok (.int (cs.getD k 0:Nat)):=Go (UT AG)
  simp! [lcs,Ck,rS,z7,Jh]
  by_cases AF:bs[k].length<12
  .obtain⟨r,AS,CO⟩:=ads z (31+Pa) (by lia) (cs.getD k 0) (wK HS AG).1;have kf:WD [.int z,.int (31+(Pa:Int)),.int (cs.getD k 0:Nat)]=.ok (.v (CR r)):=by rw[<-CO];simp
   have O4:(Mr bs)[k]?=some (.lst (bs[k].map λr=>T.AI (CR r))):=by simp[Mr,VP,Qv]
   rw[if_pos (by lia),sz O4 (d:=CR r) (by simp only[Hc]at kf mR;simp[mR,kf]) (by simp;lia)]
   simp;refine⟨bs.set k (bs[k]++[r]),ok.put B7 AF AS,?_⟩;simp[Mr,Qv,List.map_set]
  .rw[if_neg (by lia)];simp;exact⟨bs,ok,rfl⟩
 .rintro _ ⟨bs,s3,s4,s5,ok,rfl⟩;simp;exact⟨bs,ok,rfl⟩
@[simp] theorem akK(m n:AY)(ρ:A8):V3 m n ρ=(m ρ).bind λd=>match d with
  |.BN ks ds=>(n ρ).bind λk=>match Mc k with
   |some Bh=>.ok ((findD ks ds Bh).getD .non)
   |none=>.bad
  |_=>.bad:=(rfl)
@[simp] theorem qq(e:AY)(ρ:A8):LM e ρ=(e (Em ρ)).bind λd=>.ok (.DB d):=by unfold LM;rfl
@[simp] theorem akR(m:AY)(ma:Ad)(ρ:A8):Mi m ma ρ=(m ρ).bind λd=>match d with
  |.lst ds=>(ma ρ).bind λes=>QA (.lst ds) es
  |_=>.bad:=(rfl)
def iV(i:Int):So [.int i]=.ok (.v (.AO (decide (0<=i)&&decide (i<=15)))):=by simp[So,ht,aO,S2]
noncomputable def KP(a w:Nat):Nat:=48+a/w%2
def J6(p:Str)(a:Nat):Bool:=(p.cps.toList.zip [8,4,2,1]).all λq=>decide (q.1=120\/q.1=KP a q.2)
def aeY(b:Nat)(h:b=0\/b=1):T3 [.int (b:Int)]=.ok (.str ⟨#[48+b]⟩):=by rcases h with rfl|rfl<;>rfl
def sign_eq(c d:Nat):CU (.str ⟨#[d]⟩) (I8 c)=decide (c=d):=by show CU (.str ⟨#[d]⟩) (.str ⟨#[c]⟩)=_;simp only[CU];rw[Rm,beq_iff_eq,decide_eq_true_iff];simp;exact eq_comm
def aeZ:CL "x"=⟨#[120]⟩:=by decide
def xY(c d:Nat):inD true (I8 c) (.tup [.str (CL "x"),.str ⟨#[d]⟩])=.ok (.AO (decide (c=120\/c=d))):=by have o:okN 7 (I8 c)=true:=rfl;have Cc:okN 7 (.str (CL "x"))=true:=rfl;have CD:okN 7 (.str ⟨#[d]⟩)=true:=rfl;have s:RO (.tup [.str (CL "x"),.str ⟨#[d]⟩])=some [.str (CL "x"),.str ⟨#[d]⟩]:=rfl;simp only[inD,s,o,Cc,CD,NF,XJ,Pz,and_self,if_true,Px,List.any_nil,Bool.or_false];rw[aeZ,sign_eq,sign_eq];simp
def lh{p:Str}(AW:KJ p){a:Nat}(A2:a<16):P4 [.str p,.int (a:Int)]=.ok (.v (.AO (J6 p a))):=by
 apply Ends.done;have l:=AW.l;simp[P4,hq,nK AW,iV,show(a:Int)<=15 by lia];refine bF (λq:Nat×Nat=>I8 q.1) (λq=>.int (q.2:Int)) (p.cps.toList.zip [8,4,2,1]) (λq=>.AO (decide (q.1=120\/q.1=KP a q.2))) ?_ (by simp;lia) (λq Ac=>?_) ?_
 .show R.ok (R1 p.cps.toList [.int 8,.int 4,.int 2,.int 1])=_;unfold R1;rw[show([.int 8,.int 4,.int 2,.int 1]:List D)=([8,4,2,1]:List Nat).map λ(n:Nat)=>D.int (n:Int)from rfl,List.zip_map_right,Tz];rfl
 .have hw:q.2=8\/q.2=4\/q.2=2\/q.2=1:=by
    have:=(Wl (show(q.1,q.2)∈_ from Ac)).2;simpa using this
  have Ee:T3 [.int ((a:Int)/(q.2:Int)%2)]=.ok (.str ⟨#[48+a/q.2%2]⟩):=by have:=aeY (a/q.2%2) (by lia);rw[<-this];simp
  simp! [Ee,xY,KP]
  rw[Rm];simp;exact decide_eq_true_iff.symm
 .have al:=UM (λq:Nat×Nat=>decide (q.1=120\/q.1=KP a q.2)) (p.cps.toList.zip [8,4,2,1]);simp only[al];simp[J6]
def mt(d a:Nat)(r:Bx):Bool:=(r.a.isNone||r.a==some d)&&J6 r.p a
def yz(o:Option Nat):IV (Er o)=o.isNone:=by cases o<;>rfl
def uw(o:Option Nat)(d:Nat):Ct true (Er o) (.int (d:Int))=.ok (.AO (o==some d)):=by
 cases o with
 |none=>rfl
 |some k=>
  show R.ok (D.AO ((k:Int)==(d:Int)))=_
  congr 2
  rw[Rm];simp;lia
def afV(mi:Ad)(set:D->A8->R A8)(body:B6)(ρ:A8):Eb mi set body ρ=(mi ρ).bind λds=>H3 set body ds ρ:=(rfl)
def JN(d a:Nat):Nat->List Bx->Option Nat
 |_,[]=>none
 |i,r::rs=>if mt d a r=true then some i else JN d a (i+1) rs
theorem rL{d a:Nat}(A2:a<16):∀(rs:List Bx)(i:Nat)(s0 s3 s4:C4),(∀r∈rs,KJ r.p)->
  Ends ((H3 (G8 [B_ 3,B_ 4]) (DA (QG (HC (Be (AK (JA true) (AK Ah (A3 4) (AM (.int 1))) (AM .non))) (Be (AK (Ct true) (AK Ah (A3 4) (AM (.int 1))) (A3 1)))) (Be (Bt 2 P4 (A9 (AK Ah (A3 4) (AM (.int 0))) (A9 (A3 2) (AL)))))) (CK (A3 3)) (DE)) ((rs.zipIdx i).map λp=>.tup [.int (p.2:Int),CR p.1]) [s0,.AI (.int (d:Int)),.AI (.int (a:Int)),s3,s4]).bind (RQ (CK (AM .non)))) (· =.DB (Er (JN d a i rs)))
 |[],i,s0,s3,s4,_=>by simp[JN,Er]
 |r::rs,i,s0,s3,s4,h=>by
  have Fg:Ah (CR r) (.int 0)=.ok (.str r.p):=rfl;have Bj:Ah (CR r) (.int 1)=.ok (Er r.a):=rfl;have Bg:=rL (d:=d) A2 rs (i+1) s0 (.AI (.int (i:Int))) (.AI (CR r)) λx A5=>h x (E3 _ A5);have f:=lh (h r GT) A2;have bd:(DA (QG (HC (Be (AK (JA true) (AK Ah (A3 4) (AM (.int 1))) (AM .non))) (Be (AK (Ct true) (AK Ah (A3 4) (AM (.int 1))) (A3 1)))) (Be (Bt 2 P4 (A9 (AK Ah (A3 4) (AM (.int 0))) (A9 (A3 2) (AL)))))) (CK (A3 3)) (DE)) [s0,.AI (.int (d:Int)),.AI (.int (a:Int)),.AI (.int (i:Int)),.AI (CR r)]=if mt d a r=true then .ok (.DB (.int (i:Int)))else .ok (.BK [s0,.AI (.int (d:Int)),.AI (.int (a:Int)),.AI (.int (i:Int)),.AI (CR r)]):=by unfold mt;have A_:=yz r.a;have B4:=uw r.a d;generalize r.a.isNone=EZ at A_ |-;generalize(r.a==some d)=DG at B4 |-;generalize J6 r.p a=Lf at f |-;cases EZ<;>cases DG<;>cases Lf<;>simp[Fg,Bj,A_,B4,f]
  rw[Ti,DP,H3];simp only[adE,adm,adn,afZ,FQ,Pn,Dl];simp only[show(3:Nat)<0+1+1+1+1+1 by decide,if_true,Dl,List.set_cons_succ,ft,FQ,Pn,show(4:Nat)<0+1+1+1+1+1 by decide,bd];cases hm:mt d a r with
  |true=>simp[JN,hm,Er]
  |false=>simp only[FZ,if_false,Dl,JN,hm];exact Bg
def rM{b:List Bx}(J:∀r∈b,KJ r.p)(d a:Nat)(A2:a<16):WG [BJ b,.int (d:Int),.int (a:Int)]=.ok (.v (Er (JN d a 0 b))):=by apply Ends.done;have e:T7 [BJ b]=.ok (b.zipIdx.map λp=>.tup [.int (p.2:Int),CR p.1]):=Xn CR b;have k:=rL (d:=d) A2 b 0 (.AI (BJ b)) .un .un J;obtain⟨f,hf,rfl⟩:=k;simp only[WG,afU,hQ,dr,afV,qp,dq,v_var,aL];have z:ZZ (Ha 5 [BJ b,.int (d:Int),.int (a:Int)])[0]?=.ok (BJ b):=rfl;simp only[z,Dl,e];have CP:Ha 5 [BJ b,.int (d:Int),.int (a:Int)]=[.AI (BJ b),.AI (.int (d:Int)),.AI (.int (a:Int)),.un,.un]:=rfl;rw[CP,hf];simp
noncomputable def st(s:String):D:=.str (CL s)
inductive On where
 |drop|out (o:Nat)|to (e:AC)
noncomputable def pairsOf(ws:List (AC×AC)):List (AC×AC):=ws.flatMap λw=>[(w.1,w.2),(w.2,w.1)]
def Lg(ws:List (AC×AC))(d:AC):Option AC:=((pairsOf ws).find? λp=>decide (p.1=d)).map (·.2)
theorem rW:∀ws:List (AC×AC),(EC ws).zip (ER ws)=(pairsOf ws).map λp=>(Hr p.1,Af p.2)
 |[]=>rfl
 |w::ws=>by
  have Bg:=rW ws;have A1:EC (w::ws)=Hr w.1::Hr w.2::EC ws:=by simp[EC,ends]
  have A7:ER (w::ws)=Af w.2::Af w.1::ER ws:=by simp[ER]
  have B8:pairsOf (w::ws)=(w.1,w.2)::(w.2,w.1)::pairsOf ws:=by simp[pairsOf]
  rw[A1,A7,B8,ND,ND,Bg];rfl
def w3(ps:List (AC×AC))(d:AC):((ps.map λp=>(Hr p.1,Af p.2)).find? λp=>decide (p.1=Hr d))=(ps.find? λp=>decide (p.1=d)).map λp=>(Hr p.1,Af p.2):=by
 induction ps with
 |nil=>rfl
 |cons p ps Bg=>
  rw[DP,Kp,Kp];by_cases h:p.1=d
  .simp[h]
  .have:Hr p.1≠Hr d:=λz=>h (cV z);simp[h,this,Bg]
def v3(ws:List (AC×AC))(d:AC):findD (EC ws) (ER ws) (Hr d)=(Lg ws d).map Af:=by unfold findD Lg;rw[rW,w3,Option.map_map,Option.map_map];rfl
def jc{ws:List (AC×AC)}{d e:AC}(h:Lg ws d=some e):e∈ends ws:=by
 unfold Lg at h;obtain⟨p,AW,rfl⟩:=Option.map_eq_some_iff.mp h;have hm:=List.mem_of_find?_eq_some AW;unfold pairsOf at hm;obtain⟨w,hw,Aj⟩:=List.mem_flatMap.mp hm;have lO:∀x,x=w.1\/x=w.2->x∈ends ws:=λx A5=>List.mem_flatten.mpr ⟨[w.1,w.2],List.mem_map.mpr ⟨w,hw,rfl⟩,by simpa using A5⟩;simp only[La,LZ,or_false]at Aj;rcases Aj with rfl|rfl
 .exact lO _ (.inr rfl)
 .exact lO _ (.inl rfl)
def Ek(h:Nat):On->D
 |.drop=>.tup [st "drop",.int (h:Int)]
 |.out o=>.tup [st "out",.int (h:Int),.int (o:Int)]
 |.to e=>.tup [st "at",.int (e.1:Int),.int (e.2:Int)]
def BK(ws:List (AC×AC))(b:List Bx)(h d a:Nat):On:=match JN d a 0 b with
 |none=>.drop
 |some i=>match(b[i]?).bind (·.b)with
  |none=>.drop
  |some o=>match Lg ws (h,o)with
   |none=>.out o
   |some e=>.to e
theorem eD{d a:Nat}:∀(rs:List Bx)(i k:Nat),JN d a i rs=some k->i<=k/\k<i+rs.length
 |[],_,_,h=>by simp[JN]at h
 |r::rs,i,k,h=>by
  simp only[JN]at h
  split at h
  .cases h;simp
  .have:=eD rs (i+1) k h;simp;lia
def la(cs:List Nat)(ws:List (AC×AC)):Eu "Net" "far" (CG cs ws)=.ok (.BN (EC ws) (ER ws)):=rfl
def Z7(cs:List Nat)(ws:List (AC×AC)):Nq "Net" "beyond" (CG cs ws)=.ok (CG cs ws):=rfl
def jd(cs:List Nat)(ws:List (AC×AC))(d:AC):P3 [CG cs ws,Af d]=.ok (.v (((Lg ws d).map Af).getD .non)):=by simp[P3,gs,la,TP,v3]
def abz{cs:List Nat}{ws:List (AC×AC)}{b:List Bx}(J:∀r∈b,KJ r.p)(h d a:Nat)(A2:a<16):Nj [CG cs ws,BJ b,Af (h,d),.int (a:Int)]=.ok (.v (Ek h (BK ws b h d a))):=by
 have Fg:Ah (Af (h,d)) (.int 0)=.ok (.int (h:Int)):=rfl;have Bj:Ah (Af (h,d)) (.int 1)=.ok (.int (d:Int)):=rfl;have BW:=rM J d a A2;have hW:∀o:Nat,P3 [CG cs ws,.tup [.int (h:Int),.int (o:Int)]]=.ok (.v (((Lg ws (h,o)).map Af).getD .non)):=λo=>jd cs ws (h,o);have Fm:IV .non=true:=rfl;have CQ:∀i,IV (.int i)=false:=λ_=>rfl;unfold BK;cases e:JN d a 0 b with
 |none=>simp[Nj,S0,Fg,Bj,BW,e,Er,Fm,CQ,Ek,st]
 |some i=>
  have A0:=eD b 0 i e;have IU:i<b.length:=by lia
  have Jf:Ah (BJ b) (.int (i:Int))=.ok (CR b[i]):=Go (by simp[IU]);have Bd:Ah (CR b[i]) (.int 2)=.ok (Er b[i].b):=rfl;simp only[C5 IU,fl];cases B7:b[i].b with
  |none=>simp[Nj,S0,Fg,Bj,BW,e,Er,Fm,CQ,Ek,st,Jf,Bd,B7]
  |some o=>
   have Nd:=hW o;cases CV:Lg ws (h,o)with
   |none=>rw[CV]at Nd;simp[Nj,S0,Fg,Bj,BW,e,Er,Fm,CQ,Ek,st,Jf,Bd,B7,Z7,Nd,CV]
   |some f=>rw[CV]at Nd;have f0:Ah (Af f) (.int 0)=.ok (.int (f.1:Int)):=rfl;have f1:Ah (Af f) (.int 1)=.ok (.int (f.2:Int)):=rfl;have Jk:IV (Af f)=false:=rfl;simp[Nj,S0,Fg,Bj,BW,e,Er,Fm,CQ,Ek,st,Jf,Bd,B7,Z7,Nd,CV,f0,f1,Jk]
inductive Ft where
 |drop (h:Nat)|out (h o:Nat)|ring (d:AC)
noncomputable def walk(N:AC->On):Nat->List AC->AC->Option (List AC×Ft)
 |0,_,_=>none
 |n+1,ds,d=>if d∈ds then some (ds,.ring d)else match N d with
  |.to e=>walk N n (ds++[d]) e
  |.drop=>some (ds++[d],.drop d.1)
  |.out o=>some (ds++[d],.out d.1 o)
theorem qw{N:AC->On}{A:List AC}(J7:A.length<100)(cl:∀d∈A,∀e,N d=.to e->e∈A):∀(n:Nat)(ds:List AC)(d:AC),ds.Nodup->(∀x∈ds,x∈A)->d∈A->101<=n+ds.length->∃r,walk N n ds d=some r
 |0,ds,d,Cb,Ee,_,h=>by have:=rd Cb Ee;lia
 |n+1,ds,d,Cb,Ee,hd,h=>by
  simp only[walk];by_cases hm:d∈ds
  .rw[if_pos hm];exact⟨_,rfl⟩
  .rw[if_neg hm];cases e:N d with
   |drop=>exact⟨_,rfl⟩
   |out o=>exact⟨_,rfl⟩
   |to f=>
    have T0:(ds++[d]).Nodup:=List.nodup_append.mpr ⟨Cb,by simp,λx A5 y Ao z=>hm (by rw[<-List.mem_singleton.mp Ao,<-z];exact A5)⟩;have aeD:∀x∈ds++[d],x∈A:=λx A5=>by
     rcases List.mem_append.mp A5 with h|h
     .exact Ee x h
     .rw[List.mem_singleton.mp h];exact hd
    exact qw J7 cl n (ds++[d]) f T0 aeD (cl d hd f e) (by simp;lia)
def hA(a b:AC):CU (Af a) (Af b)=decide (a=b):=by
 show(((a.1:Int)==(b.1:Int))&&(((a.2:Int)==(b.2:Int))&&true))=_;rw[Pz,Rm,FR,beq_iff_eq,beq_iff_eq,decide_eq_true_iff];constructor
 .intro⟨h1,h2⟩;exact Rx (by lia) (by lia)
 .rintro rfl;exact⟨rfl,rfl⟩
def Xl(ds:List AC):(ds.map Af).all (okN 7)=true:=by rw[Ro,OM];intro d _;rfl
def gR(ds:List AC)(d:AC):((ds.map Af).any λy=>CU y (Af d))=decide (d∈ds):=by
 rw[XH,Rm,f_,decide_eq_true_iff];constructor
 .rintro⟨x,A5,h⟩;have:=(hA x d).symm.trans h;rw[decide_eq_true_iff]at this;rw[<-this];exact A5
 .intro h;exact⟨d,h,by show CU (Af d) (Af d)=true;rw[hA];simp⟩
def aaF{m1 m2:AY}{ρ:A8}{ds:List AC}{d:AC}(h1:m1 ρ=.ok (Af d))(h2:m2 ρ=.ok (.lst (ds.map Af))):Be (AK (inD false) m1 m2) ρ=.ok (!decide (d∈ds)):=by refine oE (s_ h1 h2 ?_);have s:RO (.lst (ds.map Af))=some (ds.map Af):=rfl;have o:okN 7 (Af d)=true:=rfl;simp only[inD,s,Xl,o,and_self,if_true,gR];rfl
noncomputable def idx(ds:List AC)(d:AC):Nat:=(ds.findIdx? λx=>decide (x=d)).getD 0
def n8{m1 m2:AY}{ρ:A8}{ds:List AC}{d:AC}(h2:m2 ρ=.ok (.lst (ds.map Af)))(h1:m1 ρ=.ok (Af d))(hm:d∈ds)(AF:ds.length<1000):Mi m2 (A9 m1 AL) ρ=.ok (.int (idx ds d:Nat)):=by
 have f:(ds.map Af).findIdx? (λz=>CU z (Af d))=ds.findIdx? (λx=>decide (x=d)):=by
  rw[List.findIdx?_map]
  congr 1
  funext x
  exact hA x d
 have g:∃j,ds.findIdx? (λx=>decide (x=d))=some j:=by
  cases e:ds.findIdx? (λx=>decide (x=d))with
  |some j=>exact⟨j,rfl⟩
  |none=>exact absurd (List.findIdx?_eq_none_iff.mp e d hm) (by simp)
 obtain⟨j,g⟩:=g;have o:okN 7 (Af d)=true:=rfl;have l:(ds.map Af).length<1000000:=by rw[Eh];lia
 rw[Mi,h2,Jz];simp only[show A9 m1 AL ρ=.ok [Af d]by simp[h1],Jz,QA,o,Xl,l,and_self,if_true,f,g,idx,OL]
def Hl(ds:List AC):Ft->D
 |.drop h=>.tup [st "drop",.int (h:Nat)]
 |.out h o=>.tup [st "out",.int (h:Nat),.int (o:Nat)]
 |.ring d=>.tup [st "ring",.int (idx ds d:Nat)]
def G2(r:List AC×Ft):D:=.tup [.lst (r.1.map Af),Hl r.1 r.2]
def aP:C7:=Oy (Be (AK (inD false) (A3 2) (A3 4)))
def Vh:B6:=(BI (Lp 4 (A3 2))
    (BI (E8 5 (Bt 4 Nj (A9 (A3 0) (A9 (AK Ah (A3 1) (AK Ah (A3 2) (AM (.int 0)))) (A9 (A3 2) (A9 (A3 3) (AL)))))))
    (BI (DA (Be (AK (Ct false) (AK Ah (A3 5) (AM (.int 0))) (AM (.str (CL "at"))))) (LM (D8 (A9 (A3 4) (A9 (A3 5) (AL))))) (DE))
    (E8 2 (D8 (A9 (AK Ah (A3 5) (AM (.int 1))) (A9 (AK Ah (A3 5) (AM (.int 2))) (AL))))))))
def aQ:B6:=(LM (D8 (A9 (A3 4) (A9 (D8 (A9 (AM (.str (CL "ring"))) (A9 (Mi (A3 4) (A9 (A3 2) (AL))) (AL)))) (AL)))))
def NU(X Y:D)(d:AC)(a:Nat)(ds:List AC)(s5:C4):A8:=[.AI X,.AI Y,.AI (Af d),.AI (.int (a:Int)),.BQ (ds.map Af),s5]
def r0(X Y:D)(d:AC)(a:Nat)(ds:List AC)(s5:C4):aP (NU X Y d a ds s5)=.ok (!decide (d∈ds)):=aaF rfl rfl
structure SA(cs:List Nat)(bs:List (List Bx)):Prop where
 l:bs.length=cs.length
 p:∀b∈bs,∀r∈b,KJ r.p
def Gd(ws:List (AC×AC))(bs:List (List Bx))(a:Nat)(d:AC):On:=BK ws (bs.getD d.1 []) d.1 d.2 a
def oM(s:String)(h:(CL s==CL "at")=false):Ct false (st s) (.str (CL "at"))=.ok (.AO true):=by show R.ok (D.AO (!(CL s==CL "at")))=_;rw[h];rfl
def afn{cs:List Nat}{ws:List (AC×AC)}{bs:List (List Bx)}(J:SA cs bs){d:AC}(hd:d.1<cs.length){a:Nat}(A2:a<16)(ds:List AC)(AF:ds.length<1000)(s5:C4) :
  Vh (NU (CG cs ws) (.lst (bs.map BJ)) d a ds s5)=match Gd ws bs a d with
   |.to e=>.ok (.BK (NU (CG cs ws) (.lst (bs.map BJ)) e a (ds++[d]) (.AI (Ek d.1 (.to e)))))
   |o=>.ok (.DB (.tup [.lst ((ds++[d]).map Af),Ek d.1 o])):=by
 have Fg:Ah (Af d) (.int 0)=.ok (.int (d.1:Int)):=rfl;have Ea:d.1<bs.length:=by rw[J.l];exact hd
 have eg:bs.getD d.1 []=bs[d.1]:=by simp[Ea]
 have Jf:Ah (.lst (bs.map BJ)) (.int (d.1:Int))=.ok (BJ (bs.getD d.1 [])):=by rw[eg];exact Go (by simp[Ea])
 have on:=abz (cs:=cs) (ws:=ws) (b:=bs.getD d.1 []) (λr AS=>J.p bs[d.1] (JU _) r (by rw[<-eg];exact AS)) d.1 d.2 a A2;have bc:Nj [CG cs ws,BJ (bs.getD d.1 []),Af d,.int (a:Int)]=.ok (.v (Ek d.1 (Gd ws bs a d))):=on;have Ow:(ds.map Af).length<1000000:=by simp;lia
 generalize bs.getD d.1 []=jb at*;generalize Gd ws bs a d=o at*;simp only[Vh,NU];cases o with
 |drop=>
  have CF:Ah (Ek d.1 .drop) (.int 0)=.ok (st "drop"):=rfl;have n:=oM "drop" (by decide)
  simp! [Fg,Jf,bc,CF,n]
 |out o=>
  have CF:Ah (Ek d.1 (.out o)) (.int 0)=.ok (st "out"):=rfl;have n:=oM "out" (by decide)
  simp! [Fg,Jf,bc,CF,n]
 |to e=>
  have CF:Ah (Ek d.1 (.to e)) (.int 0)=.ok (st "at"):=rfl;have A1:Ah (Ek d.1 (.to e)) (.int 1)=.ok (.int (e.1:Int)):=rfl;have A7:Ah (Ek d.1 (.to e)) (.int 2)=.ok (.int (e.2:Int)):=rfl;have n:Ct false (st "at") (.str (CL "at"))=.ok (.AO false):=rfl
  simp! [Fg,Jf,bc,CF,A1,A7,n]
  rfl
theorem r1{cs:List Nat}{ws:List (AC×AC)}{bs:List (List Bx)}(DV:IQ cs ws)(J:SA cs bs){a:Nat}(A2:a<16):∀(n:Nat)(ds:List AC)(d:AC)(s5:C4)(r:List AC×Ft),d.1<cs.length->ds.length+n<1001->walk (Gd ws bs a) n ds d=some r->
  (Nx aP Vh n (NU (CG cs ws) (.lst (bs.map BJ)) d a ds s5)).bind (RQ aQ)=.ok (.DB (G2 r))
 |0,ds,d,s5,r,_,_,h=>by simp[walk]at h
 |n+1,ds,d,s5,r,hd,AF,h=>by
  simp only[walk]at h;by_cases hm:d∈ds
  .rw[if_pos hm]at h;obtain rfl:=Dz h;rw[Nx,r0,Dl,decide_eq_true hm];have i:=n8 (m1:=A3 2) (m2:=A3 4) (ρ:=Em (NU (CG cs ws) (.lst (bs.map BJ)) d a ds s5)) (ds:=ds) (d:=d) rfl rfl hm (by lia);have v4:A3 4 (Em (NU (CG cs ws) (.lst (bs.map BJ)) d a ds s5))=.ok (.lst (ds.map Af)):=rfl;simp only[JQ,FZ,if_false,Dl,q1];simp only[aQ,qq,af_,dq,aL,afT,i,v4,Dl,Vd,FQ,Pn];simp[G2,Hl,st]
  .rw[if_neg hm]at h;rw[Nx,r0,Dl,decide_eq_false hm];have b:=afn (ws:=ws) J hd A2 ds (by lia) s5;simp only[Tu,if_true,b];cases e:Gd ws bs a d with
   |drop=>rw[e]at h;obtain rfl:=Dz h;simp[G2,Hl,Ek]
   |out o=>rw[e]at h;obtain rfl:=Dz h;simp[G2,Hl,Ek]
   |to f=>
    rw[e]at h;simp only[Dl];have hf:f∈ends ws:=by
     unfold Gd BK at e
     split at e
     .cases e
     .split at e
      .cases e
      .split at e
       .cases e
       .rename_i CV;cases e;exact jc CV
    exact r1 DV J A2 n (ds++[d]) f _ r (Sw.mp (DV.sub f hf)).1 (by simp;lia) h
def nW{cs:List Nat}{ws:List (AC×AC)}{bs:List (List Bx)}{a:Nat}(DV:IQ cs ws){d f:AC}(e:Gd ws bs a d=.to f):f∈Db cs cs.length:=by
 unfold Gd BK at e
 split at e
 .cases e
 .split at e
  .cases e
  .split at e
   .cases e
   .rename_i CV;cases e;exact DV.sub _ (jc CV)
def afg{cs:List Nat}{ws:List (AC×AC)}{bs:List (List Bx)}(DV:IQ cs ws)(J:SA cs bs){a:Nat}(A2:a<16){d:AC}(hd:d∈Db cs cs.length):∃r,walk (Gd ws bs a) 1000 [] d=some r/\Sv [CG cs ws,.lst (bs.map BJ),Af d,.int (a:Int)]=.ok (.v (G2 r)):=by have J7:=QI DV.c cs.length;have h6:=DV.h6;obtain⟨r,AS⟩:=qw (N:=Gd ws bs a) (A:=Db cs cs.length) (by lia) (λd _ e he=>nW DV he) 1000 [] d Rj (by simp) hd (by simp);refine⟨r,AS,?_⟩;have k:=r1 DV J A2 1000 [] d .un r (Sw.mp hd).1 (by simp) AS;have z:Sv [CG cs ws,.lst (bs.map BJ),Af d,.int (a:Int)]=(BI (G1 4 (G0 AL)) (BI (Uj aP Vh) aQ) [.AI (CG cs ws),.AI (.lst (bs.map BJ)),.AI (Af d),.AI (.int (a:Int)),.un,.un]).bind outD:=rfl;rw[z];simp only[dr,afY,afX,aL,Dl];have cf:lim []=.ok []:=rfl;simp only[cf,Dl];have CP:(Uj aP Vh (NU (CG cs ws) (.lst (bs.map BJ)) d a [] .un)).bind (RQ aQ)=.ok (.DB (G2 r)):=k;have LY:([.AI (CG cs ws),.AI (.lst (bs.map BJ)),.AI (Af d),.AI (.int (a:Int)),.un,.un]:A8).set 4 (.BQ [])=NU (CG cs ws) (.lst (bs.map BJ)) d a [] .un:=rfl;simp only[show(4:Nat)<([.AI (CG cs ws),.AI (.lst (bs.map BJ)),.AI (Af d),.AI (.int (a:Int)),.un,.un]:A8).length from(by simp),if_true,Dl,q1,dr,LY,CP];rfl
@[simp] theorem akf(m:C7)(ρ:A8):RH m ρ=Ep (m ρ):=(rfl)
@[simp] theorem akd(m:Ad)(ρ:A8):WQ m ρ=Ep (m ρ):=(rfl)
@[simp] theorem ake(m:B6)(ρ:A8):WR m ρ=Ep (m ρ):=(rfl)
@[simp] theorem akF(c:Str)(ρ:A8):VB c ρ=.exc c:=(rfl)
@[simp] theorem akL(m:AY)(ρ:A8):V5 m ρ=(m ρ).bind λ_=>.ok (.BK ρ):=(rfl)
def adk(cs:List Nat)(ws:List (AC×AC)):Nq "Net" "is_door" (CG cs ws)=.ok (CG cs ws):=rfl
def adj(cs:List Nat)(ws:List (AC×AC)):Nq "Net" "is_outer" (CG cs ws)=.ok (CG cs ws):=rfl
def z0(cs:List Nat)(ws:List (AC×AC))(x:D){b:Bool}(h:RB [.tup (Bv cs),x]=.ok (.v (.AO b))):Zn [CG cs ws,x]=.ok (.v (.AO b)):=by simp[Zn,hk,jt,h]
def jQ(ws:List (AC×AC))(d:AC):GF false (Af d) (.BN (EC ws) (ER ws))=.ok (.AO (!decide (d∈ends ws))):=by simp only[GF,TP,ks_any];rfl
def acB{cs:List Nat}(ws:List (AC×AC)){d:AC}(h:d∈Db cs cs.length):Uk [CG cs ws,Af d]=.ok (.v (.AO (!decide (d∈ends ws)))):=by simp[Uk,hl,adk,z0 cs ws _ (gv h),la,jQ]
def acG{cs:List Nat}{ws:List (AC×AC)}{B:D}{b:Bool}(h:RA [B,CG cs ws]=.ok (.v (.AO b))):Zr [B,CG cs ws]=if b=true then .ok (.v .non)else .exc "NoBooks":=by
 cases b<;>simp[Zr,hK,h]
 rfl
def afh{cs:List Nat}{ws:List (AC×AC)}{B x y t:D}(h1:RA [B,CG cs ws]=.ok (.v (.AO true)))(h2:Uk [CG cs ws,x]=.ok (.v (.AO true)))(h3:So [y]=.ok (.v (.AO true)))(h4:Sv [CG cs ws,B,x,y]=.ok (.v t)) :
  RD [CG cs ws,B,x,y]=.ok (.v t):=by
 have r:=acG h1;simp at r;simp[RD,hT,r,adj,h2,h3,h4]
@[simp] theorem al6(i n:Nat)(mf:List D->List D->R (D×List D))(m:Ad)(ρ:A8):JD i n mf m ρ=(ownAt i ρ).bind λds=>(m ρ).bind λes=>if es.length=n then(Ep (mf ds es)).bind λx=>.ok (x.1,ρ.set i (.BQ x.2))else .bad:=(rfl)
def OY(n k:Int)(h1:0<k)(h2:k<1000):Ki [.int n] [.int k]=.ok (.int (n%k),[.int (n/k)]):=by have hm:0<k/\Qi n k:=⟨h1,h1,by lia⟩;simp only[Ki,WI,if_pos hm]
@[simp] theorem akz(f:D->D->R D)(a b:Cz)(ρ:A8):Lq f a b ρ=(a ρ).bind λx=>(b x.2).bind λy=>(f x.1 y.1).bind λd=>.ok (d,y.2):=(rfl)
@[simp] theorem akS(s:Str)(m:FM)(ρ:A8):Zf s m ρ=(m ρ).bind λx=>(Ye s x.1).bind λd=>.ok (d,x.2):=(rfl)
@[simp] theorem akC(i:Nat)(m:Cz)(ρ:A8):Sj i m ρ=(ownAt i ρ).bind λ_=>(m ρ).bind λx=>(ownAt i x.2).bind λds=>Vt i ds x.2 x.1:=by unfold Sj;simp
@[simp] theorem akH(m:Cz)(ρ:A8):VC m ρ=(m ρ).bind λx=>.ok (.DB x.1):=(rfl)
@[simp] theorem akE(m:FM)(ρ:A8):R5 m ρ=(m ρ).bind λx=>(PJ x.1).bind λds=>.ok (ds,x.2):=(rfl)
@[simp] theorem al0(m:Ad)(ρ:A8):V2 m ρ=(m (Em ρ)).bind λds=>if Kk ds=true/\ZM ρ=true then .ok ds else .bad:=(rfl)
def bI{β:Type}{mi:FM}{set:D->A8->R A8}{body:B6}{ρ ρ1:A8}{k:FK->R β}{T:β->Prop}(n:Nat)(I:Nat->A8->Prop)(A0:mi ρ=.ok (Ge 0 n,ρ1))(h0:I 0 ρ1)(st:∀(j:Nat) ρ,j<n->I j ρ->Ends ((set (.int (j:Int)) ρ).bind body) (MU (I (j+1))))(fin:∀B9,I n B9->Ends (k (.BK B9)) T):Ends ((Ng mi set body ρ).bind k) T:=by
 have z:Ng mi set body ρ=Eb (λ_=>.ok (Ge 0 n)) set body ρ1:=by unfold Ng;rw[A0];rfl
 rw[z];exact Oh n I rfl h0 st fin
def bG{β α:Type}{mi:Ad}{elt:Cz}{j:Nat}{ρ:A8}{k:D×A8->R β}{T:β->Prop}(g:α->D)(xs:List α)(dd:List D)(Bp:Nat->List D->List D->Prop)(AE:ownAt j ρ=.ok dd)(A0:mi ρ=.ok (xs.map g))(AF:xs.length<=1000)(h0:Bp 0 [] dd)(st:∀(i:Nat) a ws dd,xs[i]?=some a->Bp i ws dd->Ends (elt [.AI (g a),.BQ dd]) λy=>∃s H2,y.2=[.AI s,.BQ H2]/\Bp (i+1) (ws++[y.1]) H2)(fin:∀ws dd,Bp xs.length ws dd->Ends (k (.lst ws,ρ.set j (.BQ dd))) T):Ends ((Mg j mi elt ρ).bind k) T:=by
 have go:∀(ys:List α)(i:Nat)(ws dd:List D),i+ys.length<=1000->ws.length=i->(∀m a,ys[m]?=some a->xs[i+m]?=some a)->Bp i ws dd->∃aS H2,O0 elt (ys.map g) dd ws=.ok (aS,H2)/\Bp (i+ys.length) aS H2:=by
  intro ys;induction ys with
  |nil=>intro i ws dd _ _ _ h;exact⟨ws,dd,rfl,by simpa using h⟩
  |cons a ys Bg=>intro i ws dd AF hw A5 h;obtain⟨⟨d,B9⟩,e,s,H2,A7,h'⟩:=st i a ws dd (by simpa using A5 0 a rfl) h;simp only at A7 h';subst A7;obtain⟨aS,T4,B8,h3⟩:=Bg (i+1) (ws++[d]) H2 (by simp at AF;lia) (by simp[hw]) (λm b hm=>by have:=A5 (m+1) b (by simpa using hm);rw[<-this];congr 1;lia) h';refine⟨aS,T4,?_,by rw[FQ,show i+(ys.length+1)=i+1+ys.length by lia];exact h3⟩;rw[DP,O0,e];simp only[Dl];rw[if_pos (by simp at AF;lia)];exact B8
 obtain⟨ws,H2,e,h⟩:=go xs 0 [] dd (by lia) rfl (λm a h=>by rw[Pw];exact h) h0;rw[Pw]at h;have z:Mg j mi elt ρ=.ok (.lst ws,ρ.set j (.BQ H2)):=by unfold Mg;rw[AE,Dl,A0,Dl,e];rfl
 rw[z,Dl];exact fin ws H2 h
def ints_snoc(cs:List Nat)(c:Nat):Bv cs++[.int (c:Int)]=Bv (cs++[c]):=by simp[Bv]
def um(ws:List (AC×AC))(a b:AC):ends (ws++[(a,b)])=ends ws++[a,b]:=by simp[ends]
def aaf(al:List AC):Kk (al.map Af)=true:=by
 induction al with
 |nil=>rfl
 |cons a al Bg=>simp only[DP,Kk,Bg,Pz];rfl
def aaT(n:Int):∃cs ws,IQ cs ws/\WA [.int n] []=.ok (.v (.tup [.lst (Bv cs),.lst (ws.map DS)])):=by
 suffices h:Ends (WA [.int n] []) λb=>∃cs ws,IQ cs ws/\b=.v (.tup [.lst (Bv cs),.lst (ws.map DS)])by
  obtain⟨b,e,cs,ws,h,rfl⟩:=h;exact⟨cs,ws,h,e⟩
 have CF:WA [.int n] []=(XZ [.BQ [.int n],.un,.un,.un,.un,.un,.un]).bind outD:=rfl;rw[CF];obtain⟨y_,h6,ak7⟩:∃k:Nat,1+n%6=(k:Int)/\1<=k/\k<=6:=⟨(1+n%6).toNat,by lia,by lia,by lia⟩
 simp! [XZ]
 refine bI (ρ1:=[.BQ [.int (n/6)],.BQ [],.un,.un,.un,.un,.un]) y_ (λj ρ=>∃(cs:List Nat)(m:Int)(s2:C4),cs.length=j/\(∀c∈cs,1<=c/\c<=4)/\(s2=.un\/∃x,s2=.AI x)/\ρ=[.BQ [.int m],.BQ (Bv cs),s2,.un,.un,.un,.un]) (by simp! [OY,h6]) ⟨[],_,_,rfl,by simp,.inl rfl,rfl⟩ ?_ ?_
 .rintro j _ BO ⟨cs,m,s2,lc,HS,hs,rfl⟩;obtain⟨c,AB,l⟩:∃c:Nat,1+m%4=(c:Int)/\1<=c/\c<=4:=⟨(1+m%4).toNat,by lia,by lia,by lia⟩;have AF:(Bv cs).length<1000000:=by simp[Bv];lia
  simp! [OY,AB]
  refine⟨cs++[c],by simp[lc],λd hd=>?_,_,_,⟨_,rfl⟩,rfl,ints_snoc cs c,rfl⟩;rcases List.mem_append.mp hd with hd|hd
  .exact HS d hd
  .rw[List.mem_singleton.mp hd];exact l
 .rintro _ ⟨cs,m,s2,lc,HS,hs,rfl⟩;have mD:cs.length<=6:=by lia
  have II:1<=cs.length:=by lia
  have Li:=jS mD HS;have tJ:1<=(Db cs cs.length).length:=Rd (head_mem II HS);have tK:=QI HS cs.length;have cA:=gN cs cs.length;generalize au:Db cs cs.length=al at*;have ol:ZM [C4.BQ [D.int m],C4.BQ (Bv cs),s2,C4.un,C4.un,C4.un,C4.un]=true:=by rcases hs with rfl|⟨x,rfl⟩<;>rfl
  simp! [Li,ol,aaf]
  obtain⟨y,Ao,bq⟩:∃k:Nat,m%((al.length:Int)/2+1)=(k:Int)/\2*k<=al.length:=by have DW:=Ps m (b:=(al.length:Int)/2+1) (by lia);have CB:=Pv m (b:=(al.length:Int)/2+1) (by lia);exact⟨(m%((al.length:Int)/2+1)).toNat,by lia,by lia⟩
  refine bI (ρ1:=[.BQ [.int (m/((al.length:Int)/2+1))],.BQ (Bv cs),s2,.BQ (al.map Af),.BQ [],.un,.un]) y (λj ρ=>∃(ws:List (AC×AC))(dl:List AC)(m:Int)(s5 Jm:C4),ws.length=j/\(ends ws++dl).Perm al/\ρ=[.BQ [.int m],.BQ (Bv cs),s2,.BQ (dl.map Af),.BQ (ws.map DS),s5,Jm]) (by simp! [OY,Ao]) ⟨[],al,_,_,_,rfl,by simp[ends],rfl⟩ ?_ ?_
  .rintro j _ BO ⟨ws,dl,m,s5,Jm,lw,pm,rfl⟩;have ld:2*j+dl.length=al.length:=by
    have:=pm.length_eq;rw[K5,j8,lw]at this;exact this
   obtain⟨Dg,wo,br⟩:∃k:Nat,m%(dl.length:Int)=(k:Int)/\k<dl.length:=by have DW:=Ps m (b:=(dl.length:Int)) (by lia);have CB:=Pv m (b:=(dl.length:Int)) (by lia);exact⟨(m%(dl.length:Int)).toNat,by lia,by lia⟩
   have le:(dl.eraseIdx Dg).length=dl.length-1:=by rw[List.length_eraseIdx,if_pos br]
   obtain⟨EN,wp,oA⟩:∃k:Nat,m/(dl.length:Int)%((dl.eraseIdx Dg).length:Int)=(k:Int)/\k<(dl.eraseIdx Dg).length:=by have DW:=Ps (m/(dl.length:Int)) (b:=((dl.eraseIdx Dg).length:Int)) (by lia);have CB:=Pv (m/(dl.length:Int)) (b:=((dl.eraseIdx Dg).length:Int)) (by lia);exact⟨(m/(dl.length:Int)%((dl.eraseIdx Dg).length:Int)).toNat,by lia,by lia⟩
   have acy:=λρ=>pB Af (i:=3) br (by lia) ρ;have acz:=λρ=>pB Af (i:=3) oA (by lia) ρ
   simp! [OY,wo,acy,wp,acz]
   refine⟨ws++[(dl[Dg],(dl.eraseIdx Dg)[EN])],by simp[lw],(dl.eraseIdx Dg).eraseIdx EN,?_,rfl,by simp[DS]⟩;rw[um,RW];refine .trans (.append_left _ ?_) pm;exact((bN _ EN oA).cons _).trans (bN dl Dg br)
  .rintro _ ⟨ws,dl,m,s5,Jm,lw,pm,rfl⟩;simp;have Cb:=pm.nodup_iff.mpr cA;exact⟨cs,ws,⟨II,mD,HS,(List.nodup_append.mp Cb).1,λd hd=>by rw[au];exact pm.mem_iff.mp (MJ _ hd),by lia⟩,rfl,rfl⟩
noncomputable def p4(i k:Nat)(x:D×A8):Option C4->R (D×A8)
 |some (.ob (.lst GG))=>.ok (x.1,x.2.set i (.D4 k (.lst (GG.map .AI))))
 |_=>.bad
@[simp] theorem akA(m:Cz)(d:D)(ρ:A8):Nh 0 m (.D4 0 (.lst [.AI d])::ρ)=(m (.BQ [d]::ρ)).bind λx=>p4 0 0 x x.2[0]?:=by unfold Nh;simp only[rv,Nv,gA,ft];rfl
@[simp] theorem ajg(i k:Nat)(x:D×A8)(ds:List D):p4 i k x (some (.ob (.lst ds)))=.ok (x.1,x.2.set i (.D4 k (.lst (ds.map .AI)))):=(rfl)
def acs(n:Int):∃c,Fc c/\Ah (.str (CL "01x")) (.int (n%3))=.ok (.str ⟨#[c]⟩):=by
 have h:n%3=0\/n%3=1\/n%3=2:=by lia
 rcases h with h|h|h<;>rw[h]
 .exact⟨48,.inl rfl,rfl⟩
 .exact⟨49,.inr (.inl rfl),rfl⟩
 .exact⟨120,.inr (.inr rfl),rfl⟩
def hg(c:Nat):List D:=.non::(EI c).map λ(k:Nat)=>.int (k:Int)
def p6(n:Int)(c:Nat)(AB:c<=4):∃o:Option Nat,(∀k,o=some k->k<c)/\Ah (.lst (hg c)) (.int (n%((c:Int)+1)))=.ok (Er o):=by
 have DW:=Ps n (b:=(c:Int)+1) (by lia);have CB:=Pv n (b:=(c:Int)+1) (by lia);obtain⟨y,Ao⟩:=fT DW;rw[Ao]at CB |-;cases y with
 |zero=>exact⟨none,by simp,Go rfl⟩
 |succ y=>exact⟨some y,by rintro k ⟨⟩;lia,Go (by simp[hg,show y<c by lia,Er])⟩
def zD(a b c d:Nat):Ye (CL "") [.lst [.str ⟨#[a]⟩,.str ⟨#[b]⟩,.str ⟨#[c]⟩,.str ⟨#[d]⟩]]=.ok (.str ⟨#[a,b,c,d]⟩):=rfl
@[simp] theorem al8(i:Nat)(ρ:A8):Zi i ρ=match ρ[i]? with
  |some (.ob o)=>.ok (.rs (JG o) (ρ.set i (.AI (JG o))))
  |_=>.bad:=(rfl)
theorem tw(c:Nat)(AB:c<=4):DY (.lst [.non]) (.lst (Ge 0 c))=.ok (.lst (hg c)):=by
 have:c=0\/c=1\/c=2\/c=3\/c=4:=by lia
 rcases this with rfl|rfl|rfl|rfl|rfl<;>rfl
def uD(n:Int)(c:Nat)(h1:1<=c)(h4:c<=4):∃(b:List Bx)(JF:Int),M4 c b/\Un [.int n] [.int (c:Int)]=.ok (BJ b,[.int JF]):=by
 suffices h:Ends (Un [.int n] [.int (c:Int)]) λx=>∃(b:List Bx)(JF:Int),M4 c b/\x=(BJ b,[.int JF])by
  obtain⟨x,e,b,JF,h,rfl⟩:=h;exact⟨b,JF,h,e⟩
 have CF:Un [.int n] [.int (c:Int)]=(XW [.D4 0 (.lst [.AI (.int n)]),.AI (.int (c:Int)),.un,.un,.un,.un]).bind bh:=rfl;rw[CF];obtain⟨y,Ao,bq⟩:∃k:Nat,n%13=(k:Int)/\k<=12:=⟨(n%13).toNat,by lia,by lia⟩
 simp! [XW]
 refine bI (ρ1:=[.D4 0 (.lst [.AI (.int (n/13))]),.AI (.int (c:Int)),.BQ [],.un,.un,.un]) y (λj ρ=>∃(b:List Bx)(m:Int)(s3 s4 s5:C4),b.length=j/\(∀r∈b,SI c r)/\ρ=[.D4 0 (.lst [.AI (.int m)]),.AI (.int (c:Int)),.BQ (b.map CR),s3,s4,s5]) ?_ ⟨[],_,_,_,_,rfl,by simp,rfl⟩ ?_ ?_
 .simp! [OY,Ao]
 .rintro j _ BO ⟨b,m,s3,s4,s5,Jh,J,rfl⟩
  simp! []
  refine bG (λ(i:Nat)=>D.int (i:Int)) (EI 4) [.int m] (λi ws dd=>∃(cs:List Nat)(m:Int),cs.length=i/\(∀c∈cs,Fc c)/\ws=cs.map (λc=>.str ⟨#[c]⟩)/\dd=[.int m]) rfl rfl (by simp) ⟨[],m,rfl,by simp,rfl,rfl⟩ ?_ ?_
  .rintro i a _ _ _ ⟨cs,m,lc,AB,rfl,rfl⟩;obtain⟨c,sc,ec⟩:=acs m;refine⟨(.str ⟨#[c]⟩,[.AI (.int (a:Int)),.BQ [.int (m/3)]]),by simp! [OY,ec],_,_,rfl,cs++[c],m/3,by simp[lc],λx A5=>?_,by simp,rfl⟩;rcases List.mem_append.mp A5 with A5|A5
   .exact AB x A5
   .rw[List.mem_singleton.mp A5];exact sc
  .rintro _ _ ⟨cs,m,lc,AB,rfl,rfl⟩;obtain⟨a1,a2,Du,GE,rfl⟩:∃a b c d,cs=[a,b,c,d]:=by
    match cs,lc with
    |[a,b,c,d],_=>exact⟨a,b,c,d,rfl⟩
   have AW:KJ ⟨#[a1,a2,Du,GE]⟩:=⟨rfl,AB⟩;obtain⟨Cc,lX,uu⟩:=p6 m c h4;obtain⟨CD,Ka,uv⟩:=p6 (m/((c:Int)+1)) c h4;have bn:Uy [.int (c:Int)]=.ok (Ge 0 c):=by
    have:c=0\/c=1\/c=2\/c=3\/c=4:=by lia
    rcases this with rfl|rfl|rfl|rfl|rfl<;>rfl
   simp! [OY,zD,tw c h4,bn,uu,uv]
   refine⟨b++[⟨⟨#[a1,a2,Du,GE]⟩,Cc,CD⟩],by simp[Jh],λr AS=>?_,by simp[CR]⟩;rcases List.mem_append.mp AS with AS|AS
   .exact J r AS
   .rw[List.mem_singleton.mp AS];exact⟨AW,lX,Ka⟩
 .rintro _ ⟨b,m,s3,s4,s5,Jh,J,rfl⟩;simp[bh,Vk,Nv,JG];exact⟨b,⟨by lia,J⟩,rfl⟩
def tU(xs:List Int)(l:Option Int)(h:Nat):(FW xs l (some (h:Int))).length<=h:=by unfold FW;rw[DL.cx];simp;lia
def S7(ns:List Int)(k:Nat)(i:Int)(A0:i=(k:Int)):∃c:Int,HE [.Cd (ns.map D.int),.int i]=.ok (.v (.int c)):=by rw[A0];exact UR ns k
@[simp] theorem al3(mf:List D->List D->R Bf)(mo:Ad)(ρ:A8):Zb mf mo ρ=(mo ρ).bind λds=>(Ep (mf ds [])).bind df:=(rfl)
@[simp] theorem ajB(d:D):df (.v d)=.ok d:=(rfl)
def afG(ns:List Int):∃cs ws bs,IQ cs ws/\Hf cs bs/\Su [.Cd (ns.map D.int)]=.ok (.v (.tup [.lst (Bv cs),.lst (ws.map DS),.lst (bs.map BJ)])):=by
 suffices h:Ends (Su [.Cd (ns.map D.int)]) λb=>∃cs ws bs,IQ cs ws/\Hf cs bs/\b=.v (.tup [.lst (Bv cs),.lst (ws.map DS),.lst (bs.map BJ)])by
  obtain⟨b,e,cs,ws,bs,h1,h2,rfl⟩:=h;exact⟨cs,ws,bs,h1,h2,e⟩
 obtain⟨c0,CF⟩:=S7 ns 0 0 rfl;obtain⟨c1,A1⟩:=S7 ns 1 1 rfl;obtain⟨c2,A7⟩:=S7 ns 2 2 rfl;by_cases h:c0%2=1
 .have ab:∀i:Int,OS [.int i]=.ok (.int (if i<0 then-i else i)):=λ_=>rfl;obtain⟨cs,ws,DV,E6⟩:=aaT (if c1<0 then-c1 else c1)
  simp! [Su,X_,CF,A1,A7,h,ab,E6]
  refine bG (λ(c:Nat)=>D.int (c:Int)) cs [.int (if c2<0 then-c2 else c2)] (λi ds dd=>∃(bs:List (List Bx))(m:Int),bs.length=i/\(∀(k:Nat) b,bs[k]?=some b->M4 (cs.getD k 0) b)/\ds=bs.map BJ/\dd=[.int m]) rfl (by simp[Bv]) (Eg DV.h6 (by decide)) ⟨[],_,rfl,by simp,rfl,rfl⟩ ?_ ?_
  .rintro i c _ _ AB ⟨bs,m,Jh,J,rfl,rfl⟩;have jl:=DV.c c (EU AB);obtain⟨b,CM,GY,B7⟩:=uD m c jl.1 jl.2;refine⟨(BJ b,[.AI (.int (c:Int)),.BQ [.int CM]]),by simp! [B7],_,_,rfl,bs++[b],CM,by simp[Jh],λk CT AG=>?_,by simp,rfl⟩;by_cases VQ:k<bs.length
   .rw[Gl VQ]at AG;exact J k CT AG
   .rw[GU (by lia)]at AG;have Aj:k-bs.length=0:=by
     have:=(Ff.mp AG).1;simp at this;lia
    rw[Aj]at AG;simp at AG;subst AG;have:cs.getD k 0=c:=by rw[show k=i by lia,Hc,AB];rfl
    rw[this];exact GY
  .rintro _ _ ⟨bs,m,Jh,J,rfl,rfl⟩;simp;exact⟨cs,ws,DV,bs,⟨Jh,J⟩,rfl,rfl,rfl⟩
 .simp! [Su,X_,CF,A1,A7,h]
  obtain⟨cs,⟨h1,h6⟩,HS,ec⟩:=u3 ns;obtain⟨ws,DV,Hn⟩:=afl ns cs h1 h6 HS;obtain⟨bs,GY,B7⟩:=uG (FW ns (some 4) (some 63)) (Eg (tU ns (some 4) 63) (by decide)) cs h1 h6 HS;have cm:FW (ns.map D.int) (some 4) (some 63)=(FW ns (some 4) (some 63)).map D.int:=S8 _ _ _ _;have DB:HJ (.t (.lst (Mr bs)))=.ok (.lst (bs.map BJ)):=by rw[<-rS];rfl
  simp[ec,Hn,cm,B7,DB];exact⟨cs,ws,DV,bs,GY,rfl,rfl,rfl⟩
def t2(ns:List Int):∃(as:List Nat)(r:Bf),(∀a∈as,a<16)/\as.length<=16/\Ss [.Cd (ns.map D.int)]=.ok r/\HJ r=.ok (.lst (as.map λ(a:Nat)=>.int (a:Int))):=by
 suffices h:Ends (Ss [.Cd (ns.map D.int)]) λr=>∃as:List Nat,(∀a∈as,a<16)/\as.length<=16/\HJ r=.ok (.lst (as.map λ(a:Nat)=>.int (a:Int)))by
  obtain⟨b,e,as,h1,h2,h3⟩:=h;exact⟨as,b,h1,h2,e,h3⟩
 obtain⟨c0,CF⟩:=S7 ns 0 0 rfl;obtain⟨c3,B8⟩:=S7 ns 3 3 rfl;by_cases h:c0%2=0
 .have bn:Uy [.int 16]=.ok ((EI 16).map λ(a:Nat)=>.int (a:Int)):=rfl
  simp! [Ss,XV,CF,h,bn]
  exact⟨EI 16,by simp,by simp,rfl⟩
 .have ab:∀i:Int,OS [.int i]=.ok (.int (if i<0 then-i else i)):=λ_=>rfl
  simp! [Ss,XV,CF,B8,h,ab]
  refine bG (λ(i:Nat)=>D.int (i:Int)) (EI 4) [.int (if c3<0 then-c3 else c3)] (λi ds dd=>∃(as:List Nat)(m:Int),as.length=i/\(∀a∈as,a<16)/\ds=as.map (λ(a:Nat)=>.int (a:Int))/\dd=[.int m]) rfl rfl (by simp) ⟨[],_,rfl,by simp,rfl,rfl⟩ ?_ ?_
  .rintro i a _ _ _ ⟨as,m,Md,A2,rfl,rfl⟩;obtain⟨y,Ao,bq⟩:∃k:Nat,m%16=(k:Int)/\k<16:=⟨(m%16).toNat,by lia,by lia⟩;refine⟨(.int (y:Int),[.AI (.int (a:Int)),.BQ [.int (m/16)]]),by simp! [OY,Ao],_,_,rfl,as++[y],m/16,by simp[Md],λx A5=>?_,by simp,rfl⟩;rcases List.mem_append.mp A5 with A5|A5
   .exact A2 x A5
   .rw[List.mem_singleton.mp A5];exact bq
  .rintro _ _ ⟨as,m,Md,A2,rfl,rfl⟩;simp;exact⟨as,A2,by rw[Md];simp,rfl⟩
def EB(d a:Nat)(b:List Bx):Option Nat:=(b.find? (mt d a)).bind (·.b)
theorem rK(d a:Nat):∀(rs:List Bx)(i:Nat),(JN d a i rs=none/\rs.find? (mt d a)=none)\/∃j,JN d a i rs=some (i+j)/\rs[j]?=rs.find? (mt d a)
 |[],i=>.inl ⟨rfl,rfl⟩
 |r::rs,i=>by
  simp only[JN];cases h:mt d a r with
  |true=>exact .inr ⟨0,by simp,by simp[h]⟩
  |false=>
   rcases rK d a rs (i+1)with⟨h1,h2⟩|⟨j,h1,h2⟩
   .exact .inl ⟨by simpa using h1,by simp[h,h2]⟩
   .exact .inr ⟨j+1,by simp[h1];lia,by simp[h,h2]⟩
def nV(ws:List (AC×AC))(h:Nat):Option Nat->On
 |none=>.drop
 |some o=>match Lg ws (h,o)with
  |none=>.out o
  |some e=>.to e
def ZH(ws:List (AC×AC))(b:List Bx)(h d a:Nat):BK ws b h d a=nV ws h (EB d a b):=by
 unfold BK EB;rcases rK d a b 0 with⟨h1,h2⟩|⟨j,h1,h2⟩
 .rw[h1,h2];rfl
 .rw[h1];simp only[Pw,h2];cases(b.find? (mt d a)).bind (·.b)<;>rfl
def GC(b CT:List Bx):Prop:=∀d a,a<16->EB d a CT=EB d a b
def GC.refl(b:List Bx):GC b b:=λ_ _ _=>rfl
theorem GC.trans{a b c:List Bx}(h:GC a b)(k:GC b c):GC a c:=λd x A5=>(k d x A5).trans (h d x A5)
def U8(d a:Nat)(p q:List Bx):EB d a (p++q)=if(p.find? (mt d a)).isSome then EB d a p else EB d a q:=by unfold EB;rw[List.find?_append];cases p.find? (mt d a)<;>rfl
def PN(d a:Nat)(r:Bx)(q:List Bx):EB d a (r::q)=if mt d a r=true then r.b else EB d a q:=by unfold EB;rw[Kp];cases mt d a r<;>rfl
def ej{b:List Bx}{k:Nat}(h:k<b.length):b=b.take k++b[k]::b.drop (k+1):=by simp
def aeB{b:List Bx}{k:Nat}(h:k<b.length):GC b (b.take (k+1)++[b[k]]++b.drop (k+1)):=by
 intro d a _;have e:b.take (k+1)++[b[k]]++b.drop (k+1)=b.take k++(b[k]::b[k]::b.drop (k+1)):=by rw[Pp,C5 h,fu,RW,RW];rfl
 rw[e]
 conv=>rhs;rw[ej h]
 rw[U8,U8,PN,PN];cases mt d a b[k]<;>rfl
def aeC{b:List Bx}{k:Nat}(h:k<b.length){Gs A6:Bx}(CF:Gs.b=b[k].b)(A1:A6.b=b[k].b)(hm:∀d a,a<16->mt d a b[k]=(mt d a Gs||mt d a A6)):GC b (b.take k++[Gs,A6]++b.drop (k+1)):=by
 intro d a A2;have e:b.take k++[Gs,A6]++b.drop (k+1)=b.take k++(Gs::A6::b.drop (k+1)):=by simp
 rw[e]
 conv=>rhs;rw[ej h]
 rw[U8,U8,PN,PN,PN,hm d a A2,CF,A1];cases mt d a Gs<;>cases mt d a A6<;>rfl
def aeA{b:List Bx}{k:Nat}(h:k<b.length)(hm:∀d a,mt d a b[k]=true):GC b (b.take (k+1)):=by
 intro d a _
 conv=>rhs;rw[ej h]
 rw[Pp,C5 h];simp only[fu,U8,PN,hm,if_true]
def abW{p:Str}(h:KJ p):∃c0 c1 c2 c3,p=⟨#[c0,c1,c2,c3]⟩/\Fc c0/\Fc c1/\Fc c2/\Fc c3:=by
 obtain⟨⟨l⟩⟩:=p;have AF:=h.l;have hs:=h.s;simp only at AF hs
 match l,AF with
 |[a,b,c,d],_=>exact⟨a,b,c,d,rfl,hs a (by simp),hs b (by simp),hs c (by simp),hs d (by simp)⟩
noncomputable def Mz(c0 c1 c2 c3:Nat):Int:=if c0=120 then 0 else if c1=120 then 1 else if c2=120 then 2 else if c3=120 then 3 else-1
def w4{c0 c1 c2 c3:Nat}(h0:Fc c0)(h1:Fc c1)(h2:Fc c2)(h3:Fc c3):Txt.find ⟨#[c0,c1,c2,c3]⟩ (CL "x")=Mz c0 c1 c2 c3:=by rcases h0 with rfl|rfl|rfl<;>rcases h1 with rfl|rfl|rfl<;>rcases h2 with rfl|rfl|rfl<;>rcases h3 with rfl|rfl|rfl<;>decide+kernel
noncomputable def Ml(k c:Nat)(c0 c1 c2 c3:Nat):Str:=match k with
 |0=>⟨#[c,c1,c2,c3]⟩
 |1=>⟨#[c0,c,c2,c3]⟩
 |2=>⟨#[c0,c1,c,c3]⟩
 |_=>⟨#[c0,c1,c2,c]⟩
def U7(c0 c1 c2 c3 a:Nat):J6 ⟨#[c0,c1,c2,c3]⟩ a=(decide (c0=120\/c0=KP a 8)&&(decide (c1=120\/c1=KP a 4)&&(decide (c2=120\/c2=KP a 2)&&decide (c3=120\/c3=KP a 1)))):=by simp[J6]
def t6(a w:Nat):KP a w=48\/KP a w=49:=by unfold KP;lia
def ZL(a w:Nat):(decide (48=120\/48=KP a w)||decide (49=120\/49=KP a w))=true:=by rcases t6 a w with h|h<;>rw[h]<;>rfl
def w5{c0 c1 c2 c3:Nat}{k:Nat}(AG:k<4)(A5:Mz c0 c1 c2 c3=(k:Int))(a:Nat):J6 ⟨#[c0,c1,c2,c3]⟩ a=(J6 (Ml k 48 c0 c1 c2 c3) a||J6 (Ml k 49 c0 c1 c2 c3) a):=by
 have aaJ:=ZL a 8;have aaI:=ZL a 4;have CD:=ZL a 2;have Cc:=ZL a 1;have AB:k=0\/k=1\/k=2\/k=3:=by lia
 unfold Mz at A5;rcases AB with rfl|rfl|rfl|rfl
 .have e:c0=120:=by
    by_cases z:c0=120
    .exact z
    .rw[if_neg z]at A5;split at A5<;>first|lia|(split at A5<;>first|lia|(split at A5<;>lia))
  subst e;simp only[Ml,U7];rw[<-fE,aaJ];simp
 .have e:c1=120:=by
    split at A5
    .lia
    .split at A5
     .assumption
     .split at A5<;>first|lia|(split at A5<;>lia)
  subst e;simp only[Ml,U7];rw[<-Pj,<-fE,aaI];simp
 .have e:c2=120:=by
    split at A5
    .lia
    .split at A5
     .lia
     .split at A5
      .assumption
      .split at A5<;>lia
  subst e;simp only[Ml,U7];rw[<-Pj,<-Pj,<-fE,CD];simp
 .have e:c3=120:=by
    split at A5
    .lia
    .split at A5
     .lia
     .split at A5
      .lia
      .split at A5
       .assumption
       .lia
  subst e;simp only[Ml,U7];rw[<-Pj,<-Pj,<-Pj,Cc];simp
def acP{c c0 c1 c2 c3:Nat}(k:Nat)(AB:Fc c)(h0:Fc c0)(h1:Fc c1)(h2:Fc c2)(h3:Fc c3):KJ (Ml k c c0 c1 c2 c3):=by
 have g:∀a b c d,Fc a->Fc b->Fc c->Fc d->KJ ⟨#[a,b,c,d]⟩:=λa b c d A2 J AB hd=>⟨rfl,λx A5=>by simp at A5;rcases A5 with rfl|rfl|rfl|rfl<;>assumption⟩
 unfold Ml
 split<;>exact g _ _ _ _ (by assumption) (by assumption) (by assumption) (by assumption)
def tV{c0 c1 c2 c3 k c:Nat}(AG:k<4):∃x y z,Fj (.str ⟨#[c0,c1,c2,c3]⟩) none (some (k:Int))=.ok (.str x)/\Fj (.str ⟨#[c0,c1,c2,c3]⟩) (some ((k:Int)+1)) none=.ok (.str z)/\DY (.str x) (I8 c)=.ok (.str y)/\DY (.str y) (.str z)=.ok (.str (Ml k c c0 c1 c2 c3)):=by
 have AB:k=0\/k=1\/k=2\/k=3:=by lia
 rcases AB with rfl|rfl|rfl|rfl
 .exact⟨⟨#[]⟩,⟨#[c]⟩,⟨#[c1,c2,c3]⟩,rfl,rfl,rfl,rfl⟩
 .exact⟨⟨#[c0]⟩,⟨#[c0,c]⟩,⟨#[c2,c3]⟩,rfl,rfl,rfl,rfl⟩
 .exact⟨⟨#[c0,c1]⟩,⟨#[c0,c1,c]⟩,⟨#[c3]⟩,rfl,rfl,rfl,rfl⟩
 .exact⟨⟨#[c0,c1,c2]⟩,⟨#[c0,c1,c2,c]⟩,⟨#[]⟩,rfl,rfl,rfl,rfl⟩
def SJ(I:A8->Prop)(o:Option D)(f:FK):Prop:=match o with
 |some d=>f=.DB d
 |none=>MU I f
@[simp] theorem air(I:A8->Prop):SJ I none=MU I:=(rfl)
@[simp] theorem ais(I:A8->Prop)(d:D):SJ I (some d)=(· =.DB d):=(rfl)
theorem pb{α:Type}{set:D->A8->R A8}{body:B6}(g:α->D)(I:A8->Prop)(f:α->Option D):∀(xs:List α)(ρ:A8),(∀a ρ,a∈xs->I ρ->Ends ((set (g a) ρ).bind body) (SJ I (f a)))->I ρ->Ends (H3 set body (xs.map g) ρ) (SJ I (xs.findSome? f))
 |[],ρ,_,h=>by simpa[SJ,MU]using h
 |a::xs,ρ,st,h=>by
  obtain⟨GK,e,hf⟩:=st a ρ (by simp) h;rw[DP,H3];cases es:set (g a) ρ with
  |bad=>rw[es]at e;cases e
  |exc c=>rw[es]at e;cases e
  |ok ρ1=>
   rw[es,Dl]at e;rw[Dl,e,Dl,List.findSome?_cons];cases EF:f a with
   |some d=>rw[EF]at hf;have hf:GK=.DB d:=hf;subst hf;exact⟨_,rfl,rfl⟩
   |none=>rw[EF]at hf;obtain⟨Cq,rfl,h2⟩:=hf;exact pb g I f xs Cq (λb ρ J=>st b ρ (by simp[J])) h2
def jA{β α:Type}{mi:Ad}{set:D->A8->R A8}{body:B6}{ρ:A8}{k:FK->R β}{T:β->Prop}(g:α->D)(xs:List α)(I:A8->Prop)(f:α->Option D)(A0:mi ρ=.ok (xs.map g))(h0:I ρ)(st:∀a ρ,a∈xs->I ρ->Ends ((set (g a) ρ).bind body) (SJ I (f a)))(f1:∀d,xs.findSome? f=some d->Ends (k (.DB d)) T)(f2:∀B9,xs.findSome? f=none->I B9->Ends (k (.BK B9)) T):Ends ((Eb mi set body ρ).bind k) T:=by
 obtain⟨GK,e,h⟩:=pb (set:=set) (body:=body) g I f xs ρ st h0;rw[qo,A0,Dl,e,Dl];cases EF:xs.findSome? f with
 |some d=>rw[EF]at h;have h:GK=.DB d:=h;rw[h];exact f1 d EF
 |none=>rw[EF]at h;obtain⟨Cq,rfl,h2⟩:=h;exact f2 Cq EF h2
@[simp] theorem alG(f:Str->Str->Int)(m n:AY)(ρ:A8):VF f m n ρ=(m ρ).bind (aI f n ρ):=(rfl)
@[simp] theorem ako(f:Str->Str->Int)(n:AY)(ρ:A8)(a:Str):aI f n ρ (.str a)=(n ρ).bind (eL f a):=(rfl)
@[simp] theorem akn(f:Str->Str->Int)(a b:Str):eL f a (.str b)=.ok (.int (f a b)):=(rfl)
def jD(b:List Bx)(k:Nat):FW (b.map CR) none (some ((k:Int)+1))=(b.take (k+1)).map CR:=by rw[S8];exact congrArg _ (gt b (k+1))
def tT(b:List Bx)(k:Nat):FW (b.map CR) none (some (k:Int))=(b.take k).map CR:=by rw[S8];exact congrArg _ (gt b k)
def tS(b:List Bx)(k:Nat):FW (b.map CR) (some ((k:Int)+1)) none=(b.drop (k+1)).map CR:=by rw[S8];exact congrArg _ (jF b (k+1))
def aaw{c:Nat}{b:List Bx}(h:M4 c b)(n:Int):∃CT r,M4 c CT/\GC b CT/\P8 [BJ b,.int n]=.ok r/\HJ r=.ok (BJ CT):=by
 have AF:=h.l;have ln:Di [BJ b]=.ok (.int (b.length:Int)):=by simp[BJ]
 by_cases h0:b.length=0\/11<b.length
 .refine⟨b,.o (b.map CR),h,GC.refl b,?_,rfl⟩;have l:Ux [BJ b]=.ok (b.map CR):=rfl;by_cases h1:b.length=0
  .simp[P8,QJ,ln,l,h1]
  .simp[P8,QJ,ln,l,show¬b=[]from λz=>h1 (by rw[z];rfl),show(11:Int)<b.length by lia]
 .have AW:0<b.length:=by lia
  obtain⟨k,AG,Ck⟩:=Sz n (n:=b.length) AW;obtain⟨c0,c1,c2,c3,B3,s0,s1,s2,s3⟩:=abW (h.r b[k] (JU _)).p;have Hp:Ah (BJ b) (.int (k:Int))=.ok (CR b[k]):=Go (by simp[AG]);have Fg:Ah (CR b[k]) (.int 0)=.ok (.str ⟨#[c0,c1,c2,c3]⟩):=by rw[<-B3];rfl
  have Bj:Ah (CR b[k]) (.int 1)=.ok (Er b[k].a):=rfl;have Bd:Ah (CR b[k]) (.int 2)=.ok (Er b[k].b):=rfl;have Ym:=w4 s0 s1 s2 s3;have ne:¬b=[]:=λz=>by rw[z]at AW;simp at AW
  have W0:Fj (BJ b) none (some ((k:Int)+1))=.ok (.lst ((b.take (k+1)).map CR)):=by rw[<-jD];rfl
  have aes:Fj (BJ b) none (some (k:Int))=.ok (.lst ((b.take k).map CR)):=by rw[<-tT];rfl
  have LR:Fj (BJ b) (some ((k:Int)+1)) none=.ok (.lst ((b.drop (k+1)).map CR)):=by rw[<-tS];rfl
  have zJ:(b.take (k+1)).length<=12:=Eg (Wc _ _) AF;have zI:(b.take k).length<=12:=Eg (Wc _ _) AF;have o0:(b.drop (k+1)).length<=12:=by simp;lia
  by_cases Aj:n/12%2=0\/Mz c0 c1 c2 c3<0
  .refine⟨b.take (k+1)++[b[k]]++b.drop (k+1),.v (BJ (b.take (k+1)++[b[k]]++b.drop (k+1))),⟨by simp;lia,λr AS=>?_⟩,aeB AG,?_,rfl⟩
   .simp only[Tt,Tq]at AS;rcases AS with(AS|rfl)|AS
    .exact h.r r (Rh AS)
    .exact h.r _ (JU _)
    .exact h.r r (T_ AS)
   .have c6:BJ (b.take (k+1)++[b[k]]++b.drop (k+1))=.lst ((b.take (k+1)).map CR++[CR b[k]]++(b.drop (k+1)).map CR):=by simp only[BJ,Po,DP,OO]
    rw[c6];have Md:((b.take (k+1)).map CR).length<=12:=by rw[Eh];exact zJ
    have Jh:((b.drop (k+1)).map CR).length<=12:=by rw[Eh];exact o0
    generalize(b.take (k+1)).map CR=A at*;generalize(b.drop (k+1)).map CR=B at*;by_cases h1:n/12%2=0
    .simp! [P8,QJ,ln,ne,show¬(11:Int)<b.length by lia,Ck,Hp,Fg,Ym,h1,W0,LR]
    .have h2:Mz c0 c1 c2 c3<0:=Aj.resolve_left h1
     simp! [P8,QJ,ln,ne,show¬(11:Int)<b.length by lia,Ck,Hp,Fg,Ym,h1,h2,W0,LR]
  .have h1:¬n/12%2=0:=λz=>Aj (.inl z);have h2:¬Mz c0 c1 c2 c3<0:=λz=>Aj (.inr z);obtain⟨j,BO,J5⟩:∃j:Nat,j<4/\Mz c0 c1 c2 c3=(j:Int):=by
    have:Mz c0 c1 c2 c3<4:=by unfold Mz;split<;>first|lia|(split<;>first|lia|(split<;>first|lia|(split<;>lia)))
    exact⟨(Mz c0 c1 c2 c3).toNat,by lia,by lia⟩
   let Hw (x:Nat):Bx:=⟨Ml j x c0 c1 c2 c3,b[k].a,b[k].b⟩
   have oR:∀x,Fc x->SI c (Hw x):=λx A5=>⟨acP j A5 s0 s1 s2 s3,(h.r b[k] (JU _)).a,(h.r b[k] (JU _)).b⟩;refine⟨b.take k++[Hw 48,Hw 49]++b.drop (k+1),.v (BJ (b.take k++[Hw 48,Hw 49]++b.drop (k+1))),⟨by simp;lia,λr AS=>?_⟩,aeC AG rfl rfl (λd a A2=>?_),?_,rfl⟩
   .simp only[Tt,La,LZ,or_false]at AS;rcases AS with(AS|rfl|rfl)|AS
    .exact h.r r (Rh AS)
    .exact oR 48 (.inl rfl)
    .exact oR 49 (.inr (.inl rfl))
    .exact h.r r (T_ AS)
   .unfold mt;have lz:=w5 BO J5 a;rw[<-B3]at lz;rw[lz,Pj]
   .apply Ends.done;rw[J5]at Ym h2
    simp! [P8,QJ,ln,ne,show¬(11:Int)<b.length by lia,Ck,Hp,Fg,Ym,h1,h2]
    refine O_ I8 [48,49] (λx=>CR (Hw x)) (by simp;rfl) (by simp) (λx A5=>?_) ?_
    .obtain⟨H7,H8,Pc,A_,B4,Cn,I7⟩:=tV (c0:=c0) (c1:=c1) (c2:=c2) (c3:=c3) (c:=x) BO;simp[Fg,Bj,Bd,A_,B4,Cn,I7];rfl
    .have c6:BJ (b.take k++Hw 48::Hw 49::b.drop (k+1))=.lst ((b.take k).map CR++CR (Hw 48)::CR (Hw 49)::(b.drop (k+1)).map CR):=by simp only[BJ,Po,DP,OO]
     rw[c6];have Md:((b.take k).map CR).length<=12:=by rw[Eh];exact zI
     have Jh:((b.drop (k+1)).map CR).length<=12:=by rw[Eh];exact o0
     generalize(b.take k).map CR=A at*;generalize(b.drop (k+1)).map CR=B at*
     simp! [aes,LR]
noncomputable def full(r:Bx):Bool:=r.p==CL "xxxx"&&r.a.isNone
def wH{r:Bx}(h:full r=true)(d a:Nat):mt d a r=true:=by unfold full at h;simp at h;unfold mt;rw[h.1,show CL "xxxx"=⟨#[120,120,120,120]⟩from by decide,U7,h.2];rfl
def wG(r:Bx):Ct true (.tup [.str r.p,Er r.a]) (.tup [.str (CL "xxxx"),.non])=.ok (.AO (full r)):=by
 unfold full;cases r.a with
 |none=>show R.ok (D.AO (r.p==CL "xxxx"&&(true&&true)))=_;simp
 |some k=>show R.ok (D.AO (r.p==CL "xxxx"&&(false&&true)))=_;simp
def u6(b:List Bx)(i:Nat):BJ (b.take i)=.lst ((b.map CR).take i):=by simp[BJ,List.map_take]
def uY{c:Nat}{b:List Bx}(h:M4 c b):∃CT r,M4 c CT/\GC b CT/\W9 [BJ b]=.ok r/\HJ r=.ok (BJ CT):=by
 have AF:=h.l;have ln:Di [BJ b]=.ok (.int (b.length:Int)):=by simp[BJ]
 suffices z:Ends (W9 [BJ b]) λr=>∃CT,M4 c CT/\GC b CT/\HJ r=.ok (BJ CT)by
  obtain⟨r,e,CT,DD,CP,LY⟩:=z;exact⟨CT,r,DD,CP,e,LY⟩
 simp[W9,i8];refine jA (λ(i:Nat)=>.int (i:Int)) (EI b.length) (λρ=>∃s1,ρ=[.AI (BJ b),s1]) (λi=>if full (b.getD i ⟨CL "",none,none⟩)=true then some (BJ (b.take (i+1)))else none) (by simp! [ln,oj]) ⟨.un,rfl⟩ ?_ ?_ ?_
 .rintro i _ A0 ⟨s1,rfl⟩;have IU:i<b.length:=by simpa using A0
  have Hp:Ah (BJ b) (.int (i:Int))=.ok (CR b[i]):=Go (by simp[IU]);have st:Om (CR b[i]) none (some 2)=.ok (.tup [.str b[i].p,Er b[i].a]):=rfl;have W0:Fj (BJ b) none (some ((i:Int)+1))=.ok (.lst ((b.take (i+1)).map CR)):=by rw[<-jD];rfl
  have XP:=wG b[i];have eg:b.getD i ⟨CL "",none,none⟩=b[i]:=by simp[IU]
  rw[eg];cases hf:full b[i]with
  |true=>rw[hf]at XP;simp[Hp,st,XP,W0,u6]
  |false=>rw[hf]at XP;simp[Hp,st,XP]
 .intro d hd;obtain⟨i,A0,e⟩:=rh hd;have IU:i<b.length:=by simpa using A0
  have eg:b.getD i ⟨CL "",none,none⟩=b[i]:=by simp[IU]
  rw[eg]at e
  split at e
  .rename_i hf;cases e;simp;exact⟨_,⟨Eg (Wc _ _) AF,λr AS=>h.r r (Rh AS)⟩,aeA IU (wH hf),rfl⟩
  .cases e
 .rintro _ _ ⟨s1,rfl⟩;have l:Ux [BJ b]=.ok (b.map CR):=rfl;simp[l];exact⟨b,h,GC.refl b,rfl⟩
def acA{cs:List Nat}{bs:List (List Bx)}(h6:cs.length<=6)(h:Hf cs bs)(n:Int):∃Dt,Hf cs Dt/\(∀i:Nat,GC (bs.getD i []) (Dt.getD i []))/\WB [.lst (bs.map BJ),.int n]=.ok (.o (Dt.map BJ)):=by
 suffices z:Ends (WB [.lst (bs.map BJ),.int n]) λr=>∃Dt,Hf cs Dt/\(∀i:Nat,GC (bs.getD i []) (Dt.getD i []))/\r=.o (Dt.map BJ)by
  obtain⟨r,e,Dt,DD,CP,rfl⟩:=z;exact⟨Dt,DD,CP,e⟩
 have Jh:=h.l;simp[WB,hE];refine Oh bs.length (λj ρ=>∃(Dt:List (List Bx))(s3:C4),Dt.length=j/\(∀i CT,Dt[i]?=some CT->M4 (cs.getD i 0) CT/\GC (bs.getD i []) CT)/\ρ=[.AI (.lst (bs.map BJ)),.AI (.int n),.BQ (Dt.map BJ),s3]) (by simp(disch:=first|lia|(simp;done)|(simp;lia))) ⟨[],.un,rfl,by simp,rfl⟩ ?_ ?_
 .rintro j _ BO ⟨Dt,s3,ny,J,rfl⟩;have Hp:Ah (.lst (bs.map BJ)) (.int (j:Int))=.ok (BJ bs[j]):=Go (by simp[BO]);obtain⟨EZ,A6,k1,t1,A1,A_⟩:=aaw (h.b j bs[j] (by simp[BO])) (n/((j:Int)+1));obtain⟨DG,AZ,k2,Fo,A7,B4⟩:=uY k1
  simp! [Hp,A1,A_,A7,B4]
  refine⟨Dt++[DG],by simp[ny],λi CT A0=>?_,by simp⟩;by_cases VQ:i<Dt.length
  .rw[Gl VQ]at A0;simpa using J i CT A0
  .rw[GU (by lia)]at A0;have Aj:i-Dt.length=0:=by
    have:=(Ff.mp A0).1;simp at this;lia
   rw[Aj]at A0;simp at A0;subst A0;have:i=j:=by lia
   subst this;refine⟨by simpa using k2,?_⟩;have eg:bs[i]?.getD []=bs[i]:=by simp[BO]
   rw[eg];exact t1.trans Fo
 .rintro _ ⟨Dt,s3,ny,J,rfl⟩;simp;refine⟨Dt,⟨by lia,λi b e=>(J i b e).1⟩,λi=>?_,rfl⟩;by_cases A0:i<Dt.length
  .have:=(J i Dt[i] (by simp[A0])).2;simpa[A0]using this
  .have:¬i<bs.length:=by lia
   simp[A0,this];exact GC.refl []
theorem ke:∀{xs:List D},(∀x∈xs,CU x x=true)->Dc xs xs=true
 |[],_=>by simp[Dc]
 |x::xs,h=>by simp[Dc,h x (by simp),ke (xs:=xs) λy Ao=>h y (by simp[Ao])]
def bK:∀(n:Nat)(d:D),okN n d=true->CU d d=true:=by
 intro n;induction n with
 |zero=>intro d h;cases d<;>simp[okN]at h<;>simp[CU]
 |succ n Bg=>
  intro d h;cases d<;>simp only[okN,FZ]at h<;>simp only[CU,beq_self_eq_true]
  all_goals exact ke λx A5=>Bg x (List.all_eq_true.mp h x A5)
def Xo{d:D}(h:okN 8 d=true):Ct false d d=.ok (.AO false):=by simp[Ct,h,bK 8 d h]
def Xp{d:D}(h:okN 8 d=true):Ct true d d=.ok (.AO true):=by simp[Ct,h,bK 8 d h]
def abr(n:Nat)(a:AC):okN (n+1) (Af a)=true:=by simp[Af,okN]
def b_(n:Nat)(l:List AC):okN (n+2) (.lst (l.map Af))=true:=by simp only[okN,Ro,OM];exact λa _=>abr n a
def ba(n:Nat)(ds:List AC)(e:Ft):okN (n+1) (Hl ds e)=true:=by cases e<;>simp[Hl,okN,st]
def n_(n:Nat)(r:List AC×Ft):okN (n+3) (G2 r)=true:=by simp only[G2,okN,NF,XJ,Pz,FR];exact⟨b_ n _,ba (n+1) _ _⟩
def Ch(N:AC->On)(ds:List AC):Prop:=∀(k:Nat) x y,ds[k]?=some x->ds[k+1]?=some y->N x=.to y
def tB(N:AC->On)(ds:List AC)(x:AC):Ft->Prop
 |.ring c=>N x=.to c/\c∈ds
 |.drop h=>N x=.drop/\h=x.1
 |.out h o=>N x=.out o/\h=x.1
structure KN(N:AC->On)(H0:AC)(r:List AC×Ft):Prop where
 hd:r.1.head?=some H0
 Cb:r.1.Nodup
 ch:Ch N r.1
 E6:∀x,r.1.getLast?=some x->tB N r.1 x r.2
def tv{N:AC->On}{ds:List AC}{d:AC}(h:Ch N ds)(l:∀x,ds.getLast?=some x->N x=.to d):Ch N (ds++[d]):=by
 intro k x y A5 Ao;have AG:=(Ff.mp Ao).1;simp only[K5,sM]at AG;rw[Gl (by lia)]at A5;by_cases e:k+1<ds.length
 .rw[Gl e]at Ao;exact h k x y A5 Ao
 .have A7:k+1=ds.length:=by lia
  rw[GU (by lia),A7,XI]at Ao;simp at Ao;subst Ao;refine l x ?_;rw[fF,<-A5]
  congr 1;lia
def c9{ds:List AC}{d:AC}(Cb:ds.Nodup)(hm:d∉ds):(ds++[d]).Nodup:=List.nodup_append.mpr ⟨Cb,by simp,λx A5 y Ao z=>hm (by rw[<-List.mem_singleton.mp Ao,<-z];exact A5)⟩
def vt{ds:List AC}{H0 d e:AC}(h:(ds++[d]).head?=some H0):(ds++[d]++[e]).head?=some H0:=by cases ds<;>simpa using h
theorem qy{N:AC->On}{H0:AC}:∀(n:Nat)(ds:List AC)(d:AC)(r:List AC×Ft),walk N n ds d=some r->(ds++[d]).head?=some H0->ds.Nodup->Ch N ds->(∀x,ds.getLast?=some x->N x=.to d)->KN N H0 r
 |0,ds,d,r,h,_,_,_,_=>by simp[walk]at h
 |n+1,ds,d,r,h,h0,Cb,ch,l=>by
  simp only[walk]at h;by_cases hm:d∈ds
  .rw[if_pos hm]at h;cases h;exact⟨by cases ds with
    |nil=>simp at hm
    |cons a t=>simpa using h0,Cb,ch,λx A5=>⟨l x A5,hm⟩⟩
  .rw[if_neg hm]at h;have T0:=c9 Cb hm;have hc:=tv ch l;have AF:∀x,(ds++[d]).getLast?=some x->x=d:=λx A5=>by simpa using A5.symm
   cases e:N d with
   |drop=>rw[e]at h;cases h;exact⟨h0,T0,hc,λx A5=>by rw[AF x A5];exact⟨e,rfl⟩⟩
   |out o=>rw[e]at h;cases h;exact⟨h0,T0,hc,λx A5=>by rw[AF x A5];exact⟨e,rfl⟩⟩
   |to f=>rw[e]at h;exact qy n (ds++[d]) f r h (vt h0) T0 hc λx A5=>by rw[AF x A5];exact e
def afi{N:AC->On}{d:AC}{n:Nat}{r:List AC×Ft}(h:walk N n [] d=some r):KN N d r:=qy n [] d r h rfl Rj (λk x y A5=>by simp at A5) (λx A5=>by simp at A5)
def ju{cs:List Nat}{ws:List (AC×AC)}{bs:List (List Bx)}(J:SA cs bs){d:AC}(hd:d.1<cs.length){a:Nat}(A2:a<16):P7 [CG cs ws,.lst (bs.map BJ),Af d,.int (a:Int)]=.ok (.v (Ek d.1 (Gd ws bs a d))):=by
 have Fg:Ah (Af d) (.int 0)=.ok (.int (d.1:Int)):=rfl;have Bj:Ah (Af d) (.int 1)=.ok (.int (d.2:Int)):=rfl;have Ea:d.1<bs.length:=by rw[J.l];exact hd
 have eg:bs.getD d.1 []=bs[d.1]:=by simp[Ea]
 have Jf:Ah (.lst (bs.map BJ)) (.int (d.1:Int))=.ok (BJ (bs.getD d.1 [])):=by rw[eg];exact Go (by simp[Ea])
 have BW:=rM (b:=bs.getD d.1 []) (λr AS=>J.p bs[d.1] (JU _) r (by rw[<-eg];exact AS)) d.2 a A2;have hW:∀o:Nat,P3 [CG cs ws,.tup [.int (d.1:Int),.int (o:Int)]]=.ok (.v (((Lg ws (d.1,o)).map Af).getD .non)):=λo=>jd cs ws (d.1,o);have Fm:IV .non=true:=rfl;have CQ:∀i,IV (.int i)=false:=λ_=>rfl;unfold Gd BK;generalize bs.getD d.1 []=b at*;cases e:JN d.2 a 0 b with
 |none=>simp[P7,SQ,Fg,Bj,Jf,BW,e,Er,Fm,CQ,Ek,st]
 |some i=>
  have A0:=eD b 0 i e;have IU:i<b.length:=by lia
  have Hp:Ah (BJ b) (.int (i:Int))=.ok (CR b[i]):=Go (by simp[IU]);have Bd:Ah (CR b[i]) (.int 2)=.ok (Er b[i].b):=rfl;simp only[C5 IU,fl];cases B7:b[i].b with
  |none=>simp[P7,SQ,Fg,Bj,BW,e,Er,Fm,CQ,Ek,st,Jf,Hp,Bd,B7]
  |some o=>
   have Nd:=hW o;cases CV:Lg ws (d.1,o)with
   |none=>rw[CV]at Nd;have c:Nz (.tup [.str (CL "out")]) (.tup [.int (d.1:Int),.int (o:Int)])=.ok (.tup [.str (CL "out"),.int (d.1:Int),.int (o:Int)]):=rfl;simp[P7,SQ,Fg,Bj,BW,e,Er,Fm,CQ,Ek,st,Jf,Hp,Bd,B7,Z7,Nd,CV,c]
   |some f=>rw[CV]at Nd;have Jk:IV (Af f)=false:=rfl;have c:Nz (.tup [.str (CL "at")]) (Af f)=.ok (.tup [.str (CL "at"),.int (f.1:Int),.int (f.2:Int)]):=rfl;simp[P7,SQ,Fg,Bj,BW,e,Er,Fm,CQ,Ek,st,Jf,Hp,Bd,B7,Z7,Nd,CV,Jk,c]
theorem jO{K:Type}[DecidableEq K]:∀(ks S:List (List K)),(S++ks).Nodup->ks.foldl G7.L7 S=S++ks
 |[],S,_=>by simp
 |k::ks,S,h=>by have AG:k∉S:=λz=>(List.nodup_append.mp h).2.2 k z k (by simp) rfl;rw[Tj,show G7.L7 S k=S++[k]from by unfold G7.L7;rw[if_neg AG],jO ks (S++[k]) (by simpa using h)];simp
theorem qe:∀ds:List AC,Qw (ds.map Af)=some (ds.map λd=>[.inl (d.1:Int),.inl (d.2:Int)])
 |[]=>rfl
 |d::ds=>by simp only[DP,Qw,qe ds];rfl
def ze{ds:List AC}(Cb:ds.Nodup)(AF:ds.length<77):Uw [.lst (ds.map Af)]=.ok (.int (ds.length:Int)):=by
 have l:(ds.map Af).length<77:=by simpa using AF
 have n:(ds.map λd=>([.inl (d.1:Int),.inl (d.2:Int)]:List Key)).Nodup:=by rw[s7,fh];refine Cb.imp λ{a b} h z=>h ?_;simp only[MG,Sum.inl.injEq,and_true]at z;exact Rx (by lia) (by lia)
 simp only[Uw,if_pos l,qe];rw[show G7.IG (ds.map λd=>([.inl (d.1:Int),.inl (d.2:Int)]:List Key))=ds.map λd=>([.inl (d.1:Int),.inl (d.2:Int)]:List Key)from by unfold G7.IG;rw[jO _ [] (by simpa using n)];simp];simp
def z8{ds:List AC}{x:AC}(h:ds.getLast?=some x):Ah (.lst (ds.map Af)) (.int (-1))=.ok (Af x):=by
 rw[fF]at h;have AF:=(Ff.mp h).1;have e:Fx (ds.map Af) (-1)=some (Af x):=by unfold Fx JC;simp only[Eh];rw[if_neg (by lia),if_pos (by lia),show((-1:Int)+(ds.length:Int)).toNat=ds.length-1 by lia];simp[h]
 simp only[Ah,e]
def n7{ds:List AC}{d:AC}(h:d∈ds):inD true (Af d) (.lst (ds.map Af))=.ok (.AO true):=by have s:RO (.lst (ds.map Af))=some (ds.map Af):=rfl;have o:okN 7 (Af d)=true:=rfl;simp only[inD,s,Xl,o,and_self,if_true,gR,decide_eq_true h]
def cJ{ds:List AC}{d:AC}(hm:d∈ds)(AF:ds.length<1000):QA (.lst (ds.map Af)) [Af d]=.ok (.int (idx ds d:Nat)):=by have:=n8 (m1:=A3 0) (m2:=A3 1) (ρ:=[.AI (Af d),.AI (.lst (ds.map Af))]) (ds:=ds) (d:=d) rfl rfl hm AF;simpa using this
def afj{cs:List Nat}{ws:List (AC×AC)}{bs:List (List Bx)}(J:SA cs bs){a:Nat}(A2:a<16){d:AC}{r:List AC×Ft}(w:KN (Gd ws bs a) d r)(AF:r.1.length<77)(AB:∀x∈r.1,x.1<cs.length):WE [CG cs ws,.lst (bs.map BJ),Af d,.int (a:Int),G2 r]=.ok (.v (.AO true)):=by
 apply Ends.done;obtain⟨ds,E6⟩:=r;simp only at AF AB;have hd:=w.hd;have Cb:=w.Cb;have ch:=w.ch;have we:=w.E6;simp only at hd Cb ch we;have AW:0<ds.length:=by cases ds<;>simp at hd |-
 obtain⟨x,A5⟩:∃x,ds.getLast?=some x:=by
  cases e:ds.getLast? with
  |some x=>exact⟨x,rfl⟩
  |none=>simp at e;subst e;simp at AW
 have aht:x∈ds:=List.mem_of_getLast? A5;have t1:Fj (.lst (ds.map Af)) none (some 1)=.ok (.lst [Af d]):=by
  have:FW ds none (some ((1:Nat):Int))=ds.take 1:=gt ds 1;rw[pk,S8,show(1:Int)=((1:Nat):Int)from rfl,this];cases ds with
  |nil=>simp at AW
  |cons y t=>simp at hd;subst hd;simp
 have f1:Ct false (.lst [Af d]) (.lst [Af d])=.ok (.AO false):=Xo (b_ 6 [d]);have ls:=ze Cb AF;have lst:=z8 A5;have Gz:=ju (ws:=ws) J (AB x aht) A2
 simp! [WE,hH,G2,t1,f1,ls]
 refine Oh (ds.length-1) (λj ρ=>∃EK,ρ=[.AI (CG cs ws),.AI (.lst (bs.map BJ)),.AI (Af d),.AI (.int (a:Int)),.AI (.tup [.lst (ds.map Af),Hl ds E6]),.AI (.lst (ds.map Af)),.AI (Hl ds E6),EK,.un]) ?_ ⟨.un,rfl⟩ ?_ ?_
 .have:((ds.length:Int)-1)=((ds.length-1:Nat):Int):=by lia
  simp! [this]
 .rintro j _ BO ⟨EK,rfl⟩;have LK:j<ds.length:=by lia
  have Hb:j+1<ds.length:=by lia
  have n:=ch j ds[j] ds[j+1] (by simp[LK]) (by simp[Hb]);have c:=ju (ws:=ws) J (AB ds[j] (JU _)) A2;rw[n]at c;have A1:Ah (.lst (ds.map Af)) (.int (j:Int))=.ok (Af ds[j]):=Go (by simp[LK]);have A7:Ah (.lst (ds.map Af)) (.int ((j:Int)+1))=.ok (Af ds[j+1]):=Go (k:=j+1) (by simp[Hb]);have C_:Nz (.tup [.str (CL "at")]) (Af ds[j+1])=.ok (Ek ds[j].1 (.to ds[j+1])):=rfl;have f:Ct false (Ek ds[j].1 (.to ds[j+1])) (Ek ds[j].1 (.to ds[j+1]))=.ok (.AO false):=Xo rfl
  simp! [A1,A7,c,C_,f]
 .rintro _ ⟨EK,rfl⟩;have et:=we x A5;cases E6 with
  |ring c=>
   obtain⟨n,cm⟩:=et;rw[n]at Gz;have k0:Ah (Ek x.1 (.to c)) (.int 0)=.ok (st "at"):=rfl;have q:Ct true (st "at") (.str (CL "at"))=.ok (.AO true):=rfl;have BY:Om (Ek x.1 (.to c)) (some 1) none=.ok (Af c):=rfl;have ii:=n7 cm;have Hp:=cJ cm (by lia);have B4:Ct true (Hl ds (.ring c)) (.tup [.str (CL "ring"),.int (idx ds c:Nat)])=.ok (.AO true):=Xp (d:=Hl ds (.ring c)) (ba 7 ds (.ring c))
   simp! [lst,Gz,k0,q,BY,ii,Hp,B4]
  |drop h=>
   obtain⟨n,rfl⟩:=et;rw[n]at Gz;have k0:Ah (Ek x.1 .drop) (.int 0)=.ok (st "drop"):=rfl;have q:Ct true (st "drop") (.str (CL "at"))=.ok (.AO false):=rfl;have B4:Ct true (Hl ds (.drop x.1)) (Ek x.1 .drop)=.ok (.AO true):=Xp (d:=Ek x.1 .drop) rfl
   simp! [lst,Gz,k0,q,B4]
  |out h o=>
   obtain⟨n,rfl⟩:=et;rw[n]at Gz;have k0:Ah (Ek x.1 (.out o)) (.int 0)=.ok (st "out"):=rfl;have q:Ct true (st "out") (.str (CL "at"))=.ok (.AO false):=rfl;have B4:Ct true (Hl ds (.out x.1 o)) (Ek x.1 (.out o))=.ok (.AO true):=Xp (d:=Ek x.1 (.out o)) rfl
   simp! [lst,Gz,k0,q,B4]
def Ya{ds:List AC}{d:AC}(h:d∈ds):ds[idx ds d]?=some d:=by
 unfold idx;cases e:ds.findIdx? (λx=>decide (x=d))with
 |none=>exact absurd (List.findIdx?_eq_none_iff.mp e d h) (by simp)
 |some j=>obtain⟨h1,h2,_⟩:=List.findIdx?_eq_some_iff_getElem.mp e;simp at h2;simp[h1,h2]
def P9{l:List AC}{i:Nat}{y:AC}:y∈l.drop i↔∃k,i<=k/\l[k]?=some y:=by
 rw[List.mem_iff_getElem?];constructor
 .rintro⟨j,e⟩;rw[Tp]at e;exact⟨i+j,by omega,e⟩
 .rintro⟨k,h,e⟩;exact⟨k-i,by rw[Tp,show i+(k-i)=k by omega];exact e⟩
def YL{l:List AC}{k:Nat}{x:AC}(e:l[k]?=some x)(h:¬k+1<l.length):l.getLast?=some x:=by have:=(Ff.mp e).1;rw[fF,show l.length-1=k by omega];exact e
noncomputable def run(N:AC->On):Nat->AC->Option (List AC×Ft)
 |0,_=>none
 |n+1,x=>match N x with
  |.to e=>(run N n e).map λr=>(x::r.1,r.2)
  |.drop=>some ([x],.drop x.1)
  |.out o=>some ([x],.out x.1 o)
theorem Vx{N:AC->On}{H0:AC}{r:List AC×Ft}(w:KN N H0 r)(AS:∀c,r.2≠.ring c):∀(m k:Nat)(x:AC)(n:Nat),r.1.length=k+m->r.1[k]?=some x->m<=n->run N n x=some (r.1.drop k,r.2)
 |0,k,x,n,h,e,_=>by have:=(Ff.mp e).1;omega
 |m+1,k,x,0,h,e,AR=>by omega
 |m+1,k,x,n+1,h,e,AR=>by
  obtain⟨AG,ex⟩:=Ff.mp e;have Mx:r.1.drop k=x::r.1.drop (k+1):=by rw[<-ex];exact RU AG
  rw[run,Mx];by_cases h1:k+1<r.1.length
  .have WS:=w.ch k x r.1[k+1] e (by simp[h1]);rw[WS];simp only;rw[Vx w AS m (k+1) r.1[k+1] n (by omega) (by simp[h1]) (by omega)];rfl
  .have ls:=YL e h1;have E6:=w.E6 x ls;have H0:r.1.drop (k+1)=[]:=rz (by omega);rw[H0];cases A7:r.2 with
   |ring c=>exact absurd A7 (AS c)
   |drop h=>rw[A7]at E6;rw[E6.1,E6.2]
   |out h o=>rw[A7]at E6;rw[E6.1,E6.2]
def oP{N:AC->On}{H0:AC}{r:List AC×Ft}{c:AC}(w:KN N H0 r)(AS:r.2=.ring c){k:Nat}{x:AC}(e:r.1[k]?=some x):(∃y,r.1[k+1]?=some y/\N x=.to y)\/(N x=.to c/\c∈r.1):=by
 by_cases h1:k+1<r.1.length
 .exact .inl ⟨r.1[k+1],by simp[h1],w.ch k x _ e (by simp[h1])⟩
 .have E6:=w.E6 x (YL e h1);rw[AS]at E6;exact .inr E6
theorem Z4{N:AC->On}{H0:AC}{r:List AC×Ft}{c:AC}(w:KN N H0 r)(AS:r.2=.ring c):∀(n:Nat)(x:AC),x∈r.1->run N n x=none
 |0,_,_=>rfl
 |n+1,x,A5=>by
  obtain⟨k,e⟩:=List.mem_iff_getElem?.mp A5;rcases oP w AS e with⟨y,CV,WS⟩|⟨WS,cm⟩
  .rw[run,WS];simp only;rw[Z4 w AS n y (EU CV)];rfl
  .rw[run,WS];simp only;rw[Z4 w AS n c cm];rfl
inductive Reach(N:AC->On)(x:AC):AC->Prop where
 |refl:Reach N x x
 |step {y z:AC}:Reach N x y->N y=.to z->Reach N x z
def Reach.trans{N:AC->On}{x y z:AC}(h:Reach N x y)(k:Reach N y z):Reach N x z:=by
 induction k with
 |refl=>exact h
 |step _ e Bg=>exact .step Bg e
theorem Z2{N:AC->On}{ds:List AC}(ch:Ch N ds):∀(m i:Nat)(x y:AC),ds[i]?=some x->ds[i+m]?=some y->Reach N x y
 |0,i,x,y,h1,h2=>by rw[gJ,h1]at h2;cases h2;exact .refl
 |m+1,i,x,y,h1,h2=>by
  have AF:=(Ff.mp h2).1;have h3:ds[i+m]?=some ds[i+m]:=by simp
  exact .step (Z2 ch m i x ds[i+m] h1 h3) (ch (i+m) _ _ h3 (by rw[<-h2];congr 1))
def oQ{N:AC->On}{H0:AC}{r:List AC×Ft}{c x:AC}(w:KN N H0 r)(AS:r.2=.ring c){i j:Nat}(A0:r.1[i]?=some x)(BO:r.1[j]?=some c)(y:AC):(y∈r.1.drop i\/y∈r.1.drop j)↔Reach N x y:=by
 have lR:=(Ff.mp A0).1;constructor
 .intro h;rcases h with h|h
  .obtain⟨k,AG,e⟩:=P9.mp h;exact Z2 w.ch (k-i) i x y A0 (by rw[show i+(k-i)=k by omega];exact e)
  .obtain⟨k,AG,e⟩:=P9.mp h;have E7:r.1[r.1.length-1]?=some r.1[r.1.length-1]:=C5 (by omega);have a1:=Z2 w.ch (r.1.length-1-i) i x _ A0 (by rw[show i+(r.1.length-1-i)=r.1.length-1 by omega];exact E7);have E6:=w.E6 _ (YL E7 (by omega));rw[AS]at E6;exact(Reach.step a1 E6.1).trans (Z2 w.ch (k-j) j c y BO (by rw[show j+(k-j)=k by omega];exact e))
 .intro h;induction h with
  |refl=>exact .inl (P9.mpr ⟨i,By _,A0⟩)
  |step _ e Bg=>
   rename_i y z _;have up:∀k,r.1[k]?=some y->(∃Es,r.1[k+1]?=some Es/\Es=z)\/z=c:=λk Ck=>by
    rcases oP w AS Ck with⟨Es,A1,A7⟩|⟨A7,_⟩
    .rw[e]at A7;cases A7;exact .inl ⟨_,A1,rfl⟩
    .rw[e]at A7;cases A7;exact .inr rfl
   have jo:c∈r.1.drop j:=P9.mpr ⟨j,By _,BO⟩;rcases Bg with h|h
   .obtain⟨k,AG,Ck⟩:=P9.mp h;rcases up k Ck with⟨_,A1,rfl⟩|rfl
    .exact .inl (P9.mpr ⟨k+1,by omega,A1⟩)
    .exact .inr jo
   .obtain⟨k,AG,Ck⟩:=P9.mp h;rcases up k Ck with⟨_,A1,rfl⟩|rfl
    .exact .inr (P9.mpr ⟨k+1,by omega,A1⟩)
    .exact .inr jo
noncomputable def Pb(d:AC):Int×Int:=((d.1:Int),(d.2:Int))
def aeQ{l l':List AC}(h:∀y,y∈l↔y∈l'):LT.Jo (L8 (l.map Pb))=LT.Jo (L8 (l'.map Pb)):=by refine LT.en ((RY _ _).trans ?_) (Wg LT.bi LT.cg _);rw[List.perm_ext_iff_of_nodup (gx _) (gx _)];intro a;rw[jM,jM,gK,gK];exact⟨λ⟨y,Ao,e⟩=>⟨y,(h y).mp Ao,e⟩,λ⟨y,Ao,e⟩=>⟨y,(h y).mpr Ao,e⟩⟩
theorem mc:∀ds:List AC,QE (ds.map Af)=some (ds.map Pb)
 |[]=>rfl
 |d::ds=>by simp only[DP,QE,mc ds];rfl
@[simp] theorem alE(m:Ad)(ρ:A8):Zk m ρ=(m ρ).bind W2:=(rfl)
def af5{ds:List AC}(h:ds.length<64):W2 [.lst (ds.map Af)]=.ok ((LT.Jo (L8 (ds.map Pb))).map SR):=by
 have l:(ds.map Af).length<64:=by simpa using h
 simp only[W2,if_pos l,mc]
def hh(ds:List AC)(k:Nat):Fj (.lst (ds.map Af)) (some (k:Int)) none=.ok (.lst ((ds.drop k).map Af)):=by rw[pk,S8,jF]
def lu{r:List AC×Ft}{x:AC}(AS:∀c,r.2≠.ring c)(A5:x∈r.1)(AF:r.1.length<32):Ni [G2 r,Af x]=.ok (.v (.tup [.lst ((r.1.drop (idx r.1 x)).map Af),Hl r.1 r.2])):=by
 have Hp:=cJ A5 (by omega);have cd:=hh r.1 (idx r.1 x);have⟨CF,q⟩:∃s,Ah (Hl r.1 r.2) (.int 0)=.ok (st s)/\Ct false (st s) (.str (CL "ring"))=.ok (.AO true):=by
  cases e:r.2 with
  |ring c=>exact absurd e (AS c)
  |drop h=>exact⟨"drop",rfl,rfl⟩
  |out h o=>exact⟨"out",rfl,rfl⟩
 obtain⟨dU,q⟩:=q
 simp! [Ni,XY,G2,Hp,dU,q,cd]
def lx{r:List AC×Ft}{x c:AC}(AS:r.2=.ring c)(A5:x∈r.1)(AF:r.1.length<32):Ni [G2 r,Af x]=.ok (.v (.tup [.lst ((LT.Jo (L8 ((r.1.drop (idx r.1 x)++r.1.drop (idx r.1 c)).map Pb))).map SR),.tup [st "ring"]])):=by
 have Hp:=cJ A5 (by omega);have cd:=hh r.1 (idx r.1 x);have tr:=hh r.1 (idx r.1 c);have dU:Ah (Hl r.1 r.2) (.int 0)=.ok (st "ring"):=by rw[AS];rfl
 have A_:Ah (Hl r.1 r.2) (.int 1)=.ok (.int (idx r.1 c:Nat)):=by rw[AS];rfl
 have q:Ct false (st "ring") (.str (CL "ring"))=.ok (.AO false):=rfl;have ss:=af5 (ds:=r.1.drop (idx r.1 x)++r.1.drop (idx r.1 c)) (by simp;omega);rw[Po]at ss;have Md:((r.1.drop (idx r.1 x)).map Af).length<=32:=by simp;omega
 have Jh:((r.1.drop (idx r.1 c)).map Af).length<=32:=by simp;omega
 generalize(r.1.drop (idx r.1 x)).map Af=A at*;generalize(r.1.drop (idx r.1 c)).map Af=B at*;generalize(LT.Jo (L8 ((r.1.drop (idx r.1 x)++r.1.drop (idx r.1 c)).map Pb))).map SR=C at*
 simp! [Ni,XY,G2,Hp,dU,A_,q,cd,tr,ss]
 rfl
def wD{N:AC->On}{d1 C1 x:AC}{A6 AZ:List AC×Ft}(Cp:KN N d1 A6)(D6:KN N C1 AZ)(h1:A6.1.length<32)(h2:AZ.1.length<32)(m1:x∈A6.1)(m2:x∈AZ.1):∃t,Ni [G2 A6,Af x]=.ok (.v t)/\Ni [G2 AZ,Af x]=.ok (.v t)/\okN 8 t=true:=by
 have g1:=Ya m1;have g2:=Ya m2;have nB:∀r:List AC×Ft,(∃c,r.2=.ring c)\/∀c,r.2≠.ring c:=λr=>by
  cases r.2 with
  |ring c=>exact .inl ⟨c,rfl⟩
  |drop h=>exact .inr λc z=>nomatch z
  |out h o=>exact .inr λc z=>nomatch z
 rcases nB A6 with⟨c1,A1⟩|CQ<;>rcases nB AZ with⟨c2,A7⟩|C0
 .have f1:=lx A1 m1 h1;have f2:=lx A7 m2 h2;have cm:∀{d:AC}{r:List AC×Ft}{c:AC},KN N d r->r.2=.ring c->c∈r.1:=λ{d r c} w e=>by
   have AW:0<r.1.length:=by
    have:=w.hd;cases AS:r.1 with
    |nil=>rw[AS]at this;simp at this
    |cons y t=>simp
   have E7:r.1[r.1.length-1]?=some r.1[r.1.length-1]:=C5 (by omega);have E6:=w.E6 _ (YL E7 (by omega));rw[e]at E6;exact E6.2
  have A_:=oQ Cp A1 g1 (Ya (cm Cp A1));have B4:=oQ D6 A7 g2 (Ya (cm D6 A7));rw[aeQ (l:=A6.1.drop (idx A6.1 x)++A6.1.drop (idx A6.1 c1)) (l':=AZ.1.drop (idx AZ.1 x)++AZ.1.drop (idx AZ.1 c2)) λy=>by rw[Tt,Tt,A_,B4]]at f1;refine⟨_,f1,f2,?_⟩;simp only[okN,NF,XJ,Pz,FR,Ro,OM,st];exact λk _=>rfl
 .have a:=Z4 Cp A1 1000 x m1;have b:=Vx D6 C0 (AZ.1.length-idx AZ.1 x) (idx AZ.1 x) x 1000 (by have:=(Ff.mp g2).1;omega) g2 (by omega);rw[a]at b;cases b
 .have a:=Z4 D6 A7 1000 x m2;have b:=Vx Cp CQ (A6.1.length-idx A6.1 x) (idx A6.1 x) x 1000 (by have:=(Ff.mp g1).1;omega) g1 (by omega);rw[a]at b;cases b
 .have a:=Vx Cp CQ (A6.1.length-idx A6.1 x) (idx A6.1 x) x 1000 (by have:=(Ff.mp g1).1;omega) g1 (by omega);have b:=Vx D6 C0 (AZ.1.length-idx AZ.1 x) (idx AZ.1 x) x 1000 (by have:=(Ff.mp g2).1;omega) g2 (by omega);rw[a]at b;simp only[fi,Tr]at b;have f1:=lu CQ m1 h1;have f2:=lu C0 m2 h2;have KX:Hl A6.1 A6.2=Hl AZ.1 AZ.2:=by
   rw[b.2];cases e:AZ.2 with
   |ring c=>exact absurd e (C0 c)
   |drop h=>rfl
   |out h o=>rfl
  rw[b.1,KX]at f1;refine⟨_,f1,f2,?_⟩;simp only[okN,NF,XJ,Pz,FR];exact⟨b_ 5 _,ba 6 _ _⟩
def sq{N:AC->On}{d1 C1:AC}{A6 AZ:List AC×Ft}(Cp:KN N d1 A6)(D6:KN N C1 AZ)(h1:A6.1.length<32)(h2:AZ.1.length<32):Um [G2 A6,G2 AZ]=.ok (.v (.AO true)):=by
 apply Ends.done;have Bj:Ah (G2 A6) (.int 0)=.ok (.lst (A6.1.map Af)):=rfl;have Bd:Ah (G2 AZ) (.int 0)=.ok (.lst (AZ.1.map Af)):=rfl;simp[Um,i4];refine jA Af A6.1 (λρ=>∃s2,ρ=[.AI (G2 A6),.AI (G2 AZ),s2]) (λx=>if x∈AZ.1 then some (.AO true)else none) (by simp[Bj]) ⟨.un,rfl⟩ ?_ ?_ ?_
 .rintro x _ A5 ⟨s2,rfl⟩;by_cases hm:x∈AZ.1
  .obtain⟨t,f1,f2,ok⟩:=wD Cp D6 h1 h2 A5 hm;simp[Bd,n7 hm,f1,f2,Xp ok,hm]
  .have aaZ:inD true (Af x) (.lst (AZ.1.map Af))=.ok (.AO false):=by
     have s:RO (.lst (AZ.1.map Af))=some (AZ.1.map Af):=rfl;have o:okN 7 (Af x)=true:=rfl;simp only[inD,s,Xl,o,and_self,if_true,gR,decide_eq_false hm]
   simp[Bd,aaZ,hm]
 .intro d hd;obtain⟨x,_,e⟩:=rh hd
  split at e
  .cases e;simp
  .cases e
 .rintro _ _ ⟨s2,rfl⟩;simp
def outs(cs:List Nat)(ws:List (AC×AC))(n:Nat):List AC:=(Db cs n).filter λd=>!decide (d∈ends ws)
def abO(cs:List Nat)(ws:List (AC×AC))(n:Nat):outs cs ws (n+1)=outs cs ws n++(HT cs n).filter (λd=>!decide (d∈ends ws)):=by unfold outs;rw[YD,List.filter_append]
def nH{cs:List Nat}(ws:List (AC×AC))(h:∀c∈cs,1<=c/\c<=4)(n:Nat):(outs cs ws n).length<=4*n:=Eg (sO _ _) (QI h n)
def nG{cs:List Nat}{ws:List (AC×AC)}(DV:IQ cs ws):Sm [CG cs ws]=.ok (.o ((outs cs ws cs.length).map Af)):=by
 apply Ends.done;have h6:=DV.h6;have lb:Eu "Net" "far" (CG cs ws)=.ok (.BN (EC ws) (ER ws)):=rfl;have uW:Eu "Net" "counts" (CG cs ws)=.ok (.tup (Bv cs)):=rfl
 simp! [Sm,hn]
 refine Oh cs.length (λj ρ=>∃s2 s3,ρ=[.AI (CG cs ws),.BQ ((outs cs ws j).map Af),s2,s3]) (by simp! [bw]) ⟨.un,.un,by simp[outs,Db]⟩ ?_ ?_
 .rintro j _ BO ⟨s2,s3,rfl⟩;have YK:=ai (λc h=>(DV.c c h).2) j;have B8:Ah (.tup (Bv cs)) (.int (j:Int))=.ok (.int (cs.getD j 0:Nat)):=cO (UT BO);have lo:=nH ws DV.c j;simp only[Hc]at B8 YK;simp;have z:=Oh (β:=FK) (set:=B_ 3) (body:=DA (Be (AK (GF false) (D8 (A9 (A3 2) (A9 (A3 3) (AL)))) (DZ (Eu "Net" "far") (A3 0)))) (Lp 1 (D8 (A9 (A3 2) (A9 (A3 3) (AL))))) (DE)) (mi:=Gp (A9 (AK Ah (DZ (Eu "Net" "counts") (A3 0)) (A3 2)) (AL))) (ρ:=[.AI (CG cs ws),.BQ ((outs cs ws j).map Af),.AI (.int (j:Int)),s3]) (k:=λf=>.ok f) (T:=MU λρ=>∃s3,ρ=[.AI (CG cs ws),.BQ ((outs cs ws (j+1)).map Af),.AI (.int (j:Int)),s3]) (cs[j]?.getD 0) (λk ρ=>∃s3,ρ=[.AI (CG cs ws),.BQ ((outs cs ws j++((HT cs j).take k).filter (λd=>!decide (d∈ends ws))).map Af),.AI (.int (j:Int)),s3]) (by simp[uW,B8,show cs[j]?.getD 0<1000000 by lia]) ⟨s3,by simp⟩ ?_ ?_
  .obtain⟨f,EF,B9,rfl,ae2,rfl⟩:=z;have uh:Eb (Gp (A9 (AK Ah (DZ (Eu "Net" "counts") (A3 0)) (A3 2)) (AL))) (B_ 3) (DA (Be (AK (GF false) (D8 (A9 (A3 2) (A9 (A3 3) (AL)))) (DZ (Eu "Net" "far") (A3 0)))) (Lp 1 (D8 (A9 (A3 2) (A9 (A3 3) (AL))))) (DE)) [.AI (CG cs ws),.BQ ((outs cs ws j).map Af),.AI (.int (j:Int)),s3]=.ok (.BK [.AI (CG cs ws),.BQ ((outs cs ws (j+1)).map Af),.AI (.int (j:Int)),ae2]):=by
    rw[<-EF];cases Eb (Gp (A9 (AK Ah (DZ (Eu "Net" "counts") (A3 0)) (A3 2)) (AL))) (B_ 3) (DA (Be (AK (GF false) (D8 (A9 (A3 2) (A9 (A3 3) (AL)))) (DZ (Eu "Net" "far") (A3 0)))) (Lp 1 (D8 (A9 (A3 2) (A9 (A3 3) (AL))))) (DE)) [.AI (CG cs ws),.BQ ((outs cs ws j).map Af),.AI (.int (j:Int)),s3]<;>rfl
   rw[uh];simp
  .rintro k _ AG ⟨s3,rfl⟩;have Je:k<(HT cs j).length:=by simp[HT,Hc];exact AG
   have E2:(HT cs j)[k]=(j,k):=by simp[HT]
   have dd:GF false (.tup [.int (j:Int),.int (k:Int)]) (.BN (EC ws) (ER ws))=.ok (.AO (!decide ((j,k)∈ends ws))):=jQ ws (j,k);have Ow:(((HT cs j).take k).filter (λd=>!decide (d∈ends ws))).length<=4:=Eg (sO _ _) (Eg (Wc _ _) (jX DV.c j));rw[Pp,C5 Je,E2,fu,List.filter_append];by_cases hm:(j,k)∈ends ws
   .simp[lb,dd,hm]
   .simp! [lb,dd,hm]
    rfl
  .rintro _ ⟨s3,rfl⟩;have:(HT cs j).take (cs[j]?.getD 0)=HT cs j:=Wi (by simp[HT,Hc]);rw[this,<-abO];simp
 .rintro _ ⟨s2,s3,rfl⟩;simp
def c5{cs:List Nat}{ws:List (AC×AC)}{d:AC}(h:d∈outs cs ws cs.length):d∈Db cs cs.length/\d∉ends ws:=by unfold outs at h;rw[List.mem_filter]at h;exact⟨h.1,by simpa using h.2⟩
def PK(ws:List (AC×AC))(bs:List (List Bx))(p:AC×Nat):List AC×Ft:=(walk (Gd ws bs p.2) 1000 [] p.1).getD ([],.drop 0)
def Dk(ws:List (AC×AC))(bs:List (List Bx))(p:AC×Nat):D:=G2 (PK ws bs p)
def hY{cs:List Nat}{bs:List (List Bx)}(h:Hf cs bs):SA cs bs:=⟨h.l,λb J r AS=>by obtain⟨i,e⟩:=List.mem_iff_getElem?.mp J;exact((h.b i b e).r r AS).p⟩
def eu{cs:List Nat}{ws:List (AC×AC)}{bs:List (List Bx)}(DV:IQ cs ws)(GY:Hf cs bs){a:Nat}(A2:a<16){d:AC}(hd:d∈Db cs cs.length):KN (Gd ws bs a) d (PK ws bs (d,a))/\(PK ws bs (d,a)).1.length<32/\(∀x∈(PK ws bs (d,a)).1,x.1<cs.length)/\Sv [CG cs ws,.lst (bs.map BJ),Af d,.int (a:Int)]=.ok (.v (Dk ws bs (d,a))):=by
 obtain⟨r,AS,hw⟩:=afg DV (hY GY) A2 hd;have e:PK ws bs (d,a)=r:=by unfold PK;simp only[AS,OL]
 unfold Dk;rw[e];have w:=afi AS;have sub:∀x∈r.1,x∈Db cs cs.length:=λx A5=>by
  obtain⟨k,Ck⟩:=List.mem_iff_getElem?.mp A5;cases k with
  |zero=>have:=w.hd;rw[List.head?_eq_getElem?,Ck]at this;cases this;exact hd
  |succ k=>have AG:=(Ff.mp Ck).1;exact nW DV (w.ch k r.1[k] x (by simp) Ck)
 have h6:=DV.h6;have J7:=QI DV.c cs.length;have:=rd w.Cb sub;exact⟨w,by lia,λx A5=>(Sw.mp (sub x A5)).1,hw⟩
def rN{cs:List Nat}{ws:List (AC×AC)}{bs:List (List Bx)}(DV:IQ cs ws)(GY:Hf cs bs){a:Nat}(A2:a<16){d:AC}(hd:d∈outs cs ws cs.length):RD [CG cs ws,.lst (bs.map BJ),Af d,.int (a:Int)]=.ok (.v (Dk ws bs (d,a))):=by obtain⟨h1,h2⟩:=c5 hd;have DN:=acB ws h1;rw[decide_eq_false h2]at DN;exact afh (uH DV.h6 GY) DN (by rw[iV];simp;lia) (eu DV GY A2 h1).2.2.2
def aaH{ws:List (AC×AC)}{bs Dt:List (List Bx)}(h:∀i:Nat,GC (bs.getD i []) (Dt.getD i [])){a:Nat}(A2:a<16):Gd ws Dt a=Gd ws bs a:=by
 funext d
 unfold Gd;rw[ZH,ZH,h d.1 d.2 a A2]
def ag5{ws:List (AC×AC)}{bs Dt:List (List Bx)}(h:∀i:Nat,GC (bs.getD i []) (Dt.getD i [])){a:Nat}(A2:a<16)(d:AC):Dk ws Dt (d,a)=Dk ws bs (d,a):=by unfold Dk PK;rw[aaH h A2]
def HF(bs:List (List Bx))(a:Nat):List (List Bool):=bs.map λb=>b.map λr=>J6 r.p a
noncomputable def MZ(l:List Bool):D:=.lst (l.map D.AO)
def I5(m:List (List Bool)):D:=.lst (m.map MZ)
theorem ll{a F1:Nat}(d:Nat):∀{b:List Bx},(∀r∈b,J6 r.p a=J6 r.p F1)->EB d a b=EB d F1 b
 |[],_=>rfl
 |r::b,h=>by rw[PN,PN,ll d (b:=b) λx A5=>h x (E3 _ A5),show mt d a r=mt d F1 r from by unfold mt;rw[h r GT]]
theorem map_eq{α β:Type}{f g:α->β}:∀{l:List α},l.map f=l.map g->∀x∈l,f x=g x
 |[],_,x,A5=>nomatch A5
 |y::l,h,x,A5=>by
  simp only[DP,MG]at h;rcases List.mem_cons.mp A5 with rfl|A5
  .exact h.1
  .exact map_eq h.2 x A5
def ag4{ws:List (AC×AC)}{bs:List (List Bx)}{a F1:Nat}(h:HF bs a=HF bs F1)(d:AC):Dk ws bs (d,a)=Dk ws bs (d,F1):=by
 have e:Gd ws bs a=Gd ws bs F1:=by
  funext d
  unfold Gd;rw[ZH,ZH]
  congr 1
  refine ll d.2 λr AS=>?_;by_cases hd:d.1<bs.length
  .have eg:bs.getD d.1 []=bs[d.1]:=by simp[hd]
   rw[eg]at AS;exact map_eq (map_eq h bs[d.1] (JU _)) r AS
  .simp[hd]at AS
 unfold Dk PK;rw[e]
def aar{cs:List Nat}{bs:List (List Bx)}(h6:cs.length<=6)(GY:Hf cs bs){a:Nat}(A2:a<16):Zq [.lst (bs.map BJ),.int (a:Int)]=.ok (.o ((HF bs a).map MZ)):=by
 apply Ends.done;have AW:=hY GY;simp[Zq,i9];refine O_ BJ bs (λb=>MZ (b.map λr=>J6 r.p a)) (by simp) (by have:=GY.l;lia) (λb J=>?_) (by simp[HF]);have Jh:b.length<=12:=by obtain⟨i,e⟩:=List.mem_iff_getElem?.mp J;exact(GY.b i b e).l
 simp only[DP,OO];have z:Ends (FE (Ej 1 [1] (Hs (A3 0)) (B_ 0) (Ez) (Bt 2 P4 (A9 (AK Ah (A3 0) (AM (.int 0))) (A9 (A3 1) (AL))))) [.AI (BJ b),.AI (.int (a:Int))]) (· =MZ (b.map λr=>J6 r.p a)):=by simp only[afW];refine O_ CR b (λr=>.AO (J6 r.p a)) (by simp[BJ]) (by lia) (λr AS=>?_) (by simp[MZ]);have Fg:Ah (CR r) (.int 0)=.ok (.str r.p):=rfl;simp[Fg,lh (AW.p b J r AS) A2]
 have:=z.done;simpa using this
theorem ka:∀{l l':List Bool},Dc (l.map D.AO) (l'.map D.AO)=true->l=l'
 |[],[],_=>rfl
 |[],_::_,h=>by simp[Dc]at h
 |_::_,[],h=>by simp[Dc]at h
 |x::l,y::l',h=>by simp only[DP,Dc,CU,FR,beq_iff_eq]at h;rw[h.1,ka h.2]
theorem kc:∀{m CM:List (List Bool)},Dc (m.map MZ) (CM.map MZ)=true->m=CM
 |[],[],_=>rfl
 |[],_::_,h=>by simp[Dc]at h
 |_::_,[],h=>by simp[Dc]at h
 |x::l,y::l',h=>by simp only[DP,Dc,MZ,CU,FR]at h;rw[ka h.1,kc h.2]
def nZ(n:Nat)(m:List (List Bool)):okN (n+2) (I5 m)=true:=by simp only[I5,MZ,okN,Ro,OM];intro x _;simp[okN,MZ]
def xZ(bs:List (List Bx)){as:List Nat}(AF:as.length<=16){k:Nat}(AG:k<as.length):∃j,∃BO:j<as.length,HF bs as[j]=HF bs as[k]/\QA (.lst (as.map λa=>I5 (HF bs a))) [I5 (HF bs as[k])]=.ok (.int (j:Int)):=by
 have c:okN 7 (I5 (HF bs as[k]))=true/\(as.map λa=>I5 (HF bs a)).all (okN 7)=true/\(as.map λa=>I5 (HF bs a)).length<1000000:=by refine⟨nZ 5 _,?_,by simp;lia⟩;simp only[Ro,OM];exact λa _=>nZ 5 _
 cases e:(as.map λa=>I5 (HF bs a)).findIdx? (λz=>CU z (I5 (HF bs as[k])))with
 |none=>have:=List.findIdx?_eq_none_iff.mp e (I5 (HF bs as[k])) (List.mem_map.mpr ⟨as[k],JU _,rfl⟩);rw[bK 7 _ c.1]at this;simp at this
 |some j=>
  obtain⟨h1,h2,_⟩:=List.findIdx?_eq_some_iff_getElem.mp e;have BO:j<as.length:=by simpa using h1
  refine⟨j,BO,?_,?_⟩
  .simp only[fZ]at h2;unfold I5 at h2;simp only[CU]at h2;exact kc h2
  .simp only[QA,if_pos c,e]
@[simp] theorem al4(n:Nat)(mf:List D->R Bf)(m:Ad)(ρ:A8):R4 n mf m ρ=(m ρ).bind λds=>if ds.length=n then(Ep (mf ds)).bind HJ else .bad:=(rfl)
noncomputable def Ex(p:AC×Nat):C8:=[.inr [.inl (p.1.1:Int),.inl (p.1.2:Int)],.inl (.inl (p.2:Int))]
def cc(d:AC)(a:Nat):Mc (.tup [Af d,.int (a:Int)])=some (Ex (d,a)):=rfl
def cb{p q:AC×Nat}(h:Ex p=Ex q):p=q:=by
 obtain⟨⟨a,b⟩,c⟩:=p;obtain⟨⟨F1,CT⟩,E1⟩:=q;simp[Ex]at h;obtain⟨⟨h1,h2⟩,h3⟩:=h;have:a=F1:=by lia
 have:b=CT:=by lia
 have:c=E1:=by lia
 subst_vars;rfl
theorem ox(f:AC×Nat->D)(p:AC×Nat):∀ps:List (AC×Nat),SZ (ps.map Ex) (ps.map f) (Ex p) (f p)=ps.map f
 |[]=>rfl
 |q::ps=>by
  simp only[DP,SZ,ox f p ps];by_cases h:Ex q=Ex p
  .rw[if_pos h,cb h]
  .rw[if_neg h]
def ib(p:AC×Nat)(ps:List (AC×Nat)):(ps.map Ex).any (λx=>decide (x=Ex p))=decide (p∈ps):=by
 rw[XH];by_cases h:p∈ps
 .rw[decide_eq_true h,f_];exact⟨p,h,by simp⟩
 .rw[decide_eq_false h,fa];intro x A5;simp only[g6,decide_eq_true_eq];exact λz=>h (cb z▸A5)
theorem lg(f:AC×Nat->D)(p:AC×Nat):∀ps:List (AC×Nat),p∈ps->findD (ps.map Ex) (ps.map f) (Ex p)=some (f p)
 |[],h=>nomatch h
 |q::ps,h=>by
  unfold findD;simp only[DP,ND,Kp];by_cases e:Ex q=Ex p
  .simp[e,cb e]
  .simp only[e,decide_false];have:=lg f p ps ((List.mem_cons.mp h).resolve_left λz=>e (by rw[z]));exact this
def QO(f:AC×Nat->D)(ps:List (AC×Nat)):D:=.BN (ps.map Ex) (ps.map f)
def Xi{f:AC×Nat->D}{ps:List (AC×Nat)}{d:AC}{a:Nat}(h:(d,a)∈ps):Lh (QO f ps) (.tup [Af d,.int (a:Int)])=.ok (f (d,a)):=by simp only[Lh,QO,cc,lg f (d,a) ps h]
def acR{i:Nat}{mk mv:AY}{ρ:A8}{f:AC×Nat->D}{ps:List (AC×Nat)}{d:AC}{a:Nat}(hs:ρ[i]?=some (.ob (.BN (ps.map Ex) (ps.map f))))(AG:mk ρ=.ok (.tup [Af d,.int (a:Int)]))(Az:mv ρ=.ok (f (d,a)))(AF:ps.length<1000) :
  ∃I6:List (AC×Nat),(d,a)∈I6/\(∀p∈ps,p∈I6)/\I6.length<=ps.length+1/\Mh i mk mv ρ=.ok (.BK (ρ.set i (.ob (.BN (I6.map Ex) (I6.map f))))):=by
 have Ow:(ps.map Ex).length<1000000:=by rw[Eh];lia
 by_cases h:(d,a)∈ps
 .refine⟨ps,h,λp AW=>AW,by lia,?_⟩;have e:=ib (d,a) ps;rw[decide_eq_true h]at e;have c1:¬((ps.map Ex).any (λx=>decide (x=Ex (d,a)))=false/\(ps.map Ex).length<1000000):=λz=>by rw[e]at z;exact absurd z.1 (by simp)
  have c2:(ps.map Ex).any (λx=>decide (x=Ex (d,a)))=true/\(ps.map Ex).length<1000000:=⟨e,Ow⟩;simp only[Mh,Az,hs,AG,Jz,cc,putD,if_neg c1,if_pos c2,ox]
 .refine⟨ps++[(d,a)],by simp,λp AW=>by simp[AW],by simp,?_⟩;have e:=ib (d,a) ps;rw[decide_eq_false h]at e;simp only[Mh,Az,hs,AG,Jz,cc,putD,if_pos (And.intro e Ow),Po,DP,OO]
def aby{α:Type}(r:R α):r.bind .ok=r:=by cases r<;>rfl
def j7{α:Type}{mi:Ad}{set:D->A8->R A8}{body:B6}{ρ:A8}{T:FK->Prop}(g:α->D)(xs:List α)(I:Nat->A8->Prop)(A0:mi ρ=.ok (xs.map g))(h0:I 0 ρ)(st:∀(j:Nat) a ρ,xs[j]?=some a->I j ρ->Ends ((set (g a) ρ).bind body) (MU (I (j+1))))(fin:∀B9,I xs.length B9->T (.BK B9)):Ends (Eb mi set body ρ) T:=by rw[<-aby (Eb mi set body ρ)];exact T6 g xs I A0 h0 st λB9 h=>by simpa using fin B9 h
def ea(cs:List Nat)(ws:List (AC×AC)):Nq "Net" "outer" (CG cs ws)=.ok (CG cs ws):=rfl
def acL{cs:List Nat}{ws:List (AC×AC)}{bs Dt:List (List Bx)}(DV:IQ cs ws)(GY:Hf cs bs)(hX:Hf cs Dt)(eh:∀i:Nat,GC (bs.getD i []) (Dt.getD i [])){a:Nat}(A2:a<16){ps:List (AC×Nat)}(AW:∀d∈outs cs ws cs.length,(d,a)∈ps):Zp [CG cs ws,.lst (bs.map BJ),.lst (Dt.map BJ),.int (a:Int),QO (Dk ws bs) ps]=.ok (.v (.AO true)):=by
 apply Ends.done;have ZQ:=nG DV;generalize hd:QO (Dk ws bs) ps=dd;simp[Zp,i3,ea,ZQ];refine T6 Af (outs cs ws cs.length) (λ_ ρ=>∃Jm,ρ=[.AI (CG cs ws),.AI (.lst (bs.map BJ)),.AI (.lst (Dt.map BJ)),.AI (.int (a:Int)),.AI dd,.AI (.lst ((outs cs ws cs.length).map Af)),Jm]) (by simp) ⟨.un,rfl⟩ ?_ ?_
 .rintro j d _ BO ⟨Jm,rfl⟩;have Li:d∈outs cs ws cs.length:=EU BO;have AF:0<(outs cs ws cs.length).length:=Rd Li;have jR:(outs cs ws cs.length)[0]∈outs cs ws cs.length:=JU _;have x0:Ah (.lst ((outs cs ws cs.length).map Af)) (.int 0)=.ok (Af (outs cs ws cs.length)[0]):=Go (k:=0) (by simp[AF]);generalize(outs cs ws cs.length)[0]=H0 at*;have A1:=Xi (f:=Dk ws bs) (AW d Li);have CF:=Xi (f:=Dk ws bs) (AW H0 jR);rw[hd]at A1 CF;obtain⟨Cp,E7,c1,_⟩:=eu DV GY A2 (c5 Li).1;obtain⟨M2,cf,c0,_⟩:=eu DV GY A2 (c5 jR).1;have wl:=afj (hY GY) A2 Cp (by lia) c1;have al:=sq M2 Cp cf E7;have ty:=rN DV hX A2 Li;rw[ag5 eh A2]at ty;have q:Ct false (Dk ws bs (d,a)) (Dk ws bs (d,a))=.ok (.AO false):=Xo (n_ 5 _);have aR:WE [CG cs ws,.lst (bs.map BJ),Af d,.int (a:Int),Dk ws bs (d,a)]=.ok (.v (.AO true)):=wl;have YC:Um [Dk ws bs (H0,a),Dk ws bs (d,a)]=.ok (.v (.AO true)):=al;simp[A1,CF,aR,YC,ty,q,x0]
 .rintro _ ⟨Jm,rfl⟩;simp
def abN{cs:List Nat}{ws:List (AC×AC)}(DV:IQ cs ws):(outs cs ws cs.length).length<=24:=by have:=nH ws DV.c cs.length;have:=DV.h6;lia
def zX(ns:List Int):RC [.Cd (ns.map D.int)]=.ok (.v (.AO true)):=by
 apply Ends.done;obtain⟨cs,ws,bs,DV,GY,Hn⟩:=afG ns;obtain⟨as,aj8,A2,Md,Aa,JJ⟩:=t2 ns;obtain⟨c3,B8⟩:=S7 ns 3 3 rfl;obtain⟨y,CV⟩:=Sy c3 77 (by decide);have QW:JE [.int c3,.int 77]=.ok (.v (.int y)):=CV;obtain⟨Dt,hX,eh,My⟩:=acA DV.h6 GY y;have Ha:=xa cs ws DV;have ZQ:=nG DV;have lo:=abN DV;have E6:(D.ins "Net" ["many","counts","joined","far"] [.int (cs.length:Nat),.tup (Bv cs),.tup (ws.map DS),.BN (EC ws) (ER ws)])=CG cs ws:=rfl;have BK:Ep (Zm [.lst (Bv cs),.lst (ws.map DS)])=.ok (["many","counts","joined","far"],[.int (cs.length:Nat),.tup (Bv cs),.tup (ws.map DS),.BN (EC ws) (ER ws)]):=by rw[Ha];rfl
 generalize hs:D.Cd (ns.map D.int)=S at*
 simp! [RC,i2,Hn,BK,E6,B8,QW,My,Aa,JJ,Sk]
 refine T6 (λ(a:Nat)=>.int (a:Int)) as (λj ρ=>∃(ps:List (AC×Nat))(No HK:C4),ps.length<=24*j/\(∀(i:Nat) a,i<j->as[i]?=some a->∀d∈outs cs ws cs.length,(d,a)∈ps)/\ρ=[.AI S,.AI (.lst (Bv cs)),.AI (.lst (ws.map DS)),.AI (.lst (bs.map BJ)),.AI (CG cs ws),.AI (.lst (Dt.map BJ)),.ob (.BN (ps.map Ex) (ps.map (Dk ws bs))),.AI (.lst (as.map λ(a:Nat)=>.int (a:Int))),No,HK,.un,.un,.un]) (by simp) ⟨[],.un,.un,by simp,λi a h=>absurd h (Te _),rfl⟩ ?_ ?_
 .rintro j a _ BO ⟨ps,No,HK,CZ,AW,rfl⟩;have sf:=A2 a (EU BO);have ak4:j<as.length:=(Ff.mp BO).1;simp[-Prod.forall];refine j7 Af (outs cs ws cs.length) (λi ρ=>∃(I6:List (AC×Nat))(HK:C4),I6.length<=24*j+i/\(∀p∈ps,p∈I6)/\(∀(k:Nat) d,k<i->(outs cs ws cs.length)[k]?=some d->(d,a)∈I6)/\ρ=[.AI S,.AI (.lst (Bv cs)),.AI (.lst (ws.map DS)),.AI (.lst (bs.map BJ)),.AI (CG cs ws),.AI (.lst (Dt.map BJ)),.ob (.BN (I6.map Ex) (I6.map (Dk ws bs))),.AI (.lst (as.map λ(a:Nat)=>.int (a:Int))),.AI (.int (a:Int)),HK,.un,.un,.un]) (by simp[ea,ZQ]) ⟨ps,HK,by lia,λp h=>h,λk d h=>absurd h (Te _),rfl⟩ ?_ ?_
  .rintro i d _ A0 ⟨I6,HK,zm,sub,Q9,rfl⟩;have ajz:i<(outs cs ws cs.length).length:=(Ff.mp A0).1;have Li:d∈outs cs ws cs.length:=EU A0;have ty:=rN DV GY sf Li;obtain⟨ad5,m2,pW,Cm,A7⟩:=acR (i:=6) (mk:=D8 (A9 (A3 9) (A9 (A3 8) (AL)))) (mv:=R4 4 RD (A9 (A3 4) (A9 (A3 3) (A9 (A3 9) (A9 (A3 8) (AL)))))) (f:=Dk ws bs) (ps:=I6) (d:=d) (a:=a) (ρ:=[.AI S,.AI (.lst (Bv cs)),.AI (.lst (ws.map DS)),.AI (.lst (bs.map BJ)),.AI (CG cs ws),.AI (.lst (Dt.map BJ)),.ob (.BN (I6.map Ex) (I6.map (Dk ws bs))),.AI (.lst (as.map λ(a:Nat)=>.int (a:Int))),.AI (.int (a:Int)),.AI (Af d),.un,.un,.un]) rfl (by simp) (by simp[ty]) (by lia);simp[A7,-Prod.forall];refine⟨ad5,by lia,λp h=>pW _ (sub _ h),λk x AG A5=>?_,rfl,rfl⟩;by_cases VQ:k<i
   .exact pW _ (Q9 k x VQ A5)
   .have:k=i:=by lia
    subst this;rw[A0]at A5;cases A5;exact m2
  .rintro _ ⟨I6,HK,zm,sub,Q9,rfl⟩;simp[-Prod.forall];refine⟨I6,by lia,λi b lQ J d hd=>?_,rfl,rfl⟩;by_cases VN:i<j
   .exact sub _ (AW i b VN J d hd)
   .have:i=j:=by lia
    subst this;rw[BO]at J;cases J;obtain⟨k,Ck⟩:=List.mem_iff_getElem?.mp hd;exact Q9 k d (Ff.mp Ck).1 Ck
 .rintro _ ⟨ps,No,HK,CZ,AW,rfl⟩;have Q9:∀a∈as,∀d∈outs cs ws cs.length,(d,a)∈ps:=λa h d hd=>by
   obtain⟨i,e⟩:=List.mem_iff_getElem?.mp h;exact AW i a (Ff.mp e).1 e d hd
  have f1:∀x y z:C4,XR 6 [.AI S,.AI (.lst (Bv cs)),.AI (.lst (ws.map DS)),.AI (.lst (bs.map BJ)),.AI (CG cs ws),.AI (.lst (Dt.map BJ)),.ob (.BN (ps.map Ex) (ps.map (Dk ws bs))),.AI (.lst (as.map λ(a:Nat)=>.int (a:Int))),x,y,z,.un,.un] (some (.ob (.BN (ps.map Ex) (ps.map (Dk ws bs)))))=[.AI S,.AI (.lst (Bv cs)),.AI (.lst (ws.map DS)),.AI (.lst (bs.map BJ)),.AI (CG cs ws),.AI (.lst (Dt.map BJ)),.AI (QO (Dk ws bs) ps),.AI (.lst (as.map λ(a:Nat)=>.int (a:Int))),x,y,z,.un,.un]:=λ_ _ _=>rfl;simp[f1];refine O_ (λ(a:Nat)=>.int (a:Int)) as (λa=>I5 (HF bs a)) (by simp) (by lia) (λa h=>by simp[aar DV.h6 GY (A2 a h),I5]) ?_;have em:=Xn (λ(a:Nat)=>D.int (a:Int)) as;refine T6 (λp:Nat×Nat=>.tup [.int (p.2:Int),.int (p.1:Int)]) as.zipIdx (λ_ ρ=>∃No HK Z5 dk:C4,ρ=[.AI S,.AI (.lst (Bv cs)),.AI (.lst (ws.map DS)),.AI (.lst (bs.map BJ)),.AI (CG cs ws),.AI (.lst (Dt.map BJ)),.AI (QO (Dk ws bs) ps),.AI (.lst (as.map λ(a:Nat)=>.int (a:Int))),No,HK,.AI (.lst (as.map λa=>I5 (HF bs a))),Z5,dk]) (by simp[em]) ⟨_,_,_,_,rfl⟩ ?_ ?_
  .rintro j ⟨a,k⟩ _ BO ⟨No,HK,Z5,dk,rfl⟩;obtain⟨A1,A7⟩:=f6 BO;simp only at A1 A7;subst A1;have yu:=(Ff.mp A7).1;have so:as[k]=a:=(Ff.mp A7).2;have am:a∈as:=EU A7;have acJ:=acL DV GY hX eh (A2 a am) (ps:=ps) (Q9 a am);obtain⟨i,A0,mi,ii⟩:=xZ bs Md yu;rw[so]at mi ii;have ahp:Ah (.lst (as.map λa=>I5 (HF bs a))) (.int (k:Int))=.ok (I5 (HF bs a)):=Go (by simp[A7]);have ahn:Ah (.lst (as.map λ(a:Nat)=>.int (a:Int))) (.int (i:Int))=.ok (.int (as[i]:Int)):=Go (by simp[A0]);have im:as[i]∈as:=JU _;simp[acJ,ahp,ii,ahn];refine j7 Af (outs cs ws cs.length) (λ_ ρ=>∃HK:C4,ρ=[.AI S,.AI (.lst (Bv cs)),.AI (.lst (ws.map DS)),.AI (.lst (bs.map BJ)),.AI (CG cs ws),.AI (.lst (Dt.map BJ)),.AI (QO (Dk ws bs) ps),.AI (.lst (as.map λ(a:Nat)=>.int (a:Int))),.AI (.int (a:Int)),HK,.AI (.lst (as.map λa=>I5 (HF bs a))),.AI (.int (k:Int)),.AI (.int (as[i]:Int))]) (by simp[ea,ZQ]) ⟨_,rfl⟩ ?_ ?_
   .rintro l d _ AF ⟨HK,rfl⟩;have Li:d∈outs cs ws cs.length:=EU AF;have d1:=Xi (f:=Dk ws bs) (Q9 a am d Li);have C1:=Xi (f:=Dk ws bs) (Q9 as[i] im d Li);rw[ag4 mi d]at C1;have q:Ct false (Dk ws bs (d,a)) (Dk ws bs (d,a))=.ok (.AO false):=Xo (n_ 5 _);simp[d1,C1,q]
   .rintro _ ⟨HK,rfl⟩;simp
  .rintro _ ⟨No,HK,Z5,dk,rfl⟩;simp
section
variable(P:BR)(w:BA){K:AT}{AA:Str->Option U}(base:Aq)(T:Da K AA)
include T
set_option maxHeartbeats 4000000
set_option hygiene false in
local macro_rules| `(tactic|trivial)=> `(tactic|repeat' first
 |refine ahi ?_
 |refine agN _ ?_
 |refine ahG ?_ ?_
 |exact ahg _
 |refine agq ?_
 |refine ahE ?_
 |refine ahI ?_
 |refine ahs ?_
 |refine ahZ _ ?_
 |refine ahd ?_
 |exact ahQ
 |refine ahR _ _ _ (C2.Cb ‹_›) (by rfl) ?_ ?_ ?_ (λ_ _ _ _ _ _ _=>?_)
 |refine ahy ?_
 |exact ahf _
 |refine ahk _ (C2.Cb ‹_›) ?_
 |refine ahS _ _ _ (C2.Cb ‹_›) (by rfl) ?_ ?_ ?_ (λ_ _ _ _ _ _ _=>?_)
 |exact ahh _
 |refine agr ?_
 |refine ahq ?_
 |refine ahr ?_
 |exact agn _
 |refine afJ ?_ ?_
 |exact afK
 |exact ahA
 |refine ahb ?_
 |refine ahT ?_ ?_
 |refine ahC ?_ ?_ D5
 |refine ags ‹_› (Bz.mono ‹_› (by decide)) ?_
 |exact aha
 |refine ah_ ?_ ?_ ?_
 |refine agl ?_
 |exact abA _ (C2.Cb ‹_›)
 |refine afN ?_ ?_
 |refine agQ (Da.hJ ‹_›) ?_
 |refine ah6 ?_
 |refine aiL ?_
 |exact agg
 |exact agp
 |refine ai3 ?_
 |refine ahX gE ?_ ?_ ?_
 |refine agV ?_ ?_
 |refine ai7 ?_
 |exact ag_
 |refine ab7 ?_ ?_
 |exact u7
 |exact ai6
 |refine aiV (Da.Xb ‹_›) ?_
 |refine aiS ?_
 |refine aiT ?_ ?_
 |refine agI ?_ ?_
 |refine ah3 ?_ ?_
 |refine age ?_ ?_ ?_
 |exact sW _ (hN:=of_decide_eq_true (by kernel_rfl))
 |refine ai0 _ _ (by rfl) ?_ ?_ ?_ (λ_ _ _ _ _ _ _=>?_)
 |refine agG _ ‹_› (Bz.mono ‹_› (by decide)) ?_
 |refine ah5 (Da.cR ‹_›) ?_
 |refine aiK (Bz.units ‹_›) ?_ ?_
 |refine afo ?_ ?_
 |exact agL
 |exact abB
 |refine aaP rfl ?_
 |refine ahL (Bz.units ‹_›) ?_ ?_
 |refine aiI ?_ ?_
 |refine ahz ‹_› (Bz.mono ‹_› (by decide)) ?_
 |refine agW ?_ ?_
 |refine agi ?_ ?_
 |refine agT ‹_› (Bz.mono ‹_› (by decide)) ?_ ?_
 |refine agz (Bz.units ‹_›) ?_ ?_ (by intro _ _;rfl)
 |refine ah1 (Bz.units ‹_›) ?_ ?_
 |refine afO ‹_› (Da.iD ‹_›) ?_
 |refine ahu ?_ ?_
 |refine aiJ ?_ ?_
 |refine ahO _ ?_
 |refine aiR (Da.iF ‹_›) ?_
 |refine W8 (afu _) (Da.SP ‹_›) (Da.Xa ‹_›) (by kernel_rfl) ?_
 |refine ahv (Da.cR ‹_›) ?_
 |refine ah9 (Bz.units ‹_›) ?_ ?_
 |refine aiZ (Da.Xb ‹_›) ?_
 |refine ahP _ ?_
 |refine ahY gE ?_ ?_ ?_
 |refine ago ?_
 |refine agJ ?_ ?_ D5
 |refine agH (y:="_law_state") _ (by rfl) ?_ (λ_ _ _ _ _ _ _=>?_)
 |refine ai2 (Da.Xa ‹_›) (Da.Xb ‹_›) ?_
 |exact sX _ _ (hN:=of_decide_eq_true (by kernel_rfl))
 |refine afM (Da.iC ‹_›) ?_
 |refine ahU _ (Bz.units ‹_›) ?_ ?_
 |refine agf ?_ ?_ ?_
 |refine ah8 (Bz.units ‹_›) ?_ ?_
 |refine agw ?_ ?_
 |refine agU ‹_› (Bz.mono ‹_› (by decide)) ?_
 |refine agF ?_ ?_
 |refine agO _ ?_
 |refine W8 (afw _) (Da.SP ‹_›) (Da.hS ‹_›) (by kernel_rfl) ?_
 |exact ahl _ (C2.Cb ‹_›)
 |refine ahJ (Bz.units ‹_›) ?_ ?_
 |refine ahw ?_
 |refine agm (Da.hS ‹_›) ?_
 |refine ai1 (Da.Xa ‹_›) ?_
 |refine ahM ?_ ?_
 |refine aiW ?_
 |exact TZ (Da.QL ‹_›)
 |refine ah7 ?_ ?_ ?_
 |refine agu ‹_› (Bz.mono ‹_› (by decide)) ?_
 |refine ah2 _ ?_
 |refine ahW ?_
 |refine agP ?_
 |refine agd ?_ ?_
 |refine ai4 (Bz.units ‹_›) (Da.hM ‹_›) ?_
 |refine agj (Da.hr ‹_›) ?_
 |refine ahN _ ?_ D5 ?_
 |refine agt ‹_› (Bz.mono ‹_› (by decide)) ?_
 |refine W8 (aft _) (Da.SP ‹_›) (Da.hr ‹_›) (by kernel_rfl) ?_
 |refine W8 (afs _) (Da.SP ‹_›) (Da.iE ‹_›) (by kernel_rfl) ?_
 |refine aga ?_
 |refine agx Vj Vj Vi Vi ?_ ?_ ?_
 |exact TZ (Da.S4 ‹_›)
 |refine r3 Vj Vj Vi Vi ?_ ?_ ?_
 |exact TZ (Da.S3 ‹_›)
 |refine agX (Bz.units ‹_›) ?_ ?_
 |refine aiX ?_
 |refine ahx ?_
 |refine ah4 ?_ ?_
 |refine ahK (Bz.units ‹_›) ?_ ?_
 |refine W8 (afv _) (Da.SP ‹_›) (Da.hO ‹_›) (by kernel_rfl) ?_
 |exact TZ (Da.S6 ‹_›)
 |refine ahB ?_ ?_
 |refine agc ?_ ?_
 |exact TZ (Da.S5 ‹_›)
 |refine r3 Vj nt Vi abu ?_ ?_ ?_
 |exact f3 (Da.qa ‹_›)
 |refine ah0 (Bz.units ‹_›) ?_ ?_
 |exact TZ (Da.S2 ‹_›)
 |refine aiY (Da.iJ ‹_›) ?_
 |refine agh (Da.hO ‹_›) ?_
 |refine aiP ?_ ?_
 |refine agy (Bz.units ‹_›) ?_ ?_
 |refine aiM (Bz.units ‹_›) ?_ ?_
 |refine ahH gE ?_ ?_
 |refine agv ‹_› (Bz.mono ‹_› (by decide)) ?_
 |exact f3 (Da.qb ‹_›)
 |exact f3 (Da.q_ ‹_›)
 |refine agR (Bz.hd ‹_›) (Bz.units ‹_›) (Da.hJ ‹_›) (Da.hL ‹_›) ?_
 |refine agY ?_
 |refine ai5 (Bz.hd ‹_›) (Bz.units ‹_›) (Da.hM ‹_›) (Da.hL ‹_›) ?_
 |refine ahm (Bz.units ‹_›) ?_ ?_
 |refine agS ‹_› (Bz.mono ‹_› (by decide)) ?_
 |refine ahc ?_
 |refine ahe ?_
 |refine aiN ?_
 |refine aiO ?_
 |refine agb ?_
 |refine agK ?_
 |refine aiU ?_
 |refine aiQ ?_
 |refine ahj _ (C2.Cb ‹_›) ?_
 |refine ahF _ (C2.Cb ‹_›) ?_
 |refine ahD _ (C2.Cb ‹_›) ?_
 |refine ahV ?_)
def ce:UA P w K AA base "_law_digit" 1 1 Ki:=v6 (k:=0) T.kS qC λf BV A outer s H E AS=>vG (X:=(EE FJ P w K AA base ["_law_state","_law_many","_law_found"] "_law_digit" (BP Z6) f BV A outer s H E).Fn) qC.Cb
def mJ:Dr P w K AA base "_law_doors" 1 1 VG:=by have h:=E9 P w AA base 0 i7 T.kT qD;exact h (by have:=qD;intros;trivial)
def aa3:Y1 P w K AA base "_law_net_by" 0 2 WA:=by have h:=afL P w AA base 1 XZ T.jx qH;exact h (by have:=qH;have:=ce P w base T;have:=mJ P w base T;intros;trivial)
def Uu:Dr P w K AA base "_law_cell_at" 2 1 HE:=by have h:=E9 P w AA base 0 XX T.kP adb;exact h (by intros;trivial)
def zv:UA P w K AA base "_law_book_by" 1 2 Un:=by have h:=v8 P w AA base 1 XW T.kN q8;exact h (by have:=q8;have:=ce P w base T;intros;trivial)
def YI:Dr P w K AA base "_law_mix" 2 1 JE:=by have h:=E9 P w AA base 0 hD T.kX adf;exact h (by intros;trivial)
def zy:Dr P w K AA base "_law_counts" 1 2 Up:=by have h:=E9 P w AA base 1 i6 T.kR qB;exact h (by have:=qB;have:=Uu P w base T;have:=YI P w base T;intros;trivial)
def aa8:Dr P w K AA base "_law_wires" 2 2 WF:=by have h:=E9 P w AA base 1 hI T.k7 qM;exact h (by have:=qM;have:=Uu P w base T;have:=mJ P w base T;have:=YI P w base T;intros;trivial)
def aa5:Dr P w K AA base "_law_pattern" 1 1 WC:=by have h:=E9 P w AA base 0 hF T.jz qJ;exact h (by have:=qJ;intros;trivial)
def aa6:Dr P w K AA base "_law_row" 3 2 WD:=by have h:=E9 P w AA base 1 hG T.k4 qK;exact h (by have:=qK;have:=YI P w base T;have:=aa5 P w base T;intros;trivial)
def zw:Dr P w K AA base "_law_books" 2 3 Uo:=by have h:=E9 P w AA base 2 i5 T.kO q9;exact h (by have:=q9;have:=aa6 P w base T;intros;trivial)
def aa9:Dr P w K AA base "_law_world" 1 4 Su:=by have h:=E9 P w AA base 3 X_ T.k8 qN;exact h (by have:=qN;have:=zv P w base T;have:=zw P w base T;have:=Uu P w base T;have:=zy P w base T;have:=aa3 P w base T;have:=aa8 P w base T;intros;trivial)
def zp:Dr P w K AA base "is_whole" 1 1 bu:=by have h:=E9 P w AA base 0 iH T.kH ad_;exact h (by intros;trivial)
def YH:Dr P w K AA base "is_whole_within" 3 2 P6:=by have h:=E9 P w AA base 1 i0 T.kI ada;exact h (by have:=zp P w base T;intros;trivial)
def yV:Dr P w K AA base "are_counts" 1 3 Sn:=by have h:=E9 P w AA base 2 ho T.kr adQ;exact h (by have:=YH P w base T;intros;trivial)
def mH:Dr P w K AA base "is_pair" 1 1 Ul:=by have h:=E9 P w AA base 0 iG T.kE adX;exact h (by intros;trivial)
def mG:Dr P w K AA base "is_door_among" 2 3 RB:=by have h:=E9 P w AA base 2 hx T.kC adV;exact h (by have:=mH P w base T;have:=YH P w base T;intros;trivial)
def zq:Dr P w K AA base "is_wire_among" 2 4 Zo:=by have h:=E9 P w AA base 3 i1 T.kJ oW;exact h (by have:=oW;have:=mG P w base T;have:=mH P w base T;intros;trivial)
def yW:Dr P w K AA base "far_doors" 2 5 R9:=by have h:=E9 P w AA base 4 hp T.ku oV;exact h (by have:=oV;have:=zq P w base T;intros;trivial)
def yS:gi P w K AA base "Net" 2 6 Zm:=by have h:=aho P w AA base 5 XT T.kn adN;exact h (by have:=yV P w base T;have:=yW P w base T;intros;trivial)
def zz:Dr P w K AA base "_law_fewer_rows" 1 1 W9:=by have h:=E9 P w AA base 0 i8 T.kU qE;exact h (by have:=qE;intros;trivial)
def aa2:Dr P w K AA base "_law_more_rows" 2 1 P8:=by have h:=E9 P w AA base 0 QJ T.kY qG;exact h (by have:=qG;intros;trivial)
def aa4:Dr P w K AA base "_law_otherwise" 2 2 WB:=by have h:=E9 P w AA base 1 hE T.jy qI;exact h (by have:=qI;have:=zz P w base T;have:=aa2 P w base T;intros;trivial)
def zu:Dr P w K AA base "_law_asked" 1 2 Ss:=by have h:=E9 P w AA base 1 XV T.kM q7;exact h (by have:=q7;have:=Uu P w base T;have:=ce P w base T;intros;trivial)
def mq:Na P w K AA base "Net" "outer" 0 1 Sm:=by have h:=WU P w AA base 0 hn T.kq oU;exact h (by have:=oU;intros;trivial)
def mI:Dr P w K AA base "is_pattern" 1 1 Sq:=by have h:=E9 P w AA base 0 hy T.kF adY;exact h (by intros;trivial)
def yZ:Dr P w K AA base "is_number_or_none" 2 3 P5:=by have h:=E9 P w AA base 2 XU T.kD adW;exact h (by have:=YH P w base T;intros;trivial)
def yv:Dr P w K AA base "is_row" 2 4 Sr:=by have h:=E9 P w AA base 3 hz T.kG adZ;exact h (by have:=yZ P w base T;have:=mI P w base T;intros;trivial)
def yX:Dr P w K AA base "is_book" 2 5 Sp:=by have h:=E9 P w AA base 4 hu T.ky adT;exact h (by have:=yv P w base T;intros;trivial)
def yR:Na P w K AA base "Net" "count" 1 1 Zl:=by have h:=WU P w AA base 0 hj T.km aeF;exact h (by intros;trivial)
def yY:Dr P w K AA base "is_books" 2 6 RA:=by have h:=E9 P w AA base 5 hv T.kz adU;exact h (by have:=yR P w base T;have:=yX P w base T;intros;trivial)
def aaB:Ui P w K AA base "refuse_unless_books" 2 7 Zr:=by have h:=qc P w AA base 6 hK T.kA adg;exact h (by have:=yY P w base T;intros;trivial)
def yT:Na P w K AA base "Net" "is_door" 1 4 Zn:=by have h:=WU P w AA base 3 hk T.ko adO;exact h (by have:=mG P w base T;intros;trivial)
def yU:Na P w K AA base "Net" "is_outer" 1 5 Uk:=by have h:=WU P w AA base 4 hl T.kp adP;exact h (by have:=yT P w base T;intros;trivial)
def mF:Dr P w K AA base "is_address" 1 3 So:=by have h:=E9 P w AA base 2 ht T.kx adS;exact h (by have:=YH P w base T;intros;trivial)
def mE:Dr P w K AA base "fits" 2 4 P4:=by have h:=E9 P w AA base 3 hq T.kv adR;exact h (by have:=mF P w base T;have:=mI P w base T;intros;trivial)
def mK:Dr P w K AA base "taken" 3 5 WG:=by have h:=E9 P w AA base 4 hQ T.kB qP;exact h (by have:=qP;have:=mE P w base T;intros;trivial)
def mn:Na P w K AA base "Net" "beyond" 1 1 P3:=by have h:=WU P w AA base 0 gs T.kl aeE;exact h (by intros;trivial)
def aaA:Dr P w K AA base "onward" 4 6 Nj:=by have h:=E9 P w AA base 5 S0 T.k9 qO;exact h (by have:=qO;have:=mn P w base T;have:=mK P w base T;intros;trivial)
def aaC:Dr P w K AA base "walked" 4 7 Sv:=by have h:=E9 P w AA base 6 iI T.kZ qQ;exact h (by have:=qQ;have:=aaA P w base T;intros;trivial)
def mL:Ui P w K AA base "way" 4 8 RD:=by have h:=qc P w AA base 7 hT T.l_ adh;exact h (by have:=yU P w base T;have:=mF P w base T;have:=aaB P w base T;have:=aaC P w base T;intros;trivial)
def aa1:Dr P w K AA base "_law_marks" 2 5 Zq:=by have h:=E9 P w AA base 4 i9 T.kW ade;exact h (by have:=mE P w base T;intros;trivial)
def zx:Dr P w K AA base "_law_comes_to" 4 6 P7:=by have h:=E9 P w AA base 5 SQ T.kQ qA;exact h (by have:=qA;have:=mn P w base T;have:=mK P w base T;intros;trivial)
def aa7:Dr P w K AA base "_law_walked_well" 5 7 WE:=by have h:=E9 P w AA base 6 hH T.k6 qL;exact h (by have:=qL;have:=zx P w base T;intros;trivial)
def aa0:Dr P w K AA base "_law_from" 2 1 Ni:=by have h:=E9 P w AA base 0 XY T.kV qF;exact h (by have:=qF;intros;trivial)
def zt:Dr P w K AA base "_law_alike_behind" 2 2 Um:=by have h:=E9 P w AA base 1 i4 T.kL q6;exact h (by have:=q6;have:=aa0 P w base T;intros;trivial)
def zr:Dr P w K AA base "_law_address_right" 5 9 Zp:=by have h:=E9 P w AA base 8 i3 T.kK oz;exact h (by have:=oz;have:=mq P w base T;have:=zt P w base T;have:=aa7 P w base T;have:=mL P w base T;intros;trivial)
def u9(f:Z)(BV:U)(A:Bk)(outer:List Env)(s:AD)(H:A4)(E:CS)(AS:Bz 9 (A.deeper (K4 "law" (BP Oj) s.heap.objs.size f BV)))(BD Ak:A4):IF (EE FJ P w K AA base ["_law_script","_law_counts_here","_law_wires_here","_law_books_here","_law_net","_law_other","_law_told","_law_asked_here","_law_address","_law_door","_law_marks_here","_law_k","_law_first"] "law" (BP Oj) f BV A outer s H E).Fn (Cw K BD Ak) (FA Oj) i2:=by have:=oX;have:=yS P w base T;have:=mq P w base T;have:=zr P w base T;have:=zu P w base T;have:=Uu P w base T;have:=aa1 P w base T;have:=YI P w base T;have:=aa4 P w base T;have:=aa9 P w base T;have:=mL P w base T;trivial
end
end Cs
namespace Cs
open PySem PySem.Spec CE Cj
def agM{P:BR}{w:BA}{K:AT}{AA:Str->Option U}{base:Aq}{x:Str}{st:BG}{N ps:List Str}{k:Nat}{m:B6}{f:Z}{fd:FH}(fn:M7 K x x st f fd)(S:C2 N ps (BP st))(h:∀(f:Z)(BV:U)(A:Bk)(outer:List PySem.Env)(s:AD)(H:A4)(E:CS),Bz k (A.deeper (K4 x (BP st) s.heap.objs.size f BV))->∀BD Ak,IF (EE FJ P w K AA base N x (BP st) f BV A outer s H E).Fn (Cw K BD Ak) (FA st) m) :
  Fu P w K AA base FJ (k+1) f fd ps (Lz K ps.length (Cx N.length m)):=fn.ok S ZA λBV A outer s H vs Q E AS hs=>by
 obtain⟨G,BF⟩:=Xd hs;exact⟨_,(h f BV A outer s H E AS G H).1,BF⟩
structure DR(K:AT)(x:Str)(st:BG):Prop where
 ex:∃(f:Z)(DN an:Option Z)(BY:Array (Option U))(F3 Cu KR pm cd C_:U),El K DQ x=some (some (.ref f))/\K.lookup f=some ⟨F3,DN,.func (Im x x (KW st) (FA st) (BP st) .none Cu KR pm an cd C_),BY⟩/\OJ K cd x=true/\IM K (.ref f)=true
def De{K:AT}{x:Str}{st:BG}{f:Z}{DN an:Option Z}{BY:Array (Option U)}{F3 Cu KR pm cd C_:U}(a:El K DQ x=some (some (.ref f)))(l:K.lookup f=some ⟨F3,DN,.func (Im x x (KW st) (FA st) (BP st) .none Cu KR pm an cd C_),BY⟩)(c:OJ K cd x=true)(k:IM K (.ref f)=true):DR K x st:=⟨f,DN,an,BY,F3,Cu,KR,pm,cd,C_,a,l,c,k⟩
def afR{P:List U->Prop}(h:P []):∀us:List U,us.length=0->P us
 |[],_=>h
def Vg{P:List U->Prop}{n:Nat}(h:∀a us,us.length=n->P (a::us)):∀us:List U,us.length=n+1->P us
 |a::us,e=>h a us (Nat.succ.inj e)
def dn{P:List U->Prop}(h:∀a,P [a]):∀us:List U,us.length=1->P us:=Vg λa=>afR (h a)
def TX{P:List U->Prop}(h:∀a b,P [a,b]):∀us:List U,us.length=2->P us:=Vg λa=>dn (h a)
def dp{P:List U->Prop}(h:∀a b c,P [a,b,c]):∀us:List U,us.length=3->P us:=Vg λa=>TX (h a)
def ql{P:List U->Prop}(h:∀a b c d,P [a,b,c,d]):∀us:List U,us.length=4->P us:=Vg λa=>dp (h a)
def afS{P:List U->Prop}(h:∀a b c d f,P [a,b,c,d,f]):∀us:List U,us.length=5->P us:=Vg λa=>ql (h a)
def Dd{K:AT}{h:Aq}{AA:Str->Option U}{x:Str}{st:BG}{ps:List Str}(X:K.In h)(G:h.Ns DQ AA)(F:DR K x st)(b:∀(Cu doc pm:U)(an:Option Z)(BV C_:U)(us:List U),us.length=ps.length->Rw (Im x x (KW st) (FA st) (BP st) .none Cu doc pm an BV C_) ⟨us,[]⟩=pure (ps.zip us):=by intro _ _ _ _ _ _;first|exact dn λ_=>rfl|exact TX λ_ _=>rfl|exact dp λ_ _ _=>rfl|exact ql λ_ _ _ _=>rfl|exact afS λ_ _ _ _ _=>rfl):D1 K AA x st ps:=by obtain⟨f,DN,an,BY,F3,Cu,KR,pm,cd,C_,a,l,c,k⟩:=F.ex;exact uX (st:=st) X G a l c k b
structure Nc(K:AT)(C:Z)(x qual:Str)(st:BG):Prop where
 ex:∃(f:Z)(DN an:Option Z)(BY:Array (Option U))(F3 Cu KR pm cd C_:U),Hz K (.ref C) x=some (some (.ref f))/\K.lookup f=some ⟨F3,DN,.func (Im x qual (KW st) (FA st) (BP st) .none Cu KR pm an cd C_),BY⟩/\OJ K cd qual=true/\IM K (.ref f)=true/\Tx K (.ref f)=true
def Sx{K:AT}{C:Z}{x qual:Str}{st:BG}{f:Z}{DN an:Option Z}{BY:Array (Option U)}{F3 Cu KR pm cd C_:U}(a:Hz K (.ref C) x=some (some (.ref f)))(l:K.lookup f=some ⟨F3,DN,.func (Im x qual (KW st) (FA st) (BP st) .none Cu KR pm an cd C_),BY⟩)(c:OJ K cd qual=true)(k:IM K (.ref f)=true)(i:Tx K (.ref f)=true):Nc K C x qual st:=⟨f,DN,an,BY,F3,Cu,KR,pm,cd,C_,a,l,c,k,i⟩
def WL{K:AT}{BX x qual:Str}{C:Z}{st:BG}{ps:List Str}(n:El K DQ BX=some (some (.ref C)))(g1:Rl K C Str.empty=true)(g2:Tf K C=true)(g3:Ww K C=true)(FX:Hz K (.ref C) "__setattr__"=some (some (.builtin "object.__setattr__")))(F:Nc K C x qual st)(b:∀(Cu doc pm:U)(an:Option Z)(BV C_:U)(us:List U),us.length=ps.length->Rw (Im x qual (KW st) (FA st) (BP st) .none Cu doc pm an BV C_) ⟨us,[]⟩=pure (ps.zip us)):Qm K BX x qual st ps:=by obtain⟨f,DN,an,BY,F3,Cu,KR,pm,cd,C_,a,l,c,k,i⟩:=F.ex;exact⟨⟨C,f,_,n,⟨g1,g2,g3,FX⟩,⟨a,i,k⟩,QY (st:=st) l c k,(QY (st:=st) l c k).binds b⟩⟩
def aat{K:AT}{h:Aq}{AA:Str->Option U}{BX qual:Str}{C:Z}{st:BG}{ps:List Str}(X:K.In h)(G:h.Ns DQ AA)(n:El K DQ BX=some (some (.ref C)))(mk:Wk K C=true)(TN:IM K (.ref C)=true)(F:Nc K C "__init__" qual st)(b:∀(Cu doc pm:U)(an:Option Z)(BV C_:U)(us:List U),us.length=ps.length->Rw (Im "__init__" qual (KW st) (FA st) (BP st) .none Cu doc pm an BV C_) ⟨us,[]⟩=pure (ps.zip us)):InK K AA BX qual st ps:=by obtain⟨f,DN,an,BY,F3,Cu,KR,pm,cd,C_,a,l,c,k,i⟩:=F.ex;exact⟨⟨C,f,_,n,⟨mk,a,i,TN⟩,QY (st:=st) l c k,Kq X G n,(QY (st:=st) l c k).binds b⟩⟩
set_option maxHeartbeats 4000000 in
def ag6{K:AT}{h:Aq}{AA:Str->Option U}{Hg:Z}{gZ:Z}{g_:Z}{gY:Z}{ael:Tok}{aem:Tok}{aen:Tok}{aeG:Tok}{gV:Z}{vB:Option Z}{ab5:Nat}{aev:Array (Option U)}{aeH aeI aeJ:Tok}{gW:Z}{vC:Option Z}{ab6:Nat}{aew:Array (Option U)}{aeK aeL aeM aeN:Tok}(X:K.In h)(G:h.Ns DQ AA)(n_Net:El K DQ "Net"=some (some (.ref Hg)))(g1_Net:Rl K Hg Str.empty=true)(g2_Net:Tf K Hg=true)(g3_Net:Ww K Hg=true)(g4_Net:Hz K (.ref Hg) "__setattr__"=some (some (.builtin "object.__setattr__")))(u_Net_many:Hz K (.ref Hg) "many"=some none)(u_Net_counts:Hz K (.ref Hg) "counts"=some none)(u_Net_joined:Hz K (.ref Hg) "joined"=some none)(u_Net_far:Hz K (.ref Hg) "far"=some none)(mk_Net:Wk K Hg=true)(kc_Net:IM K (.ref Hg)=true)(n_NoBooks:El K DQ "NoBooks"=some (some (.ref gZ)))(e1_NoBooks:Py K gZ [.type "ValueError",.type "Exception",.type "BaseException",.type "object"] "ValueError.__new__"=true)(n_NoDoor:El K DQ "NoDoor"=some (some (.ref g_)))(e1_NoDoor:Py K g_ [.type "ValueError",.type "Exception",.type "BaseException",.type "object"] "ValueError.__new__"=true)(n_NoAddress:El K DQ "NoAddress"=some (some (.ref gY)))(e1_NoAddress:Py K gY [.type "ValueError",.type "Exception",.type "BaseException",.type "object"] "ValueError.__new__"=true)(h0:DR K "_law_digit" Z6)(h1:DR K "_law_doors" cq)(h2:DR K "_law_net_by" eP)(h3:DR K "_law_cell_at" ck)(h4:DR K "_law_book_by" ci)(h5:DR K "_law_mix" cv)(h6:DR K "_law_counts" cp)(h7:DR K "_law_wires" eU)(h8:DR K "_law_pattern" eR)(h9:DR K "_law_row" eS)(h10:DR K "_law_books" cj)(h11:DR K "_law_world" eV)(h12:DR K "is_whole" dG)(h13:DR K "is_whole_within" dH)(h14:DR K "are_counts" d5)(h15:DR K "is_pair" dD)(h16:DR K "is_door_among" dB)(h17:DR K "is_wire_among" dI)(h18:DR K "far_doors" d6)(h19:Nc K Hg "__init__" "Net.__init__" d0)(h20:DR K "_law_fewer_rows" cr)(h21:DR K "_law_more_rows" dM)(h22:DR K "_law_otherwise" eQ)(h23:DR K "_law_asked" dL)(h24:Nc K Hg "outer" "Net.outer" d4)(h25:DR K "is_pattern" dE)(h26:DR K "is_number_or_none" dC)(h27:DR K "is_row" dF)(h28:DR K "is_book" d9)(h29:Nc K Hg "count" "Net.count" cz)(h30:DR K "is_books" dA)(h31:DR K "refuse_unless_books" eX)(h32:Nc K Hg "is_door" "Net.is_door" d2)(h33:Nc K Hg "is_outer" "Net.is_outer" d3)(h34:DR K "is_address" d8)(h35:DR K "fits" d7)(h36:DR K "taken" eY)(h37:Nc K Hg "beyond" "Net.beyond" cy)(h38:DR K "onward" eW)(h39:DR K "walked" eZ)(h40:DR K "way" e_)(h41:DR K "_law_marks" cu)(h42:DR K "_law_comes_to" cn)(h43:DR K "_law_walked_well" eT)(h44:DR K "_law_from" ct)(h45:DR K "_law_alike_behind" dK)(h46:DR K "_law_address_right" dJ)(h47:DR K "law" Oj)(z_abs:El K DQ "abs"=some none)(z_all:El K DQ "all"=some none)(z_bool:El K DQ "bool"=some none)(z_enumerate:El K DQ "enumerate"=some none)(z_int:El K DQ "int"=some none)(z_isinstance:El K DQ "isinstance"=some none)(z_len:El K DQ "len"=some none)(z_list:El K DQ "list"=some none)(z_range:El K DQ "range"=some none)(z_set:El K DQ "set"=some none)(z_sorted:El K DQ "sorted"=some none)(z_str:El K DQ "str"=some none)(z_tuple:El K DQ "tuple"=some none)(z_zip:El K DQ "zip"=some none)(z_GREATEST_ADDRESS:El K DQ "GREATEST_ADDRESS"=some (some (.int 15 ael)))(z_MOST_DOORS:El K DQ "MOST_DOORS"=some (some (.int 4 aem)))(z_MOST_HOUSES:El K DQ "MOST_HOUSES"=some (some (.int 6 aen)))(z_MOST_ROWS:El K DQ "MOST_ROWS"=some (some (.int 12 aeG)))(z_SIGNS:El K DQ "SIGNS"=some (some (.ref gV)))(y_SIGNS:K.lookup gV=some ⟨.type "tuple",vB,.seq #[.str (CL "0") aeH,.str (CL "1") aeI,.str (CL "x") aeJ] ab5,aev⟩)(z_WORTHS:El K DQ "WORTHS"=some (some (.ref gW)))(y_WORTHS:K.lookup gW=some ⟨.type "tuple",vC,.seq #[.int 8 aeK,.int 4 aeL,.int 2 aeM,.int 1 aeN] ab6,aew⟩):Da K AA where
 cR:=⟨Hg,n_Net,⟨g1_Net,g2_Net,g3_Net,g4_Net⟩,(Wd.2 ⟨u_Net_many,(Wd.2 ⟨u_Net_counts,(Wd.2 ⟨u_Net_joined,(Wd.2 ⟨u_Net_far,(λ_ h=>absurd h LZ)⟩)⟩)⟩)⟩)⟩
 q_:=⟨⟨gY,n_NoAddress,Kq X G n_NoAddress,e1_NoAddress⟩⟩
 qa:=⟨⟨gZ,n_NoBooks,Kq X G n_NoBooks,e1_NoBooks⟩⟩
 qb:=⟨⟨g_,n_NoDoor,Kq X G n_NoDoor,e1_NoDoor⟩⟩
 kS:=Dd X G h0
 kT:=Dd X G h1
 jx:=Dd X G h2
 kP:=Dd X G h3
 kN:=Dd X G h4
 kX:=Dd X G h5
 kR:=Dd X G h6
 k7:=Dd X G h7
 jz:=Dd X G h8
 k4:=Dd X G h9
 kO:=Dd X G h10
 k8:=Dd X G h11
 kH:=Dd X G h12
 kI:=Dd X G h13
 kr:=Dd X G h14
 kE:=Dd X G h15
 kC:=Dd X G h16
 kJ:=Dd X G h17
 ku:=Dd X G h18
 kn:=aat X G n_Net mk_Net kc_Net h19 λ_ _ _ _ _ _=>dp λ_ _ _=>rfl
 kU:=Dd X G h20
 kY:=Dd X G h21
 jy:=Dd X G h22
 kM:=Dd X G h23
 kq:=WL n_Net g1_Net g2_Net g3_Net g4_Net h24 λ_ _ _ _ _ _=>dn λ_=>rfl
 kF:=Dd X G h25
 kD:=Dd X G h26
 kG:=Dd X G h27
 ky:=Dd X G h28
 km:=WL n_Net g1_Net g2_Net g3_Net g4_Net h29 λ_ _ _ _ _ _=>TX λ_ _=>rfl
 kz:=Dd X G h30
 kA:=Dd X G h31
 ko:=WL n_Net g1_Net g2_Net g3_Net g4_Net h32 λ_ _ _ _ _ _=>TX λ_ _=>rfl
 kp:=WL n_Net g1_Net g2_Net g3_Net g4_Net h33 λ_ _ _ _ _ _=>TX λ_ _=>rfl
 kx:=Dd X G h34
 kv:=Dd X G h35
 kB:=Dd X G h36
 kl:=WL n_Net g1_Net g2_Net g3_Net g4_Net h37 λ_ _ _ _ _ _=>TX λ_ _=>rfl
 k9:=Dd X G h38
 kZ:=Dd X G h39
 l_:=Dd X G h40
 kW:=Dd X G h41
 kQ:=Dd X G h42
 k6:=Dd X G h43
 kV:=Dd X G h44
 kL:=Dd X G h45
 kK:=Dd X G h46
 uU:=Dd X G h47
 iC:=JR X G z_abs
 iD:=JR X G z_all
 iE:=JR X G z_bool
 iF:=JR X G z_enumerate
 hr:=JR X G z_int
 SP:=JR X G z_isinstance
 hJ:=JR X G z_len
 Xa:=JR X G z_list
 Xb:=JR X G z_range
 hL:=JR X G z_set
 hM:=JR X G z_sorted
 hO:=JR X G z_str
 hS:=JR X G z_tuple
 iJ:=JR X G z_zip
 S2:=⟨⟨_,_,Kq X G z_GREATEST_ADDRESS,(Oi _ _),λ_=>(OR _)⟩⟩
 S3:=⟨⟨_,_,Kq X G z_MOST_DOORS,(Oi _ _),λ_=>(OR _)⟩⟩
 S4:=⟨⟨_,_,Kq X G z_MOST_HOUSES,(Oi _ _),λ_=>(OR _)⟩⟩
 S5:=⟨⟨_,_,Kq X G z_MOST_ROWS,(Oi _ _),λ_=>(OR _)⟩⟩
 S6:=⟨⟨.ref gV,_,Kq X G z_SIGNS,rfl,qf y_SIGNS (fL rfl) (.cons (dj _ _) (.cons (dj _ _) (.cons (dj _ _) .nil))) λ_=>(.cons (gL _) (.cons (gL _) (.cons (gL _) .nil)))⟩⟩
 QL:=⟨⟨.ref gW,_,Kq X G z_WORTHS,rfl,qf y_WORTHS (fL rfl) (.cons (Oi _ _) (.cons (Oi _ _) (.cons (Oi _ _) (.cons (Oi _ _) .nil)))) λ_=>(.cons (OR _) (.cons (OR _) (.cons (OR _) (.cons (OR _) .nil))))⟩⟩
set_option maxHeartbeats 4000000 in
def all_mk{l:g9}{w:BA}{K:AT}{h:Aq}{AA:Str->Option U}{Fe:Z}(X:K.In h)(G:h.Ns DQ AA)(vy:AA "law"=some (.ref Fe))(F:DR K "law" Oj)(T:Da K AA) :
  ∃fd:FH,(∀(s:AD)(v:U),BindsTo s fd ⟨[v],[]⟩ [("_law_script",v)])/\∀base:Aq,K.In base->base.Ns DQ AA->Fu l.prog w K AA base FJ 10 Fe fd ["_law_script"] (Lz K 1 RC):=by
 obtain⟨f,DN,an,BY,F3,Cu,KR,pm,cd,C_,a,lk,c,k⟩:=F.ex;have e:=vy.symm.trans (Kq X G a);cases e;exact⟨_,λs v=>.of_eq rfl,λbase _ _=>agM (QY (st:=Oj) lk c k) oX (u9 _ _ _ T)⟩
def zY(K:AT)(H:A4)(a:Z)(ns:List Int)(J8:Bb K H a (ns.map V.int)):Lz K 1 RC [.ref a] H (λv _=>v=.AO true) (λ_ _ _=>False):=
 zW (K:=K) (mf:=RC) (H:=H) (a:=a) (ns:=ns) J8 (zX ns) (λ_ _ _=>False)
def afe {l:g9} {q:BR} {loose:List Str} {SL:(Str->Option U)->Aq->Prop} {Og:BA->Aq->Prop} {d:DefRec} {K:Params->AT} (AR:l.most=some 63) (VL:d.params.defaults=[])(ar:∀(w:BA)(h:Aq),Og w h->(K w.params).In h)(F:∀(w:BA)(AA:Str->Option U)(Fe:Z)(h:Aq),(K w.params).In h->h.Ns DQ AA->AA d.name=some (.ref Fe)->
    ∃fd:FH,(∀(s:AD)(u:U),BindsTo s fd ⟨[u],[]⟩ [("_law_script",u)])/\∀base:Aq,(K w.params).In base->base.Ns DQ AA->Fu l.prog w (K w.params) AA base FJ 10 Fe fd ["_law_script"] (Lz (K w.params) 1 RC)) :
  PySem.W.WalkO q loose SL Og l.row.toRowW d [] (λf vs=>PySem.call f vs):=
 CE.aff (n:=63) (k:=10) (x:="_law_script") (CX:=λ_=>FJ) (sp:=λw=>Lz (K w.params) 1 RC) AR (by decide) VL ⟨rfl,by decide,by decide⟩ ar F (λw H a ns _ _ J8=>zY (K w.params) H a ns J8) λ_ _ _ _ _ z=>z
end Cs
end
namespace PySem.W.Fast
def tw6170913971075867459:=0
def tw8439803175499000718:=0
def tw4029074679319729056:=0
def tw5627507319202879863:=0
def tw12967671418474909555:=0
def tw5762187463869972611:=0
def tw16311553550142330766:=0
def tw9688622617582619910:=0
def tw16201589969304076910:=0
def tw5272950652315011310:=0
def tw11817661269815495126:=0
def tw6301722919229155561:=0
def tw525155220877910357:=0
def tw1466418662975519729:=0
def tw17117386139650909619:=0
def tw1496006751206812080:=0
def tw6613331785954592020:=0
def tw4610277513694747238:=0
def tw17564403901532653648:=0
def tw2116758628919522199:=0
def tw1163025045994671718:=0
def tw11153963972727042086:=0
def tw8351089165014505706:=0
def tw16211111538373806540:=0
def tw14742248791284370235:=0
def tw1140836355088548369:=0
def tw16634846682207681194:=0
def tw517258390768278857:=0
def tw12008065229551410805:=0
def tw1829104001935877012:=0
def tw17440776934470440031:=0
def tw8806506384029248291:=0
def tw17946625316165398598:=0
def tw381620029236117549:=0
def tw1780220409668284601:=0
def tw12916116717324911634:=0
def tw8857086009889208838:=0
def tw17095663387152729744:=0
def tw16907027785309806228:=0
def tw3592038806175353950:=0
def tw1904125037778693240:=0
def tw15710104337879497852:=0
def tw7534462267767723244:=0
def tw7615647476761396755:=0
def tw3393626131649386065:=0
def tw7232889021097468736:=0
def tw5842084846734040220:=0
def tw10241610176855852175:=0
def tw5948729870947959579:=0
def tw13587975858976319816:=0
def tw3046558470380676453:=0
def tw10697893755718837035:=0
def tw3449478851064015857:=0
def tw7997222187248852569:=0
def tw1104040704849696655:=0
def tw10499287634634926669:=0
def tw9533828278688316988:=0
def tw8942874420344171643:=0
def tw17247914517070035371:=0
def tw2338898700394104578:=0
def tw5594262186280976925:=0
def tw7875170507922051969:=0
def tw7214637201116652085:=0
def tw17333199412055166316:=0
def tw8577167522139922563:=0
def tw1614056233439415035:=0
def tw5695288732793628433:=0
def tw15519099617445614957:=0
def tw1842244473927647507:=0
def tw2412292814705459645:=0
def tw14470646170628078952:=0
def tw3511221504821702784:=0
def tw15695630056636820530:=0
def tw3894810657677538163:=0
def tw4943770027657529370:=0
def tw8091128085985230058:=0
def tw1213907234407940942:=0
def tw14162451804578146854:=0
def tw11759604224676072200:=0
def tw11750666623166943801:=0
def tw17790554786737404997:=0
def tw13859395992237006264:=0
def tw4868372550743365195:=0
def tw15921488738815614044:=0
def tw13296897357541595950:=0
def tw14899155011854888725:=0
def tw399601756984171302:=0
def tw151058383473845181:=0
def tw13880598344046205793:=0
def tw12704216590858237333:=0
def tw15139431491380471407:=0
def tw5845875545835327139:=0
def tw11079639811879123528:=0
def tw6180590984880092680:=0
def tw8516979105001474154:=0
def tw3445795157340398608:=0
def tw616225221983264850:=0
def tw485169941803930827:=0
def tw14814304841811069169:=0
def tw286046315992826901:=0
def tw11673267431538921249:=0
def tw15533084150241882370:=0
def tw15451025484547512521:=0
def tw3248594664380975045:=0
def tw4250291809104603155:=0
def tw15874148862861331056:=0
def tw2458155278199550755:=0
def tw13201368559699398864:=0
def tw12061843808960604559:=0
def tw666394123711301263:=0
def tw2586172642655212142:=0
def tw18229272278402115979:=0
def tw15761894023529696259:=0
def tw16152450464539931842:=0
def tw9086313692203245534:=0
def tw15176844801201924617:=0
def tw2829119182672448254:=0
def tw12889880150708037071:=0
def tw2557191793557382459:=0
def tw14359082917065206124:=0
def tw17667692747334893492:=0
def tw3379992755242332746:=0
def tw16442990323060189199:=0
def tw537091627501147834:=0
def tw5089141201108437090:=0
def tw15218221344831996373:=0
def tw2458243625917243094:=0
def tw17103456957622150656:=0
def tw1365892243298832022:=0
def tw4393690077722061405:=0
def tw18379498416280426930:=0
def tw17057303850426089150:=0
def tw11046201661659863695:=0
def tw18205498707833620762:=0
def tw15106505163571448116:=0
def tw16433111886204803889:=0
def tw12019048862967861918:=0
def tw493556129007756535:=0
def tw14733764310276658191:=0
def tw10395004955509371938:=0
def tw15612135523808539075:=0
def tw8373590836137206961:=0
def tw9899220586872850047:=0
def tw16758300932580211467:=0
def tw4782653438436903747:=0
def tw5440488424387569404:=0
def tw13641954535143272440:=0
def tw13010156579703080744:=0
def tw4853689148787813514:=0
def tw13606527755540429686:=0
def tw5438018229636404154:=0
def tw44369645434757358:=0
def tw3585655367050285543:=0
def tw9149636252239662035:=0
def tw14435573898741200741:=0
def tw3806609446194486320:=0
def tw9258708562251706581:=0
def tw3727224043170967074:=0
def tw14992004256748158306:=0
def tw2136416372107202640:=0
def tw9441261420900028270:=0
def tw13390444604112817919:=0
def tw9646431313696635457:=0
def tw9216842885927767637:=0
def tw6512935794987824474:=0
def tw3882400529906562982:=0
def tw13731696766432932633:=0
def tw9776940453333843049:=0
def tw17170943267094460618:=0
def tw800063797082141821:=0
def tw4913295759002797091:=0
def tw7921623857683828529:=0
def tw9901104415958962132:=0
def tw11189550155646215888:=0
def tw11317034784143471747:=0
def tw7398343504255579773:=0
def tw18108301305574666860:=0
def tw18276852596032415922:=0
def tw1189488953122206065:=0
def tw4455398229473238673:=0
def tw5291729712342520766:=0
def tw12909883690400372259:=0
def tw7666671773113154590:=0
def tw9600747920645284529:=0
def tw17382844747138366073:=0
def tw4481584765878403386:=0
def tw6077959103918943695:=0
end PySem.W.Fast
open PySem PySem.W PyProof.Rows
set_option maxRecDepth 100000 in
set_option maxHeartbeats 0 in
theorem PySem.Challenge.cw_nohalfway_k65_whole_ways_end_holds : PySem.Challenge.rw_nohalfway_k65_whole_ways_end.Holds := by
 w_on;o_law;k_head;(case hw=>w_witness2)
 k_fill
 refine Cs.afe (l:=PySem.Challenge.rw_nohalfway_k65_whole_ways_end) rfl rfl (λw h Y=>PySem.W.kIn_of Y) ?F
 case F=>
  intro w AA Fe h MB G VS
  refine' Cs.all_mk MB G VS ?h47 (Cs.ag6 MB G ?n_Net ?g1_Net ?g2_Net ?g3_Net ?g4_Net ?u_Net_many ?u_Net_counts ?u_Net_joined ?u_Net_far ?mk_Net ?kc_Net ?n_NoBooks ?e1_NoBooks ?n_NoDoor ?e1_NoDoor ?n_NoAddress ?e1_NoAddress ?h0 ?h1 ?h2 ?h3 ?h4 ?h5 ?h6 ?h7 ?h8 ?h9 ?h10 ?h11 ?h12 ?h13 ?h14 ?h15 ?h16 ?h17 ?h18 ?h19 ?h20 ?h21 ?h22 ?h23 ?h24 ?h25 ?h26 ?h27 ?h28 ?h29 ?h30 ?h31 ?h32 ?h33 ?h34 ?h35 ?h36 ?h37 ?h38 ?h39 ?h40 ?h41 ?h42 ?h43 ?h44 ?h45 ?h46 ?h47 ?z_abs ?z_all ?z_bool ?z_enumerate ?z_int ?z_isinstance ?z_len ?z_list ?z_range ?z_set ?z_sorted ?z_str ?z_tuple ?z_zip ?z_GREATEST_ADDRESS ?z_MOST_DOORS ?z_MOST_HOUSES ?z_MOST_ROWS ?z_SIGNS ?y_SIGNS ?z_WORTHS ?y_WORTHS)
  case n_Net|g1_Net|g2_Net|g3_Net|g4_Net|u_Net_many|u_Net_counts|u_Net_joined|u_Net_far|mk_Net|kc_Net|n_NoBooks|n_NoDoor|n_NoAddress|z_abs|z_all|z_bool|z_enumerate|z_int|z_isinstance|z_len|z_list|z_range|z_set|z_sorted|z_str|z_tuple|z_zip|z_GREATEST_ADDRESS|z_MOST_DOORS|z_MOST_HOUSES|z_MOST_ROWS|z_SIGNS|y_SIGNS|z_WORTHS|y_WORTHS=>k_is
  case e1_NoBooks|e1_NoDoor|e1_NoAddress=>k_exc
  case h0|h1|h2|h3|h4|h5|h6|h7|h8|h9|h10|h11|h12|h13|h14|h15|h16|h17|h18|h20|h21|h22|h23|h25|h26|h27|h28|h30|h31|h34|h35|h36|h38|h39|h40|h41|h42|h43|h44|h45|h46|h47=>(refine' Cs.De ?a ?l ?c ?k;case a|l|c|k=>k_is)
  case h19|h24|h29|h32|h33|h37=>(refine' Cs.Sx ?a ?l ?c ?k ?i;case a|l|c|k|i=>k_is)
