import PyProof.Rows.All
import PyProof.DictRoadsH
import Wide.All
import OpenK.AllK
import Wide.FinOn
import Lean
import PyProof.EqAt
import PyProof.EqKinds
import PyProof.TupleCall
import PyProof.NeKinds
import KE.KIsAll
import PyProof.ExcArgsOwn
import PySem.SetOps
import PyProof.TupleKey
import PyProof.SetKind
import PyProof.IsRules
import PyProof.Rows.SetFrom
import PyProof.Rows.SortShellK
import PyProof.DictKinds
import PyProof.FactsAll.tuple_2
import PyProof.SetRoads
import PyProof.AutoListH
import PyProof.SumAny
import PyProof.DictItems
import PyProof.DictItemsLoops
import PyProof.DictWalks
import PyProof.CollectWalk
import PyProof.Rows.SortWalk
import PyProof.Rows.SortKeyStr
import KE.RegKIsAll
import KE.RegKTryMore
import PySem.Challenge.RW_nohalfway_k67_whole_any_weaving_met
set_option bootstrap.genMatcherCode false
set_option compiler.extract_closed false
open PySem renaming wpAny_bind -> AJ, wpAny_pure -> B0, Value -> A4, Shared -> AP, starEach -> BF, Addr -> A7, wpAny -> Ae, sizeLine -> CF, Program -> Bu, mainGlobals -> E4, model -> B2, Expr -> AT, Around -> CG, wpAny_newObj_type -> JE, wpAny_call_entry -> Im, World -> Bh, wpAny_callSpecial?_slot -> Mt, attributeBase -> I0, backTo -> Cy, wpAny_truthy_bool -> LR, keywordEach -> H5, behindInMarks -> Io, mem_of_lookup -> Mv, wpAny_field -> Hi, compareOp -> GO, wpAny_holding -> K5, Heap -> BH, sysModules -> Hl, eval -> BK, FuncData -> GD, cellsFrom -> Hm, wpAny_mono -> Ip, foldedSetIterable -> PO, Keyword -> FY, wpAny_seqItems -> Mz, Stmt -> BW, bootBuiltins -> LU, wpAny_typeNameOfWhole_itemiter -> XK, backToKw -> H6, wpAny_typeNameOfWhole_keyiter -> XN, wpAny_dictEntries -> R2, cLine -> De, strIterType -> LW, wpAny_rule -> Kc, wpAny_isInstance -> R4, wpAny_setField_rec -> So, sizeLine_eq -> Lw, assignEach -> LY, wpAny_passesOwn -> R8, wpAny_typeNameOf_keyiter -> XY, Scope -> ED, binaryOp -> JK, wpAny_Call_Name_kw -> Uq, wpAny_notOrdered_dict -> XR, wpAny_specialOf -> Sp, wpAny_dictEpoch -> Sq, wpAny_attempt -> R7, DictEntry -> Lv, wpAny_setField -> Sr, firstArgMember -> Ss, IsPair -> Gq, NameKind -> Kd, wpAny_isOneOf_itemiter -> gj, entryOfKey -> PY, holding -> K6, sliceBounds -> RE, wpAny_Call_method -> Xs, isSubtype_tuple_tuple -> gk, wpAny_eqBool_str -> Xf, wpAny_forIn_list -> Xg, wpAny_updateSeq_pair -> gb, typeIs_str -> RC, wpAny_execs_nil -> Xn, swapsWith -> PW, letOwnedTupleGo -> Xo, getMethod -> PX, call_meetsIn -> V2, wpAny_tupleItemsOf -> gy, pyNext -> JL, wpAny_typeOf -> V4, Builtin -> Lz, relabel -> M0, wpAny_fieldsOf -> Y0, wpAny_pyIter_list -> hD, wpAny_pyIter_slot -> gs, standAt -> N6, wpAny_onRaise -> Xw, wpAny_eqBool_int -> gv, assign -> Ke, rawInt -> Kf, noFill_tuple_add -> gw, codeAny -> O7, codeAny_mono -> Xu, seqIndex? -> T2, callWith -> RH, typeIs_int -> V7, call_meets -> V8, carriedByValue -> hT, newFunctionEnv -> hW, wpAny_newTuple -> hX, isSubtype_stop -> hY, storedH -> P_, getItem -> Pa, subscripted -> Y8, notedBy -> Pb, IsZip -> Ir, wpAny_letGo -> Y9, KeyKind -> hI, bindArgs -> T4, valueAt -> RF, callerA -> RG, Within -> hL, IsPart -> O9, atKey -> Kh, CmpOp -> Kg
open PySem.W renaming Frag -> AY, findIn -> GQ, nsIn -> Fg, mg_none_of -> K_, keepIn -> K3, fnOf -> JI, emptyDict -> Nz, kia_one -> N4, instObj -> PM, plainGet -> R0, mg_of -> O2, codeIn -> PS, hasDictIn -> Su, plainOver -> Us, makesIn -> Uv, methodCall_KW -> gm, plainGet_of -> gd, isFn -> V3, callWith_K -> hA, lookIn -> Xz, methodObj -> hC, cellsFrom_some -> rd, takerIn -> gp, OpenLaw -> gq, kitx_tuple -> rt, kitx_list -> rx, kitx_dict -> ry
open PySem.Str renaming ofString -> BU, ofString -> FP, empty -> Y3
open PySem.Heap renaming get?_push_of_some -> DE, get?_push_size -> FK, lt_size -> DT, get?_update_self -> PJ, SameBut -> JH, size_push -> LX, get?_update_other -> Xa
open List renaming getElem?_eq_getElem -> E8, size_toArray -> Dx, getElem?_map -> ER, mem_append_right -> GB, mem_cons_of_mem -> Fv, map_cons -> E3, getD_eq_getElem?_getD -> JB, mem_append_left -> HS, length_map -> Fw, replicate -> Fx, mem_of_getElem? -> JF, range -> EY, length_cons -> Hk, getElem?_cons_zero -> LS, length_append -> JG, getElem?_append_left -> Mx, getElem?_cons_succ -> Lu, map_append -> Hz, zip_cons_cons -> K4, getElem?_append_right -> Nw, find?_cons -> IL, forall_mem_cons -> Mu, getElem?_replicate -> PL, map_map -> IK, mem_cons_self -> Ms, append_nil -> LP, not_mem_nil -> N1, getElem_mem -> N2, replicate_succ -> PN, length_nil -> N3, length_replicate -> Sl, getElem?_set_ne -> Sm, flatten_cons -> R3, getElem_of_mem -> Sn, length_pos_of_mem -> Uj, zipIdx_cons -> R1, length_singleton -> Ue, any_cons -> Nx, forIn_cons -> R9, getElem?_range -> Ux, mem_cons -> PV, all_eq_true -> Sw, getElem?_set_self -> X_, map_nil -> PP, any_map -> PQ, append_assoc -> Uu, all_cons -> R6, length_eraseIdx_of_lt -> gX, drop_eq_getElem_cons -> gZ, length_take -> Ul, lookup_cons -> Um, any_eq_true -> Uo, zipIdx_nil -> Uz, map_take -> T0, map_singleton -> Xr, lookup -> RD, eraseIdx_eq_take_drop_succ -> rT, forIn_nil -> V0, length_drop -> Xi, eq_nil_of_length_eq_zero -> rM, take_length -> Xm, filterMap_cons -> gc, of_mem_zip -> Xb, length -> Sx, nil_append -> Xc, findSome?_cons -> g_, lookup_append -> hB, getElem?_zip_eq_some -> rm, mem_of_find?_eq_some -> rn, ext_getElem? -> hG, getElem?_set -> hH, take_add_one -> gr, zip_nil_left -> gu, eraseIdx_cons_succ -> ra, drop_eq_nil_of_le -> rf, take_of_length_le -> rh, all_map -> Xy, getElem?_toArray -> rz, length_filter_le -> s6, range' -> Y4, map_drop -> hJ
open Nat renaming le_refl -> CY, lt_of_lt_of_le -> I1, ne_of_lt -> Fe, le_trans -> Ff, lt_irrefl -> JC, zero_le -> JJ, lt_trans -> LV, ne_of_gt -> My, add_assoc -> PT, le_of_ble_eq_true -> XT, le_add_right -> Un, le_of_lt -> R5, zero_add -> Sz, lt_succ_self -> Xh, lt_succ_of_lt -> hF, le_succ -> V1, le_of_eq -> hM, sub_zero -> hQ
open Bool renaming false_ne_true -> GC, and_eq_true -> Ga, false_eq_true -> Hj, eq_iff_iff -> N5, not_true -> PU, and_true -> Uy, true_and -> Xv, not_false -> hU, and_false -> hV
open Option.some renaming inj -> FA
open PySem.Value renaming ref -> DF, none -> G_, type -> O1, bool -> T3, int -> Y1, str -> Y2
open PySem.PassesOwn renaming never -> GP
open PySem.Heap.SameBut renaming update -> LQ
open Or renaming inr -> Ch, inl -> Dq
open List.Nodup renaming length_le_of_subset -> Qy
open PyProof.Rows renaming arrOf -> Bn, callWith_type1 -> Qz, envOfC -> Mw, wpS_bind -> F0, SortedToK -> H7, wpS_pure -> Gp, listItems_at -> PR, SortSt -> Gr, IsTup -> Xp, slot_tuple_getitem -> rS, SortKind -> Ly, pendingOf -> O3, wpS_forRange -> Sy, seqObj -> Iq, kindOf -> JM, pairsOf_size -> V5, AllBare -> O6, KK_mirror_equal -> hS, mirror_perm -> YA, wpS_reverse -> YB, Call_ -> ru, failedOf -> T5, Keyed -> K7, envOfC -> O8
open PySem.Builtin.SmallTypes renaming nextOf -> PK, ownedTupleIsFree -> XQ, ownedTupleHandOut -> rG
open PySem.Builtin.Tuple renaming tupleHashOf -> Qx, tupleExact -> XW, tupleItemsOf -> rQ
open PySem.NameKind renaming free -> JD
open Int renaming toNat_natCast -> N0, natCast_add -> RB, emod_lt_of_pos -> Xq, emod_nonneg -> Xe, eq_ofNat_of_zero_le -> r_
open PySem.Builtin.Dict_items renaming ownsTuple -> Uk, pairFromOwner -> rR
open Option renaming bind_some -> O0, getD_none -> Xj, getD_some -> Xk, isSome_map -> hE, map_some -> hR, isSome_some -> rr
open Array renaming getElem?_eq_getElem -> Ug, getElem?_toList -> Ud, length_toList -> Uw, forIn_toList -> gz, getElem?_eq_none -> rj
open ForInStep renaming yield -> Ny
open PySem.F renaming slot_dict_itemiterator_next -> XM, plainAttrs_list -> Uh, slot_dict_keyiterator_next -> XO, slot_tuple_iterator_next -> XP, slot_dict_get -> Uf, plainAttrs_dict -> XZ, args_tuple_add_2 -> gV, entry_tuple_add -> gf, args_dict_get_2 -> gg, slot_tuple_add -> gh, entry_dict_get -> gi, args_dict_itemiterator_next_1 -> rU, entry_dict_itemiterator_next -> rK, args_dict_keyiterator_next_1 -> rL, slot_dict_itemiterator_iter -> rN, entry_dict_keyiterator_next -> rO, args_tuple_iterator_next_1 -> rP, entry_tuple_iterator_next -> rI, slot_zip_next -> Xd, slot_list_append -> ro, type_list_append -> rW, slot_list_extend -> rX, type_list_extend -> rY, type_dict_get -> rV
open PySem.Calls renaming callWith_builtin -> Ui, spliced_cons -> Sk, spliced_nil -> Ut, evalArgs_plain -> XU, Name_function_global -> rk
open False renaming elim -> Ka
open PySem.Obj renaming mapSeq -> Kb, data_mapFields -> Ur, isFreed_of_fields -> gn
open PySem.Builtin.Slice renaming slicePlaces -> XV, sliceAdjust -> gY, sliceApplied -> rl
open PySem.Builtin.List renaming listTooLong -> XX, listExtendWith -> rJ, listSameRef -> rZ, listItems -> ri
open PyProof.Rows.KeyOrd renaming kle_refl -> RA, kle_of_klt -> Xt, kle_trans -> Xl, kle_antisymm -> rq
open Function renaming comp_def -> Sv, comp -> hK
open True renaming intro -> Lx
open Ne renaming symm -> I2
open Classical renaming choose_spec -> XS, choose -> gx
open List.cons renaming injEq -> Up
open PySem.Builtin.Range renaming rangeSize -> gW
open PySem.Builtin.Dict renaming showsAll -> ga
open PySem.Builtin.Str renaming strSliceIndices -> rH
open Prod renaming ext -> PZ
open PySem.Shared renaming TypeIs -> Xx
open PySem.SeqAt renaming ne_of_list_tuple -> rg, RcNeAt -> Y6, EqAt -> V9, RcAt -> Y5
open Sum renaming inl -> O4, inr -> O5
open PySem.Data renaming cell -> T1, fields -> Y7
open PySem.Around renaming under_plainId -> s7, under -> hO
open PySem.Txt renaming slice -> V6
open List.Pairwise renaming nil -> rv
open PySem.Code renaming isFrame -> hP
open Array.Perm renaming refl -> rp
set_option Elab.async false
set_option linter.all false
set_option maxRecDepth 100000
noncomputable section
namespace LE
open PySem
section
variable{prog:Bu}{w:Bh}{K:Type}[DecidableEq K]{knd:HeapKind prog w K}{A:CG}{E:A4->AP->Prop}{s:AP}
noncomputable def IM(knd:HeapKind prog w K)(h:BH)(d:A7)(xs:List (K×A7×A4)):Prop:=
 ∃o A6 BY,h.get? d=some o/\o.ExactDict/\o.data=.dict A6 BY/\A6.toList=xs.map (PY knd)/\(∀x∈xs,knd.is h x.1 x.2.1)/\(xs.map (·.1)).Nodup/\BY=A6.size
def IM.of{h:BH}{d:A7}{xs:List (K×A7×A4)}(x:IM knd h d xs):h.DictOfH knd d xs:=by obtain⟨o,A6,BY,h1,h2,h3,h4,h5,h6,_⟩:=x;exact⟨o,A6,BY,h1,h2,h3,h4,h5,h6⟩
def IM.new{d a:A7}{xs:List (K×A7×A4)}{k:K}{v:A4}{h:BH}(x:IM knd h d xs)(AL:knd.is h k a)(OB:∀(j:Nat)(p:A7×A4),xs[j]?≠some (k,p)) :
  IM knd (h.update d (Obj.mapDictKeys λx=>x.push { hash:=knd.hash k,key:=.ref a,val:=v })) d (P_ xs k a v):=by
 obtain⟨o,A6,BY,AM,AO,hd,he,Ri,AS,Ar⟩:=x;rw[storedH_new (atKey_none_of_get OB)];have AN:=LQ h d (Obj.mapDictKeys λx=>x.push { hash:=knd.hash k,key:=.ref a,val:=v });refine⟨_,_,BY+1,PJ _ AM (Obj.isFreed_of_dict (Obj.data_mapDictKeys hd _)),Obj.ExactDict.mapDictKeys AO _,Obj.data_mapDictKeys hd _,by simp[he,PY],λx AH=>?_,?_,by simp[Ar]⟩
 .rcases List.mem_append.mp AH with AH|AH
  .exact knd.keeps (Ri x AH) AM hd AN
  .obtain rfl:x=(k,a,v):=by simpa using AH
   exact knd.keeps AL AM hd AN
 .rw[Hz,List.nodup_append];refine⟨AS,by simp,λx AH y Bf e=>?_⟩;obtain rfl:y=k:=by simpa using Bf
  exact not_mem_keys_of_get OB (e▸AH)
def IM.old{d a:A7}{xs:List (K×A7×A4)}{k:K}{v:A4}{h:BH}{j:Nat}{p:A7×A4}(x:IM knd h d xs)(By:xs[j]?=some (k,p)) :
  IM knd (h.update d (Obj.mapDict λx=>x.modify j λe=>{ hash:=e.hash,key:=e.key,val:=v })) d (P_ xs k a v):=by
 obtain⟨o,A6,BY,AM,AO,hd,he,Ri,AS,Ar⟩:=x;rw[storedH_old (atKey_of_get AS By)];have AN:=LQ h d (Obj.mapDict λx=>x.modify j λe=>{ hash:=e.hash,key:=e.key,val:=v });refine⟨_,_,BY,PJ _ AM (Obj.isFreed_of_dict (Obj.data_mapDict hd _)),Obj.ExactDict.mapDict AO _,Obj.data_mapDict hd _,?_,λx AH=>?_,by rw[keys_map_putAt];exact AS,by simp[Ar]⟩
 .have:=modify_map_putAt (PY knd) (λe=>{ hash:=e.hash,key:=e.key,val:=v }) k v (λx y=>rfl) AS By;rw[<-he]at this;rw[<-this];cases A6;simp
 .obtain⟨y,Bf,rfl⟩:=List.mem_map.mp AH;have:=knd.keeps (Ri y Bf) AM hd AN;unfold putAt
  split<;>exact this
def uZ{d a:A7}{k:K}{xs:List (K×A7×A4)}{v:A4}{Q:Unit->AP->Prop}(BP:knd.room A)(Kr:knd.is s.heap k a)(hm:IM knd s.heap d xs)(Dc:∀h',IM knd h' d (P_ xs k a v)->JH d s.heap h'->Q () { s with heap:=h',toks:=s.toks+knd.draws k })(hsz:xs.length<=CF) :
  Ae (B2 prog w) A (dictSet d (.ref a) v) Q E s:=by
 obtain⟨o,A6,BY,AM,AO,hd,he,Ri,AS,Ar⟩:=id hm;unfold dictSet;refine K5 (AJ (knd.pyHash BP Kr ?_));unfold dictSetHashed;have AQ:=size_of_entries he;refine K5 (AJ (wpAny_dictFind_heap BP Kr AM hd he Ri AS (λOB=>AJ (Kc (wpAny_updateDictKeys AM hd (Dc _ (hm.new Kr OB) (LQ ..)) (by lia) (by simp)))) λj p By=>AJ (Kc (AJ (wpAny_updateDict AM hd (wpAny_point (Dc _ (hm.old By) (LQ ..))) ?_)))))
 all_goals simp
 all_goals lia
theorem ac4{d a:A7}{k:K}{xs:List (K×A7×A4)}{v:A4}{Q:Unit->AP->Prop}(BP:knd.room A.in1)(Kr:knd.is s.heap k a)(hm:IM knd s.heap d xs)(Dc:∀h',IM knd h' d (P_ xs k a v)->JH d s.heap h'->Q () { s with heap:=h',toks:=s.toks+knd.draws k })(hsz:xs.length<=CF) :
  Ae (B2 prog w) A (setItem (.ref d) (.ref a) v) Q E s:=by
 unfold setItem;refine K5 (AJ (wpAny_sequenceKey hm.of.typeIs (by decide) (AJ (Mt hm.of.typeIs F.slot_dict_setitem (Im F.slot_dict_setitem hm.of.typeIs F.entry_dict_setitem ?_ (by first|exact args_dict_setitem _ _ _|exact F.args_dict_setitem_3 _ _ _))))));refine AJ (XR hm.of.typeIs ?_);show Ae _ _ (dictSet d (.ref a) v>>=λ_=>ret G_) _ _ _;refine AJ (uZ BP Kr hm (λh' uq Ks=>B0 ⟨G_,rfl,B0 (Dc h' uq Ks)⟩) hsz)
theorem abY{d a:A7}{k:K}{xs:List (K×A7×A4)}{v:A4}{Q:A4->AP->Prop}(BP:knd.room A.in1)(v7:(d==Hl)=false)(Kr:knd.is s.heap k a)(hm:IM knd s.heap d xs)(h1:∀p,Kh xs k=some p->Q p.2 { s with toks:=s.toks+knd.draws k })(h2:Kh xs k=none->∀h',IM knd h' d (P_ xs k a v)->JH d s.heap h'->Q v { s with heap:=h',toks:=s.toks+knd.draws k })(hsz:xs.length<=CF) :
  Ae (B2 prog w) A (call (.builtin "dict.setdefault") [.ref d,.ref a,v]) Q E s:=by
 refine V2 F.slot_dict_setdefault hm.of.typeIs F.entry_dict_setdefault (F.args_dict_setdefault_3 _ _ _) (S:=λA R s=>knd.room A.in1/\∃xs,knd.is s.heap k a/\IM knd s.heap d xs/\xs.length<=CF/\(∀p,Kh xs k=some p->R (.ok (.ret p.2)) { s with toks:=s.toks+knd.draws k })/\(Kh xs k=none->∀h',IM knd h' d (P_ xs k a v)->JH d s.heap h'->R (.ok (.ret v)) { s with heap:=h',toks:=s.toks+knd.draws k })) (MeetsIn.of_wp λA R s⟨BP,xs,Kr,hm,hsz,h1,h2⟩=>?_) ⟨BP,xs,Kr,hm,hsz,h1,h2⟩;obtain⟨o,A6,BY,AM,AO,hd,he,Ri,AS,Ar⟩:=id hm;unfold Lz.«dict.setdefault» Builtin.Dict.keyAndDefault;refine AJ (AJ (XR hm.of.typeIs ?_));show Ae _ _ (pure _) _ _ _;refine B0 ?_;show Ae _ _ (if(d==Hl)=true then _ else _) _ _ _;rw[if_neg (by rw[v7];exact GC)];refine AJ ?_;unfold dictSetDefault;refine K5 (AJ (knd.pyHash BP Kr ?_));have AQ:=size_of_entries he;refine AJ (wpAny_dictFind_heap BP Kr AM hd he Ri AS (λOB=>AJ (Kc (AJ (wpAny_updateDictKeys AM hd (B0 (B0 ⟨_,rfl,h2 (atKey_none_of_get OB) _ (hm.new Kr OB) (LQ ..)⟩)) (by lia) (by simp))))) λj p By=>?_);refine AJ (R2 AM hd ?_);have e:A6[j]?=some (PY knd (k,p)):=by rw[<-Ud,he,ER,By];rfl
 simp only[e];exact AJ (Kc (B0 (B0 ⟨_,rfl,h1 p (atKey_of_get AS By)⟩)))
end
end LE
namespace C2
open PySem PySem.Spec PyProof.Rows
abbrev Key:=Sum Int Str
def OG:Key->A4->Bool
 |.inl k,v=>Value.isInt k v
 |.inr x,v=>Value.isStrOf x v
def yK(w:Bh):Key->Int
 |.inl k=>hashInt k
 |.inr x=>hashStr w x
def Kx:∀{k:Key}{v:A4},OG k v=true->(∃i t,k=O4 i/\v=Y1 i t)\/(∃x t,k=O5 x/\v=Y2 x t)
 |.inl i,v,h=>by obtain⟨t,e⟩:=Value.isInt_shape (k:=i) (v:=v) h;exact .inl ⟨i,t,rfl,e⟩
 |.inr x,v,h=>by obtain⟨t,e⟩:=Value.isStrOf_shape (x:=x) (v:=v) h;exact .inr ⟨x,t,rfl,e⟩
def yL(i:Int)(t:Tok):OG (.inl i) (.int i t)=true:=by simp[OG,Value.isInt]
def cQ(x:Str)(t:Tok):OG (.inr x) (.str x t)=true:=by simp[OG,Value.isStrOf]
def yQ(a b:Int):decide ((O4 a:Key)=O4 b)=(a==b):=by
 by_cases e:a=b
 .subst e;simp
 .have h:¬(O4 a:Key)=O4 b:=λq=>e (Sum.inl.inj q);rw[decide_eq_false h];exact(beq_eq_false_iff_ne.mpr e).symm
def yT(a b:Str):decide ((O5 a:Key)=O5 b)=decide (a=b):=by
 by_cases e:a=b
 .subst e;simp
 .have h:¬(O5 a:Key)=O5 b:=λq=>e (Sum.inr.inj q);rw[decide_eq_false h,decide_eq_false e]
def yR(a:Int)(b:Str):decide ((O4 a:Key)=O5 b)=false:=decide_eq_false (λq=>nomatch q)
def yS(a:Str)(b:Int):decide ((O5 a:Key)=O4 b)=false:=decide_eq_false (λq=>nomatch q)
noncomputable def HM(prog:Bu)(w:Bh):hI prog w Key where
 is:=OG
 hash:=yK w
 inj:=λv a b AB A0=>by
  rcases Kx AB with⟨i,t,rfl,rfl⟩|⟨x,t,rfl,rfl⟩
  .rcases Kx A0 with⟨j,u,rfl,e⟩|⟨y,u,rfl,e⟩
   .injection e with A9 _;rw[A9]
   .exact nomatch e
  .rcases Kx A0 with⟨j,u,rfl,e⟩|⟨y,u,rfl,e⟩
   .exact nomatch e
   .injection e with A9 _;rw[A9]
 byValue:=λk v h=>by rcases Kx h with⟨i,t,rfl,rfl⟩|⟨x,t,rfl,rfl⟩<;>rfl
 pyHash:=λBR h=>by
  rcases Kx BR with⟨i,t,rfl,rfl⟩|⟨x,t,rfl,rfl⟩
  .exact wpAny_pyHash_int h
  .exact wpAny_pyHash_str h
 eqBool:=λBP BR h=>by
  rcases Kx BP with⟨i,t,rfl,rfl⟩|⟨x,t,rfl,rfl⟩
  .rcases Kx BR with⟨j,u,rfl,rfl⟩|⟨y,u,rfl,rfl⟩
   .rw[yQ]at h;exact gv h
   .rw[yR]at h;exact SeqAt.EqAt.int_str i t y u _ _ _ _ h
  .rcases Kx BR with⟨j,u,rfl,rfl⟩|⟨y,u,rfl,rfl⟩
   .rw[yS]at h;exact SeqAt.EqAt.str_int x t j u _ _ _ _ h
   .rw[yT]at h;exact Xf h
 «strs»:=λk x t v h=>by
  rcases Kx h with⟨i,u,rfl,e⟩|⟨y,u,rfl,e⟩
  .exact nomatch e
  .injection e with A9 _;subst A9;cases v<;>rfl
def zZ(prog:Bu)(w:Bh)(i:Int)(t:Tok):(HM prog w).is (.inl i) (.int i t)=true:=yL i t
def z_(prog:Bu)(w:Bh)(x:Str)(t:Tok):(HM prog w).is (.inr x) (.str x t)=true:=cQ x t
section
open SeqAt
section
variable(prog:Bu)(w:Bh)
abbrev Jm:=Sum Key (List Key)
abbrev Bd:=List Jm
def Rv(h:BH):Jm->A4->Prop
 |.inl k,v=>OG k v=true
 |.inr ks,v=>∃b,v=.ref b/\IsTupleKey (HM prog w) h ks b
inductive GR(h:BH):Bd->List A4->Prop
 |nil:GR h [] []
 |cons {k:Jm} {v:A4} {ks:Bd} {vs:List A4}:Rv prog w h k v->GR h ks vs->GR h (k::ks) (v::vs)
def J5(h:BH)(ks:Bd)(a:A7):Prop:=∃o items n,h.get? a=some o/\o.cls=.type "tuple"/\o.data=.seq items n/\GR prog w h ks items.toList
variable{prog w}
theorem Rv.inj{h:BH}{x y:Jm}{v:A4}(AH:Rv prog w h x v)(Bf:Rv prog w h y v):x=y:=by
 cases x with
 |inl a=>
  cases y with
  |inl b=>rw[(HM prog w).inj _ _ _ AH Bf]
  |inr b=>obtain⟨c,rfl,_⟩:=Bf;have:=(HM prog w).byValue _ _ AH;simp[hT]at this
 |inr a=>
  obtain⟨c,rfl,AH⟩:=AH;cases y with
  |inl b=>have:=(HM prog w).byValue _ _ Bf;simp[hT]at this
  |inr b=>obtain⟨d,e,Bf⟩:=Bf;cases e;rw[AH.inj Bf]
theorem GR.inj{h:BH}{x y:Bd}{vs:List A4}(AH:GR prog w h x vs)(Bf:GR prog w h y vs):x=y:=by
 induction AH generalizing y with
 |nil=>cases Bf;rfl
 |cons h1 _ C6=>
  cases Bf with
  |cons h2 D_=>rw[h1.inj h2,C6 D_]
theorem GR.keeps{h h':BH}{d:A7}{o:Obj}{A6 BY}(AM:h.get? d=some o)(hd:o.data=.dict A6 BY)(AN:JH d h h'):∀{x:Bd}{vs:List A4},GR prog w h x vs->GR prog w h' x vs
 |_,_,.nil=>.nil
 |_,_,.cons (k:=.inl _) h1 t=>.cons (k:=.inl _) h1 (GR.keeps AM hd AN t)
 |_,_,.cons (k:=.inr _) ⟨b,e,x⟩ t=>.cons (k:=.inr _) ⟨b,e,x.keeps AM hd AN⟩ (GR.keeps AM hd AN t)
def J5.typeIs{s:AP}{ks:Bd}{a:A7}(x:J5 prog w s.heap ks a):s.TypeIs (.ref a) "tuple":=let⟨o,_,_,AM,AO,_⟩:=x;⟨o,AM,AO⟩
theorem J5.inj{h:BH}{a:A7}{x y:Bd}(AH:J5 prog w h x a)(Bf:J5 prog w h y a):x=y:=by obtain⟨o,i,n,h1,_,h2,h3⟩:=AH;obtain⟨Ce,afr,QN,Iz,_,Oe,Qb⟩:=Bf;rw[h1]at Iz;cases Iz;rw[h2]at Oe;cases Oe;exact h3.inj Qb
theorem J5.keeps{h h':BH}{ks:Bd}{a d:A7}{o:Obj}{A6 BY}(x:J5 prog w h ks a)(AM:h.get? d=some o)(hd:o.data=.dict A6 BY)(AN:JH d h h'):J5 prog w h' ks a:=by
 obtain⟨Ce,items,n,Ed,AO,Gu,AC⟩:=x;have OA:a≠d:=by rintro rfl;obtain rfl:Ce=o:=FA (Ed.symm.trans AM);rw[hd]at Gu;exact nomatch Gu
 exact⟨Ce,items,n,(AN.2 a OA).trans Ed,AO,Gu,AC.keeps AM hd AN⟩
def Mg(prog:Bu)(w:Bh):Jm->Int
 |.inl k=>(HM prog w).hash k
 |.inr ks=>tupleKeyHash (HM prog w) ks
def SU:Jm->Nat
 |.inl _=>1
 |.inr ks=>ks.length+1
variable{A:CG}{E:A4->AP->Prop}{s:AP}
theorem z1{ks:Bd}{a:A7}{Q:Int->AP->Prop}(BP:A.units+8<De)(AL:J5 prog w s.heap ks a)(h:Q (reduceHash (Qx (ks.map (Mg prog w)))) { s with toks:=s.toks+((ks.map SU).sum+1) }) :
  Ae (B2 prog w) A (pyHash (.ref a)) Q E s:=by
 have CW:=AL.typeIs;obtain⟨o,items,n,AM,_,hd,AC⟩:=AL;unfold pyHash
 first|unfold pyHashByItsType|skip
 first|refine AJ (wpAny_cRoomFor_or (.inr (by lia)) ?_)|skip
 refine AJ (Sp CW F.slot_tuple_hash.lookup ?_);show Ae _ _ (if(some (Value.builtin "tuple.__hash__")==some G_)=true then _ else _) Q E s;rw[if_neg (by rw[beq_builtin_none];exact GC)];refine AJ (Sp CW F.slot_tuple_hash.lookup ?_);show Ae _ _ (callSpecialIfBoundUnlessNone? (.ref a) "__hash__" _>>=_) Q E s;refine AJ (wpAny_callSpecialIfBoundUnlessNone?_slot CW F.slot_tuple_hash (Im F.slot_tuple_hash CW F.entry_tuple_hash ?_ (F.args_tuple_hash_1 _)));show Ae _ _ (rQ (.ref a)>>=_) _ _ s;refine AJ (gy AM hd ?_);refine AJ ?_;rw[<-gz]
 refine Xg _
  (λrest(b:Array Int) s'=>∃done left,ks=done++left/\GR prog w s.heap left rest/\b.toList=done.map (Mg prog w)/\s'={ s with toks:=s.toks+(done.map SU).sum })
  _ ?_ ?_ _ _ ⟨[],ks,rfl,AC,rfl,rfl⟩
 .rintro x rest b s' ⟨done,left,rfl,AQ,A0,rfl⟩;cases AQ with
  | @cons k _ ks' _ h1 Qd=>
    cases k with
    |inl k=>
     refine AJ ((HM prog w).pyHash h1 ?_)
     first
      |exact B0 ⟨done++[.inl k],ks',by simp,Qd,by simp[A0,Mg],by simp[PT,SU]⟩
      |exact AJ (B0 (B0 ⟨done++[.inl k],ks',by simp,Qd,by simp[A0,Mg],by simp[PT,SU]⟩))
    |inr kk=>
     obtain⟨LN,rfl,h1⟩:=h1;refine AJ (wpAny_pyHash_tuple (knd:=HM prog w) (ks:=kk) (show A.units+1<De by lia) h1 ?_)
     first
      |exact B0 ⟨done++[.inr kk],ks',by simp,Qd,by simp[A0,Mg],by simp[PT,SU]⟩
      |exact AJ (B0 (B0 ⟨done++[.inr kk],ks',by simp,Qd,by simp[A0,Mg],by simp[PT,SU]⟩))
 .rintro b s' ⟨done,left,rfl,AQ,A0,rfl⟩;cases AQ;rw[LP]at h;show Ae _ _ (retInt (Qx b.toList)) _ _ _;rw[A0];refine wpAny_ret_mkInt ?_;show Ae _ _ (if(decide (-(2:Int)^63<=Qx (done.map (Mg prog w)))&&decide (Qx (done.map (Mg prog w))<2^63))=true then _ else _) Q E _;unfold reduceHash at h;by_cases AI:(decide (-(2:Int)^63<=Qx (done.map (Mg prog w)))&&decide (Qx (done.map (Mg prog w))<2^63))=true
  .rw[if_pos AI];rw[if_pos AI]at h;exact B0 (by simpa[PT]using h)
  .rw[if_neg AI];rw[if_neg AI]at h;exact AJ (Kc (B0 (by simpa[PT]using h)))
def z9{x y:Jm}{u v:A4}{Q:Bool->AP->Prop}(BP:A.units+1<De)(AH:Rv prog w s.heap x u)(Bf:Rv prog w s.heap y v)(h:Q (decide (x=y)) s):Ae (B2 prog w) A (eqBool u v) Q E s:=by
 cases x with
 |inl a=>
  cases y with
  |inl b=>exact(HM prog w).eqBool (a:=a) (b:=b) AH Bf (by simpa using h)
  |inr b=>
   obtain⟨c,rfl,o,its,n,h1,h2,h3,_⟩:=Bf;have hd:decide ((O4 a:Jm)=O5 b)=false:=by simp
   rw[hd]at h;rcases Kx AH with⟨i,t,_,rfl⟩|⟨i,t,_,rfl⟩
   .exact EqAt.int_tuple i t ⟨o,h1,h2,n,h3⟩ (by lia) prog w E Q h
   .exact EqAt.str_tuple i t ⟨o,h1,h2,n,h3⟩ (by lia) prog w E Q h
 |inr a=>
  cases y with
  |inl b=>
   obtain⟨c,rfl,o,its,n,h1,h2,h3,_⟩:=AH;have hd:decide ((O5 a:Jm)=O4 b)=false:=by simp
   rw[hd]at h;rcases Kx Bf with⟨i,t,_,rfl⟩|⟨i,t,_,rfl⟩
   .exact EqAt.tuple_int i t ⟨o,h1,h2,n,h3⟩ (by lia) prog w E Q h
   .exact EqAt.tuple_str i t ⟨o,h1,h2,n,h3⟩ (by lia) prog w E Q h
  |inr b=>obtain⟨c,rfl,AH⟩:=AH;obtain⟨d,rfl,Bf⟩:=Bf;exact wpAny_eqBool_tuple (by lia) AH Bf (by simpa using h)
def z0{x y:Bd}{a b:A7}{P:Fin->AP->Prop}(BP:A.units+1<De)(AH:J5 prog w s.heap x a)(Bf:J5 prog w s.heap y b)(h:P (.done (.ret (.bool (decide (x=y))))) s) :
  Ae (B2 prog w) A (Lz.«tuple.__eq__» ⟨[.ref a,.ref b],[]⟩) P E s:=by
 have vk:=Bf.typeIs;obtain⟨oM,xs,na,wT,_,vA,vK⟩:=AH;obtain⟨ob,ys,nb,wU,_,HJ,vL⟩:=Bf;show Ae _ _ (isInstance (.ref b) (.type "tuple")>>=_) _ _ s;refine AJ (R4 vk gk ?_);simp only[PU,Hj,if_false];refine AJ (gy wT vA ?_);refine AJ (gy wU HJ ?_);refine AJ ?_
 refine Xg _
  (λrest r s'=>r.1=none/\s'=s/\∃UZ SK Gy He,rest=List.zip Gy He/\GR prog w s.heap UZ Gy/\GR prog w s.heap SK He/\decide (UZ=SK)=decide (x=y)/\(Gy.length==He.length)=(xs.size==ys.size))
  _ ?_ ?_ _ _ ⟨rfl,rfl,x,y,xs.toList,ys.toList,rfl,vK,vL,rfl,by simp⟩
 .rintro⟨u,v⟩ rest r s' ⟨AI,rfl,UZ,SK,Gy,He,Ar,cq,Zx,Zn,hlen⟩;cases cq with
  |nil=>simp at Ar
  | @cons CP FV pv aeb h1 wd=>
    cases Zx with
    |nil=>simp at Ar
    | @cons Br Nq rB aet h2 we=>
      simp only[K4,Up,Prod.mk.injEq]at Ar;obtain⟨⟨rfl,rfl⟩,rfl⟩:=Ar;refine AJ (z9 BP h1 h2 ?_);by_cases AL:CP=Br
      .subst AL;rw[decide_eq_true rfl];simp only[PU,Hj,if_false];refine B0 ⟨rfl,rfl,pv,rB,aeb,aet,rfl,wd,we,?_,by simpa using hlen⟩;rw[<-Zn];by_cases mI:pv=rB
       .simp[mI]
       .simp[mI]
      .rw[decide_eq_false AL];simp only[hU,if_true];have hf:decide (x=y)=false:=by rw[<-Zn];simp[AL]
       rw[hf]at h;exact AJ (B0 (B0 (B0 h)))
 .rintro⟨AK,B4⟩ s' ⟨AI,rfl,UZ,SK,Gy,He,Ar,cq,Zx,Zn,hlen⟩;simp only at AI;subst AI;refine B0 ?_;have vF:(xs.size==ys.size)=decide (x=y):=by
   rw[<-Zn,<-hlen];cases cq with
   |nil=>
    cases Zx with
    |nil=>simp
    |cons _ _=>simp
   |cons _ _=>
    cases Zx with
    |nil=>simp
    |cons _ _=>simp at Ar
  show P (.done (.ret (.bool (xs.size==ys.size)))) s';rw[vF];exact h
theorem yz{x y:Bd}{a b:A7}{Q:Bool->AP->Prop}(BP:A.units+8<De)(AH:J5 prog w s.heap x a)(Bf:J5 prog w s.heap y b)(h:Q (decide (x=y)) s) :
  Ae (B2 prog w) A (eqBool (.ref a) (.ref b)) Q E s:=by
 unfold eqBool
 try with_reducible refine K5 ?_
 show Ae _ _ (if(DF a==DF b)=true then _ else _) Q E s;by_cases WP:(DF a==DF b)=true
 .rw[if_pos WP];have e:a=b:=by have:=eq_of_beq WP;injection this
  subst e;obtain rfl:=AH.inj Bf;exact AJ (Kc (B0 (by simpa using h)))
 .rw[if_neg WP]
  exact AJ (wpAny_richCompare_same_room (op:=.Eq) AH.typeIs Bf.typeIs F.slot_tuple_eq
   (Im F.slot_tuple_eq AH.typeIs F.entry_tuple_eq (z0 (show A.units+1+1<De by lia) AH Bf ⟨_,rfl,(λe=>nomatch e),LR h⟩) (F.args_tuple_eq_2 _ _)) (by lia))
theorem zA{x:Jm}{v:A4}{Q:Bool->AP->Prop}{n:Nat}(AH:Rv prog w s.heap x v)(h:Q true s):Ae (B2 prog w) A (eqIsQuiet 7 v) Q E s:=by
 cases x with
 |inl a=>rw[eqIsQuiet_byValue _ ((HM prog w).byValue _ _ AH)];exact B0 h
 |inr a=>
  obtain⟨c,rfl,AL⟩:=AH;have CW:=AL.typeIs;obtain⟨o,items,n,AM,_,hd,AC⟩:=AL;unfold eqIsQuiet;refine AJ (Sp CW F.slot_tuple_eq.lookup ?_);show Ae _ _ (isInstance (.ref c) (.type "tuple")>>=_) _ _ s;refine AJ (R4 CW gk ?_);simp only[PU,Hj,if_false];refine AJ (Mz AM hd ?_);refine AJ ?_;show Ae _ _ (forIn items _ _) _ _ s;rw[<-gz];refine Xg _ (λrest r s'=>r.1=none/\s'=s/\∀v∈rest,hT v=true) _ ?_ ?_ _ _ ⟨rfl,rfl,AC.byValue⟩
  .rintro v rest r s' ⟨AI,rfl,U4⟩;rw[eqIsQuiet_byValue _ (U4 v Ms)];refine AJ (B0 ?_);simp only[PU,Hj,if_false];exact B0 ⟨rfl,rfl,λu Vo=>U4 u (Fv _ Vo)⟩
  .rintro⟨AK,B4⟩ s' ⟨AI,rfl,_⟩;simp only at AI;subst AI;exact B0 h
theorem z2{ks:Bd}{a:A7}{Q:Bool->AP->Prop}(AL:J5 prog w s.heap ks a)(h:Q true s):Ae (B2 prog w) A (eqIsQuiet 8 (.ref a)) Q E s:=by
 have CW:=AL.typeIs;obtain⟨o,items,n,AM,_,hd,AC⟩:=AL;unfold eqIsQuiet;refine AJ (Sp CW F.slot_tuple_eq.lookup ?_);show Ae _ _ (isInstance (.ref a) (.type "tuple")>>=_) _ _ s;refine AJ (R4 CW gk ?_);simp only[PU,Hj,if_false];refine AJ (Mz AM hd ?_);refine AJ ?_;show Ae _ _ (forIn items _ _) _ _ s;rw[<-gz];refine Xg _ (λrest r s'=>r.1=none/\s'=s/\∃ks',GR prog w s.heap ks' rest) _ ?_ ?_ _ _ ⟨rfl,rfl,ks,AC⟩
 .rintro v rest r s' ⟨AI,rfl,ks',AQ⟩;cases AQ with
  |cons h1 Qd=>refine AJ (zA (n:=0) h1 ?_);simp only[PU,Hj,if_false];exact B0 ⟨rfl,rfl,_,Qd⟩
 .rintro⟨AK,B4⟩ s' ⟨AI,rfl,_⟩;simp only at AI;subst AI;exact B0 h
end
noncomputable def L5(prog:Bu)(w:Bh):HeapKind prog w Bd where
 is:=J5 prog w
 hash:=λks=>reduceHash (Qx (ks.map (Mg prog w)))
 draws:=λks=>(ks.map SU).sum+1
 room:=λA=>A.units+8<De
 inj:=λAH Bf=>AH.inj Bf
 keeps:=λx AM hd AN=>x.keeps AM hd AN
 pyHash:=λBP AL h=>z1 BP AL h
 eqBool:=λBP AH Bf h=>yz BP AH Bf h
 quiet:=λAL h=>z2 AL h
def nest_room{prog:Bu}{w:Bh}{A:CG}(BP:A.units+16<De):(L5 prog w).room A.in1:=show A.units+1+8<De by lia
end
inductive V where
 |non|Aa (b:Bool)|int (i:Int)|str (x:Str)|NR (b:Array UInt8)|YN (b:UInt64)|ref (a:A7)|ty (n:String)
 deriving DecidableEq
noncomputable def RelV:V->A4->Prop
 |.non,u=>u=G_
 |.Aa b,u=>u=T3 b
 |.int i,u=>∃t,u=Y1 i t
 |.str x,u=>∃t,u=Y2 x t
 |.NR b,u=>∃t,u=Value.bytes b t
 |.YN b,u=>∃t,u=Value.float b t
 |.ref a,u=>u=DF a
 |.ty n,u=>u=O1 n
abbrev Vals:List V->List A4->Prop:=Paired RelV
theorem Vals.length{xs:List V}{us:List A4}(r:Vals xs us):xs.length=us.length:=Paired.length r
theorem Vals.get:∀{xs:List V}{us:List A4}{i:Nat}{x:V},Vals xs us->xs[i]?=some x->∃u,us[i]?=some u/\RelV x u
 |_,_,_,_,.nil,e=>by simp at e
 |_,_,0,_,.cons r _,e=>by simp at e;subst e;exact⟨_,rfl,r⟩
 |_,_,i+1,x,.cons _ t,e=>by obtain⟨u,h1,h2⟩:=Vals.get (i:=i) (x:=x) t (by simpa using e);exact⟨u,by simpa using h1,h2⟩
theorem Vals.set{x:V}{u:A4}(r:RelV x u):∀{xs:List V}{us:List A4}(i:Nat),Vals xs us->Vals (xs.set i x) (us.set i u)
 |_,_,_,.nil=>.nil
 |_,_,0,.cons _ t=>.cons r t
 |_,_,i+1,.cons q t=>.cons q (Vals.set r i t)
theorem Vals.append:∀{xs ys:List V}{us ws:List A4},Vals xs us->Vals ys ws->Vals (xs++ys) (us++ws)
 |_,_,_,_,.nil,s=>s
 |_,_,_,_,.cons r t,s=>.cons r (Vals.append t s)
theorem Vals.take:∀{xs:List V}{us:List A4}(n:Nat),Vals xs us->Vals (xs.take n) (us.take n)
 |_,_,0,_=>.nil
 |_,_,_+1,.nil=>.nil
 |_,_,n+1,.cons r t=>.cons r (Vals.take n t)
theorem Vals.drop:∀{xs:List V}{us:List A4}(n:Nat),Vals xs us->Vals (xs.drop n) (us.drop n)
 |_,_,0,r=>r
 |_,_,_+1,.nil=>.nil
 |_,_,n+1,.cons _ t=>Vals.drop n t
def I6:Option V->Option A4->Prop
 |some v,some u=>RelV v u
 |none,none=>True
 |_,_=>False
def H8{κ:Type}:List (κ×V)->List (κ×A4)->Prop:=Paired λ(p:κ×V)(q:κ×A4)=>p.1=q.1/\RelV p.2 q.2
def D9:Key->V
 |.inl i=>.int i
 |.inr x=>.str x
inductive E5 where
 |lst (xs:List V)
 |tup (xs:List V)
 |Do (Ab:List (Key×V))|B7 (Ab:List (Bd×V))
 |set (S:Int->Bool) (n:Nat)
 |ins (C Aj:A7) (As:List (Str×V))
 |own (x:A7)
 |fu (As:List (Str×V))
 |met (f x:A7)
 |d_ (lo AC:Int)
 |Lg (o:Obj) (u:E5)
 |SA (Ap:Array A4)
 |ext (UI:BH->Prop)
abbrev AA:=A7->Option E5
def upd(H:AA)(a:A7)(o:E5):AA:=λb=>if b=a then some o else H b
def E1{H:AA}{a:A7}{o:E5}:upd H a o a=some o:=by unfold upd;rw[if_pos rfl]
def Da{H:AA}{a b:A7}{o:E5}(h:b≠a):upd H a o b=H b:=by unfold upd;rw[if_neg h]
def mX{H:AA}{a b:A7}{o u:E5}(h:H a=some o)(h':H b=some u)(d:o≠u):a≠b:=by intro e;subst e;rw[h]at h';exact d (FA h')
def KI{H:AA}{a b:A7}{o:E5}(h:H a=some o)(h':H b=none):a≠b:=by intro e;subst e;rw[h]at h';cases h'
def NM(H:AA):Jm->V->Prop
 |.inl k,v=>v=D9 k
 |.inr ks,v=>∃b,v=.ref b/\H b=some (.tup (ks.map D9))
def Jt(H:AA)(k:Bd)(a:A7):Prop:=∃vs,H a=some (.tup vs)/\Paired (NM H) k vs
def NM.mono{H H':AA}(Av:∀b xs,H b=some (.tup xs)->H' b=some (.tup xs)):∀{k:Jm}{v:V},NM H k v->NM H' k v
 |.inl _,_,h=>h
 |.inr _,_,⟨b,e,h⟩=>⟨b,e,Av _ _ h⟩
theorem jJ.mono{H H':AA}(Av:∀b xs,H b=some (.tup xs)->H' b=some (.tup xs)):∀{k:Bd}{vs:List V},Paired (NM H) k vs->Paired (NM H') k vs
 |_,_,.nil=>.nil
 |_,_,.cons r t=>.cons (r.mono Av) (jJ.mono Av t)
theorem Jt.mono{H H':AA}{k:Bd}{a:A7}(h:Jt H k a)(Av:∀b xs,H b=some (.tup xs)->H' b=some (.tup xs)):Jt H' k a:=
 let⟨vs,e,r⟩:=h;⟨vs,Av _ _ e,jJ.mono Av r⟩
def sS(K:AY)(k:Bd)(b:A7):Prop:=∃(x:Str)(o:Obj)(n:Nat)(t:Tok),k=[.inl (.inr x)]/\K.lookup b=some o/\o.cls=.type "tuple"/\o.data=.seq #[.str x t] n
def Iu(K:AY)(H:AA)(k:Bd)(b:A7):Prop:=Jt H k b\/sS K k b
theorem Iu.mono{K:AY}{H H':AA}{k:Bd}{a:A7}(h:Iu K H k a)(Av:∀b xs,H b=some (.tup xs)->H' b=some (.tup xs)):Iu K H' k a:=h.elim (λh=>.inl (h.mono Av)) .inr
section
variable(P:Bu)(w:Bh)(K:AY)
noncomputable def Fl(H:AA)(h:BH)(a:A7):E5->Prop
 |.lst xs=>xs.length<=CF/\∃(its:List A4)(n:Nat),Vals xs its/\h.get? a=some { cls:=.type "list",data:=.seq its.toArray n }
 |.tup xs=>xs.length<=CF/\∃its:List A4,Vals xs its/\IsTup h a its.toArray
 |.Do Ab=>Ab.length<=CF/\(a==Hl)=false/\∃vs,H8 Ab vs/\h.DictOf (HM P w) a vs
 |.B7 Ab=>Ab.length<=CF/\(a==Hl)=false/\∃xs:List (Bd×A7×A4),
     Paired (λ(p:Bd×V)(q:Bd×A7×A4)=>p.1=q.1/\Iu K H p.1 q.2.1/\RelV p.2 q.2.2) Ab xs/\
     ∃o A6 BY,h.get? a=some o/\o.ExactDict/\o.data=.dict A6 BY/\A6.toList=xs.map (PY (L5 P w))/\(xs.map (·.1)).Nodup/\BY=A6.size
 |.set S n=>h.SetOf (intKind P w) a S n
 |.ins C Aj As=>H Aj=some (.own a)/\As.length<=1000/\Aj≠a/\h.get? a=some (PM C Aj)/\
     ∃EH,h.Ns1 Aj EH/\(∀f,I6 (As.lookup f) (EH f))/\hL EH (As.map (·.1))
 |.own _=>∃o,h.get? a=some o
 |.fu As=>∃EH,h.Ns1 a EH/\∀f,I6 (As.lookup f) (EH f)
 |.d_ lo AC=>∃t u v,h.get? a=some { cls:=.type "range",data:=.fields #[.int lo t,.int AC u,.int 1 v] }
 |.Lg o u=>h.get? a=some o/\Fl H h a u
 |.SA Ap=>h.get? a=some { cls:=.none,data:=.fields Ap }
 |.met f x=>h.get? a=some (hC (.ref f) (.ref x))
 |.ext UI=>UI h/\(∃o,h.get? a=some o)/\∀h1 h2:BH,UI h1->(∀o,h1.get? a=some o->h2.get? a=some o)->UI h2
def Eo(H:AA)(h:BH):Prop:=∀a o,H a=some o->Fl P w K H h a o
end
section
variable{P:Bu}{w:Bh}{K:AY}{H H':AA}{h h':BH}{a:A7}{o:E5}
theorem Fl.lt(x:Fl P w K H h a o):a<h.objs.size:=by
 cases o with
 |lst xs=>obtain⟨_,_,_,_,e⟩:=x;exact DT e
 |tup xs=>obtain⟨_,_,_,p⟩:=x;exact p.lt
 |Do Ab=>obtain⟨_,_,_,_,o,_,_,e,_⟩:=x;exact DT e
 |B7 Ab=>obtain⟨_,_,_,_,o,_,_,e,_⟩:=x;exact DT e
 |set S n=>obtain⟨o,_,_,_,e,_⟩:=x;exact DT e
 |ins C Aj As=>obtain⟨_,_,_,e,_⟩:=x;exact DT e
 |own y=>obtain⟨_,e⟩:=x;exact DT e
 |fu As=>obtain⟨_,⟨_,_,_,e,_⟩,_⟩:=x;exact DT e
 |d_ lo AC=>obtain⟨_,_,_,e⟩:=x;exact DT e
 |Lg ob u=>obtain⟨e,_⟩:=x;exact DT e
 |SA Ap=>exact DT (show h.get? a=some _ from x)
 |met f y=>exact DT (show h.get? a=some _ from x)
 |ext UI=>obtain⟨_,⟨_,e⟩,_⟩:=x;exact DT e
theorem Paired.eI{α β:Type}{F G:α->β->Prop}:∀{my:List α}{l₂:List β},Paired F my l₂->(∀a b,F a b->G a b)->Paired G my l₂
 |_,_,.nil,_=>.nil
 |_,_,.cons r t,f=>.cons (f _ _ r) (Paired.eI t f)
def Fl.Q6(x:Fl P w K H h a o)(k:∀b u,(b=a\/H b=some (.own a))->h.get? b=some u->h'.get? b=some u)(AM:∀b,H b=some (.own a)->H' b=some (.own a))(Av:∀b xs,H b=some (.tup xs)->H' b=some (.tup xs)):Fl P w K H' h' a o:=by
 induction o with
 |lst xs=>obtain⟨z,its,n,r,e⟩:=x;exact⟨z,its,n,r,k _ _ (.inl rfl) e⟩
 |tup xs=>obtain⟨z,its,r,ob,e,c⟩:=x;exact⟨z,its,r,ob,k _ _ (.inl rfl) e,c⟩
 |Do Ab=>obtain⟨z,y,vs,r,ob,A6,BY,e,c⟩:=x;exact⟨z,y,vs,r,ob,A6,BY,k _ _ (.inl rfl) e,c⟩
 |B7 Ab=>obtain⟨z,y,xs,r,ob,A6,BY,e,c⟩:=x;exact⟨z,y,xs,Paired.eI r λp q z=>⟨z.1,z.2.1.mono Av,z.2.2⟩,ob,A6,BY,k _ _ (.inl rfl) e,c⟩
 |set S n=>obtain⟨ob,A6,BY,t,e,c⟩:=x;exact⟨ob,A6,BY,t,k _ _ (.inl rfl) e,c⟩
 |ins C Aj As=>obtain⟨d,z,ne,e,EH,⟨Du,A6,BY,AG,c⟩,r⟩:=x;exact⟨AM _ d,z,ne,k _ _ (.inl rfl) e,EH,⟨Du,A6,BY,k _ _ (.inr d) AG,c⟩,r⟩
 |own y=>obtain⟨ob,e⟩:=x;exact⟨ob,k _ _ (.inl rfl) e⟩
 |fu As=>obtain⟨EH,⟨Du,A6,BY,e,c⟩,r⟩:=x;exact⟨EH,⟨Du,A6,BY,k _ _ (.inl rfl) e,c⟩,r⟩
 |d_ lo AC=>obtain⟨t,u,v,e⟩:=x;exact⟨t,u,v,k _ _ (.inl rfl) e⟩
 |Lg ob u C6=>obtain⟨e,q⟩:=x;exact⟨k _ _ (.inl rfl) e,C6 q⟩
 |SA Ap=>have e:h.get? a=some { cls:=.none,data:=.fields Ap }:=x;show h'.get? a=some { cls:=.none,data:=.fields Ap };exact k a _ (.inl rfl) e
 |met f y=>have e:h.get? a=some (hC (.ref f) (.ref y)):=x;show h'.get? a=some (hC (.ref f) (.ref y));exact k a _ (.inl rfl) e
 |ext UI=>obtain⟨p,⟨o,e⟩,st⟩:=x;exact⟨st _ _ p λo q=>k _ _ (.inl rfl) q,⟨o,k _ _ (.inl rfl) e⟩,st⟩
theorem Eo.lt(x:Eo P w K H h)(e:H a=some o):a<h.objs.size:=(x a o e).lt
def Eo.fresh(x:Eo P w K H h)(e:h.objs.size<=a):H a=none:=by
 cases q:H a with
 |none=>rfl
 |some u=>exact absurd (I1 (x.lt q) e) (JC _)
def Eo.kept(x:Eo P w K H h)(k:∀b u,h.get? b=some u->h'.get? b=some u):Eo P w K H h':=λa o e=>
 (x a o e).Q6 (λb u _ q=>k b u q) (λ_ q=>q) λ_ _ q=>q
def Eo.laid(x:Eo P w K H h)(k:∀b u,h.get? b=some u->h'.get? b=some u)(Ad:h.objs.size<=a)(new:Fl P w K (upd H a o) h' a o):Eo P w K (upd H a o) h':=λb u e=>by
 have AS:=x.fresh Ad;by_cases A0:b=a
 .subst A0;rw[E1]at e;cases e;exact new
 .rw[Da A0]at e;exact(x b u e).Q6 (λc v _ q=>k c v q) (λc q=>by rw[Da (KI q AS)];exact q) λc xs q=>by rw[Da (KI q AS)];exact q
end
def Eu(H:AA)(a:A7)(u:E5):Prop:=H a=some u\/∃o,H a=some (.Lg o u)
def Eu.ok{P:Bu}{w:Bh}{K:AY}{H:AA}{h:BH}{a:A7}{u:E5}(r:Eu H a u)(x:Eo P w K H h):Fl P w K H h a u:=by
 rcases r with r|⟨o,r⟩
 .exact x a u r
 .obtain⟨_,q⟩:=x a _ r;exact q
def VO:Option E5->Prop
 |some (.lst _)=>True
 |some (.Do _)=>True
 |some (.B7 _)=>True
 |some (.set _ _)=>True
 |some (.ins _ _ _)=>True
 |some (.ext _)=>True
 |_=>False
section
variable{P:Bu}{w:Bh}{K:AY}{H:AA}{h h':BH}{x e:A7}{Ce:E5}
def Eo.write(ok:Eo P w K H h)(KH:VO (H x))(he:e=x\/H e=some (.own x))(k:∀b u,b≠e->h.get? b=some u->h'.get? b=some u)(U7:∃u,h'.get? e=some u)(new:Fl P w K (upd H x Ce) h' x Ce):Eo P w K (upd H x Ce) h':=λb u q=>by
 have mj:∀c y,H c=some (.own y)->c≠x:=λc y r z=>by subst z;rw[r]at KH;exact KH
 have yk:∀c xs,H c=some (.tup xs)->c≠x:=λc xs r z=>by subst z;rw[r]at KH;exact KH
 by_cases A0:b=x
 .subst A0;rw[E1]at q;cases q;exact new
 .rw[Da A0]at q;by_cases Rh:b=e
  .have Hw:H b=some (.own x):=by
     rcases he with z|z
     .exact absurd (Rh.trans z) A0
     .rw[Rh];exact z
   rw[q]at Hw;cases Hw;obtain⟨v,BR⟩:=U7;exact⟨v,by rw[Rh];exact BR⟩
  .refine(ok b u q).Q6 (λc v AO r=>k c v ?_ r) (λc r=>by rw[Da (mj c b r)];exact r) λc xs r=>by rw[Da (yk c xs r)];exact r
   rcases AO with rfl|AO
   .exact Rh
   .rintro rfl;rcases he with z|z
    .exact mj c b AO z
    .rw[AO]at z;cases z;exact A0 rfl
end
structure Gh(As ex:List A7)(H H':AA)(h h':BH):Prop where
 keep:∀b o,h.get? b=some o->H b=none->b∉As->b∉ex->h'.get? b=some o
 slot:∀b o,h.get? b=some o->H b=none->b∈As->b∉ex->∃Bz,h'.get? b=some { o with slots:=Bz }
 free:∀b o,h.get? b=some o->H b=none->b∉ex->H' b=none
 there:∀b o,h.get? b=some o->b∉ex->∃Ce,h'.get? b=some Ce
 Ou:∀b xs,H b=some (.tup xs)->H' b=some (.tup xs)
 NY:∀b o u,H b=some (.Lg o u)->H' b=some (.Lg o u)
 Ot:∀b Ap,H b=some (.SA Ap)->∃more,H' b=some (.SA (Ap++more))
section
variable{As kj ex agI:List A7}{H H1 Ax:AA}{h h1 h2 h':BH}{a x e:A7}{o:E5}
def Gh.any(u:Gh As ex H H1 h h1){b:A7}{ob:Obj}(q:h.get? b=some ob)(n:H b=none)(AH:b∉ex):∃Bz,h1.get? b=some { ob with slots:=Bz }:=by
 by_cases A0:b∈As
 .exact u.slot b ob q n A0 AH
 .exact⟨ob.slots,u.keep b ob q n A0 AH⟩
def Gh.kept(k:∀b u,h.get? b=some u->h'.get? b=some u):Gh As ex H H h h':=
 ⟨λb ob q _ _ _=>k b ob q,λb ob q _ _ _=>⟨ob.slots,k b ob q⟩,λ_ _ _ n _=>n,λb ob q _=>⟨ob,k b ob q⟩,λ_ _ q=>q,λ_ _ _ q=>q,λ_ Ap q=>⟨#[],by rw[q];simp⟩⟩
def Gh.refl:Gh As ex H H h h:=Gh.kept λ_ _ q=>q
def Gh.laid(k:∀b u,h.get? b=some u->h'.get? b=some u)(Ad:h.objs.size<=a)(AS:H a=none):Gh As ex H (upd H a o) h h' where
 keep:=λb u q _ _ _=>k b u q
 slot:=λb u q _ _ _=>⟨u.slots,k b u q⟩
 free:=λb u q n _=>by rw[Da (Fe (I1 (DT q) Ad))];exact n
 there:=λb u q _=>⟨u,k b u q⟩
 Ou:=λb xs q=>by rw[Da (KI q AS)];exact q
 NY:=λb u xs q=>by rw[Da (KI q AS)];exact q
 Ot:=λb Ap q=>⟨#[],by rw[Da (KI q AS),q];simp⟩
def Gh.write(KH:VO (H x))(he:e=x\/H e=some (.own x))(k:∀b u,b≠e->h.get? b=some u->h'.get? b=some u)(U7:∃u,h'.get? e=some u):Gh As ex H (upd H x o) h h':=by
 have AH:∀b,H b=none->b≠x:=λb n z=>by subst z;rw[n]at KH;exact KH
 have A0:∀b,H b=none->b≠e:=λb n z=>by
  subst z;rcases he with r|r
  .exact AH b n r
  .rw[n]at r;cases r
 have hm:∀b u,H b=some u->¬VO (some u)->b≠x:=λb u q nm z=>by subst z;rw[q]at KH;exact nm KH
 refine⟨λb u q n _ _=>k b u (A0 b n) q,λb u q n _ _=>⟨u.slots,k b u (A0 b n) q⟩,λb u q n _=>by rw[Da (AH b n)];exact n,λb u q _=>?_,
  λb xs q=>by rw[Da (hm b _ q λz=>z)];exact q,λb u xs q=>by rw[Da (hm b _ q λz=>z)];exact q,λb Ap q=>⟨#[],by rw[Da (hm b _ q λz=>z),q];simp⟩⟩
 by_cases Rh:b=e
 .subst Rh;exact U7
 .exact⟨u,k b u Rh q⟩
end
def a8(h:BH)(H:AA):List A7:=(EY h.objs.size).filter λa=>(H a).isSome
def Og(h:BH)(H:AA):BH:=PySem.W.hideAll h (a8 h H)
def vN(h:BH)(H:AA):(Og h H).objs.size=h.objs.size:=PySem.W.hideAll_size _ _
def vM{h:BH}{H:AA}{b:A7}{o:Obj}(e:h.get? b=some o)(n:H b=none):(Og h H).get? b=some o:=
 PySem.W.hideAll_get _ e λhm=>by have q:(H b).isSome=true:=(List.mem_filter.mp hm).2;rw[n]at q;simp at q
def aaE{h:BH}{H:AA}{b:A7}{o:Obj}(e:(Og h H).get? b=some o):h.get? b=some o/\H b=none:=by
 have CV:h.get? b=some o:=PySem.W.of_hideAll (a8 h H) e;refine⟨CV,?_⟩;cases q:H b with
 |none=>rfl
 |some x=>have hm:b∈a8 h H:=List.mem_filter.mpr ⟨List.mem_range.mpr (DT CV),by simp[q]⟩;have z:(Og h H).get? b=none:=PySem.W.hideAll_none (a8 h H) hm;rw[z]at e;cases e
def si(g h:BH)(L:A7):List (A7×Obj):=(EY h.objs.size).filterMap λa=>if a=L\/(g.get? a).isSome=true then none else(h.get? a).map λo=>(a,o)
def rest(g h:BH)(L d:A7):List (A7×Obj):=(si g h L).filter λp=>decide (p.1≠d)
structure Mod(K:AY)(mg:Str->Option A4)(base:BH):Prop where
 JP:K.In base
 glob:base.Ns E4 mg
 blt:∃HL,base.Ns builtinsNs HL/\∀x:Str,x≠"__name__"->HL x=LU x
 nolimit:base.NoLimit
structure Af where
 prog:Bu
 w:Bh
 K:AY
 mg:Str->Option A4
 base:BH
 A:CG
 N:List Str
 Gn:AP
 VK:AA
 env:Env
 outer:List Env
 stack:List Env
 ex:List A7
 fn:Str->Bool
 calm:Bool
 Bc:List (A7×Obj)
 xe:A4->AP->Prop
def Ld(l:List Env):List A7:=l.filterMap (·.frame)
abbrev Af.As(X:Af):List A7:=Ld X.outer
def H3(sc:ED)(x:Str):Prop:=sc.names.lookup x=some .local\/sc.names.lookup x=some .cell\/sc.names.lookup x=some .free
def Loc(sc:ED)(x:Str):Prop:=sc.names.lookup x=some .local\/sc.names.lookup x=some .cell
noncomputable def Look(env:Env)(h:BH)(m:Str->Option A4)(x:Str)(u:A4):Prop:=
 (env.kindOf x=some .local/\m x=some u)\/((env.kindOf x=some .cell\/env.kindOf x=some .free)/\∃c,env.cells.lookup x=some c/\h.IsCell c (some u))
structure Af.Ok(X:Af):Prop where
 mod:Mod X.K X.mg X.base
 kind:X.env.scope.kind=.function
 glob:X.env.globals=E4
 blt:X.env.builtins=builtinsNs
 above:X.Gn.heap.objs.size<=X.env.locals
 inj:∀x y c,X.env.cells.lookup x=some c->X.env.cells.lookup y=some c->x=y
 has:∀x,(X.env.kindOf x=some .cell\/X.env.kindOf x=some .free)->∃c,X.env.cells.lookup x=some c
 VX:∀x c,X.fn x=true->X.env.cells.lookup x=some c->X.Gn.heap.objs.size<=c
 hd:X.calm=true->X.A.handled=none
 frames:X.A.frames=some X.stack
 S7:X.stack=X.outer\/(X.stack=X.env::X.outer/\X.env.frame=some X.env.locals)
 jp:∀b∈X.ex,b≠X.env.locals/\∀x c,X.env.cells.lookup x=some c->c≠b
 bs:∀b o,X.base.get? b=some o->X.Gn.heap.get? b=some o/\X.VK b=none
 Ph:X.base.objs.size<=X.Gn.heap.objs.size
 SX:∀b o,X.base.get? b=some o->b∉X.ex
 YL:∀b∈X.ex,b∉X.As
 Li:X.Gn.heap.FunFrames X.base X.outer
 Re:∀b∈X.As,X.VK b=none
structure Inv(X:Af)(pins:List (A7×Obj))(σ :List (Option V))(H:AA)(s:AP):Prop where
 ok:X.Ok
 os:s.os=X.Gn.os
 bare:O6 s.gens
 base:Gh X.As X.ex X.VK H X.Gn.heap s.heap
 loc:∃m,s.heap.Ns X.env.locals m/\∀(i:Nat)(x:Str)(v:V),X.N[i]?=some x-> σ[i]?=some (some v)->H3 X.env.scope x->∃u,RelV v u/\Look X.env s.heap m x u
 cell:∀x c,X.env.cells.lookup x=some c->∃v,s.heap.IsCell c v
 free:H X.env.locals=none
 NW:∀x c,X.env.cells.lookup x=some c->H c=none
 pin:∀p∈X.Bc++pins,s.heap.get? p.1=some p.2/\H p.1=none/\p.1≠X.env.locals/\p.1∉X.As/\∀v,p.2.data≠.cell v
 Ba:Eo X.prog X.w X.K H s.heap
 len: σ.length=X.N.length
section
variable{X:Af}{pins:List (A7×Obj)}{σ :List (Option V)}{H H':AA}{s:AP}{h':BH}
def Af.Ok.yf(ok:X.Ok){b:A7}{o:Obj}(e:X.base.get? b=some o):b∉X.As:=λA0=>by have:=(ok.Li.mem A0).1;rw[e]at this;cases this
theorem Inv.bs(I:Inv X pins σ H s):∀b o,X.base.get? b=some o->s.heap.get? b=some o/\H b=none:=λb o e=>
 ⟨I.base.keep b o (I.ok.bs b o e).1 (I.ok.bs b o e).2 (I.ok.yf e) (I.ok.SX b o e),I.base.free b o (I.ok.bs b o e).1 (I.ok.bs b o e).2 (I.ok.SX b o e)⟩
def Inv.G1(I:Inv X pins σ H s):∀b o,X.base.get? b=some o->s.heap.get? b=some o:=λb o e=>(I.bs b o e).1
theorem Inv.mod(I:Inv X pins σ H s):Mod X.K X.mg X.base:=I.ok.mod
def Inv.EM(I:Inv X pins σ H s):X.K.In s.heap:=I.ok.mod.JP.keeps I.G1
theorem Inv.lt(I:Inv X pins σ H s):X.env.locals<s.heap.objs.size:=let⟨_,AS,_⟩:=I.loc;AS.lt
def Inv.KW(I:Inv X pins σ H s):X.Gn.heap.objs.size<=s.heap.objs.size:=Ff I.ok.above (R5 I.lt)
def Inv.yh(I:Inv X pins σ H s){a:A7}(h:s.heap.objs.size<=a):a∉X.As:=λA0=>by obtain⟨_,o,AM,_⟩:=I.ok.Li.mem A0;exact absurd (I1 (DT AM) (Ff I.KW h)) (JC _)
def Inv.RW(I:Inv X pins σ H s):∀x c,X.env.cells.lookup x=some c->c≠X.env.locals:=λx c e z=>by obtain⟨v,o,AM,hd⟩:=I.cell x c e;obtain⟨m,⟨Ce,A6,BY,Ed,Gu,_⟩,_⟩:=I.loc;rw[z,Ed]at AM;cases AM;rw[Gu]at hd;cases hd
theorem Inv.Li(I:Inv X pins σ H s):s.heap.FunFrames X.base X.outer:=by
 have all:∀(l:List Env),(∀b∈Ld l,b∈X.As)->X.Gn.heap.FunFrames X.base l->s.heap.FunFrames X.base l:=by
  intro l;induction l with
  |nil=>intro _ _;trivial
  |cons env r C6=>intro AN AQ;obtain⟨AL,⟨L,o,hf,AS,AM,hd⟩,AI⟩:=AQ;have Ec:L∈X.As:=AN L (by unfold Ld;rw[gc,hf];exact Ms);obtain⟨Bz,e⟩:=I.base.slot L o AM (I.ok.Re L Ec) Ec λz=>I.ok.YL L z Ec;exact⟨AL,⟨L,_,hf,AS,e,hd⟩,C6 (λb A0=>AN b (by unfold Ld;rw[gc,hf];exact Fv _ A0)) AI⟩
 exact all X.outer (λ_ A0=>A0) I.ok.Li
theorem Inv.stack(I:Inv X pins σ H s):s.heap.FunFrames X.base X.stack:=by
 rcases I.ok.S7 with e|⟨e,hf⟩
 .rw[e];exact I.Li
 .rw[e];obtain⟨m,AS,_⟩:=I.loc;refine .cons (by rw[I.ok.kind];decide) hf AS ?_ I.Li;exact Heap.get?_none_of_le (Ff I.ok.Ph I.ok.above)
def Inv.aY(I:Inv X pins σ H s):∀b∈Ld X.stack,b∈X.env.locals::X.As:=λb A0=>by
 rcases I.ok.S7 with e|⟨e,hf⟩
 .rw[e]at A0;exact Fv _ A0
 .rw[e]at A0;unfold Ld at A0;rw[gc,hf]at A0;exact A0
def Inv.pO(I:Inv X pins σ H s):∀b∈Ld X.stack,H b=none:=λb A0=>by
 rcases List.mem_cons.mp (I.aY b A0)with e|A0
 .rw[e];exact I.free
 .obtain⟨_,o,AM,_⟩:=I.ok.Li.mem A0;exact I.base.free b o AM (I.ok.Re b A0) λz=>I.ok.YL b z A0
def Inv.step{g':Array GenState}{t':Nat}{d':Drawn}{ch:List A7}(I:Inv X pins σ H s)(Na:∀b∈ch,(b∈X.ex\/X.Gn.heap.objs.size<=b)/\b≠X.env.locals/\(∀x c,X.env.cells.lookup x=some c->c≠b)/\∀p∈X.Bc++pins,p.1≠b)(keep:∀b o,b≠X.env.locals->b∉X.As->b∉ch->s.heap.get? b=some o->H b=none->h'.get? b=some o)(slot:∀b o,b≠X.env.locals->b∈X.As->b∉ch->s.heap.get? b=some o->H b=none->∃Bz,h'.get? b=some { o with slots:=Bz })(free:∀b o,b∉ch->s.heap.get? b=some o->H b=none->H' b=none)(there:∀b o,b∉ch->s.heap.get? b=some o->∃Ce,h'.get? b=some Ce)(Ou:∀b xs,H b=some (.tup xs)->H' b=some (.tup xs))(NY:∀b o u,H b=some (.Lg o u)->H' b=some (.Lg o u))(Ot:∀b Ap,H b=some (.SA Ap)->∃more,H' b=some (.SA (Ap++more)))(ns:∀m,s.heap.Ns X.env.locals m->h'.Ns X.env.locals m)(Ba:Eo X.prog X.w X.K H' h')(Ah:O6 g') :
  Inv X pins σ H' { s with heap:=h',gens:=g',drawn:=d',toks:=t' }:=by
 have nE:∀b o,X.Gn.heap.get? b=some o->b≠X.env.locals:=λb o e=>Fe (I1 (DT e) I.ok.above);have ZE:∀b o,X.Gn.heap.get? b=some o->b∉X.ex->b∉ch:=λb o e AH A0=>by
  rcases(Na b A0).1 with z|z
  .exact AH z
  .exact absurd (I1 (DT e) z) (JC _)
 have cellK:∀x c,X.env.cells.lookup x=some c->∀v,s.heap.IsCell c v->h'.IsCell c v:=λx c e v⟨o,AM,hd⟩=>by
  have Wy:c∉ch:=λz=>(Na c z).2.2.1 x c e rfl;by_cases AO:c∈X.As
  .obtain⟨Bz,q⟩:=slot c o (I.RW x c e) AO Wy AM (I.NW x c e);exact⟨_,q,hd⟩
  .exact⟨o,keep c o (I.RW x c e) AO Wy AM (I.NW x c e),hd⟩
 refine⟨I.ok,I.os,Ah,⟨λb o e n A0 AH=>?_,λb o e n A0 AH=>?_,λb o e n AH=>?_,λb o e AH=>?_,λb xs e=>Ou b xs (I.base.Ou b xs e),λb o xs e=>NY b o xs (I.base.NY b o xs e),λb Ap e=>?_⟩,?_,λx c e=>?_,?_,λx c e=>?_,λp Ad=>?_,Ba,I.len⟩
 .exact keep b o (nE b o e) A0 (ZE b o e AH) (I.base.keep b o e n A0 AH) (I.base.free b o e n AH)
 .obtain⟨Bz,A9⟩:=I.base.slot b o e n A0 AH;obtain⟨abd,AG⟩:=slot b _ (nE b o e) A0 (ZE b o e AH) A9 (I.base.free b o e n AH);exact⟨abd,AG⟩
 .obtain⟨Ce,A9⟩:=I.base.there b o e AH;exact free b Ce (ZE b o e AH) A9 (I.base.free b o e n AH)
 .obtain⟨Ce,A9⟩:=I.base.there b o e AH;exact there b Ce (ZE b o e AH) A9
 .obtain⟨Hu,A9⟩:=I.base.Ot b Ap e;obtain⟨H_,AG⟩:=Ot b _ A9;exact⟨Hu++H_,by rw[AG,Array.append_assoc]⟩
 .obtain⟨m,AS,AQ⟩:=I.loc;refine⟨m,ns m AS,λi x v A9 AG B3=>?_⟩;obtain⟨u,r,l⟩:=AQ i x v A9 AG B3;refine⟨u,r,?_⟩;rcases l with l|⟨k,c,e,z⟩
  .exact .inl l
  .exact .inr ⟨k,c,e,cellK x c e _ z⟩
 .obtain⟨v,z⟩:=I.cell x c e;exact⟨v,cellK x c e v z⟩
 .obtain⟨m,⟨o,_,_,AM,_⟩,_⟩:=I.loc;exact free _ o (λz=>(Na _ z).2.1 rfl) AM I.free
 .obtain⟨v,o,AM,hd⟩:=I.cell x c e;exact free c o (λz=>(Na c z).2.2.1 x c e rfl) AM (I.NW x c e)
 .obtain⟨e,n,ne,L6,d⟩:=I.pin p Ad;have Wy:p.1∉ch:=λz=>(Na p.1 z).2.2.2 p Ad rfl;exact⟨keep p.1 p.2 ne L6 Wy e n,free p.1 p.2 Wy e n,ne,L6,d⟩
def Inv.un{t':Nat}(I:Inv X pins σ H s)(u:Gh X.As [] H H' s.heap h')(Ba:Eo X.prog X.w X.K H' h'):Inv X pins σ H' { s with heap:=h',toks:=t' }:=by
 obtain⟨m,⟨o,A6,BY,AM,r⟩,_⟩:=id I.loc;obtain⟨Bz,Ec⟩:=u.any AM I.free (by simp);exact I.step (g':=s.gens) (d':=s.drawn) (ch:=[]) (λ_ z=>nomatch z) (λb o _ A0 _ e n=>u.keep b o e n A0 (by simp)) (λb o _ A0 _ e n=>u.slot b o e n A0 (by simp)) (λb o _ e n=>u.free b o e n (by simp)) (λb o _ e=>u.there b o e (by simp)) u.Ou u.NY u.Ot (λEe hm=>by obtain⟨Ce,Vc,bw,Ed,BO⟩:=hm;rw[AM]at Ed;cases Ed;exact⟨_,Vc,bw,Ec,BO⟩) Ba I.bare
def Inv.call{g':Array GenState}{t':Nat}{d':Drawn}{ch:List A7}(I:Inv X pins σ H s)(u:Gh (Ld X.stack) ch H H' s.heap h')(Ba:Eo X.prog X.w X.K H' h')(Ah:O6 g')(Na:∀b∈ch,(b∈X.ex\/X.Gn.heap.objs.size<=b)/\b≠X.env.locals/\(∀x c,X.env.cells.lookup x=some c->c≠b)/\∀p∈X.Bc++pins,p.1≠b) :
  Inv X pins σ H' { s with heap:=h',gens:=g',drawn:=d',toks:=t' }:=by
 obtain⟨m,⟨o,A6,BY,AM,r⟩,_⟩:=id I.loc;obtain⟨Bz,Ec⟩:=u.any AM I.free λz=>(Na _ z).2.1 rfl;exact I.step (ch:=ch) Na (λb o Ec A0 AO e n=>u.keep b o e n (λz=>(List.mem_cons.mp (I.aY b z)).elim Ec A0) AO) (λb o _ _ AO e n=>u.any e n AO) (λb o AO e n=>u.free b o e n AO) (λb o AO e=>u.there b o e AO) u.Ou u.NY u.Ot (λEe hm=>by obtain⟨Ce,Vc,bw,Ed,BO⟩:=hm;rw[AM]at Ed;cases Ed;exact⟨_,Vc,bw,Ec,BO⟩) Ba Ah
def Inv.turned{t':Nat}{it:A7}(I:Inv X pins σ H s)(k:∀b o,b≠it->s.heap.get? b=some o->h'.get? b=some o)(AS:H it=none)(Ec:it≠X.env.locals)(h1:it∈X.ex\/X.Gn.heap.objs.size<=it)(h2:∀x c,X.env.cells.lookup x=some c->c≠it)(h3:∀p∈X.Bc++pins,p.1≠it):Inv X pins σ H { s with heap:=h',toks:=t' }:=by
 have QP:∀b u,H b=some u->b≠it:=λb u e z=>by rw[z,AS]at e;cases e
 refine I.step (g':=s.gens) (d':=s.drawn) (ch:=[it]) (λb A0=>?_) (λb o _ _ AO e _=>k b o (λz=>AO (by simp[z])) e) (λb o _ _ AO e _=>⟨o.slots,k b o (λz=>AO (by simp[z])) e⟩) (λ_ _ _ _ n=>n)
  (λb o AO e=>⟨o,k b o (λz=>AO (by simp[z])) e⟩) (λ_ _ e=>e) (λ_ _ _ e=>e) (λb Ap e=>⟨#[],by rw[e];simp⟩) (λm hm=>?_) (λb u e=>?_) I.bare
 .have e:b=it:=by simpa using A0
  subst e;exact⟨h1,Ec,h2,h3⟩
 .obtain⟨o,A6,BY,AM,r⟩:=hm;exact⟨o,A6,BY,k _ o (I2 Ec) AM,r⟩
 .refine(I.Ba b u e).Q6 (λc v AO q=>k c v ?_ q) (λ_ q=>q) λ_ _ q=>q;rcases AO with z|z
  .rw[z];exact QP b u e
  .exact QP c _ z
def Inv.tok(I:Inv X pins σ H s)(t:Nat):Inv X pins σ H { s with toks:=t }:=I.un (h':=s.heap) (t':=t) Gh.refl I.Ba
theorem Inv.kept{t':Nat}(I:Inv X pins σ H s)(k:∀b u,s.heap.get? b=some u->h'.get? b=some u):Inv X pins σ H { s with heap:=h',toks:=t' }:=I.un (Gh.kept k) (I.Ba.kept k)
theorem Inv.laid{a:A7}{o:E5}{t':Nat}(I:Inv X pins σ H s)(k:∀b u,s.heap.get? b=some u->h'.get? b=some u)(Ad:s.heap.objs.size<=a)(new:Fl X.prog X.w X.K (upd H a o) h' a o) :
  Inv X pins σ (upd H a o) { s with heap:=h',toks:=t' }:=I.un (Gh.laid k Ad (I.Ba.fresh Ad)) (I.Ba.laid k Ad new)
theorem Inv.write{x e:A7}{o:E5}{t':Nat}(I:Inv X pins σ H s)(KH:VO (H x))(he:e=x\/H e=some (.own x))(k:∀b u,b≠e->s.heap.get? b=some u->h'.get? b=some u)(U7:∃u,h'.get? e=some u)(new:Fl X.prog X.w X.K (upd H x o) h' x o):Inv X pins σ (upd H x o) { s with heap:=h',toks:=t' }:=I.un (Gh.write KH he k U7) (I.Ba.write KH he k U7 new)
def Inv.o0{nz:List (A7×Obj)}(I:Inv X pins σ H s)(h:∀p∈nz,s.heap.get? p.1=some p.2/\H p.1=none/\p.1≠X.env.locals/\p.1∉X.As/\∀v,p.2.data≠.cell v):Inv X nz σ H s:=
 ⟨I.ok,I.os,I.bare,I.base,I.loc,I.cell,I.free,I.NW,λp Ad=>(List.mem_append.mp Ad).elim (λz=>I.pin p (HS _ z)) (h p),I.Ba,I.len⟩
def me{N:List Str}(hN:N.Nodup){i j:Nat}{x:Str}(a:N[i]?=some x)(b:N[j]?=some x):i=j:=by obtain⟨h1,A9⟩:=List.getElem?_eq_some_iff.mp a;obtain⟨h2,AG⟩:=List.getElem?_eq_some_iff.mp b;exact(List.getElem_inj hN).mp (A9.trans AG.symm)
def oq{M:Model}{A:CG}{E:A4->AP->Prop}{i:Nat}{x:Str}{v:V}{u:A4}{Q:Unit->AP->Prop}(I:Inv X pins σ H s)(hN:X.N.Nodup)(AC:X.N[i]?=some x)(AH:Loc X.env.scope x)(r:RelV v u)(h:∀s',Inv X pins (σ.set i (some v)) H s'->(∃a,JH a s.heap s'.heap/\(a=X.env.locals\/X.env.cells.lookup x=some a))->Q () s')(hf:X.fn x=true\/X.env.scope.names.lookup x=some .local:=by first|exact .inl rfl|exact .inr rfl|assumption):Ae M A (storeName X.env x u) Q E s:=by
 obtain⟨m,AS,AQ⟩:=id I.loc;have v5:(X.env.scope.kind==.class||(X.env.scope.kind==.module&&X.env.locals !=X.env.globals))=false:=by rw[I.ok.kind];rfl
 have ACσ :i< σ.length:=by rw[I.len];exact(List.getElem?_eq_some_iff.mp AC).1
 have RW:=I.RW;have tracked:∀{a:A7}{h':BH},(∃o,s.heap.get? a=some o/\H a=none)->JH a s.heap h'->Eo X.prog X.w X.K H h':=λ{a h'} AB AN b ob e=>by
  obtain⟨_,_,Zp⟩:=AB;refine(I.Ba b ob e).Q6 (λc Fk AO q=>(AN.2 c ?_).trans q) (λ_ q=>q) λ_ _ q=>q;rintro rfl;rcases AO with rfl|AO
  .rw[Zp]at e;cases e
  .rw[Zp]at AO;cases AO
 rcases AH with AL|AL
 .refine wpAny_storeName_local AL AS (λh' uu AN=>?_) v5;obtain⟨zC,_,_,vR,_⟩:=id AS;refine h _ ⟨I.ok,I.os,I.bare,⟨λb o e n A0 AH=>?_,λb o e n A0 AH=>?_,I.base.free,λb o e AH=>?_,I.base.Ou,I.base.NY,I.base.Ot⟩,⟨_,uu,λj y Nq A9 AG B3=>?_⟩,λy c e=>?_,I.free,I.NW,λp Ad=>?_,tracked ⟨zC,vR,I.free⟩ AN,by simpa using I.len⟩ ⟨_,AN,.inl rfl⟩
  .exact(AN.2 b (Fe (I1 (DT e) I.ok.above))).trans (I.base.keep b o e n A0 AH)
  .obtain⟨Bz,A9⟩:=I.base.slot b o e n A0 AH;exact⟨Bz,(AN.2 b (Fe (I1 (DT e) I.ok.above))).trans A9⟩
  .obtain⟨Ce,A9⟩:=I.base.there b o e AH;exact⟨Ce,(AN.2 b (Fe (I1 (DT e) I.ok.above))).trans A9⟩
  .by_cases By:j=i
   .subst By;rw[AC]at A9;cases A9;rw[X_ ACσ]at AG;cases AG;exact⟨u,r,.inl ⟨AL,by simp⟩⟩
   .rw[Sm (I2 By)]at AG;obtain⟨FV,BO,q⟩:=AQ j y Nq A9 AG B3;refine⟨FV,BO,?_⟩;rcases q with⟨k,e⟩|⟨k,c,e,z⟩
    .refine .inl ⟨k,?_⟩;have:y≠x:=λe=>By (me hN A9 (e▸AC));simp[this,e]
    .exact .inr ⟨k,c,e,z.sameBut AN (RW y c e)⟩
  .obtain⟨Fk,z⟩:=I.cell y c e;exact⟨Fk,z.sameBut AN (RW y c e)⟩
  .obtain⟨e,n,ne,L6,d⟩:=I.pin p Ad;exact⟨(AN.2 p.1 ne).trans e,n,ne,L6,d⟩
 .have dP:X.fn x=true:=by
    rcases hf with z|z
    .exact z
    .rw[z]at AL;cases AL
  obtain⟨c,AO⟩:=I.ok.has x (.inl AL);obtain⟨Fk,z⟩:=I.cell x c AO;refine wpAny_storeName_cell I.ok.kind AL AO z (λh' Zm AN=>?_);obtain⟨Fi,mG,wV⟩:=id z;refine h { s with heap:=h' } ⟨I.ok,I.os,I.bare,⟨λb o e n A0 AH=>?_,λb o e n A0 AH=>?_,I.base.free,λb o e AH=>?_,I.base.Ou,I.base.NY,I.base.Ot⟩,⟨m,AS.sameBut AN (I2 (RW x c AO)),λj y Nq A9 AG B3=>?_⟩,λy DM e=>?_,I.free,I.NW,λp Ad=>?_,tracked ⟨Fi,mG,I.NW x c AO⟩ AN,by simpa using I.len⟩ ⟨c,AN,.inr AO⟩
  .exact(AN.2 b (Fe (I1 (DT e) (I.ok.VX x c dP AO)))).trans (I.base.keep b o e n A0 AH)
  .obtain⟨Bz,A9⟩:=I.base.slot b o e n A0 AH;exact⟨Bz,(AN.2 b (Fe (I1 (DT e) (I.ok.VX x c dP AO)))).trans A9⟩
  .obtain⟨Ce,A9⟩:=I.base.there b o e AH;exact⟨Ce,(AN.2 b (Fe (I1 (DT e) (I.ok.VX x c dP AO)))).trans A9⟩
  .by_cases By:j=i
   .subst By;rw[AC]at A9;cases A9;rw[X_ ACσ]at AG;cases AG;exact⟨u,r,.inr ⟨.inl AL,c,AO,Zm⟩⟩
   .rw[Sm (I2 By)]at AG;obtain⟨FV,BO,q⟩:=AQ j y Nq A9 AG B3;refine⟨FV,BO,?_⟩;rcases q with q|⟨k,DM,e,GA⟩
    .exact .inl q
    .refine .inr ⟨k,DM,e,GA.sameBut AN ?_⟩;rintro rfl;exact By (me hN A9 (I.ok.inj _ _ _ e AO▸AC))
  .by_cases kV:DM=c
   .subst kV;exact⟨_,Zm⟩
   .obtain⟨G9,Db⟩:=I.cell y DM e;exact⟨G9,Db.sameBut AN kV⟩
  .obtain⟨e,n,ne,L6,d⟩:=I.pin p Ad;refine⟨(AN.2 p.1 ?_).trans e,n,ne,L6,d⟩;intro q;rw[q,mG]at e;have Hw:Fi=p.2:=FA e;exact d Fk (by rw[<-Hw];exact wV)
def oo{M:Model}{A:CG}{E:A4->AP->Prop}{i:Nat}{x:Str}{v:V}{u:A4}{Q:Unit->AP->Prop}(I:Inv X pins σ H s)(hN:X.N.Nodup)(AC:X.N[i]?=some x)(AH:Loc X.env.scope x)(r:RelV v u)(h:∀s',Inv X pins (σ.set i (some v)) H s'->Q () s')(hf:X.fn x=true\/X.env.scope.names.lookup x=some .local:=by first|exact .inl rfl|exact .inr rfl|assumption):Ae M A (storeName X.env x u) Q E s:=
 oq I hN AC AH r (λs' NJ _=>h s' NJ) hf
def Inv.ti{s':AP}{ch:List A7}(I:Inv X pins σ H s)(AM:s'.os=s.os)(u:Gh (Ld X.stack) ch H H' s.heap s'.heap)(Ba:Eo X.prog X.w X.K H' s'.heap)(Ah:O6 s'.gens)(Na:∀b∈ch,(b∈X.ex\/X.Gn.heap.objs.size<=b)/\b≠X.env.locals/\(∀x c,X.env.cells.lookup x=some c->c≠b)/\∀p∈X.Bc++pins,p.1≠b):Inv X pins σ H' s':=by obtain⟨h',g',d',t',Ce⟩:=s';have e:Ce=s.os:=AM;subst e;exact I.call (g':=g') (t':=t') (d':=d') u Ba Ah Na
end
abbrev DL:=A4->Option A7->AA->Prop
abbrev St:=List (Option V)
abbrev CT:=V->AA->Prop
abbrev TE:=St->AA->CT->Prop
abbrev TT:=St->AA->(Bool->AA->Prop)->Prop
abbrev FC:=St->AA->(List V->AA->Prop)->Prop
structure Ends where
 BC:St->AA->Prop
 E6:CT
 G1:St->AA->Prop:=λ_ _=>False
 DB:St->AA->Prop:=λ_ _=>False
abbrev F_:=Ends->St->AA->Prop
def Gc(X:Af)(pins:List (A7×Obj))(σ :St)(Q:CT)(u:A4)(s':AP):Prop:=∃v H',Inv X pins σ H' s'/\RelV v u/\Q v H'
def Yv(X:Af)(pins:List (A7×Obj))(σ :St)(Q:Bool->AA->Prop)(b:Bool)(s':AP):Prop:=∃H',Inv X pins σ H' s'/\Q b H'
def iR(X:Af)(pins:List (A7×Obj))(σ :St)(Q:List V->AA->Prop)(us:List A4)(s':AP):Prop:=∃vs H',Inv X pins σ H' s'/\Vals vs us/\Q vs H'
noncomputable def S2(X:Af)(pins:List (A7×Obj))(D:Ends)(f:Flow)(s':AP):Prop:=
 match f with
 |.next=>∃ σ' H',Inv X pins σ' H' s'/\D.BC σ' H'
 |.brk=>∃ σ' H',Inv X pins σ' H' s'/\D.G1 σ' H'
 |.cont=>∃ σ' H',Inv X pins σ' H' s'/\D.DB σ' H'
 |.ret u=>∃v σ' H',Inv X pins σ' H' s'/\RelV v u/\D.E6 v H'
def Ay(X:Af)(e:AT)(t:TE):Prop:=
 ∀(pins:List (A7×Obj))(s:AP)(σ :St)(H:AA)(Q:CT),Inv X pins σ H s->t σ H Q->Ae (B2 X.prog X.w) X.A (BK e X.env) (Gc X pins σ Q) X.xe s
noncomputable def Fm(X:Af)(e:AT)(t:TT):Prop:=
 ∀(pins:List (A7×Obj))(s:AP)(σ :St)(H:AA)(Q:Bool->AA->Prop),Inv X pins σ H s->t σ H Q->Ae (B2 X.prog X.w) X.A (isTrue e X.env (BK e X.env)) (Yv X pins σ Q) X.xe s
noncomputable def Jp(X:Af)(e:AT)(t:TT):Prop:=
 ∀(whole:Sem A4)(pins:List (A7×Obj))(s:AP)(σ :St)(H:AA)(Q:Bool->AA->Prop),Inv X pins σ H s->t σ H Q->Ae (B2 X.prog X.w) X.A (isTrue e X.env whole) (Yv X pins σ Q) X.xe s
def Jp.pt{X:Af}{e:AT}{t:TT}(h:Jp X e t):Fm X e t:=h _
noncomputable def Gf(X:Af)(A6:List AT)(t:FC):Prop:=
 ∀(pos:Pos)(pins:List (A7×Obj))(s:AP)(σ :St)(H:AA)(Q:List V->AA->Prop),Inv X pins σ H s->t σ H Q->Ae (B2 X.prog X.w) X.A (spliced (Cy pos (BF A6 X.env))) (iR X pins σ Q) X.xe s
def DX(X:Af)(st:BW)(t:F_):Prop:=
 ∀(pins:List (A7×Obj))(s:AP)(σ :St)(H:AA)(D:Ends),Inv X pins σ H s->t D σ H->Ae (B2 X.prog X.w) X.A (exec st X.env) (S2 X pins D) X.xe s
def Gg(X:Af)(st:List BW)(t:F_):Prop:=
 ∀(pins:List (A7×Obj))(s:AP)(σ :St)(H:AA)(D:Ends),Inv X pins σ H s->t D σ H->Ae (B2 X.prog X.w) X.A (execs st X.env) (S2 X pins D) X.xe s
def Bb{α:Type}{t:Sem α}{Q Rz:α->AP->Prop}{M:Model}{A:CG}{E:A4->AP->Prop}{s:AP}(h:Ae M A t Q E s)(Dc:∀a s,Q a s->Rz a s):Ae M A t Rz E s:=Ip h Dc λ_ _ x=>x
section
variable{X:Af}
def bin{a b:AT}{C3 tb:TE}(AB:Ay X a C3)(A0:Ay X b tb){pins:List (A7×Obj)}{s:AP}{σ :St}{H:AA}{R:V->V->AA->Prop}(I:Inv X pins σ H s)(h:C3 σ H λx H1=>tb σ H1 λy Ax=>R x y Ax){α:Type}{Q:α->AP->Prop}{f:A4->A4->Sem α}(hf:∀v u s2 x y Ax,Inv X pins σ Ax s2->RelV x v->RelV y u->R x y Ax->Ae (B2 X.prog X.w) X.A (f v u) Q X.xe s2) :
  Ae (B2 X.prog X.w) X.A (BK a X.env) (λv DD=>Ae (B2 X.prog X.w) X.A (BK b X.env) (λu Kj=>Ae (B2 X.prog X.w) X.A (f v u) Q X.xe Kj) X.xe DD) X.xe s:=by
 refine Bb (AB pins s σ H _ I h) λv s1⟨x,H1,B5,AK,An⟩=>?_;refine Bb (A0 pins s1 σ H1 _ B5 An) λu s2⟨y,Ax,Bo,B4,BG⟩=>?_;exact hf v u s2 x y Ax Bo AK B4 BG
def Wb(i:Nat):TE:=λσ H Q=>∃v,σ[i]?=some (some v)/\Q v H
def S9(v:V):TE:=λ_ H Q=>Q v H
def IG{i:Nat}{x:Str}{pos:Pos}(hN:X.N[i]?=some x)(BR:H3 X.env.scope x)(hd:(x==("__debug__" :Str))=false:=by decide)(DU:(x==("__classdict__" :Str))=false:=by decide):Ay X (.Name x pos) (Wb i):=by
 intro pins s σ H Q I h;obtain⟨v,e,h⟩:=h;obtain⟨m,AS,AQ⟩:=I.loc;obtain⟨u,r,l⟩:=AQ i x v hN e BR;have fin:Gc X pins σ Q u s:=⟨v,H,I,r,h⟩;rcases l with⟨AL,hm⟩|⟨AL,c,AO,kW⟩
 .exact wpAny_Name (wpAny_loadName_local I.ok.kind AL AS hm fin) hd
 .rcases AL with AL|AL
  .exact wpAny_Name (wpAny_loadName_cell I.ok.kind AL AO kW fin) hd
  .exact wpAny_Name (wpAny_loadName_free I.ok.kind AL AO kW fin DU) hd
def zg{i j pos}:Ay X (.Constant (.int i) j pos) (S9 (.int i)):=λ_ _ _ H _ I h=>wpAny_Constant_int ⟨.int i,H,I.tok _,⟨_,rfl⟩,h⟩
def aa6{b j pos}:Ay X (.Constant (.bool b) j pos) (S9 (.Aa b)):=λ_ _ _ H _ I h=>Constant_bool ⟨.Aa b,H,I,rfl,h⟩
def aaB{j pos}:Ay X (.Constant .none j pos) (S9 .non):=λ_ _ _ H _ I h=>Constant_none ⟨.non,H,I,rfl,h⟩
def abB{x j pos}:Ay X (.Constant (.str x) j pos) (S9 (.str x)):=λ_ _ _ H _ I h=>Calls.Constant_str ⟨.str x,H,I.tok _,⟨_,rfl⟩,h⟩
def EL(X:Af)(x:Str):Prop:=X.env.kindOf x=some .globalImplicit
def cY{E:A4->AP->Prop}{pins:List (A7×Obj)}{s:AP}{σ :St}{H:AA}{x:Str}{u:A4}{pos:Pos}{Q:A4->AP->Prop}(I:Inv X pins σ H s)(Ah:EL X x)(hm:X.mg x=some u)(h:Q u s)(hd:(x==("__debug__" :Str))=false:=by decide):Ae (B2 X.prog X.w) X.A (BK (.Name x pos) X.env) Q E s:=
 rk I.ok.kind Ah (Calls.loadGlobal_global (by rw[I.ok.glob];exact I.mod.glob.keeps I.G1) hm h) hd
def Oj{E:A4->AP->Prop}{pins:List (A7×Obj)}{s:AP}{σ :St}{H:AA}{x:Str}{u:A4}{pos:Pos}{Q:A4->AP->Prop}(I:Inv X pins σ H s)(Ah:EL X x)(hm:X.mg x=none)(BR:LU x=some u)(h:Q u s)(AS:x≠"__name__":=by decide)(hd:(x==("__debug__" :Str))=false:=by decide):Ae (B2 X.prog X.w) X.A (BK (.Name x pos) X.env) Q E s:=by obtain⟨HL,h1,h2⟩:=I.mod.blt;exact rk I.ok.kind Ah (Calls.loadGlobal_builtin (by rw[I.ok.glob];exact I.mod.glob.keeps I.G1) hm (by rw[I.ok.blt];exact h1.keeps I.G1) ((h2 x AS).trans BR) h) hd
def oe{x:Str}{v:V}{u:A4}{pos:Pos}(Ah:EL X x)(hm:X.mg x=some u)(r:RelV v u)(hd:(x==("__debug__" :Str))=false:=by decide):Ay X (.Name x pos) (S9 v):=
 λ_ _ _ H _ I h=>cY I Ah hm ⟨v,H,I,r,h⟩ hd
def aa7{x:Str}{v:V}{u:A4}{pos:Pos}(Ah:EL X x)(hm:X.mg x=none)(BR:LU x=some u)(r:RelV v u)(AS:x≠"__name__":=by decide)(hd:(x==("__debug__" :Str))=false:=by decide):Ay X (.Name x pos) (S9 v):=
 λ_ _ _ H _ I h=>Oj I Ah hm BR ⟨v,H,I,r,h⟩ AS hd
variable{a b:AT}{C3 tb:TE}{pos:Pos}
noncomputable def Yu(X:Af)(op:Kg)(a b:AT)(t:TE):Prop:=
 ∀(pins:List (A7×Obj))(s:AP)(σ :St)(H:AA)(Q:CT),Inv X pins σ H s->t σ H Q->
  Ae (B2 X.prog X.w) X.A (BK a X.env) (λv DD=>Ae (B2 X.prog X.w) X.A (BK b X.env) (λu Kj=>Ae (B2 X.prog X.w) X.A (GO op v u) (Gc X pins σ Q) X.xe Kj) X.xe DD) X.xe s
def md(b:AT){op:Kg}(h:op≠.In)(h2:op≠.NotIn):Io op b=false:=by
 have A9:(op==CmpOp.In)=false:=by cases op<;>first|rfl|exact absurd rfl h
 have AG:(op==CmpOp.NotIn)=false:=by cases op<;>first|rfl|exact absurd rfl h2
 cases b<;>simp[Io,A9,AG]
def g7(t:TE):TT:=λσ H Q=>t σ H λx H1=>∃c,x=.Aa c/\Q c H1
def aa9{op:Kg}{t:TE}(h:Yu X op a b t)(h1:Io op b=false:=by first|exact md _ (by decide) (by decide)|rfl):Ay X (.Compare a [op] [b] pos) t:=λpins s σ H Q I hw=>wpAny_Compare1 (h pins s σ H Q I hw) h1
def oA{op:Kg}{t:TE}(h:Yu X op a b t)(h1:Io op b=false:=by first|exact md _ (by decide) (by decide)|rfl):Fm X (.Compare a [op] [b] pos) (g7 t):=by intro pins s σ H Q I hw;refine wpAny_isTrue_Compare1 (Bb (h pins s σ H _ I hw) λv s1 h1=>Bb h1 λu s2 h2=>Bb h2 λc s3⟨x,H1,B5,AK,An⟩=>?_) h1;obtain⟨d,rfl,q⟩:=An;cases AK;exact LR ⟨H1,B5,q⟩
def aas{e:AT}{t:TE}(h:Ay X e t)(he:∀whole,isTrue e X.env whole=(do let v <-whole;N6 e.pos;K6 [v] (truthy v)):=by intro _;rfl):Fm X e (g7 t):=by intro pins s σ H Q I hw;refine isTrue_plain (Bb (h pins s σ H _ I hw) λv s1⟨x,H1,B5,AK,An⟩=>?_) (he _);obtain⟨d,rfl,q⟩:=An;cases AK;exact LR ⟨H1,B5,q⟩
variable{F7 a_:TT}{rest:List AT}
def oy(t u:TT):TT:=λσ H Q=>t σ H λc H1=>if c=true then u σ H1 Q else Q false H1
def qe(t u:TT):TT:=λσ H Q=>t σ H λc H1=>if c=true then Q true H1 else u σ H1 Q
def qc(t:TT):TT:=λσ H Q=>t σ H λc H1=>Q (!c) H1
def aaz(AB:Fm X a F7):Jp X (.BoolOp .And [a] pos) F7:=by
 intro SF pins s σ H Q I h;refine isTrue_and (Bb (AB pins s σ H Q I h) λc s1 e=>?_);cases c with
 |true=>exact isTrue_and_nil e
 |false=>exact e
def ab1(AB:Fm X a F7):Jp X (.BoolOp .Or [a] pos) F7:=by
 intro SF pins s σ H Q I h;refine isTrue_or (Bb (AB pins s σ H Q I h) λc s1 e=>?_);cases c with
 |false=>exact isTrue_or_nil e
 |true=>exact e
def aay(AB:Fm X a F7)(A0:Jp X (.BoolOp .And (b::rest) pos) a_):Jp X (.BoolOp .And (a::b::rest) pos) (oy F7 a_):=by
 intro SF pins s σ H Q I h;refine isTrue_and (Bb (AB pins s σ H _ I h) λc s1⟨H1,B5,An⟩=>?_);cases c with
 |true=>exact A0 SF pins s1 σ H1 Q B5 An
 |false=>exact⟨H1,B5,An⟩
def ab0(AB:Fm X a F7)(A0:Jp X (.BoolOp .Or (b::rest) pos) a_):Jp X (.BoolOp .Or (a::b::rest) pos) (qe F7 a_):=by
 intro SF pins s σ H Q I h;refine isTrue_or (Bb (AB pins s σ H _ I h) λc s1⟨H1,B5,An⟩=>?_);cases c with
 |true=>exact⟨H1,B5,An⟩
 |false=>exact A0 SF pins s1 σ H1 Q B5 An
def aar(AB:Fm X a F7):Fm X (.UnaryOp .Not a pos) (qc F7):=by intro pins s σ H Q I h;exact isTrue_not (AB pins s σ H (λc H1=>Q (!c) H1) I h)
def oz(C3 tb:TE):TE:=λσ H Q=>C3 σ H λx H1=>∃c,x=.Aa c/\if c=true then tb σ H1 Q else Q (.Aa false) H1
def qd(C3:TE):TE:=λσ H Q=>C3 σ H λx H1=>∃c,x=.Aa c/\Q (.Aa (!c)) H1
def abA{op}{t:TE}(h:Ay X a t):Ay X (.BoolOp op [a] pos) t:=λpins s σ H Q I hw=>BoolOp_one (h pins s σ H Q I hw)
def aa5(AB:Ay X a C3)(A0:Ay X (.BoolOp .And (b::rest) pos) tb):Ay X (.BoolOp .And (a::b::rest) pos) (oz C3 tb):=by
 intro pins s σ H Q I h;refine BoolOp_and (Bb (AB pins s σ H _ I h) λv s1⟨x,H1,B5,AK,An⟩=>?_);obtain⟨c,rfl,An⟩:=An;cases AK;refine LR ?_;cases c with
 |true=>exact A0 pins s1 σ H1 Q B5 An
 |false=>exact⟨.Aa false,H1,B5,rfl,An⟩
def ab9(AB:Ay X a C3):Ay X (.UnaryOp .Not a pos) (qd C3):=by intro pins s σ H Q I h;refine UnaryOp_ (Bb (AB pins s σ H _ I h) λv s1⟨x,H1,B5,AK,An⟩=>?_);obtain⟨c,rfl,An⟩:=An;cases AK;exact not_of (LR ⟨.Aa (!c),H1,B5,rfl,An⟩)
def q_(t:TT)(C3 tb:TE):TE:=λσ H Q=>t σ H λc H1=>if c=true then C3 σ H1 Q else tb σ H1 Q
def zf{c:AT}(AO:Fm X c F7)(AB:Ay X a C3)(A0:Ay X b tb):Ay X (.IfExp c a b pos) (q_ F7 C3 tb):=by
 intro pins s σ H Q I h;refine wpAny_IfExp (Bb (AO pins s σ H _ I h) λd s1⟨H1,B5,An⟩=>?_);cases d with
 |true=>exact AB pins s1 σ H1 Q B5 An
 |false=>exact A0 pins s1 σ H1 Q B5 An
end
noncomputable def C4(K:AY)(H:AA)(a:A7)(xs:List V):Prop:=
 Eu H a (.lst xs)\/
  ∃(o:Obj)(its:Array A4)(n:Nat),K.lookup a=some o/\o.cls=.type "list"/\o.dict=none/\o.data=.seq its n/\its.size<=CF/\Vals xs its.toList
noncomputable def CK(K:AY)(H:AA)(a:A7)(xs:List V):Prop:=
 Eu H a (.tup xs)\/
  ∃(o:Obj)(its:Array A4)(n:Nat),K.lookup a=some o/\o.cls=.type "tuple"/\o.data=.seq its n/\its.size<=CF/\Vals xs its.toList
noncomputable def sd:A4->Option V
 |.none=>some .non
 |.bool b=>some (.Aa b)
 |.int i _=>some (.int i)
 |.str x _=>some (.str x)
 |.bytes b _=>some (.NR b)
 |.float b _=>some (.YN b)
 |.ref a=>some (.ref a)
 |.type n=>some (.ty n)
 |_=>none
def RelV.abs{x:V}{u:A4}(r:RelV x u):sd u=some x:=by
 cases x with
 |non=>cases r;rfl
 |Aa _=>cases r;rfl
 |int _=>obtain⟨t,rfl⟩:=r;rfl
 |str _=>obtain⟨t,rfl⟩:=r;rfl
 |NR _=>obtain⟨t,rfl⟩:=r;rfl
 |YN _=>obtain⟨t,rfl⟩:=r;rfl
 |ref _=>cases r;rfl
 |ty _=>cases r;rfl
def RelV.inj{x y:V}{u:A4}(r:RelV x u)(q:RelV y u):x=y:=FA (r.abs.symm.trans q.abs)
theorem Vals.inj:∀{xs ys:List V}{us:List A4},Vals xs us->Vals ys us->xs=ys
 |_,_,_,.nil,.nil=>rfl
 |_,_,_,.cons r t,.cons BO t'=>by rw[r.inj BO,Vals.inj t t']
section
variable{X:Af}{pins:List (A7×Obj)}{σ :St}{H:AA}{s:AP}{a:A7}{xs ys:List V}
def C4.of{K:AY}(h:H a=some (.lst xs)):C4 K H a xs:=.inl (.inl h)
def CK.of{K:AY}(h:H a=some (.tup xs)):CK K H a xs:=.inl (.inl h)
def Inv.list(I:Inv X pins σ H s)(h:C4 X.K H a xs):∃its:List A4,Vals xs its/\PlainL s.heap a its.toArray/\xs.length<=CF:=by
 rcases h with h|⟨o,its,n,AL,AO,hd,AN,Ar,r⟩
 .obtain⟨z,its,n,r,e⟩:=h.ok I.Ba;exact⟨its,r,⟨_,n,e,rfl,rfl,rfl⟩,z⟩
 .refine⟨its.toList,r,⟨o,n,I.EM a o AL,AO,hd,by simpa using AN⟩,?_⟩;have e:=r.length;simp only[Uw]at e;lia
def Inv.tuple(I:Inv X pins σ H s)(h:CK X.K H a xs):∃its:List A4,Vals xs its/\IsTup s.heap a its.toArray/\xs.length<=CF:=by
 rcases h with h|⟨o,its,n,AL,AO,AN,Ar,r⟩
 .obtain⟨z,its,r,p⟩:=h.ok I.Ba;exact⟨its,r,p,z⟩
 .refine⟨its.toList,r,⟨o,I.EM a o AL,AO,n,by simpa using AN⟩,?_⟩;have e:=r.length;simp only[Uw]at e;lia
def Inv.e8(I:Inv X pins σ H s)(h:C4 X.K H a xs)(h':C4 X.K H a ys):xs=ys:=by
 obtain⟨its,r,⟨o,n,e,_,_,d⟩,_⟩:=I.list h;obtain⟨its',BO,⟨Ce,QN,CV,_,_,d'⟩,_⟩:=I.list h';rw[e]at CV;cases CV;rw[d]at d';injection d' with d1 _;have:its=its':=by simpa using congrArg Array.toList d1
 subst this;exact r.inj BO
def Inv.gK(I:Inv X pins σ H s)(h:CK X.K H a xs)(h':CK X.K H a ys):xs=ys:=by
 obtain⟨its,r,⟨o,e,_,n,d⟩,_⟩:=I.tuple h;obtain⟨its',BO,⟨Ce,CV,_,QN,d'⟩,_⟩:=I.tuple h';rw[e]at CV;cases CV;rw[d]at d';injection d' with d1 _;have:its=its':=by simpa using congrArg Array.toList d1
 subst this;exact r.inj BO
end
abbrev Af.Nt(X:Af)(E:A4->AP->Prop):Af:={ X with xe:=E }
abbrev Af.KP(X:Af):Af:=X.Nt λ_ _=>False
theorem Af.Ok.Nt{X:Af}(ok:X.Ok)(E:A4->AP->Prop):(X.Nt E).Ok:=
 ⟨ok.mod,ok.kind,ok.glob,ok.blt,ok.above,ok.inj,ok.has,ok.VX,ok.hd,ok.frames,ok.S7,ok.jp,ok.bs,ok.Ph,ok.SX,ok.YL,ok.Li,ok.Re⟩
def Af.Ok.Qp{X:Af}{E:A4->AP->Prop}(ok:(X.Nt E).Ok):X.Ok:=
 ⟨ok.mod,ok.kind,ok.glob,ok.blt,ok.above,ok.inj,ok.has,ok.VX,ok.hd,ok.frames,ok.S7,ok.jp,ok.bs,ok.Ph,ok.SX,ok.YL,ok.Li,ok.Re⟩
section
variable{X:Af}{pins:List (A7×Obj)}{σ :St}{H:AA}{s:AP}{E:A4->AP->Prop}
theorem Inv.Nt(I:Inv X pins σ H s)(E:A4->AP->Prop):Inv (X.Nt E) pins σ H s:=⟨I.ok.Nt E,I.os,I.bare,I.base,I.loc,I.cell,I.free,I.NW,I.pin,I.Ba,I.len⟩
theorem Inv.Qp(I:Inv (X.Nt E) pins σ H s):Inv X pins σ H s:=⟨I.ok.Qp,I.os,I.bare,I.base,I.loc,I.cell,I.free,I.NW,I.pin,I.Ba,I.len⟩
theorem S2.Qp{D:Ends}{f:Flow}{s':AP}(h:S2 (X.Nt E) pins D f s'):S2 X pins D f s':=by
 cases f with
 |next=>obtain⟨σ',H',I,q⟩:=h;exact⟨σ',H',I.Qp,q⟩
 |brk=>obtain⟨σ',H',I,q⟩:=h;exact⟨σ',H',I.Qp,q⟩
 |cont=>obtain⟨σ',H',I,q⟩:=h;exact⟨σ',H',I.Qp,q⟩
 |ret u=>obtain⟨v,σ',H',I,r,q⟩:=h;exact⟨v,σ',H',I.Qp,r,q⟩
theorem Gg.KP{st:List BW}{t:F_}(h:Gg X.KP st t):Gg X st t:=λpins s σ H D I hw=>
 Ip (h pins s σ H D (I.Nt _) hw) (λ_ _ q=>q.Qp) λ_ _ z=>Ka z
end
section
variable{X:Af}{st:BW}{rest:List BW}{t u:F_}{e:AT}{E7:TE}{pos:Pos}
def gC:F_:=λD σ H=>D.BC σ H
def gD(t u:F_):F_:=λD σ H=>t { D with BC:=u D } σ H
def o9:Gg X [] gC:=λ_ _ σ H _ I h=>Xn ⟨σ,H,I,h⟩
def o8(h1:DX X st t)(h2:Gg X rest u):Gg X (st::rest) (gD t u):=by
 intro pins s σ H D I h;refine wpAny_execs_cons (Bb (h1 pins s σ H { D with BC:=u D } I h) λf s1 q=>?_);cases f with
 |next=>obtain⟨σ',H',NJ,q⟩:=q;exact h2 pins s1 σ' H' D NJ q
 |ret v=>exact q
 |brk=>exact q
 |cont=>exact q
def e3(h1:DX X st t):Gg X [st] t:=by
 intro pins s σ H D I h;refine wpAny_execs_cons (Bb (h1 pins s σ H D I h) λf s1 q=>?_);cases f with
 |next=>exact Xn q
 |ret v=>exact q
 |brk=>exact q
 |cont=>exact q
def Inv.quiet{pins:List (A7×Obj)}{σ :St}{H:AA}{s:AP}(I:Inv X pins σ H s):interactive X.env=false:=by simp[interactive,I.ok.kind]
def qY(E7:TE):F_:=λD σ H=>E7 σ H λ_ H1=>D.BC σ H1
def b2(he:Ay X e E7)(AN:PW e none pos.line X.env=pure false:=by rfl):DX X (.Expr e pos) (qY E7):=by intro pins s σ H D I h;exact wpAny_Expr_any (Bb (he pins s σ H _ I h) λv s1⟨x,H1,B5,AK,An⟩=>⟨σ,H1,B5,An⟩) I.quiet AN
def ag(E7:TE):F_:=λD σ H=>E7 σ H D.E6
def X6(he:Ay X e E7):DX X (.Return (some e) pos) (ag E7):=by intro pins s σ H D I h;exact wpAny_Return_some (Bb (he pins s σ H _ I h) λv s1⟨x,H1,B5,AK,An⟩=>⟨x,σ,H1,B5,AK,An⟩)
def gA(c:TT)(t u:F_):F_:=λD σ H=>c σ H λb H1=>if b=true then t D σ H1 else u D σ H1
def o6{c:AT}{a b:List BW}{Go:TT}(AO:Fm X c Go)(AB:Gg X a t)(A0:Gg X b u):DX X (.If c a b pos) (gA Go t u):=by
 intro pins s σ H D I h;refine wpAny_If (Bb (AO pins s σ H _ I h) λd s1⟨H1,B5,An⟩=>?_);cases d with
 |true=>exact AB pins s1 σ H1 D B5 An
 |false=>exact A0 pins s1 σ H1 D B5 An
def qb:F_:=λ_ _ _=>False
def o7:DX X st qb:=λ_ _ _ _ _ _ h=>h.elim
end
abbrev IR:=V->St->AA->(St->AA->Prop)->Prop
abbrev NL:=List V->St->AA->(St->AA->Prop)->Prop
noncomputable def K8(X:Af)(target:AT)(t:IR):Prop:=
 ∀(pins:List (A7×Obj))(s:AP)(σ :St)(H:AA)(v:V)(u:A4)(Q:St->AA->Prop),Inv X pins σ H s->RelV v u->t v σ H Q->
  Ae (B2 X.prog X.w) X.A (Ke target X.env u) (λ_ s'=>∃ σ' H',Inv X pins σ' H' s'/\Q σ' H') X.xe s
noncomputable def VP(X:Af)(Au:List AT)(t:NL):Prop:=
 ∀(pins:List (A7×Obj))(s:AP)(σ :St)(H:AA)(vs:List V)(us:List A4)(Q:St->AA->Prop),Inv X pins σ H s->Vals vs us->t vs σ H Q->
  Ae (B2 X.prog X.w) X.A (assignInOrder ((LY Au X.env).map (·.2)) us) (λ_ s'=>∃ σ' H',Inv X pins σ' H' s'/\Q σ' H') X.xe s
abbrev i0:=V->V->V->AA->(AA->Prop)->Prop
noncomputable def jF(X:Af)(t:i0):Prop:=
 ∀(pins:List (A7×Obj))(s:AP)(σ :St)(H:AA)(o i v:V)(D1 G5 u:A4)(Q:AA->Prop),Inv X pins σ H s->RelV o D1->RelV i G5->RelV v u->t o i v H Q->
  Ae (B2 X.prog X.w) X.A (setItem D1 G5 u) (λ_ s'=>∃H',Inv X pins σ H' s'/\Q H') X.xe s
section
variable{X:Af}{pos:Pos}
def KD(i:Nat):IR:=λv σ H Q=>Q (σ.set i (some v)) H
def ay{i:Nat}{x:Str}(hN:X.N.Nodup)(AC:X.N[i]?=some x)(AH:Loc X.env.scope x)(hf:X.fn x=true\/X.env.scope.names.lookup x=some .local:=by first|exact .inl rfl|exact .inr rfl|assumption):K8 X (.Name x pos) (KD i):=by intro pins s σ H v u Q I r h;exact wpAny_assign_Name (oo I hN AC AH r (λs' NJ=>⟨_,H,NJ,h⟩) hf)
def YQ:NL:=λvs σ H Q=>vs=[]/\Q σ H
def WJ(t:IR)(u:NL):NL:=λvs σ H Q=>∃v r,vs=v::r/\t v σ H λσ' H'=>u r σ' H' Q
def oj:VP X [] YQ:=by intro pins s σ H vs us Q I r h;obtain⟨e,h⟩:=h;subst e;cases r;exact assignInOrder_nil ⟨σ,H,I,h⟩
def dz{e:AT}{A6:List AT}{t:IR}{u:NL}(h1:K8 X e t)(h2:VP X A6 u)(AN:(LY (e::A6) X.env).map (·.2)=Ke e X.env::(LY A6 X.env).map (·.2):=by rfl):VP X (e::A6) (WJ t u):=by
 intro pins s σ H vs us Q I r h;obtain⟨v,Kl,A9,h⟩:=h;subst A9;cases r with
 |cons r Ml=>rw[AN];refine assignInOrder_cons (Bb (h1 pins s σ H _ _ _ I r h) λ_ s1⟨σ1,H1,B5,An⟩=>?_);exact h2 pins s1 σ1 H1 _ _ Q B5 Ml An
def YR(K:AY)(n:Nat)(t:NL):IR:=λv σ H Q=>∃a xs,v=.ref a/\CK K H a xs/\xs.length=n/\t xs σ H Q
def oi{A6:List AT}{k:Nat}{t:NL}{n:Nat}(AO:X.calm=true)(h:VP X A6 t)(AS:(LY A6 X.env).length=n:=by rfl)(OD:(LY A6 X.env).findIdx? (·.1)=none:=by rfl):K8 X (.Tuple A6 k pos) (YR X.K n t):=by intro pins s σ H v u Q I r hw;obtain⟨a,xs,A9,AX,AQ,hw⟩:=hw;subst A9;cases r;obtain⟨its,CE,Av,Ar⟩:=I.tuple AX;refine assign_Tuple_tuple (I.ok.hd AO) Av (by simp[AS,<-AQ,CE.length]) OD λh' AH=>?_;have B5:Inv X pins σ H { s with heap:=h' }:=I.kept (t':=s.toks) λb o e=>AH b o (Fe (DT e)) e;exact h pins _ σ H xs _ Q B5 (by simpa using CE) hw
def va(to a7:TE)(t:i0):IR:=λv σ H Q=>to σ H λo H1=>a7 σ H1 λi Ax=>t o i v Ax λCp=>Q σ Cp
def abF {o i:AT} {to a7:TE} {t:i0} (AM:Ay X o to) (AC:Ay X i a7) (AN:jF X t)(AB:∀v,Ke (.Subscript o i pos) X.env v=(do
    let D1 <-K6 [v] (BK o X.env)
    let G5 <-K6 [v,D1] (BK i X.env)
    N6 pos
    K6 [v,D1,G5] (setItem D1 G5 v)
    release [v,D1,G5] []):=by intro _;rfl):K8 X (.Subscript o i pos) (va to a7 t):=by
 intro pins s σ H v u Q I r h;rw[AB];refine AJ (K5 (Bb (AM pins s σ H _ I h) λD1 s1⟨x,H1,B5,AK,An⟩=>?_));refine AJ (K5 (Bb (AC pins s1 σ H1 _ B5 An) λG5 s2⟨y,Ax,Bo,B4,BG⟩=>?_));refine AJ (wpAny_standAt (AJ (K5 (Bb (AN pins s2 σ Ax x y v D1 G5 u _ Bo AK B4 r BG) λ_ s3⟨Cp,Dk,EO⟩=>?_))));exact wpAny_release ⟨σ,Cp,Dk,EO⟩
def Oq(E7:TE)(g:IR):F_:=λD σ H=>E7 σ H λx H1=>g x σ H1 D.BC
def o4{Bt e:AT}{E7:TE}{g:IR}(he:Ay X e E7)(Ah:K8 X Bt g)(AN:swapsWithSole [Bt] e pos.line X.env=pure false:=by rfl)(hw:swappedStores [Bt] e X.env=pure none:=by rfl)(h1:(LY [Bt] X.env).map (·.2)=[Ke Bt X.env]:=by rfl):DX X (.Assign [Bt] e pos) (Oq E7 g):=by intro pins s σ H D I h;refine wpAny_Assign_stores (Bb (he pins s σ H _ I h) λv s1⟨x,H1,B5,AK,An⟩=>?_) AN hw;rw[h1];exact Bb (Ah pins s1 σ H1 x v _ B5 AK An) λ_ s2 q=>q
def b3{i:Nat}{x:Str}{e:AT}{E7:TE}{pos':Pos}(hN:X.N.Nodup)(AC:X.N[i]?=some x)(AH:Loc X.env.scope x)(he:Ay X e E7)(AN:PW e (some (.Name x pos')) pos.line X.env=pure false:=by rfl)(hf:X.fn x=true\/X.env.scope.names.lookup x=some .local:=by first|exact .inl rfl|exact .inr rfl|assumption) :
  DX X (.Assign [.Name x pos'] e pos) (Oq E7 (KD i)):=by
 intro pins s σ H D I h;refine wpAny_Assign_Name (Bb (he pins s σ H _ I h) λv s1⟨y,H1,B5,AK,An⟩=>?_) AN;exact oo B5 hN AC AH AK (λs2 Bo=>⟨_,H1,Bo,An⟩) hf
end
section
variable{X:Af}{pos:Pos}
noncomputable def qh(c:TT)(tb:F_):F_:=λD σ H=>∃W:Nat->St->AA->Prop,(∃m,W m σ H)/\∀m σ H,W m σ H->
 c σ H λb H1=>if b=true then ∃N:St->AA->Prop,(∀ σ' H',N σ' H'->∃Ee,Ee<m/\W Ee σ' H')/\tb { D with BC:=N,DB:=N,G1:=D.BC } σ H1 else D.BC σ H1
def aao{c:AT}{body:List BW}{Go:TT}{tb:F_}(Ad:PassesOwn (B2 X.prog X.w) X.A X.env X.xe)(AO:Fm X c Go)(A0:Gg X body tb):DX X (.While c body [] pos) (qh Go tb):=by
 intro pins s σ H D I h;obtain⟨W,⟨m0,Ow⟩,turn⟩:=h;refine wpAny_While (codeAny_whileLoop (λn s'=>∃ σ' H',Inv X pins σ' H' s'/\W n σ' H') ?_ m0 ⟨σ,H,I,Ow⟩);rintro n s1 ⟨σ1,H1,B5,GY⟩;refine R8 Ad (Bb (AO pins s1 σ1 H1 _ B5 (turn n σ1 H1 GY)) λb s2⟨Ax,Bo,BG⟩=>?_);cases b with
 |true=>
  obtain⟨N,hN,BG⟩:=BG;rw[if_pos rfl];refine R8 Ad (Bb (A0 pins s2 σ1 Ax _ Bo BG) λf s3 EO=>?_);cases f with
  |next=>obtain⟨σ3,Cp,Dk,L4⟩:=EO;obtain⟨Ee,hm,Jb⟩:=hN σ3 Cp L4;exact⟨Ee,hm,σ3,Cp,Dk,Jb⟩
  |cont=>obtain⟨σ3,Cp,Dk,L4⟩:=EO;obtain⟨Ee,hm,Jb⟩:=hN σ3 Cp L4;exact⟨Ee,hm,σ3,Cp,Dk,Jb⟩
  |brk=>exact EO
  |ret v=>exact EO
 |false=>rw[if_neg GC];exact Xn ⟨σ1,Ax,Bo,BG⟩
end
structure It where
 go:Nat->AA->Prop
 Jg:Nat->AA->V->AA->Prop
 stop:Nat->AA->Prop
def KO(X:Af)(pins:List (A7×Obj))(H:AA)(b:A7):Prop:=
 H b=none/\b≠X.env.locals/\b∉X.As/\(b∈X.ex\/X.Gn.heap.objs.size<=b)/\(∀x c,X.env.cells.lookup x=some c->c≠b)/\∀p∈X.Bc++pins,p.1≠b
def Inv.Oa{X:Af}{pins:List (A7×Obj)}{σ :St}{H H':AA}{s:AP}{b:A7}(I:Inv X pins σ H s)(A0:s.heap.objs.size<=b)(AS:H' b=none):KO X pins H' b:=by
 refine⟨AS,My (I1 I.lt A0),I.yh A0,.inr (Ff I.KW A0),λx c e z=>?_,λp Ad z=>?_⟩
 .obtain⟨v,q⟩:=I.cell x c e;exact absurd (I1 q.lt (by rw[z];exact A0)) (JC _)
 .exact absurd (I1 (DT (I.pin p Ad).1) (by rw[z];exact A0)) (JC _)
structure Turn(P:Bu)(w:Bh)(K:AY)(Bt:AT)(D6:It)(Ak:List A7)(it:A7)(HR:Nat->BH->Prop):Prop where
 mem:it∈Ak
 obj:∀i h,HR i h->∀b∈Ak,∃o,h.get? b=some o/\∀v,o.data≠.cell v
 keep:∀i h h',HR i h->(∀b∈Ak,∀o,h.get? b=some o->h'.get? b=some o)->HR i h'
 item:∀(X:Af),X.prog=P->X.w=w->X.K=K->X.calm=true->∀(i:Nat)(pins:List (A7×Obj))(s:AP)(σ :St)(H:AA)(E:A4->AP->Prop),Inv X pins σ H s->(∀b∈Ak,KO X pins H b)->HR i s.heap->D6.go i H->
  Ae (B2 P w) X.A (JL (.ref it)) (λr s1=>∃u,r=some u/\
   Ae (B2 P w) X.A (Xo Bt (.ref it) u) (λ_ s2=>∃x H',Inv X pins σ H' s2/\RelV x u/\D6.Jg i H x H'/\HR (i+1) s2.heap/\∀b∈Ak,H' b=none) E s1) E s
 done:∀(X:Af),X.prog=P->X.w=w->X.K=K->X.calm=true->∀(i:Nat)(pins:List (A7×Obj))(s:AP)(σ :St)(H:AA)(E:A4->AP->Prop),Inv X pins σ H s->(∀b∈Ak,KO X pins H b)->HR i s.heap->D6.stop i H->
  Ae (B2 P w) X.A (JL (.ref it)) (λr s1=>r=none/\Inv X pins σ H s1) E s
 self:∀(A:CG)(i:Nat)(s:AP)(Q:A4->AP->Prop)(E:A4->AP->Prop),HR i s.heap->Q (.ref it) s->Ae (B2 P w) A (pyIter (.ref it)) Q E s
abbrev TI:=St->AA->(It->AA->Prop)->Prop
noncomputable def jE(X:Af)(pins:List (A7×Obj))(σ :St)(Bt:AT)(R:It->AA->Prop)(ZJ:A4)(s2:AP):Prop:=
 ∃(it:A7)(Ak:List A7)(HR:Nat->BH->Prop)(D6:It)(H':AA),ZJ=.ref it/\Inv X pins σ H' s2/\Turn X.prog X.w X.K Bt D6 Ak it HR/\HR 0 s2.heap/\(∀b∈Ak,KO X pins H' b)/\R D6 H'
noncomputable def GS(X:Af)(Bt iter:AT)(Ej:TI):Prop:=
 ∀(pins:List (A7×Obj))(s:AP)(σ :St)(H:AA)(R:It->AA->Prop),Inv X pins σ H s->Ej σ H R->
  Ae (B2 X.prog X.w) X.A (BK iter X.env) (λv s1=>Ae (B2 X.prog X.w) X.A (pyIter v) (jE X pins σ Bt R) X.xe s1) X.xe s
def YU{M:Model}{A:CG}{E:A4->AP->Prop}{s:AP}{Bt:AT}{it:A7}{u:A4}{o:Obj}{n:String}{vs:Array A4}{Q:Unit->AP->Prop}(AM:s.heap.get? it=some o)(AO:o.cls=.type n)(hd:o.data=.fields vs)(AS:["enumerate","zip","dict_itemiterator","dict_reverseitemiterator","odict_iterator","itertools.zip_longest","itertools.pairwise"].contains n=false)(Dc:Q () s):Ae M A (Xo Bt (.ref it) u) Q E s:=by
 unfold Xo
 cases Bt<;>first
  |exact B0 Dc
  |(cases u<;>first
      |exact B0 Dc
      |(refine AJ (wpAny_load AM ?_)
        rw[AO,hd];show Ae M A (if(["enumerate","zip","dict_itemiterator","dict_reverseitemiterator","odict_iterator","itertools.zip_longest","itertools.pairwise"].contains n&&vs[0]?==some (Kf _))=true then _ else _) Q E s;rw[if_neg (by intro h;rw[AS,Bool.false_and]at h;cases h)];exact B0 Dc))
def ho(K:AY)(a:A7):It:=
 ⟨λi H=>∃xs x,C4 K H a xs/\xs[i]?=some x,λi H x H'=>H'=H/\∀xs,C4 K H a xs->xs[i]?=some x,λi H=>∃xs,C4 K H a xs/\xs.length<=i⟩
def hq(K:AY)(a:A7):It:=
 ⟨λi H=>∃xs x,CK K H a xs/\xs[i]?=some x,λi H x H'=>H'=H/\∀xs,CK K H a xs->xs[i]?=some x,λi H=>∃xs,CK K H a xs/\xs.length<=i⟩
def VM(lo:Int)(n:Nat):It:=⟨λi _=>i<n,λi H x H'=>H'=H/\x=.int (lo+i),λi _=>n<=i⟩
def aeF{P:Bu}{w:Bh}{K:AY}{Bt:AT}(a it:A7):Turn P w K Bt (ho K a) [it] it (λi h=>h.IsListIter it a i) where
 mem:=by simp
 obj:=λi h st b A0=>by
  have e:b=it:=by simpa using A0
  subst e;obtain⟨o,e,c,d⟩:=st;exact⟨o,e,λv z=>by rw[d]at z;cases z⟩
 keep:=λi h h' st k=>st.at λo e=>k it (by simp) o e
 item:=by intro X Cn hw Ao AO i pins s σ H E I hf st Ah;subst Cn hw Ao;obtain⟨xs,x,AX,AH⟩:=Ah;obtain⟨its,CE,p,Ar⟩:=I.list AX;obtain⟨u,BP,Fb⟩:=CE.get AH;obtain⟨f0,f1,f2,GV,f4,IW⟩:=hf it (by simp);refine wpAny_pyNext_list_item st p.isList (x:=u) (by simpa using BP) λh' Mo Om=>?_;have B5:Inv X pins σ H { s with heap:=h' }:=I.turned (t':=s.toks) (λb o A0 e=>(Om.2 b A0).trans e) f0 f1 GV f4 IW;obtain⟨o,e,c,d⟩:=id Mo;exact⟨u,rfl,YU (s:={ s with heap:=h' }) e c d (by decide) ⟨x,H,B5,Fb,⟨rfl,λys Bf=>by rw[I.e8 Bf AX];exact AH⟩,Mo,λb A0=>(hf b A0).1⟩⟩
 done:=by intro X Cn hw Ao AO i pins s σ H E I hf st Ah;subst Cn hw Ao;obtain⟨xs,AX,AH⟩:=Ah;obtain⟨its,CE,p,Ar⟩:=I.list AX;obtain⟨f0,f1,f2,GV,f4,IW⟩:=hf it (by simp);have AQ:=CE.length;exact wpAny_pyNext_list_end (I.ok.hd AO) st p.isList (by simp;lia) λh' Bi=>⟨rfl,I.turned (t':=s.toks) (λb o A0 e=>Bi b o A0 e) f0 f1 GV f4 IW⟩
 self:=λ_ _ _ _ _ st h=>wpAny_pyIter_listiter st h
def aeI{P:Bu}{w:Bh}{K:AY}{Bt:AT}(a it:A7):Turn P w K Bt (hq K a) [it] it (λi h=>h.IsTupleIter it a i) where
 mem:=by simp
 obj:=λi h st b A0=>by
  have e:b=it:=by simpa using A0
  subst e;obtain⟨o,e,c,d⟩:=st;exact⟨o,e,λv z=>by rw[d]at z;cases z⟩
 keep:=λi h h' st k=>st.at λo e=>k it (by simp) o e
 item:=by intro X Cn hw Ao AO i pins s σ H E I hf st Ah;subst Cn hw Ao;obtain⟨xs,x,AX,AH⟩:=Ah;obtain⟨its,CE,p,Ar⟩:=I.tuple AX;obtain⟨u,BP,Fb⟩:=CE.get AH;obtain⟨f0,f1,f2,GV,f4,IW⟩:=hf it (by simp);refine wpAny_pyNext_tuple_item st (show s.heap.IsTuple a its.toArray from p) (x:=u) (by simpa using BP) λh' Mo Om=>?_;have B5:Inv X pins σ H { s with heap:=h' }:=I.turned (t':=s.toks) (λb o A0 e=>(Om.2 b A0).trans e) f0 f1 GV f4 IW;obtain⟨o,e,c,d⟩:=id Mo;exact⟨u,rfl,YU (s:={ s with heap:=h' }) e c d (by decide) ⟨x,H,B5,Fb,⟨rfl,λys Bf=>by rw[I.gK Bf AX];exact AH⟩,Mo,λb A0=>(hf b A0).1⟩⟩
 done:=by intro X Cn hw Ao AO i pins s σ H E I hf st Ah;subst Cn hw Ao;obtain⟨xs,AX,AH⟩:=Ah;obtain⟨its,CE,p,Ar⟩:=I.tuple AX;obtain⟨f0,f1,f2,GV,f4,IW⟩:=hf it (by simp);have AQ:=CE.length;exact wpAny_pyNext_tuple_end (I.ok.hd AO) st (show s.heap.IsTuple a its.toArray from p) (by simp;lia) λh' Bi=>⟨rfl,I.turned (t':=s.toks) (λb o A0 e=>Bi b o A0 e) f0 f1 GV f4 IW⟩
 self:=λ_ _ _ _ _ st h=>wpAny_pyIter_tupleiter st h
def aeG{P:Bu}{w:Bh}{K:AY}{Bt:AT}(it:A7)(lo:Int)(n:Nat):Turn P w K Bt (VM lo n) [it] it (λi h=>IsRangeIter h it (lo+(i:Nat)*1) ((n:Int)-(i:Nat)) 1) where
 mem:=by simp
 obj:=λi h st b A0=>by
  have e:b=it:=by simpa using A0
  subst e;exact⟨_,st,λv z=>by have GA:Y7 _=T1 v:=z;cases GA⟩
 keep:=λi h h' st k=>k it (by simp) _ st
 item:=by intro X Cn hw Ao AO i pins s σ H E I hf st Ah;subst Cn hw Ao;obtain⟨f0,f1,f2,GV,f4,IW⟩:=hf it (by simp);have W:=Walks.range (prog:=X.prog) (w:=X.w) (I.ok.hd AO) it lo 1 n;refine W.item i s _ _ Ah st λv h' C8 BR Mo kk=>?_;obtain⟨t,rfl⟩:=BR;have B5:Inv X pins σ H { s with heap:=h',toks:=C8 }:=I.turned (λb o A0 e=>kk b o (by simpa using A0) e) f0 f1 GV f4 IW;refine⟨_,rfl,YU (s:={ s with heap:=h',toks:=C8 }) (n:="range_iterator") Mo rfl rfl (by decide) ⟨.int (lo+i),H,B5,⟨t,?_⟩,⟨rfl,rfl⟩,Mo,λb A0=>(hf b A0).1⟩⟩;rw[Int.mul_one]
 done:=by intro X Cn hw Ao AO i pins s σ H E I hf st Ah;subst Cn hw Ao;obtain⟨f0,f1,f2,GV,f4,IW⟩:=hf it (by simp);exact wpAny_pyNext_range_end (I.ok.hd AO) st (by have:n<=i:=Ah;lia) λh' Bi=>⟨rfl,I.turned (t':=s.toks) (λb o A0 e=>Bi b o A0 e) f0 f1 GV f4 IW⟩
 self:=λ_ _ _ _ _ st h=>wpAny_pyIter_rangeiter st h
section
variable{X:Af}{Bt:AT}
def mS(K:AY)(F8:TE):TI:=λσ H R=>F8 σ H λx H1=>∃a,x=.ref a/\(∃xs,C4 K H1 a xs)/\R (ho K a) H1
def mW(K:AY)(F8:TE):TI:=λσ H R=>F8 σ H λx H1=>∃a,x=.ref a/\(∃xs,CK K H1 a xs)/\R (hq K a) H1
def abI{l:AT}{F8:TE}(AQ:Ay X l F8):GS X Bt l (mS X.K F8):=by
 intro pins s σ H R I h;refine Bb (AQ pins s σ H _ I h) λv s1⟨x,H1,B5,AK,An⟩=>?_;obtain⟨a,e,⟨xs,AX⟩,q⟩:=An;subst e;cases AK;obtain⟨its,CE,p,Ar⟩:=B5.list AX;refine hD p.isList ?_;refine⟨s1.heap.objs.size,[s1.heap.objs.size],_,_,H1,rfl,B5.kept (t':=s1.toks) λb o e=>DE _ e,aeF a _,⟨_,FK _ rfl,rfl,rfl⟩,λb A0=>?_,q⟩;have e:b=s1.heap.objs.size:=by simpa using A0
 subst e;exact B5.Oa (CY _) (B5.Ba.fresh (CY _))
def abM{l:AT}{F8:TE}(AQ:Ay X l F8):GS X Bt l (mW X.K F8):=by
 intro pins s σ H R I h;refine Bb (AQ pins s σ H _ I h) λv s1⟨x,H1,B5,AK,An⟩=>?_;obtain⟨a,e,⟨xs,AX⟩,q⟩:=An;subst e;cases AK;obtain⟨its,CE,p,Ar⟩:=B5.tuple AX;refine wpAny_pyIter_tuple (show s1.heap.IsTuple a its.toArray from p) ?_;refine⟨s1.heap.objs.size,[s1.heap.objs.size],_,_,H1,rfl,B5.kept (t':=s1.toks) λb o e=>DE _ e,aeI a _,⟨_,FK _ rfl,rfl,rfl⟩,λb A0=>?_,q⟩;have e:b=s1.heap.objs.size:=by simpa using A0
 subst e;exact B5.Oa (CY _) (B5.Ba.fresh (CY _))
def pQ{pins:List (A7×Obj)}{σ :St}{H:AA}{s:AP}{R:It->AA->Prop}{E:A4->AP->Prop}{lo AC:Int}{t u v:Tok}{C8:Nat}(I:Inv X pins σ H s)(h1: -(2^62)<=lo)(h2:lo<2^62)(h3: -(2^62)<=AC)(h4:AC<2^62)(q:R (VM lo (AC-lo).toNat) H):Ae (B2 X.prog X.w) X.A (pyIter (.ref s.heap.objs.size)) (jE X pins σ Bt R) E { s with heap:=s.heap.push { cls:=.type "range",data:=.fields #[.int lo t,.int AC u,.int 1 v] },toks:=C8 }:=by
 refine wpAny_pyIter_range (IsRange.new ..) (small_one h1 h2 h3 h4) ?_;have B5:Inv X pins σ H { s with heap:=s.heap.push { cls:=.type "range",data:=.fields #[.int lo t,.int AC u,.int 1 v] },toks:=C8 }:=I.kept λb o e=>DE _ e
 refine⟨(s.heap.push { cls:=.type "range",data:=.fields #[.int lo t,.int AC u,.int 1 v] }).objs.size,[(s.heap.push { cls:=.type "range",data:=.fields #[.int lo t,.int AC u,.int 1 v] }).objs.size],_,_,H,rfl,
  B5.kept (t':=C8) λb o e=>DE _ e,aeG _ lo (AC-lo).toNat,?_,λb A0=>?_,q⟩
 .have A9:lo+((0:Nat):Int)*1=lo:=by simp
  have AG:(((AC-lo).toNat:Nat):Int)-((0:Nat):Int)=gW lo AC 1:=by rw[rangeSize_one];split<;>lia
  show IsRangeIter _ _ (lo+((0:Nat):Int)*1) ((((AC-lo).toNat:Nat):Int)-((0:Nat):Int)) 1;rw[A9,AG];exact FK _ rfl
 .have e:b=(s.heap.push { cls:=.type "range",data:=.fields #[.int lo t,.int AC u,.int 1 v] }).objs.size:=by simpa using A0
  subst e;exact B5.Oa (CY _) (B5.Ba.fresh (CY _))
def mT(C3:FC):TI:=λσ H R=>C3 σ H λvs H1=>∃j:Int,vs=[.int j]/\-(2^62)<=j/\j<2^62/\R (VM 0 j.toNat) H1
def mU(C3:FC):TI:=λσ H R=>C3 σ H λvs H1=>∃i j:Int,vs=[.int i,.int j]/\(-(2^62)<=i/\i<2^62/\-(2^62)<=j/\j<2^62)/\R (VM i (j-i).toNat) H1
def abJ{a:AT}{C3:FC}{p pos:Pos}(Ah:EL X "range")(hm:X.mg "range"=none)(AB:Gf X [a] C3)(AN:BF [a] X.env=[(false,BK a X.env)]:=by rfl):GS X Bt (.Call (.Name "range" p) [a] [] pos) (mT C3):=by
 intro pins s σ H R I h;refine Call_ (Oj I Ah hm boot_range (Qz (Bb (AB pos pins s σ H _ I h) λus s1⟨vs,H1,B5,AK,An⟩=>?_) AN rfl));obtain⟨j,e,An,BG,q⟩:=An;subst e;cases AK with
 |cons r Ml=>cases Ml;obtain⟨t,rfl⟩:=r;exact call_range_1 (pQ B5 (by lia) (by lia) An BG (by simpa using q))
def abK{a b:AT}{C3:FC}{p pos:Pos}(Ah:EL X "range")(hm:X.mg "range"=none)(AB:Gf X [a,b] C3)(AN:BF [a,b] X.env=[(false,BK a X.env),(false,BK b X.env)]:=by rfl)(Fq:BF [b] X.env=[(false,BK b X.env)]:=by rfl) :
  GS X Bt (.Call (.Name "range" p) [a,b] [] pos) (mU C3):=by
 intro pins s σ H R I h;refine Call_ (Oj I Ah hm boot_range (Qz (Bb (AB pos pins s σ H _ I h) λus s1⟨vs,H1,B5,AK,An⟩=>?_) (by rw[AN,Fq]) (by rw[Fq];rfl)));obtain⟨i,j,e,⟨An,BG,EO,Sc⟩,q⟩:=An;subst e;cases AK with
 |cons r Ml=>
  cases Ml with
  |cons BO Ml=>cases Ml;obtain⟨t,rfl⟩:=r;obtain⟨t',rfl⟩:=BO;exact call_range_2 (pQ B5 An BG EO Sc q)
noncomputable def qZ(Ej:TI)(g:IR)(tb:F_):F_:=λD σ H=>Ej σ H λD6 H1=>∃W:Nat->Nat->St->AA->Prop,(∃m,W 0 m σ H1)/\∀i m σ H,W i m σ H->
 (D6.stop i H/\D.BC σ H)\/(D6.go i H/\∃N:St->AA->Prop,(∀ σ' H',N σ' H'->∃Ee,Ee<m/\W (i+1) Ee σ' H')/\∀x H',D6.Jg i H x H'->g x σ H' λσ2 Ax=>tb { D with BC:=N,DB:=N,G1:=D.BC } σ2 Ax)
def X5(Ak:List A7)(h:BH):List (A7×Obj):=Ak.filterMap λb=>(h.get? b).map λo=>(b,o)
def Zf{Ak:List A7}{h:BH}{b:A7}{o:Obj}(A0:b∈Ak)(e:h.get? b=some o):(b,o)∈X5 Ak h:=List.mem_filterMap.mpr ⟨b,A0,by rw[e];rfl⟩
def aaF{Ak:List A7}{h:BH}{p:A7×Obj}(Ad:p∈X5 Ak h):p.1∈Ak/\h.get? p.1=some p.2:=by
 obtain⟨b,A0,e⟩:=List.mem_filterMap.mp Ad;cases q:h.get? b with
 |none=>rw[q]at e;cases e
 |some o=>rw[q]at e;have CV:(b,o)=p:=FA e;subst CV;exact⟨A0,q⟩
def Inv.pinned{pins:List (A7×Obj)}{σ :St}{H:AA}{s:AP}{Ak:List A7}(I:Inv X pins σ H s)(hf:∀b∈Ak,KO X pins H b)(AM:∀b∈Ak,∃o,s.heap.get? b=some o/\∀v,o.data≠.cell v):Inv X (pins++X5 Ak s.heap) σ H s:=
 I.o0 λp Ad=>(List.mem_append.mp Ad).elim (λz=>I.pin p (GB _ z)) λz=>by obtain⟨A0,e⟩:=aaF z;obtain⟨f0,f1,f2,_⟩:=hf p.1 A0;obtain⟨o,CV,d⟩:=AM p.1 A0;rw[e]at CV;cases CV;exact⟨e,f0,f1,f2,d⟩
def Inv.a9{pins pl:List (A7×Obj)}{σ :St}{H:AA}{s:AP}(I:Inv X (pins++pl) σ H s):Inv X pins σ H s:=I.o0 λp Ad=>I.pin p (GB _ (HS _ Ad))
def aan{iter:AT}{body:List BW}{Ej:TI}{g:IR}{tb:F_}{pos:Pos}(Ad:PassesOwn (B2 X.prog X.w) X.A X.env X.xe)(AO:X.calm=true)(AC:GS X Bt iter Ej)(Ah:K8 X Bt g)(A0:Gg X body tb)(AN:∀x,PO iter X.env x=pure x:=by intro _;rfl):DX X (.For Bt iter body [] pos) (qZ Ej g tb):=by
 intro pins s σ H D I h;refine wpAny_For (Bb (AC pins s σ H _ I h) λv s1 h1=>Bb h1 λZJ s2 h2=>?_) AN;obtain⟨it,Ak,HR,D6,Ax,e,Bo,T,Lr,f2,W,⟨m0,Ow⟩,turn⟩:=h2;subst e;have stat:∀{H':AA},(∀b∈Ak,H' b=none)->∀b∈Ak,KO X pins H' b:=λAS b A0=>⟨AS b A0,(f2 b A0).2⟩;refine codeAny_forLoop_any (λn s'=>∃i σ' H',Inv X pins σ' H' s'/\HR i s'.heap/\(∀b∈Ak,H' b=none)/\W i n σ' H') ?_ m0 ⟨0,σ,Ax,Bo,Lr,λb A0=>(f2 b A0).1,Ow⟩;rintro n s3 ⟨i,σ3,Cp,Dk,aX,ki,Jb⟩;rcases turn i n σ3 Cp Jb with⟨stop,qn⟩|⟨go,N,hN,step⟩
 .refine R8 Ad (Bb (T.done X rfl rfl rfl AO i pins s3 σ3 Cp X.xe Dk (stat ki) aX stop) λr s4⟨AI,L_⟩=>?_);subst AI;exact Xn ⟨σ3,Cp,L_,qn⟩
 .refine R8 Ad (Bb (T.item X rfl rfl rfl AO i pins s3 σ3 Cp X.xe Dk (stat ki) aX go) λr s4⟨u,AI,h4⟩=>?_);subst AI;refine R8 Ad (Bb h4 λ_ s5⟨x,Jk,TM,PF,aer,UU,YP⟩=>?_);have sP:=TM.pinned (stat YP) (T.obj _ _ UU);refine R8 Ad (Bb (Ah _ s5 σ3 Jk x u _ sP PF (step x Jk aer)) λ_ Gx⟨σ6,TK,VL,ab6⟩=>?_);refine R8 Ad (Bb (A0 _ Gx σ6 TK _ VL ab6) λf Dn QV=>?_);have again:∀{σ7:St}{H2:AA},Inv X (pins++X5 Ak s5.heap) σ7 H2 Dn->N σ7 H2->∃m,m<n/\∃i σ' H',Inv X pins σ' H' Dn/\HR i Dn.heap/\(∀b∈Ak,H' b=none)/\W i m σ' H':=λ{σ7 H2} LD JU=>by
   obtain⟨Ee,hm,ady⟩:=hN σ7 H2 JU;refine⟨Ee,hm,i+1,σ7,H2,LD.a9,T.keep _ _ _ UU λb A0 o e=>(LD.pin (b,o) (GB _ (GB _ (Zf A0 e)))).1,λb A0=>?_,ady⟩;obtain⟨o,e,d⟩:=T.obj _ _ UU b A0;exact(LD.pin (b,o) (GB _ (GB _ (Zf A0 e)))).2.1
  cases f with
  |next=>obtain⟨σ7,H2,LD,JU⟩:=QV;exact again LD JU
  |cont=>obtain⟨σ7,H2,LD,JU⟩:=QV;exact again LD JU
  |brk=>obtain⟨σ7,H2,LD,QV⟩:=QV;exact⟨σ7,H2,LD.a9,QV⟩
  |ret v=>obtain⟨af1,σ7,H2,LD,JZ,QV⟩:=QV;exact⟨af1,σ7,H2,LD.a9,JZ,QV⟩
end
abbrev F1:=V->V->AA->CT->Prop
noncomputable def E9(X:Af)(f:A4->A4->Sem A4)(r:F1):Prop:=
 ∀(pins:List (A7×Obj))(s:AP)(σ :St)(H:AA)(x y:V)(v u:A4)(Q:CT),Inv X pins σ H s->RelV x v->RelV y u->r x y H Q->
  Ae (B2 X.prog X.w) X.A (f v u) (Gc X pins σ Q) X.xe s
noncomputable def Yw(X:Af)(f:A4->Sem A4)(r:V->AA->CT->Prop):Prop:=
 ∀(pins:List (A7×Obj))(s:AP)(σ :St)(H:AA)(x:V)(v:A4)(Q:CT),Inv X pins σ H s->RelV x v->r x H Q->
  Ae (B2 X.prog X.w) X.A (f v) (Gc X pins σ Q) X.xe s
noncomputable def I3(X:Af)(f:A4)(r:List V->AA->CT->Prop):Prop:=
 ∀(pins:List (A7×Obj))(s:AP)(σ :St)(H:AA)(xs:List V)(us:List A4)(Q:CT),Inv X pins σ H s->Vals xs us->r xs H Q->
  Ae (B2 X.prog X.w) X.A (call f us) (Gc X pins σ Q) X.xe s
noncomputable def sX(X:Af)(r:V->AA->(Bool->AA->Prop)->Prop):Prop:=
 ∀(pins:List (A7×Obj))(s:AP)(σ :St)(H:AA)(x:V)(v:A4)(Q:Bool->AA->Prop),Inv X pins σ H s->RelV x v->r x H Q->
  Ae (B2 X.prog X.w) X.A (truthy v) (Yv X pins σ Q) X.xe s
def W_(r:F1)(C3 tb:TE):TE:=λσ H Q=>C3 σ H λx H1=>tb σ H1 λy Ax=>r x y Ax Q
def qg(r:V->AA->CT->Prop)(C3:TE):TE:=λσ H Q=>C3 σ H λx H1=>r x H1 Q
def UM(C:Int->Int->Prop)(g:Int->Int->V):F1:=λx y H Q=>∃i j,x=.int i/\y=.int j/\C i j/\Q (g i j) H
def Nj(g:Int->Int->V):F1:=λx y H Q=>∃i j,x=.int i/\y=.int j/\Q (g i j) H
def oJ(g:Int->V):V->AA->CT->Prop:=λx H Q=>∃i,x=.int i/\Q (g i) H
section
variable{X:Af}{a b c:AT}{C3 tb Go:TE}{pos:Pos}
def cJ(AB:Ay X a C3)(A0:Ay X b tb){pins:List (A7×Obj)}{s:AP}{σ :St}{H:AA}{R:V->V->AA->Prop}(I:Inv X pins σ H s)(h:C3 σ H λx H1=>tb σ H1 λy Ax=>R x y Ax){Q:A4->AP->Prop}{f:A4->A4->Sem A4}(hf:∀v u s2 x y Ax,Inv X pins σ Ax s2->RelV x v->RelV y u->R x y Ax->Ae (B2 X.prog X.w) X.A (f v u) Q X.xe s2) :
  Ae (B2 X.prog X.w) X.A (BK a X.env) (λv DD=>Ae (B2 X.prog X.w) X.A (BK b X.env) (λu Kj=>Ae (B2 X.prog X.w) X.A (f v u) Q X.xe Kj) X.xe DD) X.xe s:=by
 refine Bb (AB pins s σ H _ I h) λv s1⟨x,H1,B5,AK,An⟩=>?_;refine Bb (A0 pins s1 σ H1 _ B5 An) λu s2⟨y,Ax,Bo,B4,BG⟩=>?_;exact hf v u s2 x y Ax Bo AK B4 BG
def dx{op:Operator}{r:F1}(AM:E9 X (JK op) r)(AB:Ay X a C3)(A0:Ay X b tb):Ay X (.BinOp a op b pos) (W_ r C3 tb):=by intro pins s σ H Q I h;exact wpAny_BinOp (cJ AB A0 I h λv u s2 x y Ax Bo BQ Bv q=>AM pins s2 σ Ax x y v u Q Bo BQ Bv q)
def abD{op:UnaryOp}{r:V->AA->CT->Prop}(AM:Yw X (unaryOp op) r)(AB:Ay X a C3):Ay X (.UnaryOp op a pos) (qg r C3):=by intro pins s σ H Q I h;exact UnaryOp_ (Bb (AB pins s σ H _ I h) λv s1⟨x,H1,B5,AK,An⟩=>AM pins s1 σ H1 x v Q B5 AK An)
def au{f:A4->A4->Sem A4}{C:Int->Int->Prop}{g:Int->Int->Int}(rule:∀(i j:Int)(t u:Tok)(s:AP)(Q:A4->AP->Prop)(E:A4->AP->Prop),C i j->Q (.int (g i j) s.toks) { s with toks:=s.toks+1 }->Ae (B2 X.prog X.w) X.A (f (.int i t) (.int j u)) Q E s) :
  E9 X f (UM C λi j=>.int (g i j)):=by
 intro pins s σ H x y v u Q I BQ Bv h;obtain⟨i,j,rfl,rfl,AO,q⟩:=h;obtain⟨t,rfl⟩:=BQ;obtain⟨t',rfl⟩:=Bv;exact rule i j t t' s _ _ AO ⟨.int (g i j),H,I.tok _,⟨_,rfl⟩,q⟩
def oR{f:A4->A4->Sem A4}{g:Int->Int->Int}(rule:∀(i j:Int)(t u:Tok)(s:AP)(Q:A4->AP->Prop)(E:A4->AP->Prop),Q (.int (g i j) s.toks) { s with toks:=s.toks+1 }->Ae (B2 X.prog X.w) X.A (f (.int i t) (.int j u)) Q E s) :
  E9 X f (Nj λi j=>.int (g i j)):=by
 intro pins s σ H x y v u Q I BQ Bv h;obtain⟨i,j,rfl,rfl,q⟩:=h;obtain⟨t,rfl⟩:=BQ;obtain⟨t',rfl⟩:=Bv;exact rule i j t t' s _ _ ⟨.int (g i j),H,I.tok _,⟨_,rfl⟩,q⟩
def dp{f:A4->A4->Sem A4}{g:Int->Int->Bool}(rule:∀(i j:Int)(t u:Tok)(s:AP)(Q:A4->AP->Prop)(E:A4->AP->Prop),Q (.bool (g i j)) s->Ae (B2 X.prog X.w) X.A (f (.int i t) (.int j u)) Q E s) :
  E9 X f (Nj λi j=>.Aa (g i j)):=by
 intro pins s σ H x y v u Q I BQ Bv h;obtain⟨i,j,rfl,rfl,q⟩:=h;obtain⟨t,rfl⟩:=BQ;obtain⟨t',rfl⟩:=Bv;exact rule i j t t' s _ _ ⟨.Aa (g i j),H,I,rfl,q⟩
def YD(i j:Int):Prop:=0<j/\j<1073741824
def YE(i j:Int):Prop:=0<=j/\j<=1000000/\i.natAbs<2^64
def TH(i j:Int):Prop:=(-(2^64)<i/\i<2^64)\/(-(2^64)<j/\j<2^64)
def TH.ok{i j:Int}(h:TH i j):IntMulOk i j:=by
 rcases h with⟨h1,h2⟩|⟨h1,h2⟩
 .exact .of_left (intBits_le_64 h1 h2)
 .exact .of_right (intBits_le_64 h1 h2)
def aaX:E9 X (JK .Add) (Nj λi j=>.int (i+j)):=oR λ_ _ _ _ _ _ _ q=>add_int q
def zt:E9 X (JK .Sub) (Nj λi j=>.int (i-j)):=oR λ_ _ _ _ _ _ _ q=>sub_int q
def zn:E9 X (JK .Mult) (UM TH λi j=>.int (i*j)):=au λ_ _ _ _ _ _ _ AO q=>mul_int q AO.ok
def aaa:E9 X (JK .FloorDiv) (UM YD λi j=>.int (i/j)):=au λi j _ _ _ _ _ AO q=>by have h1:(0:Int)<j:=AO.1;have h2:j<1073741824:=AO.2;exact floordiv_int (by lia) (by rw[Int.fdiv_eq_ediv_of_nonneg i (by lia)];exact q) (.inl (PyProof.noPylong_small (by lia)))
def zm:E9 X (JK .Mod) (UM (λ_ j=>0<j) λi j=>.int (i%j)):=au λi j _ _ _ _ _ AO q=>by have h1:(0:Int)<j:=AO;exact mod_int' (by lia) (by rw[Int.fmod_eq_emod_of_nonneg i (by lia)];exact q)
def zq:E9 X (JK .Pow) (UM YE λi j=>.int (i^j.toNat)):=au λ_ _ _ _ _ _ _ AO q=>pow_int_small AO.1 AO.2.1 AO.2.2 q
def aeP{f:A4->Sem A4}{g:Int->Int}(rule:∀(i:Int)(t:Tok)(s:AP)(Q:A4->AP->Prop)(E:A4->AP->Prop),Q (.int (g i) s.toks) { s with toks:=s.toks+1 }->Ae (B2 X.prog X.w) X.A (f (.int i t)) Q E s) :
  Yw X f (oJ λi=>.int (g i)):=by
 intro pins s σ H x v Q I BQ h;obtain⟨i,rfl,q⟩:=h;obtain⟨t,rfl⟩:=BQ;exact rule i t s _ _ ⟨.int (g i),H,I.tok _,⟨_,rfl⟩,q⟩
def aeQ:Yw X (unaryOp .USub) (oJ λi=>.int (-i)):=aeP λ_ _ _ _ _ q=>neg_int q
end
noncomputable def ph:V->V->Bool
 |.non,.non=>true|.non,.int _=>true|.int _,.non=>true|.non,.Aa _=>true|.Aa _,.non=>true|.non,.str _=>true|.str _,.non=>true
 |.int _,.int _=>true|.Aa _,.Aa _=>true|.str _,.str _=>true|.NR _,.NR _=>true
 |.int _,.str _=>true|.str _,.int _=>true|.Aa _,.str _=>true|.str _,.Aa _=>true
 |_,_=>false
section
variable{X:Af}{a b c:AT}{C3 tb Go:TE}{pos:Pos}
def kc{pins:List (A7×Obj)}{σ :St}{H:AA}{s:AP}{Q:CT}{k k':Bool}(I:Inv X pins σ H s)(q:Q (.Aa k) H)(e:k=k'):Gc X pins σ Q (.bool k') s:=by subst e;exact⟨.Aa k,H,I,rfl,q⟩
def zl:E9 X (GO .Lt) (Nj λi j=>.Aa (decide (i<j))):=dp λ_ _ _ _ _ _ _ q=>lt_int q
def av:E9 X (GO .LtE) (Nj λi j=>.Aa (decide (i<=j))):=dp λ_ _ _ _ _ _ _ q=>le_int q
def oT:E9 X (GO .Gt) (Nj λi j=>.Aa (decide (j<i))):=dp λ_ _ _ _ _ _ _ q=>gt_int q
def oV:E9 X (GO .Is) (λx y H Q=>y=.non/\Q (.Aa (decide (x=.non))) H):=by
 intro pins s σ H x y v u Q I BQ Bv h;obtain⟨rfl,q⟩:=h;cases Bv;refine is_none_gen (kc I q ?_)
 cases x<;>first
  |(cases BQ;rfl)
  |(obtain⟨t,rfl⟩:=BQ;rfl)
def zp:E9 X (GO .IsNot) (λx y H Q=>y=.non/\Q (.Aa (!decide (x=.non))) H):=by
 intro pins s σ H x y v u Q I BQ Bv h;obtain⟨rfl,q⟩:=h;cases Bv;refine isnot_none_gen (kc I q ?_)
 cases x<;>first
  |(cases BQ;rfl)
  |(obtain⟨t,rfl⟩:=BQ;rfl)
def E9.or{f:A4->A4->Sem A4}{r BO:F1}(h:E9 X f r)(h':E9 X f BO):E9 X f (λx y H Q=>r x y H Q\/BO x y H Q):=by
 intro pins s σ H x y v u Q I BQ Bv q;rcases q with q|q
 .exact h pins s σ H x y v u Q I BQ Bv q
 .exact h' pins s σ H x y v u Q I BQ Bv q
def NE(b:AT){op:Kg}(h:op≠.In:=by decide)(h2:op≠.NotIn:=by decide):Io op b=false:=by
 have A9:(op==CmpOp.In)=false:=by cases op<;>first|rfl|exact absurd rfl h
 have AG:(op==CmpOp.NotIn)=false:=by cases op<;>first|rfl|exact absurd rfl h2
 cases b<;>simp[Io,A9,AG]
def aaA{op:Kg}{r:F1}(AM:E9 X (GO op) r)(AB:Ay X a C3)(A0:Ay X b tb)(hm:Io op b=false):Ay X (.Compare a [op] [b] pos) (W_ r C3 tb):=by intro pins s σ H Q I h;exact wpAny_Compare1 (cJ AB A0 I h λv u s2 x y Ax Bo BQ Bv q=>AM pins s2 σ Ax x y v u Q Bo BQ Bv q) hm
def gF(t:TE):TT:=λσ H Q=>t σ H λx H'=>∃k,x=.Aa k/\Q k H'
def aaq{op:Kg}{r:F1}(AM:E9 X (GO op) r)(AB:Ay X a C3)(A0:Ay X b tb)(hm:Io op b=false):Fm X (.Compare a [op] [b] pos) (gF (W_ r C3 tb)):=by
 intro pins s σ H Q I h;refine wpAny_isTrue_Compare1 (Bb (AB pins s σ H _ I h) λv s1⟨x,H1,B5,AK,An⟩=>Bb (A0 pins s1 σ H1 _ B5 An) λu s2⟨y,Ax,Bo,B4,BG⟩=>
  Bb (AM pins s2 σ Ax x y v u _ Bo AK B4 BG) λc s3⟨z,Cp,Dk,DV,k,e,EO⟩=>?_) hm
 subst e;cases DV;exact LR ⟨Cp,Dk,EO⟩
def g9(r BO:F1)(C3 tb Go:TE):TE:=λσ H Q=>C3 σ H λx H1=>tb σ H1 λy Ax=>r x y Ax λz Cp=>∃k,z=.Aa k/\
 (if k=true then Go σ Cp λFk Hg=>BO y Fk Hg Q else Q (.Aa false) Cp)
def aa8{op JY:Kg}{r BO:F1}(AM:E9 X (GO op) r)(Ed:E9 X (GO JY) BO)(AB:Ay X a C3)(A0:Ay X b tb)(AO:Ay X c Go)(hm:lastMarks [op,JY] [b,c]=false:=by with_unfolding_all rfl):Ay X (.Compare a [op,JY] [b,c] pos) (g9 r BO C3 tb Go):=by
 intro pins s σ H Q I h;refine Compare_chain (Bb (AB pins s σ H _ I h) λv s1⟨x,H1,B5,AK,An⟩=>chain_link (Bb (A0 pins s1 σ H1 _ B5 An) λu s2⟨y,Ax,Bo,B4,BG⟩=>
  Bb (AM pins s2 σ Ax x y v u _ Bo AK B4 BG) λd s3⟨z,Cp,Dk,DV,k,e,EO⟩=>?_)) hm
 subst e;cases DV;refine LR ?_;cases k with
 |false=>exact ite_ff ⟨.Aa false,Cp,Dk,rfl,EO⟩
 |true=>exact ite_tt (chain_last (Bb (AO pins s3 σ Cp _ Dk EO) λFk s4⟨GA,Hg,L_,PE,Sc⟩=>Ed pins s4 σ Hg y GA u Fk Q L_ B4 PE Sc))
def aap{op JY:Kg}{r BO:F1}(AM:E9 X (GO op) r)(Ed:E9 X (GO JY) BO)(AB:Ay X a C3)(A0:Ay X b tb)(AO:Ay X c Go)(hm:lastMarks [op,JY] [b,c]=false:=by with_unfolding_all rfl):Fm X (.Compare a [op,JY] [b,c] pos) (gF (g9 r BO C3 tb Go)):=by
 intro pins s σ H Q I h;refine isTrue_chain (Bb (AB pins s σ H _ I h) λv s1⟨x,H1,B5,AK,An⟩=>test_link (Bb (A0 pins s1 σ H1 _ B5 An) λu s2⟨y,Ax,Bo,B4,BG⟩=>
  Bb (AM pins s2 σ Ax x y v u _ Bo AK B4 BG) λd s3⟨z,Cp,Dk,DV,k,e,EO⟩=>?_)) hm
 subst e;cases DV;refine LR ?_;cases k with
 |false=>obtain⟨k',CV,Hw⟩:=EO;cases CV;exact ite_ff ⟨Cp,Dk,Hw⟩
 |true=>refine ite_tt (test_last (Bb (AO pins s3 σ Cp _ Dk EO) λFk s4⟨GA,Hg,L_,PE,Sc⟩=>Bb (Ed pins s4 σ Hg y GA u Fk _ L_ B4 PE Sc) λd' s5⟨Db,Jk,TM,PF,Br,AG,ab5⟩=>?_));subst AG;cases PF;exact LR ⟨Jk,TM,ab5⟩
noncomputable def sY(K:AY)(x:V)(H:AA)(k:Bool):Prop:=
 match x with
 |.non=>k=false
 |.Aa b=>k=b
 |.int i=>k=(i !=0)
 |.str y=>y.length<=CF/\k=((y.length:Int) !=0)
 |.NR y=>y.size<=CF/\k=((y.size:Int) !=0)
 |.ref p=>(∃xs,C4 K H p xs/\k=!xs.isEmpty)\/(∃xs,CK K H p xs/\k=!xs.isEmpty)\/∃Ab,H p=some (.Do Ab)/\k=!Ab.isEmpty
 |_=>False
def x4{κ:Type}{Ab:List (κ×V)}{vs:List (κ×A4)}(r:H8 Ab vs):(!vs.isEmpty)=!Ab.isEmpty:=by cases r<;>rfl
def lz{xs:List V}{its:List A4}(r:Vals xs its):(!its.toArray.isEmpty)=!xs.isEmpty:=by cases r<;>simp
def TZ:(CF:Nat)<2^63:=by rw[Lw];decide
def ags:sX X (λx H Q=>∃k,sY X.K x H k/\Q k H):=by
 intro pins s σ H x v Q I BQ h;obtain⟨k,e,q⟩:=h;have AQ:=TZ;have AN:CF=16777216:=Lw;cases x with
 |non=>cases BQ;have CV:k=false:=e;subst CV;exact truthy_none ⟨H,I,q⟩
 |Aa b=>cases BQ;have CV:k=b:=e;subst CV;exact LR ⟨H,I,q⟩
 |int i=>obtain⟨t,rfl⟩:=BQ;have CV:k=(i !=0):=e;subst CV;exact PySem.P.truthy_int ⟨H,I,q⟩
 |str y=>obtain⟨t,rfl⟩:=BQ;obtain⟨Bf,CV⟩:y.length<=CF/\k=((y.length:Int) !=0):=e;subst CV;exact PySem.P.truthy_str (by lia) ⟨H,I.tok _,q⟩
 |NR y=>obtain⟨t,rfl⟩:=BQ;obtain⟨Bf,CV⟩:y.size<=CF/\k=((y.size:Int) !=0):=e;subst CV;exact PySem.W.truthy_bytes (by lia) ⟨H,I.tok _,q⟩
 |ref p=>
  cases BQ;have CV:(∃xs,C4 X.K H p xs/\k=!xs.isEmpty)\/(∃xs,CK X.K H p xs/\k=!xs.isEmpty)\/∃Ab,H p=some (.Do Ab)/\k=!Ab.isEmpty:=e;rcases CV with⟨xs,AH,CV⟩|⟨xs,AH,CV⟩|⟨Ab,AH,CV⟩
  .subst CV;obtain⟨its,r,pl,Ar⟩:=I.list AH;have hlen:=r.length;exact wpAny_truthy_list pl.isList (by simp only[Dx];lia) ⟨H,I.tok _,by rw[lz r];exact q⟩
  .subst CV;obtain⟨its,r,pl,Ar⟩:=I.tuple AH;have hlen:=r.length;exact truthy_tuple pl (by simp only[Dx];lia) ⟨H,I.tok _,by rw[lz r];exact q⟩
  .subst CV;obtain⟨Ar,Jy,vs,r,m⟩:Ab.length<=CF/\(p==Hl)=false/\∃vs,H8 Ab vs/\s.heap.DictOf (HM X.prog X.w) p vs:=I.Ba p _ AH;have hlen:Ab.length=vs.length:=Paired.length r;exact wpAny_truthy_dict Jy m (by lia) ⟨H,I.tok _,by rw[x4 r];exact q⟩
 |_=>exact(show False from e).elim
def aaY:E9 X (JK .Add) (λx y H Q=>∃i j,x=.str i/\y=.str j/\i.length+j.length<=CF/\Q (.str (i++j)) H):=by intro pins s σ H x y v u Q I BQ Bv h;obtain⟨i,j,rfl,rfl,Ar,q⟩:=h;obtain⟨t,rfl⟩:=BQ;obtain⟨t',rfl⟩:=Bv;exact add_str (λt' C8=>⟨.str (i++j),H,I.tok _,⟨_,rfl⟩,q⟩) Ar
def vals1{x:V}{us:List A4}(r:Vals [x] us):∃u,us=[u]/\RelV x u:=by
 cases r with
 |cons AK B4=>cases B4;exact⟨_,rfl,AK⟩
def vals2{x y:V}{us:List A4}(r:Vals [x,y] us):∃u Fk,us=[u,Fk]/\RelV x u/\RelV y Fk:=by
 cases r with
 |cons AK B4=>
  cases B4 with
  |cons DV PE=>cases PE;exact⟨_,_,rfl,AK,DV⟩
def tk:I3 X (.type "int") (λxs H Q=>(∃i,xs=[.int i]/\Q (.int i) H)\/∃k,xs=[.Aa k]/\Q (.int (if k then 1 else 0)) H):=by
 intro pins s σ H xs us Q I r h;rcases h with⟨i,rfl,q⟩|⟨k,rfl,q⟩
 .obtain⟨u,rfl,t,rfl⟩:=vals1 r;exact call_int_int ⟨.int i,H,I,⟨_,rfl⟩,q⟩
 .obtain⟨u,rfl,AK⟩:=vals1 r;cases AK;exact call_int_bool ⟨.int (if k then 1 else 0),H,I.tok _,⟨_,rfl⟩,q⟩
def t5:I3 X (.type "str") (λxs H Q=>∃i,xs=[.int i]/\i.natAbs.log2<1920/\Q (.str (toString i)) H):=by intro pins s σ H xs us Q I r h;obtain⟨i,rfl,Ar,q⟩:=h;obtain⟨u,rfl,t,rfl⟩:=vals1 r;exact PySem.P.str_of_int Ar ⟨.str _,H,I.tok _,⟨_,rfl⟩,q⟩
noncomputable def jC(K:AY)(x:V)(H:AA)(n:Nat):Prop:=
 match x with
 |.str y=>y.length<=CF/\n=y.length
 |.NR y=>y.size<=CF/\n=y.size
 |.ref p=>(∃xs,C4 K H p xs/\n=xs.length)\/∃xs,CK K H p xs/\n=xs.length
 |_=>False
def t0:I3 X (.builtin "len") (λxs H Q=>∃x n,xs=[x]/\jC X.K x H n/\Q (.int n) H):=by
 intro pins s σ H xs us Q I r h;obtain⟨x,n,rfl,e,q⟩:=h;obtain⟨u,rfl,BQ⟩:=vals1 r;have AQ:=TZ;have AN:CF=16777216:=Lw;cases x with
 |str y=>obtain⟨t,rfl⟩:=BQ;obtain⟨Bf,CV⟩:y.length<=CF/\n=y.length:=e;subst CV;exact len_str (by lia) ⟨.int _,H,I.tok _,⟨_,rfl⟩,q⟩
 |NR y=>obtain⟨t,rfl⟩:=BQ;obtain⟨Bf,CV⟩:y.size<=CF/\n=y.size:=e;subst CV;exact PySem.W.len_bytes (by lia) ⟨.int _,H,I.tok _,⟨_,rfl⟩,q⟩
 |ref p=>
  cases BQ;have CV:(∃xs,C4 X.K H p xs/\n=xs.length)\/∃xs,CK X.K H p xs/\n=xs.length:=e;rcases CV with⟨xs,AH,CV⟩|⟨xs,AH,CV⟩
  .subst CV;obtain⟨its,BO,pl,Ar⟩:=I.list AH;have hlen:=BO.length;exact Calls.call_len_list pl.isList (by simp only[Dx];lia) ⟨.int xs.length,H,I.tok _,⟨_,by simp only[Dx];rw[hlen]⟩,q⟩
  .subst CV;obtain⟨its,BO,pl,Ar⟩:=I.tuple AH;have hlen:=BO.length;exact len_tuple pl (by simp only[Dx];lia) ⟨.int xs.length,H,I.tok _,⟨_,by simp only[Dx];rw[hlen]⟩,q⟩
 |_=>exact(show False from e).elim
end
structure Ry(h:BH)(x Aj C:A7)(EH:Str->Option A4):Prop where
 obj:h.get? x=some (PM C Aj)
 ns:h.Ns1 Aj EH
 ne:Aj≠x
def zF{h:BH}{Aj:A7}{EH:Str->Option A4}(n:h.Ns1 Aj EH):∃Du,h.get? Aj=some Du/\∀name,Xz name Du=some (EH name):=by
 obtain⟨o,A6,BY,AM,hd,AL,_,hm⟩:=n;refine⟨o,AM,λname=>?_⟩;have e:=hm name;unfold nsFind findBy at e;rw[<-Array.find?_toList]at e;unfold Xz;rw[hd];dsimp only
 split
 .rename_i y q;rw[q]at e;exact congrArg some e
 .rename_i q;rw[q]at e;have a:A6.toList.any (·.refKey)=false:=by
   rw[List.any_eq_false];intro y Bf;obtain⟨z,t,Kr⟩:=AL y (Array.mem_toList_iff.mp Bf);simp[DictEntry.refKey,Kr]
  have LL:¬A6.toList.any (·.refKey)=true:=by rw[a];exact GC
  rw[if_neg LL];exact congrArg some e
def Ry.look{h:BH}{x Aj C:A7}{EH:Str->Option A4}(I:Ry h x Aj C EH):∃Du,PySem.W.InstAt h x (PM C Aj) C (some Du)/\∀name,Xz name Du=some (EH name):=
 let⟨Du,AM,AQ⟩:=zF I.ns
 ⟨Du,⟨I.obj,rfl,rfl,AM⟩,AQ⟩
section
variable{prog:Bu}{w:Bh}{A:CG}{E:A4->AP->Prop}{s:AP}{K:AY}{x Aj C f:A7}{EH:Str->Option A4}{name:Str}{v:A4}
def get_map{expr:Bool}{Q:A4->AP->Prop}(X:K.In s.heap)(I:Ry s.heap x Aj C EH)(Ah:R0 K C name=true)(BD:Su K C=true)(AB:GQ K (.ref C) name=some none)(BR:EH name=some v)(wc:PySem.W.handedIn v=true)(h:Q v { s with toks:=s.toks+1 }) :
  Ae (B2 prog w) A (getAttr (.ref x) name expr) Q E s:=by
 obtain⟨Du,D6,AQ⟩:=I.look;exact PySem.W.get_value X D6 (gd Ah).1 (PySem.W.findObj_own BD AB rfl (by rw[AQ,BR])) wc h
def vc{pl:Sem Bool}{Q:A4×List A4->AP->Prop}(X:K.In s.heap)(I:Ry s.heap x Aj C EH)(Ah:R0 K C name=true)(hf:GQ K (.ref C) name=some (some (.ref f)))(Av:V3 K (.ref f)=true)(BR:EH name=none)(h:Q (.ref f,[.ref x]) s) :
  Ae (B2 prog w) A (PX (.ref x) name pl) Q E s:=by
 obtain⟨Du,D6,AQ⟩:=I.look;exact PySem.W.method_fn X D6 (gd Ah).1 (gd Ah).2 hf (beq_iff_eq.mp Av) (by show(Xz name Du).map (·.isSome)=some false;rw[AQ,BR];rfl) h
def ac5{ns:List Str}{Q:Unit->AP->Prop}(X:K.In s.heap)(I:Ry s.heap x Aj C EH)(AN:GQ K (.ref C) "__setattr__"=some (some (.builtin "object.__setattr__")))(Ad:Us K C=true)(Av:gp K C name=some none)(BD:Su K C=true)(hw:hL EH ns)(hsz:ns.length<=CF)(h:∀h',Ry h' x Aj C (λy=>if y=name then some v else EH y)->JH Aj s.heap h'->Q () { s with heap:=h',toks:=s.toks+2 }) :
  Ae (B2 prog w) A (setAttr (.ref x) name v) Q E s:=by
 obtain⟨Du,D6,AQ⟩:=I.look;refine PySem.W.set_plain X D6 AN (PySem.W.osa_open (s:={ s with toks:=s.toks+1 }) (r:=none) X D6 Ad Av λb=>?_);obtain⟨cd,AO,Gu⟩:=PySem.W.any_some BD;have AH:s.heap.get? x=some ⟨.ref C,some Aj,.plain,#[]⟩:=I.obj;refine AJ (B0 (AJ (AJ (wpAny_loadPart AH (AJ (PySem.W.Looks.here (s:={ s with toks:=s.toks+1 }) (PySem.W.looks_clsIn X AO) ?_))))));rw[Gu];refine B0 (a:=some Aj) (AJ (B0 (AJ ?_)));refine wpAny_nsSet1 (s:={ s with toks:=s.toks+1 }) I.ns λh' Zs Fq=>?_;obtain⟨afe,agH,agE,uy,v8,v1⟩:=Zs.count (PySem.Within.cons name v hw);refine AJ (wpAny_lookBehind uy (by rw[v8];exact pastItsLine_dict (Ff v1 (by rw[Hk];lia))) ?_);exact B0 (h _ ⟨(Fq.2 _ (I2 I.ne)).trans I.obj,Zs,I.ne⟩ Fq)
def zS {R:Result->AP->Prop} {vs:List A4} {kw:List (Str×A4)} (X:K.In s.heap) (hm:Uv K C=true)(AC:GQ K (.ref C) "__init__"=some (some (.ref f))) (hf:PySem.W.typeIn K (.ref f)=some (.type "function"))(h:O7 (B2 prog w) (A.under (.builtin "type.__call__" ⟨.ref C::vs,kw⟩)) (.call (.ref f) ⟨.ref (s.heap.objs.size+1)::vs,kw⟩) (PySem.W.InitBack (s.heap.objs.size+1) R)
    { s with heap:=(s.heap.push Nz).push (PM C s.heap.objs.size) }) :
  O7 (B2 prog w) A (.call (.ref C) ⟨vs,kw⟩) R s:=by
 obtain⟨BD,g,d,t,os⟩:=s;exact PySem.W.make_core (PySem.W.makes_of X hm) (PySem.W.looks_findIn X AC) (λself=>PySem.W.bind_fn X self hf) (.inl rfl) h
end
def HN(f:Str)(v:V):List (Str×V)->List (Str×V)
 |[]=>[(f,v)]
 |(g,x)::r=>if g=f then(g,v)::r else(g,x)::HN f v r
theorem nh(f g:Str)(v:V):∀As:List (Str×V),(HN f v As).lookup g=if g=f then some v else As.lookup g
 |[]=>by
  show RD g [(f,v)]=_;by_cases h:g=f
  .have A0:(g==f)=true:=beq_iff_eq.mpr h;simp only[RD,A0,if_pos h]
  .have A0:(g==f)=false:=beq_eq_false_iff_ne.mpr h;simp only[RD,A0,if_neg h]
 |(k,x)::r=>by
  have C6:=nh f g v r;rw[show HN f v ((k,x)::r)=(if k=f then(k,v)::r else(k,x)::HN f v r)from rfl];by_cases AL:k=f
  .rw[if_pos AL];by_cases h:g=k
   .have A0:(g==k)=true:=beq_iff_eq.mpr h;simp only[RD,A0,if_pos (h.trans AL)]
   .have A0:(g==k)=false:=beq_eq_false_iff_ne.mpr h;simp only[RD,A0,if_neg (λe:g=f=>h (e.trans AL.symm))]
  .rw[if_neg AL];by_cases h:g=k
   .have A0:(g==k)=true:=beq_iff_eq.mpr h;simp only[RD,A0,if_neg (λe:g=f=>AL (h.symm.trans e))]
   .have A0:(g==k)=false:=beq_eq_false_iff_ne.mpr h;simp only[RD,A0];exact C6
theorem cV(f:Str)(v:V):∀As:List (Str×V),f∈(HN f v As).map (·.1)/\∀g,g∈As.map (·.1)->g∈(HN f v As).map (·.1)
 |[]=>⟨by simp[HN],λg h=>by simp at h⟩
 |(k,x)::r=>by
  obtain⟨BZ,C0⟩:=cV f v r;rw[show HN f v ((k,x)::r)=(if k=f then(k,v)::r else(k,x)::HN f v r)from rfl];by_cases AL:k=f
  .rw[if_pos AL];subst AL;exact⟨by simp,λg h=>by simpa using h⟩
  .rw[if_neg AL];refine⟨?_,λg h=>?_⟩
   .rw[E3];exact Fv _ BZ
   .rw[E3]at h |-;rcases List.mem_cons.mp h with e|e
    .exact List.mem_cons.mpr (.inl e)
    .exact Fv _ (C0 g e)
theorem n_(f:Str)(v:V):∀As:List (Str×V),(HN f v As).length<=As.length+1
 |[]=>by simp[HN]
 |(k,x)::r=>by
  have C6:=n_ f v r;rw[show HN f v ((k,x)::r)=(if k=f then(k,v)::r else(k,x)::HN f v r)from rfl];by_cases AL:k=f
  .rw[if_pos AL,Hk,Hk];lia
  .rw[if_neg AL,Hk,Hk];lia
def I6.some_of{v:V}{o:Option A4}(r:I6 (some v) o):∃u,o=some u/\RelV v u:=by
 cases o with
 |none=>exact(show False from r).elim
 |some u=>exact⟨u,rfl,r⟩
def I6.none_of{o:Option A4}(r:I6 none o):o=none:=by
 cases o with
 |none=>rfl
 |some u=>exact(show False from r).elim
def vo{v:V}{u:A4}(r:RelV v u):PySem.W.handedIn u=true:=by
 cases v with
 |non=>cases(show u=G_ from r);rfl
 |Aa b=>cases(show u=T3 b from r);rfl
 |int i=>obtain⟨t,e⟩:=(show ∃t,u=Y1 i t from r);cases e;rfl
 |str x=>obtain⟨t,e⟩:=(show ∃t,u=Y2 x t from r);cases e;rfl
 |NR b=>obtain⟨t,e⟩:=(show ∃t,u=Value.bytes b t from r);cases e;rfl
 |YN b=>obtain⟨t,e⟩:=(show ∃t,u=Value.float b t from r);cases e;rfl
 |ref a=>cases(show u=DF a from r);rfl
 |ty n=>cases(show u=O1 n from r);rfl
section
variable{P:Bu}{w:Bh}{K:AY}{H H':AA}{h h':BH}{a C Aj:A7}{As kj:List (Str×V)}
def cx(Ba:Eo P w K H h)(e:H a=some (.ins C Aj As)):∃EH,Ry h a Aj C EH/\(∀f,I6 (As.lookup f) (EH f))/\hL EH (As.map (·.1))/\As.length<=1000/\H Aj=some (.own a):=by obtain⟨d,z,ne,ob,EH,n,r,q⟩:=(show Fl P w K H h a (.ins C Aj As)from Ba a _ e);exact⟨EH,⟨ob,n,ne⟩,r,q,z,d⟩
end
structure Ji(K:AY)(C:A7):Prop where
 abE:R0 K C Y3=true
 hd:Su K C=true
 po:Us K C=true
 Ol:GQ K (.ref C) "__setattr__"=some (some (.builtin "object.__setattr__"))
def Ji.get{K:AY}{C:A7}(c:Ji K C)(f:Str):R0 K C f=true:=c.abE
def Rw(K:AY)(C:A7)(f:Str):Prop:=GQ K (.ref C) f=some none
def Rw.aca{K:AY}{C:A7}{f:Str}(n:Rw K C f):gp K C f=some none:=by unfold gp;rw[show GQ K (.ref C) f=some none from n];rfl
structure Meth(K:AY)(C:A7)(m:Str)(f:A7):Prop where
 at_:GQ K (.ref C) m=some (some (.ref f))
 fn:V3 K (.ref f)=true
 kp:K3 K (.ref f)=true
section
variable{X:Af}{pins:List (A7×Obj)}{σ :St}{H:AA}{s:AP}{a C Aj:A7}{As:List (Str×V)}{f:Str}{v:V}{A:CG}{E:A4->AP->Prop}
def vd{b:Bool}{Q:A4->AP->Prop}(I:Inv X pins σ H s)(e:H a=some (.ins C Aj As))(c:Ji X.K C)(n:Rw X.K C f)(l:As.lookup f=some v)(h:∀u s',Inv X pins σ H s'->RelV v u->Q u s'):Ae (B2 X.prog X.w) A (getAttr (.ref a) f b) Q E s:=by obtain⟨EH,O,r,_,_,_⟩:=cx I.Ba e;obtain⟨u,BP,Fb⟩:=I6.some_of (v:=v) (o:=EH f) (by rw[<-l];exact r f);exact get_map I.EM O (c.get f) c.hd n BP (vo Fb) (h u _ (I.tok _) Fb)
def dD{m:Str}{g:A7}{pl:Sem Bool}{Q:A4×List A4->AP->Prop}(I:Inv X pins σ H s)(e:H a=some (.ins C Aj As))(c:Ji X.K C)(k:Meth X.K C m g)(l:As.lookup m=none)(h:Q (.ref g,[.ref a]) s):Ae (B2 X.prog X.w) A (PX (.ref a) m pl) Q E s:=by obtain⟨EH,O,r,_,_,_⟩:=cx I.Ba e;have AS:EH m=none:=I6.none_of (by rw[<-l];exact r m);exact vc I.EM O (c.get m) k.at_ k.fn AS h
def ac6{y:V}{u:A4}{Q:Unit->AP->Prop}(I:Inv X pins σ H s)(e:H a=some (.ins C Aj As))(c:Ji X.K C)(n:Rw X.K C f)(AQ:As.length<1000)(Bv:RelV y u)(h:∀s',Inv X pins σ (upd H a (.ins C Aj (HN f y As))) s'->Q () s'):Ae (B2 X.prog X.w) A (setAttr (.ref a) f u) Q E s:=by
 obtain⟨EH,O,r,Ej,_,AM⟩:=cx I.Ba e;have Ar:(As.map (·.1)).length<=CF:=by rw[Fw,Lw];lia
 refine ac5 I.EM O c.Ol c.po n.aca c.hd Ej Ar λh' hx Om=>h _ ?_;have hd:∃o,h'.get? Aj=some o:=let⟨o,_,_,CV,_⟩:=hx.ns;⟨o,CV⟩
 refine I.write (x:=a) (e:=Aj) (by rw[e];exact Lx) (.inr AM) (λb q A0 z=>(Om.2 b A0).trans z) hd ?_;refine⟨by rw[Da O.ne];exact AM,?_,O.ne,hx.obj,_,hx.ns,λg=>?_,λg Ah=>?_⟩
 .have:=n_ f y As;lia
 .show I6 ((HN f y As).lookup g) (if g=f then some u else EH g);rw[nh];by_cases q:g=f
  .rw[if_pos q,if_pos q];exact Bv
  .rw[if_neg q,if_neg q];exact r g
 .by_cases q:g=f
  .rw[q];exact(cV f y As).1
  .refine(cV f y As).2 g (Ej g λz=>Ah ?_);show(if g=f then some u else EH g)=none;rw[if_neg q];exact z
def Inv.made(I:Inv X pins σ H s):Inv X pins σ (upd (upd H s.heap.objs.size (.own (s.heap.objs.size+1))) (s.heap.objs.size+1) (.ins C s.heap.objs.size []))
  { s with heap:=(s.heap.push Nz).push (PM C s.heap.objs.size) }:=by
 have A9:(s.heap.push Nz).get? s.heap.objs.size=some Nz:=FK s.heap rfl;have AG:((s.heap.push Nz).push (PM C s.heap.objs.size)).get? (s.heap.objs.size+1)=some (PM C s.heap.objs.size):=by
  have:=FK (s.heap.push Nz) (o:=PM C s.heap.objs.size) rfl
  rwa [LX]at this
 have B3:(s.heap.push Nz).Ns s.heap.objs.size (λ_=>none):=⟨Nz,#[],_,A9,rfl,(λe he=>absurd he (by simp)),λ_=>rfl⟩;have B5:=I.laid (a:=s.heap.objs.size) (o:=.own (s.heap.objs.size+1)) (h':=s.heap.push Nz) (t':=s.toks) (λb u q=>DE _ q) (CY _) ⟨_,A9⟩;refine B5.laid (a:=s.heap.objs.size+1) (o:=.ins C s.heap.objs.size []) (t':=s.toks) (λb u q=>DE _ q) (hM (LX _ _)) ?_;have ne:s.heap.objs.size≠s.heap.objs.size+1:=Fe (Xh _);refine⟨by rw[Da ne,E1],JJ _,ne,AG,λ_=>none,(Heap.Ns1.of_empty B3).at λo q=>DE _ q,λ_=>Lx,λy Bf=>absurd rfl Bf⟩
def sj{prog:Bu}{w:Bh}{env:Env}{e:AT}{f:Str}{pos:Pos}{s:AP}{Q:A4->AP->Prop}(A0:I0 e f env (BK e env)=BK e env)(h:Ae (B2 prog w) A (BK e env) (λo DD=>Ae (B2 prog w) A (getAttr o f true) Q E DD) E s):Ae (B2 prog w) A (BK (.Attribute e f pos) env) Q E s:=
 Attribute_any_ h (by rw[arm_eval_Attribute,A0])
end
def acv(K:AY)(C3:TE)(f:Str):TE:=λσ H Q=>C3 σ H λx H1=>∃a C Aj As v,x=.ref a/\H1 a=some (.ins C Aj As)/\Ji K C/\Rw K C f/\As.lookup f=some v/\Q v H1
noncomputable def acS(K:AY)(C3 Ov:TE)(f:Str):F_:=λD σ H=>Ov σ H λy H1=>C3 σ H1 λx Ax=>∃a C Aj As,x=.ref a/\Ax a=some (.ins C Aj As)/\Ji K C/\Rw K C f/\As.length<1000/\
 D.BC σ (upd Ax a (.ins C Aj (HN f y As)))
section
variable{X:Af}{o e value:AT}{f:Str}{pos pos' Qo:Pos}{C3 Ov:TE}
def dw(he:Ay X e C3)(A0:I0 e f X.env (BK e X.env)=BK e X.env):Ay X (.Attribute e f pos) (acv X.K C3 f):=by intro pins s σ H Q I h;refine sj A0 (Bb (he pins s σ H _ I h) λu s1⟨x,H1,B5,BQ,a,C,Aj,As,v,ex,Aw,c,n,l,q⟩=>?_);subst ex;obtain rfl:u=DF a:=BQ;exact vd B5 Aw c n l λFV s2 Bo Fb=>⟨v,H1,Bo,Fb,q⟩
def e2(AB:Ay X o C3)(BR:Ay X value Ov)(AN:PW value (some (.Attribute o f pos')) pos.line X.env=pure false):DX X (.Assign [.Attribute o f pos'] value pos) (acS X.K C3 Ov f):=by intro pins s σ H D I h;refine plainObj_wpAny_Assign_Attribute (Bb (BR pins s σ H _ I h) λu s1⟨y,H1,B5,Bv,q⟩=>Bb (AB pins s1 σ H1 _ B5 q) λD1 s2⟨x,Ax,Bo,BQ,a,C,Aj,As,ex,Aw,c,n,l,BG⟩=>?_) AN;subst ex;obtain rfl:D1=DF a:=BQ;exact ac6 Bo Aw c n l Bv λs3 Dk=>⟨σ,_,Dk,BG⟩
def agA {pl:Sem Bool} {m:Str} {apos:Pos} {args:List AT} {pins:List (A7×Obj)} {s:AP} {σ :St} {H:AA} {Q:A4->AP->Prop} {E7:TE} (he:Ay X e E7) (I:Inv X pins σ H s)(h:E7 σ H λx H1=>∃a C Aj As g,x=.ref a/\H1 a=some (.ins C Aj As)/\Ji X.K C/\Meth X.K C m g/\As.lookup m=none/\
    ∀s1,Inv X pins σ H1 s1->Ae (B2 X.prog X.w) X.A (RH pos (.ref g) [.ref a] (Cy pos (BF args X.env)) (H6 pos (H5 [] X.env))) Q X.xe s1)
  (Av:BK (.Call (.Attribute e m apos) args [] pos) X.env=(do
    let D1 <-BK e X.env
    N6 apos.atName
    let(f,first) <-K6 [D1] (PX D1 m pl)
    RH pos f first (Cy pos (BF args X.env)) (H6 pos (H5 [] X.env)))) :
  Ae (B2 X.prog X.w) X.A (BK (.Call (.Attribute e m apos) args [] pos) X.env) Q X.xe s:=by
 refine gm (pl:=pl) (Bb (he pins s σ H _ I h) λu s1⟨x,H1,B5,BQ,a,C,Aj,As,g,ex,Aw,c,k,l,q⟩=>?_) Av;subst ex;obtain rfl:u=DF a:=BQ;exact dD B5 Aw c k l (q s1 B5)
end
section
variable{X:Af}{pins:List (A7×Obj)}{σ :St}{H:AA}{s:AP}{A:CG}{E:A4->AP->Prop}{Q:A4->AP->Prop}{c:A4}{b:Bool}
end
structure Dy(k:Nat)(A:CG):Prop where
 hd:A.handled=none
 Ym:A.depth+3*k+5<recursionLimit
 un:A.units+16*k+200<De
def Dy.mono{j k:Nat}{A:CG}(r:Dy k A)(h:j<=k):Dy j A:=⟨r.hd,by have:=r.Ym;lia,by have:=r.un;lia⟩
theorem Dy.deeper{k:Nat}{A:CG}(r:Dy (k+1) A)(env:Env):Dy k (A.deeper env):=
 ⟨r.hd,by have:=r.Ym;show A.depth+1+3*k+5<_;lia,by have:=r.un;show A.units+3+16*k+200<_;lia⟩
def zR{A:CG}{C:A7}{us:List A4}{kw:List (Str×A4)}:(A.under (.builtin "type.__call__" ⟨.ref C::us,kw⟩)).depth=A.depth+1:=by
 first|rfl|simp[hO,Code.weight,Code.isCreation,Code.isGuard,Code.isCaller,Code.frames,hP,guardIds]
def zT{A:CG}{C:A7}{us:List A4}{kw:List (Str×A4)}:(A.under (.builtin "type.__call__" ⟨.ref C::us,kw⟩)).units=A.units+1:=by
 first|rfl|simp[hO,Code.cUnits,Code.frames,hP]
def Dy.make{k:Nat}{A:CG}(r:Dy (k+1) A)(C:A7)(us:List A4)(kw:List (Str×A4)):Dy k (A.under (.builtin "type.__call__" ⟨.ref C::us,kw⟩)):=
 ⟨r.hd,by have:=r.Ym;rw[zR];lia,by have:=r.un;rw[zT];lia⟩
theorem Dy.depth{k:Nat}{A:CG}(r:Dy k A):A.depth<recursionLimit:=by have:=r.Ym;lia
theorem Dy.units{k:Nat}{A:CG}(r:Dy k A):A.units+64<De:=by have:=r.un;lia
def af:FC:=λ_ H Q=>Q [] H
def p0(C3:TE)(Et:FC):FC:=λσ H Q=>C3 σ H λx H1=>Et σ H1 λxs Ax=>Q (x::xs) Ax
section
variable{X:Af}{e:AT}{A6:List AT}{E7:TE}{t:FC}{pos:Pos}
def Sa:Gf X [] af:=λ_ _ _ _ H Q I h=>Ut ⟨[],H,I,.nil,h⟩
def QU(AB:Ay X e E7)(AI:Gf X A6 t)(AN:BF (e::A6) X.env=(false,BK e X.env)::BF A6 X.env:=by rfl):Gf X (e::A6) (p0 E7 t):=by intro pos pins s σ H Q I h;rw[AN];show Ae _ _ (spliced ((false,BK e X.env)::Cy pos (BF A6 X.env))) _ _ s;refine Sk (Bb (AB pins s σ H _ I h) λu s1⟨x,H1,B5,AK,An⟩=>?_);exact Bb (AI pos pins s1 σ H1 _ B5 An) λus s2⟨xs,Ax,Bo,B4,BG⟩=>⟨x::xs,Ax,Bo,.cons AK B4,BG⟩
def qf(t:FC):TE:=λσ H Q=>t σ H λxs H1=>xs.length<=CF/\∀p,H1 p=none->Q (.ref p) (upd H1 p (.tup xs))
def qa(t:FC):TE:=λσ H Q=>t σ H λxs H1=>xs.length<=CF/\∀p,H1 p=none->Q (.ref p) (upd H1 p (.lst xs))
def abC{Ey}(h:Gf X A6 t):Ay X (.Tuple A6 Ey pos) (qf t):=by intro pins s σ H Q I AX;refine wpAny_Tuple_spliced (Bb (h pos pins s σ H _ I AX) λus s1⟨xs,H1,B5,r,z,q⟩=>⟨by rw[<-r.length];exact z,?_⟩);have hf:H1 s1.heap.objs.size=none:=B5.Ba.fresh (CY _);refine⟨.ref s1.heap.objs.size,upd H1 s1.heap.objs.size (.tup xs),B5.laid (t':=s1.toks) (λb u e=>DE _ e) (CY _) ?_,rfl,q _ hf⟩;exact⟨z,us,r,⟨_,FK _ rfl,rfl,_,rfl⟩⟩
def zj(h:Gf X A6 t):Ay X (.List A6 pos) (qa t):=by intro pins s σ H Q I AX;refine wpAny_List_spliced (Bb (h pos pins s σ H _ I AX) λus s1⟨xs,H1,B5,r,z,q⟩=>⟨by rw[<-r.length];exact z,?_⟩);have hf:H1 s1.heap.objs.size=none:=B5.Ba.fresh (CY _);refine⟨.ref s1.heap.objs.size,upd H1 s1.heap.objs.size (.lst xs),B5.laid (t':=s1.toks) (λb u e=>DE _ e) (CY _) ?_,rfl,q _ hf⟩;exact⟨z,us,0,r,FK _ rfl⟩
end
abbrev B9:=List V->AA->CT->DL->Prop
abbrev LZ:=List Env->AA->AP->DL->A4->AP->Prop
structure Rt(P:Bu)(w:Bh)(K:AY)(mg:Str->Option A4)(base:BH)(A:CG)(outer:List Env)(s:AP)(H:AA):Prop where
 frames:A.frames=some outer
 mod:Mod K mg base
 bs:∀b o,base.get? b=some o->s.heap.get? b=some o/\H b=none
 Ph:base.objs.size<=s.heap.objs.size
 Li:s.heap.FunFrames base outer
 Re:∀b∈Ld outer,H b=none
 Ba:Eo P w K H s.heap
 bare:O6 s.gens
noncomputable def iI(outer:List Env)(P:Bu)(w:Bh)(K:AY)(H:AA)(s:AP)(Q:CT)(u:A4)(s':AP):Prop:=
 ∃v H',s'.os=s.os/\O6 s'.gens/\Gh (Ld outer) [] H H' s.heap s'.heap/\Eo P w K H' s'.heap/\RelV v u/\Q v H'
noncomputable def sl(CX:LZ)(outer:List Env)(P:Bu)(w:Bh)(K:AY)(H:AA)(s:AP)(Q:CT)(E:DL)(r:Result)(s':AP):Prop:=
 match r with
 |.ok (.ret u)=>iI outer P w K H s Q u s'
 |.ok _=>False
 |.error e=>CX outer H s E e s'
structure Gd(P:Bu)(w:Bh)(K:AY)(mg:Str->Option A4)(base:BH)(CX:LZ)(k:Nat)(f:A7)(fd:GD)(Ap:List Str)(sp:B9):Prop where
 len:∀vs H Q E,sp vs H Q E->vs.length=Ap.length
 run:∀(A:CG)(outer:List Env)(s:AP)(H:AA)(args:Args)(us:List A4)(vs:List V)(Q:CT)(E:DL),Dy k A->Rt P w K mg base A outer s H->BindsTo s fd args (Ap.zip us)->Vals vs us->sp vs H Q E->
  O7 (B2 P w) A (.call (.ref f) args) (sl CX outer P w K H s Q E) s
def Gd.imp{P:Bu}{w:Bh}{K:AY}{mg:Str->Option A4}{base:BH}{CX:LZ}{k:Nat}{f:A7}{fd:GD}{Ap:List Str}{sp pH:B9}(F:Gd P w K mg base CX k f fd Ap sp)(h:∀vs H Q E,pH vs H Q E->sp vs H Q E):Gd P w K mg base CX k f fd Ap pH:=
 ⟨λvs H Q E q=>F.len vs H Q E (h _ _ _ _ q),λA outer s H args us vs Q E AI he A0 BR AN=>F.run A outer s H args us vs Q E AI he A0 BR (h _ _ _ _ AN)⟩
def Rt.make{P:Bu}{w:Bh}{K:AY}{mg:Str->Option A4}{base:BH}{A:CG}{outer:List Env}{s:AP}{H:AA}(e:Rt P w K mg base A outer s H)(C:A7)(us:List A4)(kw:List (Str×A4)) :
  Rt P w K mg base (A.under (.builtin "type.__call__" ⟨.ref C::us,kw⟩)) outer s H:=⟨by first|exact e.frames|(simpa[hO,Code.envs,hP,pushEnvs]using e.frames),e.mod,e.bs,e.Ph,e.Li,e.Re,e.Ba,e.bare⟩
section
variable{X:Af}{pins:List (A7×Obj)}{σ :St}{H:AA}{s s':AP}
def Inv.ji(I:Inv X pins σ H s):Rt X.prog X.w X.K X.mg X.base X.A X.stack s H:=
 ⟨I.ok.frames,I.ok.mod,I.bs,Ff I.ok.Ph I.KW,I.stack,I.pO,I.Ba,I.bare⟩
def Inv.after{Q:CT}{u:A4}(I:Inv X pins σ H s)(h:iI X.stack X.prog X.w X.K H s Q u s'):Gc X pins σ Q u s':=by obtain⟨v,H',os,bare,un,Ba,r,q⟩:=h;obtain⟨BD,g,d,t,zv⟩:=s';obtain rfl:zv=s.os:=os;exact⟨v,H',I.call (h':=BD) (g':=g) (d':=d) (t':=t) (ch:=[]) un Ba bare (λb z=>absurd z (by simp)),r,q⟩
end
def g8(sp:B9)(HE:List V)(E:DL)(t:FC):TE:=λσ H Q=>t σ H λvs H1=>sp (vs++HE) H1 Q E
def WZ(C:A7)(m:Str)(sp:B9)(HE:List V)(E:DL)(C3:TE)(t:FC):TE:=λσ H Q=>C3 σ H λx H1=>∃a Aj As,x=.ref a/\H1 a=some (.ins C Aj As)/\As.lookup m=none/\
 t σ H1 λvs Ax=>sp (x::(vs++HE)) Ax Q E
noncomputable def gB(C:A7)(sp:B9)(HE:List V)(E:DL)(t:FC):TE:=λσ H Q=>t σ H λvs H1=>∀x Aj,H1 x=none->H1 Aj=none->Aj≠x->
 sp (.ref x::(vs++HE)) (upd (upd H1 Aj (.own x)) x (.ins C Aj [])) (λv Ax=>v=.non/\Q (.ref x) Ax) E
def Binds(K:AY)(fd:GD)(Ap:List Str)(ds:List A4):Prop:=
 ∀(s:AP)(us:List A4),K.In s.heap->(us++ds).length=Ap.length->BindsTo s fd ⟨us,[]⟩ (Ap.zip (us++ds))
def Binds.all{K:AY}{fd:GD}{Ap:List Str}(h:∀us:List A4,us.length=Ap.length->T4 fd ⟨us,[]⟩=pure (Ap.zip us)):Binds K fd Ap []:=λs us _ AQ=>by rw[LP]at AQ |-;exact .of_eq (h us AQ)
def Passes(CX:LZ)(X:Af)(E:DL):Prop:=∀(pins:List (A7×Obj))(σ :St)(H:AA)(s:AP)(e:A4)(s':AP),Inv X pins σ H s->CX X.stack H s E e s'->X.xe e s'
section
variable{X:Af}{CX:LZ}{k:Nat}{f C:A7}{fd:GD}{Ap:List Str}{sp:B9}{HE:List V}{ds:List A4}{E:DL}{x m:Str}{p pos apos:Pos}{e o:AT}{A6:List AT}{C3:TE}{t:FC}
def da{pins:List (A7×Obj)}{σ :St}{H:AA}{s:AP}{Q:CT}{us:List A4}{vs:List V}(F:Gd X.prog X.w X.K X.mg X.base CX k f fd Ap sp)(AI:Dy k X.A)(A0:Binds X.K fd Ap ds)(hd:Vals HE ds)(AH:Passes CX X E)(I:Inv X pins σ H s)(r:Vals vs us)(h:sp (vs++HE) H Q E):Ae (B2 X.prog X.w) X.A (call (.ref f) us) (Gc X pins σ Q) X.xe s:=by
 have B4:Vals (vs++HE) (us++ds):=r.append hd;have AQ:(us++ds).length=Ap.length:=by rw[<-B4.length];exact F.len _ _ _ _ h
 refine wpAny_call (Xu (F.run X.A X.stack s H ⟨us,[]⟩ (us++ds) (vs++HE) Q E AI I.ji (A0 s us I.EM AQ) B4 h) λr s' AX=>?_);cases r with
 |error e=>exact AH pins σ H s e s' I AX
 |ok HF=>
  cases HF with
  |ret u=>exact I.after AX
  |next=>exact Ka AX
  |brk=>exact Ka AX
  |cont=>exact Ka AX
def o_(F:Gd X.prog X.w X.K X.mg X.base CX k f fd Ap sp)(AI:Dy k X.A)(Ah:EL X x)(hm:X.mg x=some (.ref f))(AL:K3 X.K (.ref f)=true)(A0:Binds X.K fd Ap ds)(hd:Vals HE ds)(AH:Passes CX X E)(AB:Gf X (e::A6) t)(HJ:(x==("__debug__" :Str))=false:=by decide)(he:BF (e::A6) X.env=(false,BK e X.env)::BF A6 X.env:=by rfl)(Dt:(Cy pos (BF A6 X.env)).any (·.1)=false:=by rfl) :
  Ay X (.Call (.Name x p) (e::A6) [] pos) (g8 sp HE E t):=by
 intro pins s σ H Q I h;refine Uq (cY I Ah hm ?_ HJ);refine hA (h₀:=X.base) I.ok.mod.JP AL (Bb (AB pos pins s σ H _ I h) λus s1⟨vs,H1,B5,r,q⟩=>⟨B5.EM,?_⟩) he Dt;exact da F AI A0 hd AH B5 r q
def oh {pl:Sem Bool} (he:Ay X o C3) (c:Ji X.K C) (hm:Meth X.K C m f) (F:Gd X.prog X.w X.K X.mg X.base CX k f fd Ap sp) (AI:Dy k X.A) (A0:Binds X.K fd Ap ds) (hd:Vals HE ds) (AH:Passes CX X E) (AB:Gf X (e::A6) t)(OD:BF (e::A6) X.env=(false,BK e X.env)::BF A6 X.env:=by rfl) (Dt:(Cy pos (BF A6 X.env)).any (·.1)=false:=by rfl)(Av:BK (.Call (.Attribute o m apos) (e::A6) [] pos) X.env=(do
    let D1 <-BK o X.env
    N6 apos.atName
    let(f,first) <-K6 [D1] (PX D1 m pl)
    RH pos f first (Cy pos (BF (e::A6) X.env)) (H6 pos (H5 [] X.env))):=by rfl) :
  Ay X (.Call (.Attribute o m apos) (e::A6) [] pos) (WZ C m sp HE E C3 t):=by
 intro pins s σ H Q I h;refine gm (pl:=pl) (Bb (he pins s σ H _ I h) λu s1⟨x,H1,B5,BQ,a,Aj,As,ex,Aw,l,q⟩=>?_) Av;subst ex;obtain rfl:u=DF a:=BQ;refine dD B5 Aw c hm l ?_;refine hA (first:=[.ref a]) (h₀:=X.base) I.ok.mod.JP hm.kp (Bb (AB pos pins s1 σ H1 _ B5 q) λus s2⟨vs,Ax,Bo,r,BG⟩=>⟨Bo.EM,?_⟩) OD Dt;exact da (us:=.ref a::us) (vs:=.ref a::vs) F AI A0 hd AH Bo (.cons rfl r) BG
def zk {pl:Sem Bool} (he:Ay X o C3) (c:Ji X.K C) (hm:Meth X.K C m f) (F:Gd X.prog X.w X.K X.mg X.base CX k f fd Ap sp) (AI:Dy k X.A) (A0:Binds X.K fd Ap ds) (hd:Vals HE ds) (AH:Passes CX X E)(Av:BK (.Call (.Attribute o m apos) [] [] pos) X.env=(do
    let D1 <-BK o X.env
    N6 apos.atName
    let(f,first) <-K6 [D1] (PX D1 m pl)
    RH pos f first (Cy pos (BF [] X.env)) (H6 pos (H5 [] X.env))):=by rfl) :
  Ay X (.Call (.Attribute o m apos) [] [] pos) (WZ C m sp HE E C3 af):=by
 intro pins s σ H Q I h;refine gm (pl:=pl) (Bb (he pins s σ H _ I h) λu s1⟨x,H1,B5,BQ,a,Aj,As,ex,Aw,l,q⟩=>?_) Av;subst ex;obtain rfl:u=DF a:=BQ;refine dD B5 Aw c hm l ?_;exact PySem.W.callWith_K0 (first:=[.ref a]) B5.EM hm.kp (da (us:=[.ref a]) (vs:=[.ref a]) F AI A0 hd AH B5 (.cons rfl .nil) q)
structure VN(K:AY)(C f:A7):Prop where
 makes:Uv K C=true
 init:GQ K (.ref C) "__init__"=some (some (.ref f))
 fn:V3 K (.ref f)=true
 kp:K3 K (.ref C)=true
def acL{pins:List (A7×Obj)}{σ :St}{H:AA}{s:AP}{Q:CT}{us:List A4}{vs:List V}(M:VN X.K C f)(F:Gd X.prog X.w X.K X.mg X.base CX k f fd Ap sp)(AI:Dy (k+1) X.A)(A0:Binds X.K fd Ap ds)(hd:Vals HE ds)(AH:Passes CX X E)(I:Inv X pins σ H s)(r:Vals vs us)(h:∀x Aj,H x=none->H Aj=none->Aj≠x->sp (.ref x::(vs++HE)) (upd (upd H Aj (.own x)) x (.ins C Aj [])) (λv Ax=>v=.non/\Q (.ref x) Ax) E) :
  Ae (B2 X.prog X.w) X.A (call (.ref C) us) (Gc X pins σ Q) X.xe s:=by
 have AX:=h (s.heap.objs.size+1) s.heap.objs.size (I.Ba.fresh (V1 _)) (I.Ba.fresh (CY _)) (Fe (Xh _));have Bo:=Inv.made (C:=C) I;have B4:Vals (V.ref (s.heap.objs.size+1)::(vs++HE)) (DF (s.heap.objs.size+1)::(us++ds)):=.cons rfl (r.append hd);have AQ:(DF (s.heap.objs.size+1)::us++ds).length=Ap.length:=by have e:=B4.length;rw[F.len _ _ _ _ AX]at e;exact e.symm
 refine wpAny_call (zS (f:=f) I.EM M.makes M.init (beq_iff_eq.mp M.fn) (Xu (F.run _ X.stack _ _ ⟨DF (s.heap.objs.size+1)::us,[]⟩ (DF (s.heap.objs.size+1)::(us++ds)) _ _ E (AI.make C us [])
  (Bo.ji.make C us []) (A0 _ (DF (s.heap.objs.size+1)::us) Bo.EM AQ) B4 AX) λr s' Qe=>?_))
 cases r with
 |error e=>exact AH pins σ _ _ e s' Bo Qe
 |ok HF=>
  cases HF with
  |ret u=>obtain⟨v,H',Dk,CE,ev,EO⟩:=Bo.after Qe;subst ev;exact⟨CE,⟨V.ref (s.heap.objs.size+1),H',Dk,rfl,EO⟩⟩
  |next=>exact Ka Qe
  |brk=>exact Ka Qe
  |cont=>exact Ka Qe
def og(M:VN X.K C f)(F:Gd X.prog X.w X.K X.mg X.base CX k f fd Ap sp)(AI:Dy (k+1) X.A)(Ah:EL X x)(hm:X.mg x=some (.ref C))(A0:Binds X.K fd Ap ds)(hd:Vals HE ds)(AH:Passes CX X E)(AB:Gf X (e::A6) t)(HJ:(x==("__debug__" :Str))=false:=by decide)(he:BF (e::A6) X.env=(false,BK e X.env)::BF A6 X.env:=by rfl)(Dt:(Cy pos (BF A6 X.env)).any (·.1)=false:=by rfl) :
  Ay X (.Call (.Name x p) (e::A6) [] pos) (gB C sp HE E t):=by
 intro pins s σ H Q I h;refine Uq (cY I Ah hm ?_ HJ);refine hA (h₀:=X.base) I.ok.mod.JP M.kp (Bb (AB pos pins s σ H _ I h) λus s1⟨vs,H1,B5,r,q⟩=>⟨B5.EM,?_⟩) he Dt;exact acL M F AI A0 hd AH B5 r q
end
noncomputable def Iv(X:Af)(nU:List FY)(t:FC):Prop:=
 ∀(pos:Pos)(pins:List (A7×Obj))(s:AP)(σ :St)(H:AA)(Q:List V->AA->Prop),Inv X pins σ H s->t σ H Q->Ae (B2 X.prog X.w) X.A (evalAll ((H6 pos (H5 nU X.env)).map (·.2))) (iR X pins σ Q) X.xe s
section
variable{X:Af}{CX:LZ}{k:Nat}{f C:A7}{fd:GD}{Ap ks:List Str}{sp:B9}{E:DL}{x m:Str}{p pos apos afx:Pos}{e o:AT}{A6:List AT}{nU:List FY}{E7 C3:TE}{t C8:FC}{nm:Option Str}
variable{g:List A4->List A4->List A4}{agR:List V->List V->List V}
end
structure D2(N P:List Str)(sc:ED):Prop where
 kind:sc.kind=.function
 co:sc.isCoroutine=false
 gen:sc.isGenerator=false
 Am:N.Nodup
 pre:N.take P.length=P
 par:∀x∈P,sc.names.lookup x=some .local\/sc.names.lookup x=some .cell
 yg:∀y∈sc.names,y.2≠.free
theorem j0{JM:Str->Option Kd}{x:Str}:∀{binds:List (Str×A4)}{m:Str->Option A4},(∀v,(x,v)∉binds)->bindL JM binds m x=m x
 |[],_,_=>rfl
 |(n,v)::r,m,h=>by
  unfold bindL;rw[j0 λw hw=>h w (Fv _ hw)]
  split
  .have:x≠n:=by rintro rfl;exact h v Ms
   simp[this]
  .rfl
theorem iy{JM:Str->Option Kd}{x:Str}:∀{binds:List (Str×A4)}{m:Str->Option A4},(∀v,(x,v)∉binds)->bindC JM binds m x=m x
 |[],_,_=>rfl
 |(n,v)::r,m,h=>by
  unfold bindC;rw[iy λw hw=>h w (Fv _ hw)]
  split
  .rfl
  .have:x≠n:=by rintro rfl;exact h v Ms
   simp[this]
theorem iz{JM:Str->Option Kd}{x:Str}{v:A4}:∀{P:List Str}{vs:List A4}{i:Nat}{m:Str->Option A4},P.Nodup->P[i]?=some x->vs[i]?=some v->JM x=some .local->
  bindL JM (P.zip vs) m x=some v
 |[],_,_,_,_,h,_,_=>by simp at h
 |_::_,[],_,_,_,_,h,_=>by simp at h
 |p::P,w::vs,0,m,Am,h1,h2,AL=>by simp at h1 h2;subst h1;subst h2;show bindL JM ((p,w)::P.zip vs) m p=_;unfold bindL;rw[j0 λv BR=>(List.nodup_cons.mp Am).1 (Xb BR).1,if_pos AL];simp
 |p::P,w::vs,i+1,m,Am,h1,h2,AL=>by show bindL JM ((p,w)::P.zip vs) m x=_;unfold bindL;exact iz (i:=i) (List.nodup_cons.mp Am).2 (by simpa using h1) (by simpa using h2) AL
theorem ix{JM:Str->Option Kd}{x:Str}{v:A4}:∀{P:List Str}{vs:List A4}{i:Nat}{m:Str->Option A4},P.Nodup->P[i]?=some x->vs[i]?=some v->JM x≠some .local->
  bindC JM (P.zip vs) m x=some v
 |[],_,_,_,_,h,_,_=>by simp at h
 |_::_,[],_,_,_,_,h,_=>by simp at h
 |p::P,w::vs,0,m,Am,h1,h2,AL=>by simp at h1 h2;subst h1;subst h2;show bindC JM ((p,w)::P.zip vs) m p=_;unfold bindC;rw[iy λv BR=>(List.nodup_cons.mp Am).1 (Xb BR).1,if_neg AL];simp
 |p::P,w::vs,i+1,m,Am,h1,h2,AL=>by show bindC JM ((p,w)::P.zip vs) m x=_;unfold bindC;exact ix (i:=i) (List.nodup_cons.mp Am).2 (by simpa using h1) (by simpa using h2) AL
def start(N:List Str)(vs:List V):St:=vs.map some++Fx (N.length-vs.length) none
noncomputable def Iy(CX:LZ)(P:Bu)(w:Bh)(K:AY)(mg:Str->Option A4)(base:BH)(N:List Str)(qual:Str)(scope:ED)(f:A7)(cd:A4)(A:CG)(outer:List Env)(s:AP)(H:AA)(E:DL):Af where
 prog:=P
 w:=w
 K:=K
 mg:=mg
 base:=base
 A:=A.deeper (O8 qual scope s.heap.objs.size f cd)
 N:=N
 Gn:=s
 VK:=H
 env:=O8 qual scope s.heap.objs.size f cd
 outer:=outer
 stack:=O8 qual scope s.heap.objs.size f cd::outer
 ex:=[]
 calm:=true
 fn:=λ_=>true
 Bc:=[]
 xe:=λe s'=>Ae (B2 P w) (A.deeper (O8 qual scope s.heap.objs.size f cd)) (leaving (O8 qual scope s.heap.objs.size f cd) e) (λ_ XA=>CX outer H s E e XA) (λCV XA=>CX outer H s E CV XA) s'
def bY{sc:ED}{n:Nat}{x:Str}(h:sc.names.lookup x=some .cell):∃c,(Hm n sc.names []).lookup x=some c:=by have q:=rd sc.names n [] (.inl h);exact Option.isSome_iff_exists.mp q
def xm{CX:LZ}{P:Bu}{w:Bh}{K:AY}{mg:Str->Option A4}{base:BH}{N Ap:List Str}{qual:Str}{scope:ED}{f:A7}{cd:A4}{A:CG}{outer:List Env}{s s1:AP}{H:AA}{E:DL}{us:List A4}{vs:List V}(S:D2 N Ap scope)(hd:A.handled=none)(DG:Rt P w K mg base A outer s H)(AQ:vs.length=Ap.length)(r:Vals vs us)(x:InCallC s s.heap.objs.size (bindL (O8 qual scope s.heap.objs.size f cd).kindOf (Ap.zip us) λ_=>none) (Hm (s.heap.objs.size+1) scope.names []) (bindC (O8 qual scope s.heap.objs.size f cd).kindOf (Ap.zip us) λ_=>none) s1) :
  Inv (Iy CX P w K mg base N qual scope f cd A outer s H E) [] (start N vs) H s1:=by
 have Dt:Ap.length<=N.length:=by have:=congrArg Sx S.pre;rw[Ul]at this;lia
 obtain⟨h1,C8,rfl,AL⟩:=x.done;have Wz:∀b:A7,b∉(Iy CX P w K mg base N qual scope f cd A outer s H E).ex:=λb z=>absurd (show b∈([]:List A7)from z) (by simp)
 refine⟨⟨DG.mod,S.kind,rfl,rfl,CY _,λy z c h1 h2=>?_,λy Bf=>?_,λy c _ h=>?_,λ_=>hd,Around.frames_deeper DG.frames,.inr ⟨rfl,rfl⟩,λb z=>absurd z (Wz b),DG.bs,DG.Ph,λb _ _=>Wz b,λb z=>absurd z (Wz b),DG.Li,DG.Re⟩,
  rfl,DG.bare,Gh.kept AL,⟨_,x.toInCall.ns,λi y v h1 h2 h3=>?_⟩,λy c h=>⟨_,x.cell y c h⟩,DG.Ba.fresh (CY _),λy c h=>?_,λp Ad=>absurd (show p∈([]:List (A7×Obj))from Ad) (by simp),DG.Ba.kept AL,?_⟩
 .exact name_of_addr x.apart (Mv h1) (Mv h2)
 .have Bf:scope.names.lookup y=some .cell\/scope.names.lookup y=some .free:=Bf;rcases Bf with Bf|Bf
  .exact bY Bf
  .exact absurd rfl (S.yg _ (Mv Bf))
 .exact R5 (x.above y c (Mv h))
 .have AC:i<vs.length:=by
    unfold start at h2;by_cases AC:i<vs.length
    .exact AC
    .rw[Nw (by simpa using AC)]at h2;rw[PL]at h2
     split at h2<;>cases h2
  have AB:vs[i]?=some v:=by
   unfold start at h2;rw[Mx (by simpa using AC),ER]at h2;cases e:vs[i]? with
   |none=>rw[e]at h2;cases h2
   |some a=>rw[e]at h2;cases h2;rfl
  obtain⟨u,BP,CE⟩:=r.get AB;have Ad:Ap[i]?=some y:=by rw[<-S.pre,List.getElem?_take_of_lt (by lia)];exact h1
  have nD:Ap.Nodup:=by rw[<-S.pre];exact S.Am.sublist (List.take_sublist _ _)
  refine⟨u,CE,?_⟩;rcases S.par y (JF Ad)with k|k
  .exact .inl ⟨k,iz nD Ad BP k⟩
  .obtain⟨c,e⟩:=bY (n:=s.heap.objs.size+1) k;refine .inr ⟨.inl k,c,e,?_⟩;have q:=x.cell y c e;rw[ix nD Ad BP (by show scope.names.lookup y≠_;rw[k];decide)]at q;exact q
 .exact DG.Ba.fresh (R5 (x.above y c (Mv h)))
 .unfold start;show _=N.length;rw[JG,Fw,Sl];lia
def vT {CX:LZ} {P:Bu} {w:Bh} {K:AY} {mg:Str->Option A4} {base:BH} {k:Nat} {f:A7} {name qual:Str} {params:Arguments} {body:List BW} {scope:ED} {Yj D9 doc pm CA DB Fi:A4} {an Du:Option A7}{Nd:Array (Option A4)} {N Ap:List Str} {sp:B9} (lk:K.lookup f=some ⟨Fi,Du,.func (JI name qual params body scope Yj D9 doc pm an CA DB),Nd⟩) (DU:PS K CA qual=true) (S:D2 N Ap scope)(len:∀vs H Q E,sp vs H Q E->vs.length=Ap.length)(dK:∀(A:CG)(outer:List Env)(s:AP)(H:AA)(vs:List V)(Q:CT)(E:DL),Dy k (A.deeper (O8 qual scope s.heap.objs.size f CA))->sp vs H Q E->
    ∃t,Gg (Iy CX P w K mg base N qual scope f CA A outer s H E) body t/\t { BC:=λ_ H'=>Q .non H',E6:=Q } (start N vs) H) :
  Gd P w K mg base CX (k+1) f (JI name qual params body scope Yj D9 doc pm an CA DB) Ap sp:=by
 refine⟨len,λA outer s H args us vs Q E AI DG A0 r Qf=>?_⟩;have AQ:=len _ _ _ _ Qf;have MG:K.In s.heap:=DG.mod.JP.keeps λb o e=>(DG.bs b o e).1;have lim:s.heap.NoLimit:=DG.mod.nolimit.keeps λb o e=>(DG.bs b o e).1;have vQ:∀y∈Ap.zip us,scope.names.lookup y.1=some .local\/(scope.names.lookup y.1=some .cell/\((Hm (s.heap.objs.size+1) scope.names []).lookup y.1).isSome=true):=λ⟨n,v⟩ Bf=>by
  rcases S.par n (Xb Bf).1 with q|q
  .exact .inl q
  .exact .inr ⟨q,rd _ _ _ (.inl q)⟩
 refine codeAny_call_function AI.depth (MG _ _ lk) rfl S.co S.gen rfl (PySem.W.codeRec_of MG DU) (A0 _ _ _ _ ?_);refine wpAny_newFunctionEnv_cells S.kind vQ λenv he s1 x=>?_;subst he;refine⟨lim.keeps x.toInCall.keep,codeAny_func ?_⟩;obtain⟨t,Av,AX⟩:=dK A outer s H vs Q E (AI.deeper _) Qf;have I:Inv (Iy CX P w K mg base N qual scope f CA A outer s H E) [] (start N vs) H s1:=xm S AI.hd DG AQ r x;refine Ip (Av [] s1 (start N vs) H _ I AX) (λHF s' AN=>?_) λe s' AN=>AN;have fin:∀{σ' :St}{H':AA}{v:V}{u:A4},Inv (Iy CX P w K mg base N qual scope f CA A outer s H E) [] σ' H' s'->RelV v u->Q v H'->iI outer P w K H s Q u s':=
  λ{σ' H' v u} D6 CE q=>⟨v,H',D6.os,D6.bare,D6.base,D6.Ba,CE,q⟩
 cases HF with
 |ret u=>obtain⟨v,σ',H',D6,CE,q⟩:=AN;exact fin D6 CE q
 |next=>obtain⟨σ',H',D6,q⟩:=AN;exact fin (v:=V.non) (u:=G_) D6 rfl q
 |brk=>obtain⟨_,_,_,q⟩:=AN;exact Ka q
 |cont=>obtain⟨_,_,_,q⟩:=AN;exact Ka q
section
variable{X:Af}{x:Str}{p pos:Pos}{e:AT}{A6:List AT}{t:FC}{id T:String}{r:List V->AA->CT->Prop}
def aa(r:List V->AA->CT->Prop)(t:FC):TE:=λσ H Q=>t σ H λvs H1=>r vs H1 Q
def dv(AO:I3 X (.builtin id) r)(Ah:EL X x)(hm:X.mg x=none)(BR:LU x=some (.builtin id))(AB:Gf X (e::A6) t)(AS:x≠"__name__":=by decide)(HJ:(x==("__debug__" :Str))=false:=by decide)(he:BF (e::A6) X.env=(false,BK e X.env)::BF A6 X.env:=by rfl)(Dt:(Cy pos (BF A6 X.env)).any (·.1)=false:=by rfl):Ay X (.Call (.Name x p) (e::A6) [] pos) (aa r t):=by intro pins s σ H Q I h;refine Uq (Oj I Ah hm BR ?_ AS HJ);exact PyProof.Rows.callWith_builtin1 (Bb (AB pos pins s σ H _ I h) λus s1⟨vs,H1,B5,AK,An⟩=>AO pins s1 σ H1 vs us Q B5 AK An) he Dt
def oa(AO:I3 X (.type T) r)(Ah:EL X x)(hm:X.mg x=none)(BR:LU x=some (.type T))(AB:Gf X (e::A6) t)(AS:x≠"__name__":=by decide)(HJ:(x==("__debug__" :Str))=false:=by decide)(he:BF (e::A6) X.env=(false,BK e X.env)::BF A6 X.env:=by rfl)(Dt:(Cy pos (BF A6 X.env)).any (·.1)=false:=by rfl):Ay X (.Call (.Name x p) (e::A6) [] pos) (aa r t):=by intro pins s σ H Q I h;refine Uq (Oj I Ah hm BR ?_ AS HJ);exact Qz (Bb (AB pos pins s σ H _ I h) λus s1⟨vs,H1,B5,AK,An⟩=>AO pins s1 σ H1 vs us Q B5 AK An) he Dt
end
end C2
namespace Dj
open PySem PyProof.Rows
section
open PySem.SeqAt
open PySem.AutoSeq1 (wpAny_loadPart')
open PySem.MeetsSeq PySem.MeetsSeq2 PySem.MeetsSeq3
end
section
variable{prog:Bu}{w:Bh}{A:CG}{E:A4->AP->Prop}{s:AP}
def tC{t b:A7}{vs ws:List A4}{Q:A4->AP->Prop}(Av:IsTup s.heap t vs.toArray)(A0:IsTup s.heap b ws.toArray)(BR:vs≠[])(h1:ws=[]->Q (.ref t) s)(h2:ws≠[]->Q (.ref s.heap.objs.size) { s with heap:=s.heap.push { cls:=.type "tuple",data:=.seq (vs++ws).toArray } })(hsz:vs.length+ws.length<=CF):Ae (B2 prog w) A (JK .Add (.ref t) (.ref b)) Q E s:=by
 obtain⟨⟨cls,D8,data,Bz⟩,AM,AO,n,hd⟩:=id Av;obtain⟨⟨tE,Yk,data2,aV⟩,Rj,FE,DI,hd2⟩:=id A0;simp only at AO hd FE hd2;subst AO hd FE hd2;have e:vs.toArray++ws.toArray=(vs++ws).toArray:=by simp
 by_cases hw:ws=[]
 .exact concat_meets ⟨_,AM,rfl⟩ ⟨_,Rj,rfl⟩ gw seq_tuple_add gh gf (gV _ _)
    (tuple_addW1 t b vs.toArray ws.toArray n DI D8 Yk Bz aV (by simpa using BR) (by simp[hw])) ⟨AM,Rj,h1 hw⟩
 .refine concat_meets ⟨_,AM,rfl⟩ ⟨_,Rj,rfl⟩ gw seq_tuple_add gh gf (gV _ _)
    (tuple_addW2 t b vs.toArray ws.toArray n DI D8 Yk Bz aV (by simpa using BR) (by simpa using hw) (by rw[Dx,Dx];exact hsz)) ⟨AM,Rj,?_⟩
  rw[e];exact h2 hw
def CQ(n d:Nat):Option Int->Nat
 |none=>d
 |some v=>if v<0 then(v+(n:Int)).toNat else min v.toNat n
def pe(n d:Nat):CQ n d none=d:=rfl
def pc(n d k:Nat):CQ n d (some (k:Int))=min k n:=by show(if(k:Int)<0 then((k:Int)+(n:Int)).toNat else min (k:Int).toNat n)=min k n;rw[if_neg (by lia),N0]
def de(n d:Nat)(hd:d<=n)(o:Option Int):CQ n d o<=n:=by
 cases o with
 |none=>exact hd
 |some v=>
  show(if v<0 then(v+(n:Int)).toNat else min v.toNat n)<=n;by_cases BR:v<0
  .rw[if_pos BR];lia
  .rw[if_neg BR];exact Nat.min_le_right _ _
def ic(v:Int)(n d:Nat):(if v<0 then max (v+(n:Int)) 0 else min v (n:Int))=((CQ n d (some v):Nat):Int):=by
 show(if v<0 then max (v+(n:Int)) 0 else min v (n:Int))=(((if v<0 then(v+(n:Int)).toNat else min v.toNat n):Nat):Int);by_cases BR:v<0
 .simp only[if_pos BR];lia
 .simp only[if_neg BR];lia
def sh(lo AC:Option Int)(n:Nat):gY lo AC 1 (n:Int)=(((CQ n 0 lo:Nat):Int),((CQ n n AC:Nat):Int)):=by
 have h1:¬((1:Int)<0):=by lia
 unfold gY;simp only[h1,if_false];refine PZ ?_ ?_
 .cases lo with
  |none=>rfl
  |some v=>exact ic v n 0
 .cases AC with
  |none=>rfl
  |some v=>exact ic v n n
def abT(i j:Nat):XV (i:Int) (j:Int) 1=j-i:=by
 unfold XV;have h1:(1:Int)>0:=by lia
 simp only[h1,if_true,Int.ediv_one]
 split<;>lia
def pF{v:A4}{o:Option Int}{Q:Option Int->AP->Prop}(p:O9 v o)(h:Q o s):Ae (B2 prog w) A (Builtin.Slice.slicePartIndex v) Q E s:=by
 cases p with
 |none=>exact slicePart_none h
 |int i t=>exact slicePart_int h
def adD{Bz:A7}{Ha Hb:A4}{lo AC:Option Int}{n:Nat}{Q:Int×Int×Nat->AP->Prop}(AN:s.heap.IsSliceOf Bz Ha Hb .none)(pl:O9 Ha lo)(pu:O9 Hb AC)(h:Q (((CQ n 0 lo:Nat):Int),1,CQ n n AC-CQ n 0 lo) s):Ae (B2 prog w) A (rl (.ref Bz) (pure (n:Int))) Q E s:=by obtain⟨os,Rl,kX,Zo⟩:=id AN;unfold rl Builtin.Slice.sliceFields;refine AJ (AJ (Hi Rl Zo (x:=Ha) rfl (AJ (Hi Rl Zo (x:=Hb) rfl (AJ (Hi Rl Zo (x:=.none) rfl (B0 ?_)))))));refine AJ (slicePart_none ?_);show Ae _ _ (if((1:Int)==0)=true then _ else _) _ _ s;rw[if_neg (by decide)];refine AJ (pF pl (AJ (pF pu (AJ (B0 ?_)))));show Ae _ _ (match gY lo AC 1 (n:Int)with|(lo,AC)=>pure (lo,(1:Int),XV lo AC 1)) _ _ s;rw[sh lo AC n];show Ae _ _ (pure (((CQ n 0 lo:Nat):Int),(1:Int),XV ((CQ n 0 lo:Nat):Int) ((CQ n n AC:Nat):Int) 1)) _ _ s;rw[abT];exact B0 h
def abR(xs:Array A4)(i k:Nat):((EY k).filterMap λ(m:Nat)=>xs[((i:Int)+(m:Int)*1).toNat]?).toArray=((xs.toList.drop i).take k).toArray:=by
 have e:(λ(m:Nat)=>xs[((i:Int)+(m:Int)*1).toNat]?)=λm=>xs[i+m]?:=by
  funext m
  have:((i:Int)+(m:Int)*1).toNat=i+m:=by lia
  rw[this]
 rw[e];have:=pick_run xs i k;rw[List.filterMap_map]at this;have AG:((λx=>xs[x]?)∘λx=>i+x)=λm=>xs[i+m]?:=rfl;rw[AG]at this;rw[this]
def vb{t Bz:A7}{items:Array A4}{Ha Hb:A4}{lo AC:Option Int}{Q:A4->AP->Prop}(Av:IsTup s.heap t items)(AN:s.heap.IsSliceOf Bz Ha Hb .none)(pl:O9 Ha lo)(pu:O9 Hb AC)(hw:¬(CQ items.size 0 lo=0/\CQ items.size items.size AC=items.size))(h:Q (.ref s.heap.objs.size) { s with heap:=s.heap.push { cls:=.type "tuple",data:=.seq ((items.toList.drop (CQ items.size 0 lo)).take (CQ items.size items.size AC-CQ items.size 0 lo)).toArray } })(hsz:items.size<=CF):Ae (B2 prog w) A (Pa (.ref t) (.ref Bz)) Q E s:=by
 have Zw:sizeOk (.seq ((items.toList.drop (CQ items.size 0 lo)).take (CQ items.size items.size AC-CQ items.size 0 lo)).toArray):=by show((items.toList.drop (CQ items.size 0 lo)).take (CQ items.size items.size AC-CQ items.size 0 lo)).toArray.size<=CF;rw[Dx,Ul,Xi,Uw];lia
 have By:CQ items.size items.size AC<=items.size:=de _ _ (CY _) AC;obtain⟨os,Rl,kX,Zo⟩:=id AN;have vl:s.TypeIs (.ref Bz) "slice":=⟨os,Rl,kX⟩;unfold Pa
 try with_reducible refine K5 ?_
 first|refine AJ (B0 ?_)|skip
 refine AJ (wpAny_sequenceKey Av.typeIs (by decide) ?_)
 refine AJ (Mt (name:=FP "__getitem__") Av.typeIs rS
  (Im rS Av.typeIs entry_tuple_getitem ?_ (args_tuple_getitem _ _)))
 show Ae _ _ (rQ (.ref t)>>=_) _ _ s;refine AJ (tupleItemsOf_ Av ?_);refine AJ (V4 vl ?_);rw[if_pos (by decide)];refine AJ (adD AN pl pu ?_);have OB:¬((((CQ items.size 0 lo:Nat):Int)==0&&(1:Int)==1&&(CQ items.size items.size AC-CQ items.size 0 lo)==items.size)=true):=by intro q;rw[Ga,Ga]at q;have An:((CQ items.size 0 lo:Nat):Int)=0:=eq_of_beq q.1.1;have BG:CQ items.size items.size AC-CQ items.size 0 lo=items.size:=eq_of_beq q.2;exact hw ⟨by lia,by lia⟩
 show Ae _ _ (if(((CQ items.size 0 lo:Nat):Int)==0&&(1:Int)==1&&(CQ items.size items.size AC-CQ items.size 0 lo)==items.size)=true then _ else _) _ _ s;rw[if_neg OB,abR]
 first
  |exact AJ (m:=XW _) (JE (B0 ⟨_,rfl,B0 h⟩) Zw)
  |exact AJ (m:=XW _) (JE (AJ (B0 (B0 ⟨_,rfl,B0 h⟩))) Zw)
  |exact AJ (AJ (m:=XW _) (JE (B0 (B0 ⟨_,rfl,B0 h⟩)) Zw))
  |exact AJ (AJ (m:=XW _) (JE (B0 ⟨_,rfl,B0 h⟩) Zw))
end
end Dj
namespace C2
open PySem PySem.Spec PyProof.Rows
abbrev C9:=St->AA->(Option Int->AA->Prop)->Prop
noncomputable def VQ(X:Af)(e:Option AT)(t:C9):Prop:=
 ∀(pins:List (A7×Obj))(s:AP)(σ :St)(H:AA)(Q:Option Int->AA->Prop),Inv X pins σ H s->t σ H Q->
  Ae (B2 X.prog X.w) X.A (evalPart e X.env) (λu s'=>∃o H',Inv X pins σ H' s'/\O9 u o/\Q o H') X.xe s
def acy:C9:=λ_ H Q=>Q none H
def acz(t:TE):C9:=λσ H Q=>t σ H λx H1=>∃i,x=.int i/\Q (some i) H1
section
variable{X:Af}{e:AT}{E7:TE}{lo AC:Option AT}{F8 a6:C9}{pos Cu:Pos}
def abW:VQ X none acy:=by intro pins s σ H Q I h;rw[evalPart_none];exact B0 ⟨none,H,I,.none,h⟩
def abX(h:Ay X e E7):VQ X (some e) (acz E7):=by intro pins s σ H Q I hw;rw[evalPart_some];refine Bb (h pins s σ H _ I hw) λu s1⟨x,H1,B5,AK,An⟩=>?_;obtain⟨i,rfl,q⟩:=An;obtain⟨t,rfl⟩:=AK;exact⟨some i,H1,B5,.int i t,q⟩
noncomputable def Pt(X:Af)(r:V->Option Int->Option Int->AA->CT->Prop):Prop:=
 ∀(pins:List (A7×Obj))(s:AP)(σ :St)(H:AA)(x:V)(v Ha Hb:A4)(lo AC:Option Int)(Bz:A7)(Q:CT),Inv X pins σ H s->RelV x v->s.heap.IsSliceOf Bz Ha Hb .none->O9 Ha lo->O9 Hb AC->r x lo AC H Q->
  ∃T id,typeLookup (.type T) "__getitem__"=pure (some (.builtin id))/\s.TypeIs v T/\Ae (B2 X.prog X.w) X.A (Pa v (.ref Bz)) (Gc X pins σ Q) X.xe s
def Pt.or{r BO:V->Option Int->Option Int->AA->CT->Prop}(h:Pt X r)(h':Pt X BO):Pt X (λx lo AC H Q=>r x lo AC H Q\/BO x lo AC H Q):=by
 intro pins s σ H x v Ha Hb lo AC Bz Q I BQ AN pl pu q;rcases q with q|q
 .exact h pins s σ H x v Ha Hb lo AC Bz Q I BQ AN pl pu q
 .exact h' pins s σ H x v Ha Hb lo AC Bz Q I BQ AN pl pu q
def gE(r:V->Option Int->Option Int->AA->CT->Prop)(E7:TE)(F8 a6:C9):TE:=λσ H Q=>E7 σ H λx H1=>F8 σ H1 λl Ax=>a6 σ Ax λu Cp=>r x l u Cp Q
def dy{r:V->Option Int->Option Int->AA->CT->Prop}(AI:Pt X r)(he:Ay X e E7)(AQ:VQ X lo F8)(BP:VQ X AC a6):Ay X (.Subscript e (.Slice lo AC none Cu) pos) (gE r E7 F8 a6):=by intro pins s σ H Q I h;refine Subscript_ (Bb (he pins s σ H _ I h) λv s1⟨x,H1,B5,AK,An⟩=>?_);refine wpAny_Slice (Bb (AQ pins s1 σ H1 _ B5 An) λHa s2⟨l,Ax,Bo,pl,BG⟩=>Bb (BP pins s2 σ Ax _ Bo BG) λHb s3⟨u,Cp,Dk,pu,EO⟩=>?_);rw[evalPart_none];refine B0 ?_;have L_:Inv X pins σ Cp { s3 with heap:=s3.heap.push { cls:=.type "slice",data:=.fields #[Ha,Hb,.none] } }:=Dk.kept (t':=s3.toks) λb ob q=>DE _ q;obtain⟨T,id,CW,Av,Ah⟩:=AI pins { s3 with heap:=s3.heap.push { cls:=.type "slice",data:=.fields #[Ha,Hb,.none] } } σ Cp x v Ha Hb l u s3.heap.objs.size Q L_ AK (Heap.IsSliceOf.new ..) pl pu EO;show Ae (B2 X.prog X.w) X.A (subscriptTail e (.Slice lo AC none Cu) v (.ref s3.heap.objs.size)) (Gc X pins σ Q) X.xe { s3 with heap:=s3.heap.push { cls:=.type "slice",data:=.fields #[Ha,Hb,.none] } };exact tail_any (ops:=[.ref s3.heap.objs.size,v]) Av CW Ah (by with_unfolding_all rfl)
def Pj(xs:List V)(lo AC:Option Int):List V:=(xs.drop (Dj.CQ xs.length 0 lo)).take (Dj.CQ xs.length xs.length AC-Dj.CQ xs.length 0 lo)
def jB(xs:List V)(lo AC:Option Int):(Pj xs lo AC).length<=xs.length:=by unfold Pj;rw[Ul,Xi];lia
noncomputable def ny(K:AY):V->Option Int->Option Int->AA->CT->Prop:=λx lo AC H Q=>∃a xs,x=.ref a/\CK K H a xs/\
 ¬(Dj.CQ xs.length 0 lo=0/\Dj.CQ xs.length xs.length AC=xs.length)/\∀p,H p=none->Q (.ref p) (upd H p (.tup (Pj xs lo AC)))
def pE:Pt X (ny X.K):=by
 intro pins s σ H x v Ha Hb lo AC Bz Q I BQ AN pl pu h;obtain⟨a,xs,rfl,AH,hw,q⟩:=h;cases BQ;obtain⟨its,r,Av,Ar⟩:=I.tuple AH;have hlen:its.toArray.size=xs.length:=by rw[Dx];exact r.length.symm
 refine⟨"tuple",_,PyProof.Rows.slot_tuple_getitem.lookup,Av.typeIs,?_⟩;refine Dj.vb Av AN pl pu (by rw[hlen];exact hw) ?_ (by rw[hlen];exact Ar);rw[hlen];refine⟨.ref s.heap.objs.size,_,I.laid (t':=s.toks) (o:=.tup (Pj xs lo AC)) (λb ob q=>DE _ q) (CY _) ?_,rfl,q _ (I.Ba.fresh (CY _))⟩;exact⟨Ff (jB xs lo AC) Ar,_,(r.drop (Dj.CQ xs.length 0 lo)).take (Dj.CQ xs.length xs.length AC-Dj.CQ xs.length 0 lo),IsTup.new _ _⟩
noncomputable def ni(K:AY):F1:=λx y H Q=>∃a b xs ys,x=.ref a/\y=.ref b/\CK K H a xs/\CK K H b ys/\xs≠[]/\xs.length+ys.length<=CF/\
 (ys=[]->Q (.ref a) H)/\(ys≠[]->∀p,H p=none->Q (.ref p) (upd H p (.tup (xs++ys))))
def Vals.eS{xs:List V}{us:List A4}(r:Vals xs us):us=[]↔xs=[]:=by
 cases r with
 |nil=>simp
 |cons _ _=>simp
def aaZ:E9 X (JK .Add) (ni X.K):=by intro pins s σ H x y v u Q I BQ Bv h;obtain⟨a,b,xs,ys,rfl,rfl,AB,A0,AH,Ar,An,BG⟩:=h;cases BQ;cases Bv;obtain⟨its,AK,Eh,_⟩:=I.tuple AB;obtain⟨IC,B4,Cu,_⟩:=I.tuple A0;refine Dj.tC Eh Cu (λz=>AH (AK.eS.mp z)) (λz=>⟨.ref a,H,I,rfl,An (B4.eS.mp z)⟩) (λz=>?_) (by rw[<-AK.length,<-B4.length];exact Ar);refine⟨.ref s.heap.objs.size,_,I.laid (t':=s.toks) (o:=.tup (xs++ys)) (λb ob q=>DE _ q) (CY _) ?_,rfl,BG (λw=>z (B4.eS.mpr w)) _ (I.Ba.fresh (CY _))⟩;exact⟨by rw[JG];exact Ar,_,AK.append B4,IsTup.new _ _⟩
end
def I_(n:Nat)(i:Int):Option Nat:=if 0<=i then(if i<n then some i.toNat else none)else if-(n:Int)<=i then some (i+n).toNat else none
def GF{α:Type}(xs:List α)(i:Int):Option α:=(I_ xs.length i).bind λj=>xs[j]?
def m9{n:Nat}{i:Int}{j:Nat}(h:I_ n i=some j):T2 i n=some j/\j<n/\-(n:Int)<=i/\i<n:=by
 unfold I_ at h;by_cases h0:0<=i
 .rw[if_pos h0]at h;by_cases h1:i<n
  .rw[if_pos h1]at h;have e:i.toNat=j:=FA h;exact⟨by rw[seqIndex_of h0 h1,e],by lia,by lia,h1⟩
  .rw[if_neg h1]at h;cases h
 .rw[if_neg h0]at h;by_cases h1: -(n:Int)<=i
  .rw[if_pos h1]at h;have e:(i+n).toNat=j:=FA h;exact⟨by rw[seqIndex_neg (by lia) h1,e],by lia,h1,by lia⟩
  .rw[if_neg h1]at h;cases h
def hZ{α:Type}{xs:List α}{i:Int}{v:α}(h:GF xs i=some v):∃j,T2 i xs.length=some j/\xs[j]?=some v/\j<xs.length/\-(xs.length:Int)<=i/\i<xs.length:=by
 unfold GF at h;cases e:I_ xs.length i with
 |none=>rw[e]at h;cases h
 |some j=>rw[e]at h;obtain⟨h1,h2,h3,h4⟩:=m9 e;exact⟨j,h1,h,h2,h3,h4⟩
def hz(b:AT):Prop:=∀o i,Y8 b false o i=operate [o,i] (Pa o i)
noncomputable def OO(X:Af)(r:F1):Prop:=
 ∀(value slice:AT)(pins:List (A7×Obj))(s:AP)(σ :St)(H:AA)(x y:V)(v u:A4)(Q:CT),Inv X pins σ H s->RelV x v->RelV y u->r x y H Q->
  Y8 slice false v u=operate [v,u] (Pa v u)->Ae (B2 X.prog X.w) X.A (subscriptTail value slice v u) (Gc X pins σ Q) X.xe s
noncomputable def sU(X:Af)(id:String)(r:V->List V->AA->CT->Prop):Prop:=
 ∀(pins:List (A7×Obj))(s:AP)(σ :St)(H:AA)(x:V)(xs:List V)(v:A4)(us:List A4)(Q:CT),Inv X pins σ H s->RelV x v->Vals xs us->r x xs H Q->
  Ae (B2 X.prog X.w) X.A (call (.builtin id) (v::us)) (Gc X pins σ Q) X.xe s
section
variable{X:Af}{a b:AT}{C3 tb:TE}{pos:Pos}
def OO.or{r BO:F1}(h:OO X r)(h':OO X BO):OO X (λx y H Q=>r x y H Q\/BO x y H Q):=by
 intro value slice pins s σ H x y v u Q I BQ Bv q AN;rcases q with q|q
 .exact h value slice pins s σ H x y v u Q I BQ Bv q AN
 .exact h' value slice pins s σ H x y v u Q I BQ Bv q AN
def zh{r:F1}(AI:OO X r)(AB:Ay X a C3)(A0:Ay X b tb)(AN:hz b):Ay X (.Subscript a b pos) (W_ r C3 tb):=by intro pins s σ H Q I h;exact Subscript_ (cJ AB A0 I h λv u s2 x y Ax Bo BQ Bv q=>AI a b pins s2 σ Ax x y v u Q Bo BQ Bv q (AN _ _))
def nq(K:AY):F1:=λx y H Q=>∃p xs i v,x=.ref p/\y=.int i/\C4 K H p xs/\GF xs i=some v/\Q v H
def nt(K:AY):F1:=λx y H Q=>∃p xs i v,x=.ref p/\y=.int i/\CK K H p xs/\GF xs i=some v/\Q v H
def nr:F1:=λx y H Q=>∃z i c,x=.str z/\y=.int i/\z.length<=CF/\GF z.cps.toList i=some c/\Q (.str ⟨#[c]⟩) H
def xN:OO X (nq X.K):=by
 intro value slice pins s σ H x y v u Q I BQ Bv h AN;obtain⟨p,xs,i,z,rfl,rfl,AX,he,q⟩:=h;cases BQ;obtain⟨t,rfl⟩:=Bv;obtain⟨its,r,pl,Ar⟩:=I.list AX;obtain⟨j,h1,h2,h3,h4,h5⟩:=hZ he;obtain⟨w,HX,L9⟩:=r.get h2;have AQ:=r.length;have AS:=TZ;have fin:Gc X pins σ Q w s:=⟨z,H,I,L9,q⟩;by_cases h0:0<=i
 .have By:i.toNat=j:=by
    rw[seqIndex_of h0 h5]at h1;exact FA h1
  exact item_listR pl.isList h0 (by lia) (by rw[By];simpa using HX) fin AN
 .have By:(i+(its.toArray.size:Int)).toNat=j:=by
    rw[seqIndex_neg (by lia) h4]at h1;rw[Dx,<-AQ];exact FA h1
  exact subscriptTail_builtinR (x:=w) pl.isList.typeIs slot_list_getitem.lookup
   (wpAny_getItem_list_neg (Q:=λr s'=>r=w/\Gc X pins σ Q r s') pl.isList (by lia) (by rw[Dx]<;>lia) (by lia) (by rw[By];simpa using HX) ⟨rfl,fin⟩) AN
def wv:OO X (nt X.K):=by
 intro value slice pins s σ H x y v u Q I BQ Bv h AN;obtain⟨p,xs,i,z,rfl,rfl,AX,he,q⟩:=h;cases BQ;obtain⟨t,rfl⟩:=Bv;obtain⟨its,r,pl,Ar⟩:=I.tuple AX;obtain⟨j,h1,h2,h3,h4,h5⟩:=hZ he;obtain⟨w,HX,L9⟩:=r.get h2;have AQ:=r.length;have AS:=TZ;have fin:Gc X pins σ Q w s:=⟨z,H,I,L9,q⟩
 exact subscriptTail_builtinR (x:=w) pl.typeIs slot_tuple_getitem.lookup
  (getItem_tuple (j:=j) (Q:=λr s'=>r=w/\Gc X pins σ Q r s') pl (by lia) (by lia) (by rw[Dx,<-AQ];exact h1) (by simpa using HX) ⟨rfl,fin⟩) AN
def d2:OO X nr:=by
 intro value slice pins s σ H x y v u Q I BQ Bv h AN;obtain⟨z,i,c,rfl,rfl,Ar,he,q⟩:=h;obtain⟨t,rfl⟩:=BQ;obtain⟨t',rfl⟩:=Bv;obtain⟨j,h1,h2,h3,h4,h5⟩:=hZ he;have AQ:z.cps.toList.length=z.length:=by simp[Str.length]
 rw[AQ]at h1 h4 h5;have AS:=TZ;exact tail_any (RC s z t) slot_str_getitem.lookup (getItem_str (c:=c) (by have A9:decide (i< -(2^63:Int))=false:=decide_eq_false (by lia);have AG:decide (i≥2^63)=false:=decide_eq_false (by lia);rw[A9,AG,Bool.or_false]) (by rw[h1];simpa using h2) ⟨.str ⟨#[c]⟩,H,I.tok _,⟨_,rfl⟩,q⟩) AN
def nk(K:AY):F1:=λx y H Q=>nq K x y H Q\/nt K x y H Q\/nr x y H Q
def wt:OO X (nk X.K):=xN.or (wv.or d2)
def zU(its:List A4)(n j:Nat)(u:A4):Kb (·.setIfInBounds j u) { cls:=.type "list",data:=.seq its.toArray n }={ cls:=.type "list",data:=.seq (its.set j u).toArray n }:=by simp[Kb]
theorem Inv.lst{pins:List (A7×Obj)}{σ :St}{H:AA}{s:AP}{p:A7}{xs:List V}(I:Inv X pins σ H s)(h:H p=some (.lst xs)) :
  ∃(its:List A4)(n:Nat),Vals xs its/\s.heap.get? p=some { cls:=.type "list",data:=.seq its.toArray n }/\xs.length<=CF:=by
 obtain⟨z,its,n,r,e⟩:=I.Ba p _ h;exact⟨its,n,r,e,z⟩
def Inv.zI{pins:List (A7×Obj)}{σ :St}{H:AA}{s:AP}{p:A7}{xs ys:List V}{its its':List A4}{n QN:Nat}{f:Obj->Obj}(I:Inv X pins σ H s)(h:H p=some (.lst xs))(AM:s.heap.get? p=some { cls:=.type "list",data:=.seq its.toArray n })(hf:f { cls:=.type "list",data:=.seq its.toArray n }={ cls:=.type "list",data:=.seq its'.toArray QN })(r:Vals ys its')(Ar:ys.length<=CF)(t:Nat) :
  Inv X pins σ (upd H p (.lst ys)) { s with heap:=s.heap.update p f,toks:=t }:=by
 have e:(s.heap.update p f).get? p=some { cls:=.type "list",data:=.seq its'.toArray QN }:=by rw[PJ f AM (by rw[hf]<;>rfl),hf]
 refine I.write (x:=p) (e:=p) (by rw[h];trivial) (.inl rfl) (λb u A0 q=>(Xa _ _ (I2 A0)).trans q) ⟨_,e⟩ ?_;exact⟨Ar,its',QN,r,e⟩
def aag:V->V->V->AA->(AA->Prop)->Prop:=λo i v H Q=>∃p xs k j,o=.ref p/\i=.int k/\H p=some (.lst xs)/\I_ xs.length k=some j/\Q (upd H p (.lst (xs.set j v)))
def set_list:jF X aag:=by
 intro pins s σ H o i v D1 G5 u Q I J_ Lq CE h;obtain⟨p,xs,k,j,rfl,rfl,Ad,By,q⟩:=h;cases J_;obtain⟨t,rfl⟩:=Lq;obtain⟨its,n,r,AM,Ar⟩:=I.lst Ad;obtain⟨h1,h2,h3,h4⟩:=m9 By;have AQ:=r.length;have AS:=TZ;have NJ:Inv X pins σ (upd H p (.lst (xs.set j v))) { s with heap:=s.heap.update p (Kb (·.setIfInBounds j u)) }:=
  I.zI Ad AM (zU its n j u) (r.set CE j) (by rw[List.length_set];exact Ar) s.toks
 by_cases h0:0<=k
 .have AL:k.toNat=j:=by
    rw[seqIndex_of h0 h4]at h1;exact FA h1
  exact PySem.W.ki_setAt AM h0 (by lia) (by rw[Dx,<-AQ];exact h4) (by rw[AL];exact⟨_,NJ,q⟩)
 .have AL:(k+(its.toArray.size:Int)).toNat=j:=by
    rw[seqIndex_neg (by lia) h3]at h1;rw[Dx,<-AQ];exact FA h1
  exact PySem.W.ki_setBack AM (by lia) (by rw[Dx,<-AQ];exact h3) (by lia) (by rw[AL];exact⟨_,NJ,q⟩)
def adF(lo AC:Option Int)(n:Nat):(RE lo AC none n).1=((Dj.CQ n 0 lo:Nat):Int)/\(RE lo AC none n).2.1=((Dj.CQ n n AC:Nat):Int)/\(RE lo AC none n).2.2=1:=by
 refine⟨?_,?_,rfl⟩
 .cases lo with
  |none=>simp[RE,Dj.CQ]
  |some i=>
   simp only[RE,Dj.CQ,Xj,show(1:Int)>0 by decide,if_true];by_cases h:i<0
   .simp only[h,if_true]<;>lia
   .simp only[h,if_false]<;>lia
 .cases AC with
  |none=>simp[RE,Dj.CQ]
  |some i=>
   simp only[RE,Dj.CQ,Xj,show(1:Int)>0 by decide,if_true];by_cases h:i<0
   .simp only[h,if_true]<;>lia
   .simp only[h,if_false]<;>lia
def adE(its:List A4)(lo AC:Option Int):slicePick its.toArray lo AC none=((its.drop (Dj.CQ its.length 0 lo)).take (Dj.CQ its.length its.length AC-Dj.CQ its.length 0 lo)).toArray:=by obtain⟨h1,h2,h3⟩:=adF lo AC its.toArray.size;unfold slicePick;rw[h1,h2,h3];simp only[sliceRange_one,pick_run,Dx]<;>rfl
def nv(K:AY):V->Option Int->Option Int->AA->CT->Prop:=λx lo AC H Q=>∃a xs,x=.ref a/\C4 K H a xs/\∀p,H p=none->Q (.ref p) (upd H p (.lst (Pj xs lo AC)))
def adB:Pt X (nv X.K):=by intro pins s σ H x v Ha Hb lo AC Bz Q I BQ AN pl pu h;obtain⟨a,xs,rfl,AH,q⟩:=h;cases BQ;obtain⟨its,r,Av,Ar⟩:=I.list AH;have hlen:=r.length;refine⟨"list",_,slot_list_getitem.lookup,Av.isList.typeIs,?_⟩;refine wpAny_getItem_list_slice Av.isList AN pl pu .none (by simp) ?_ (by rw[Dx]<;>lia);rw[adE,<-hlen];refine⟨.ref s.heap.objs.size,_,I.laid (t':=s.toks) (o:=.lst (Pj xs lo AC)) (λb ob q=>DE _ q) (CY _) ?_,rfl,q _ (I.Ba.fresh (CY _))⟩;exact⟨Ff (jB xs lo AC) Ar,_,0,(r.drop (Dj.CQ xs.length 0 lo)).take (Dj.CQ xs.length xs.length AC-Dj.CQ xs.length 0 lo),FK _ rfl⟩
def I3.or{f:A4}{r BO:List V->AA->CT->Prop}(h:I3 X f r)(h':I3 X f BO):I3 X f (λxs H Q=>r xs H Q\/BO xs H Q):=by
 intro pins s σ H xs us Q I rs q;rcases q with q|q
 .exact h pins s σ H xs us Q I rs q
 .exact h' pins s σ H xs us Q I rs q
def t2:I3 X (.type "list") (λxs H Q=>∃p ys,xs=[.ref p]/\(C4 X.K H p ys\/CK X.K H p ys)/\∀l,H l=none->Q (.ref l) (upd H l (.lst ys))):=by
 intro pins s σ H xs us Q I r h;obtain⟨p,ys,rfl,AX,q⟩:=h;obtain⟨u,rfl,BQ⟩:=vals1 r;cases BQ
 have fin:∀(its:List A4),Vals ys its->ys.length<=CF->∀(h':BH)(DM:Nat),(∀b Ce,s.heap.get? b=some Ce->h'.get? b=some Ce)->
   h'.get? s.heap.objs.size=some { cls:=.type "list",dict:=none,data:=.seq its.toArray DM,slots:= #[] }->Gc X pins σ Q (.ref s.heap.objs.size) { s with heap:=h' }:=λits BO Ar h' DM kp e=>
  ⟨.ref s.heap.objs.size,_,I.laid (t':=s.toks) kp (CY _) (show Fl X.prog X.w X.K _ h' _ (.lst ys)from⟨Ar,its,DM,BO,e⟩),rfl,q _ (I.Ba.fresh (CY _))⟩
 rcases AX with AX|AX
 .obtain⟨its,BO,pl,Ar⟩:=I.list AX;have hlen:=BO.length;obtain⟨o,AM,AO,n,hd⟩:=pl.isList;exact call_list_seq p (.inl rfl) AM AO hd (λh' DM kp e=>fin its BO Ar h' DM kp e) (by simp only[Dx]<;>lia)
 .obtain⟨its,BO,pl,Ar⟩:=I.tuple AX;have hlen:=BO.length;obtain⟨o,AM,AO,n,hd⟩:=pl;exact call_list_seq p (.inr rfl) AM AO hd (λh' DM kp e=>fin its BO Ar h' DM kp e) (by simp only[Dx]<;>lia)
def t7:I3 X (.type "tuple") (λxs H Q=>∃p ys,xs=[.ref p]/\((C4 X.K H p ys/\∀l,H l=none->Q (.ref l) (upd H l (.tup ys)))\/(CK X.K H p ys/\Q (.ref p) H))):=by
 intro pins s σ H xs us Q I r h;obtain⟨p,ys,rfl,h⟩:=h;obtain⟨u,rfl,BQ⟩:=vals1 r;cases BQ;rcases h with⟨AX,q⟩|⟨AX,q⟩
 .obtain⟨its,BO,pl,Ar⟩:=I.list AX;have hlen:=BO.length;refine call_tuple_list pl.isList (λh' kp=>?_) (by simp only[Dx]<;>lia);have B5:Inv X pins σ H { s with heap:=h' }:=I.kept (t':=s.toks) kp;have Bo:Inv X pins σ (upd H h'.objs.size (.tup ys)) { s with heap:=h'.push { cls:=.type "tuple",data:=.seq its.toArray } }:=
   B5.laid (t':=s.toks) (λb o e=>DE _ e) (CY _) (show Fl X.prog X.w X.K _ _ _ (.tup ys)from⟨Ar,its,BO,IsTup.new _ _⟩)
  exact⟨.ref h'.objs.size,_,Bo,rfl,q _ (B5.Ba.fresh (CY _))⟩
 .obtain⟨its,BO,pl,Ar⟩:=I.tuple AX;exact call_tuple_same pl ⟨.ref p,H,I,rfl,q⟩
noncomputable def q6(K:AY)(T:String)(x:V)(H:AA):Prop:=match x with
 |.str _=>T="str"
 |.int _=>T="int"
 |.ref p=>(T="list"/\∃xs,C4 K H p xs)\/(T="tuple"/\∃o,K.lookup p=some o/\o.cls=.type "tuple"/\o.dict=none)\/
     (T="dict"/\((∃Ab,H p=some (.Do Ab))\/∃Ab,H p=some (.B7 Ab)))\/(T="set"/\∃S n,H p=some (.set S n))
 |_=>False
def aeN{pins:List (A7×Obj)}{σ :St}{H:AA}{s:AP}{T:String}{x:V}{v:A4}(I:Inv X pins σ H s)(r:RelV x v)(ty:q6 X.K T x H) :
  s.TypeIs v T/\∀a,v=.ref a->∃ob,s.heap.get? a=some ob/\ob.dict=none:=by
 cases x with
 |str z=>obtain⟨t,rfl⟩:=r;cases(show T="str" from ty);exact⟨RC s z t,λ_ e=>nomatch e⟩
 |int i=>obtain⟨t,rfl⟩:=r;cases(show T="int" from ty);exact⟨V7 s i t,λ_ e=>nomatch e⟩
 |ref p=>
  cases r;rcases ty with⟨rfl,xs,AX⟩|⟨rfl,o,AL,AO,hd⟩|⟨rfl,AL⟩|⟨rfl,S,n,AL⟩
  .obtain⟨its,_,pl,_⟩:=I.list AX;refine⟨pl.isList.typeIs,λa e=>?_⟩;cases e;obtain⟨o,n,e,c,hd,_⟩:=pl;exact⟨o,e,hd⟩
  .refine⟨⟨o,I.EM p o AL,AO⟩,λa e=>?_⟩;cases e;exact⟨o,I.EM _ o AL,hd⟩
  .have z:∃o,s.heap.get? p=some o/\o.ExactDict:=by
     rcases AL with⟨Ab,AL⟩|⟨Ab,AL⟩
     .obtain⟨_,_,_,_,o,_,_,e,ex,_⟩:=I.Ba p _ AL;exact⟨o,e,ex⟩
     .obtain⟨_,_,_,_,o,_,_,e,ex,_⟩:=I.Ba p _ AL;exact⟨o,e,ex⟩
   obtain⟨o,e,ex⟩:=z;refine⟨⟨o,e,ex.1⟩,λa AG=>?_⟩;cases AG;exact⟨o,e,ex.2.1⟩
  .obtain⟨o,_,_,_,e,ex,_⟩:=I.Ba p _ AL;refine⟨⟨o,e,ex.1⟩,λa AG=>?_⟩;cases AG;exact⟨o,e,ex.2.1⟩
 |_=>exact Ka ty
def acq(K:AY)(T:String)(r:V->List V->AA->CT->Prop)(to:TE)(t:FC):TE:=λσ H Q=>to σ H λx H1=>q6 K T x H1/\t σ H1 λxs Ax=>r x xs Ax Q
variable{o e:AT}{A6:List AT}{to:TE}{t:FC}{name:Str}{apos Bq:Pos}{T id:String}{r:V->List V->AA->CT->Prop}
def X4 (zz:PlainAttrs T) (slot:Slot T name id) (wb:typeOf (.builtin id)=pure (.type "method_descriptor")) (hm:sU X id r) (AM:Ay X o to) (AB:Gf X (e::A6) t)(MX:I0 o name X.env (BK o X.env)=BK o X.env:=by rfl)(MZ:((Cy Bq (BF (e::A6) X.env)).all (λx=>!x.1)&&(H6 Bq (H5 [] X.env)).all (λx=>x.1.isSome)
    &&decide ((e::A6).length+([]:List FY).length+(if([]:List FY).isEmpty then 0 else 1)<30))=true:=by rfl)
  (M3:(apos.endLine==Bq.line)=true:=by rfl) (AN:BF (e::A6) X.env=(false,BK e X.env)::BF A6 X.env:=by rfl) (M5:(Cy Bq (BF A6 X.env)).any (·.1)=false:=by rfl) :
  Ay X (.Call (.Attribute o name apos) (e::A6) [] Bq) (acq X.K T r to t):=by
 intro pins s σ H Q I h;refine wpAny_Call_method_late MX MZ M3 rfl (Bb (AM pins s σ H _ I h) λv s1⟨x,H1,B5,AK,ty,An⟩=>?_);obtain⟨h1,h2⟩:=aeN B5 AK ty;refine⟨T,id,zz,slot,wb,h1,h2,?_⟩;have Lj:=AB Bq pins s1 σ H1 _ B5 An;rw[AN]at Lj |-;refine Ui (by show(false||(Cy Bq (BF A6 X.env)).any (·.1))=false;rw[M5]<;>rfl) (XU ?_);exact Bb Lj λus s2⟨vs,Ax,Bo,B4,BG⟩=>hm pins s2 σ Ax x vs v us Q Bo AK B4 BG
end
noncomputable def hv(X:Af)(id:String)(r:V->List V->AA->CT->Prop):Prop:=
 ∀(pins:List (A7×Obj))(s:AP)(σ :St)(H:AA)(x:V)(xs:List V)(v:A4)(us:List A4)(Q:CT),Inv X pins σ H s->RelV x v->Vals xs us->r x xs H Q->
  Ae (B2 X.prog X.w) X.A (call (.builtin id) (v::us)) (Gc X pins σ Q) X.xe s
def Vals.one:∀{x:V}{us:List A4},Vals [x] us->∃u,us=[u]/\RelV x u
 |_,_,.cons r .nil=>⟨_,rfl,r⟩
theorem Vals.eraseIdx:∀{xs:List V}{us:List A4}(i:Nat),Vals xs us->Vals (xs.eraseIdx i) (us.eraseIdx i)
 |_,_,_,.nil=>.nil
 |_,_,0,.cons _ t=>t
 |_,_,i+1,.cons r t=>.cons r (Vals.eraseIdx i t)
theorem Vals.rep{xs:List V}{us:List A4}(h:Vals xs us):∀k:Nat,Vals (Fx k xs).flatten (Fx k us).flatten
 |0=>.nil
 |k+1=>by rw[PN,PN,R3,R3];exact Vals.append h (Vals.rep h k)
theorem nZ{α:Type}:∀(l:List α)(i:Nat),(l.eraseIdx i).length<=l.length
 |[],_=>CY _
 |_::_,0=>V1 _
 |_::r,i+1=>Nat.succ_le_succ (nZ r i)
theorem foldl_rep(its:List A4):∀(k:Nat)(acc:List A4),
  List.foldl (λEy Em=>Ey++Em) acc.toArray (Fx k its.toArray)=(acc++(Fx k its).flatten).toArray
 |0,acc=>by simp
 |k+1,acc=>by
  have e:acc.toArray++its.toArray=(acc++its).toArray:=by simp
  have AG:(acc++its)++(Fx k its).flatten=acc++(Fx (k+1) its).flatten:=by rw[PN,R3,Uu]
  rw[<-AG,<-foldl_rep its k (acc++its),<-e,PN,List.foldl_cons]
section
variable{X:Af}{pins:List (A7×Obj)}{σ :St}{H:AA}{s:AP}{l b:A7}{xs ys zs:List V}
def Inv.eA{its its':List A4}{n:Nat}{f:Array A4->Array A4}{t':Nat}(I:Inv X pins σ H s)(J0:H l=some (.lst xs))(e:s.heap.get? l=some { cls:=.type "list",data:=.seq its.toArray n })(hf:f its.toArray=its'.toArray)(BR:Vals ys its')(Ar:ys.length<=CF) :
  Inv X pins σ (upd H l (.lst ys)) { s with heap:=s.heap.update l (Kb f),toks:=t' }:=by
 have q:=PySem.IsL.update e f;rw[hf]at q;refine I.write (x:=l) (e:=l) (by rw[J0];exact trivial) (.inl rfl) (λLN u A0 BP=>(Xa s.heap (Kb f) (I2 A0)).trans BP) ⟨_,q⟩ ?_;exact⟨Ar,its',_,BR,q⟩
def Inv.e9{its:List A4}{t':Nat}(I:Inv X pins σ H s)(BR:Vals ys its)(Ar:ys.length<=CF) :
  Inv X pins σ (upd H s.heap.objs.size (.lst ys)) { s with heap:=s.heap.push { cls:=.type "list",data:=.seq its.toArray },toks:=t' }:=
 I.laid (λ_ _ q=>DE _ q) (CY _) ⟨Ar,its,0,BR,FK _ rfl⟩
theorem Inv.fresh(I:Inv X pins σ H s):H s.heap.objs.size=none:=I.Ba.fresh (CY _)
def Inv.RI(I:Inv X pins σ H s)(J0:H l=some (.lst xs)):xs.length<=CF/\∃(its:List A4)(n:Nat),Vals xs its/\xs.length=its.length/\s.heap.get? l=some { cls:=.type "list",data:=.seq its.toArray n }:=by obtain⟨z,its,n,r,e⟩:=I.Ba l _ J0;exact⟨z,its,n,r,r.length,e⟩
def mh{n:Nat}(h:n<=CF):XX n=false:=by unfold XX;exact decide_eq_false (by lia)
end
section
variable{X:Af}
def aac:V->List V->AA->CT->Prop:=λx vs H Q=>∃l xs y,x=.ref l/\vs=[y]/\H l=some (.lst xs)/\xs.length<CF/\Q .non (upd H l (.lst (xs++[y])))
theorem eO:hv X "list.append" aac:=by intro pins s σ H x vs v us Q I BQ CE h;obtain⟨l,xs,y,rfl,rfl,J0,Ar,q⟩:=h;cases BQ;obtain⟨u,rfl,Fb⟩:=CE.one;obtain⟨z,its,n,r,AQ,e⟩:=I.RI J0;refine V8 F.slot_list_append ⟨_,e,rfl⟩ F.entry_list_append (F.args_list_append_2 _ _) (PySem.list_append l its.toArray n u (by rw[Dx];lia)) ⟨e,?_⟩;refine⟨.non,_,I.eA (its':=its++[u]) J0 e (by simp) (r.append (.cons Fb .nil)) ?_,rfl,q⟩;rw[JG,Ue];lia
def aad:V->List V->AA->CT->Prop:=λx vs H Q=>∃l b xs zs,x=.ref l/\vs=[.ref b]/\H l=some (.lst xs)/\H b=some (.lst zs)/\xs.length+zs.length<=CF/\Q .non (upd H l (.lst (xs++zs)))
theorem n9:hv X "list.extend" aad:=by
 intro pins s σ H x vs v us Q I BQ CE h;obtain⟨l,b,xs,zs,rfl,rfl,J0,dE,Ar,q⟩:=h;cases BQ;obtain⟨u,rfl,Fb⟩:=CE.one;cases Fb;obtain⟨z,its,n,r,AQ,e⟩:=I.RI J0;obtain⟨Db,IC,DI,B4,M1,AG⟩:=I.RI dE;have hsz:its.toArray.size+IC.toArray.size<=CF:=by rw[Dx,Dx];lia
 have c_:¬(!its.toArray.isEmpty&&XX (its.toArray.size+IC.toArray.size))=true:=by rw[mh hsz,hV];exact GC
 refine V8 F.slot_list_extend ⟨_,e,rfl⟩ F.entry_list_extend (F.args_list_extend_2 _ _)
  (AutoSeq1.list_extend_list_list_0 l its.toArray n b IC.toArray DI c_ (by rw[Dx];lia) (by lia)) ⟨e,AG,?_⟩
 refine⟨.non,_,I.eA (its':=its++IC) J0 e (by simp) (r.append B4) ?_,rfl,q⟩;rw[JG];lia
def aaf:V->List V->AA->CT->Prop:=λx vs H Q=>∃l xs i k y,x=.ref l/\vs=[.int i]/\H l=some (.lst xs)/\-(2^63)<=i/\i<2^63/\T2 i xs.length=some k/\xs[k]?=some y/\Q y (upd H l (.lst (xs.eraseIdx k)))
theorem yu:hv X "list.pop" aaf:=by
 intro pins s σ H x vs v us Q I BQ CE h;obtain⟨l,xs,i,k,y,rfl,rfl,J0,h1,h2,AL,Bf,q⟩:=h;cases BQ;obtain⟨u,rfl,Fb⟩:=CE.one;obtain⟨t,rfl⟩:=Fb;obtain⟨z,its,n,r,AQ,e⟩:=I.RI J0;obtain⟨w,hw,L9⟩:=r.get Bf
 refine V8 F.slot_list_pop ⟨_,e,rfl⟩ F.entry_list_pop (F.args_list_pop_2 _ _)
  (MeetsSeq.list_pop_at l its.toArray n i t k w (fitsIndex_both h1 h2) (by rw[Dx,<-AQ];exact AL) (by rw[<-Ud];exact hw) (by rw[Dx];lia)) ⟨e,?_⟩
 refine⟨y,_,I.eA (its':=its.eraseIdx k) J0 e ?_ (r.eraseIdx k) ?_,L9,q⟩
 .show its.toArray.eraseIdxIfInBounds k=(its.eraseIdx k).toArray;rw[List.eraseIdxIfInBounds_toArray]
 .have:=nZ xs k;lia
def oI:F1:=λx y H Q=>∃l b xs zs,x=.ref l/\y=.ref b/\H l=some (.lst xs)/\H b=some (.lst zs)/\xs.length+zs.length<=CF/\∀p,H p=none->Q (.ref p) (upd H p (.lst (xs++zs)))
def dq:E9 X (JK .Add) oI:=by
 intro pins s σ H x y v u Q I BQ Bv h;obtain⟨l,b,xs,zs,rfl,rfl,J0,dE,Ar,q⟩:=h;cases BQ;cases Bv;obtain⟨z,its,n,r,AQ,e⟩:=I.RI J0;obtain⟨Db,IC,DI,B4,M1,AG⟩:=I.RI dE;refine PySem.P.add_list e AG ?_ (by rw[Dx,Dx];lia);have Aw:its.toArray++IC.toArray=(its++IC).toArray:=by simp
 rw[Aw];exact⟨.ref _,_,I.e9 (t':=s.toks) (r.append B4) (by rw[JG];lia),rfl,q _ I.fresh⟩
def nu:F1:=λx y H Q=>∃l k xs,x=.ref l/\y=.int k/\H l=some (.lst xs)/\-(2^63)<=k/\k<2^63/\xs.length*k.toNat<=CF/\
 ∀p,H p=none->Q (.ref p) (upd H p (.lst (Fx k.toNat xs).flatten))
def len_rep{α:Type}(xs:List α)(k:Nat):(Fx k xs).flatten.length=k*xs.length:=by
 induction k with
 |zero=>simp
 |succ k C6=>rw[PN,R3,JG,C6,Nat.succ_mul,Nat.add_comm]
theorem zr:E9 X (JK .Mult) nu:=by
 intro pins s σ H x y v u Q I BQ Bv h;obtain⟨l,k,xs,rfl,rfl,J0,h1,h2,Ar,q⟩:=h;cases BQ;obtain⟨t,rfl⟩:=Bv;obtain⟨z,its,n,r,AQ,e⟩:=I.RI J0;have hlen:its.toArray.size*k.toNat<=CF:=by rw[Dx,<-AQ];exact Ar
 have v4:¬its.toArray.size*k.toNat>(2^63-1)/8:=by
  have:(CF:Nat)<=(2^63-1)/8:=by decide
  lia
 have vG:¬(!Builtin.List.listFitsIndex k)=true:=by rw[fitsIndex_both h1 h2];exact GC
 have c_:¬XX (its.toArray.size*k.toNat)=true:=by rw[mh hlen];exact GC
 have ux:List.foldl (λEy Em=>Ey++Em) #[] (Fx (if its.toArray.isEmpty=true then 0 else k.toNat) its.toArray)=(Fx k.toNat its).flatten.toArray:=by
  have f0:∀m:Nat,List.foldl (λEy Em=>Ey++Em) #[] (Fx m its.toArray)=(Fx m its).flatten.toArray:=λm=>by have:=foldl_rep its m [];rw[Xc]at this;exact this
  rw[f0];cases its with
  |nil=>simp
  |cons a BO=>rw[if_neg (by simp)]
 refine wpAny_binaryOp_repeat_ref (T:="list") (U:="int") (by decide) ⟨_,e,rfl⟩ (λs'=>V7 s' k t) noFill_list_mul F.fills_int_mul F.slot_int_rmul repeat_list F.slot_int_index.lookup
  (V8 F.slot_int_rmul (V7 s k t) F.entry_int_rmul (F.args_int_rmul_2 _ _) (int___rmul___int_list k t l its.toArray n)
    ⟨e,rfl,⟨_,e,rfl⟩,V8 F.slot_list_mul ⟨_,e,rfl⟩ F.entry_list_mul (F.args_list_mul_2 _ _) (AutoListH.list___mul___list_int_3 l its.toArray n k t vG v4 c_) ⟨e,?_⟩⟩)
 rw[ux];exact⟨.ref _,_,I.e9 (t':=s.toks) (r.rep k.toNat) (by rw[len_rep,Nat.mul_comm];exact Ar),rfl,q _ I.fresh⟩
end
section
variable{prog:Bu}{w:Bh}{A:CG}{E:A4->AP->Prop}{s:AP}
end
section
variable{X:Af}
end
section
variable{κ:Type}[DecidableEq κ]
def FI(Ab:List (κ×V))(k:κ):Option V:=(Ab.find? λCt=>decide (Ct.1=k)).map (·.2)
def putK(Ab:List (κ×V))(k:κ)(v:V):List (κ×V):=
 if(Ab.any λCt=>decide (Ct.1=k))=true then Ab.map (λCt=>if Ct.1=k then(Ct.1,v)else Ct)else Ab++[(k,v)]
def ff{p:κ×V}{r:List (κ×V)}{k:κ}(e:p.1=k):FI (p::r) k=some p.2:=by simp[FI,IL,e]
def fe{p:κ×V}{r:List (κ×V)}{k:κ}(e:¬p.1=k):FI (p::r) k=FI r k:=by simp[FI,IL,e]
theorem gU(k:κ):∀Ab:List (κ×V),(Ab.any λCt=>decide (Ct.1=k))=(FI Ab k).isSome
 |[]=>rfl
 |p::r=>by
  rw[Nx];by_cases e:p.1=k
  .simp only[ff e,decide_eq_true e,Bool.true_or,rr]
  .rw[fe e,decide_eq_false e,Bool.false_or];exact gU k r
def d6(Ab:List (κ×V))(k:κ)(v:V):(putK Ab k v).length<=Ab.length+1:=by
 unfold putK
 split
 .rw[Fw];lia
 .rw[JG,Hk,N3];lia
def e4{Ab:List (κ×V)}{k:κ}(v:V)(h:FI Ab k=none):putK Ab k v=Ab++[(k,v)]:=by unfold putK;rw[gU,h];exact if_neg (by decide)
def I6.Vu{o:Option V}{u:Option A4}(r:I6 o u):o.isSome=u.isSome:=by
 cases o with
 |none=>cases u with
  |none=>rfl
  |some _=>exact(show False from r).elim
 |some _=>cases u with
  |none=>exact(show False from r).elim
  |some _=>rfl
theorem I6.getD{o:Option V}{u:Option A4}{d:V}{d':A4}(r:I6 o u)(Sd:RelV d d'):RelV (o.getD d) (u.getD d'):=by
 cases o with
 |none=>cases u with
  |none=>exact Sd
  |some _=>exact(show False from r).elim
 |some _=>cases u with
  |none=>exact(show False from r).elim
  |some _=>exact r
def H8.val{Ab:List (κ×V)}{vs:List (κ×A4)}(r:H8 Ab vs)(k:κ):I6 (FI Ab k) (RF vs k):=by
 unfold H8 at r;induction r with
 |nil=>exact Lx
 | @cons p q Ap Ni h t C6=>
   obtain⟨h1,h2⟩:=h;by_cases e:p.1=k
   .have CV:q.1=k:=h1.symm.trans e;have b:RF (q::Ni) k=some q.2:=by simp[RF,IL,CV]
    rw[ff e,b];exact h2
   .have CV:¬q.1=k:=λz=>e (h1.trans z);have b:RF (q::Ni) k=RF Ni k:=by simp[RF,IL,CV]
    rw[fe e,b];exact C6
theorem H8.any{Ab:List (κ×V)}{vs:List (κ×A4)}(r:H8 Ab vs)(k:κ):(Ab.any λCt=>decide (Ct.1=k))=vs.any λCt=>decide (Ct.1=k):=by
 unfold H8 at r;induction r with
 |nil=>rfl
 |cons h t C6=>rw[Nx,Nx,C6,h.1]
def H8.dY{Ab:List (κ×V)}{vs:List (κ×A4)}(r:H8 Ab vs)(k:κ){y:V}{u:A4}(Bv:RelV y u) :
  H8 (Ab.map λCt=>if Ct.1=k then(Ct.1,y)else Ct) (vs.map λCt=>if Ct.1=k then(Ct.1,u)else Ct):=by
 unfold H8 at r |-;induction r with
 |nil=>exact .nil
 | @cons p q Ap Ni h t C6=>
   rw[E3,E3];refine .cons ?_ C6;obtain⟨h1,h2⟩:=h;by_cases e:p.1=k
   .rw[if_pos e,if_pos (h1.symm.trans e)];exact⟨h1,Bv⟩
   .rw[if_neg e,if_neg (λz=>e (h1.trans z))];exact⟨h1,h2⟩
def H8.put{Ab:List (κ×V)}{vs:List (κ×A4)}(r:H8 Ab vs)(k:κ){y:V}{u:A4}(Bv:RelV y u):H8 (putK Ab k y) (stored vs k u):=by
 unfold putK stored;rw[r.any k];by_cases e:(vs.any λCt=>decide (Ct.1=k))=true
 .rw[if_pos e,if_pos e];exact r.dY k Bv
 .rw[if_neg e,if_neg e];exact Paired.snoc r ⟨rfl,Bv⟩
theorem H8.length{Ab:List (κ×V)}{vs:List (κ×A4)}(r:H8 Ab vs):Ab.length=vs.length:=Paired.length r
end
def Rp{P:Bu}{w:Bh}{k:Key}{u:A4}(r:RelV (D9 k) u):(HM P w).is k u=true:=by
 cases k with
 |inl i=>obtain⟨t,e⟩:=(show ∃t,u=Y1 i t from r);subst e;exact zZ P w i t
 |inr x=>obtain⟨t,e⟩:=(show ∃t,u=Y2 x t from r);subst e;exact z_ P w x t
theorem m8{P:Bu}{w:Bh}:∀{ks:List Key}{us:List A4},Vals (ks.map D9) us->ItemsAre (HM P w) ks us
 |[],_,r=>by rw[PP]at r;cases r;exact .nil
 |k::ks,_,r=>by
  rw[E3]at r;cases r with
  |cons h t=>exact .cons (Rp h) (m8 t)
abbrev KT(K:AY)(H:AA):List (Bd×V)->List (Bd×A7×A4)->Prop:=Paired λp q=>p.1=q.1/\Iu K H p.1 q.2.1/\RelV p.2 q.2.2
def KT.val{K:AY}{H:AA}{Ab:List (Bd×V)}{xs:List (Bd×A7×A4)}(r:KT K H Ab xs)(k:Bd):I6 (FI Ab k) ((Kh xs k).map (·.2)):=by
 induction r with
 |nil=>exact Lx
 | @cons p q Ap Ni h t C6=>
   obtain⟨h1,_,h2⟩:=h;by_cases e:p.1=k
   .have CV:q.1=k:=h1.symm.trans e;have b:Kh (q::Ni) k=some q.2:=by simp[Kh,IL,CV]
    rw[ff e,b];exact h2
   .have CV:¬q.1=k:=λz=>e (h1.trans z);have b:Kh (q::Ni) k=Kh Ni k:=by simp[Kh,IL,CV]
    rw[fe e,b];exact C6
def KT.dY{K:AY}{H:AA}{Ab:List (Bd×V)}{xs:List (Bd×A7×A4)}(r:KT K H Ab xs)(k:Bd){y:V}{u:A4}(Bv:RelV y u) :
  KT K H (Ab.map λCt=>if Ct.1=k then(Ct.1,y)else Ct) (xs.map (putAt k u)):=by
 induction r with
 |nil=>exact .nil
 | @cons p q Ap Ni h t C6=>
   rw[E3,E3];refine .cons ?_ C6;obtain⟨h1,h2,h3⟩:=h;unfold putAt;by_cases e:p.1=k
   .rw[if_pos e,if_pos (h1.symm.trans e)];exact⟨h1,h2,Bv⟩
   .rw[if_neg e,if_neg (λz=>e (h1.trans z))];exact⟨h1,h2,h3⟩
def KT.put{K:AY}{H:AA}{Ab:List (Bd×V)}{xs:List (Bd×A7×A4)}(r:KT K H Ab xs)(k:Bd){b:A7}{y:V}{u:A4}(A0:Iu K H k b)(Bv:RelV y u) :
  KT K H (putK Ab k y) (P_ xs k b u):=by
 have e:(Ab.any λCt=>decide (Ct.1=k))=(Kh xs k).isSome:=by rw[gU,(r.val k).Vu,hE]
 unfold putK P_;rw[e];by_cases q:(Kh xs k).isSome=true
 .rw[if_pos q,if_pos q];exact r.dY k Bv
 .rw[if_neg q,if_neg q];exact Paired.snoc r ⟨rfl,A0,Bv⟩
def KT.keeps{K:AY}{H H':AA}{Ab:List (Bd×V)}{xs:List (Bd×A7×A4)}(r:KT K H Ab xs)(Av:∀b ys,H b=some (.tup ys)->H' b=some (.tup ys)):KT K H' Ab xs:=
 Paired.eI r λ_ _ z=>⟨z.1,z.2.1.mono Av,z.2.2⟩
section
variable{P:Bu}{w:Bh}{K:AY}{H:AA}{h:BH}{a:A7}
def pU{u:E5}(ok:Eo P w K H h)(e:Eu H a u):Fl P w K H h a u:=e.ok ok
def RY{Ab:List (Key×V)}(ok:Eo P w K H h)(e:Eu H a (.Do Ab)):Ab.length<=CF/\(a==Hl)=false/\∃vs,H8 Ab vs/\h.DictOf (HM P w) a vs:=
 show Fl P w K H h a (.Do Ab)from pU ok e
def uU{Ab:List (Key×V)}(ok:Eo P w K H h)(e:H a=some (.Do Ab)):Ab.length<=CF/\(a==Hl)=false/\∃vs,H8 Ab vs/\h.DictOf (HM P w) a vs:=RY ok (.inl e)
def yO{ks:List Key}(ok:Eo P w K H h)(e:H a=some (.tup (ks.map D9))):IsTupleKey (HM P w) h ks a:=by obtain⟨_,its,r,o,h1,h2,n,h3⟩:=(show Fl P w K H h a (.tup (ks.map D9))from ok a _ e);exact⟨o,its.toArray,n,h1,h2,h3,by simpa using m8 r⟩
theorem eT(ok:Eo P w K H h):∀{ks:Bd}{vs:List V}{us:List A4},Paired (NM H) ks vs->Vals vs us->GR P w h ks us
 |_,_,_,.nil,.nil=>.nil
 |.inl _::_,_,_,.cons e t,.cons r q=>.cons (k:=.inl _) (Rp (P:=P) (w:=w) (by rw[<-show _=D9 _ from e];exact r)) (eT ok t q)
 |.inr _::_,_,_,.cons ⟨b,e,z⟩ t,.cons r q=>.cons (k:=.inr _) ⟨b,by subst e;exact r,yO ok z⟩ (eT ok t q)
def Rq{ks:Bd}(ok:Eo P w K H h)(e:Jt H ks a):(L5 P w).is h ks a:=by obtain⟨vs,e,p⟩:=e;obtain⟨_,its,r,o,h1,h2,n,h3⟩:=(show Fl P w K H h a (.tup vs)from ok a _ e);exact⟨o,its.toArray,n,h1,h2,h3,by simpa using eT ok p r⟩
def cU{ks:Bd}(ok:Eo P w K H h)(JP:K.In h)(e:Iu K H ks a):(L5 P w).is h ks a:=by
 rcases e with e|⟨x,o,n,t,rfl,AL,AO,hd⟩
 .exact Rq ok e
 .exact⟨o,_,n,JP a o AL,AO,hd,by simpa using GR.cons (k:=.inl (.inr x)) (cQ x t) .nil⟩
def VB{Ab:List (Bd×V)}(ok:Eo P w K H h)(JP:K.In h)(e:Eu H a (.B7 Ab)):Ab.length<=CF/\(a==Hl)=false/\
  ∃xs,KT K H Ab xs/\LE.IM (L5 P w) h a xs:=by
 obtain⟨z,y,xs,r,o,A6,BY,h1,h2,h3,h4,h5⟩:=(show Fl P w K H h a (.B7 Ab)from pU ok e);refine⟨z,y,xs,r,o,A6,BY,h1,h2,h3,h4,λx AH=>?_,h5⟩;have all:∀{l:List (Bd×V)}{m:List (Bd×A7×A4)},KT K H l m->∀x∈m,(L5 P w).is h x.1 x.2.1:=by
  intro l m q;induction q with
  |nil=>intro x AH;exact nomatch AH
  | @cons p q Ap Ni AX t C6=>
    intro x AH;rcases List.mem_cons.mp AH with e|AH
    .subst e;exact cU ok JP (by rw[<-AX.1];exact AX.2.1)
    .exact C6 x AH
 exact all r x AH
def RZ{Ab:List (Bd×V)}(ok:Eo P w K H h)(JP:K.In h)(e:Eu H a (.B7 Ab)):Ab.length<=CF/\(a==Hl)=false/\
  ∃xs,KT K H Ab xs/\h.DictOfH (L5 P w) a xs:=
 let⟨z,y,xs,r,d⟩:=VB ok JP e;⟨z,y,xs,r,d.of⟩
end
def J4(H:AA)(a:A7)(y:V)(r:Option V):Prop:=
 (∃Ab k,Eu H a (.Do Ab)/\y=D9 k/\r=FI Ab k)\/∃Ab k b,Eu H a (.B7 Ab)/\y=.ref b/\Jt H k b/\r=FI Ab k
noncomputable def Pn(H:AA)(a:A7)(y v:V)(H':AA):Prop:=
 (∃Ab k,H a=some (.Do Ab)/\y=D9 k/\Ab.length<CF/\H'=upd H a (.Do (putK Ab k v)))\/
 ∃Ab k b,H a=some (.B7 Ab)/\y=.ref b/\Jt H k b/\Ab.length<CF/\H'=upd H a (.B7 (putK Ab k v))
def J4.t{H:AA}{a b:A7}{Ab:List (Bd×V)}{k:Bd}(e:H a=some (.B7 Ab))(Bi:Jt H k b):J4 H a (.ref b) (FI Ab k):=.inr ⟨Ab,k,b,.inl e,rfl,Bi,rfl⟩
def Pn.t{H:AA}{a b:A7}{Ab:List (Bd×V)}{k:Bd}{v:V}(e:H a=some (.B7 Ab))(Bi:Jt H k b)(AQ:Ab.length<CF) :
  Pn H a (.ref b) v (upd H a (.B7 (putK Ab k v))):=.inr ⟨Ab,k,b,e,rfl,Bi,AQ,rfl⟩
section
variable{X:Af}{pins:List (A7×Obj)}{σ :St}{H:AA}{s:AP}{a:A7}{y v:V}{u r:A4}{o:Option V}{A:CG}{E:A4->AP->Prop}
def Inv.big(I:Inv X pins σ H s):Hl<s.heap.objs.size:=by have h:E4<s.heap.objs.size:=(I.mod.glob.keeps I.G1).lt;exact LV (by decide) h
def tP{Q:A4->AP->Prop}(BP:A.units+16<De)(I:Inv X pins σ H s)(g:J4 H a y (some v))(Bv:RelV y u)(h:∀Fk s',Inv X pins σ H s'->RelV v Fk->Q Fk s') :
  Ae (B2 X.prog X.w) A (Pa (.ref a) u) Q E s:=by
 rcases g with⟨Ab,k,e,Cz,l⟩|⟨Ab,k,b,e,Cz,Bi,l⟩
 .subst Cz;obtain⟨z,hd,vs,rel,D8⟩:=RY I.Ba e;obtain⟨Fk,hw,L9⟩:=I6.some_of (v:=v) (o:=RF vs k) (by rw[l];exact rel.val k);exact wpAny_getItem_of (Rp Bv) D8.mapOf hw (h Fk _ (I.tok _) L9)
 .subst Cz;cases(show u=DF b from Bv);obtain⟨z,hd,xs,rel,D8⟩:=RZ I.Ba I.EM e;obtain⟨Fk,hw,L9⟩:=I6.some_of (v:=v) (o:=(Kh xs k).map (·.2)) (by rw[l];exact rel.val k);obtain⟨p,Ad,wY⟩:=Option.map_eq_some_iff.mp hw;refine wpAny_getItem_heap (nest_room BP) (Rq I.Ba Bi) D8 Ad ?_;rw[wY];exact h Fk _ (I.tok _) L9
def sm{Q:A4->AP->Prop}(BP:A.units+16<De)(I:Inv X pins σ H s)(g:J4 H a y o)(Bv:RelV y u)(h:∀s',Inv X pins σ H s'->Q (.bool o.isSome) s') :
  Ae (B2 X.prog X.w) A (GO .In u (.ref a)) Q E s:=by
 rcases g with⟨Ab,k,e,Cz,l⟩|⟨Ab,k,b,e,Cz,Bi,l⟩
 .subst Cz;obtain⟨z,hd,vs,rel,D8⟩:=RY I.Ba e;refine wpAny_in_of (Rp Bv) hd D8.mapOf ?_;rw[<-(rel.val k).Vu,<-l];exact h _ (I.tok _)
 .subst Cz;cases(show u=DF b from Bv);obtain⟨z,hd,xs,rel,D8⟩:=RZ I.Ba I.EM e;refine wpAny_in_heap (nest_room BP) (Rq I.Ba Bi) hd D8 ?_;have q:=(rel.val k).Vu;rw[hE]at q;rw[<-q,<-l];exact h _ (I.tok _)
def sn{Q:A4->AP->Prop}(BP:A.units+16<De)(I:Inv X pins σ H s)(g:J4 H a y o)(Bv:RelV y u)(h:∀s',Inv X pins σ H s'->Q (.bool (!o.isSome)) s') :
  Ae (B2 X.prog X.w) A (GO .NotIn u (.ref a)) Q E s:=by
 rcases g with⟨Ab,k,e,Cz,l⟩|⟨Ab,k,b,e,Cz,Bi,l⟩
 .subst Cz;obtain⟨z,hd,vs,rel,D8⟩:=RY I.Ba e;refine wpAny_notIn_of (Rp Bv) hd D8.mapOf ?_;rw[<-(rel.val k).Vu,<-l];exact h _ (I.tok _)
 .subst Cz;cases(show u=DF b from Bv);obtain⟨z,hd,xs,rel,D8⟩:=RZ I.Ba I.EM e;refine wpAny_notIn_heap (nest_room BP) (Rq I.Ba Bi) hd D8 ?_;have q:=(rel.val k).Vu;rw[hE]at q;rw[<-q,<-l];exact h _ (I.tok _)
def bf{h':BH}{t':Nat}{ob:E5}(I:Inv X pins σ H s)(KH:VO (H a))(AN:JH a s.heap h')(he:∃q,h'.get? a=some q)(new:Fl X.prog X.w X.K (upd H a ob) h' a ob) :
  Inv X pins σ (upd H a ob) { s with heap:=h',toks:=t' }:=
 I.write (x:=a) (e:=a) KH (.inl rfl) (λb q A0 z=>(AN.2 b A0).trans z) he new
def uT{P:Bu}{w:Bh}{K:AY}{H':AA}{h':BH}{Ab:List (Key×V)}{vs:List (Key×A4)}(z:Ab.length<=CF)(hd:(a==Hl)=false)(rel:H8 Ab vs)(D8:h'.DictOf (HM P w) a vs) :
  Fl P w K H' h' a (.Do Ab):=⟨z,hd,vs,rel,D8⟩
def sr{H':AA}{Q:Unit->AP->Prop}(BP:A.units+16<De)(I:Inv X pins σ H s)(g:Pn H a y v H')(Bv:RelV y u)(CE:RelV v r)(h:∀s',Inv X pins σ H' s'->Q () s') :
  Ae (B2 X.prog X.w) A (setItem (.ref a) u r) Q E s:=by
 rcases g with⟨Ab,k,e,Cz,l,bj⟩|⟨Ab,k,b,e,Cz,Bi,l,bj⟩
 .subst Cz bj;obtain⟨z,hd,vs,rel,D8⟩:=uU I.Ba e;have Ar:vs.length<=CF:=by rw[<-rel.length];exact z
  have AQ:(putK Ab k v).length<=CF:=by have:=d6 Ab k v;lia
  refine wpAny_setItem_pairs (hsz:=Ar) (Rp Bv) D8 λh' TQ AN=>h _ ?_;have he:∃q,h'.get? a=some q:=let⟨q,_,_,AX,_⟩:=TQ;⟨q,AX⟩
  exact bf I (by rw[e];exact Lx) AN he (uT AQ hd (rel.put k CE) TQ)
 .subst Cz bj;cases(show u=DF b from Bv);obtain⟨z,hd,xs,rel,D8⟩:=VB I.Ba I.EM (.inl e);have Ar:xs.length<=CF:=by rw[<-Paired.length rel];exact z
  have AQ:(putK Ab k v).length<=CF:=by have:=d6 Ab k v;lia
  refine LE.ac4 (hsz:=Ar) (nest_room BP) (Rq I.Ba Bi) D8 λh' TQ AN=>h _ ?_;obtain⟨q,A6,BY,AX,h2,h3,h4,_,h5⟩:=TQ;refine bf I (by rw[e];exact Lx) AN ⟨q,AX⟩ ⟨AQ,hd,_,(rel.put k (.inl Bi) CE).keeps λc ys ec=>?_,q,A6,BY,AX,h2,h3,h4,h5⟩;rw[Da (mX ec e (λz=>nomatch z))];exact ec
end
section
variable{X:Af}{pins:List (A7×Obj)}{σ :St}{H:AA}{s:AP}{a:A7}{Ab:List (Key×V)}{k:Key}{u:A4}{A:CG}{E:A4->AP->Prop}
end
def Yr(i:AT):Prop:=∀D1 G5,Y8 i false D1 G5=operate [D1,G5] (Pa D1 G5)
def acm{prog:Bu}{w:Bh}{A:CG}{E:A4->AP->Prop}{s:AP}{env:Env}{value slice:AT}{pos:Pos}{T id:String}{Q:A4->AP->Prop}(AQ:typeLookup (.type T) "__getitem__"=pure (some (.builtin id)))(AN:Yr slice)(h:Ae (B2 prog w) A (BK value env) (λo DD=>Ae (B2 prog w) A (BK slice env) (λi Kj=>Kj.TypeIs o T/\Ae (B2 prog w) A (Pa o i) Q E Kj) E DD) E s) :
  Ae (B2 prog w) A (BK (.Subscript value slice pos) env) Q E s:=by
 refine Subscript_ (Ip h (λo DD Ku=>Ip Ku (λi Kj M7=>?_) λ_ _ x=>x) λ_ _ x=>x);obtain⟨CW,M7⟩:=M7;unfold subscriptTail;refine AJ ?_;rw[getitemInPython_of_ne CW.not_modules];refine AJ (Sp CW AQ ?_);have fin:Ae (B2 prog w) A (Y8 slice false o i) (λr QY=>Ae (B2 prog w) A (letTemporaryGo value o r>>=λ_=>pure r) Q E QY) E Kj:=by rw[AN o i];exact wpAny_operating (Ip M7 (λr QY Nb=>AJ (wpAny_letTemporaryGo (B0 Nb))) λ_ _ x=>x)
 first
  |exact B0 (AJ fin)
  |exact AJ (B0 (AJ fin))
  |exact AJ fin
def uS{X:Af}{pins:List (A7×Obj)}{σ :St}{H:AA}{s:AP}{a:A7}{y:V}{o:Option V}(I:Inv X pins σ H s)(g:J4 H a y o):s.TypeIs (.ref a) "dict":=by
 rcases g with⟨Ab,k,e,_,_⟩|⟨Ab,k,b,e,_,_,_⟩
 .obtain⟨_,_,vs,_,D8⟩:=RY I.Ba e;exact D8.typeIs
 .obtain⟨_,_,xs,_,D8⟩:=RZ I.Ba I.EM e;exact D8.typeIs
def pP(Ei ty:TE):TE:=λσ H Q=>Ei σ H λx H1=>ty σ H1 λy Ax=>∃a v,x=.ref a/\J4 Ax a y (some v)/\Q v Ax
def qW(ty Ei:TE):TE:=λσ H Q=>ty σ H λy H1=>Ei σ H1 λx Ax=>∃a o,x=.ref a/\J4 Ax a y o/\Q (.Aa o.isSome) Ax
def qX(ty Ei:TE):TE:=λσ H Q=>ty σ H λy H1=>Ei σ H1 λx Ax=>∃a o,x=.ref a/\J4 Ax a y o/\Q (.Aa (!o.isSome)) Ax
def acR(Ei ty Ov:TE):F_:=λD σ H=>Ov σ H λv H1=>Ei σ H1 λx Ax=>ty σ Ax λy Cp=>∃a Hg,x=.ref a/\Pn Cp a y v Hg/\D.BC σ Hg
section
variable{X:Af}{o i e value:AT}{pos pos' Qo:Pos}{Ei ty Ov:TE}
def oc(BP:X.A.units+16<De)(AM:Ay X o Ei)(AC:Ay X i ty)(AN:Yr i):Ay X (.Subscript o i pos) (pP Ei ty):=by intro pins s σ H Q I h;refine acm PySem.F.slot_dict_getitem.lookup AN (Bb (AM pins s σ H _ I h) λu s1⟨x,H1,B5,BQ,An⟩=>Bb (AC pins s1 σ H1 _ B5 An) λG5 s2⟨y,Ax,Bo,Bv,a,v,ex,g,BG⟩=>?_);subst ex;obtain rfl:u=DF a:=BQ;exact⟨uS Bo g,tP BP Bo g Bv λFk s3 Dk L9=>⟨v,Ax,Dk,L9,BG⟩⟩
def oZ(BP:X.A.units+16<De)(AC:Ay X i ty)(AM:Ay X o Ei):Yu X .In i o (qW ty Ei):=by intro pins s σ H Q I h;refine Bb (AC pins s σ H _ I h) λG5 s1⟨y,H1,B5,Bv,An⟩=>Bb (AM pins s1 σ H1 _ B5 An) λu s2⟨x,Ax,Bo,BQ,a,D1,ex,g,BG⟩=>?_;subst ex;obtain rfl:u=DF a:=BQ;exact sm BP Bo g Bv λs3 Dk=>⟨.Aa D1.isSome,Ax,Dk,rfl,BG⟩
def aa3(BP:X.A.units+16<De)(AC:Ay X i ty)(AM:Ay X o Ei):Yu X .NotIn i o (qX ty Ei):=by intro pins s σ H Q I h;refine Bb (AC pins s σ H _ I h) λG5 s1⟨y,H1,B5,Bv,An⟩=>Bb (AM pins s1 σ H1 _ B5 An) λu s2⟨x,Ax,Bo,BQ,a,D1,ex,g,BG⟩=>?_;subst ex;obtain rfl:u=DF a:=BQ;exact sn BP Bo g Bv λs3 Dk=>⟨.Aa (!D1.isSome),Ax,Dk,rfl,BG⟩
def o5(BP:X.A.units+16<De)(AM:Ay X o Ei)(AC:Ay X i ty)(BR:Ay X value Ov)(AN:PW value (some (.Subscript o i pos')) pos.line X.env=pure false) :
  DX X (.Assign [.Subscript o i pos'] value pos) (acR Ei ty Ov):=by
 intro pins s σ H D I h;refine wpAny_Assign_Subscript (Bb (BR pins s σ H _ I h) λr s1⟨v,H1,B5,CE,An⟩=>Bb (AM pins s1 σ H1 _ B5 An) λu s2⟨x,Ax,Bo,BQ,BG⟩=>Bb (AC pins s2 σ Ax _ Bo BG) λG5 s3⟨y,Cp,Dk,Bv,a,Hg,ex,g,EO⟩=>?_) AN;subst ex;obtain rfl:u=DF a:=BQ;exact sr BP Dk g Bv CE λs4 L_=>⟨σ,Hg,L_,EO⟩
end
def u_{P:Bu}{w:Bh}{K:AY}{H:AA}(h:BH)(A0:Hl<h.objs.size):Fl P w K H (h.push { cls:=.type "dict",data:=.dict #[] }) h.objs.size (.B7 []):=
 ⟨JJ _,beq_eq_false_iff_ne.mpr (I2 (Fe A0)),[],.nil,_,#[],0,FK _ rfl,⟨rfl,rfl,rfl⟩,rfl,rfl,List.nodup_nil,rfl⟩
def acs:TE:=λ_ H Q=>∀p,H p=none->Q (.ref p) (upd H p (.B7 []))
section
variable{X:Af}{pos:Pos}
def od:Ay X (.Dict [] [] pos) acs:=λpins s σ H Q I h=>
 wpAny_Dict_empty ⟨.ref s.heap.objs.size,_,I.laid (a:=s.heap.objs.size) (o:=.B7 []) (t':=s.toks) (λ_ _ q=>DE _ q) (CY _) (u_ s.heap I.big),rfl,h _ (I.Ba.fresh (CY _))⟩
end
structure jD(X:Af)(o:AT)(m:Str)(apos:Pos)(e:AT)(Bq:Pos):Prop where
 base:I0 o m X.env (BK o X.env)=BK o X.env
 few:((Cy Bq (BF [e] X.env)).all (λx=>!x.1)&&(H6 Bq (H5 [] X.env)).all (λx=>x.1.isSome)
  &&decide (([e]:List AT).length+([]:List FY).length+(if([]:List FY).isEmpty then 0 else 1)<30))=true
 line:(apos.endLine==Bq.line)=true
 trees:Cy Bq (BF [e] X.env)=[(false,BK e X.env)]
structure M2(X:Af)(o:AT)(m:Str)(apos:Pos)(e f:AT)(Bq:Pos):Prop where
 base:I0 o m X.env (BK o X.env)=BK o X.env
 few:((Cy Bq (BF [e,f] X.env)).all (λx=>!x.1)&&(H6 Bq (H5 [] X.env)).all (λx=>x.1.isSome)
  &&decide (([e,f]:List AT).length+([]:List FY).length+(if([]:List FY).isEmpty then 0 else 1)<30))=true
 line:(apos.endLine==Bq.line)=true
 trees:Cy Bq (BF [e,f] X.env)=[(false,BK e X.env),(false,BK f X.env)]
def YH(H:AA)(a:A7):Prop:=(∃Ab,Eu H a (.Do Ab))\/∃Ab,Eu H a (.B7 Ab)
def a5{X:Af}{pins:List (A7×Obj)}{σ :St}{H:AA}{s:AP}{a:A7}(I:Inv X pins σ H s)(d:YH H a) :
  s.TypeIs (.ref a) "dict"/\(∀b,DF a=.ref b->∃ob,s.heap.get? b=some ob/\ob.dict=none)/\(a==Hl)=false:=by
 rcases d with⟨Ab,e⟩|⟨Ab,e⟩
 .obtain⟨_,hd,vs,_,D8⟩:=RY I.Ba e;refine⟨D8.typeIs,λb q=>?_,hd⟩;cases q;obtain⟨ob,_,_,h1,h2,_⟩:=D8;exact⟨ob,h1,h2.2.1⟩
 .obtain⟨_,hd,xs,_,D8⟩:=RZ I.Ba I.EM e;refine⟨D8.typeIs,λb q=>?_,hd⟩;cases q;obtain⟨ob,_,_,h1,h2,_⟩:=D8;exact⟨ob,h1,h2.2.1⟩
section
variable{X:Af}{pins:List (A7×Obj)}{σ :St}{H:AA}{s:AP}{a:A7}{y d:V}{u r:A4}{o:Option V}{A:CG}{E:A4->AP->Prop}
def tO{Q:A4->AP->Prop}(BP:A.units+16<De)(I:Inv X pins σ H s)(g:J4 H a y o)(Bv:RelV y u)(h:∀Fk s',Inv X pins σ H s'->RelV (o.getD .non) Fk->Q Fk s') :
  Ae (B2 X.prog X.w) A (call (.builtin "dict.get") [.ref a,u]) Q E s:=by
 rcases g with⟨Ab,k,e,Cz,l⟩|⟨Ab,k,b,e,Cz,Bi,l⟩
 .subst Cz;obtain⟨z,hd,vs,rel,D8⟩:=RY I.Ba e;refine V2 Uf D8.typeIs gi (gg _ _) (meets_dict_get (HM X.prog X.w) a (Rp Bv) hd) ⟨_,D8.mapOf,h _ _ (I.tok _) ?_⟩;rw[l];exact(rel.val k).getD rfl
 .subst Cz;cases(show u=DF b from Bv);obtain⟨z,hd,xs,rel,D8⟩:=RZ I.Ba I.EM e;refine V2 Uf D8.typeIs gi (gg _ _) (meetsH_dict_get (L5 X.prog X.w) a b hd) ⟨nest_room BP,k,xs,Rq I.Ba Bi,D8,h _ _ (I.tok _) ?_⟩;rw[l];exact(rel.val k).getD rfl
end
def qV(Ei ty:TE):TE:=λσ H Q=>Ei σ H λx H1=>∃a,x=.ref a/\YH H1 a/\ty σ H1 λy Ax=>∃o,J4 Ax a y o/\Q (o.getD .non) Ax
section
variable{X:Af}{o e f:AT}{apos Bq:Pos}{Ei ty Wf:TE}
def zc(BP:X.A.units+16<De)(AM:Ay X o Ei)(he:Ay X e ty)(m:jD X o "get" apos e Bq):Ay X (.Call (.Attribute o "get" apos) [e] [] Bq) (qV Ei ty):=by intro pins s σ H Q I h;refine Xs m.base m.few m.line XZ Uf rV (Bb (AM pins s σ H _ I h) λu s1⟨x,H1,B5,BQ,a,ex,d,An⟩=>?_);subst ex;obtain rfl:u=DF a:=BQ;obtain⟨t1,D_,_⟩:=a5 B5 d;refine⟨t1,D_,?_⟩;rw[m.trees];refine Ui rfl (XU (Sk (Bb (he pins s1 σ H1 _ B5 An) λG5 s2⟨y,Ax,Bo,Bv,D1,g,BG⟩=>Ut ?_)));exact tO BP Bo g Bv λFk s3 Dk L9=>⟨_,Ax,Dk,L9,BG⟩
end
section
variable{X:Af}{pins:List (A7×Obj)}{σ :St}{H:AA}{s:AP}{a:A7}{Ab:List (Key×V)}{A:CG}{E:A4->AP->Prop}
end
section
variable{X:Af}{pins:List (A7×Obj)}{σ :St}{H:AA}{s:AP}{a:A7}{y:V}{u:A4}{A:CG}{E:A4->AP->Prop}
end
end C2
namespace iS
open PySem PySem.W PySem.Calls PyProof.Rows
def xk{P:Params}{h:BH}:∀(ns:List Int)(vs:List A4),WellAll P h vs (ns.map WData.int)->IntsAre vs ns:=by
 intro ns;induction ns with
 |nil=>intro vs w;rw[PP]at w;cases w;exact .nil
 |cons n ns C6=>
  intro vs w;rw[E3]at w;cases w with
  |cons a b=>cases a;exact .cons _ _ (C6 _ b)
def aby{l:OpenLaw}{n:Nat}(AS:l.most=some n){P:Params}{h:BH}{args:List WData}{vals:List A4}(Zt:l.row.toRowW.claim.pre args=true)(cp:WellAll P h vals args) :
  ∃a vs ns,vals=[DF a]/\args=[WData.list (ns.map WData.int)]/\h.get? a=some { cls:=.type "list",data:=.seq vs.toArray }/\IntsAre vs ns/\ns.length<=n:=by
 have Zv:WShape.hasAll [] args [.list .int]=true:=(pre_splitW Zt).1;have AO:l.pre.holds [] { args:=args }=true:=(pre_splitW Zt).2;obtain⟨d,r,rfl,h1,h2⟩:=hasAllW_cons Zv;obtain rfl:=hasAllW_nil h2;obtain⟨xs,rfl,h3⟩:=hasW_list h1;obtain⟨ns,rfl⟩:=items_int h3;have hlen:ns.length<=n:=by
  unfold OpenLaw.pre at AO;have h4:(WTm.not (.lt (.lit (.int (n:Int))) (.len (.arg 0)))).holds [] { args:=[.list (ns.map .int)] }=true:=by have h4:=(holds_andW AO).1;rw[AS]at h4;exact h4
  have h5:=condW_of h4 (w_not (w_lt w_lit (w_len_list (w_arg rfl))));rw[Fw]at h5;refine Nat.le_of_not_lt λq=>?_;have Hw:(n:Int)<((ns.length:Nat):Int):=by lia
  first
   |(rw[decide_eq_true Hw]at h5;exact absurd h5 (by decide))
   |(simp at h5;lia)
 cases cp with
 |cons GY G9=>
  cases G9;cases GY with
  |list AM U4=>exact⟨_,_,ns,rfl,rfl,AM,xk ns _ U4,hlen⟩
def aak(l:OpenLaw)(args:List WData):l.row.toRowW.claim.post args (.bool true) args=true:=
 postW_of (r:=l.row.toRowW) (X:=(true==true))
  (show WShape.has [] (.bool true) .bool=true by first|rfl|decide|simp[WShape.has,WShape.arms,WShape.armsAll])
  (show(WTm.eq .res (.lit (.bool true))).value [] { args:=args,res:=some (.bool true),after:=args }=some (.bool (true==true))from w_eq_bool (w_res rfl) w_lit) rfl
def sJ {l:OpenLaw} {n:Nat} {q:Bu} {loose:List Str} {TP:(Str->Option A4)->BH->Prop} {Pd:Bh->BH->Prop} {d:DefRec}(AS:l.most=some n) (WT:d.params.defaults=[])(call:∀(w:Bh)(Gn DD:AP)(mg HL:Str->Option A4)(GW:A7)(o:Obj)(pm cd doc:A4)(a:A7)(vs:List A4)(ns:List Int),
    Ground q loose [] TP w Gn mg HL DD.heap->Pd w DD.heap->
    DD.heap.get? GW=some o->o.data=.func (docDef d.name d.params d.body d.scope pm cd doc)->DD.heap.CodeRec cd d.name->mg d.name=some (.ref GW)->
    DD.heap.get? a=some { cls:=.type "list",data:=.seq vs.toArray }->IntsAre vs ns->ns.length<=n->DD.gens= #[]->
    O7 (B2 l.prog w) RG (.call (.ref GW) ⟨[.ref a],[]⟩) (λr s'=>r=.ok (.ret (.bool true))/\OldK DD.heap s'.heap/\s'.os=DD.os/\O6 s'.gens) DD) :
  WalkO q loose TP Pd l.row.toRowW d [] (λf vs=>PySem.call f vs):=by
 intro w Gn DD mg HL G Y GW o pm cd doc Yj D9 AM hd DU kv WX Ah args vals as Zt agZ afp cp afl;obtain rfl:Yj=.none:=Dflts.none kv WT;obtain rfl:D9=.none:=Dflts.noKw kv;obtain⟨a,vs,ns,rfl,rfl,cf,hints,hlen⟩:=aby AS Zt cp;refine enter_call (Xu (call w Gn DD mg HL GW o pm cd doc a vs ns G Y AM (fd_plain hd) DU WX cf hints hlen Ah) λr s' AX=>?_);obtain⟨rfl,h2,h3,h4⟩:=AX;exact⟨.inl ⟨.bool true,.bool true,[],rfl,λ_=>rfl,.bool true,aak l _,λ_=>⟨rv,λ_ hm=>(nomatch hm)⟩⟩,h2,h3,h4⟩
section
variable{prog:Bu}{w:Bh}{A:CG}{E:A4->AP->Prop}{s:AP}{K:Frag}
end
end iS
namespace C2
open PySem PySem.Spec PyProof.Rows
theorem qN:∀{vs:List A4}{ns:List Int},IntsAre vs ns->Vals (ns.map V.int) vs
 |_,_,.nil=>.nil
 |_,_,.cons n t h=>.cons ⟨t,rfl⟩ (qN h)
def hy(H:AA):Prop:=∀b,H b=none\/∃o xs,H b=some (.Lg o (.lst xs))
def xp{P:Bu}{w:Bh}{K:AY}{mg HL:Str->Option A4}{CX:LZ}{k:Nat}{GW a:A7}{fd:GD}{x:Str}{sp:B9}{DD:AP}{vs:List A4}{ns:List Int}(MG:K.In DD.heap)(mE:DD.heap.Ns E4 mg)(A0:DD.heap.Ns builtinsNs HL)(WQ:∀x:Str,x≠"__name__"->HL x=LU x)(uo:DD.heap.NoLimit)(Ah:DD.gens= #[])(AB:DD.heap.get? a=some { cls:=.type "list",data:=.seq vs.toArray })(AC:IntsAre vs ns)(AQ:ns.length<=CF)(AI:Dy k RG)(F:∀base:BH,K.In base->base.Ns E4 mg->Gd P w K mg base CX k GW fd [x] sp)(vq:∀(s:AP)(u:A4),BindsTo s fd ⟨[u],[]⟩ [(x,u)])(Qf:∀H:AA,hy H->C4 K H a (ns.map V.int)->sp [.ref a] H (λv _=>v=.Aa true) λ_ _ _=>False)(dF:∀H e s',CX [] H DD (λ_ _ _=>False) e s'->False) :
  O7 (B2 P w) RG (.call (.ref GW) ⟨[.ref a],[]⟩) (λr s'=>r=.ok (.ret (.bool true))/\OldK DD.heap s'.heap/\s'.os=DD.os/\O6 s'.gens) DD:=by
 have CE:=qN AC;have xw:=AC.length
 have core:∀H:AA,hy H->C4 K H a (ns.map V.int)->Eo P w K H DD.heap->(∀b,H b≠none->b=a)->(H a≠none->K.lookup a=none)->
   O7 (B2 P w) RG (.call (.ref GW) ⟨[.ref a],[]⟩) (λr s'=>r=.ok (.ret (.bool true))/\OldK DD.heap s'.heap/\s'.os=DD.os/\O6 s'.gens) DD:=by
  intro H J2 Jy Ba Lj Ao;have iv:∀{b:A7}{o:Obj},DD.heap.get? b=some o->H b=none->(Og DD.heap H).get? b=some o:=λe n=>vM e n;have Wz:∀{b:A7}{o:Obj}{A6:Array Lv}{BY:Nat},DD.heap.get? b=some o->o.data=.dict A6 BY->H b=none:=λ{b o A6 BY} e d=>by
   cases q:H b with
   |none=>rfl
   |some u=>have CV:b=a:=Lj b (by rw[q];simp);subst CV;rw[AB]at e;cases e;have d':Data.seq vs.toArray _=Data.dict A6 BY:=d;cases d'
  have ak:∀{b:A7}{m:Str->Option A4},DD.heap.Ns b m->(Og DD.heap H).Ns b m:=λ{b m}⟨o,A6,BY,e,d,r⟩=>⟨o,A6,BY,iv e (Wz e d),d,r⟩;have kx:K.In (Og DD.heap H):=λb o e=>iv (MG b o e) (by
   cases q:H b with
   |none=>rfl
   |some u=>have CV:b=a:=Lj b (by rw[q];simp);subst CV;rw[Ao (by rw[q];simp)]at e;cases e)
  have Zh:Mod K mg (Og DD.heap H):=⟨kx,ak mE,⟨HL,ak A0,WQ⟩,let⟨Ze,h1,h2⟩:=uo;⟨Ze,ak h1,h2⟩⟩;have DG:Rt P w K mg (Og DD.heap H) RG [] DD H:=⟨rfl,Zh,λb o e=>aaE e,hM (vN _ _),trivial,λb A0=>absurd (show b∈([]:List A7)from A0) (by simp),Ba,.of_eq Ah⟩;refine Xu ((F _ kx (ak mE)).run RG [] DD H ⟨[.ref a],[]⟩ [.ref a] [.ref a] _ _ AI DG (vq DD (.ref a)) (.cons rfl .nil) (Qf H J2 Jy)) λr s' h=>?_;cases r with
  |error e=>exact(dF H e s' h).elim
  |ok HF=>
   cases HF with
   |next=>exact Ka h
   |brk=>exact Ka h
   |cont=>exact Ka h
   |ret u=>
    obtain⟨v,H',os,bare,un,wW,BO,q⟩:=h;have Hw:v=.Aa true:=q;subst Hw;obtain rfl:u=T3 true:=BO;refine⟨rfl,OldK.of_keep λb o e=>?_,os,bare⟩;cases q:H b with
    |none=>exact un.keep b o e q (by intro z;exact absurd (show b∈([]:List A7)from z) (by simp)) (by simp)
    |some u=>
     rcases J2 b with z|⟨ob,xs,z⟩
     .rw[q]at z;cases z
     .have Db:=un.NY b ob _ z;obtain⟨A9,_⟩:=Ba b _ z;obtain⟨AG,_⟩:=wW b _ Db;rw[e]at A9;cases A9;exact AG
 cases AL:K.lookup a with
 |some o=>have e:=MG a o AL;rw[AB]at e;cases e;refine core (λ_=>none) (λ_=>.inl rfl) (.inr ⟨_,vs.toArray,_,AL,rfl,rfl,rfl,by rw[Dx,xw];exact AQ,by simpa using CE⟩) (λb u z=>by have GA:(none:Option E5)=some u:=z;cases GA) (λb z=>absurd rfl z) λz=>absurd rfl z
 |none=>
  refine core (λb=>if b=a then some (.Lg { cls:=.type "list",data:=.seq vs.toArray } (.lst (ns.map V.int)))else none) (λb=>?_) (.inl (.inr ⟨{ cls:=.type "list",data:=.seq vs.toArray },if_pos rfl⟩)) (λb u z=>?_) (λb z=>?_) λ_=>AL
  .by_cases A0:b=a
   .exact .inr ⟨_,_,if_pos A0⟩
   .exact .inl (if_neg A0)
  .by_cases A0:b=a
   .have GA:=(if_pos A0).symm.trans z;cases GA;subst A0;exact⟨AB,by rw[Fw];exact AQ,vs,_,CE,AB⟩
   .have GA:=(if_neg A0).symm.trans z;cases GA
  .by_cases A0:b=a
   .exact A0
   .exact absurd (if_neg A0) z
def ae3 {l:gq} {n k:Nat} {q:Bu} {loose:List Str} {TP:(Str->Option A4)->BH->Prop} {Pd:Bh->BH->Prop} {d:DefRec} {K:Params->AY} {CX:Bh->LZ} {sp:Bh->B9} {x:Str}(AS:l.most=some n) (Zs:n<=CF) (WT:d.params.defaults=[]) (AI:Dy k RG)(dI:∀(w:Bh)(h:BH),Pd w h->(K w.params).In h)(F:∀(w:Bh)(mg:Str->Option A4)(GW:A7)(h:BH),(K w.params).In h->h.Ns E4 mg->mg d.name=some (.ref GW)->
    ∃fd:GD,(∀(s:AP)(u:A4),BindsTo s fd ⟨[u],[]⟩ [(x,u)])/\
     ∀base:BH,(K w.params).In base->base.Ns E4 mg->Gd l.prog w (K w.params) mg base (CX w) k GW fd [x] (sp w))
  (Qf:∀(w:Bh)(H:AA)(a:A7)(ns:List Int),ns.length<=n->hy H->C4 (K w.params) H a (ns.map V.int)->sp w [.ref a] H (λv _=>v=.Aa true) λ_ _ _=>False)
  (dF:∀(w:Bh)(H:AA)(s:AP)(e:A4)(s':AP),CX w [] H s (λ_ _ _=>False) e s'->False) :
  PySem.W.WalkO q loose TP Pd l.row.toRowW d [] (λf vs=>PySem.call f vs):=by
 refine iS.sJ AS WT λw Gn DD mg HL GW o pm cd doc a vs ns G Y AM hd DU WX cf hints hlen Ah=>?_;have MG:=dI w _ Y;obtain⟨fd,A0,N_⟩:=F w mg GW _ MG G.T.g WX;exact xp MG G.T.g G.T.b G.T.builtins G.T.nolimit Ah cf hints (Ff hlen Zs) AI N_ A0 (λH J2 Jy=>Qf w H a ns hlen J2 Jy) λH e s'=>dF w H DD e s'
def inClass(s:BW)(j:Nat):BW:=match s with
 |.ClassDef _ _ _ body _ _ _ _ _ _ _=>body.getD j (.Pass ⟨0,0,0,0⟩)
 |_=>.Pass ⟨0,0,0,0⟩
def Kn(s:BW):Arguments:=match s with
 |.FunctionDef _ a _ _ _ _ _ _ _ _=>a
 |_=>{ posonlyargs:=[],args:=[],vararg:=none,kwonlyargs:=[],kw_defaults:=[],kwarg:=none,defaults:=[] }
def GU(s:BW):List BW:=match s with
 |.FunctionDef _ _ b _ _ _ _ _ _ _=>b
 |_=>[]
def Bx(s:BW):ED:=match s with
 |.FunctionDef _ _ _ _ _ _ sc _ _ _=>sc
 |_=>{ kind:=.function,names:=[],isGenerator:=false,isCoroutine:=false }
abbrev Gb:LZ:=λ_ _ _ _ _ _=>False
abbrev iK:DL:=λ_ _ _=>False
def Sb{X:Af}:Passes Gb X iK:=λ_ _ _ _ _ _ _ h=>h.elim
structure MD(K:AY)(x qual:Str)(st:BW)(f:A7)(fd:GD):Prop where
 ex:∃(Fi:A4)(Du:Option A7)(D9 doc pm:A4)(an:Option A7)(CA DB:A4)(Nd:Array (Option A4)),
  fd=JI x qual (Kn st) (GU st) (Bx st) .none D9 doc pm an CA DB/\K.lookup f=some ⟨Fi,Du,.func fd,Nd⟩/\PS K CA qual=true
 kp:K3 K (.ref f)=true
section
variable{P:Bu}{w:Bh}{K:AY}{mg:Str->Option A4}{base:BH}
def MD.ok {x qual:Str} {st:BW} {f:A7} {fd:GD} {N Ap:List Str} {k:Nat} {sp:B9} (F:MD K x qual st f fd) (S:D2 N Ap (Bx st)) (len:∀vs H Q E,sp vs H Q E->vs.length=Ap.length)(dK:∀(CA:A4)(A:CG)(outer:List Env)(s:AP)(H:AA)(vs:List V)(Q:CT)(E:DL),Dy k (A.deeper (O8 qual (Bx st) s.heap.objs.size f CA))->sp vs H Q E->
    ∃t,Gg (Iy Gb P w K mg base N qual (Bx st) f CA A outer s H E).KP (GU st) t/\t { BC:=λ_ H'=>Q .non H',E6:=Q } (start N vs) H):Gd P w K mg base Gb (k+1) f fd Ap sp:=by
 obtain⟨Fi,Du,D9,doc,pm,an,CA,DB,Nd,rfl,lk,DU⟩:=F.ex;refine vT lk DU S len λA outer s H vs Q E AI Qf=>?_;obtain⟨t,h,q⟩:=dK CA A outer s H vs Q E AI Qf;exact⟨t,h.KP,q⟩
def MD.binds{x qual:Str}{st:BW}{f:A7}{fd:GD}{Ap:List Str}(F:MD K x qual st f fd)(h:∀(D9 doc pm:A4)(an:Option A7)(CA DB:A4)(us:List A4),us.length=Ap.length->T4 (JI x qual (Kn st) (GU st) (Bx st) .none D9 doc pm an CA DB) ⟨us,[]⟩=pure (Ap.zip us)):Binds K fd Ap []:=by obtain⟨Fi,Du,D9,doc,pm,an,CA,DB,Nd,rfl,lk,DU⟩:=F.ex;exact .all (h D9 doc pm an CA DB)
def Rf{x qual:Str}{st:BW}{f:A7}{Fi:A4}{Du an:Option A7}{Nd:Array (Option A4)}{D9 doc pm CA DB:A4}(l:K.lookup f=some ⟨Fi,Du,.func (JI x qual (Kn st) (GU st) (Bx st) .none D9 doc pm an CA DB),Nd⟩)(c:PS K CA qual=true)(k:K3 K (.ref f)=true):MD K x qual st f (JI x qual (Kn st) (GU st) (Bx st) .none D9 doc pm an CA DB):=⟨⟨Fi,Du,D9,doc,pm,an,CA,DB,Nd,rfl,l,c⟩,k⟩
end
section
variable{X:Af}
def Nh(i:Nat){x:Str}{pos:Pos}(hN:X.N[i]?=some x:=by rfl)(BR:H3 X.env.scope x:=by first|exact Dq rfl|exact Ch (Dq rfl)|exact Ch (Ch rfl))(hd:(x==("__debug__" :Str))=false:=by decide)(DU:(x==("__classdict__" :Str))=false:=by decide):Ay X (.Name x pos) (Wb i):=IG hN BR hd DU
end
section
variable{X:Af}
end
section
variable{κ:Type}[DecidableEq κ]
end
def HW(env:Env):List (Str×Kd)->List (Str×A7)->List (Str×A7)
 |[],cs=>cs
 |(x,k)::r,cs=>HW env r (if k==.free then(x,(env.cells.lookup x).getD 0)::cs else cs)
theorem ih{env:Env}:∀(names:List (Str×Kd))(cs:List (Str×A7)),(∀p∈names,p.2=.free->∃c,env.cells.lookup p.1=some c)->
 (forIn (m:=Sem) names cs λ(x:Str×Kd) cs=>if(x.2==JD)=true then do
   let a <-cellOf env x.1
   pure (Ny ((x.1,a)::cs))else pure (Ny cs))=pure (HW env names cs)
 |[],cs,_=>rfl
 |(x,k)::r,cs,h=>by
  rw[R9];have C6:=ih (env:=env) r;by_cases AL:k=.free
  .subst AL;obtain⟨c,AO⟩:=h (x,.free) Ms rfl;have A9:cellOf env x=pure c:=by unfold cellOf;rw[AO]
   simp only[beq_self_eq_true,if_true,HW,A9,AO,Xk,pure_bind];exact C6 _ λp Ad=>h p (Fv _ Ad)
  .have A0:(k==JD)=false:=by simpa using AL
   simp only[A0,Hj,if_false,HW,pure_bind];exact C6 _ λp Ad=>h p (Fv _ Ad)
def ig{env:Env}{scope:ED}(h:∀p∈scope.names,p.2=.free->∃c,env.cells.lookup p.1=some c):closureFor scope env=pure (HW env scope.names []):=by
 have e:=ih (env:=env) scope.names [] h;unfold closureFor
 refine Eq.trans (b:=(forIn (m:=Sem) scope.names [] λ(x:Str×Kd) cs=>if(x.2==JD)=true then do
   let a <-cellOf env x.1
   pure (Ny ((x.1,a)::cs))else pure (Ny cs))>>=pure) rfl ?_
 rw[e];rfl
theorem ie{env:Env}{x:Str}:∀(names:List (Str×Kd))(cs:List (Str×A7)),(∀p∈names,p.2=.free->∃c,env.cells.lookup p.1=some c)->
  (HW env names cs).lookup x=if(x,JD)∈names then env.cells.lookup x else cs.lookup x
 |[],cs,_=>by simp[HW]
 |(y,k)::r,cs,h=>by
  rw[HW,ie r _ λp Ad=>h p (Fv _ Ad)];by_cases hm:(x,JD)∈r
  .rw[if_pos hm,if_pos (Fv _ hm)]
  .rw[if_neg hm];by_cases AL:k=.free
   .subst AL;obtain⟨c,AO⟩:=h (y,.free) Ms rfl;by_cases AH:x=y
    .subst AH;rw[if_pos Ms];simp[Um,AO]
    .have nm:¬(x,JD)∈(y,JD)::r:=λz=>by
       rcases List.mem_cons.mp z with e|e
       .exact AH (by injection e)
       .exact hm e
     rw[if_neg nm];have A0:(x==y)=false:=by simpa using AH
     simp[Um,A0]
   .have A0:(k==JD)=false:=by simpa using AL
    have nm:¬(x,JD)∈(y,k)::r:=λz=>by
     rcases List.mem_cons.mp z with e|e
     .exact AL (by injection e with _ AG;exact AG.symm)
     .exact hm e
    rw[if_neg nm];simp[A0]
def tG {prog:Bu} {w:Bh} {A:CG} {R:Result->AP->Prop} {s:AP} {elt target iter:AT} {ifs:List AT} {scope:ED} {pos:Pos} {it acc:A4} {env:Env} (I:Nat->AP->Prop)(turn:∀n s,I n s->Ae (B2 prog w) A (JL it) (λr DD=>match r with
    |none=>R (.ok .next) DD
    |some v=>Ae (B2 prog w) A (Xo target it v) (λ_ ow=>Ae (B2 prog w) A (Ke target env v) (λ_ Kj=>
       Ae (B2 prog w) A (forIn ifs true λc r=>if r=true then do let ok <-isTrue c env (BK c env);pure (Ny ok)else pure (Ny r)) (λok QY=>
        if ok=true then Ae (B2 prog w) A (BK elt env) (λx aZ=>
         Ae (B2 prog w) A (call (.builtin "list.append") [acc,x]) (λ_ ox=>∃m,m<n/\I m ox) (Pb (B2 prog w) A env λe s'=>R (.error e) s') aZ) (Pb (B2 prog w) A env λe s'=>R (.error e) s') QY
        else ∃m,m<n/\I m QY) (Pb (B2 prog w) A env λe s'=>R (.error e) s') Kj) (Pb (B2 prog w) A env λe s'=>R (.error e) s') ow) (Pb (B2 prog w) A env λe s'=>R (.error e) s') DD) (Pb (B2 prog w) A env λe s'=>R (.error e) s') s)
  (n:Nat) (h:I n s):O7 (B2 prog w) A (.compLoop (.ListComp elt [⟨target,iter,ifs,0⟩] scope pos) 0 it acc env) R s:=by
 refine codeAny_loop rfl I (λn s J1=>?_) n h;show Ae _ A ((compTurn (.ListComp elt [⟨target,iter,ifs,0⟩] scope pos) 0 it acc env).onRaise (λx=>do noteFrame x env;theTreesLotGoes x)) _ _ s;refine wpAny_noted ?_;rw[compTurn_list];refine AJ (wpAny_standAt (AJ (Ip (turn n s J1) (λr DD Ku=>?_) λ_ _ h'=>h')));cases r with
 |none=>exact B0 Ku
 |some v=>
  refine AJ (Ip Ku (λ_ ow wj=>?_) λ_ _ h'=>h');refine AJ (Ip wj (λ_ Kj M7=>AJ (Ip M7 (λok QY Nb=>?_) λ_ _ h'=>h')) λ_ _ h'=>h');cases ok with
  |false=>exact B0 ⟨rfl,Nb⟩
  |true=>exact AJ (AJ (Ip Nb (λx aZ Vp=>AJ (Ip Vp (λ_ ox Hs=>B0 (B0 ⟨rfl,Hs⟩)) λ_ _ h'=>h')) λ_ _ h'=>h'))
abbrev Fp(X:Af)(scope:ED)(N:List Str)(cl:List (Str×A7))(C:A7)(s:AP)(H:AA)(Ak:List A7):Af where
 prog:=X.prog
 w:=X.w
 K:=X.K
 mg:=X.mg
 base:=X.base
 A:=X.A
 N:=N
 Gn:=s
 VK:=H
 env:=compEnvC scope cl C X.env
 outer:=X.stack
 stack:=X.stack
 ex:=Ak
 calm:=X.calm
 fn:=λx=>scope.names.lookup x==some .cell
 Bc:=[]
 xe:=λ_ _=>False
def NQ(nl:Nat)(caps:List Nat)(σ :St):St:=Fx nl none++caps.map λj=> σ.getD j none
def a4:Option Kd->Bool
 |some .cell=>true
 |some .free=>true
 |_=>false
structure NI(sc:ED)(NN:List Str)(scope:ED)(N:List Str)(nl:Nat)(caps:List Nat):Prop where
 kind:scope.kind=.function
 uniq:∀x∈scope.names,scope.names.lookup x.1=some x.2
 free:∀x∈scope.names,x.2=.free->a4 (sc.names.lookup x.1)=true
 len:N.length=nl+caps.length
 tA:∀k j,caps[k]?=some j->∃x,NN[j]?=some x/\N[nl+k]?=some x/\scope.names.lookup x=some .free/\a4 (sc.names.lookup x)=true
noncomputable def V_(sc:ED)(NN:List Str)(scope:ED)(N:List Str)(nl:Nat)(caps:List Nat):Bool:=
 (scope.kind==.function)&&scope.names.all (λx=>scope.names.lookup x.1==some x.2&&(x.2 !=.free||a4 (sc.names.lookup x.1)))&&
 (N.length==nl+caps.length)&&(caps.zipIdx.all λd4=>match NN[d4.1]? with
   |none=>false
   |some x=>N[nl+d4.2]?==some x&&scope.names.lookup x==some .free&&a4 (sc.names.lookup x))
def NI.of{sc:ED}{NN:List Str}{scope:ED}{N:List Str}{nl:Nat}{caps:List Nat}(h:V_ sc NN scope N nl caps=true):NI sc NN scope N nl caps:=by
 unfold V_ at h;rw[Ga,Ga,Ga]at h;obtain⟨⟨⟨h1,h2⟩,h3⟩,h4⟩:=h;rw[Sw]at h2 h4;refine⟨eq_of_beq h1,λx AH=>?_,λx AH e=>?_,eq_of_beq h3,λk j e=>?_⟩
 .have:=h2 x AH;rw[Ga]at this;exact eq_of_beq this.1
 .have:=h2 x AH;rw[Ga]at this;have q:=this.2;rw[e]at q;simpa using q
 .have m:(j,k)∈caps.zipIdx:=by
    rw[List.mem_zipIdx_iff_getElem?];exact e
  have q:=h4 _ m;dsimp only at q
  split at q
  .cases q
  .rename_i x ex;rw[Ga,Ga]at q;exact⟨x,ex,eq_of_beq q.1.1,eq_of_beq q.1.2,q.2⟩
def NI.locs{sc:ED}{NN:List Str}{scope:ED}{N:List Str}{nl:Nat}{caps:List Nat}(S:NI sc NN scope N nl caps):∀x∈scope.names,x.2=.local->scope.names.lookup x.1=some .local:=λx AH e=>e▸S.uniq x AH
theorem bZ:∀(ns:List (Str×Kd))(n:Nat)(a b:List (Str×A7)),Hm n ns (a++b)=Hm n ns a++b
 |[],_,_,_=>rfl
 |(x,k)::r,n,a,b=>by
  unfold Hm
  split
  .exact bZ r (n+1) ((x,n)::a) b
  .exact bZ r n a b
theorem Yh{x:Str}{c:A7}:∀(ns:List (Str×Kd))(n:Nat)(a:List (Str×A7)),(x,c)∈Hm n ns a->(x,NameKind.cell)∈ns\/(x,c)∈a
 |[],_,_,h=>.inr h
 |(y,k)::r,n,a,h=>by
  unfold Hm at h
  split at h
  .rename_i AL;rcases Yh r _ _ h with z|z
   .exact .inl (Fv _ z)
   .rcases List.mem_cons.mp z with e|z
    .injection e with A9 AG;subst A9;rw[eq_of_beq AL];exact .inl Ms
    .exact .inr z
  .rcases Yh r _ _ h with z|z
   .exact .inl (Fv _ z)
   .exact .inr z
def z5{M:Model}{A:CG}{E:A4->AP->Prop}{s:AP}{scope:ED}{globals:A7}{cl:List (Str×A7)}{qual:Str}{env:Env}{Q:Env->AP->Prop}(Dc:Q { scope:=scope,locals:=s.heap.objs.size,globals:=globals,cells:=Hm (s.heap.objs.size+1) scope.names cl,qual:=qual,func:=none,code:=env.code,frame:=env.frame,builtins:=env.builtins } { s with heap:=pushCells (s.heap.push { cls:=.type "dict",data:=.dict #[] }) scope.names }) :
  Ae M A (hW scope globals cl [] qual none .none (some env)) Q E s:=by
 simp only[hW,rr,if_true];refine AJ (wpAny_alloc ?_);refine AJ (wpAny_layCells _ (λname kind cells=>by cases vP:kind==NameKind.cell<;>simp[vP]) _ _ _ _ ?_);rw[show({ s with heap:=s.heap.push { cls:=.type "dict",data:=.dict #[] } }:AP).heap.objs.size=s.heap.objs.size+1 from LX ..];exact AJ (B0 (B0 Dc))
def dX{scope:ED}{env:Env}{x:Str}{k:Kd}(h:(M0 scope env).names.lookup x=some k):(x,k)∈scope.names\/(k=.cell/\(x,JD)∈scope.names):=by
 have m:=Mv h;obtain⟨⟨y,q⟩,Bf,e⟩:=List.mem_map.mp m;dsimp only at e
 split at e
 .rename_i AO;injection e with A9 AG;subst A9;have hf:q=.free:=by
   rw[Ga,Ga]at AO;exact eq_of_beq AO.1.1
  subst hf;exact .inr ⟨AG.symm,Bf⟩
 .injection e with A9 AG;subst A9;subst AG;exact .inl Bf
noncomputable def ab(Ej:TI)(g:IR)(Go:TT)(E7:TE)(nl:Nat)(caps:List Nat):TE:=λσ H Q=>
 Ej σ H λD6 H1=>∀acc,H1 acc=none->∃W:Nat->Nat->St->AA->Prop,(∃m,W 0 m (NQ nl caps σ) (upd H1 acc (.lst [])))/\
  ∀i m σ' H',W i m σ' H'->(D6.stop i H'/\Q (.ref acc) H')\/
   (D6.go i H'/\∀x Ax,D6.Jg i H' x Ax->g x σ' Ax λσ2 Cp=>Go σ2 Cp λb Hg=>
      if b=true then E7 σ2 Hg λy Jk=>∃ys,Jk acc=some (.lst ys)/\ys.length<CF/\∃Ee,Ee<m/\W (i+1) Ee σ2 (upd Jk acc (.lst (ys++[y])))
      else ∃Ee,Ee<m/\W (i+1) Ee σ2 Hg)
section
variable{X:Af}{elt target iter:AT}{ifs:List AT}{scope:ED}{pos:Pos}{N:List Str}{nl:Nat}{caps:List Nat}{Ej:TI}{g:IR}{Go:TT}{E7:TE}
noncomputable def Ps(X:Af)(ifs:List AT)(t:TT):Prop:=
 ∀(pins:List (A7×Obj))(s:AP)(σ :St)(H:AA)(Q:Bool->AA->Prop),Inv X pins σ H s->t σ H Q->
  Ae (B2 X.prog X.w) X.A (forIn ifs true λc r=>if r=true then do let ok <-isTrue c X.env (BK c X.env);pure (Ny ok)else pure (Ny r)) (Yv X pins σ Q) X.xe s
def ad0:TT:=λ_ H Q=>Q true H
def aat:Ps X [] ad0:=λ_ _ _ H _ I h=>wpAny_tests_nil ⟨H,I,h⟩
def aau{c:AT}{t:TT}(h:Fm X c t):Ps X [c] t:=λpins s σ H Q I hw=>wpAny_tests_one (h pins s σ H Q I hw)
def xl{pins:List (A7×Obj)}{σ :St}{H:AA}{s s4:AP}{cl:List (Str×A7)}{Ak:List A7}(S:NI X.env.scope X.N scope N nl caps)(I:Inv X pins σ H s)(CP:∀x c,cl.lookup x=some c->X.env.cells.lookup x=some c\/(scope.names.lookup x=some .cell/\s.heap.objs.size<c/\s4.heap.IsCell c none))(Br:∀x,(x,JD)∈scope.names->cl.lookup x=X.env.cells.lookup x)(Ft:∀x,scope.names.lookup x=some .cell->∃c,cl.lookup x=some c/\s.heap.objs.size<c)(OF:∀x y c,cl.lookup x=some c->cl.lookup y=some c->x=y)(hf:∀b∈Ak,KO X pins H b)(IB:∀b∈Ak,b<s.heap.objs.size)(Rl:s4.os=s.os)(Ah:s4.gens=s.gens)(AS:∃m,s4.heap.Ns s.heap.objs.size m)(AL:∀b o,s.heap.get? b=some o->s4.heap.get? b=some o) :
  Inv (Fp X scope N cl s.heap.objs.size s H Ak) [] (NQ nl caps σ) H s4:=by
 refine⟨⟨I.ok.mod,?_,I.ok.glob,I.ok.blt,CY _,OF,λx AH=>?_,λx c z e=>?_,I.ok.hd,I.ok.frames,.inl rfl,λb A0=>⟨Fe (IB b A0),λx c e=>(CP x c e).elim (λe=>(hf b A0).2.2.2.2.1 x c e) λe=>My (LV (IB b A0) e.2.1)⟩,I.bs,Ff I.ok.Ph I.KW,λb o e A0=>?_,λb A0 AN=>?_,I.stack,I.pO⟩,
  Rl,?_,Gh.kept AL,?_,λx c e=>?_,I.Ba.fresh (CY _),λx c e=>(CP x c e).elim (I.NW x c) λe=>I.Ba.fresh (R5 e.2.1),λp Ad=>absurd (show p∈([]:List (A7×Obj))from Ad) (by simp),I.Ba.kept AL,?_⟩
 .show(M0 scope X.env).kind=.function;exact S.kind
 .have AH:(M0 scope X.env).names.lookup x=some .cell\/(M0 scope X.env).names.lookup x=some .free:=AH;have hm:(x,JD)∈scope.names\/scope.names.lookup x=some .cell:=by
   rcases AH with h|h
   .rcases dX h with m|⟨_,m⟩
    .exact .inr (S.uniq _ m)
    .exact .inl m
   .rcases dX h with m|⟨e,_⟩
    .exact .inl m
    .cases e
  rcases hm with hm|hm
  rotate_left
  .obtain⟨c,e,_⟩:=Ft x hm;exact⟨c,e⟩
  have AX:=S.free _ hm rfl;have AO:∃c,X.env.cells.lookup x=some c:=by
   apply I.ok.has x;show X.env.scope.names.lookup x=some .cell\/X.env.scope.names.lookup x=some .free;cases e:X.env.scope.names.lookup x with
   |none=>rw[e]at AX;cases AX
   |some k=>
    rw[e]at AX
    cases k<;>first
     |exact .inl rfl
     |exact .inr rfl
     |cases AX
  obtain⟨c,e⟩:=AO;exact⟨c,by show cl.lookup x=some c;rw[Br x hm];exact e⟩
 .obtain⟨DM,CV,q⟩:=Ft x (eq_of_beq z);rw[show cl.lookup x=some c from e]at CV;cases CV;exact R5 q
 .rcases(hf b A0).2.2.2.1 with z|z
  .exact I.ok.SX b o e z
  .exact absurd (I1 (DT (I.ok.bs b o e).1) z) (JC _)
 .rcases List.mem_cons.mp (I.aY b AN)with z|z
  .exact(hf b A0).2.1 z
  .exact(hf b A0).2.2.1 z
 .rw[Ah];exact I.bare
 .obtain⟨m,AS⟩:=AS;refine⟨m,AS,λi x v h1 h2 h3=>?_⟩;have hN:N[i]?=some x:=h1;unfold NQ at h2;by_cases AC:i<nl
  .rw[Mx (by simpa using AC),PL,if_pos AC]at h2;cases h2
  .rw[Nw (by simpa using AC),Sl,ER]at h2;cases e:caps[i-nl]? with
   |none=>rw[e]at h2;cases h2
   |some j=>
    rw[e]at h2;have h2: σ.getD j none=some v:=FA h2;obtain⟨y,A9,AG,Pk,El⟩:=S.tA _ _ e;have B3:(y,JD)∈scope.names:=Mv Pk;have CB:H3 X.env.scope y:=by
     cases q:X.env.scope.names.lookup y with
     |none=>rw[q]at El;cases El
     |some k=>
      rw[q]at El
      cases k<;>first
       |exact .inr (.inl q)
       |exact .inr (.inr q)
       |cases El
    have G4:nl+(i-nl)=i:=by lia
    rw[G4,hN]at AG;cases AG;have AN: σ[j]?=some (some v):=by
     rw[JB]at h2;cases q: σ[j]? with
     |none=>rw[q]at h2;cases h2
     |some o=>rw[q]at h2;exact congrArg some h2
    obtain⟨m0,_,AQ⟩:=I.loc;obtain⟨u,r,l⟩:=AQ j x v A9 AN CB;refine⟨u,r,.inr ⟨?_,?_⟩⟩
    .show(M0 scope X.env).names.lookup x=some .cell\/(M0 scope X.env).names.lookup x=some .free;rcases h3 with h3|h3|h3
     .have h3:(M0 scope X.env).names.lookup x=some .local:=h3;rcases dX h3 with z|⟨z,_⟩
      .have Db:scope.names.lookup x=some .local:=S.locs _ z rfl;rw[Db]at Pk;cases Pk
      .cases z
     .exact .inl h3
     .exact .inr h3
    .have AX:X.env.scope.names.lookup x≠some .local:=λz=>by rw[z]at El;cases El
     rcases l with⟨z,_⟩|⟨_,c,DS,Db⟩
     .exact absurd z AX
     .refine⟨c,?_,Db.keeps AL⟩;show cl.lookup x=some c;rw[Br x B3];exact DS
 .rcases CP x c e with e|e
  .obtain⟨v,z⟩:=I.cell x c e;exact⟨v,z.keeps AL⟩
  .exact⟨_,e.2.2⟩
 .show(NQ nl caps σ).length=N.length;unfold NQ;rw[JG,Sl,Fw,S.len]
def x3{pins:List (A7×Obj)}{σ σ' :St}{H H':AA}{s s':AP}{cl:List (Str×A7)}{Ak:List A7}{h':BH}(I:Inv X pins σ H s)(hf:∀b∈Ak,KO X pins H b)(D6:Inv (Fp X scope N cl s.heap.objs.size s H Ak) [] σ' H' s')(AN:JH s.heap.objs.size s'.heap h'):Inv X pins σ H' { s' with heap:=h' }:=by
 have ne:∀b o,s.heap.get? b=some o->b≠s.heap.objs.size:=λb o e=>Fe (DT e);have u:Gh (Ld X.stack) Ak H H' s.heap s'.heap:=D6.base;have fr:H' s.heap.objs.size=none:=D6.free;refine I.ti (ch:=Ak) (s':={ s' with heap:=h' }) D6.os ⟨λb o e n A0 AH=>(AN.2 b (ne b o e)).trans (u.keep b o e n A0 AH),λb o e n A0 AH=>?_,u.free,λb o e AH=>?_,u.Ou,u.NY,u.Ot⟩ (λb o e=>?_) D6.bare λb A0=>?_
 .obtain⟨Bz,q⟩:=u.slot b o e n A0 AH;exact⟨Bz,(AN.2 b (ne b o e)).trans q⟩
 .obtain⟨Ce,q⟩:=u.there b o e AH;exact⟨Ce,(AN.2 b (ne b o e)).trans q⟩
 .refine(D6.Ba b o e).Q6 (λc v AO q=>(AN.2 c ?_).trans q) (λ_ q=>q) λ_ _ q=>q;rintro rfl;rcases AO with z|z
  .rw[<-z,fr]at e;cases e
  .rw[fr]at z;cases z
 .obtain⟨_,f1,_,GV,f4,IW⟩:=hf b A0;exact⟨GV,f1,f4,IW⟩
def ii {pins:List (A7×Obj)} {σ :St} {s2:AP} {Ax:AA} {it:A7} {Ak:List A7} {HR:Nat->BH->Prop} {D6:It} {E:A4->AP->Prop} {Q:AA->Prop} {W:Nat->Nat->St->AA->Prop} {m0:Nat}(S:NI X.env.scope X.N scope N nl caps) (AO:X.calm=true) (Bo:Inv X pins σ Ax s2) (T:Turn X.prog X.w X.K target D6 Ak it HR) (Lr:HR 0 s2.heap) (f2:∀b∈Ak,KO X pins Ax b)(Ah:∀cl C s H Ak,K8 (Fp X scope N cl C s H Ak) target g) (Av:∀cl C s H Ak,Ps (Fp X scope N cl C s H Ak) ifs Go) (he:∀cl C s H Ak,Ay (Fp X scope N cl C s H Ak) elt E7)(Ow:W 0 m0 (NQ nl caps σ) (upd Ax s2.heap.objs.size (.lst [])))(turn:∀i m σ' H',W i m σ' H'->(D6.stop i H'/\Q H')\/
    (D6.go i H'/\∀x Cp,D6.Jg i H' x Cp->g x σ' Cp λσ2 Hg=>Go σ2 Hg λb Jk=>
       if b=true then E7 σ2 Jk λy TK=>∃ys,TK s2.heap.objs.size=some (.lst ys)/\ys.length<CF/\∃Ee,Ee<m/\W (i+1) Ee σ2 (upd TK s2.heap.objs.size (.lst (ys++[y])))
       else ∃Ee,Ee<m/\W (i+1) Ee σ2 Jk))
  (VR:A4->A7->Result->AP->Prop)
  (vi:∀(C:A7) s' H',(∃m,s'.heap.Ns C m)->KO X pins H' C->(∀h',JH C s'.heap h'->Inv X pins σ H' { s' with heap:=h' })->Q H'->VR (.ref s2.heap.objs.size) C (.ok .next) s') :
  Ae (B2 X.prog X.w) X.A (newList []) (λacc QY=>Ae (B2 X.prog X.w) X.A (hW scope X.env.globals (HW X.env scope.names []) [] X.env.qual none .none (some X.env)) (λib aZ=>
   O7 (B2 X.prog X.w) X.A (.compStart (.ListComp elt [⟨target,iter,ifs,0⟩] scope pos) 0 (.ref it) acc { ib with scope:=M0 scope X.env }) (VR acc ib.locals) aZ) E QY) E s2:=by
 have Zp:∀p∈scope.names,p.2=.free->∃c,X.env.cells.lookup p.1=some c:=λp Ad e=>by
  have q:=S.free p Ad e;apply Bo.ok.has p.1;show X.env.scope.names.lookup p.1=some .cell\/X.env.scope.names.lookup p.1=some .free;cases AG:X.env.scope.names.lookup p.1 with
  |none=>rw[AG]at q;cases q
  |some k=>
   rw[AG]at q
   cases k<;>first
    |exact .inl rfl
    |exact .inr rfl
    |cases q
 have U6:∀x,(HW X.env scope.names []).lookup x=if(x,JD)∈scope.names then X.env.cells.lookup x else none:=λx=>ie scope.names [] Zp
 have kU:Ax s2.heap.objs.size=none:=Bo.Ba.fresh (CY _);refine JE (z5 ?_);dsimp only;have Dk:Inv X pins σ (upd Ax s2.heap.objs.size (.lst [])) { s2 with heap:=s2.heap.push { cls:=.type "list",dict:=none,data:=.seq ([]:List A4).toArray } }:=Bo.e9 (its:=[]) (ys:=[]) (t':=s2.toks) .nil (JJ _);generalize ci:({ s2 with heap:=s2.heap.push { cls:=.type "list",dict:=none,data:=.seq ([]:List A4).toArray } }:AP)=s3 at Dk;have dR:s2.heap.push { cls:=.type "list",dict:=none,data:=.seq ([]:List A4).toArray }=s3.heap:=by rw[<-ci]
 rw[dR];have oO:∀b o,s2.heap.get? b=some o->s3.heap.get? b=some o:=λb o e=>by rw[<-dR];exact DE _ e
 have abb:s3.heap.objs.size=s2.heap.objs.size+1:=by rw[<-dR,LX]
 have Qm:=bZ scope.names (s3.heap.objs.size+1) [] (HW X.env scope.names []);have ok:=cellsFrom_ok scope.names (s3.heap.push { cls:=.type "dict",data:=.dict #[] }) (s3.heap.objs.size+1) [] ⟨λ_ _ hm=>(nomatch hm),rv⟩ (by rw[LX];exact CY _);have mF:=(Heap.Ns.new s3.heap (.type "dict")).keeps (pushCells_keeps scope.names _);have ZK:∀b o,s3.heap.get? b=some o->(pushCells (s3.heap.push { cls:=.type "dict",data:=.dict #[] }) scope.names).get? b=some o:=λb o e=>pushCells_keeps _ _ b o (DE _ e);rw[LX]at ok;rw[Xc]at Qm;rw[Qm];generalize pushCells (s3.heap.push { cls:=.type "dict",data:=.dict #[] }) scope.names=Ku at mF ZK ok |-;have old:∀x c,X.env.cells.lookup x=some c->c<s3.heap.objs.size:=λx c e=>by obtain⟨v,z⟩:=Dk.cell x c e;exact z.lt
 have UE:∀x c,(Hm (s3.heap.objs.size+1) scope.names []++HW X.env scope.names []).lookup x=some c->((x,c)∈Hm (s3.heap.objs.size+1) scope.names []/\scope.names.lookup x=some .cell/\s3.heap.objs.size<c/\Ku.IsCell c none)\/X.env.cells.lookup x=some c:=λx c e=>by
  rw[hB]at e;cases A9:(Hm (s3.heap.objs.size+1) scope.names []).lookup x with
  |some DM=>
   rw[A9]at e;have e:DM=c:=FA e;subst e;have m:=Mv A9;rcases Yh _ _ _ m with z|z
   .exact .inl ⟨m,S.uniq _ z,(ok.empty _ _ m).2,(ok.empty _ _ m).1⟩
   .cases z
  |none=>
   rw[A9]at e;have e:(HW X.env scope.names []).lookup x=some c:=e;rw[U6]at e
   split at e
   .exact .inr e
   .cases e
 have Br:∀x,(x,JD)∈scope.names->(Hm (s3.heap.objs.size+1) scope.names []++HW X.env scope.names []).lookup x=X.env.cells.lookup x:=λx AH=>by
  rw[hB];cases A9:(Hm (s3.heap.objs.size+1) scope.names []).lookup x with
  |some DM=>
   rcases Yh _ _ _ (Mv A9)with z|z
   .have An:=S.uniq _ z;have BG:=S.uniq _ AH;dsimp only at An BG;rw[An]at BG;cases BG
   .cases z
  |none=>show(HW X.env scope.names []).lookup x=_;rw[U6,if_pos AH]
 have Ft:∀x,scope.names.lookup x=some .cell->∃c,(Hm (s3.heap.objs.size+1) scope.names []++HW X.env scope.names []).lookup x=some c/\s3.heap.objs.size<c:=λx AH=>by obtain⟨c,e⟩:=bY (n:=s3.heap.objs.size+1) AH;exact⟨c,by rw[hB,e];rfl,(ok.empty _ _ (Mv e)).2⟩
 have OF:∀x y c,(Hm (s3.heap.objs.size+1) scope.names []++HW X.env scope.names []).lookup x=some c->(Hm (s3.heap.objs.size+1) scope.names []++HW X.env scope.names []).lookup y=some c->x=y:=λx y c h1 h2=>by
  rcases UE x c h1 with DS|DS<;>rcases UE y c h2 with Db|Db
  .exact name_of_addr ok.apart DS.1 Db.1
  .exact absurd (old y c Db) (Nat.not_lt_of_gt DS.2.2.1)
  .exact absurd (old x c DS) (Nat.not_lt_of_gt Db.2.2.1)
  .exact Dk.ok.inj x y c DS Db
 have CP:∀x c,(Hm (s3.heap.objs.size+1) scope.names []++HW X.env scope.names []).lookup x=some c->X.env.cells.lookup x=some c\/(scope.names.lookup x=some .cell/\s3.heap.objs.size<c/\Ku.IsCell c none):=λx c e=>(UE x c e).elim (λz=>.inr z.2) .inl;generalize Hm (s3.heap.objs.size+1) scope.names []++HW X.env scope.names []=cl at UE CP Br Ft OF |-;have mD:∀b∈Ak,b<s2.heap.objs.size:=λb A0=>by obtain⟨o,e,_⟩:=T.obj 0 _ Lr b A0;exact DT e
 have GV:∀b∈Ak,KO X pins (upd Ax s2.heap.objs.size (.lst [])) b:=λb A0=>by obtain⟨Yz,a1⟩:=f2 b A0;exact⟨by rw[Da (Fe (mD b A0))];exact Yz,a1⟩
 have cc:∀b∈Ak,b<s3.heap.objs.size:=λb A0=>by rw[abb];exact hF (mD b A0)
 have loop:∀s4:AP,s4={ s3 with heap:=Ku }->
   O7 (B2 X.prog X.w) X.A (.compLoop (.ListComp elt [⟨target,iter,ifs,0⟩] scope pos) 0 (.ref it) (.ref s2.heap.objs.size) (compEnvC scope cl s3.heap.objs.size X.env))
    (VR (.ref s2.heap.objs.size) s3.heap.objs.size) s4:=by
  intro s4 UA;have L_:Inv (Fp X scope N cl s3.heap.objs.size s3 (upd Ax s2.heap.objs.size (.lst [])) Ak) [] (NQ nl caps σ) (upd Ax s2.heap.objs.size (.lst [])) s4:=
   xl S Dk (by rw[UA];exact CP) Br Ft OF GV cc (by rw[UA]) (by rw[UA]) ⟨_,by rw[UA];exact mF⟩ (by rw[UA];exact ZK)
  have adT:HR 0 s4.heap:=T.keep 0 _ _ Lr λb A0 o e=>by rw[UA];exact ZK b o (oO b o e)
  generalize Lk:Fp X scope N cl s3.heap.objs.size s3 (upd Ax s2.heap.objs.size (.lst [])) Ak=B at L_;have stat:∀{H':AA},(∀b∈Ak,H' b=none)->∀b∈Ak,KO B [] H' b:=λ{H'} AS b A0=>by
   subst Lk;obtain⟨Yz,a1,a2,I7,OR,S5⟩:=GV b A0;refine⟨AS b A0,Fe (cc b A0),λz=>?_,.inl A0,λx c e=>?_,λp Ad=>absurd (show p∈([]:List (A7×Obj))from Ad) (by simp)⟩
   .rcases List.mem_cons.mp (Dk.aY b z)with q|q
    .exact a1 q
    .exact a2 q
   .rcases CP x c e with e|e
    .exact OR x c e
    .exact My (LV (cc b A0) e.2.1)
  have vH:K8 B target g:=by subst Lk;exact Ah _ _ _ _ _
  have wa:Ps B ifs Go:=by subst Lk;exact Av _ _ _ _ _
  have vD:Ay B elt E7:=by subst Lk;exact he _ _ _ _ _
  have VE:B.prog=X.prog:=by subst Lk;rfl
  have HX:B.w=X.w:=by subst Lk;rfl
  have kK:B.K=X.K:=by subst Lk;rfl
  have ug:B.A=X.A:=by subst Lk;rfl
  have bi:B.env=compEnvC scope cl s3.heap.objs.size X.env:=by subst Lk;rfl
  have kM:B.calm=true:=by subst Lk;exact AO
  have uG:B.xe=λ_ _=>False:=by subst Lk;rfl
  rw[<-VE,<-HX,<-ug,<-bi];refine tG (λn s'=>∃i σ' H',Inv B [] σ' H' s'/\HR i s'.heap/\(∀b∈Ak,H' b=none)/\W i n σ' H') ?_ m0 ⟨0,_,_,L_,adT,λb A0=>(GV b A0).1,Ow⟩;rintro n s5 ⟨i,σ5,Jk,TM,UU,YP,adx⟩;have away:∀{α:Type}{t:Sem α}{jG:α->AP->Prop}{sK:A4->AP->Prop}{Ol:AP},Ae (B2 B.prog B.w) B.A t jG B.xe Ol->Ae (B2 B.prog B.w) B.A t jG sK Ol:=λh=>Ip h (λ_ _ q=>q) λe s' z=>by rw[uG]at z;cases z
  rcases turn i n σ5 Jk adx with⟨stop,q⟩|⟨go,step⟩
  .have d:=T.done B VE HX kK kM i [] s5 σ5 Jk (Pb (B2 B.prog B.w) B.A B.env λe s'=>VR (.ref s2.heap.objs.size) s3.heap.objs.size (.error e) s') TM (stat YP) UU stop;rw[<-VE,<-HX]at d;refine Bb d λr Gx⟨AI,VL⟩=>?_;subst AI;refine vi _ Gx Jk ?_ (Dk.Oa (CY _) ?_) (λh' Ks=>?_) q
   .obtain⟨m,AS,_⟩:=VL.loc;rw[bi]at AS;exact⟨m,AS⟩
   .have z:=VL.free;rw[bi]at z;exact z
   .subst Lk;exact x3 Dk GV VL Ks
  .have d:=T.item B VE HX kK kM i [] s5 σ5 Jk (Pb (B2 B.prog B.w) B.A B.env λe s'=>VR (.ref s2.heap.objs.size) s3.heap.objs.size (.error e) s') TM (stat YP) UU go;rw[<-VE,<-HX]at d;refine Bb d λr Gx⟨u,AI,h6⟩=>?_;subst AI;refine Bb h6 λ_ Dn⟨x,H2,LD,JZ,aes,ee,vV⟩=>?_;have sQ:=LD.pinned (stat vV) (T.obj _ _ ee);refine away (Bb (vH _ Dn σ5 H2 x u _ sQ JZ (step x H2 aes)) λ_ s8⟨σ8,iM,sR,ab7⟩=>?_);refine away (Bb (wa _ s8 σ8 iM _ sR ab7) λb s9⟨sL,iZ,oC⟩=>?_);have again:∀{σa:St}{TL:AA}{Ol:AP},Inv B ([]++X5 Ak Dn.heap) σa TL Ol->(∃Ee,Ee<n/\W (i+1) Ee σa TL)->∃m,m<n/\∃i σ' H',Inv B [] σ' H' Ol/\HR i Ol.heap/\(∀b∈Ak,H' b=none)/\W i m σ' H':=λ{σa TL Ol} iO⟨Ee,hm,ae1⟩=>by
    refine⟨Ee,hm,i+1,σa,TL,iO.a9,T.keep _ _ _ ee λb A0 o e=>(iO.pin (b,o) (GB _ (GB _ (Zf A0 e)))).1,λb A0=>?_,ae1⟩;obtain⟨o,e,d⟩:=T.obj _ _ ee b A0;exact(iO.pin (b,o) (GB _ (GB _ (Zf A0 e)))).2.1
   cases b with
   |false=>exact again iZ oC
   |true=>show Ae _ _ (BK elt B.env) _ _ s9;refine away (Bb (vD _ s9 σ8 sL _ iZ oC) λg6 Cx⟨y,iX,sN,Bv,ys,AB,Ar,ab4⟩=>?_);refine away (Bb (eO _ Cx σ8 iX (.ref s2.heap.objs.size) [y] (.ref s2.heap.objs.size) [g6] (λ_ iY=>iY=upd iX s2.heap.objs.size (.lst (ys++[y]))) sN rfl (.cons Bv .nil) ⟨_,ys,y,rfl,rfl,AB,Ar,rfl⟩) λ_ CH⟨z,iY,sO,_,ud⟩=>?_);subst ud;exact again sO ab4
 exact codeAny_compStart_list (loop _ (by rw[<-ci])) (T.self X.A 0 _ _ _ (T.keep 0 _ _ Lr λb A0 o e=>ZK b o (oO b o e)) (loop _ (by rw[<-ci])))
def kZ{pins:List (A7×Obj)}{σ :St}{s:AP}{H:AA}(S:NI X.env.scope X.N scope N nl caps)(I:Inv X pins σ H s):∀p∈scope.names,p.2=.free->∃c,X.env.cells.lookup p.1=some c:=λp Ad e=>by
 have q:=S.free p Ad e;apply I.ok.has p.1;show X.env.scope.names.lookup p.1=some .cell\/X.env.scope.names.lookup p.1=some .free;cases AG:X.env.scope.names.lookup p.1 with
 |none=>rw[AG]at q;cases q
 |some k=>
  rw[AG]at q
  cases k<;>first
   |exact .inl rfl
   |exact .inr rfl
   |cases q
def zb(S:NI X.env.scope X.N scope N nl caps)(AO:X.calm=true)(AC:GS X target iter Ej)(Ah:∀cl C s H Ak,K8 (Fp X scope N cl C s H Ak) target g)(Av:∀cl C s H Ak,Ps (Fp X scope N cl C s H Ak) ifs Go)(he:∀cl C s H Ak,Ay (Fp X scope N cl C s H Ak) elt E7)(AN:∀x,PO iter X.env x=pure x:=by intro _;rfl):Ay X (.ListComp elt [⟨target,iter,ifs,0⟩] scope pos) (ab Ej g Go E7 nl caps):=by intro pins s σ H Q I h;rw[eval_ListComp];refine wpAny_comprehension_free (use:=none) rfl AN (ig (kZ S I)) S.kind S.locs ?_;refine Bb (AC pins s σ H _ I h) λv s1 h1=>Bb h1 λZJ s2 h2=>?_;obtain⟨it,Ak,HR,D6,Ax,e,Bo,T,Lr,f2,k⟩:=h2;subst e;obtain⟨W,⟨m0,Ow⟩,turn⟩:=k s2.heap.objs.size (Bo.Ba.fresh (CY _));refine ii (Q:=λH'=>Q (.ref s2.heap.objs.size) H') S AO Bo T Lr f2 Ah Av he Ow turn (λacc C=>compPost (B2 X.prog X.w) X.A X.xe none (Gc X pins σ Q) acc C) ?_;intro C s' H' AS _ J1 q;obtain⟨m,AS⟩:=AS;exact⟨m,AS,λh' Ks=>⟨.ref s2.heap.objs.size,H',J1 h' Ks,rfl,q⟩⟩
def aam{i:Nat}{y:Str}{py pL:Pos}(S:NI X.env.scope X.N scope N nl caps)(AO:X.calm=true)(hN:X.N.Nodup)(Bf:X.N[i]?=some y)(AQ:X.env.kindOf y=some .local)(AC:GS X target iter Ej)(Ah:∀cl C s H Ak,K8 (Fp X scope N cl C s H Ak) target g)(Av:∀cl C s H Ak,Ps (Fp X scope N cl C s H Ak) ifs Go)(he:∀cl C s H Ak,Ay (Fp X scope N cl C s H Ak) elt E7)(cj:PW (.ListComp elt [⟨target,iter,ifs,0⟩] scope pos) (some (.Name y py)) pL.line X.env=pure true:=by rfl)(AN:∀x,PO iter X.env x=pure x:=by intro _;rfl):DX X (.Assign [.Name y py] (.ListComp elt [⟨target,iter,ifs,0⟩] scope pos) pL) (Oq (ab Ej g Go E7 nl caps) (KD i)):=by
 intro pins s σ H Ca I h;rw[exec_Assign_Name_used _ _ _ _ cj];refine AJ (wpAny_standAt (AJ ?_));show Ae _ X.A (do let _ <-comprehension (.ListComp elt [⟨target,iter,ifs,0⟩] scope pos) scope X.env _ (newList []) false (BK iter X.env) (some (Ke (.Name y py) X.env))) _ _ s;refine AJ (Ip (wpAny_comprehension_free (use:=some (Ke (.Name y py) X.env)) (Q:=λ_ s'=>S2 X pins Ca .next s') rfl AN (ig (kZ S I)) S.kind S.locs ?_) (λ_ s' AX=>B0 (B0 AX)) λ_ _ e=>e);refine Bb (AC pins s σ H _ I h) λv s1 h1=>Bb h1 λZJ s2 h2=>?_;obtain⟨it,Ak,HR,D6,Ax,e,Bo,T,Lr,f2,k⟩:=h2;subst e;obtain⟨W,⟨m0,Ow⟩,turn⟩:=k s2.heap.objs.size (Bo.Ba.fresh (CY _));refine ii (Q:=λH'=>Ca.BC (σ.set i (some (.ref s2.heap.objs.size))) H') S AO Bo T Lr f2 Ah Av he Ow turn (λacc C=>compPost (B2 X.prog X.w) X.A X.xe (some (Ke (.Name y py) X.env)) (λ_ s'=>S2 X pins Ca .next s') acc C) ?_;intro C s' H' AS HI J1 q;obtain⟨m,AS⟩:=AS;show Ae _ X.A (Ke (.Name y py) X.env (.ref s2.heap.objs.size)) _ _ s';have NJ:Inv X pins σ H' s':=J1 s'.heap (Heap.SameBut.refl _ _);refine wpAny_assign_Name (oq (v:=.ref s2.heap.objs.size) NJ hN Bf (.inl AQ) (show RelV (V.ref _) _ from rfl) (λXA sM w_=>?_) (.inr AQ));obtain⟨a,wZ,AB⟩:=w_;obtain⟨Jw,BX,Ev,HB,Jx,td⟩:=HI;have yv:C≠a:=by
  rcases AB with z|z
  .rw[z];exact BX
  .exact λw=>Jx y a z w.symm
 refine⟨m,AS.sameBut wZ yv,λh' Ks=>?_⟩;exact⟨_,H',sM.turned (t':=XA.toks) (it:=C) (λb o A0 e=>(Ks.2 b A0).trans e) Jw BX HB Jx td,q⟩
end
section
variable{X:Af}{pins:List (A7×Obj)}{σ :St}{H H':AA}{s s':AP}{a:A7}{C Yz:A4}{B:BH}
end
section
variable{X:Af}{x:Str}{np Bq pos afa:Pos}{C:A7}{afW:List A4}{B newId afu:String}{m:Str}{j:Nat}
end
abbrev uF(a:A7)(C:A4):E5:=.ext λh=>∃ob,h.get? a=some ob/\ob.cls=C
section
variable{X:Af}{pins:List (A7×Obj)}{σ :St}{H H':AA}{s s':AP}{a:A7}{C Yz:A4}{B:BH}{agT:BH}
end
section
variable{X:Af}{k:Nat}{f C:A7}{fd:GD}{Ap:List Str}{sp:B9}{E:DL}{x:Str}{p pos:Pos}{e:AT}{A6:List AT}{t:FC}
end
section
variable{X:Af}{pins:List (A7×Obj)}{σ :St}{H H':AA}{s s':AP}{a:A7}
end
section
variable{X:Af}{i:Nat}{x n:Str}{W:A7}{e:AT}{E7:TE}{E:DL}{tc:BW}{acn:List BW}{Au:F_}{aa4 np Ad pos:Pos}
end
end C2
namespace Cm
open PySem C2
inductive D where
 |non|Aa (b:Bool)|int (i:Int)|str (x:Str)
 |tup (xs:List D)|lst (xs:List D)|Cc (xs:List D)
 |Do (ks:List Key) (xs:List D)|B7 (ks:List Bd) (xs:List D)
 |ins (c:Str) (ns:List Str) (xs:List D)
 |Q_ (c:Str)
 |EF (xs:List D)
def Sub(G H:AA):Prop:=∀b o,G b=some o->H b=some o
def Sub.refl(G:AA):Sub G G:=λ_ _ e=>e
def Sub.trans{G H I:AA}(a:Sub G H)(b:Sub H I):Sub G I:=λc o e=>b c o (a c o e)
def Sub.gone{G H:AA}(a:Sub G H){b:A7}(h:H b=none):G b=none:=by
 cases e:G b with
 |none=>rfl
 |some o=>rw[a b o e]at h;cases h
theorem Sub.upd{G:AA}{a:A7}{o:E5}(h:G a=none):Sub G (upd G a o):=λb u e=>by rw[Da (KI e h)];exact e
def Sub.aA{G H:AA}{a:A7}{o:E5}(s:Sub G H)(h:G a=none):Sub G (C2.upd H a o):=λb u e=>by rw[Da (KI e h)];exact s b u e
def Sub.both{G H:AA}{a:A7}{o:E5}(s:Sub G H):Sub (C2.upd G a o) (C2.upd H a o):=λb u e=>by
 by_cases A0:b=a
 .subst A0;rw[E1]at e |-;exact e
 .rw[Da A0]at e |-;exact s b u e
theorem Sub.at{G H:AA}{a:A7}{o:E5}(s:Sub G H)(h:H a=some o):Sub (C2.upd G a o) H:=λb u e=>by
 by_cases A0:b=a
 .subst A0;rw[E1]at e;rw[h];exact e
 .rw[Da A0]at e;exact s b u e
def I5(H:AA)(b:A7):Prop:=H b≠none/\∀xs,H b≠some (.tup xs)
structure Bw(G H G' H':AA):Prop where
 g:Sub G G'
 h:Sub H H'
 n:∀b,I5 H b->G' b=G b
def Sub.some{G H:AA}(s:Sub G H){b:A7}(h:G b≠none):H b≠none:=λz=>h (s.gone z)
def Sub.JX{G H:AA}(s:Sub G H){b:A7}(h:I5 G b):I5 H b:=by
 cases e:G b with
 |none=>exact absurd e h.1
 |some o=>exact⟨s.some h.1,λxs z=>h.2 xs (e.trans ((s b o e).symm.trans z))⟩
def I5.of{H:AA}{b:A7}{o:E5}(e:H b=some o)(n:∀xs,o≠.tup xs):I5 H b:=⟨by rw[e];exact(λz=>nomatch z),λxs z=>n xs (FA (e.symm.trans z))⟩
theorem Bw.refl(G H:AA):Bw G H G H:=⟨Sub.refl _,Sub.refl _,λ_ _=>rfl⟩
theorem Bw.trans{G H Al H1 Ci Ax:AA}(a:Bw G H Al H1)(b:Bw Al H1 Ci Ax):Bw G H Ci Ax:=⟨a.g.trans b.g,a.h.trans b.h,λc AO=>(b.n c (a.h.JX AO)).trans (a.n c AO)⟩
def Bw.lay{G H:AA}{p:A7}{o:E5}(s:Sub G H)(Ad:H p=none):Bw G H (C2.upd G p o) (C2.upd H p o):=⟨Sub.upd (s.gone Ad),Sub.upd Ad,λb A0=>by rw[Da];intro e;subst e;exact A0.1 Ad⟩
def Bw.lay0{G H:AA}{p:A7}{o:E5}(Ad:H p=none):Bw G H G (C2.upd H p o):=⟨Sub.refl _,Sub.upd Ad,λ_ _=>rfl⟩
def Bw.put{G H G' H':AA}{p:A7}{o:E5}(u:Bw G H G' H')(Ad:H p=none)(Ah:G' p=none):Bw G H (C2.upd G' p o) H':=⟨u.g.trans (Sub.upd Ah),u.h,λb A0=>by
 rw[Da]
 .exact u.n b A0
 .intro e;subst e;exact A0.1 Ad⟩
def Eu.mono{G H:AA}(s:Sub G H){a:A7}{u:E5}(r:Eu G a u):Eu H a u:=by
 rcases r with r|⟨o,r⟩
 .exact .inl (s _ _ r)
 .exact .inr ⟨o,s _ _ r⟩
theorem C4.mono{K:AY}{G H:AA}(s:Sub G H){a:A7}{xs:List V}(r:C4 K G a xs):C4 K H a xs:=by
 rcases r with r|r
 .exact .inl (Eu.mono s r)
 .exact .inr r
theorem CK.mono{K:AY}{G H:AA}(s:Sub G H){a:A7}{xs:List V}(r:CK K G a xs):CK K H a xs:=by
 rcases r with r|r
 .exact .inl (Eu.mono s r)
 .exact .inr r
def GE(K:AY)(c:Str)(C:A7):Prop:=Fg K E4 c=some (some (.ref C))
mutual
noncomputable def At(K:AY)(G:AA):D->V->Prop
 |.non,v=>v=.non
 |.Aa b,v=>v=.Aa b
 |.int i,v=>v=.int i
 |.str x,v=>v=.str x
 |.tup ds,v=>∃a xs,v=.ref a/\G a=some (.tup xs)/\A_ K G ds xs
 |.EF ds,v=>∃a xs,v=.ref a/\CK K G a xs/\A_ K G ds xs
 |.lst ds,v=>∃a xs,v=.ref a/\G a=some (.lst xs)/\A_ K G ds xs
 |.Cc ds,v=>∃a xs,v=.ref a/\C4 K G a xs/\A_ K G ds xs
 |.Do ks ds,v=>∃a xs,v=.ref a/\G a=some (.Do xs)/\xs.map (·.1)=ks/\A_ K G ds (xs.map (·.2))
 |.B7 ks ds,v=>∃a xs,v=.ref a/\G a=some (.B7 xs)/\xs.map (·.1)=ks/\A_ K G ds (xs.map (·.2))
 |.ins c ns ds,v=>∃a Aj xs,v=.ref a/\(∃C,GE K c C/\G a=some (.ins C Aj xs))/\xs.map (·.1)=ns/\A_ K G ds (xs.map (·.2))
 |.Q_ c,v=>∃(a:A7)(xs:List V),v=.ref a/\(∃C,GE K c C/\G a=some (uF a (.ref C)))/\xs=[]
noncomputable def A_(K:AY)(G:AA):List D->List V->Prop
 |[],vs=>vs=[]
 |d::ds,vs=>∃v r,vs=v::r/\At K G d v/\A_ K G ds r
end
mutual
theorem At.mono{K:AY}{G H:AA}(s:Sub G H):∀{d:D}{v:V},At K G d v->At K H d v
 |.non,_,h=>by simpa only[At]using h
 |.Aa _,_,h=>by simpa only[At]using h
 |.int _,_,h=>by simpa only[At]using h
 |.str _,_,h=>by simpa only[At]using h
 |.tup _,_,h=>by simp only[At]at h |-;obtain⟨a,xs,e,q,r⟩:=h;exact⟨a,xs,e,s _ _ q,A_.mono s r⟩
 |.EF _,_,h=>by simp only[At]at h |-;obtain⟨a,xs,e,q,r⟩:=h;exact⟨a,xs,e,CK.mono s q,A_.mono s r⟩
 |.lst _,_,h=>by simp only[At]at h |-;obtain⟨a,xs,e,q,r⟩:=h;exact⟨a,xs,e,s _ _ q,A_.mono s r⟩
 |.Cc _,_,h=>by simp only[At]at h |-;obtain⟨a,xs,e,q,r⟩:=h;exact⟨a,xs,e,C4.mono s q,A_.mono s r⟩
 |.Do _ _,_,h=>by simp only[At]at h |-;obtain⟨a,xs,e,q,k,r⟩:=h;exact⟨a,xs,e,s _ _ q,k,A_.mono s r⟩
 |.B7 _ _,_,h=>by simp only[At]at h |-;obtain⟨a,xs,e,q,k,r⟩:=h;exact⟨a,xs,e,s _ _ q,k,A_.mono s r⟩
 |.ins _ _ _,_,h=>by simp only[At]at h |-;obtain⟨a,Aj,xs,e,⟨C,BX,q⟩,k,r⟩:=h;exact⟨a,Aj,xs,e,⟨C,BX,s _ _ q⟩,k,A_.mono s r⟩
 |.Q_ _,_,h=>by simp only[At]at h |-;obtain⟨a,xs,e,⟨C,BX,q⟩,r⟩:=h;exact⟨a,xs,e,⟨C,BX,s _ _ q⟩,r⟩
theorem A_.mono{K:AY}{G H:AA}(s:Sub G H):∀{ds:List D}{vs:List V},A_ K G ds vs->A_ K H ds vs
 |[],_,h=>by simpa only[A_]using h
 |_::_,_,h=>by simp only[A_]at h |-;obtain⟨v,r,e,q,t⟩:=h;exact⟨v,r,e,At.mono s q,A_.mono s t⟩
end
section
variable{K:AY}{G:AA}
def A_.nil:A_ K G [] []:=by simp only[A_]
def A_.cons{d:D}{ds:List D}{v:V}{vs:List V}(h:At K G d v)(t:A_ K G ds vs):A_ K G (d::ds) (v::vs):=by simp only[A_];exact⟨v,vs,rfl,h,t⟩
theorem A_.length:∀{ds:List D}{vs:List V},A_ K G ds vs->ds.length=vs.length
 |[],_,h=>by simp only[A_]at h;subst h;rfl
 |_::_,_,h=>by simp only[A_]at h;obtain⟨v,r,rfl,_,t⟩:=h;simp[A_.length t]
theorem A_.get:∀{ds:List D}{vs:List V}{i:Nat}{d:D},A_ K G ds vs->ds[i]?=some d->∃v,vs[i]?=some v/\At K G d v
 |[],_,_,_,_,e=>by simp at e
 |_::_,_,0,_,h,e=>by simp only[A_]at h;obtain⟨v,r,rfl,q,t⟩:=h;simp at e;subst e;exact⟨v,by simp,q⟩
 |_::_,_,i+1,d,h,e=>by simp only[A_]at h;obtain⟨v,r,rfl,q,t⟩:=h;obtain⟨u,h1,h2⟩:=A_.get (i:=i) (d:=d) t (by simpa using e);exact⟨u,by simpa using h1,h2⟩
def A_.WL{ds:List D}{vs:List V}{i:Nat}{v:V}(h:A_ K G ds vs)(e:vs[i]?=some v):∃d,ds[i]?=some d/\At K G d v:=by
 have AC:i<ds.length:=by rw[h.length];exact(List.getElem?_eq_some_iff.mp e).1
 obtain⟨u,h1,h2⟩:=h.get (E8 AC);rw[e]at h1;cases h1;exact⟨_,E8 AC,h2⟩
theorem A_.append:∀{ds A6:List D}{vs ws:List V},A_ K G ds vs->A_ K G A6 ws->A_ K G (ds++A6) (vs++ws)
 |[],_,_,_,h,t=>by simp only[A_]at h;subst h;exact t
 |_::_,_,_,_,h,t=>by simp only[A_]at h;obtain⟨v,r,rfl,q,s⟩:=h;exact .cons q (A_.append s t)
theorem A_.take:∀(n:Nat){ds:List D}{vs:List V},A_ K G ds vs->A_ K G (ds.take n) (vs.take n)
 |0,_,_,_=>by simpa using A_.nil
 |_+1,[],_,h=>by simp only[A_]at h;subst h;simpa using A_.nil
 |n+1,_::_,_,h=>by simp only[A_]at h;obtain⟨v,r,rfl,q,t⟩:=h;exact .cons q (A_.take n t)
theorem A_.drop:∀(n:Nat){ds:List D}{vs:List V},A_ K G ds vs->A_ K G (ds.drop n) (vs.drop n)
 |0,_,_,h=>by simpa using h
 |_+1,[],_,h=>by simp only[A_]at h;subst h;simpa using A_.nil
 |n+1,_::_,_,h=>by simp only[A_]at h;obtain⟨v,r,rfl,q,t⟩:=h;simpa using A_.drop n t
def A_.snoc{ds:List D}{vs:List V}{d:D}{v:V}(h:A_ K G ds vs)(q:At K G d v):A_ K G (ds++[d]) (vs++[v]):=h.append (.cons q .nil)
end
inductive R(α:Type) where
 |ok (a:α)|exc (c:Str)|bad
namespace R
def bind{α β:Type}:R α->(α->R β)->R β
 |.ok a,k=>k a
 |.exc c,_=>.exc c
 |.bad,_=>.bad
def map{α β:Type}(f:α->β)(r:R α):R β:=r.bind λa=>.ok (f a)
def E_{α β:Type}(a:α)(k:α->R β):(R.ok a).bind k=k a:=rfl
end R
def rb{α β:Type}{P:R α->Prop}{LH:R β->Prop}{r:R α}{k:α->R β}(h:LH (r.bind k))(f:∀a,r=.ok a->LH (k a)->P (.ok a))(A0:LH .bad->P .bad:=by exact id)(AH:∀c,LH (.exc c)->P (.exc c):=by exact λ_=>id):P r:=by
 cases r with
 |ok a=>exact f a rfl h
 |exc c=>exact AH c h
 |bad=>exact A0 h
inductive T where
 |A1 (d:D)|lst (Au:List T)|Do (ks:List Key) (Au:List T)|B7 (ks:List Bd) (Au:List T)|ins (c:Str) (ns:List Str) (Au:List T)
mutual
noncomputable def toD:T->D
 |.A1 d=>d
 |.lst Au=>.lst (Mp Au)
 |.Do ks Au=>.Do ks (Mp Au)
 |.B7 ks Au=>.B7 ks (Mp Au)
 |.ins c ns Au=>.ins c ns (Mp Au)
noncomputable def Mp:List T->List D
 |[]=>[]
 |t::Au=>toD t::Mp Au
end
mutual
noncomputable def Ak(H:AA):T->V->List A7
 |.A1 _,_=>[]
 |.lst Au,v=>match v with
  |.ref a=>match H a with
   |some (.lst xs)=>a::EA H Au xs
   |_=>[]
  |_=>[]
 |.Do _ Au,v=>match v with
  |.ref a=>match H a with
   |some (.Do xs)=>a::EA H Au (xs.map (·.2))
   |_=>[]
  |_=>[]
 |.B7 _ Au,v=>match v with
  |.ref a=>match H a with
   |some (.B7 xs)=>a::EA H Au (xs.map (·.2))
   |_=>[]
  |_=>[]
 |.ins _ _ Au,v=>match v with
  |.ref a=>match H a with
   |some (.ins _ _ xs)=>a::EA H Au (xs.map (·.2))
   |_=>[]
  |_=>[]
noncomputable def EA(H:AA):List T->List V->List A7
 |[],_=>[]
 |t::Au,vs=>match vs with
  |v::r=>Ak H t v++EA H Au r
  |[]=>[]
end
mutual
noncomputable def CS(K:AY)(G H:AA):T->V->Prop
 |.A1 d,v=>At K G d v
 |.lst Au,v=>∃a xs,v=.ref a/\H a=some (.lst xs)/\Bp K G H Au xs
 |.Do ks Au,v=>∃a xs,v=.ref a/\H a=some (.Do xs)/\xs.map (·.1)=ks/\Bp K G H Au (xs.map (·.2))
 |.B7 ks Au,v=>∃a xs,v=.ref a/\H a=some (.B7 xs)/\xs.map (·.1)=ks/\Bp K G H Au (xs.map (·.2))
 |.ins c ns Au,v=>∃a Aj xs,v=.ref a/\(∃C,GE K c C/\H a=some (.ins C Aj xs))/\xs.map (·.1)=ns/\Bp K G H Au (xs.map (·.2))
noncomputable def Bp(K:AY)(G H:AA):List T->List V->Prop
 |[],vs=>vs=[]
 |t::Au,vs=>∃v r,vs=v::r/\CS K G H t v/\Bp K G H Au r
end
section
variable{K:AY}{G G' H H' P:AA}
def Rd{a:A7}{xs:List V}{Au:List T}(q:H a=some (.lst xs)):Ak H (.lst Au) (.ref a)=a::EA H Au xs:=by simp only[Ak,q]
def U3{a:A7}{xs:List (Key×V)}{ks:List Key}{Au:List T}(q:H a=some (.Do xs)):Ak H (.Do ks Au) (.ref a)=a::EA H Au (xs.map (·.2)):=by simp only[Ak,q]
def MT{a:A7}{xs:List (Bd×V)}{ks:List Bd}{Au:List T}(q:H a=some (.B7 xs)):Ak H (.B7 ks Au) (.ref a)=a::EA H Au (xs.map (·.2)):=by simp only[Ak,q]
def Lc{a C:A7}{Aj}{xs:List (Str×V)}{c:Str}{ns:List Str}{Au:List T}(q:H a=some (.ins C Aj xs)):Ak H (.ins c ns Au) (.ref a)=a::EA H Au (xs.map (·.2)):=by simp only[Ak,q]
def Hr{t:T}{Au:List T}{v:V}{r:List V}:EA H (t::Au) (v::r)=Ak H t v++EA H Au r:=by simp only[EA]
def U2{vs:List V}:EA H [] vs=[]:=by simp only[EA]
mutual
theorem CS.mono(BM:Sub G G'):∀{t:T}{v:V},CS K G H t v->CS K G' H t v
 |.A1 _,_,h=>by simp only[CS]at h |-;exact h.mono BM
 |.lst _,_,h=>by simp only[CS]at h |-;obtain⟨a,xs,e,q,r⟩:=h;exact⟨a,xs,e,q,Bp.mono BM r⟩
 |.Do _ _,_,h=>by simp only[CS]at h |-;obtain⟨a,xs,e,q,n,r⟩:=h;exact⟨a,xs,e,q,n,Bp.mono BM r⟩
 |.B7 _ _,_,h=>by simp only[CS]at h |-;obtain⟨a,xs,e,q,n,r⟩:=h;exact⟨a,xs,e,q,n,Bp.mono BM r⟩
 |.ins _ _ _,_,h=>by simp only[CS]at h |-;obtain⟨a,Aj,xs,e,q,n,r⟩:=h;exact⟨a,Aj,xs,e,q,n,Bp.mono BM r⟩
theorem Bp.mono(BM:Sub G G'):∀{Au:List T}{vs:List V},Bp K G H Au vs->Bp K G' H Au vs
 |[],_,h=>by simpa only[Bp]using h
 |_::_,_,h=>by simp only[Bp]at h |-;obtain⟨v,r,e,q,t⟩:=h;exact⟨v,r,e,CS.mono BM q,Bp.mono BM t⟩
end
mutual
theorem CS.keep:∀{t:T}{v:V},(∀b∈Ak H t v,H' b=H b)->CS K G H t v->CS K G H' t v/\Ak H' t v=Ak H t v
 |.A1 _,_,_,h=>by simp only[CS]at h;exact⟨by simp only[CS];exact h,by simp only[Ak]⟩
 |.lst _,_,k,h=>by simp only[CS]at h;obtain⟨a,xs,rfl,q,r⟩:=h;rw[Rd q]at k;have Mj:H' a=some (.lst xs):=(k a (by simp)).trans q;obtain⟨AK,B4⟩:=Bp.keep (λb A0=>k b (Fv _ A0)) r;exact⟨by simp only[CS];exact⟨a,xs,rfl,Mj,AK⟩,by rw[Rd Mj,Rd q,B4]⟩
 |.Do _ _,_,k,h=>by simp only[CS]at h;obtain⟨a,xs,rfl,q,n,r⟩:=h;rw[U3 q]at k;have Mj:H' a=some (.Do xs):=(k a (by simp)).trans q;obtain⟨AK,B4⟩:=Bp.keep (λb A0=>k b (Fv _ A0)) r;exact⟨by simp only[CS];exact⟨a,xs,rfl,Mj,n,AK⟩,by rw[U3 Mj,U3 q,B4]⟩
 |.B7 _ _,_,k,h=>by simp only[CS]at h;obtain⟨a,xs,rfl,q,n,r⟩:=h;rw[MT q]at k;have Mj:H' a=some (.B7 xs):=(k a (by simp)).trans q;obtain⟨AK,B4⟩:=Bp.keep (λb A0=>k b (Fv _ A0)) r;exact⟨by simp only[CS];exact⟨a,xs,rfl,Mj,n,AK⟩,by rw[MT Mj,MT q,B4]⟩
 |.ins _ _ _,_,k,h=>by simp only[CS]at h;obtain⟨a,Aj,xs,rfl,⟨C,BX,q⟩,n,r⟩:=h;rw[Lc q]at k;have Mj:H' a=some (.ins C Aj xs):=(k a (by simp)).trans q;obtain⟨AK,B4⟩:=Bp.keep (λb A0=>k b (Fv _ A0)) r;exact⟨by simp only[CS];exact⟨a,Aj,xs,rfl,⟨C,BX,Mj⟩,n,AK⟩,by rw[Lc Mj,Lc q,B4]⟩
theorem Bp.keep:∀{Au:List T}{vs:List V},(∀b∈EA H Au vs,H' b=H b)->Bp K G H Au vs->Bp K G H' Au vs/\EA H' Au vs=EA H Au vs
 |[],_,_,h=>⟨by simpa only[Bp]using h,by simp only[EA]⟩
 |_::_,_,k,h=>by simp only[Bp]at h;obtain⟨v,r,rfl,q,t⟩:=h;rw[Hr]at k;obtain⟨An,BG⟩:=CS.keep (λb A0=>k b (HS _ A0)) q;obtain⟨t1,D_⟩:=Bp.keep (λb A0=>k b (GB _ A0)) t;exact⟨by simp only[Bp];exact⟨v,r,rfl,An,t1⟩,by rw[Hr,Hr,BG,D_]⟩
end
mutual
theorem CS.some:∀{t:T}{v:V},CS K G H t v->∀b∈Ak H t v,H b≠none
 |.A1 _,_,_=>by intro b A0;simp[Ak]at A0
 |.lst _,_,h=>by
  simp only[CS]at h;obtain⟨a,xs,rfl,q,r⟩:=h;rw[Rd q];intro b A0;rcases List.mem_cons.mp A0 with rfl|A0
  .rw[q];exact λz=>nomatch z
  .exact Bp.some r b A0
 |.Do _ _,_,h=>by
  simp only[CS]at h;obtain⟨a,xs,rfl,q,n,r⟩:=h;rw[U3 q];intro b A0;rcases List.mem_cons.mp A0 with rfl|A0
  .rw[q];exact λz=>nomatch z
  .exact Bp.some r b A0
 |.B7 _ _,_,h=>by
  simp only[CS]at h;obtain⟨a,xs,rfl,q,n,r⟩:=h;rw[MT q];intro b A0;rcases List.mem_cons.mp A0 with rfl|A0
  .rw[q];exact λz=>nomatch z
  .exact Bp.some r b A0
 |.ins _ _ _,_,h=>by
  simp only[CS]at h;obtain⟨a,Aj,xs,rfl,⟨C,BX,q⟩,n,r⟩:=h;rw[Lc q];intro b A0;rcases List.mem_cons.mp A0 with rfl|A0
  .rw[q];exact λz=>nomatch z
  .exact Bp.some r b A0
theorem Bp.some:∀{Au:List T}{vs:List V},Bp K G H Au vs->∀b∈EA H Au vs,H b≠none
 |[],_,_=>by intro b A0;simp[EA]at A0
 |_::_,_,h=>by
  simp only[Bp]at h;obtain⟨v,r,rfl,q,t⟩:=h;rw[Hr];intro b A0;rcases List.mem_append.mp A0 with A0|A0
  .exact CS.some q b A0
  .exact Bp.some t b A0
end
mutual
theorem CS.JX:∀{t:T}{v:V},CS K G H t v->∀b∈Ak H t v,I5 H b
 |.A1 _,_,_=>by intro b A0;simp[Ak]at A0
 |.lst _,_,h=>by
  simp only[CS]at h;obtain⟨a,xs,rfl,q,r⟩:=h;rw[Rd q];intro b A0;rcases List.mem_cons.mp A0 with rfl|A0
  .exact .of q λ_ z=>nomatch z
  .exact Bp.JX r b A0
 |.Do _ _,_,h=>by
  simp only[CS]at h;obtain⟨a,xs,rfl,q,n,r⟩:=h;rw[U3 q];intro b A0;rcases List.mem_cons.mp A0 with rfl|A0
  .exact .of q λ_ z=>nomatch z
  .exact Bp.JX r b A0
 |.B7 _ _,_,h=>by
  simp only[CS]at h;obtain⟨a,xs,rfl,q,n,r⟩:=h;rw[MT q];intro b A0;rcases List.mem_cons.mp A0 with rfl|A0
  .exact .of q λ_ z=>nomatch z
  .exact Bp.JX r b A0
 |.ins _ _ _,_,h=>by
  simp only[CS]at h;obtain⟨a,Aj,xs,rfl,⟨C,BX,q⟩,n,r⟩:=h;rw[Lc q];intro b A0;rcases List.mem_cons.mp A0 with rfl|A0
  .exact .of q λ_ z=>nomatch z
  .exact Bp.JX r b A0
theorem Bp.JX:∀{Au:List T}{vs:List V},Bp K G H Au vs->∀b∈EA H Au vs,I5 H b
 |[],_,_=>by intro b A0;simp[EA]at A0
 |_::_,_,h=>by
  simp only[Bp]at h;obtain⟨v,r,rfl,q,t⟩:=h;rw[Hr];intro b A0;rcases List.mem_append.mp A0 with A0|A0
  .exact CS.JX q b A0
  .exact Bp.JX t b A0
end
mutual
theorem CS.view(BM:Sub G P):∀{t:T}{v:V},(∀a∈Ak H t v,P a=H a)->CS K G H t v->At K P (toD t) v
 |.A1 _,_,_,h=>by simp only[CS,toD]at h |-;exact h.mono BM
 |.lst _,_,k,h=>by simp only[CS]at h;obtain⟨a,xs,rfl,q,r⟩:=h;rw[Rd q]at k;simp only[toD,At];exact⟨a,xs,rfl,by rw[k a (by simp)];exact q,Bp.view BM (λb A0=>k b (Fv _ A0)) r⟩
 |.Do _ _,_,k,h=>by simp only[CS]at h;obtain⟨a,xs,rfl,q,n,r⟩:=h;rw[U3 q]at k;simp only[toD,At];exact⟨a,xs,rfl,by rw[k a (by simp)];exact q,n,Bp.view BM (λb A0=>k b (Fv _ A0)) r⟩
 |.B7 _ _,_,k,h=>by simp only[CS]at h;obtain⟨a,xs,rfl,q,n,r⟩:=h;rw[MT q]at k;simp only[toD,At];exact⟨a,xs,rfl,by rw[k a (by simp)];exact q,n,Bp.view BM (λb A0=>k b (Fv _ A0)) r⟩
 |.ins _ _ _,_,k,h=>by simp only[CS]at h;obtain⟨a,Aj,xs,rfl,⟨C,BX,q⟩,n,r⟩:=h;rw[Lc q]at k;simp only[toD,At];exact⟨a,Aj,xs,rfl,⟨C,BX,by rw[k a (by simp)];exact q⟩,n,Bp.view BM (λb A0=>k b (Fv _ A0)) r⟩
theorem Bp.view(BM:Sub G P):∀{Au:List T}{vs:List V},(∀a∈EA H Au vs,P a=H a)->Bp K G H Au vs->A_ K P (Mp Au) vs
 |[],_,_,h=>by simp only[Bp,Mp,A_]at h |-;exact h
 |_::_,_,k,h=>by simp only[Bp]at h;obtain⟨v,r,rfl,q,t⟩:=h;rw[Hr]at k;simp only[Mp,A_];exact⟨v,r,rfl,CS.view BM (λb A0=>k b (HS _ A0)) q,Bp.view BM (λb A0=>k b (GB _ A0)) t⟩
end
end
inductive La where
 |lst (ds:List D)|B7 (ks:List Bd) (ds:List D)|ins (c:Str) (ns:List Str) (ds:List D)
noncomputable def OQ(K:AY)(G:AA):La->E5->Prop
 |.lst ds,AM=>∃xs,AM=.lst xs/\A_ K G ds xs
 |.B7 ks ds,AM=>∃xs,AM=.B7 xs/\xs.map (·.1)=ks/\A_ K G ds (xs.map (·.2))
 |.ins c ns ds,AM=>∃C Aj xs,GE K c C/\AM=.ins C Aj xs/\xs.map (·.1)=ns/\A_ K G ds (xs.map (·.2))
theorem OQ.mono{K:AY}{G H:AA}(s:Sub G H):∀{o:La}{AM:E5},OQ K G o AM->OQ K H o AM
 |.lst _,_,⟨xs,e,q⟩=>⟨xs,e,q.mono s⟩
 |.B7 _ _,_,⟨xs,e,k,q⟩=>⟨xs,e,k,q.mono s⟩
 |.ins _ _ _,_,⟨C,Aj,xs,c,e,k,q⟩=>⟨C,Aj,xs,c,e,k,q.mono s⟩
def PA:La->D
 |.lst ds=>.lst ds
 |.B7 ks ds=>.B7 ks ds
 |.ins c ns ds=>.ins c ns ds
def OQ.at{K:AY}{G:AA}{o:La}{AM:E5}{a:A7}(h:OQ K G o AM)(e:G a=some AM):At K G (PA o) (.ref a):=by
 cases o with
 |lst ds=>obtain⟨xs,rfl,q⟩:=h;simp only[PA,At];exact⟨a,xs,rfl,e,q⟩
 |B7 ks ds=>obtain⟨xs,rfl,k,q⟩:=h;simp only[PA,At];exact⟨a,xs,rfl,e,k,q⟩
 |ins c ns ds=>obtain⟨C,Aj,xs,BX,rfl,k,q⟩:=h;simp only[PA,At];exact⟨a,Aj,xs,rfl,⟨C,BX,e⟩,k,q⟩
inductive Be where
 |un|A1 (d:D)|ob (o:La)|Et (t:T)|Bc (k:Nat) (t:T)
abbrev Be.C5(ds:List D):Be:=.ob (.lst ds)
abbrev AF:=List Be
structure BA where
 K:AY
 G0:AA
 H0:AA
 EX:Str->AA->Prop
 pin:Nat->Option V
def J9:Nat->Option V:=λ_=>none
structure FZ(F:BA)(G H:AA):Prop where
 sub:Sub G H
 ET:Sub F.G0 G
 BD:Sub F.H0 H
 new:∀b,I5 F.H0 b->G b=F.G0 b
structure ML(F:BA)(G H:AA)(t:T)(v:V):Prop where
 at_:CS F.K G H t v
 Am:(Ak H t v).Nodup
 own:∀b∈Ak H t v,G b=none/\F.H0 b=none
noncomputable def IQ(F:BA)(G H:AA)(o:Option V):Be->Prop
 |.un=>True
 |.A1 d=>∃v,o=some v/\At F.K G d v
 |.ob ob=>∃a AM,o=some (.ref a)/\H a=some AM/\G a=none/\F.H0 a=none/\OQ F.K G ob AM
 |.Et t=>∃v,o=some v/\ML F G H t v
 |.Bc k t=>∃v,o=some v/\ML F G H t v/\F.pin k=some v
def FB(H:AA):Be->Option V->A7->Prop
 |.un,_,_=>False
 |.A1 _,_,_=>False
 |.ob _,o,a=>o=some (.ref a)
 |.Et t,o,a=>∃v,o=some v/\a∈Ak H t v
 |.Bc _ t,o,a=>∃v,o=some v/\a∈Ak H t v
structure Rel(F:BA)(G H:AA)(σ :St)(ρ:AF):Prop where
 kp:FZ F G H
 len: σ.length=ρ.length
 Bz:∀(i:Nat)(s:Be),ρ[i]?=some s->∃o,σ[i]?=some o/\IQ F G H o s
 NT:∀(i j:Nat)(a:A7)(s s':Be)(o Ce:Option V),ρ[i]?=some s->ρ[j]?=some s'-> σ[i]?=some o-> σ[j]?=some Ce->FB H s o a->FB H s' Ce a->i=j
def Cf(H:AA)(σ :St)(ρ:AF)(a:A7):Prop:=∃(i:Nat)(s:Be)(o:Option V),ρ[i]?=some s/\ σ[i]?=some o/\FB H s o a
def p8{α:Type}{l:List α}{i:Nat}{x:α}(e:l[i]?=some x):l.set i x=l:=by
 apply hG;intro j;rw[hH];by_cases h:i=j
 .subst h;rw[if_pos rfl,if_pos (List.getElem?_eq_some_iff.mp e).1];exact e.symm
 .simp[h]
section
variable{F:BA}{G G' H H':AA}{σ :St}{ρ:AF}
theorem Cf.ob{a:A7}{i:Nat}{o:La}(A9:ρ[i]?=some (.ob o))(AG: σ[i]?=some (some (.ref a))):Cf H σ ρ a:=⟨i,_,_,A9,AG,rfl⟩
theorem IQ.keep{o:Option V}{s:Be}(h:IQ F G H o s)(BM:Sub G G')(k:∀a,FB H s o a->H' a=H a/\G' a=none):IQ F G' H' o s/\(∀a,FB H' s o a->FB H s o a):=by
 cases s with
 |un=>exact⟨trivial,λ_ z=>z⟩
 |A1 d=>obtain⟨v,AG,a⟩:=h;exact⟨⟨v,AG,a.mono BM⟩,λ_ z=>z⟩
 |ob ds=>obtain⟨a,xs,AG,h1,h2,h3,h4⟩:=h;exact⟨⟨a,xs,AG,by rw[(k a AG).1];exact h1,(k a AG).2,h3,h4.mono BM⟩,λ_ z=>z⟩
 |Et t=>
  obtain⟨v,AG,An,BG,EO⟩:=h;obtain⟨GY,G9⟩:=An.keep λb A0=>(k b ⟨v,AG,A0⟩).1;refine⟨⟨v,AG,⟨GY.mono BM,by rw[G9];exact BG,λb A0=>?_⟩⟩,λa z=>?_⟩
  .rw[G9]at A0;exact⟨(k b ⟨v,AG,A0⟩).2,(EO b A0).2⟩
  .obtain⟨u,B3,A0⟩:=z;rw[AG]at B3;cases B3;rw[G9]at A0;exact⟨v,AG,A0⟩
 |Bc n t=>
  obtain⟨v,AG,⟨An,BG,EO⟩,Ad⟩:=h;obtain⟨GY,G9⟩:=An.keep λb A0=>(k b ⟨v,AG,A0⟩).1;refine⟨⟨v,AG,⟨GY.mono BM,by rw[G9];exact BG,λb A0=>?_⟩,Ad⟩,λa z=>?_⟩
  .rw[G9]at A0;exact⟨(k b ⟨v,AG,A0⟩).2,(EO b A0).2⟩
  .obtain⟨u,B3,A0⟩:=z;rw[AG]at B3;cases B3;rw[G9]at A0;exact⟨v,AG,A0⟩
def IQ.foot{o:Option V}{s:Be}(h:IQ F G H o s){a:A7}(f:FB H s o a):H a≠none/\G a=none/\F.H0 a=none:=by
 cases s with
 |un=>cases f
 |A1 d=>cases f
 |ob ds=>obtain⟨b,xs,AG,h1,h2,h3,h4⟩:=h;have f:o=some (.ref a):=f;rw[AG]at f;cases f;exact⟨by rw[h1];exact(λz=>nomatch z),h2,h3⟩
 |Et t=>obtain⟨v,AG,An,BG,EO⟩:=h;obtain⟨u,B3,A0⟩:=f;rw[AG]at B3;cases B3;exact⟨An.some a A0,EO a A0⟩
 |Bc n t=>obtain⟨v,AG,⟨An,BG,EO⟩,_⟩:=h;obtain⟨u,B3,A0⟩:=f;rw[AG]at B3;cases B3;exact⟨An.some a A0,EO a A0⟩
def IQ.WG{o:Option V}{s:Be}{a:A7}(h:IQ F G H o s)(f:FB H s o a):I5 H a:=by
 cases s with
 |un=>cases f
 |A1 _=>cases f
 |ob ob=>
  obtain⟨b,AM,AG,h1,_,_,h4⟩:=h;have B3:o=some (.ref a):=f;rw[AG]at B3;cases B3;cases ob with
  |lst _=>obtain⟨xs,rfl,_⟩:=h4;exact .of h1 λ_ z=>nomatch z
  |B7 _ _=>obtain⟨xs,rfl,_⟩:=h4;exact .of h1 λ_ z=>nomatch z
  |ins _ _ _=>obtain⟨C,Aj,xs,_,rfl,_⟩:=h4;exact .of h1 λ_ z=>nomatch z
 |Et t=>obtain⟨v,AG,An,BG,EO⟩:=h;obtain⟨u,B3,A0⟩:=f;rw[AG]at B3;cases B3;exact An.JX a A0
 |Bc n t=>obtain⟨v,AG,⟨An,BG,EO⟩,_⟩:=h;obtain⟨u,B3,A0⟩:=f;rw[AG]at B3;cases B3;exact An.JX a A0
theorem Rel.WG(r:Rel F G H σ ρ){a:A7}(h:Cf H σ ρ a):I5 H a:=by obtain⟨i,s,o,A9,AG,f⟩:=h;obtain⟨Ce,B3,q⟩:=r.Bz i s A9;rw[AG]at B3;cases B3;exact q.WG f
theorem Rel.foot(r:Rel F G H σ ρ){a:A7}(h:Cf H σ ρ a):H a≠none/\G a=none/\F.H0 a=none:=by obtain⟨i,s,o,A9,AG,f⟩:=h;obtain⟨Ce,B3,q⟩:=r.Bz i s A9;rw[AG]at B3;cases B3;exact q.foot f
def Rel.over{F':BA}(r:Rel F G H σ ρ)(Ao:F'.K=F.K)(kp:FZ F' G' H')(BM:Sub G G')(k:∀a,Cf H σ ρ a->H' a=H a/\G' a=none/\F'.H0 a=none)(Cn:F'.pin=F.pin:=by rfl):Rel F' G' H' σ ρ:=by
 have one:∀(i:Nat)(s:Be),ρ[i]?=some s->∃o,σ[i]?=some o/\IQ F' G' H' o s/\(∀a,FB H' s o a->FB H s o a):=λi s e=>by
  obtain⟨o,A9,q⟩:=r.Bz i s e;obtain⟨An,BG⟩:=q.keep BM λa f=>⟨(k a ⟨i,s,o,e,A9,f⟩).1,(k a ⟨i,s,o,e,A9,f⟩).2.1⟩;refine⟨o,A9,?_,BG⟩;cases s with
  |un=>trivial
  |A1 d=>obtain⟨v,AG,a⟩:=An;exact⟨v,AG,by rw[Ao];exact a⟩
  |ob ds=>obtain⟨a,xs,AG,h1,h2,h3,h4⟩:=An;exact⟨a,xs,AG,h1,h2,(k a ⟨i,_,o,e,A9,AG⟩).2.2,by rw[Ao];exact h4⟩
  |Et t=>obtain⟨v,AG,GY,G9,Jb⟩:=An;exact⟨v,AG,by rw[Ao];exact GY,G9,λb A0=>⟨(Jb b A0).1,(k b ⟨i,_,o,e,A9,BG b ⟨v,AG,A0⟩⟩).2.2⟩⟩
  |Bc n t=>obtain⟨v,AG,⟨GY,G9,Jb⟩,Wk⟩:=An;exact⟨v,AG,⟨by rw[Ao];exact GY,G9,λb A0=>⟨(Jb b A0).1,(k b ⟨i,_,o,e,A9,BG b ⟨v,AG,A0⟩⟩).2.2⟩⟩,by rw[Cn];exact Wk⟩
 refine⟨kp,r.len,λi s e=>let⟨o,A9,q,_⟩:=one i s e;⟨o,A9,q⟩,λi j a s s' o Ce A9 AG B3 CB f1 f2=>?_⟩;obtain⟨u,DS,_,Db⟩:=one i s A9;rw[B3]at DS;cases DS;obtain⟨u,Qw,_,SM⟩:=one j s' AG;rw[CB]at Qw;cases Qw;exact r.NT i j a s s' o Ce A9 AG B3 CB (Db a f1) (SM a f2)
def Rel.grow(r:Rel F G H σ ρ)(BM:Sub G G')(Hy:Sub G' H')(BD:Sub H H')(nw:∀b,I5 H b->G' b=G b):Rel F G' H' σ ρ:=by
 refine r.over rfl ⟨Hy,r.kp.ET.trans BM,r.kp.BD.trans BD,λb A0=>?_⟩ BM λa AB=>?_
 .rw[nw b (r.kp.BD.JX A0)];exact r.kp.new b A0
 .obtain⟨h1,h2,h3⟩:=r.foot AB;refine⟨?_,(nw a (r.WG AB)).trans h2,h3⟩;cases e:H a with
  |none=>exact absurd e h1
  |some o=>exact BD a o e
def Rel.lay(r:Rel F G H σ ρ){p:A7}{o:E5}(Ad:H p=none):Rel F (upd G p o) (upd H p o) σ ρ:=by have vg:G p=none:=r.kp.sub.gone Ad;refine r.grow (Sub.upd vg) (Sub.both r.kp.sub) (Sub.upd Ad) λb A0=>?_;rw[Da];intro e;subst e;exact A0.1 Ad
def Rel.lay0(r:Rel F G H σ ρ){p:A7}{o:E5}(Ad:H p=none):Rel F G (upd H p o) σ ρ:=
 r.grow (Sub.refl _) (Sub.aA r.kp.sub (r.kp.sub.gone Ad)) (Sub.upd Ad) λ_ _=>rfl
def Rel.take(r:Rel F G H σ ρ){p:A7}{o:E5}(Ad:H p=some o)(Ah:G p=none)(h0:F.H0 p=none)(no:¬Cf H σ ρ p):Rel F (upd G p o) H σ ρ:=by
 refine r.over rfl ⟨Sub.at r.kp.sub Ad,r.kp.ET.trans (Sub.upd Ah),r.kp.BD,λb A0=>?_⟩ (Sub.upd Ah) λa AB=>?_
 .rw[Da]
  .exact r.kp.new b A0
  .intro e;subst e;exact A0.1 h0
 .obtain⟨h1,h2,h3⟩:=r.foot AB;exact⟨rfl,by rw[Da (λz=>no (by rw[<-z];exact AB))];exact h2,h3⟩
theorem Rel.A1(r:Rel F G H σ ρ){i:Nat}{d:D}(e:ρ[i]?=some (.A1 d)):∃v,σ[i]?=some (some v)/\At F.K G d v:=by obtain⟨o,A9,v,rfl,a⟩:=r.Bz i _ e;exact⟨v,A9,a⟩
def Rel.obj(r:Rel F G H σ ρ){i:Nat}{o:La}(e:ρ[i]?=some (.ob o)):∃a AM,σ[i]?=some (some (.ref a))/\H a=some AM/\G a=none/\F.H0 a=none/\OQ F.K G o AM:=by obtain⟨v,A9,a,AM,rfl,h1,h2,h3,h4⟩:=r.Bz i _ e;exact⟨a,AM,A9,h1,h2,h3,h4⟩
def Rel.own{G H:AA}{σ :St}{ρ:AF}(r:Rel F G H σ ρ){i:Nat}{ds:List D}(e:ρ[i]?=some (.C5 ds)):∃a xs,σ[i]?=some (some (.ref a))/\H a=some (.lst xs)/\G a=none/\F.H0 a=none/\A_ F.K G ds xs:=by obtain⟨a,AM,A9,h1,h2,h3,xs,rfl,h4⟩:=r.obj e;exact⟨a,xs,A9,h1,h2,h3,h4⟩
def get_set{α:Type}{l:List α}{i j:Nat}{x y:α}(e:(l.set i x)[j]?=some y):(i=j/\y=x)\/(i≠j/\l[j]?=some y):=by
 rw[hH]at e;by_cases h:i=j
 .rw[if_pos h]at e
  split at e
  .cases e;exact .inl ⟨h,rfl⟩
  .cases e
 .rw[if_neg h]at e;exact .inr ⟨h,e⟩
def Rel.aS(r:Rel F G H σ ρ){i:Nat}{s:Be}{o:Option V}(AC:i<ρ.length)(q:IQ F G H o s)(no:∀a,FB H s o a->∀(j:Nat)(s':Be)(Ce:Option V),j≠i->ρ[j]?=some s'-> σ[j]?=some Ce->¬FB H s' Ce a):Rel F G H (σ.set i o) (ρ.set i s):=by
 have AN:i< σ.length:=by rw[r.len];exact AC
 refine⟨r.kp,by simp[r.len],λj s e=>?_,λj k b s1 s2 Cw DA A9 AG B3 CB f1 f2=>?_⟩
 .rcases get_set e with⟨rfl,rfl⟩|⟨ne,e⟩
  .exact⟨o,by simp[AN],q⟩
  .rw[Sm ne];exact r.Bz j s e
 .rcases get_set A9 with⟨BZ,DS⟩|⟨D3,IJ⟩
  .subst BZ DS;rw[X_ AN]at B3;cases B3;rcases get_set AG with⟨C0,Db⟩|⟨DI,Il⟩
   .exact C0
   .rw[Sm DI]at CB;exact absurd f2 (no b f1 k s2 DA (I2 DI) Il CB)
  .rw[Sm D3]at B3;rcases get_set AG with⟨C0,Db⟩|⟨DI,Il⟩
   .subst C0 Db;rw[X_ AN]at CB;cases CB;exact absurd f1 (no b f2 j s1 Cw (I2 D3) IJ B3)
   .rw[Sm DI]at CB;exact r.NT j k b s1 s2 Cw DA IJ Il B3 CB f1 f2
theorem Rel.set(r:Rel F G H σ ρ){i:Nat}{d:D}{v:V}(AC:i<ρ.length)(a:At F.K G d v):Rel F G H (σ.set i (some v)) (ρ.set i (.A1 d)):=
 r.aS AC ⟨v,rfl,a⟩ λ_ f=>f.elim
def Rel.setB(r:Rel F G H σ ρ){i:Nat}{ob:La}{a:A7}{AM:E5}(AC:i<ρ.length)(AB:H a=some AM)(Ah:G a=none)(h0:F.H0 a=none)(q:OQ F.K G ob AM)(no:∀(j:Nat)(s:Be)(o:Option V),j≠i->ρ[j]?=some s-> σ[j]?=some o->¬FB H s o a):Rel F G H (σ.set i (some (.ref a))) (ρ.set i (.ob ob)):=
 r.aS AC ⟨a,AM,rfl,AB,Ah,h0,q⟩ λb f=>by have f:some (V.ref a)=some (.ref b):=f;cases f;exact no
def Rel.ac2(r:Rel F G H σ ρ){i:Nat}{ds:List D}{a:A7}{xs:List V}(AC:i<ρ.length)(AB:H a=some (.lst xs))(Ah:G a=none)(h0:F.H0 a=none)(q:A_ F.K G ds xs)(no:∀(j:Nat)(s:Be)(o:Option V),j≠i->ρ[j]?=some s-> σ[j]?=some o->¬FB H s o a):Rel F G H (σ.set i (some (.ref a))) (ρ.set i (.C5 ds)):=r.setB AC AB Ah h0 ⟨xs,rfl,q⟩ no
def Rel.eP(r:Rel F G H σ ρ){i:Nat}{s s':Be}{o:Option V}{a:A7}{AM:E5}(e:ρ[i]?=some s)(Aw: σ[i]?=some o)(GW:FB H s o a)(q:IQ F G (upd H a AM) o s')(f:∀b,FB (upd H a AM) s' o b->FB H s o b\/¬Cf H σ ρ b) :
  Rel F G (upd H a AM) σ (ρ.set i s'):=by
 have AC:i<ρ.length:=(List.getElem?_eq_some_iff.mp e).1;obtain⟨h1,h2,h3⟩:=r.foot ⟨i,s,o,e,Aw,GW⟩;have Nf:∀(j:Nat)(t:Be),i≠j->ρ[j]?=some t->∃u,σ[j]?=some u/\IQ F G (upd H a AM) u t/\(∀b,FB (upd H a AM) t u b->FB H t u b):=λj t ne z=>by obtain⟨u,DS,Db⟩:=r.Bz j t z;have na:¬FB H t u a:=λw=>ne (r.NT i j a s t o u e z Aw DS GW w);obtain⟨An,BG⟩:=Db.keep (H':=upd H a AM) (Sub.refl G) λb Kp=>⟨Da λw=>na (w▸Kp),(Db.foot Kp).2.1⟩;exact⟨u,DS,An,BG⟩
 refine⟨⟨Sub.aA r.kp.sub h2,r.kp.ET,λc u z=>?_,r.kp.new⟩,by simp[r.len],λj t z=>?_,λj k c s1 s2 Cw DA B3 CB El NU f1 f2=>?_⟩
 .rw[Da (KI z h3)];exact r.kp.BD c u z
 .rcases get_set z with⟨rfl,rfl⟩|⟨ne,z⟩
  .exact⟨o,Aw,q⟩
  .obtain⟨u,DS,Db,_⟩:=Nf j t ne z;exact⟨u,DS,Db⟩
 .rcases get_set B3 with⟨BZ,DS⟩|⟨D3,Fd⟩
  .subst BZ DS;rw[Aw]at El;cases El;rcases get_set CB with⟨C0,Db⟩|⟨DI,GL⟩
   .exact C0
   .obtain⟨u,IJ,_,Il⟩:=Nf k s2 DI GL;rw[NU]at IJ;cases IJ;have g2:=Il c f2;rcases f c f1 with g1|g1
    .exact r.NT i k c s s2 o DA e GL Aw NU g1 g2
    .exact absurd ⟨k,s2,DA,GL,NU,g2⟩ g1
  .obtain⟨u,IJ,_,Il⟩:=Nf j s1 D3 Fd;rw[El]at IJ;cases IJ;have g1:=Il c f1;rcases get_set CB with⟨C0,Db⟩|⟨DI,GL⟩
   .subst C0 Db;rw[Aw]at NU;cases NU;rcases f c f2 with g2|g2
    .exact r.NT j i c s1 s Cw o Fd e El Aw g1 g2
    .exact absurd ⟨j,s1,Cw,Fd,El,g1⟩ g2
   .obtain⟨u,SL,_,aeq⟩:=Nf k s2 DI GL;rw[NU]at SL;cases SL;exact r.NT j k c s1 s2 Cw DA Fd GL El NU g1 (aeq c f2)
def Rel.Wx(r:Rel F G H σ ρ){i:Nat}{o Ce:La}{a:A7}{AM:E5}(e:ρ[i]?=some (.ob o))(Aw: σ[i]?=some (some (.ref a)))(q:OQ F.K G Ce AM) :
  Rel F G (upd H a AM) σ (ρ.set i (.ob Ce)):=by
 obtain⟨b,afm,A9,h1,h2,h3,h4⟩:=r.obj e;rw[Aw]at A9;have Bi:b=a:=by cases A9;rfl
 subst Bi;exact r.eP e Aw rfl ⟨b,AM,rfl,E1,h2,h3,q⟩ λc f=>.inl f
def Rel.mut(r:Rel F G H σ ρ){i:Nat}{ds ds':List D}{a:A7}{ys:List V}(e:ρ[i]?=some (.C5 ds))(Aw: σ[i]?=some (some (.ref a)))(q:A_ F.K G ds' ys) :
  Rel F G (upd H a (.lst ys)) σ (ρ.set i (.C5 ds')):=r.Wx e Aw ⟨ys,rfl,q⟩
def Rel.Lg(r:Rel F G H σ ρ){i:Nat}{o:La}(e:ρ[i]?=some (.ob o)):∃G',Rel F G' H σ (ρ.set i (.A1 (PA o)))/\Sub G G':=by
 have AC:i<ρ.length:=(List.getElem?_eq_some_iff.mp e).1;obtain⟨a,AM,A9,h1,h2,h3,h4⟩:=r.obj e;have un:Rel F G H σ (ρ.set i .un):=by have z:=r.aS (s:=.un) (o:=some (.ref a)) AC trivial λ_ f=>f.elim;rw[Cm.p8 A9]at z;exact z
 have no:¬Cf H σ (ρ.set i .un) a:=λ⟨j,s,u,IJ,Il,SL⟩=>by
  rcases get_set IJ with⟨_,z⟩|⟨ne,IJ⟩
  .subst z;exact SL
  .exact ne (r.NT i j a _ s _ u e IJ A9 Il rfl SL)
 have B4:=un.take h1 h2 h3 no;have DV:=B4.aS (i:=i) (s:=.A1 (PA o)) (o:=some (.ref a)) (by simpa using AC) ⟨.ref a,rfl,(h4.mono (Sub.upd h2)).at E1⟩ λ_ f=>f.elim;rw[Cm.p8 A9,List.set_set]at DV;exact⟨upd G a AM,DV,Sub.upd h2⟩
end
abbrev Ag:=AF->R D
abbrev CR:=AF->R Bool
abbrev B6:=AF->R (List D)
inductive FQ where
 |BC (ρ:AF)|E6 (d:D)|J_ (ds:List D)|G1 (ρ:AF)|DB (ρ:AF)|Py (t:T)|rs (d:D) (ρ:AF)
abbrev Aq:=AF->R FQ
def Nc(F:BA)(c:Str):Prop:=∀G' H',FZ F G' H'->F.EX c H'
def JN(F:BA)(G H:AA)(σ :St)(ρ:AF)(Q:CT):R D->Prop
 |.ok d=>∀v H' G',Rel F G' H' σ ρ->Bw G H G' H'->At F.K G' d v->Q v H'
 |.exc c=>Nc F c
 |.bad=>False
def TU(F:BA)(G H:AA)(σ :St)(ρ:AF)(Q:Bool->AA->Prop):R Bool->Prop
 |.ok b=>∀H' G',Rel F G' H' σ ρ->Bw G H G' H'->Q b H'
 |.exc c=>Nc F c
 |.bad=>False
def ww(F:BA)(G H:AA)(σ :St)(ρ:AF)(Q:List V->AA->Prop):R (List D)->Prop
 |.ok ds=>∀vs H' G',Rel F G' H' σ ρ->Bw G H G' H'->A_ F.K G' ds vs->Q vs H'
 |.exc c=>Nc F c
 |.bad=>False
noncomputable def x2(F:BA)(G H:AA)(σ :St)(ρ:AF)(Q:CT):R (List D)->Prop
 |.ok ds=>∀a xs H' G',Rel F G' H' σ ρ->Bw G H G' H'->H a=none->H' a=some (.lst xs)->G' a=none->A_ F.K G' ds xs->Q (.ref a) H'
 |.exc c=>Nc F c
 |.bad=>False
noncomputable def Ht(F:BA)(G:AA)(Ca:Ends):R FQ->Prop
 |.ok (.BC BJ)=>∀ σ' G' H',Rel F G' H' σ' BJ->Sub G G'->Ca.BC σ' H'
 |.ok (.G1 BJ)=>∀ σ' G' H',Rel F G' H' σ' BJ->Sub G G'->Ca.G1 σ' H'
 |.ok (.DB BJ)=>∀ σ' G' H',Rel F G' H' σ' BJ->Sub G G'->Ca.DB σ' H'
 |.ok (.E6 d)=>∀v G' H',FZ F G' H'->At F.K G' d v->Ca.E6 v H'
 |.ok (.J_ ds)=>∀a xs G' H',FZ F G' H'->G' a=none->F.H0 a=none->H' a=some (.lst xs)->A_ F.K G' ds xs->Ca.E6 (.ref a) H'
 |.ok (.Py t)=>∀v G' H',FZ F G' H'->ML F G' H' t v->Ca.E6 v H'
 |.ok (.rs d BJ)=>∀v σ' G' H',Rel F G' H' σ' BJ->At F.K G' d v->Ca.E6 v H'
 |.exc c=>Nc F c
 |.bad=>False
def Ck(F:BA)(m:Ag):TE:=λσ H Q=>∃G ρ,Rel F G H σ ρ/\JN F G H σ ρ Q (m ρ)
def HQ(F:BA)(m:CR):TT:=λσ H Q=>∃G ρ,Rel F G H σ ρ/\TU F G H σ ρ Q (m ρ)
def F7(F:BA)(m:B6):FC:=λσ H Q=>∃G ρ,Rel F G H σ ρ/\ww F G H σ ρ Q (m ρ)
def IH(F:BA)(m:B6):TE:=λσ H Q=>∃G ρ,Rel F G H σ ρ/\x2 F G H σ ρ Q (m ρ)
def GK(F:BA)(m:Aq):F_:=λCa σ H=>∃G ρ,Rel F G H σ ρ/\Ht F G Ca (m ρ)
section
variable{F:BA}{G Al H H1:AA}{σ :St}{ρ:AF}
def JN.mono{Q:CT}(s:Bw G H Al H1):∀{r:R D},JN F G H σ ρ Q r->JN F Al H1 σ ρ Q r
 |.ok _,h=>λv H' G' r BM a=>h v H' G' r (s.trans BM) a
 |.exc _,h=>h
 |.bad,h=>h
def TU.mono{Q:Bool->AA->Prop}(s:Bw G H Al H1):∀{r:R Bool},TU F G H σ ρ Q r->TU F Al H1 σ ρ Q r
 |.ok _,h=>λH' G' r BM=>h H' G' r (s.trans BM)
 |.exc _,h=>h
 |.bad,h=>h
def Ht.mono{Ca:Ends}(s:Sub G Al):∀{r:R FQ},Ht F G Ca r->Ht F Al Ca r
 |.ok (.BC _),h=>λσ' G' H' r BM=>h σ' G' H' r (s.trans BM)
 |.ok (.G1 _),h=>λσ' G' H' r BM=>h σ' G' H' r (s.trans BM)
 |.ok (.DB _),h=>λσ' G' H' r BM=>h σ' G' H' r (s.trans BM)
 |.ok (.E6 _),h=>h
 |.ok (.J_ _),h=>h
 |.ok (.Py _),h=>h
 |.ok (.rs _ _),h=>h
 |.exc _,h=>h
 |.bad,h=>h
end
abbrev Ep(t' t:TE):Prop:=∀ σ H Q,t' σ H Q->t σ H Q
abbrev Pq(t' t:TT):Prop:=∀ σ H Q,t' σ H Q->t σ H Q
abbrev iP(t' t:FC):Prop:=∀ σ H Q,t' σ H Q->t σ H Q
abbrev IN(t' t:F_):Prop:=∀Ca σ H,t' Ca σ H->t Ca σ H
def J(i:Nat):Ag:=λρ=>match ρ[i]? with
 |some (.A1 d)=>.ok d
 |_=>.bad
def A5(d:D):Ag:=λ_=>.ok d
section
variable{F:BA}
def x_(i:Nat):Ep (Ck F (J i)) (Wb i):=by
 rintro σ H Q ⟨G,ρ,r,h⟩;unfold J at h;cases e:ρ[i]? with
 |none=>rw[e]at h;cases h
 |some s=>
  rw[e]at h;cases s with
  |un=>cases h
  |ob _=>cases h
  |Et _=>cases h
  |Bc _ _=>cases h
  |A1 d=>obtain⟨v,A9,a⟩:=r.A1 e;exact⟨v,A9,h v H G r (Bw.refl _ _) a⟩
def Vr{d:D}{v:V}(a:∀G,At F.K G d v):Ep (Ck F (A5 d)) (S9 v):=by rintro σ H Q ⟨G,ρ,r,h⟩;exact h v H G r (Bw.refl _ _) (a G)
def A3(f:D->D->R D)(a b:Ag):Ag:=λρ=>(a ρ).bind λx=>(b ρ).bind λy=>f x y
def Ho(F:BA)(r:F1)(f:D->D->R D):Prop:=∀ σ ρ G H x y Aj Gi Q,Rel F G H σ ρ->At F.K G Aj x->At F.K G Gi y->JN F G H σ ρ Q (f Aj Gi)->r x y H Q
def a0{r:F1}{f:D->D->R D}{ma HL:Ag}(AM:Ho F r f):Ep (Ck F (A3 f ma HL)) (W_ r (Ck F ma) (Ck F HL)):=by rintro σ H Q ⟨G,ρ,r,h⟩;unfold A3 at h;refine⟨G,ρ,r,?_⟩;refine rb h λAj Aw h x H1 Al AK s1 Bl=>?_;refine⟨Al,ρ,AK,?_⟩;refine rb h λGi Bi h y Ax Ci B4 s2 CU=>?_;exact AM σ ρ Ci Ax x y Aj Gi Q B4 (Bl.mono s2.g) CU (h.mono (s1.trans s2))
def Cr(f:D->R D)(a:Ag):Ag:=λρ=>(a ρ).bind f
def jL(F:BA)(r:V->AA->CT->Prop)(f:D->R D):Prop:=∀ σ ρ G H x Aj Q,Rel F G H σ ρ->At F.K G Aj x->JN F G H σ ρ Q (f Aj)->r x H Q
def xZ{r:V->AA->CT->Prop}{f:D->R D}{ma:Ag}(AM:jL F r f):Ep (Ck F (Cr f ma)) (qg r (Ck F ma)):=by rintro σ H Q ⟨G,ρ,r,h⟩;unfold Cr at h;refine⟨G,ρ,r,?_⟩;refine rb h λAj Aw h x H1 Al AK s1 Bl=>?_;exact AM σ ρ Al H1 x Aj Q AK Bl (h.mono s1)
def AD:B6:=λ_=>.ok []
def A2(a:Ag)(r:B6):B6:=λρ=>(a ρ).bind λx=>(r ρ).bind λxs=>.ok (x::xs)
def vu:iP (F7 F AD) af:=by rintro σ H Q ⟨G,ρ,r,h⟩;exact h [] H G r (Bw.refl _ _) .nil
def w9{ma:Ag}{ZC:B6}:iP (F7 F (A2 ma ZC)) (p0 (Ck F ma) (F7 F ZC)):=by rintro σ H Q ⟨G,ρ,r,h⟩;unfold A2 at h;refine⟨G,ρ,r,?_⟩;refine rb h λAj Aw h x H1 Al AK s1 Bl=>?_;refine⟨Al,ρ,AK,?_⟩;refine rb h λGi Bi h y Ax Ci B4 s2 CU=>?_;exact h (x::y) Ax Ci B4 (s1.trans s2) (.cons (Bl.mono s2.g) CU)
def DH(m:B6):Ag:=λρ=>(m ρ).bind λxs=>if xs.length<=1000000 then .ok (.tup xs)else .bad
def xX{m:B6}:Ep (Ck F (DH m)) (qf (F7 F m)):=by
 rintro σ H Q ⟨G,ρ,r,h⟩;unfold DH at h;refine⟨G,ρ,r,?_⟩;refine rb h λds Aw h vs H1 Al AK s1 a=>?_;by_cases AQ:ds.length<=1000000
 .rw[if_pos AQ]at h;refine⟨by rw[<-a.length];exact Ff AQ (by decide),λp Ad=>?_⟩;refine h (.ref p) _ _ (AK.lay Ad) (s1.trans (Bw.lay AK.kp.sub Ad)) ?_;simp only[At];exact⟨p,vs,rfl,E1,a.mono (Sub.upd (AK.kp.sub.gone Ad))⟩
 .rw[if_neg AQ]at h;cases h
def Cf.back{G H H':AA}{σ :St}{ρ:AF}(r:Rel F G H σ ρ)(s:Sub H H'){a:A7}(h:Cf H' σ ρ a):Cf H σ ρ a:=by
 obtain⟨i,Bz,o,A9,AG,f⟩:=h;refine⟨i,Bz,o,A9,AG,?_⟩;obtain⟨Ce,B3,q⟩:=r.Bz i Bz A9;rw[AG]at B3;cases B3;exact(q.keep (G':=G) (H':=H') (Sub.refl _) λb Kp=>⟨by
  cases e:H b with
  |none=>exact absurd e (q.foot Kp).1
  |some u=>exact s b u e,(q.foot Kp).2.1⟩).2 a f
def Cf.fresh{G H H':AA}{σ :St}{ρ:AF}(r:Rel F G H σ ρ)(s:Sub H H'){a:A7}(n:H a=none):¬Cf H' σ ρ a:=λh=>(r.foot (h.back r s)).1 n
def lim(xs:List D):R (List D):=if xs.length<=1000000 then .ok xs else .bad
def C1(m:B6):B6:=λρ=>(m ρ).bind lim
def wO{m:B6}:Ep (IH F (C1 m)) (qa (F7 F m)):=by
 rintro σ H Q ⟨G,ρ,r,h⟩;unfold C1 lim at h;refine⟨G,ρ,r,?_⟩;refine rb h λds Aw h vs H1 Al AK s1 a=>?_;by_cases AQ:ds.length<=1000000
 .rw[if_pos AQ]at h;refine⟨by rw[<-a.length];exact Ff AQ (by decide),λp Ad=>?_⟩;exact h p vs _ Al (AK.lay0 Ad) (s1.trans (Bw.lay0 Ad)) (s1.h.gone Ad) E1 (AK.kp.sub.gone Ad) a
 .rw[if_neg AQ]at h;cases h
def BS(m:B6):Ag:=λρ=>(m ρ).bind λxs=>.ok (.lst xs)
def wH{m:B6}:Ep (Ck F (BS m)) (IH F m):=by rintro σ H Q ⟨G,ρ,r,h⟩;unfold BS at h;refine⟨G,ρ,r,?_⟩;refine rb h λds Aw h a xs H' G' BO s' AS AB Ah q=>?_;refine h (.ref a) H' _ (BO.take AB Ah (r.kp.BD.gone AS) (Cf.fresh r s'.h AS)) (s'.put AS Ah) ?_;simp only[At];exact⟨a,xs,rfl,E1,q.mono (Sub.upd Ah)⟩
def NO:D->R Bool
 |.Aa b=>.ok b
 |_=>.bad
def BE(m:Ag):CR:=λρ=>(m ρ).bind NO
def Zz{m:Ag}:Pq (HQ F (BE m)) (g7 (Ck F m)):=by
 rintro σ H Q ⟨G,ρ,r,h⟩;unfold BE at h;refine⟨G,ρ,r,?_⟩;refine rb h λd Aw h x H1 Al AK s1 Bl=>?_
 cases d<;>first
  |(cases h)
  |(simp only[At]at Bl;exact⟨_,Bl,h H1 Al AK s1⟩)
def li{m:Ag}:Pq (HQ F (BE m)) (gF (Ck F m)):=Zz
def Gv(a b:CR):CR:=λρ=>(a ρ).bind λc=>if c=true then b ρ else .ok false
def JS(a b:CR):CR:=λρ=>(a ρ).bind λc=>if c=true then .ok true else b ρ
def GG(a:CR):CR:=λρ=>(a ρ).bind λc=>.ok (!c)
def wl{a b:CR}:Pq (HQ F (Gv a b)) (oy (HQ F a) (HQ F b)):=by
 rintro σ H Q ⟨G,ρ,r,h⟩;unfold Gv at h;refine⟨G,ρ,r,?_⟩;refine rb h λc Aw h H1 Al AK s1=>?_;cases c with
 |true=>exact⟨Al,ρ,AK,TU.mono s1 h⟩
 |false=>exact h H1 Al AK s1
def vy{a b:CR}:Pq (HQ F (JS a b)) (qe (HQ F a) (HQ F b)):=by
 rintro σ H Q ⟨G,ρ,r,h⟩;unfold JS at h;refine⟨G,ρ,r,?_⟩;refine rb h λc Aw h H1 Al AK s1=>?_;cases c with
 |true=>exact h H1 Al AK s1
 |false=>exact⟨Al,ρ,AK,TU.mono s1 h⟩
def vv{a:CR}:Pq (HQ F (GG a)) (qc (HQ F a)):=by
 rintro σ H Q ⟨G,ρ,r,h⟩;unfold GG at h;refine⟨G,ρ,r,?_⟩;cases Aw:a ρ with
 |bad=>rw[Aw]at h;cases h
 |exc c=>rw[Aw]at h;exact h
 |ok c=>rw[Aw,R.E_]at h;exact h
def P1(a b:Ag):Ag:=λρ=>(a ρ).bind λx=>(NO x).bind λc=>if c=true then b ρ else .ok (.Aa false)
def ZX(a:Ag):Ag:=λρ=>(a ρ).bind λx=>(NO x).bind λc=>.ok (.Aa (!c))
def wm{a b:Ag}:Ep (Ck F (P1 a b)) (oz (Ck F a) (Ck F b)):=by
 rintro σ H Q ⟨G,ρ,r,h⟩;unfold P1 at h;refine⟨G,ρ,r,?_⟩;refine rb h λd Aw h x H1 Al AK s1 Bl=>?_;cases d with
 |Aa c=>
  simp only[At]at Bl;refine⟨c,Bl,?_⟩;cases c with
  |true=>exact⟨Al,ρ,AK,JN.mono s1 h⟩
  |false=>exact h _ H1 Al AK s1 (by simp only[At])
 |_=>cases h
def vw{a:Ag}:Ep (Ck F (ZX a)) (qd (Ck F a)):=by
 rintro σ H Q ⟨G,ρ,r,h⟩;unfold ZX at h;refine⟨G,ρ,r,?_⟩;refine rb h λd Aw h x H1 Al AK s1 Bl=>?_;cases d with
 |Aa c=>simp only[At]at Bl;exact⟨c,Bl,h _ H1 Al AK s1 (by simp only[At])⟩
 |_=>cases h
def Mc(c:CR)(a b:Ag):Ag:=λρ=>(c ρ).bind λk=>if k=true then a ρ else b ρ
def wJ{c:CR}{a b:Ag}:Ep (Ck F (Mc c a b)) (q_ (HQ F c) (Ck F a) (Ck F b)):=by
 rintro σ H Q ⟨G,ρ,r,h⟩;unfold Mc at h;refine⟨G,ρ,r,?_⟩;refine rb h λk Aw h H1 Al AK s1=>?_;cases k with
 |true=>exact⟨Al,ρ,AK,JN.mono s1 h⟩
 |false=>exact⟨Al,ρ,AK,JN.mono s1 h⟩
def Co:Aq:=λρ=>.ok (.BC ρ)
def AU(a b:Aq):Aq:=λρ=>(a ρ).bind λf=>match f with
 |.BC BJ=>b BJ
 |f=>.ok f
def vt:IN (GK F Co) gC:=by rintro Ca σ H ⟨G,ρ,r,h⟩;exact h σ G H r (Sub.refl _)
def xQ{a b:Aq}:IN (GK F (AU a b)) (gD (GK F a) (GK F b)):=by
 rintro Ca σ H ⟨G,ρ,r,h⟩;unfold AU at h;refine⟨G,ρ,r,?_⟩;refine rb h λf Aw h=>?_;cases f with
 |BC BJ=>exact λσ' G' H' BO s'=>⟨G',BJ,BO,Ht.mono s' h⟩
 |E6 d=>exact h
 |J_ d=>exact h
 |G1 d=>exact h
 |DB d=>exact h
 |Py d=>exact h
 |rs d _=>exact h
def D0(a:Ag):Aq:=λρ=>(a ρ).bind λd=>.ok (.E6 d)
def w1{a:Ag}:IN (GK F (D0 a)) (ag (Ck F a)):=by
 rintro Ca σ H ⟨G,ρ,r,h⟩;unfold D0 at h;refine⟨G,ρ,r,?_⟩;cases Aw:a ρ with
 |bad=>rw[Aw]at h;cases h
 |exc c=>rw[Aw]at h;exact h
 |ok d=>rw[Aw,R.E_]at h;exact λv H' G' BO s' a=>h v G' H' BO.kp a
def GH(a:B6):Aq:=λρ=>(a ρ).bind λd=>.ok (.J_ d)
def wS{a:B6}:IN (GK F (GH a)) (ag (IH F a)):=by
 rintro Ca σ H ⟨G,ρ,r,h⟩;unfold GH at h;refine⟨G,ρ,r,?_⟩;cases Aw:a ρ with
 |bad=>rw[Aw]at h;cases h
 |exc c=>rw[Aw]at h;exact h
 |ok d=>rw[Aw,R.E_]at h;exact λa xs H' G' BO s' h1 h2 h3 h4=>h a xs G' H' BO.kp h3 (r.kp.BD.gone h1) h2 h4
def JT(i:Nat):B6:=λρ=>match ρ[i]? with
 |some (.ob (.lst d))=>.ok d
 |_=>.bad
def xP(i:Nat):IN (GK F (GH (JT i))) (ag (Wb i)):=by
 rintro Ca σ H ⟨G,ρ,r,h⟩;unfold GH JT at h;cases e:ρ[i]? with
 |none=>rw[e]at h;cases h
 |some s=>
  rw[e]at h;cases s with
  |un=>cases h
  |A1 _=>cases h
  |Et _=>cases h
  |Bc _ _=>cases h
  |ob o=>
   cases o with
   |lst ds=>obtain⟨a,xs,A9,h1,h2,h3,h4⟩:=r.own e;exact⟨.ref a,A9,h a xs G H r.kp h2 h3 h1 h4⟩
   |B7 _ _=>cases h
   |ins _ _ _=>cases h
def Cb(c:CR)(a b:Aq):Aq:=λρ=>(c ρ).bind λk=>if k=true then a ρ else b ρ
def wK{c:CR}{a b:Aq}:IN (GK F (Cb c a b)) (gA (HQ F c) (GK F a) (GK F b)):=by
 rintro Ca σ H ⟨G,ρ,r,h⟩;unfold Cb at h;refine⟨G,ρ,r,?_⟩;refine rb h λk Aw h H1 Al AK s1=>?_;cases k with
 |true=>exact⟨Al,ρ,AK,Ht.mono s1.g h⟩
 |false=>exact⟨Al,ρ,AK,Ht.mono s1.g h⟩
def BL(i:Nat)(d:D)(ρ:AF):R AF:=if i<ρ.length then .ok (ρ.set i (.A1 d))else .bad
def BN(i:Nat)(a:Ag):Aq:=λρ=>(a ρ).bind λd=>(BL i d ρ).bind λBJ=>.ok (.BC BJ)
def xR{i:Nat}{a:Ag}:IN (GK F (BN i a)) (Oq (Ck F a) (KD i)):=by
 rintro Ca σ H ⟨G,ρ,r,h⟩;unfold BN BL at h;refine⟨G,ρ,r,?_⟩;refine rb h λd Aw h v H1 Al AK s1 B8=>?_;by_cases AC:i<ρ.length
 .rw[if_pos AC]at h;exact h _ Al H1 (AK.set AC B8) s1.g
 .rw[if_neg AC]at h;cases h
def EB(i:Nat)(a:B6):Aq:=λρ=>(a ρ).bind λds=>if i<ρ.length then .ok (.BC (ρ.set i (.C5 ds)))else .bad
def lp{i:Nat}{a:B6}:IN (GK F (EB i a)) (Oq (IH F a) (KD i)):=by
 rintro Ca σ H ⟨G,ρ,r,h⟩;unfold EB at h;refine⟨G,ρ,r,?_⟩;refine rb h λds Aw h b xs H1 Al AK s1 h1 h2 h3 h4=>?_;by_cases AC:i<ρ.length
 .rw[if_pos AC]at h;exact h _ Al H1 (AK.ac2 AC h2 h3 (r.kp.BD.gone h1) h4 λj A6 o _ A9 AG f=>Cf.fresh r s1.h h1 ⟨j,A6,o,A9,AG,f⟩) s1.g
 .rw[if_neg AC]at h;cases h
def Kq(i:Nat)(ρ:AF):AF:=match ρ[i]? with
 |some (.ob o)=>ρ.set i (.A1 (PA o))
 |_=>ρ
theorem Rel.Kq{G H:AA}{σ :St}{ρ:AF}(r:Rel F G H σ ρ)(i:Nat):∃G',Rel F G' H σ (Cm.Kq i ρ)/\Sub G G':=by
 unfold Cm.Kq;cases e:ρ[i]? with
 |none=>exact⟨G,r,Sub.refl _⟩
 |some s=>
  cases s with
  |un=>exact⟨G,r,Sub.refl _⟩
  |A1 _=>exact⟨G,r,Sub.refl _⟩
  |Et _=>exact⟨G,r,Sub.refl _⟩
  |Bc _ _=>exact⟨G,r,Sub.refl _⟩
  |ob o=>exact r.Lg e
def RL(i:Nat)(m:Aq):Aq:=λρ=>m (Kq i ρ)
def wG{i:Nat}{m:Aq}:IN (GK F (RL i m)) (GK F m):=by rintro Ca σ H ⟨G,ρ,r,h⟩;obtain⟨Al,AK,s1⟩:=r.Kq i;exact⟨Al,_,AK,Ht.mono s1 h⟩
def HP:D->Bool
 |.non=>true|.Aa _=>true|.int _=>true|.str _=>true
 |_=>false
def At.ph{K:AY}{G G':AA}{d:D}{v:V}(h:HP d=true)(a:At K G d v):At K G' d v:=by
 cases d<;>first
  |(simp only[At]at a |-;exact a)
  |(cases h)
def NX:Be->Be
 |.ob o=>.A1 (PA o)
 |.Et t=>.A1 (toD t)
 |.Bc _ t=>.A1 (toD t)
 |s=>s
def ES(ρ:AF):AF:=ρ.map NX
open Classical in
noncomputable def IA(σ :St)(ρ:AF)(G H:AA):AA:=λb=>if Cf H σ ρ b then H b else G b
def WK{G H:AA}{σ :St}{ρ:AF}(r:Rel F G H σ ρ):Sub G (IA σ ρ G H):=λb o e=>by
 unfold IA
 split
 .exact r.kp.sub b o e
 .exact e
def Oc{G H:AA}{σ :St}{ρ:AF}{b:A7}(h:Cf H σ ρ b):IA σ ρ G H b=H b:=by unfold IA;rw[if_pos h]
def vX{H:AA}{ρ:AF}{i:Nat}{s:Be}(e:(ES ρ)[i]?=some s)(o:Option V)(a:A7):¬FB H s o a:=by
 unfold ES at e;rw[ER]at e;cases AG:ρ[i]? with
 |none=>rw[AG]at e;cases e
 |some t=>rw[AG]at e;have A6:NX t=s:=FA e;subst A6;cases t<;>exact λz=>z
def Rel.plus{G H:AA}{σ :St}{ρ:AF}(r:Rel F G H σ ρ):Rel F (IA σ ρ G H) H σ (ES ρ):=by
 have BM:=WK r;refine⟨⟨λb o e=>?_,r.kp.ET.trans BM,r.kp.BD,λb A0=>?_⟩,by simp[ES,r.len],λi s e=>?_,λi j a s s' o Ce A9 _ _ _ f _=>absurd f (vX A9 o a)⟩
 .unfold IA at e
  split at e
  .exact e
  .exact r.kp.sub b o e
 .unfold IA
  split
  .rename_i z;exact absurd (r.foot z).2.2 A0.1
  .exact r.kp.new b A0
 .unfold ES at e;rw[ER]at e;cases A9:ρ[i]? with
  |none=>rw[A9]at e;cases e
  |some t=>
   rw[A9]at e;have A6:NX t=s:=FA e;obtain⟨o,AG,q⟩:=r.Bz i t A9;refine⟨o,AG,?_⟩;subst A6;cases t with
   |un=>trivial
   |A1 d=>obtain⟨v,B3,a⟩:=q;exact⟨v,B3,a.mono BM⟩
   |ob ds=>obtain⟨a,AM,B3,h1,h2,h3,h4⟩:=q;subst B3;exact⟨.ref a,rfl,(h4.mono BM).at (by rw[Oc (.ob A9 AG)];exact h1)⟩
   |Et t=>obtain⟨v,B3,q⟩:=q;exact⟨v,B3,q.at_.view BM λa AB=>Oc ⟨i,_,o,A9,AG,v,B3,AB⟩⟩
   |Bc n t=>obtain⟨v,B3,q,_⟩:=q;exact⟨v,B3,q.at_.view BM λa AB=>Oc ⟨i,_,o,A9,AG,v,B3,AB⟩⟩
def Rel.back{G H G' H':AA}{σ :St}{ρ:AF}(r:Rel F G H σ ρ)(BO:Rel F G' H' σ (ES ρ))(s:Sub (IA σ ρ G H) G'):Rel F G H' σ ρ:=
 r.over rfl ⟨(WK r).trans (s.trans BO.kp.sub),r.kp.ET,BO.kp.BD,r.kp.new⟩ (Sub.refl _) λa AB=>by
   obtain⟨h1,h2,h3⟩:=r.foot AB;refine⟨?_,h2,h3⟩;cases e:H a with
   |none=>exact absurd e h1
   |some o=>exact BO.kp.sub _ _ (s _ _ (by rw[Oc AB];exact e))
def ar(d:D):R D:=if HP d=true then .ok d else .bad
def MB(m:Ag):Ag:=λρ=>(m (ES ρ)).bind ar
def wn{m:Ag}:Ep (Ck F (MB m)) (Ck F m):=by
 rintro σ H Q ⟨G,ρ,r,h⟩;refine⟨IA σ ρ G H,ES ρ,r.plus,?_⟩;unfold MB ar at h;refine rb h λd Aw h v H' G' BO s' a=>?_;by_cases hd:HP d=true
 .rw[if_pos hd]at h;exact h v H' G (r.back BO s'.g) ⟨Sub.refl _,s'.h,λ_ _=>rfl⟩ (a.ph hd)
 .rw[if_neg hd]at h;cases h
def IE(m:CR):CR:=λρ=>m (ES ρ)
def w4{m:CR}:Pq (HQ F (IE m)) (HQ F m):=by
 rintro σ H Q ⟨G,ρ,r,h⟩;refine⟨IA σ ρ G H,ES ρ,r.plus,?_⟩;unfold IE at h;cases Aw:m (ES ρ)with
 |bad=>rw[Aw]at h;cases h
 |exc c=>rw[Aw]at h;exact h
 |ok d=>rw[Aw]at h;exact λH' G' BO s'=>h H' G (r.back BO s'.g) ⟨Sub.refl _,s'.h,λ_ _=>rfl⟩
end
section
variable{F:BA}
def I8(G H:AA):AA:=λb=>match H b with
 |some (.tup xs)=>some (.tup xs)
 |_=>G b
def jS{G H:AA}{b:A7}{xs:List V}(e:H b=some (.tup xs)):I8 G H b=some (.tup xs):=by unfold I8;rw[e]
def jR{G H:AA}{b:A7}(h:I5 H b):I8 G H b=G b:=by
 unfold I8
 split
 .rename_i xs e;exact absurd e (h.2 xs)
 .rfl
def i9{G H:AA}(s:Sub G H):Sub G (I8 G H):=λb o e=>by
 unfold I8
 split
 .rename_i xs z;rw[s b o e]at z;rw[z]
 .exact e
def sA{G H:AA}(s:Sub G H):Sub (I8 G H) H:=λb o e=>by
 unfold I8 at e
 split at e
 .rename_i xs z;rw[z];exact e
 .exact s b o e
theorem Rel.I8{G H:AA}{σ :C2.St}{ρ:AF}(r:Rel F G H σ ρ):Rel F (I8 G H) H σ ρ:=r.grow (i9 r.kp.sub) (sA r.kp.sub) (Sub.refl _) λb h=>jR h
theorem Bw.I8{G H:AA}(s:Sub G H):Bw G H (I8 G H) H:=⟨i9 s,Sub.refl _,λb h=>jR h⟩
structure MF(K:AY)(D6:It)(ds:List D)(G:AA):Prop where
 go:∀(i:Nat)(H:AA),Sub G H->i<ds.length->D6.go i H
 Jg:∀(i:Nat)(H:AA)(x:V)(H':AA),Sub G H->i<ds.length->D6.Jg i H x H'->∃d,ds[i]?=some d/\
  ((H'=H/\At K G d x)\/∃p xs A6,H p=none/\H'=upd H p (.tup xs)/\x=.ref p/\d=.tup A6/\∀Al,Sub G Al->(∀b ys,H b=some (.tup ys)->Al b=some (.tup ys))->A_ K Al A6 xs)
 stop:∀(H:AA),Sub G H->D6.stop ds.length H
def wz(F:BA)(G H:AA)(σ :St)(ρ:AF)(Q:It->AA->Prop):R (List D)->Prop
 |.ok ds=>∀D6 H' G',Rel F G' H' σ ρ->Bw G H G' H'->MF F.K D6 ds G'->Q D6 H'
 |.exc c=>Nc F c
 |.bad=>False
def Kk(F:BA)(m:B6):TI:=λσ H Q=>∃G ρ,Rel F G H σ ρ/\wz F G H σ ρ Q (m ρ)
abbrev ON(t' t:TI):Prop:=∀ σ H Q,t' σ H Q->t σ H Q
def MF.turn{D6:It}{ds:List D}{G Al H H':AA}{σ :St}{ρ:AF}{i:Nat}{x:V}(t:MF F.K D6 ds G)(r:Rel F Al H σ ρ)(s:Sub G Al)(AC:i<ds.length)(y:D6.Jg i H x H') :
  ∃d G',ds[i]?=some d/\Rel F G' H' σ ρ/\Bw Al H G' H'/\At F.K G' d x:=by
 obtain⟨d,e,h⟩:=t.Jg i H x H' (s.trans r.kp.sub) AC y;rcases h with⟨rfl,a⟩|⟨p,xs,A6,Ad,rfl,rfl,rfl,a⟩
 .exact⟨d,Al,e,r,Bw.refl _ _,a.mono s⟩
 .have B4:=r.I8;refine⟨_,_,e,B4.lay Ad,(Bw.I8 r.kp.sub).trans (Bw.lay B4.kp.sub Ad),?_⟩;simp only[At];exact⟨p,xs,rfl,E1,(a _ (s.trans (i9 r.kp.sub)) λ_ _ e=>jS e).mono (Sub.upd (B4.kp.sub.gone Ad))⟩
def Pp(F:BA)(g:IR)(set:D->AF->R AF):Prop:=∀ σ ρ G H v d Q BJ,Rel F G H σ ρ->At F.K G d v->set d ρ=.ok BJ->(∀ σ',Rel F G H σ' BJ->Q σ' H)->g v σ H Q
def YS(i:Nat):Pp F (KD i) (BL i):=by
 intro σ ρ G H v d Q BJ r a e h;unfold BL at e;by_cases AC:i<ρ.length
 .rw[if_pos AC]at e;cases e;exact h _ (r.set AC a)
 .rw[if_neg AC]at e;cases e
def Hx:List (D->AF->R AF)->List D->AF->R AF
 |[],[],ρ=>.ok ρ
 |f::As,d::ds,ρ=>(f d ρ).bind λBJ=>Hx As ds BJ
 |_,_,_=>.bad
def VJ(F:BA)(g:NL)(set:List D->AF->R AF):Prop:=∀ σ ρ G H vs ds Q BJ,Rel F G H σ ρ->A_ F.K G ds vs->set ds ρ=.ok BJ->(∀ σ',Rel F G H σ' BJ->Q σ' H)->g vs σ H Q
def kn:VJ F YQ (Hx []):=by
 intro σ ρ G H vs ds Q BJ r a e h;cases ds with
 |nil=>simp only[A_]at a;cases e;exact⟨a,h σ r⟩
 |cons d ds=>cases e
def dB{g:IR}{MV:NL}{f:D->AF->R AF}{As:List (D->AF->R AF)}(h1:Pp F g f)(h2:VJ F MV (Hx As)):VJ F (WJ g MV) (Hx (f::As)):=by
 intro σ ρ G H vs ds Q BJ r a e h;cases ds with
 |nil=>cases e
 |cons d ds=>
  simp only[A_]at a;obtain⟨v,Kl,rfl,B8,MO⟩:=a;simp only[Hx]at e;cases A9:f d ρ with
  |bad=>rw[A9]at e;cases e
  |exc c=>rw[A9]at e;cases e
  |ok EQ=>rw[A9,R.E_]at e;refine⟨v,Kl,rfl,h1 σ ρ G H v d _ EQ r B8 A9 λσ1 AK=>?_⟩;exact h2 σ1 EQ G H Kl ds Q BJ AK MO e h
def Fj(As:List (D->AF->R AF)):D->AF->R AF
 |.tup ds,ρ=>Hx As ds ρ
 |_,_=>.bad
theorem p4:∀{As:List (D->AF->R AF)}{ds:List D}{ρ BJ:AF},Hx As ds ρ=.ok BJ->ds.length=As.length
 |[],[],_,_,_=>rfl
 |[],_::_,_,_,e=>by cases e
 |_::_,[],_,_,e=>by cases e
 |f::As,d::ds,ρ,BJ,e=>by
  simp only[Hx]at e;cases A9:f d ρ with
  |bad=>rw[A9]at e;cases e
  |exc c=>rw[A9]at e;cases e
  |ok EQ=>rw[A9,R.E_]at e;simp[p4 e]
def ko{MV:NL}{As:List (D->AF->R AF)}{n:Nat}(AS:n=As.length)(h:VJ F MV (Hx As)):Pp F (YR F.K n MV) (Fj As):=by
 intro σ ρ G H v d Q BJ r a e k;cases d with
 |tup ds=>simp only[At]at a;obtain⟨p,xs,rfl,AX,al⟩:=a;refine⟨p,xs,rfl,CK.of (r.kp.sub _ _ AX),?_,h σ ρ G H xs ds Q BJ r al e k⟩;rw[<-al.length,AS];exact p4 e
 |_=>cases e
noncomputable def IX(set:D->AF->R AF)(body:Aq):List D->AF->R FQ
 |[],ρ=>.ok (.BC ρ)
 |d::ds,ρ=>(set d ρ).bind λEQ=>(body EQ).bind λf=>match f with
  |.BC EW=>IX set body ds EW
  |.DB EW=>IX set body ds EW
  |.G1 EW=>.ok (.BC EW)
  |f=>.ok f
def E0(mi:B6)(set:D->AF->R AF)(body:Aq):Aq:=λρ=>(mi ρ).bind λds=>IX set body ds ρ
def wF{mi:B6}{set:D->AF->R AF}{body:Aq}{g:IR}(Ah:Pp F g set)(AH:∀d ρ c,set d ρ≠.exc c):IN (GK F (E0 mi set body)) (qZ (Kk F mi) g (GK F body)):=by
 rintro Ca σ H ⟨G,ρ,r,h⟩;unfold E0 at h;refine⟨G,ρ,r,?_⟩;refine rb h λds Aw h D6 H1 Al AK s1 it=>?_;refine⟨λi m σ2 Ax=>m=ds.length-i/\i<=ds.length/\∃Ci EW,Rel F Ci Ax σ2 EW/\Sub Al Ci/\Ht F Ci Ca (IX set body (ds.drop i) EW),⟨ds.length,by simp,JJ _,Al,ρ,AK,Sub.refl _,Ht.mono s1.g (by simpa using h)⟩,?_⟩;rintro i m σ2 Ax ⟨rfl,AC,Ci,EW,B4,s2,Br⟩;by_cases IB:i<ds.length
 .refine .inr ⟨it.go i Ax (s2.trans B4.kp.sub) IB,λσ3 Cp=>∃Ge bN,Rel F Ge Cp σ3 bN/\Sub Al Ge/\Ht F Ge Ca (IX set body (ds.drop (i+1)) bN),λσ3 Cp⟨Ge,bN,DV,s3,Ft⟩=>⟨ds.length-(i+1),by lia,rfl,IB,Ge,bN,DV,s3,Ft⟩,λx Cp y=>?_⟩;obtain⟨d,Ge,B3,DV,s3,I7⟩:=it.turn B4 s2 IB y;have G3:ds.drop i=d::ds.drop (i+1):=by
   rw[gZ IB];have:=E8 IB;rw[B3]at this;rw[FA this]
  rw[G3]at Br;simp only[IX]at Br;cases CB:set d EW with
  |bad=>rw[CB]at Br;cases Br
  |exc c=>exact absurd CB (AH d EW c)
  |ok Jh=>
   rw[CB,R.E_]at Br;refine Ah σ2 EW Ge Cp x d _ Jh DV I7 CB λσ5 PF=>⟨Ge,Jh,PF,?_⟩;have XB:Sub Ci Ge:=s3.g;refine rb Br λf NU Br=>?_;cases f with
   |BC P0=>exact λσ7 ME H2 JZ Dn=>⟨ME,P0,JZ,s2.trans (XB.trans Dn),Ht.mono (XB.trans Dn) Br⟩
   |DB P0=>exact λσ7 ME H2 JZ Dn=>⟨ME,P0,JZ,s2.trans (XB.trans Dn),Ht.mono (XB.trans Dn) Br⟩
   |G1 P0=>exact λσ7 ME H2 JZ Dn=>Br σ7 ME H2 JZ (XB.trans Dn)
   |E6 d=>exact Br
   |J_ ds=>exact Br
   |Py t=>exact Br
   |rs t _=>exact Br
 .have e:ds.drop i=[]:=rf (by lia);rw[e]at Br;have G4:i=ds.length:=by lia
  subst G4;exact .inl ⟨it.stop Ax (s2.trans B4.kp.sub),Br σ2 Ci Ax B4 (Sub.refl _)⟩
def aU(i:Nat):∀d ρ c,BL i d ρ≠.exc c:=λd ρ c=>by
 unfold BL
 split<;>exact λz=>nomatch z
theorem p5:∀{As:List (D->AF->R AF)},(∀f∈As,∀d ρ c,f d ρ≠.exc c)->∀ds ρ c,Hx As ds ρ≠.exc c
 |[],_,[],_,_,e=>nomatch e
 |[],_,_::_,_,_,e=>nomatch e
 |_::_,_,[],_,_,e=>nomatch e
 |f::As,h,d::ds,ρ,c,e=>by
  simp only[Hx]at e;cases A9:f d ρ with
  |bad=>rw[A9]at e;cases e
  |exc c=>exact h f (by simp) d ρ c A9
  |ok EQ=>rw[A9,R.E_]at e;exact p5 (λg Ah=>h g (by simp[Ah])) ds EQ c e
def p7{As:List (D->AF->R AF)}(h:∀f∈As,∀d ρ c,f d ρ≠.exc c):∀d ρ c,Fj As d ρ≠.exc c:=λd ρ c e=>by
 cases d<;>first
  |(exact p5 h _ _ _ e)
  |(cases e)
def m5{K:AY}{G:AA}{a:A7}{xs:List V}{ds:List D}(h:C4 K G a xs)(q:A_ K G ds xs):MF K (ho K a) ds G where
 go:=λi H s AC=>by obtain⟨v,e,_⟩:=q.get (E8 AC);exact⟨xs,v,C4.mono s h,e⟩
 Jg:=λi H x H' s AC y=>by obtain⟨rfl,y⟩:=y;obtain⟨d,e,a⟩:=q.WL (y xs (C4.mono s h));exact⟨d,e,.inl ⟨rfl,a⟩⟩
 stop:=λH s=>⟨xs,C4.mono s h,by rw[<-q.length];exact CY _⟩
def m7{K:AY}{G:AA}{a:A7}{xs:List V}{ds:List D}(h:CK K G a xs)(q:A_ K G ds xs):MF K (hq K a) ds G where
 go:=λi H s AC=>by obtain⟨v,e,_⟩:=q.get (E8 AC);exact⟨xs,v,CK.mono s h,e⟩
 Jg:=λi H x H' s AC y=>by obtain⟨rfl,y⟩:=y;obtain⟨d,e,a⟩:=q.WL (y xs (CK.mono s h));exact⟨d,e,.inl ⟨rfl,a⟩⟩
 stop:=λH s=>⟨xs,CK.mono s h,by rw[<-q.length];exact CY _⟩
def G7(lo:Int)(n:Nat):List D:=(EY n).map λ(i:Nat)=>.int (lo+(i:Int))
def m6{K:AY}{G:AA}(lo:Int)(n:Nat):MF K (VM lo n) (G7 lo n) G where
 go:=λi H s AC=>by
  have h:i<n:=by simpa[G7]using AC
  exact h
 Jg:=λi H x H' s AC y=>by
  have h:i<n:=by simpa[G7]using AC
  obtain⟨A9,AG⟩:=y;refine⟨.int (lo+(i:Int)),?_,.inl ⟨A9,?_⟩⟩
  .unfold G7;rw[ER,Ux h];rfl
  .simp only[At];exact AG
 stop:=λH s=>by
  have h:n<=(G7 lo n).length:=by simp[G7]
  exact h
def XG:D->R (List D)
 |.lst ds=>.ok ds
 |.Cc ds=>.ok ds
 |_=>.bad
def gI:D->R (List D)
 |.tup ds=>.ok ds
 |.EF ds=>.ok ds
 |_=>.bad
def F4(m:Ag):B6:=λρ=>(m ρ).bind XG
def wM{m:Ag}:ON (Kk F (F4 m)) (mS F.K (Ck F m)):=by
 rintro σ H Q ⟨G,ρ,r,h⟩;unfold F4 at h;refine⟨G,ρ,r,?_⟩;refine rb h λd Aw h v H1 Al AK s1 a=>?_;cases d with
 |lst ds=>simp only[At]at a;obtain⟨p,xs,e,AX,al⟩:=a;exact⟨p,e,⟨xs,C4.of (AK.kp.sub _ _ AX)⟩,h _ H1 Al AK s1 (m5 (C4.of AX) al)⟩
 |Cc ds=>simp only[At]at a;obtain⟨p,xs,e,AX,al⟩:=a;exact⟨p,e,⟨xs,C4.mono AK.kp.sub AX⟩,h _ H1 Al AK s1 (m5 AX al)⟩
 |_=>cases h
def QG(m:Ag):B6:=λρ=>(m ρ).bind gI
def xY{m:Ag}:ON (Kk F (QG m)) (mW F.K (Ck F m)):=by
 rintro σ H Q ⟨G,ρ,r,h⟩;unfold QG at h;refine⟨G,ρ,r,?_⟩;refine rb h λd Aw h v H1 Al AK s1 a=>?_;cases d with
 |tup ds=>simp only[At]at a;obtain⟨p,xs,e,AX,al⟩:=a;exact⟨p,e,⟨xs,CK.of (AK.kp.sub _ _ AX)⟩,h _ H1 Al AK s1 (m7 (CK.of AX) al)⟩
 |EF ds=>simp only[At]at a;obtain⟨p,xs,e,AX,al⟩:=a;exact⟨p,e,⟨xs,CK.mono AK.kp.sub AX⟩,h _ H1 Al AK s1 (m7 AX al)⟩
 |_=>cases h
def X8:List D->R (List D)
 |[.int j]=>if-(2^62)<=j/\j<2^62 then .ok (G7 0 j.toNat)else .bad
 |_=>.bad
def X9:List D->R (List D)
 |[.int i,.int j]=>if-(2^62)<=i/\i<2^62/\-(2^62)<=j/\j<2^62 then .ok (G7 i (j-i).toNat)else .bad
 |_=>.bad
def A_.ints1{K:AY}{G:AA}{j:Int}{vs:List V}(a:A_ K G [.int j] vs):vs=[.int j]:=by simp only[A_,At]at a;obtain⟨v,r,rfl,rfl,rfl⟩:=a;rfl
def A_.ints2{K:AY}{G:AA}{i j:Int}{vs:List V}(a:A_ K G [.int i,.int j] vs):vs=[.int i,.int j]:=by simp only[A_,At]at a;obtain⟨v,r,rfl,rfl,v,r,rfl,rfl,rfl⟩:=a;rfl
def Fh(m:B6):B6:=λρ=>(m ρ).bind X8
def Te(m:B6):B6:=λρ=>(m ρ).bind X9
def vz{m:B6}:ON (Kk F (Fh m)) (mT (F7 F m)):=by
 rintro σ H Q ⟨G,ρ,r,h⟩;unfold Fh at h;refine⟨G,ρ,r,?_⟩;refine rb h λds Aw h vs H1 Al AK s1 a=>?_;unfold X8 at h
 split at h
 .rename_i j
  split at h
  .rename_i By;exact⟨j,a.ints1,By.1,By.2,h _ H1 Al AK s1 (m6 0 j.toNat)⟩
  .exact h.elim
 .exact h.elim
def w0{m:B6}:ON (Kk F (Te m)) (mU (F7 F m)):=by
 rintro σ H Q ⟨G,ρ,r,h⟩;unfold Te at h;refine⟨G,ρ,r,?_⟩;refine rb h λds Aw h vs H1 Al AK s1 a=>?_;unfold X9 at h
 split at h
 .rename_i i j
  split at h
  .rename_i By;exact⟨i,j,a.ints2,By,h _ H1 Al AK s1 (m6 i (j-i).toNat)⟩
  .exact h.elim
 .exact h.elim
inductive CI where
 |v (d:D)|o (ds:List D)|t (t:T)
noncomputable def wx(F:BA)(Q:CT):R CI->Prop
 |.ok (.v d)=>∀v G' H',FZ F G' H'->At F.K G' d v->Q v H'
 |.ok (.o ds)=>∀a xs G' H',FZ F G' H'->G' a=none->F.H0 a=none->H' a=some (.lst xs)->A_ F.K G' ds xs->Q (.ref a) H'
 |.ok (.t t)=>∀v G' H',FZ F G' H'->ML F G' H' t v->Q v H'
 |.exc c=>Nc F c
 |.bad=>False
def UR(K:AY)(n:Nat)(xe:DL->Str->AA->Prop)(mf:List D->R CI):B9:=λvs H Q E=>∃G ds,Sub G H/\A_ K G ds vs/\ds.length=n/\wx ⟨K,G,H,xe E,J9⟩ Q (mf ds)
def eb{K:AY}{n:Nat}{xe:DL->Str->AA->Prop}{mf:List D->R CI}:∀vs H Q E,UR K n xe mf vs H Q E->vs.length=n:=λvs H Q E h=>by obtain⟨G,ds,_,a,l,_⟩:=h;rw[<-a.length];exact l
def outD:FQ->R CI
 |.BC _=>.ok (.v .non)
 |.E6 d=>.ok (.v d)
 |.J_ ds=>.ok (.o ds)
 |.Py t=>.ok (.t t)
 |_=>.bad
def J6(N:Nat)(ds:List D):AF:=ds.map .A1++Fx (N-ds.length) .un
def Dh(N:Nat)(m:Aq)(ds:List D):R CI:=(m (J6 N ds)).bind outD
def Nl(N:Nat)(vs:List V):St:=vs.map some++Fx (N-vs.length) none
def pX{K:AY}{G H:AA}{EX:Str->AA->Prop}{N:Nat}{ds:List D}{vs:List V}(s:Sub G H)(a:A_ K G ds vs):Rel ⟨K,G,H,EX,J9⟩ G H (Nl N vs) (J6 N ds):=by
 have AQ:=a.length;refine⟨⟨s,Sub.refl _,Sub.refl _,λ_ _=>rfl⟩,by simp[Nl,J6,AQ],λi t e=>?_,λi j b A6 Vc o Ce A9 AG _ _ f _=>?_⟩
 .unfold J6 at e;unfold Nl;by_cases AC:i<ds.length
  .rw[Mx (by simpa using AC),ER,E8 AC]at e;obtain⟨v,A9,B8⟩:=a.get (E8 AC);rw[Mx (by rw[Fw,<-AQ];exact AC),ER,A9];have Rb:Be.A1 ds[i]=t:=FA e;subst Rb;exact⟨some v,rfl,v,rfl,B8⟩
  .rw[Nw (by simpa using AC),PL]at e;rw[Nw (by rw[Fw,<-AQ];lia),PL,Fw,<-AQ];rw[Fw]at e
   split at e
   .rename_i BD;rw[if_pos BD];cases e;exact⟨none,rfl,trivial⟩
   .cases e
 .exfalso;unfold J6 at A9;by_cases AC:i<ds.length
  .rw[Mx (by simpa using AC),ER,E8 AC]at A9;cases A9;exact f
  .rw[Nw (by simpa using AC),PL]at A9
   split at A9
   .cases A9;exact f
   .cases A9
def cK{K:AY}{xe:DL->Str->AA->Prop}{n N:Nat}{m:Aq}{vs:List V}{H:AA}{Q:CT}{E:DL}(h:UR K n xe (Dh N m) vs H Q E) :
  ∃G,GK ⟨K,G,H,xe E,J9⟩ m { BC:=λ_ H'=>Q .non H',E6:=Q } (Nl N vs) H:=by
 obtain⟨G,ds,s,a,l,k⟩:=h;refine⟨G,G,J6 N ds,pX s a,?_⟩;unfold Dh at k;refine rb k λf e k=>?_;cases f with
 |BC ρ=>exact λσ' G' H' r _=>k .non G' H' r.kp (by simp only[At])
 |E6 d=>exact k
 |J_ ds=>exact k
 |Py t=>exact k
 |rs t _=>cases k
 |G1 ρ=>cases k
 |DB ρ=>cases k
def FZ.of{G H G' H':AA}{σ :St}{ρ:AF}{EX:Str->AA->Prop}(r:Rel F G H σ ρ)(k:FZ ⟨F.K,G,H,EX,J9⟩ G' H'):Rel F G' H' σ ρ:=r.grow k.ET k.sub k.BD λb A0=>k.new b A0
def PI:CI->R D
 |.v d=>.ok d
 |.o ds=>.ok (.lst ds)
 |.t t=>.ok (toD t)
def bB:CI->R (List D)
 |.o ds=>.ok ds
 |_=>.bad
def NZ(A:List A7)(G H:AA):AA:=λb=>if b∈A then H b else G b
def Rel.gG{G H G0 H0:AA}{σ :St}{ρ:AF}(r:Rel F G H σ ρ){F':BA}{t:T}{v:V}(Ao:F'.K=F.K)(q:ML F' G H t v)(u:Bw G0 H0 G H)(n:∀b∈Ak H t v,H0 b=none/\F.H0 b=none/\¬Cf H σ ρ b) :
  Rel F (NZ (Ak H t v) G H) H σ ρ/\Bw G0 H0 (NZ (Ak H t v) G H) H/\At F.K (NZ (Ak H t v) G H) (toD t) v:=by
 have BM:Sub G (NZ (Ak H t v) G H):=λb o e=>by
  unfold NZ;by_cases A0:b∈Ak H t v
  .rw[(q.own b A0).1]at e;cases e
  .rw[if_neg A0];exact e
 refine⟨r.over rfl ⟨λb o e=>?_,r.kp.ET.trans BM,r.kp.BD,λb A0=>?_⟩ BM λa AB=>?_,⟨u.g.trans BM,u.h,λb A0=>?_⟩,?_⟩
 .unfold NZ at e
  split at e
  .exact e
  .exact r.kp.sub b o e
 .unfold NZ;rw[if_neg (λz=>A0.1 (n b z).2.1)];exact r.kp.new b A0
 .obtain⟨h1,h2,h3⟩:=r.foot AB;refine⟨rfl,?_,h3⟩;unfold NZ;rw[if_neg (λz=>(n a z).2.2 AB)];exact h2
 .unfold NZ;rw[if_neg (λz=>A0.1 (n b z).1)];exact u.n b A0
 .rw[<-Ao];exact q.at_.view BM λa AB=>by unfold NZ;rw[if_pos AB]
def Bg(n:Nat)(mf:List D->R CI)(m:B6):Ag:=λρ=>(m ρ).bind λds=>if ds.length=n then(mf ds).bind PI else .bad
def FS(n:Nat)(mf:List D->R CI)(m:B6):B6:=λρ=>(m ρ).bind λds=>if ds.length=n then(mf ds).bind bB else .bad
def w5{n:Nat}{mf:List D->R CI}{m:B6}{xe:DL->Str->AA->Prop}{E:DL}(AH:F.EX=xe E):Ep (Ck F (Bg n mf m)) (g8 (UR F.K n xe mf) [] E (F7 F m)):=by
 rintro σ H Q ⟨G,ρ,r,h⟩;unfold Bg at h;refine⟨G,ρ,r,?_⟩;refine rb h λds Aw h vs H1 Al AK s1 a=>?_;by_cases AS:ds.length=n
 .rw[if_pos AS]at h;rw[LP];refine⟨Al,ds,AK.kp.sub,a,AS,?_⟩;cases e:mf ds with
  |bad=>rw[e]at h;cases h
  |exc c=>rw[e]at h;intro G' H' k;have z:=h G' H' (FZ.of AK k).kp;rw[AH]at z;exact z
  |ok t=>
   rw[e,R.E_]at h;cases t with
   |v d=>exact λv G' H' k B8=>h v H' G' (FZ.of AK k) (s1.trans ⟨k.ET,k.BD,k.new⟩) B8
   |o A6=>intro p xs G' H' k h1 h2 h3 h4;have h2:H1 p=none:=h2;have BO:=FZ.of AK k;have no:¬Cf H' σ ρ p:=Cf.fresh AK k.BD h2;refine h (.ref p) H' _ (BO.take h3 h1 (AK.kp.BD.gone h2) no) ((s1.trans ⟨k.ET,k.BD,k.new⟩).put (s1.h.gone h2) h1) ?_;simp only[At];exact⟨p,xs,rfl,E1,h4.mono (Sub.upd h1)⟩
   |t t=>intro v G' H' k q;obtain⟨a1,a2,I7⟩:=(FZ.of AK k).gG (F':=⟨F.K,Al,H1,xe E,J9⟩) rfl q (s1.trans ⟨k.ET,k.BD,k.new⟩) λb A0=>⟨s1.h.gone (q.own b A0).2,AK.kp.BD.gone (q.own b A0).2,Cf.fresh AK k.BD (q.own b A0).2⟩;exact h v H' _ a1 a2 I7
 .rw[if_neg AS]at h;cases h
def w6{n:Nat}{mf:List D->R CI}{m:B6}{xe:DL->Str->AA->Prop}{E:DL}(AH:F.EX=xe E):Ep (IH F (FS n mf m)) (g8 (UR F.K n xe mf) [] E (F7 F m)):=by
 rintro σ H Q ⟨G,ρ,r,h⟩;unfold FS at h;refine⟨G,ρ,r,?_⟩;refine rb h λds Aw h vs H1 Al AK s1 a=>?_;by_cases AS:ds.length=n
 .rw[if_pos AS]at h;rw[LP];refine⟨Al,ds,AK.kp.sub,a,AS,?_⟩;cases e:mf ds with
  |bad=>rw[e]at h;cases h
  |exc c=>rw[e]at h;intro G' H' k;have z:=h G' H' (FZ.of AK k).kp;rw[AH]at z;exact z
  |ok t=>
   rw[e,R.E_]at h;cases t with
   |v d=>cases h
   |t t=>cases h
   |o A6=>intro p xs G' H' k h1 h2 h3 h4;have h2:H1 p=none:=h2;have BO:=FZ.of AK k;exact h p xs H' G' BO (s1.trans ⟨k.ET,k.BD,k.new⟩) (s1.h.gone h2) h3 h1 h4
 .rw[if_neg AS]at h;cases h
end
end Cm
namespace Cm
open PySem PySem.Spec C2
def HU:Be->Be
 |.A1 d=>.A1 d
 |_=>.un
def NP(nl:Nat)(caps:List Nat)(ρ:AF):AF:=Fx nl .un++caps.map λj=>HU (ρ.getD j .un)
noncomputable def I9(set:D->AF->R AF)(tst:CR)(elt:Ag):List D->AF->List D->R (List D)
 |[],_,ws=>.ok ws
 |d::ds,ρ,ws=>(set d ρ).bind λEQ=>(tst EQ).bind λb=>if b=true then(elt EQ).bind λy=>if ws.length<1000000 then I9 set tst elt ds EQ (ws++[y])else .bad else I9 set tst elt ds EQ ws
def Ie{α:Type}:R α->R α
 |.exc _=>.bad
 |r=>r
def Dm(nl:Nat)(caps:List Nat)(mi:B6)(set:D->AF->R AF)(tst:CR)(elt:Ag):B6:=λρ=>(mi ρ).bind λds=>Ie (I9 set tst elt ds (NP nl caps ρ) [])
def Gk(K:AY)(G H:AA):BA:=⟨K,G,H,λ_ _=>False,J9⟩
def ft(K:AY)(m:CR):TT:=λσ H Q=>∃G0 H0,HQ (Gk K G0 H0) m σ H Q
def fs(K:AY)(m:Ag):TE:=λσ H Q=>∃G0 H0,Ck (Gk K G0 H0) m σ H Q
def o1:Be->Bool
 |.un=>true|.A1 _=>true
 |_=>false
def o2{H:AA}{s:Be}(h:o1 s=true)(o:Option V)(a:A7):¬FB H s o a:=by
 cases s<;>first
  |exact λz=>z
  |cases h
def Rx(ρ:AF):Prop:=∀(i:Nat)(s:Be),ρ[i]?=some s->o1 s=true
def mc(nl:Nat)(caps:List Nat)(ρ:AF):Rx (NP nl caps ρ):=λi s A9=>by
 unfold NP at A9;by_cases AC:i<nl
 .rw[Mx (by simpa using AC),PL,if_pos AC]at A9;cases A9;rfl
 .rw[Nw (by simpa using AC),Sl,ER]at A9;cases KB:caps[i-nl]? with
  |none=>rw[KB]at A9;cases A9
  |some j=>rw[KB]at A9;have A6:HU (ρ.getD j .un)=s:=FA A9;subst A6;cases AN:ρ.getD j .un<;>rfl
def Keeps(set:D->AF->R AF):Prop:=∀d ρ BJ,set d ρ=.ok BJ->Rx ρ->Rx BJ
def aT(i:Nat):Keeps (BL i):=λd ρ BJ e n j ds z=>by
 unfold BL at e
 split at e
 .cases e;rcases get_set z with⟨_,z⟩|⟨_,z⟩
  .subst z;rfl
  .exact n j ds z
 .cases e
theorem p3:∀{As:List (D->AF->R AF)},(∀f∈As,Keeps f)->∀ds ρ BJ,Hx As ds ρ=.ok BJ->Rx ρ->Rx BJ
 |[],_,[],_,_,e,n=>by cases e;exact n
 |[],_,_::_,_,_,e,_=>by cases e
 |_::_,_,[],_,_,e,_=>by cases e
 |f::As,h,d::ds,ρ,BJ,e,n=>by
  simp only[Hx]at e;cases A9:f d ρ with
  |bad=>rw[A9]at e;cases e
  |exc c=>rw[A9]at e;cases e
  |ok EQ=>rw[A9,R.E_]at e;exact p3 (λg Ah=>h g (by simp[Ah])) ds EQ BJ e (h f (by simp) d ρ EQ A9 n)
def p6{As:List (D->AF->R AF)}(h:∀f∈As,Keeps f):Keeps (Fj As):=λd ρ BJ e n=>by
 cases d<;>first
  |(exact p3 h _ _ _ e n)
  |(cases e)
section
variable{F:BA}
def acC{G H:AA}{σ :St}{ρ:AF}(r:Rel F G H σ ρ){acc:A7}(AB:H acc=none)(nl:Nat)(caps:List Nat) :
  Rel (Gk F.K G H) G (upd H acc (.lst [])) (NQ nl caps σ) (NP nl caps ρ):=by
 refine⟨⟨Sub.aA r.kp.sub (r.kp.sub.gone AB),Sub.refl _,Sub.upd AB,λ_ _=>rfl⟩,by simp[NQ,NP],λi s e=>?_,λi j b s s' o Ce A9 _ _ _ f _=>?_⟩
 .unfold NP at e;unfold NQ;by_cases AC:i<nl
  .rw[Mx (by simpa using AC),PL,if_pos AC]at e;rw[Mx (by simpa using AC),PL,if_pos AC];cases e;exact⟨none,rfl,trivial⟩
  .rw[Nw (by simpa using AC),Sl,ER]at e;rw[Nw (by simpa using AC),Sl,ER];cases KB:caps[i-nl]? with
   |none=>rw[KB]at e;cases e
   |some j=>
    rw[KB]at e;refine⟨σ.getD j none,rfl,?_⟩;have A6:HU (ρ.getD j .un)=s:=FA e;subst A6;cases CN:ρ[j]? with
    |none=>
     have eg:ρ.getD j .un=.un:=by rw[JB,CN];rfl
     rw[eg];exact trivial
    |some t=>
     have eg:ρ.getD j .un=t:=by rw[JB,CN];rfl
     rw[eg];obtain⟨o,A9,q⟩:=r.Bz j t CN;cases t with
     |un=>exact trivial
     |ob ds=>exact trivial
     |Et t=>exact trivial
     |Bc _ t=>exact trivial
     |A1 d=>obtain⟨v,AG,a⟩:=q;refine⟨v,?_,a⟩;rw[JB,A9,AG];rfl
 .exact absurd f (o2 (mc nl caps ρ i s A9) o b)
def w8{nl:Nat}{caps:List Nat}{mi:B6}{set:D->AF->R AF}{tst:CR}{elt:Ag}{g:IR}(Ah:∀G H,Pp (Gk F.K G H) g set)(AH:∀d ρ c,set d ρ≠.exc c)(AL:Keeps set) :
  Ep (IH F (Dm nl caps mi set tst elt)) (ab (Kk F mi) g (ft F.K tst) (fs F.K elt) nl caps):=by
 rintro σ H Q ⟨G,ρ,r,h⟩;unfold Dm at h;refine⟨G,ρ,r,?_⟩;refine rb h λds Aw h D6 H1 Al AK Mq it acc AB=>?_;cases CN:I9 set tst elt ds (NP nl caps ρ) []with
 |bad=>rw[CN]at h;cases h
 |exc c=>rw[CN]at h;cases h
 |ok res=>
  rw[CN]at h
  refine⟨λi m σ2 Ax=>m=ds.length-i/\i<=ds.length/\∃Ci EW ys ws,Rel (Gk F.K Al H1) Ci Ax σ2 EW/\Rx EW/\Ax acc=some (.lst ys)/\Ci acc=none/\A_ F.K Ci ws ys/\I9 set tst elt (ds.drop i) EW ws=.ok res,
   ⟨ds.length,by simp,JJ _,Al,_,[],[],acC AK AB nl caps,mc _ _ _,E1,AK.kp.sub.gone AB,.nil,by simpa using CN⟩,?_⟩
  rintro i m σ2 Ax ⟨rfl,AC,Ci,EW,ys,ws,B4,DI,h1,h2,h3,h4⟩;have BM:Sub Al Ci:=B4.kp.ET;by_cases IB:i<ds.length
  .refine .inr ⟨it.go i Ax (BM.trans B4.kp.sub) IB,λx Cp y=>?_⟩;obtain⟨d,Ge,B3,DV,No,I7⟩:=MF.turn (F:=Gk F.K Al H1) it B4 BM IB y;have G3:ds.drop i=d::ds.drop (i+1):=by
    rw[gZ IB];have:=E8 IB;rw[B3]at this;rw[FA this]
   rw[G3]at h4;simp only[I9]at h4;cases CB:set d EW with
   |bad=>rw[CB]at h4;cases h4
   |exc c=>exact absurd CB (AH d EW c)
   |ok Jh=>
    rw[CB,R.E_]at h4;refine Ah Al H1 σ2 EW Ge Cp x d _ Jh DV I7 CB λσ5 PF=>⟨Al,H1,Ge,Jh,PF,?_⟩;have TR:Rx Jh:=AL d EW Jh CB DI;have jN:Cp acc=some (.lst ys):=No.h _ _ h1;have g3:Ge acc=none:=by rw[No.n acc (.of h1 λ_ z=>nomatch z)];exact h2
    cases El:tst Jh with
    |bad=>rw[El]at h4;cases h4
    |exc c=>rw[El]at h4;cases h4
    |ok b=>
     rw[El,R.E_]at h4;intro TK YF oH gM;have i5:TK acc=some (.lst ys):=gM.h _ _ jN;have Ob:YF acc=none:=by rw[gM.n acc (.of jN λ_ z=>nomatch z)];exact g3
     have T7:A_ F.K YF ws ys:=(h3.mono No.g).mono gM.g;cases b with
     |false=>rw[if_neg GC]at h4;rw[if_neg GC];exact⟨_,by lia,rfl,IB,YF,Jh,ys,ws,oH,TR,i5,Ob,T7,h4⟩
     |true=>
      rw[if_pos rfl]at h4;rw[if_pos rfl];refine⟨Al,H1,YF,Jh,oH,?_⟩;cases bg:elt Jh with
      |bad=>rw[bg]at h4;cases h4
      |exc c=>rw[bg]at h4;cases h4
      |ok y=>
       rw[bg,R.E_]at h4;intro g6 iM iL UL u8 i4;have se:iM acc=some (.lst ys):=u8.h _ _ i5;have km:iL acc=none:=by rw[u8.n acc (.of i5 λ_ z=>nomatch z)];exact Ob
       by_cases AQ:ws.length<1000000
       .rw[if_pos AQ]at h4;have jO:A_ F.K iL ws ys:=T7.mono u8.g;refine⟨ys,se,by rw[<-jO.length];exact LV AQ (by decide),_,by lia,rfl,IB,iL,Jh,ys++[g6],ws++[y],?_,TR,E1,km,jO.snoc i4,h4⟩;have UE:(Gk F.K Al H1).H0 acc=none:=AB;refine⟨⟨Sub.aA UL.kp.sub km,UL.kp.ET,λc o z=>?_,UL.kp.new⟩,UL.len,λj t z=>?_,λj k b s s' o Ce IJ _ _ _ f _=>absurd f (o2 (TR j s IJ) o b)⟩
        .rw[Da (KI z UE)];exact UL.kp.BD c o z
        .obtain⟨o,DS,Db⟩:=UL.Bz j t z;refine⟨o,DS,?_⟩;cases t with
         |un=>exact trivial
         |A1 d=>exact Db
         |ob A6=>exact absurd (TR j _ z) (λw=>nomatch w)
         |Et A6=>exact absurd (TR j _ z) (λw=>nomatch w)
         |Bc _ A6=>exact absurd (TR j _ z) (λw=>nomatch w)
       .rw[if_neg AQ]at h4;cases h4
  .have e:ds.drop i=[]:=rf (by lia);rw[e]at h4;simp only[I9]at h4;cases h4;have G4:i=ds.length:=by lia
   subst G4;refine .inl ⟨it.stop Ax (BM.trans B4.kp.sub),?_⟩;have k:FZ ⟨F.K,Al,H1,λ_ _=>False,J9⟩ Ci Ax:=B4.kp;exact h acc ys Ax Ci (FZ.of AK k) (Mq.trans ⟨k.ET,k.BD,k.new⟩) (Mq.h.gone AB) h1 h2 h3
end
mutual
noncomputable def Cv:D->D->Bool
 |.non,.non=>true
 |.Aa a,.Aa b=>a==b
 |.Aa a,.int b=>(if a then 1 else 0)==b
 |.int a,.Aa b=>a==(if b then 1 else 0)
 |.int a,.int b=>a==b
 |.str a,.str b=>a==b
 |.tup xs,.tup ys=>F3 xs ys
 |.tup xs,.EF ys=>F3 xs ys
 |.EF xs,.tup ys=>F3 xs ys
 |.EF xs,.EF ys=>F3 xs ys
 |.lst xs,.lst ys=>F3 xs ys
 |.lst xs,.Cc ys=>F3 xs ys
 |.Cc xs,.lst ys=>F3 xs ys
 |.Cc xs,.Cc ys=>F3 xs ys
 |_,_=>false
noncomputable def F3:List D->List D->Bool
 |[],[]=>true
 |x::xs,y::ys=>Cv x y&&F3 xs ys
 |_,_=>false
end
noncomputable def okN:Nat->D->Bool
 |_,.non=>true
 |_,.Aa _=>true
 |_,.int _=>true
 |_,.str _=>true
 |n+1,.tup xs=>xs.all (okN n)
 |n+1,.EF xs=>xs.all (okN n)
 |n+1,.lst xs=>xs.all (okN n)
 |n+1,.Cc xs=>xs.all (okN n)
 |_,_=>false
inductive LI(s:AP)(P:D->A4->Prop):D->A4->Prop where
 |non:LI s P .non .none
 |Aa (b:Bool):LI s P (.Aa b) (.bool b)
 |int (i:Int) (t:Tok):LI s P (.int i) (.int i t)
 |str (x:Str) (t:Tok):LI s P (.str x) (.str x t)
 |tup (a:A7) (ds:List D) (its:List A4) (h:s.heap.IsTuple a its.toArray) (l:ds.length=its.length) (p:∀(i:Nat) d u,ds[i]?=some d->its[i]?=some u->P d u):LI s P (.tup ds) (.ref a)
 |EF (a:A7) (ds:List D) (its:List A4) (h:s.heap.IsTuple a its.toArray) (l:ds.length=its.length) (p:∀(i:Nat) d u,ds[i]?=some d->its[i]?=some u->P d u):LI s P (.EF ds) (.ref a)
 |lst (a:A7) (ds:List D) (its:List A4) (h:s.heap.IsList a its.toArray) (l:ds.length=its.length) (p:∀(i:Nat) d u,ds[i]?=some d->its[i]?=some u->P d u):LI s P (.lst ds) (.ref a)
 |Cc (a:A7) (ds:List D) (its:List A4) (h:s.heap.IsList a its.toArray) (l:ds.length=its.length) (p:∀(i:Nat) d u,ds[i]?=some d->its[i]?=some u->P d u):LI s P (.Cc ds) (.ref a)
def NG(K:AY)(G:AA)(d:D)(u:A4):Prop:=∃x,At K G d x/\RelV x u
section
variable{X:Af}{pins:List (A7×Obj)}{σ :St}{H G:AA}{s:AP}
def UC{K:AY}{ds:List D}{xs:List V}{its:List A4}(q:A_ K G ds xs)(r:Vals xs its):∀(i:Nat) d u,ds[i]?=some d->its[i]?=some u->NG K G d u:=λi d u A9 AG=>by obtain⟨v,B3,a⟩:=q.get A9;obtain⟨FV,CB,CE⟩:=r.get B3;rw[AG]at CB;cases CB;exact⟨v,a,CE⟩
def Q3(I:Inv X pins σ H s)(BM:Sub G H){d:D}{u:A4}{n:Nat}(ok:okN n d=true)(h:NG X.K G d u):LI s (NG X.K G) d u:=by
 obtain⟨x,a,r⟩:=h;cases d with
 |non=>simp only[At]at a;subst a;cases r;exact .non
 |Aa b=>simp only[At]at a;subst a;cases r;exact .Aa b
 |int i=>simp only[At]at a;subst a;obtain⟨t,rfl⟩:=r;exact .int i t
 |str i=>simp only[At]at a;subst a;obtain⟨t,rfl⟩:=r;exact .str i t
 |tup ds=>simp only[At]at a;obtain⟨p,xs,rfl,AX,al⟩:=a;cases r;obtain⟨its,CE,Av,_⟩:=I.tuple (CK.of (BM _ _ AX));exact .tup p ds its Av (al.length.trans CE.length) (UC al CE)
 |lst ds=>simp only[At]at a;obtain⟨p,xs,rfl,AX,al⟩:=a;cases r;obtain⟨its,CE,Av,_⟩:=I.list (C4.of (BM _ _ AX));exact .lst p ds its Av.isList (al.length.trans CE.length) (UC al CE)
 |Cc ds=>simp only[At]at a;obtain⟨p,xs,rfl,AX,al⟩:=a;cases r;obtain⟨its,CE,Av,_⟩:=I.list (C4.mono BM AX);exact .Cc p ds its Av.isList (al.length.trans CE.length) (UC al CE)
 |Do ks xs=>cases n<;>cases ok
 |B7 ks xs=>cases n<;>cases ok
 |ins C ns xs=>cases n<;>cases ok
 |Q_ C=>cases n<;>cases ok
 |EF ds=>simp only[At]at a;obtain⟨p,xs,rfl,AX,al⟩:=a;cases r;obtain⟨its,CE,Av,_⟩:=I.tuple (CK.mono BM AX);exact .EF p ds its Av (al.length.trans CE.length) (UC al CE)
theorem bO:∀{xs ys:List D},xs.length≠ys.length->F3 xs ys=false
 |[],[],h=>absurd rfl h
 |[],_::_,_=>by simp only[F3]
 |_::_,[],_=>by simp only[F3]
 |x::xs,y::ys,h=>by simp only[F3];rw[bO (λe=>h (by simp[e])),hV]
def MA(xs ys:List D)(j:Nat):Bool:=match xs[j]?,ys[j]? with
 |some x,some y=>Cv x y
 |_,_=>true
def sC(f:Nat->Bool)(n:Nat):(EY (n+1)).all f=(f 0&&(EY n).all λj=>f (j+1)):=by rw[List.range_succ_eq_map,R6,Xy];rfl
theorem bP:∀{xs ys:List D},xs.length=ys.length->(EY xs.length).all (MA xs ys)=F3 xs ys
 |[],[],_=>by simp[F3]
 |[],_::_,h=>by simp at h
 |_::_,[],h=>by simp at h
 |x::xs,y::ys,h=>by
  rw[Hk,sC];have e:(λj=>MA (x::xs) (y::ys) (j+1))=MA xs ys:=by
   funext j
   simp[MA]
  rw[e,bP (by simpa using h)];simp only[F3];rfl
def in1_units(A:CG):A.in1.units=A.units+1:=rfl
def pi{A:CG}{P:D->A4->Prop}{d1 Cq:D}{u v:A4}(h1:LI s P d1 u)(h2:LI s P Cq v)(Cw:HP d1=true)(DA:HP Cq=true) :
  V9 A s u v (Cv d1 Cq)/\Y5 A s u v (Cv d1 Cq)/\Y6 A s u v (!Cv d1 Cq):=by
 cases h1<;>cases h2<;>first
  |(cases Cw;done)
  |(cases DA;done)
  |(simp only[Cv,PU,hU];refine⟨?_,?_,?_⟩<;>with_reducible first|exact .same _|exact .none_none|exact .none_bool _|exact .none_int _ _|exact .none_str _ _|exact .bool_none _|exact .bool_bool _ _|exact .bool_int _ _ _|exact .bool_str _ _ _|exact .int_none _ _|exact .int_bool _ _ _|exact .int_int _ _ _ _|exact .int_str _ _ _ _|exact .str_none _ _|exact .str_bool _ _ _|exact .str_int _ _ _ _|exact .str_str _ _ _ _)
def n4{A:CG}{P:D->A4->Prop}{d1 Cq:D}{u v:A4}(BP:A.units<De)(h1:LI s P d1 u)(h2:LI s P Cq v)(o:HP d1=true/\HP Cq=false\/HP d1=false/\HP Cq=true) :
  V9 A s u v (Cv d1 Cq)/\Y5 A s u v (Cv d1 Cq)/\Y6 A s u v (!Cv d1 Cq):=by
 cases h1<;>cases h2<;>first
  |(rcases o with⟨DS,Db⟩|⟨DS,Db⟩<;>first|(cases DS;done)|(cases Db;done))
  |(simp only[Cv,hU];refine⟨?_,?_,?_⟩<;>with_reducible first|exact .none_tuple ‹_› BP|exact .none_list ‹_› BP|exact .bool_tuple _ ‹_› BP|exact .bool_list _ ‹_› BP|exact .int_tuple _ _ ‹_› BP|exact .int_list _ _ ‹_› BP|exact .str_tuple _ _ ‹_› BP|exact .str_list _ _ ‹_› BP|exact .tuple_none ‹_› BP|exact .list_none ‹_› BP|exact .tuple_bool _ ‹_› BP|exact .list_bool _ ‹_› BP|exact .tuple_int _ _ ‹_› BP|exact .list_int _ _ ‹_› BP|exact .tuple_str _ _ ‹_› BP|exact .list_str _ _ ‹_› BP)
theorem jk:∀{xs ys:List D},xs.length=ys.length->(∀(i:Nat) x y,xs[i]?=some x->ys[i]?=some y->Cv x y=true)->F3 xs ys=true
 |[],[],_,_=>by simp only[F3]
 |[],_::_,h,_=>by simp at h
 |_::_,[],h,_=>by simp at h
 |x::xs,y::ys,h,k=>by simp only[F3];rw[k 0 x y rfl rfl,jk (by simpa using h) λi a b A9 AG=>k (i+1) a b (by simpa using A9) (by simpa using AG)];rfl
def pk{K:AY}{d1 Cq:D}{x:V}(Cw:HP d1=true)(a1:At K G d1 x)(a2:At K G Cq x):Cv d1 Cq=true:=by
 cases d1 with
 |non=>simp only[At]at a1;subst a1;cases Cq<;>simp only[At]at a2<;>first|(simp only[Cv];done)|(cases a2;done)|(obtain⟨a,xs,e,_⟩:=a2;cases e;done)|(obtain⟨a,Aj,xs,e,_⟩:=a2;cases e;done)
 |Aa b=>simp only[At]at a1;subst a1;cases Cq<;>simp only[At]at a2<;>first|(cases a2;simp only[Cv,beq_self_eq_true];done)|(cases a2;done)|(obtain⟨a,xs,e,_⟩:=a2;cases e;done)|(obtain⟨a,Aj,xs,e,_⟩:=a2;cases e;done)
 |int b=>simp only[At]at a1;subst a1;cases Cq<;>simp only[At]at a2<;>first|(cases a2;simp only[Cv,beq_self_eq_true];done)|(cases a2;done)|(obtain⟨a,xs,e,_⟩:=a2;cases e;done)|(obtain⟨a,Aj,xs,e,_⟩:=a2;cases e;done)
 |str b=>simp only[At]at a1;subst a1;cases Cq<;>simp only[At]at a2<;>first|(cases a2;simp only[Cv,beq_self_eq_true];done)|(cases a2;done)|(obtain⟨a,xs,e,_⟩:=a2;cases e;done)|(obtain⟨a,Aj,xs,e,_⟩:=a2;cases e;done)
 |_=>cases Cw
def jj{d1 Cq:D}(DA:HP Cq=true)(Cw:HP d1=false){K:AY}{x:V}(a1:At K G d1 x)(a2:At K G Cq x):False:=by
 cases Cq<;>first
  |(cases DA;done)
  |(simp only[At]at a2;subst a2
    cases d1<;>first
     |(cases Cw;done)
     |(simp only[At]at a1;obtain⟨a,xs,e,_⟩:=a1;cases e;done)
     |(simp only[At]at a1;obtain⟨a,Aj,xs,e,_⟩:=a1;cases e;done))
inductive Hp(K:AY)(G:AA):D->A7->Bool->List D->List V->Prop where
 |tup {a ds xs} (h:CK K G a xs) (q:A_ K G ds xs):Hp K G (.tup ds) a true ds xs
 |EF {a ds xs} (h:CK K G a xs) (q:A_ K G ds xs):Hp K G (.EF ds) a true ds xs
 |lst {a ds xs} (h:G a=some (.lst xs)) (q:A_ K G ds xs):Hp K G (.lst ds) a false ds xs
 |Cc {a ds xs} (h:C4 K G a xs) (q:A_ K G ds xs):Hp K G (.Cc ds) a false ds xs
def US{K:AY}{n:Nat}{d:D}{x:V}(o:okN n d=true)(ns:HP d=false)(a:At K G d x):∃p b ds xs,x=.ref p/\Hp K G d p b ds xs/\∃m,n=m+1/\ds.all (okN m)=true:=by
 cases d with
 |tup ds=>
  simp only[At]at a;obtain⟨p,xs,e,h,q⟩:=a;cases n with
  |zero=>cases o
  |succ m=>exact⟨p,_,ds,xs,e,.tup (CK.of h) q,m,rfl,o⟩
 |lst ds=>
  simp only[At]at a;obtain⟨p,xs,e,h,q⟩:=a;cases n with
  |zero=>cases o
  |succ m=>exact⟨p,_,ds,xs,e,.lst h q,m,rfl,o⟩
 |Cc ds=>
  simp only[At]at a;obtain⟨p,xs,e,h,q⟩:=a;cases n with
  |zero=>cases o
  |succ m=>exact⟨p,_,ds,xs,e,.Cc h q,m,rfl,o⟩
 |Do _ _=>cases n<;>cases o
 |B7 _ _=>cases n<;>cases o
 |ins _ _ _=>cases n<;>cases o
 |Q_ _=>cases n<;>cases o
 |EF ds=>
  simp only[At]at a;obtain⟨p,xs,e,h,q⟩:=a;cases n with
  |zero=>cases o
  |succ m=>exact⟨p,_,ds,xs,e,.EF h q,m,rfl,o⟩
 |_=>cases ns
def Hp.Ix{K:AY}{d:D}{p:A7}{b:Bool}{ds:List D}{xs:List V}(h:Hp K G d p b ds xs):A_ K G ds xs:=by cases h<;>assumption
def Hp.eq{K:AY}{d1 Cq:D}{Eh Cu:A7}{H9 H4:Bool}{Gs HD:List D}{Qt Oy:List V}(h1:Hp K G d1 Eh H9 Gs Qt)(h2:Hp K G Cq Cu H4 HD Oy):Cv d1 Cq=(H9==H4&&F3 Gs HD):=by cases h1<;>cases h2<;>simp[Cv]
theorem Hp.heap(I:Inv X pins σ H s)(BM:Sub G H){d:D}{p:A7}{b:Bool}{ds:List D}{xs:List V}(h:Hp X.K G d p b ds xs) :
  ∃its:List A4,Vals xs its/\(b=true->s.heap.IsTuple p its.toArray)/\(b=false->s.heap.IsList p its.toArray):=by
 cases h with
 |tup h q=>obtain⟨its,CE,Av,_⟩:=I.tuple (CK.mono BM h);exact⟨its,CE,λ_=>Av,λz=>by cases z⟩
 |EF h q=>obtain⟨its,CE,Av,_⟩:=I.tuple (CK.mono BM h);exact⟨its,CE,λ_=>Av,λz=>by cases z⟩
 |lst h q=>obtain⟨its,CE,Av,_⟩:=I.list (C4.of (BM _ _ h));exact⟨its,CE,(λz=>by cases z),λ_=>Av.isList⟩
 |Cc h q=>obtain⟨its,CE,Av,_⟩:=I.list (C4.mono BM h);exact⟨its,CE,(λz=>by cases z),λ_=>Av.isList⟩
def Hp.same(I:Inv X pins σ H s)(BM:Sub G H){d1 Cq:D}{p:A7}{H9 H4:Bool}{Gs HD:List D}{Qt Oy:List V}(h1:Hp X.K G d1 p H9 Gs Qt)(h2:Hp X.K G Cq p H4 HD Oy):H9=H4/\Qt=Oy:=by
 obtain⟨Qk,AK,t1,G6⟩:=h1.heap I BM;obtain⟨IC,B4,D_,Dl⟩:=h2.heap I BM;cases H9 with
 |true=>
  cases H4 with
  |false=>exact absurd rfl (rg (Dl rfl) (t1 rfl))
  |true=>
   refine⟨rfl,?_⟩;cases h1<;>cases h2<;>
   exact I.gK (CK.mono BM (by assumption)) (CK.mono BM (by assumption))
 |false=>
  cases H4 with
  |true=>exact absurd rfl (rg (G6 rfl) (D_ rfl))
  |false=>
   refine⟨rfl,?_⟩;have g1:C4 X.K H p Qt:=by
    cases h1 with
    |lst h q=>exact C4.of (BM _ _ h)
    |Cc h q=>exact C4.mono BM h
   have g2:C4 X.K H p Oy:=by
    cases h2 with
    |lst h q=>exact C4.of (BM _ _ h)
    |Cc h q=>exact C4.mono BM h
   exact I.e8 g1 g2
def T9{f:D->Bool}{ds:List D}(h:ds.all f=true){i:Nat}{d:D}(e:ds[i]?=some d):f d=true:=List.all_eq_true.mp h d (JF e)
def sI(I:Inv X pins σ H s)(BM:Sub G H):∀(n:Nat){d1 Cq:D}{x:V},okN n d1=true->okN n Cq=true->At X.K G d1 x->At X.K G Cq x->Cv d1 Cq=true:=by
 intro n;induction n with
 |zero=>intro d1 Cq x Cw DA a1 a2;exact pk (by cases d1<;>first|rfl|(cases Cw)) a1 a2
 |succ n C6=>
  intro d1 Cq x Cw DA a1 a2;cases s1:HP d1 with
  |true=>exact pk s1 a1 a2
  |false=>
   cases s2:HP Cq with
   |true=>exact(jj s2 s1 a1 a2).elim
   |false=>
    obtain⟨Eh,H9,Gs,Qt,A9,An,Hu,kN,CP⟩:=US Cw s1 a1;obtain⟨Cu,H4,HD,Oy,AG,BG,H_,kO,Br⟩:=US DA s2 a2;subst A9;cases AG;have:n=Hu:=by lia
    subst this;have:n=H_:=by lia
    subst this;obtain⟨Bi,ex⟩:=An.same I BM BG;subst Bi;subst ex;rw[An.eq BG,beq_self_eq_true,Xv];refine jk (An.Ix.length.trans BG.Ix.length.symm) λi a b Aw Bi=>?_;obtain⟨v,ev,B8⟩:=An.Ix.get Aw;obtain⟨Nq,MS,bv⟩:=BG.Ix.get Bi;rw[ev]at MS;cases MS;exact C6 (T9 CP Aw) (T9 Br Bi) B8 bv
def bx(I:Inv X pins σ H s)(BM:Sub G H):∀(n:Nat){d1 Cq:D}{u v:A4}{A:CG},okN n d1=true->okN n Cq=true->NG X.K G d1 u->NG X.K G Cq v->A.units+n<De->
  V9 A s u v (Cv d1 Cq)/\Y5 A s u v (Cv d1 Cq)/\Y6 A s u v (!Cv d1 Cq):=by
 intro n;induction n with
 |zero=>
  intro d1 Cq u v A Cw DA a1 a2 BP;refine pi (Q3 I BM Cw a1) (Q3 I BM DA a2) ?_ ?_
  .cases d1<;>first|rfl|(cases Cw)
  .cases Cq<;>first|rfl|(cases DA)
 |succ n C6=>
  intro d1 Cq u v A Cw DA a1 a2 BP;have Lm:A.units<De:=by lia
  cases s1:HP d1 with
  |true=>
   cases s2:HP Cq with
   |true=>exact pi (Q3 I BM Cw a1) (Q3 I BM DA a2) s1 s2
   |false=>exact n4 Lm (Q3 I BM Cw a1) (Q3 I BM DA a2) (.inl ⟨s1,s2⟩)
  |false=>
   cases s2:HP Cq with
   |true=>exact n4 Lm (Q3 I BM Cw a1) (Q3 I BM DA a2) (.inr ⟨s1,s2⟩)
   |false=>
    obtain⟨Ey,HT,acO⟩:=a1;obtain⟨Em,at2,acP⟩:=a2;obtain⟨Eh,H9,Gs,Qt,A9,An,Hu,kN,CP⟩:=US Cw s1 HT;obtain⟨Cu,H4,HD,Oy,AG,BG,H_,kO,Br⟩:=US DA s2 at2;subst A9;subst AG;cases acO;cases acP;have:n=Hu:=by lia
    subst this;have:n=H_:=by lia
    subst this;obtain⟨Qk,AK,t1,G6⟩:=An.heap I BM;obtain⟨IC,B4,D_,Dl⟩:=BG.heap I BM;have TX:Gs.length=Qk.length:=An.Ix.length.trans AK.length;have W2:HD.length=IC.length:=BG.Ix.length.trans B4.length;have item:∀j(h1:j<Qk.toArray.size)(h2:j<IC.toArray.size),V9 A.in1 s Qk.toArray[j] IC.toArray[j] (MA Gs HD j):=λj h1 h2=>by
     have OE:j<Gs.length:=by rw[TX];simpa using h1
     have Vv:j<HD.length:=by rw[W2];simpa using h2
     have g1:NG X.K G Gs[j] Qk.toArray[j]:=UC An.Ix AK j _ _ (E8 OE) (by simp at h1;simp[h1]);have g2:NG X.K G HD[j] IC.toArray[j]:=UC BG.Ix B4 j _ _ (E8 Vv) (by simp at h2;simp[h2]);have:=(C6 (A:=A.in1) (T9 CP (E8 OE)) (T9 Br (E8 Vv)) g1 g2 (by rw[in1_units];lia)).1;unfold MA;rw[E8 OE,E8 Vv];exact this
    have whole:Y5 A s (.ref Eh) (.ref Cu) (Cv d1 Cq)/\Y6 A s (.ref Eh) (.ref Cu) (!Cv d1 Cq):=by
     rw[An.eq BG];cases H9 with
     |true=>
      cases H4 with
      |false=>exact⟨SeqAt.RcAt.tuple_list (t1 rfl) (Dl rfl) Lm,SeqAt.RcNeAt.tuple_list (t1 rfl) (Dl rfl) Lm⟩
      |true=>
       have BX:=SeqAt.RcAt.tuples (e:=MA Gs HD) (t1 rfl) (D_ rfl) Lm item;have Ev:=SeqAt.RcNeAt.tuples (e:=MA Gs HD) (t1 rfl) (D_ rfl) Lm item;have eq:((EY (min Qk.toArray.size IC.toArray.size)).all (MA Gs HD)&&Qk.toArray.size==IC.toArray.size)=(true==true&&F3 Gs HD):=by
        rw[Dx,Dx,<-TX,<-W2,beq_self_eq_true,Xv];by_cases AQ:Gs.length=HD.length
        .rw[<-AQ,Nat.min_self,bP AQ,beq_self_eq_true,Uy]
        .rw[bO AQ];have:(Gs.length==HD.length)=false:=by simpa using AQ
         rw[this,hV]
       rw[eq]at BX;refine⟨BX,?_⟩
       first
        |(rw[eq]at Ev;exact Ev)
        |exact Ev
     |false=>
      cases H4 with
      |true=>exact⟨SeqAt.RcAt.list_tuple (G6 rfl) (D_ rfl) Lm,SeqAt.RcNeAt.list_tuple (G6 rfl) (D_ rfl) Lm⟩
      |false=>
       rw[beq_self_eq_true,Xv];by_cases AQ:Gs.length=HD.length
       .have BX:=SeqAt.RcAt.lists (e:=MA Gs HD) (G6 rfl) (Dl rfl) (by rw[Dx,Dx,<-TX,<-W2];exact AQ) Lm item;have Ev:=SeqAt.RcNeAt.lists (e:=MA Gs HD) (G6 rfl) (Dl rfl) (by rw[Dx,Dx,<-TX,<-W2];exact AQ) Lm item;rw[Dx,<-TX,bP AQ]at BX Ev;exact⟨BX,Ev⟩
       .have Ar:(Qk.toArray.size !=IC.toArray.size)=true:=by
          rw[Dx,Dx,<-TX,<-W2];simpa using AQ
        rw[bO AQ];exact⟨SeqAt.RcAt.lists_lengths (G6 rfl) (Dl rfl) Ar Lm,SeqAt.RcNeAt.lists_lengths (G6 rfl) (Dl rfl) Ar Lm⟩
    refine⟨?_,whole⟩;by_cases Ad:Eh=Cu
    .subst Ad;rw[sI I BM (n+1) Cw DA HT at2];exact SeqAt.EqAt.same _
    .exact SeqAt.EqAt.of_refs Ad whole.1
end
def notStar:AT->Bool
 |.Starred .. =>false
 |_=>true
def adW(e:AT)(A6:List AT)(env:Env)(h:notStar e=true):BF (e::A6) env=(false,BK e env)::BF A6 env:=by cases e<;>first|rfl|(cases h)
def QQ:AT->Bool
 |.ListComp .. =>false
 |.SetComp .. =>false
 |.DictComp .. =>false
 |_=>true
def Nm(e:AT)(t:Option AT)(l:Nat)(env:Env)(h:QQ e=true):PW e t l env=pure false:=by cases e<;>first|rfl|(cases h)
def yi:AT->Bool
 |.Slice .. =>false
 |_=>true
def Az{b:AT}(h:yi b=true:=by rfl):hz b:=λo i=>by cases b<;>first|rfl|(cases h)
section
variable{X:Af}{F:BA}{e a b c:AT}{A6:List AT}{pos:Pos}
def Ay.imp{t t':TE}(h:Ay X e t)(i:Ep t' t):Ay X e t':=λpins s σ H Q I hw=>h pins s σ H Q I (i σ H Q hw)
def Fm.imp{t t':TT}(h:Fm X e t)(i:Pq t' t):Fm X e t':=λpins s σ H Q I hw=>h pins s σ H Q I (i σ H Q hw)
def Jp.imp{t t':TT}(h:Jp X e t)(i:Pq t' t):Jp X e t':=λSF pins s σ H Q I hw=>h SF pins s σ H Q I (i σ H Q hw)
def Gf.imp{t t':FC}(h:Gf X A6 t)(i:iP t' t):Gf X A6 t':=λp pins s σ H Q I hw=>h p pins s σ H Q I (i σ H Q hw)
def DX.imp{st:BW}{t t':F_}(h:DX X st t)(i:IN t' t):DX X st t':=λpins s σ H Ca I hw=>h pins s σ H Ca I (i Ca σ H hw)
def Gg.imp{st:List BW}{t t':F_}(h:Gg X st t)(i:IN t' t):Gg X st t':=λpins s σ H Ca I hw=>h pins s σ H Ca I (i Ca σ H hw)
def GS.imp{Bt:AT}{t t':TI}(h:GS X Bt e t)(i:ON t' t):GS X Bt e t':=λpins s σ H Q I hw=>h pins s σ H Q I (i σ H Q hw)
abbrev Jj(X:Af)(F:BA)(e:AT)(m:Ag):Prop:=Ay X e (Ck F m)
abbrev iW(X:Af)(F:BA)(e:AT)(m:B6):Prop:=Ay X e (IH F m)
abbrev jI(X:Af)(F:BA)(e:AT)(m:CR):Prop:=Fm X e (HQ F m)
abbrev iQ(X:Af)(F:BA)(A6:List AT)(m:B6):Prop:=Gf X A6 (F7 F m)
abbrev sk(X:Af)(F:BA)(st:List BW)(m:Aq):Prop:=Gg X st (GK F m)
abbrev iN(X:Af)(F:BA)(Bt e:AT)(m:B6):Prop:=GS X Bt e (Kk F m)
def ui{x:Str}{v:V}{u:A4}{d:D}(hm:X.mg x=some u)(r:RelV v u)(at':∀G,At F.K G d v)(Ah:EL X x:=by rfl)(hd:(x==("__debug__" :Str))=false:=by decide):Jj X F (.Name x pos) (A5 d):=
 Ay.imp (oe Ah hm r hd) (Vr at')
variable{st:BW}{S8:List BW}
def Px{op:Operator}{r:F1}{f:D->D->R D}{m n:Ag}(AM:E9 X (JK op) r)(hf:Ho F r f)(AB:Jj X F a m)(A0:Jj X F b n):Jj X F (.BinOp a op b pos) (A3 f m n):=Ay.imp (dx AM AB A0) (a0 hf)
def VF{op:Kg}{r:F1}{f:D->D->R D}{m n:Ag}(AM:E9 X (GO op) r)(hf:Ho F r f)(AB:Jj X F a m)(A0:Jj X F b n)(hm:Io op b=false):Jj X F (.Compare a [op] [b] pos) (A3 f m n):=Ay.imp (aaA AM AB A0 hm) (a0 hf)
def Qn{op:Kg}{r:F1}{f:D->D->R D}{m n:Ag}(AM:E9 X (GO op) r)(hf:Ho F r f)(AB:Jj X F a m)(A0:Jj X F b n)(hm:Io op b=false):jI X F (.Compare a [op] [b] pos) (BE (A3 f m n)):=
 Fm.imp (aaq AM AB A0 hm) λσ H Q h=>by obtain⟨G,ρ,r,k⟩:=li (F:=F) (m:=A3 f m n) σ H Q h;exact a0 hf σ H _ ⟨G,ρ,r,k⟩
def uj{op:UnaryOp}{r:V->AA->CT->Prop}{f:D->R D}{m:Ag}(AM:Yw X (unaryOp op) r)(hf:jL F r f)(AB:Jj X F a m):Jj X F (.UnaryOp op a pos) (Cr f m):=Ay.imp (abD AM AB) (xZ hf)
def Ln(f:Int->Int->R D):D->D->R D
 |.int i,.int j=>f i j
 |_,_=>.bad
def X1{g:Int->Int->V}{f:Int->Int->D}(h:∀i j G,At F.K G (f i j) (g i j)):Ho F (Nj g) (Ln λi j=>.ok (f i j)):=by
 intro σ ρ G H x y Aj Gi Q r Bl CU k;unfold Ln at k
 split at k
 .rename_i i j;simp only[At]at Bl CU;exact⟨i,j,Bl,CU,k _ H G r (Bw.refl _ _) (h i j G)⟩
 .exact k.elim
def UJ{C:Int->Int->Prop}[∀i j,Decidable (C i j)]{g:Int->Int->V}{f:Int->Int->D}(h:∀i j G,At F.K G (f i j) (g i j)):Ho F (UM C g) (Ln λi j=>if C i j then .ok (f i j)else .bad):=by
 intro σ ρ G H x y Aj Gi Q r Bl CU k;unfold Ln at k
 split at k
 .rename_i i j;simp only[At]at Bl CU;dsimp only at k
  split at k
  .rename_i AO;exact⟨i,j,Bl,CU,AO,k _ H G r (Bw.refl _ _) (h i j G)⟩
  .exact k.elim
 .exact k.elim
instance(i j:Int):Decidable (YD i j):=by unfold YD;infer_instance
instance(i j:Int):Decidable (YE i j):=by unfold YE;infer_instance
instance(i j:Int):Decidable (TH i j):=by unfold TH;infer_instance
def Ih:=Ln λi j=>.ok (.int (i-j))
def Mf:=Ln λi j=>if TH i j then .ok (.int (i*j))else .bad
def Dr:=Ln λi j=>if YD i j then .ok (.int (i/j))else .bad
def CJ:=Ln λi j=>if 0<j then .ok (.int (i%j))else .bad
def Ng:=Ln λi j=>if YE i j then .ok (.int (i^j.toNat))else .bad
def T_:=Ln λi j=>.ok (.Aa (decide (i<j)))
def TW:=Ln λi j=>.ok (.Aa (decide (i<=j)))
def Od:=Ln λi j=>.ok (.Aa (decide (j<i)))
variable{m n:Ag}
def JW:D->R D
 |.int i=>.ok (.int (-i))
 |_=>.bad
noncomputable def Cj:D->D->R D
 |.int i,.int j=>.ok (.int (i+j))
 |.str x,.str y=>if x.length+y.length<=1000000 then .ok (.str (x++y))else .bad
 |.lst xs,.lst ys=>if xs.length+ys.length<=1000000 then .ok (.lst (xs++ys))else .bad
 |_,_=>.bad
def aaG:Ho F (λx y H Q=>Nj (λi j=>.int (i+j)) x y H Q\/(∃i j,x=.str i/\y=.str j/\i.length+j.length<=CF/\Q (.str (i++j)) H)\/oI x y H Q) Cj:=by
 intro σ ρ G H x y Aj Gi Q r Bl CU k;unfold Cj at k
 split at k
 .rename_i i j;simp only[At]at Bl CU;exact .inl ⟨i,j,Bl,CU,k _ H G r (Bw.refl _ _) (by simp only[At])⟩
 .rename_i i j;simp only[At]at Bl CU
  split at k
  .rename_i AQ;exact .inr (.inl ⟨i,j,Bl,CU,Ff AQ (by decide),k _ H G r (Bw.refl _ _) (by simp only[At])⟩)
  .exact k.elim
 .rename_i ds A6;simp only[At]at Bl CU
  split at k
  .rename_i AQ;obtain⟨p,xs,A9,h1,An⟩:=Bl;obtain⟨Cu,ys,AG,h2,BG⟩:=CU;refine .inr (.inr ⟨p,Cu,xs,ys,A9,AG,r.kp.sub _ _ h1,r.kp.sub _ _ h2,by rw[<-An.length,<-BG.length];exact Ff AQ (by decide),λl AS=>?_⟩);refine k (.ref l) _ _ (r.lay AS) (Bw.lay r.kp.sub AS) ?_;simp only[At];exact⟨l,xs++ys,rfl,E1,(An.append BG).mono (Sub.upd (r.kp.sub.gone AS))⟩
  .exact k.elim
 .exact k.elim
def Bj(b:Bool)(x y:D):R D:=if okN 8 x=true/\okN 8 y=true then .ok (.Aa (if b then Cv x y else !Cv x y))else .bad
def e5(F:BA)(b:Bool):F1:=λx y H Q=>∃G d1 Cq,Sub G H/\At F.K G d1 x/\At F.K G Cq y/\okN 8 d1=true/\okN 8 Cq=true/\Q (.Aa (if b then Cv d1 Cq else !Cv d1 Cq)) H
def oS(Ao:F.K=X.K)(BP:X.A.units+64<De):E9 X (GO .Eq) (e5 F true):=by intro pins s σ H x y v u Q I BQ Bv h;obtain⟨G,d1,Cq,BM,a1,a2,Cw,DA,q⟩:=h;rw[Ao]at a1 a2;exact(bx I BM 8 (A:=X.A) Cw DA ⟨x,a1,BQ⟩ ⟨y,a2,Bv⟩ (by lia)).2.1 X.prog X.w X.xe _ ⟨.Aa _,H,I,rfl,q⟩
def oW(Ao:F.K=X.K)(BP:X.A.units+64<De):E9 X (GO .NotEq) (e5 F false):=by intro pins s σ H x y v u Q I BQ Bv h;obtain⟨G,d1,Cq,BM,a1,a2,Cw,DA,q⟩:=h;rw[Ao]at a1 a2;exact(bx I BM 8 (A:=X.A) Cw DA ⟨x,a1,BQ⟩ ⟨y,a2,Bv⟩ (by lia)).2.2 X.prog X.w X.xe _ ⟨.Aa _,H,I,rfl,q⟩
def am(b:Bool):Ho F (e5 F b) (Bj b):=by
 intro σ ρ G H x y Aj Gi Q r Bl CU k;unfold Bj at k
 split at k
 .rename_i AM;exact⟨G,Aj,Gi,r.kp.sub,Bl,CU,AM.1,AM.2,k _ H G r (Bw.refl _ _) (by simp only[At])⟩
 .exact k.elim
end
section
variable{X:Af}{F:BA}{e a b c:AT}{A6:List AT}{pos:Pos}{m n:Ag}
theorem jl:∀{ds ds':List D},ds.length=ds'.length->(∀(i:Nat) x y,ds[i]?=some x->ds'[i]?=some y->∀z,Cv x z=Cv y z)->∀A6,F3 ds A6=F3 ds' A6
 |[],[],_,_,_=>rfl
 |[],_::_,h,_,_=>by simp at h
 |_::_,[],h,_,_=>by simp at h
 |x::xs,y::ys,h,k,[]=>by simp only[F3]
 |x::xs,y::ys,h,k,e::A6=>by simp only[F3];rw[k 0 x y rfl rfl e,jl (by simpa using h) (λi a b A9 AG=>k (i+1) a b (by simpa using A9) (by simpa using AG)) A6]
def pj{K:AY}{G:AA}{d d':D}{x:V}(o:HP d=true)(a1:At K G d x)(a2:At K G d' x):d=d':=by
 cases d with
 |non=>simp only[At]at a1;subst a1;cases d'<;>simp only[At]at a2<;>first|rfl|(cases a2;done)|(obtain⟨a,xs,e,_⟩:=a2;cases e;done)|(obtain⟨a,Aj,xs,e,_⟩:=a2;cases e;done)
 |Aa b=>simp only[At]at a1;subst a1;cases d'<;>simp only[At]at a2<;>first|(cases a2;rfl)|(cases a2;done)|(obtain⟨a,xs,e,_⟩:=a2;cases e;done)|(obtain⟨a,Aj,xs,e,_⟩:=a2;cases e;done)
 |int b=>simp only[At]at a1;subst a1;cases d'<;>simp only[At]at a2<;>first|(cases a2;rfl)|(cases a2;done)|(obtain⟨a,xs,e,_⟩:=a2;cases e;done)|(obtain⟨a,Aj,xs,e,_⟩:=a2;cases e;done)
 |str b=>simp only[At]at a1;subst a1;cases d'<;>simp only[At]at a2<;>first|(cases a2;rfl)|(cases a2;done)|(obtain⟨a,xs,e,_⟩:=a2;cases e;done)|(obtain⟨a,Aj,xs,e,_⟩:=a2;cases e;done)
 |_=>cases o
def Hp.val{K:AY}{G:AA}{d:D}{p:A7}{b:Bool}{ds:List D}{xs:List V}(h:Hp K G d p b ds xs)(e:D):Cv d e=match e with
  |.tup A6=>b&&F3 ds A6
  |.EF A6=>b&&F3 ds A6
  |.lst A6=>!b&&F3 ds A6
  |.Cc A6=>!b&&F3 ds A6
  |_=>false:=by
 cases h<;>cases e<;>simp[Cv]
section
variable{pins:List (A7×Obj)}{σ :St}{H G:AA}{s:AP}
def sH(I:Inv X pins σ H s)(BM:Sub G H):∀(n:Nat){d d':D}{x:V},okN n d=true->okN n d'=true->At X.K G d x->At X.K G d' x->∀e,Cv d e=Cv d' e:=by
 intro n;induction n with
 |zero=>intro d d' x Cw DA a1 a2 e;rw[pj (by cases d<;>first|rfl|(cases Cw)) a1 a2]
 |succ n C6=>
  intro d d' x Cw DA a1 a2 e;cases s1:HP d with
  |true=>rw[pj s1 a1 a2]
  |false=>
   cases s2:HP d' with
   |true=>exact(jj s2 s1 a1 a2).elim
   |false=>
    obtain⟨Eh,H9,Gs,Qt,A9,An,Hu,kN,CP⟩:=US Cw s1 a1;obtain⟨Cu,H4,HD,Oy,AG,BG,H_,kO,Br⟩:=US DA s2 a2;subst A9;cases AG;have:n=Hu:=by lia
    subst this;have:n=H_:=by lia
    subst this;obtain⟨Bi,ex⟩:=An.same I BM BG;subst Bi;subst ex;have el:∀A6,F3 Gs A6=F3 HD A6:=jl (An.Ix.length.trans BG.Ix.length.symm) λi a b Aw Bi z=>by obtain⟨v,ev,B8⟩:=An.Ix.get Aw;obtain⟨Nq,MS,bv⟩:=BG.Ix.get Bi;rw[ev]at MS;cases MS;exact C6 (T9 CP Aw) (T9 Br Bi) B8 bv z
    rw[An.val,BG.val];cases e<;>first|rfl|(simp only[el])
open Classical in
noncomputable def Pf(K:AY)(G:AA)(d:D)(u:A4):Bool:=if h:∃d',okN 7 d'=true/\NG K G d' u then Cv (gx h) d else false
def jT(I:Inv X pins σ H s)(BM:Sub G H){d d1:D}{u:A4}(o:okN 7 d=true)(h:NG X.K G d u):Pf X.K G d1 u=Cv d d1:=by have AH:∃d',okN 7 d'=true/\NG X.K G d' u:=⟨d,o,h⟩;unfold Pf;rw[dif_pos AH];obtain⟨Ce,h'⟩:=XS AH;obtain⟨x,a,r⟩:=h;obtain⟨UZ,LL,BO⟩:=h';have:UZ=x:=BO.inj r;subst this;exact sH I BM 7 Ce o LL a d1
theorem iA(I:Inv X pins σ H s)(BM:Sub G H){d1:D}:∀{ds:List D}{xs:List V}{its:List A4},A_ X.K G ds xs->Vals xs its->ds.all (okN 7)=true->its.any (Pf X.K G d1)=ds.any λy=>Cv y d1
 |[],_,_,q,r,_=>by simp only[A_]at q;subst q;cases r;rfl
 |d::ds,_,_,q,r,o=>by
  simp only[A_]at q;obtain⟨v,Kl,rfl,B8,MO⟩:=q;cases r with
  |cons AK B4=>rw[R6,Ga]at o;rw[Nx,Nx,jT I BM o.1 ⟨v,B8,AK⟩,iA I BM MO B4 o.2]
theorem eJ(I:Inv X pins σ H s)(BM:Sub G H){d1:D}{x:V}{v:A4}{A:CG}(BP:A.units+8<De)(Cw:okN 7 d1=true)(a1:At X.K G d1 x)(BQ:RelV x v):∀{ds:List D}{xs:List V}{its:List A4},A_ X.K G ds xs->Vals xs its->ds.all (okN 7)=true->
  ∀u∈its,V9 A s u v (Pf X.K G d1 u)
 |[],_,_,q,r,_=>by simp only[A_]at q;subst q;cases r;exact λu BP=>nomatch BP
 |d::ds,_,_,q,r,o=>by
  simp only[A_]at q;obtain⟨w,wr,rfl,B8,MO⟩:=q;cases r with
  |cons AK B4=>
   rw[R6,Ga]at o;intro FV hm;rcases List.mem_cons.mp hm with e|hm
   .subst e;rw[jT I BM o.1 ⟨w,B8,AK⟩];exact(bx I BM 7 (A:=A) o.1 Cw ⟨w,B8,AK⟩ ⟨x,a1,BQ⟩ (by lia)).1
   .exact eJ I BM BP Cw a1 BQ MO B4 o.2 FV hm
end
def Oo:D->Option (List D)
 |.tup ys=>some ys
 |.EF ys=>some ys
 |.lst ys=>some ys
 |.Cc ys=>some ys
 |_=>none
def inD(b:Bool)(x y:D):R D:=match Oo y with
 |some ys=>if okN 7 x=true/\ys.all (okN 7)=true then .ok (.Aa (if b then ys.any (λy=>Cv y x)else !ys.any λy=>Cv y x))else .bad
 |none=>.bad
noncomputable def e6(F:BA)(b:Bool):F1:=λx y H Q=>∃G d1 Cq p ds xs k,Sub G H/\At F.K G d1 x/\y=.ref p/\Hp F.K G Cq p k ds xs/\okN 7 d1=true/\ds.all (okN 7)=true/\Q (.Aa (if b then ds.any (λy=>Cv y d1)else !ds.any λy=>Cv y d1)) H
def oU(Ao:F.K=X.K)(BP:X.A.units+64<De):E9 X (GO .In) (e6 F true):=by
 intro pins s σ H x y v u Q I BQ Bv h;obtain⟨G,d1,Cq,p,ds,xs,k,BM,a1,rfl,GJ,Cw,DA,q⟩:=h;rw[Ao]at a1 GJ;cases Bv;obtain⟨its,AK,t1,G6⟩:=GJ.heap I BM;have q:Q (.Aa (ds.any λy=>Cv y d1)) H:=q;rw[<-iA I BM GJ.Ix AK DA]at q;have hm:=eJ I BM (A:=X.A.in1) (d1:=d1) (by rw[in1_units];lia) Cw a1 BQ GJ.Ix AK DA;cases k with
 |true=>exact SeqAt.in_tupleAt (Pf X.K G d1) (t1 rfl) (λw hw=>hm w (by simpa using hw)) ⟨.Aa _,H,I,rfl,by simpa using q⟩
 |false=>exact SeqAt.in_listAt (Pf X.K G d1) (G6 rfl) (λw hw=>hm w (by simpa using hw)) ⟨.Aa _,H,I,rfl,by simpa using q⟩
def zo(Ao:F.K=X.K)(BP:X.A.units+64<De):E9 X (GO .NotIn) (e6 F false):=by
 intro pins s σ H x y v u Q I BQ Bv h;obtain⟨G,d1,Cq,p,ds,xs,k,BM,a1,rfl,GJ,Cw,DA,q⟩:=h;rw[Ao]at a1 GJ;cases Bv;obtain⟨its,AK,t1,G6⟩:=GJ.heap I BM;have q:Q (.Aa (!ds.any λy=>Cv y d1)) H:=q;rw[<-iA I BM GJ.Ix AK DA]at q;have hm:=eJ I BM (A:=X.A.in1) (d1:=d1) (by rw[in1_units];lia) Cw a1 BQ GJ.Ix AK DA;cases k with
 |true=>exact SeqAt.notIn_tupleAt (Pf X.K G d1) (t1 rfl) (λw hw=>hm w (by simpa using hw)) ⟨.Aa _,H,I,rfl,by simpa using q⟩
 |false=>exact SeqAt.notIn_listAt (Pf X.K G d1) (G6 rfl) (λw hw=>hm w (by simpa using hw)) ⟨.Aa _,H,I,rfl,by simpa using q⟩
def adN{K:AY}{G:AA}{d:D}{x:V}{ds:List D}(e:Oo d=some ds)(a:At K G d x):∃p xs k,x=.ref p/\Hp K G d p k ds xs:=by
 cases d<;>first
  |(cases e;done)
  |(cases e
    simp only[At]at a;obtain⟨p,xs,e,h,q⟩:=a
    first
     |exact⟨p,xs,_,e,.tup (CK.of h) q⟩
     |exact⟨p,xs,_,e,.EF h q⟩
     |exact⟨p,xs,_,e,.lst h q⟩
     |exact⟨p,xs,_,e,.Cc h q⟩)
def dk(b:Bool):Ho F (e6 F b) (inD b):=by
 intro σ ρ G H x y Aj Gi Q r Bl CU k;unfold inD at k;cases e:Oo Gi with
 |none=>rw[e]at k;cases k
 |some ys=>
  rw[e]at k;dsimp only at k
  split at k
  .rename_i AM;obtain⟨p,xs,kk,Cz,GJ⟩:=adN e CU;exact⟨G,Aj,Gi,p,ys,xs,kk,r.kp.sub,Bl,Cz,GJ,AM.1,AM.2,k _ H G r (Bw.refl _ _) (by simp only[At])⟩
  .exact k.elim
def K1:D->Bool
 |.non=>true
 |_=>false
def Fs(b:Bool):D->D->R D
 |x,.non=>.ok (.Aa (if b then K1 x else !K1 x))
 |_,_=>.bad
def cy{K:AY}{G:AA}{d:D}{x:V}(a:At K G d x):K1 d=decide (x=.non):=by
 cases d<;>simp only[At]at a<;>first
  |(subst a;simp[K1];done)
  |(obtain⟨p,xs,e,_⟩:=a;subst e;simp[K1];done)
  |(obtain⟨p,Aj,xs,e,_⟩:=a;subst e;simp[K1];done)
def QA(f g:D->D->R D)(a b c:Ag):Ag:=λρ=>(a ρ).bind λx=>(b ρ).bind λy=>(f x y).bind λz=>(NO z).bind λk=>if k=true then(c ρ).bind λw=>g y w else .ok (.Aa false)
def ll{r BO:F1}{f g:D->D->R D}{l:Ag}(hf:Ho F r f)(Ah:Ho F BO g):Ep (Ck F (QA f g m n l)) (g9 r BO (Ck F m) (Ck F n) (Ck F l)):=by
 rintro σ H Q ⟨G,ρ,Se,h⟩;unfold QA at h;refine⟨G,ρ,Se,?_⟩;refine rb h λAj Aw h x H1 Al AK s1 Bl=>?_;refine⟨Al,ρ,AK,?_⟩;refine rb h λGi Bi h y Ax Ci B4 s2 CU=>?_;refine hf σ ρ Ci Ax x y Aj Gi _ B4 (Bl.mono s2.g) CU ?_;refine rb h λub Cs h z Cp Ge DV s3 Pg=>?_;cases ub with
 |Aa k=>
  simp only[At]at Pg;refine⟨k,Pg,?_⟩;have h:JN F G H σ ρ Q (if k=true then(l ρ).bind λw=>g Gi w else .ok (.Aa false)):=h;cases k with
  |false=>rw[if_neg GC]at h |-;exact h _ Cp Ge DV (s1.trans (s2.trans s3)) (by simp only[At])
  |true=>rw[if_pos rfl]at h |-;refine⟨Ge,ρ,DV,?_⟩;refine rb h λua ec h w Hg VI PE s4 OT=>?_;exact Ah σ ρ VI Hg y w Gi ua Q PE ((CU.mono s3.g).mono s4.g) OT (h.mono (s1.trans (s2.trans (s3.trans s4))))
 |_=>cases h
def ao:Ho F (Nj λi j=>.Aa (decide (i<=j))) TW:=X1 λ_ _ _=>by simp only[At]
end
section
variable{X:Af}{F:BA}{e a b c:AT}{A6:List AT}{pos p:Pos}{m n:Ag}{ma:B6}
def Bs(f:List D->R D)(m:B6):Ag:=λρ=>(m ρ).bind f
def OK(F:BA)(r:List V->AA->CT->Prop)(f:List D->R D):Prop:=∀ σ ρ G H xs ds Q,Rel F G H σ ρ->A_ F.K G ds xs->JN F G H σ ρ Q (f ds)->r xs H Q
def lj{r:List V->AA->CT->Prop}{f:List D->R D}(hf:OK F r f):Ep (Ck F (Bs f ma)) (aa r (F7 F ma)):=by rintro σ H Q ⟨G,ρ,Se,h⟩;unfold Bs at h;refine⟨G,ρ,Se,?_⟩;refine rb h λds Aw h vs H1 Al AK s1 a=>?_;exact hf σ ρ Al H1 vs ds Q AK a (h.mono s1)
def bl{x:Str}{id:String}{r:List V->AA->CT->Prop}{f:List D->R D}(AO:I3 X (.builtin id) r)(hf:OK F r f)(hm:X.mg x=none)(BR:LU x=some (.builtin id))(AB:iQ X F (e::A6) ma)(Ah:EL X x:=by rfl)(AS:x≠"__name__":=by decide)(HJ:(x==("__debug__" :Str))=false:=by decide)(he:BF (e::A6) X.env=(false,BK e X.env)::BF A6 X.env:=by rfl)(Dt:(Cy pos (BF A6 X.env)).any (·.1)=false:=by rfl):Jj X F (.Call (.Name x p) (e::A6) [] pos) (Bs f ma):=
 Ay.imp (dv AO Ah hm BR AB AS HJ he Dt) (lj hf)
def bm{x:Str}{T:String}{r:List V->AA->CT->Prop}{f:List D->R D}(AO:I3 X (.type T) r)(hf:OK F r f)(hm:X.mg x=none)(BR:LU x=some (.type T))(AB:iQ X F (e::A6) ma)(Ah:EL X x:=by rfl)(AS:x≠"__name__":=by decide)(HJ:(x==("__debug__" :Str))=false:=by decide)(he:BF (e::A6) X.env=(false,BK e X.env)::BF A6 X.env:=by rfl)(Dt:(Cy pos (BF A6 X.env)).any (·.1)=false:=by rfl):Jj X F (.Call (.Name x p) (e::A6) [] pos) (Bs f ma):=
 Ay.imp (oa AO Ah hm BR AB AS HJ he Dt) (lj hf)
noncomputable def CO:List D->R D
 |[.str x]=>if x.length<=1000000 then .ok (.int x.length)else .bad
 |[.lst xs]=>.ok (.int xs.length)
 |[.Cc xs]=>.ok (.int xs.length)
 |[.tup xs]=>.ok (.int xs.length)
 |[.EF xs]=>.ok (.int xs.length)
 |_=>.bad
def A_.one{K:AY}{G:AA}{d:D}{vs:List V}(a:A_ K G [d] vs):∃v,vs=[v]/\At K G d v:=by simp only[A_]at a;obtain⟨v,r,rfl,h,rfl⟩:=a;exact⟨v,rfl,h⟩
def A_.two{K:AY}{G:AA}{d e:D}{vs:List V}(a:A_ K G [d,e] vs):∃v w,vs=[v,w]/\At K G d v/\At K G e w:=by simp only[A_]at a;obtain⟨v,r,rfl,h,w,BO,rfl,h',rfl⟩:=a;exact⟨v,w,rfl,h,h'⟩
def aaL(Ao:F.K=X.K):OK F (λxs H Q=>∃x n,xs=[x]/\jC X.K x H n/\Q (.int n) H) CO:=by
 intro σ ρ G H xs ds Q r al k;unfold CO at k
 split at k
 .rename_i x;obtain⟨v,rfl,B8⟩:=al.one;simp only[At]at B8;subst B8
  split at k
  .rename_i AQ;exact⟨_,x.length,rfl,⟨Ff AQ (by decide),rfl⟩,k _ H G r (Bw.refl _ _) (by simp only[At])⟩
  .exact k.elim
 .rename_i ys;obtain⟨v,rfl,B8⟩:=al.one;simp only[At]at B8;obtain⟨q,xs,rfl,h,al⟩:=B8;rw[al.length]at k;exact⟨_,xs.length,rfl,.inl ⟨xs,C4.of (r.kp.sub _ _ h),rfl⟩,k _ H G r (Bw.refl _ _) (by simp only[At])⟩
 .rename_i ys;obtain⟨v,rfl,B8⟩:=al.one;simp only[At]at B8;obtain⟨q,xs,rfl,h,al⟩:=B8;rw[al.length]at k;rw[Ao]at h;exact⟨_,xs.length,rfl,.inl ⟨xs,C4.mono r.kp.sub h,rfl⟩,k _ H G r (Bw.refl _ _) (by simp only[At])⟩
 .rename_i ys;obtain⟨v,rfl,B8⟩:=al.one;simp only[At]at B8;obtain⟨q,xs,rfl,h,al⟩:=B8;rw[al.length]at k;exact⟨_,xs.length,rfl,.inr ⟨xs,CK.of (r.kp.sub _ _ h),rfl⟩,k _ H G r (Bw.refl _ _) (by simp only[At])⟩
 .rename_i ys;obtain⟨v,rfl,B8⟩:=al.one;simp only[At]at B8;obtain⟨q,xs,rfl,h,al⟩:=B8;rw[al.length]at k;rw[Ao]at h;exact⟨_,xs.length,rfl,.inr ⟨xs,CK.mono r.kp.sub h,rfl⟩,k _ H G r (Bw.refl _ _) (by simp only[At])⟩
 .exact k.elim
noncomputable def Wg:D->Option String
 |.non=>some "NoneType"
 |.Aa _=>some "bool"
 |.int _=>some "int"
 |.str _=>some "str"
 |.lst _=>some "list"
 |.Cc _=>some "list"
 |.tup _=>some "tuple"
 |.EF _=>some "tuple"
 |.Do _ _=>some "dict"
 |.B7 _ _=>some "dict"
 |_=>none
def ef(T U:String):Bool:=T==U||(T=="bool"&&U=="int")
def M9(U:String)(d:D):R D:=match Wg d with
 |some T=>.ok (.Aa (ef T U))
 |none=>.bad
def S3(K:AY)(U:String):Prop:=∀T,T="NoneType"\/T="bool"\/T="int"\/T="str"\/T="list"\/T="tuple"\/T="dict"->PySem.W.kitOne K (.type T) (.type U)=some (ef T U)
def acf(K:AY):S3 K "int":=λT h=>by rcases h with rfl|rfl|rfl|rfl|rfl|rfl|rfl<;>kernel_rfl
def ace(K:AY):S3 K "bool":=λT h=>by rcases h with rfl|rfl|rfl|rfl|rfl|rfl|rfl<;>kernel_rfl
def acg(K:AY):S3 K "str":=λT h=>by rcases h with rfl|rfl|rfl|rfl|rfl|rfl|rfl<;>kernel_rfl
def qu(K:AY):S3 K "list":=λT h=>by rcases h with rfl|rfl|rfl|rfl|rfl|rfl|rfl<;>kernel_rfl
def ach(K:AY):S3 K "tuple":=λT h=>by rcases h with rfl|rfl|rfl|rfl|rfl|rfl|rfl<;>kernel_rfl
def x8{pins:List (A7×Obj)}{σ :St}{H G:AA}{s:AP}{Q:A4->AP->Prop}{E:A4->AP->Prop}{d:D}{x:V}{u:A4}{T U:String}{k:Bool}(I:Inv X pins σ H s)(BM:Sub G H)(at':At X.K G d x)(BQ:RelV x u)(e:Wg d=some T)(tt:PySem.W.kitOne X.K (.type T) (.type U)=some k)(h:∀C8,Q (.bool k) { s with toks:=C8 }):Ae (B2 X.prog X.w) X.A (call (.builtin "isinstance") [u,.type U]) Q E s:=by
 cases d with
 |non=>cases e;simp only[At]at at';subst at';cases BQ;exact N4 PySem.W.kitx_none I.EM Lx tt (λz=>nomatch z) h
 |Aa b=>cases e;simp only[At]at at';subst at';cases BQ;exact N4 PySem.W.kitx_bool I.EM Lx tt (λz=>nomatch z) h
 |int b=>cases e;simp only[At]at at';subst at';obtain⟨t,rfl⟩:=BQ;exact N4 PySem.W.kitx_int I.EM Lx tt (λz=>nomatch z) h
 |str b=>cases e;simp only[At]at at';subst at';obtain⟨t,rfl⟩:=BQ;exact N4 PySem.W.kitx_str I.EM Lx tt (λz=>nomatch z) h
 |lst ds=>cases e;simp only[At]at at';obtain⟨q,xs,rfl,AX,_⟩:=at';cases BQ;obtain⟨its,_,⟨o,n,A9,AG,_⟩,_⟩:=I.list (C4.of (BM _ _ AX));exact N4 rx I.EM ⟨o,A9,AG⟩ tt (λz=>nomatch z) h
 |Cc ds=>cases e;simp only[At]at at';obtain⟨q,xs,rfl,AX,_⟩:=at';cases BQ;obtain⟨its,_,⟨o,n,A9,AG,_⟩,_⟩:=I.list (C4.mono BM AX);exact N4 rx I.EM ⟨o,A9,AG⟩ tt (λz=>nomatch z) h
 |tup ds=>cases e;simp only[At]at at';obtain⟨q,xs,rfl,AX,_⟩:=at';cases BQ;obtain⟨its,_,⟨o,A9,AG,_⟩,_⟩:=I.tuple (CK.of (BM _ _ AX));exact N4 rt I.EM ⟨o,A9,AG⟩ tt (λz=>nomatch z) h
 |EF ds=>cases e;simp only[At]at at';obtain⟨q,xs,rfl,AX,_⟩:=at';cases BQ;obtain⟨its,_,⟨o,A9,AG,_⟩,_⟩:=I.tuple (CK.mono BM AX);exact N4 rt I.EM ⟨o,A9,AG⟩ tt (λz=>nomatch z) h
 |Do ks ds=>cases e;simp only[At]at at';obtain⟨q,xs,rfl,AX,_⟩:=at';cases BQ;obtain⟨_,_,vs,_,o,A6,BY,h1,h2,_⟩:=(show Fl X.prog X.w X.K H s.heap q (.Do xs)from I.Ba q _ (BM _ _ AX));exact N4 ry I.EM ⟨o,h1,h2.1⟩ tt (λz=>nomatch z) h
 |B7 ks ds=>cases e;simp only[At]at at';obtain⟨q,xs,rfl,AX,_⟩:=at';cases BQ;obtain⟨_,_,zs,_,o,A6,BY,h1,h2,_⟩:=(show Fl X.prog X.w X.K H s.heap q (.B7 xs)from I.Ba q _ (BM _ _ AX));exact N4 ry I.EM ⟨o,h1,h2.1⟩ tt (λz=>nomatch z) h
 |ins C ns ds=>cases e
 |Q_ C=>cases e
def aeM{d:D}{T:String}(e:Wg d=some T):T="NoneType"\/T="bool"\/T="int"\/T="str"\/T="list"\/T="tuple"\/T="dict":=by cases d<;>cases e<;>simp
def aae(F:BA)(U:String):List V->AA->CT->Prop:=λxs H Q=>∃G d x T,Sub G H/\xs=[x,.ty U]/\At F.K G d x/\Wg d=some T/\Q (.Aa (ef T U)) H
def sz{U:String}(Ao:F.K=X.K)(tt:S3 X.K U):I3 X (.builtin "isinstance") (aae F U):=by intro pins s σ H xs us Q I r h;obtain⟨G,d,x,T,BM,rfl,a,e,q⟩:=h;obtain⟨u,Fk,rfl,BQ,Fb⟩:=vals2 r;obtain rfl:Fk=O1 U:=Fb;rw[Ao]at a;exact x8 I BM a BQ e (tt T (aeM e)) λC8=>⟨.Aa _,H,I.tok C8,rfl,q⟩
noncomputable def AR:D->D->R D
 |.lst xs,.int i=>match GF xs i with|some d=>.ok d|none=>.bad
 |.Cc xs,.int i=>match GF xs i with|some d=>.ok d|none=>.bad
 |.tup xs,.int i=>match GF xs i with|some d=>.ok d|none=>.bad
 |.EF xs,.int i=>match GF xs i with|some d=>.ok d|none=>.bad
 |.str x,.int i=>if x.length<=1000000 then match GF x.cps.toList i with|some c=>.ok (.str ⟨#[c]⟩)|none=>.bad else .bad
 |_,_=>.bad
def Z3{K:AY}{G:AA}{ds:List D}{xs:List V}{i:Int}{d:D}(q:A_ K G ds xs)(e:GF ds i=some d):∃v,GF xs i=some v/\At K G d v:=by
 unfold GF at e |-;rw[q.length]at e;cases KB:I_ xs.length i with
 |none=>rw[KB]at e;cases e
 |some j=>rw[KB]at e;obtain⟨v,A9,a⟩:=q.get e;exact⟨v,A9,a⟩
def aaK(Ao:F.K=X.K):Ho F (nk X.K) AR:=by
 intro σ ρ G H x y Aj Gi Q r Bl CU k;unfold AR at k
 split at k
 .rename_i ds i;simp only[At]at Bl CU;obtain⟨p,xs,e,h,q⟩:=Bl
  split at k
  .rename_i d G3;obtain⟨v,ev,B8⟩:=Z3 q G3;exact .inl ⟨p,xs,i,v,e,CU,C4.of (r.kp.sub _ _ h),ev,k _ H G r (Bw.refl _ _) B8⟩
  .exact k.elim
 .rename_i ds i;simp only[At]at Bl CU;obtain⟨p,xs,e,h,q⟩:=Bl
  split at k
  .rename_i d G3;obtain⟨v,ev,B8⟩:=Z3 q G3;have h':=h;rw[Ao]at h';exact .inl ⟨p,xs,i,v,e,CU,C4.mono r.kp.sub h',ev,k _ H G r (Bw.refl _ _) B8⟩
  .exact k.elim
 .rename_i ds i;simp only[At]at Bl CU;obtain⟨p,xs,e,h,q⟩:=Bl
  split at k
  .rename_i d G3;obtain⟨v,ev,B8⟩:=Z3 q G3;exact .inr (.inl ⟨p,xs,i,v,e,CU,CK.of (r.kp.sub _ _ h),ev,k _ H G r (Bw.refl _ _) B8⟩)
  .exact k.elim
 .rename_i ds i;simp only[At]at Bl CU;obtain⟨p,xs,e,h,q⟩:=Bl
  split at k
  .rename_i d G3;obtain⟨v,ev,B8⟩:=Z3 q G3;have h':=h;rw[Ao]at h';exact .inr (.inl ⟨p,xs,i,v,e,CU,CK.mono r.kp.sub h',ev,k _ H G r (Bw.refl _ _) B8⟩)
  .exact k.elim
 .rename_i z i;simp only[At]at Bl CU
  split at k
  .rename_i AQ
   split at k
   .rename_i c ec;exact .inr (.inr ⟨z,i,c,Bl,CU,Ff AQ (by decide),ec,k _ H G r (Bw.refl _ _) (by simp only[At])⟩)
   .exact k.elim
  .exact k.elim
 .exact k.elim
end
section
variable{X:Af}{F:BA}{e a b c:AT}{A6:List AT}{pos p:Pos}{m n:Ag}{ma:B6}
def G2{α:Type}(xs:List α)(lo AC:Option Int):List α:=(xs.drop (Dj.CQ xs.length 0 lo)).take (Dj.CQ xs.length xs.length AC-Dj.CQ xs.length 0 lo)
def RX(x:Str)(lo AC:Option Int):Str:=⟨(G2 x.cps.toList lo AC).toArray⟩
def adZ(lo AC:Option Int)(n:Nat):rH lo AC 1 n=(EY (Dj.CQ n n AC-Dj.CQ n 0 lo)).map (Dj.CQ n 0 lo+·):=by
 rw[<-sliceRange_one];unfold rH;simp only[show(1:Int)>0 by decide,if_true]
 congr 1
 .cases lo with
  |none=>rfl
  |some i=>
   show max 0 (min (if i<0 then i+(n:Int)else i) (n:Int))=((if i<0 then(i+(n:Int)).toNat else min i.toNat n:Nat):Int)
   split<;>lia
 .cases AC with
  |none=>rfl
  |some i=>
   show max 0 (min (if i<0 then i+(n:Int)else i) (n:Int))=((if i<0 then(i+(n:Int)).toNat else min i.toNat n:Nat):Int)
   split<;>lia
def de(n:Nat)(v:Option Int){d:Nat}(hd:d<=n):Dj.CQ n d v<=n:=by
 cases v with
 |none=>exact hd
 |some i=>
  show(if i<0 then(i+(n:Int)).toNat else min i.toNat n)<=n
  split<;>lia
def adG(x:Str)(lo AC:Option Int):V6 x lo AC=RX x lo AC:=by
 have AQ:x.cps.toList.length=x.length:=by simp[Str.length]
 unfold V6 RX G2;rw[adZ,AQ]
 split
 .rename_i h;have h:Dj.CQ x.length x.length AC-Dj.CQ x.length 0 lo=x.length:=by simpa using h
  have h1:=de x.length AC (CY _);have h2:Dj.CQ x.length 0 lo=0\/x.length=0:=by lia
  have e:(x.cps.toList.drop (Dj.CQ x.length 0 lo)).take (Dj.CQ x.length x.length AC-Dj.CQ x.length 0 lo)=x.cps.toList:=by
   rw[h];rcases h2 with z|z
   .rw[z,List.drop_zero,rh (by lia)]
   .have DG:x.cps.toList=[]:=List.length_eq_zero_iff.mp (by lia);rw[DG];simp
  rw[e]
 .rw[pick_run]
def nx:V->Option Int->Option Int->AA->CT->Prop:=λx lo AC H Q=>∃z,x=.str z/\z.length<=CF/\Q (.str (RX z lo AC)) H
def oY{v:A4}{o:Option Int}(h:O9 v o):∃l:Option (Int×Tok),v=partValue l/\l.map (·.1)=o:=by
 cases h with
 |none=>exact⟨none,rfl,rfl⟩
 |int i t=>exact⟨some (i,t),rfl,rfl⟩
theorem adC:Pt X nx:=by
 intro pins s σ H x v Ha Hb lo AC Bz Q I BQ AN pl pu h;obtain⟨z,rfl,Ar,q⟩:=h;obtain⟨t,rfl⟩:=BQ;obtain⟨l,rfl,el⟩:=oY pl;obtain⟨u,rfl,Ko⟩:=oY pu;refine⟨"str",_,F.slot_str_getitem.lookup,RC s z t,wpAny_getItem_str_slice (l:=l) (u:=u) (st:=none) ?_ rfl ?_⟩
 .obtain⟨o,h1,h2,h3⟩:=AN;exact⟨o,h1,h2,h3⟩
 .have e:V6 z lo AC=RX z lo AC:=adG z lo AC;have fin:∀t' k,Gc X pins σ Q (.str (V6 z lo AC) t') { s with toks:=k }:=λt' k=>⟨.str (RX z lo AC),H,I.tok k,⟨t',by rw[e]⟩,q⟩;unfold V6 at fin;subst el Ko;exact post_val_or_str ⟨Ff (Txt.slice_le z _ _) Ar,fin⟩
abbrev MI:=AF->R (Option Int)
def FT:MI:=λ_=>.ok none
def intD:D->R (Option Int)
 |.int i=>.ok (some i)
 |_=>.bad
def Er(m:Ag):MI:=λρ=>(m ρ).bind intD
def xO(F:BA)(G H:AA)(σ :St)(ρ:AF)(Q:Option Int->AA->Prop):R (Option Int)->Prop
 |.ok o=>∀H' G',Rel F G' H' σ ρ->Bw G H G' H'->Q o H'
 |.exc c=>Nc F c
 |.bad=>False
def Wa(F:BA)(m:MI):C9:=λσ H Q=>∃G ρ,Rel F G H σ ρ/\xO F G H σ ρ Q (m ρ)
def EN(f:D->Option Int->Option Int->R D)(m:Ag)(lo AC:MI):Ag:=λρ=>(m ρ).bind λd=>(lo ρ).bind λl=>(AC ρ).bind λh=>f d l h
def FG(d:D)(l h:Option Int):R D:=match d with
 |.lst xs=>.ok (.lst (G2 xs l h))
 |.Cc xs=>.ok (.lst (G2 xs l h))
 |.str x=>if x.length<=1000000 then .ok (.str (RX x l h))else .bad
 |_=>.bad
def A_.cut{K:AY}{G:AA}{ds:List D}{xs:List V}(q:A_ K G ds xs)(l h:Option Int):A_ K G (G2 ds l h) (Pj xs l h):=by unfold G2 Pj;rw[q.length];exact(q.drop _).take _
def xT(Ao:F.K=X.K){lo AC:MI}:Ep (Ck F (EN FG m lo AC)) (gE (λx lo AC H Q=>nv X.K x lo AC H Q\/nx x lo AC H Q) (Ck F m) (Wa F lo) (Wa F AC)):=by
 rintro σ H Q ⟨G,ρ,r,h⟩;unfold EN at h;refine⟨G,ρ,r,?_⟩;refine rb h λd Aw h x H1 Al AK s1 Bl=>?_;refine⟨Al,ρ,AK,?_⟩;refine rb h λl el h Ax Ci B4 s2=>?_;refine⟨Ci,ρ,B4,?_⟩;refine rb h λu OW h Cp Ge DV s3=>?_;have up:=s1.trans (s2.trans s3);have K9:=(Bl.mono s2.g).mono s3.g;cases d with
 |lst ds=>simp only[At]at K9;obtain⟨q,xs,rfl,AX,al⟩:=K9;refine .inl ⟨q,xs,rfl,C4.of (DV.kp.sub _ _ AX),λDl AS=>?_⟩;refine h (.ref Dl) _ _ (DV.lay AS) (up.trans (Bw.lay DV.kp.sub AS)) ?_;simp only[At];exact⟨Dl,_,rfl,E1,(al.cut l u).mono (Sub.upd (DV.kp.sub.gone AS))⟩
 |Cc ds=>simp only[At]at K9;obtain⟨q,xs,rfl,AX,al⟩:=K9;have Qe:=AX;rw[Ao]at Qe;refine .inl ⟨q,xs,rfl,C4.mono DV.kp.sub Qe,λDl AS=>?_⟩;refine h (.ref Dl) _ _ (DV.lay AS) (up.trans (Bw.lay DV.kp.sub AS)) ?_;simp only[At];exact⟨Dl,_,rfl,E1,(al.cut l u).mono (Sub.upd (DV.kp.sub.gone AS))⟩
 |str z=>
  simp only[At]at K9;have h:JN F G H σ ρ Q (if z.length<=1000000 then .ok (.str (RX z l u))else .bad):=h
  split at h
  .rename_i Ar;exact .inr ⟨z,K9,Ff Ar (by decide),h _ Cp Ge DV up (by simp only[At])⟩
  .exact h.elim
 |_=>cases h
def UV:List D->R D
 |[.int i]=>if i.natAbs.log2<1920 then .ok (.str (toString i))else .bad
 |_=>.bad
def aaO:OK F (λxs H Q=>∃i,xs=[.int i]/\i.natAbs.log2<1920/\Q (.str (toString i)) H) UV:=by
 intro σ ρ G H xs ds Q r al k;unfold UV at k
 split at k
 .rename_i i
  split at k
  .rename_i AQ;exact⟨i,al.ints1,AQ,k _ H G r (Bw.refl _ _) (by simp only[At])⟩
  .exact k.elim
 .exact k.elim
def tl:I3 X (.type "int") (λxs H Q=>(∃i,xs=[.int i]/\Q (.int i) H)\/∃x i,xs=[.str x]/\x.length<=640/\intText? x=some i/\Q (.int i) H):=by
 intro pins s σ H xs us Q I r h;rcases h with⟨i,rfl,q⟩|⟨x,i,rfl,AQ,AC,q⟩
 .obtain⟨u,rfl,t,rfl⟩:=vals1 r;exact call_int_int ⟨.int i,H,I,⟨_,rfl⟩,q⟩
 .obtain⟨u,rfl,t,rfl⟩:=vals1 r;exact PySem.W.KIN.call_text AC AQ ⟨.int i,H,I.tok _,⟨_,rfl⟩,q⟩
end
end Cm
namespace C2
open PySem PySem.Spec
section
variable{prog:Bu}{w:Bh}{A:CG}{E:A4->AP->Prop}{s:AP}
def z7{it t:A7}{i:Nat}{items:Array A4}{x:A4}{Q:A4->AP->Prop}(hit:s.heap.IsTupleIter it t i)(Av:s.heap.IsTuple t items)(AH:items[i]?=some x)(Dc:∀h',h'.IsTupleIter it t (i+1)->JH it s.heap h'->Q x { s with heap:=h' }):Ae (B2 prog w) A (PK (.ref it)) Q E s:=by
 obtain⟨o,AM,AO,hd⟩:=id hit;obtain⟨ol,cg,_,nl,dL⟩:=Av;unfold PK
 refine AJ (Mt (name:=FP "__next__") hit.typeIs XP
  (Im XP hit.typeIs rI ?_ (rP _)))
 show Ae _ _ (field (.ref it) 0>>=_) _ _ s;refine AJ (Hi AM hd (x:=.ref t) rfl ?_);show Ae _ _ (if(DF t==G_)=true then _ else _) _ _ s;rw[if_neg (show¬((DF t==G_)=true)from GC)];show Ae _ _ (field (.ref it) 1>>=_) _ _ s;refine AJ (Hi AM hd (x:=.int i 0) rfl ?_);show Ae _ _ (seqItems? (.ref t)>>=_) _ _ s;refine AJ (Mz cg dL ?_);simp only[N0,AH];refine AJ (Sr AM hd (by simp) (B0 ⟨x,rfl,B0 (Dc _ ?_ (LQ ..))⟩));exact⟨_,PJ _ AM (gn (Ur hd _)),(Obj.cls_mapFields ..).trans AO,by
  rw[Ur hd];simp[Kf]⟩
def z6{it t:A7}{i:Nat}{items:Array A4}{Q:A4->AP->Prop}(BD:A.handled=none)(hit:s.heap.IsTupleIter it t i)(Av:s.heap.IsTuple t items)(AH:items[i]?=none)(KF:∀h' e,Heap.ExtBut it s.heap h'->(∃o,h'.get? e=some o/\o.cls=.type "StopIteration")->E (.ref e) { s with heap:=h' }):Ae (B2 prog w) A (PK (.ref it)) Q E s:=by
 obtain⟨o,AM,AO,hd⟩:=id hit;obtain⟨ol,cg,_,nl,dL⟩:=Av;unfold PK
 refine AJ (Mt (name:=FP "__next__") hit.typeIs XP
  (Im XP hit.typeIs rI ?_ (rP _)))
 show Ae _ _ (field (.ref it) 0>>=_) _ _ s;refine AJ (Hi AM hd (x:=.ref t) rfl ?_);show Ae _ _ (if(DF t==G_)=true then _ else _) _ _ s;rw[if_neg (show¬((DF t==G_)=true)from GC)];show Ae _ _ (field (.ref it) 1>>=_) _ _ s;refine AJ (Hi AM hd (x:=.int i 0) rfl ?_);show Ae _ _ (seqItems? (.ref t)>>=_) _ _ s;refine AJ (Mz cg dL ?_);simp only[N0,AH];refine AJ (Kc (AJ (Sr AM hd (by simp) ?_)));show Ae _ _ (newExc (.type "StopIteration") []>>=_) _ _ _;refine AJ ?_;simp only[newExc,newTuple];refine AJ (JE ?_ (by size_fits));refine AJ (m:=Ss _ _) (wpAny_of_eq (a:=G_) (by first|rfl|(simp only[Ss];rfl)) ?_);refine JE ?_ (by size_fits);simp only[raiseNew];refine AJ (wpAny_handled ?_)
 first|rw[show A.in1.handled=none from BD]|rw[BD]
 refine AJ (B0 (wpAny_throw ?_));exact KF _ _ (((LQ ..).extBut.push _).push _) ⟨_,FK _ rfl,rfl⟩
def kI(BD:A.handled=none)(it l:A7)(OA:l≠it)(items:Array A4) :
  Draws prog w A it [it,l] items.size (λi v=>items[i]?=some v) (λi h=>h.IsTupleIter it l i/\h.IsTuple l items) where
 live:=λ_ _ st=>let⟨o,AM,_⟩:=st.1;⟨o,AM⟩
 frame:=λ_ _ _ st AL=>⟨st.1.at λo e=>AL it (by simp) o e,st.2.at λo e=>AL l (by simp) o e⟩
 item:=λi s Q E AC st Dc=>by refine z7 st.1 st.2 (x:=items[i]) (by simp[AC]) λh' U8 Ks=>?_;exact Dc _ h' s.toks (by simp[AC]) ⟨U8,st.2.extBut Ks.extBut OA⟩ Ks
 done:=λs Q E st KF=>z6 BD st.1 st.2 (by simp) KF
structure T6(z TI C9 BZ C0:A7)(f1 f2:List A7):Prop where
 TIz:TI≠z
 TOz:C9≠z
 TITO:TI≠C9
 TIi1:TI≠BZ
 TIi2:TI≠C0
 TOi1:C9≠BZ
 TOi2:C9≠C0
 i1z:BZ≠z
 i2z:C0≠z
 i12:BZ≠C0
 bR:z∉f1
 jq:C9∉f1
 uJ:C0∉f1
 bT:z∉f2
 bS:C9∉f2
 js:BZ∉f2
def Lh{Ak:List A7}{n:Nat}{P:Nat->A4->Prop}{St:Nat->BH->Prop}{it b:A7}{h h':BH}{i:Nat}(D:Draws prog w A it Ak n P St)(st:St i h)(AN:JH b h h')(A0:b∉Ak):St i h':=
 D.frame i h h' st λc AO o e=>AN.extBut c o (λz=>A0 (z▸AO)) e
def aew {z TI C9 BZ C0:A7} {f1 f2:List A7} {D3 DI i:Nat} {Jo IP:Nat->A4->Prop} {Jq Jr:Nat->BH->Prop} {a b:A4} {Q:A4->AP->Prop} (I4:Draws prog w A BZ f1 D3 Jo Jq) (Hn:Draws prog w A C0 f2 DI IP Jr) (ap:T6 z TI C9 BZ C0 f1 f2)(Ar:Ir s.heap z TI C9 .none) (IY:Gq s.heap TI (.ref BZ) (.ref C0)) (J3:Gq s.heap C9 a b) (h1:Jq i s.heap) (h2:Jr i s.heap) (G6:i<D3) (Dl:i<DI)(Dc:∀x y h' C8,Jo i x->IP i y->Ir h' z TI C9 (Kf s.heap.objs.size)->Gq h' C9 x y->Jq (i+1) h'->Jr (i+1) h'->Gq h' s.heap.objs.size x y->h'.objs.size=s.heap.objs.size+1->
    (∀c o,c≠z->c≠C9->c≠BZ->c≠C0->s.heap.get? c=some o->h'.get? c=some o)->Q (.ref s.heap.objs.size) { s with heap:=h',toks:=C8 }) :
  Ae (B2 prog w) A (Lz.«zip.__next__» ⟨[.ref z],[]⟩) (λfin s'=>∃v,fin=.done (.ret v)/\Q v s') E s:=by
 show Ae _ _ (field (.ref z) 2>>=_) _ _ _;refine AJ (Hi Ar rfl (x:=.bool false) rfl ?_);show Ae _ _ (field (.ref z) 3>>=_) _ _ _;refine AJ (Hi Ar rfl (x:=.ref TI) rfl ?_);refine AJ (Mz IY rfl ?_);show Ae _ _ (XQ (.ref z)>>=_) _ _ _;refine AJ ?_;unfold XQ;refine AJ (Hi Ar rfl (x:=.none) rfl (B0 ?_));simp only[if_true];refine AJ (Kc ?_);refine AJ (Hi Ar rfl (x:=.ref C9) rfl ?_);refine AJ (So Ar (by simp) λKu Qi M6=>?_);replace Qi:Ir Ku z TI C9 .ellipsis:=Qi;refine AJ ?_;simp only[R1,Uz,R9,V0];refine AJ (AJ (Xw ?_));show Ae _ _ (PK (.ref BZ)>>=_) _ _ _;refine AJ (I4.item i _ _ _ G6 (Lh I4 h1 M6 ap.bR) λx M7 q7 AH ot Kt=>B0 ?_);have WM:Gq M7 C9 a b:=Kt.extBut _ _ ap.TOi1 (M6.extBut _ _ ap.TOz J3);refine AJ (Mz WM rfl ?_);refine AJ (gb WM λNb Zj Ll=>?_);replace Zj:Gq Nb C9 x b:=Zj;refine AJ (Y9 (B0 ?_));refine AJ (AJ (Xw ?_));show Ae _ _ (PK (.ref C0)>>=_) _ _ _;have adR:Jr i Nb:=Lh Hn (Lh Hn (Lh Hn h2 M6 ap.bT) Kt ap.js) Ll ap.bS;refine AJ (Hn.item i _ _ _ Dl adR λy Vp agu Bf ack Qg=>B0 ?_);have l4:Gq Vp C9 x b:=Qg.extBut _ _ ap.TOi2 Zj;refine AJ (Mz l4 rfl ?_);refine AJ (gb l4 λHs Zk Qh=>?_);replace Zk:Gq Hs C9 x y:=Zk;refine AJ (Y9 (B0 (B0 ?_)));refine AJ (Mz Zk rfl ?_);refine AJ (hX ?_);have hsz:Hs.objs.size=s.heap.objs.size:=by rw[Qh.1,Qg.1,Ll.1,Kt.1,M6.1]
 have mN:Ir Hs z TI C9 .ellipsis:=Qh.extBut _ _ ap.TOz.symm (Qg.extBut _ _ ap.i2z.symm (Ll.extBut _ _ ap.TOz.symm (Kt.extBut _ _ ap.i1z.symm Qi)));have um:∀c o,c≠z->c≠C9->c≠BZ->c≠C0->s.heap.get? c=some o->Hs.get? c=some o:=λc o BX Ev HB Jx e=>
  Qh.extBut _ _ Ev (Qg.extBut _ _ Jx (Ll.extBut _ _ Ev (Kt.extBut _ _ HB (M6.extBut _ _ BX e))))
 have adQ:Jq (i+1) Hs:=Lh I4 (Lh I4 (Lh I4 ot Ll ap.jq) Qg ap.uJ) Qh ap.jq;have adS:Jr (i+1) Hs:=Lh Hn ack Qh ap.bS;have mK:z<Hs.objs.size:=DT mN;show Ae _ _ (rG (.ref z) (.ref Hs.objs.size)>>=_) _ _ _;refine AJ ?_;unfold rG;have wi:Ir (Hs.push { cls:=.type "tuple",data:=.seq #[x,y] }) z TI C9 .ellipsis:=DE _ mN;refine AJ (So wi (by simp) λwk ct ck=>?_);replace ct:Ir wk z TI C9 (Kf Hs.objs.size):=ct;refine So ct (by simp) λVq Zy cm=>?_;replace Zy:Ir Vq z TI C9 (Kf Hs.objs.size):=Zy;have up:∀c o,c≠z->Hs.get? c=some o->Vq.get? c=some o:=λc o BX e=>cm.extBut _ _ BX (ck.extBut _ _ BX (DE _ e));have kT:Gq Vq Hs.objs.size x y:=cm.extBut _ _ (My mK) (ck.extBut _ _ (My mK) (FK _ rfl));have mJ:Vq.objs.size=Hs.objs.size+1:=by rw[cm.1,ck.1,LX]
 rw[hsz]at Zy kT mJ;refine B0 ⟨_,rfl,?_⟩;show Q (.ref Hs.objs.size) _;rw[hsz];exact Dc x y Vq _ AH Bf Zy (up _ _ ap.TOz Zk) (I4.frame _ _ _ adQ λc AO o e=>up c o (λq=>ap.bR (q▸AO)) e) (Hn.frame _ _ _ adS λc AO o e=>up c o (λq=>ap.bT (q▸AO)) e) kT mJ λc o BX Ev HB Jx e=>up c o BX (um c o BX Ev HB Jx e)
def aev{z TI C9 BZ C0:A7}{f1 f2:List A7}{D3 DI i:Nat}{Jo IP:Nat->A4->Prop}{Jq Jr:Nat->BH->Prop}{a b:A4}{Q:Fin->AP->Prop}(I4:Draws prog w A BZ f1 D3 Jo Jq)(Hn:Draws prog w A C0 f2 DI IP Jr)(ap:T6 z TI C9 BZ C0 f1 f2)(Ar:Ir s.heap z TI C9 .none)(IY:Gq s.heap TI (.ref BZ) (.ref C0))(J3:Gq s.heap C9 a b)(h1:Jq i s.heap)(h2:Jr i s.heap)(dN:i=D3\/(i<D3/\i=DI))(KF:∀h' e C8,(∀c o,c≠z->c≠C9->c≠BZ->c≠C0->s.heap.get? c=some o->h'.get? c=some o)->(∃o,h'.get? e=some o/\o.cls=.type "StopIteration")->E (.ref e) { s with heap:=h',toks:=C8 }) :
  Ae (B2 prog w) A (Lz.«zip.__next__» ⟨[.ref z],[]⟩) Q E s:=by
 show Ae _ _ (field (.ref z) 2>>=_) _ _ _;refine AJ (Hi Ar rfl (x:=.bool false) rfl ?_);show Ae _ _ (field (.ref z) 3>>=_) _ _ _;refine AJ (Hi Ar rfl (x:=.ref TI) rfl ?_);refine AJ (Mz IY rfl ?_);show Ae _ _ (XQ (.ref z)>>=_) _ _ _;refine AJ ?_;unfold XQ;refine AJ (Hi Ar rfl (x:=.none) rfl (B0 ?_));simp only[if_true];refine AJ (Kc ?_);refine AJ (Hi Ar rfl (x:=.ref C9) rfl ?_);refine AJ (So Ar (by simp) λKu Qi M6=>?_);replace Qi:Ir Ku z TI C9 .ellipsis:=Qi;refine AJ ?_;simp only[R1,Uz,R9,V0];refine AJ (AJ (Xw ?_));show Ae _ _ (PK (.ref BZ)>>=_) _ _ _;have pM:Jq i Ku:=Lh I4 h1 M6 ap.bR;rcases dN with A9|⟨G6,AG⟩
 .subst A9;refine AJ (I4.done _ _ _ pM λM7 e Kt he=>?_);obtain⟨df,Rk,WR⟩:=he;have mL:Ir M7 z TI C9 .ellipsis:=Kt _ _ ap.i1z.symm Qi;have dO:e≠z:=λx=>by subst x;rw[mL]at Rk;cases Rk;simp at WR
  refine So mL (by simp) λNb _ Ll=>KF Nb e s.toks (λc o BX _ HB _ x=>Ll.extBut _ _ BX (Kt _ _ HB (M6.extBut _ _ BX x))) ⟨df,Ll.extBut _ _ dO Rk,WR⟩
 .subst AG;refine AJ (I4.item _ _ _ _ G6 pM λx M7 q7 AH ot Kt=>B0 ?_);have WM:Gq M7 C9 a b:=Kt.extBut _ _ ap.TOi1 (M6.extBut _ _ ap.TOz J3);refine AJ (Mz WM rfl ?_);refine AJ (gb WM λNb Zj Ll=>?_);refine AJ (Y9 (B0 ?_));refine AJ (AJ (Xw ?_));show Ae _ _ (PK (.ref C0)>>=_) _ _ _;refine AJ (Hn.done _ _ _ (Lh Hn (Lh Hn (Lh Hn h2 M6 ap.bT) Kt ap.js) Ll ap.bS) λVp e Qg he=>?_);obtain⟨df,Rk,WR⟩:=he;have mM:Ir Vp z TI C9 .ellipsis:=Qg _ _ ap.i2z.symm (Ll.extBut _ _ ap.TOz.symm (Kt.extBut _ _ ap.i1z.symm Qi));have dO:e≠z:=λx=>by subst x;rw[mM]at Rk;cases Rk;simp at WR
  refine So mM (by simp) λHs _ Qh=>KF Hs e q7 (λc o BX Ev HB Jx x=>Qh.extBut _ _ BX (Qg _ _ Jx (Ll.extBut _ _ Ev (Kt.extBut _ _ HB (M6.extBut _ _ BX x))))) ⟨df,Qh.extBut _ _ dO Rk,WR⟩
theorem ab3 {z TI C9 BZ C0:A7} {f1 f2:List A7} {D3 DI i:Nat} {Jo IP:Nat->A4->Prop} {Jq Jr:Nat->BH->Prop} {a b:A4} {Q:Option A4->AP->Prop} (I4:Draws prog w A.in1 BZ f1 D3 Jo Jq) (Hn:Draws prog w A.in1 C0 f2 DI IP Jr) (ap:T6 z TI C9 BZ C0 f1 f2)(Ar:Ir s.heap z TI C9 .none) (IY:Gq s.heap TI (.ref BZ) (.ref C0)) (J3:Gq s.heap C9 a b) (h1:Jq i s.heap) (h2:Jr i s.heap) (G6:i<D3) (Dl:i<DI)(Dc:∀x y h' C8,Jo i x->IP i y->Ir h' z TI C9 (Kf s.heap.objs.size)->Gq h' C9 x y->Jq (i+1) h'->Jr (i+1) h'->Gq h' s.heap.objs.size x y->h'.objs.size=s.heap.objs.size+1->
    (∀c o,c≠z->c≠C9->c≠BZ->c≠C0->s.heap.get? c=some o->h'.get? c=some o)->Q (some (.ref s.heap.objs.size)) { s with heap:=h',toks:=C8 }) :
  Ae (B2 prog w) A (JL (.ref z)) Q E s:=by
 have CW:s.TypeIs (.ref z) "zip":=⟨_,Ar,rfl⟩;unfold JL
 exact AJ (R7 (Mt (name:=FP "__next__") CW Xd
  (Im Xd CW F.entry_zip_next
    (aew I4 Hn ap Ar IY J3 h1 h2 G6 Dl λx y h' C8 a1 a2 I7 OR S5 T7 sa i4 sb=>B0 (Dc x y h' C8 a1 a2 I7 OR S5 T7 sa i4 sb)) (F.args_zip_next_1 _))))
theorem ab2{z TI C9 BZ C0:A7}{f1 f2:List A7}{D3 DI i:Nat}{Jo IP:Nat->A4->Prop}{Jq Jr:Nat->BH->Prop}{a b:A4}{Q:Option A4->AP->Prop}(I4:Draws prog w A.in1 BZ f1 D3 Jo Jq)(Hn:Draws prog w A.in1 C0 f2 DI IP Jr)(ap:T6 z TI C9 BZ C0 f1 f2)(Ar:Ir s.heap z TI C9 .none)(IY:Gq s.heap TI (.ref BZ) (.ref C0))(J3:Gq s.heap C9 a b)(h1:Jq i s.heap)(h2:Jr i s.heap)(dN:i=D3\/(i<D3/\i=DI))(Dc:∀h' C8,(∀c o,c≠z->c≠C9->c≠BZ->c≠C0->s.heap.get? c=some o->h'.get? c=some o)->Q none { s with heap:=h',toks:=C8 }):Ae (B2 prog w) A (JL (.ref z)) Q E s:=by
 have CW:s.TypeIs (.ref z) "zip":=⟨_,Ar,rfl⟩;unfold JL
 refine AJ (R7 (Mt (name:=FP "__next__") CW Xd
  (Im Xd CW F.entry_zip_next (aev I4 Hn ap Ar IY J3 h1 h2 dN λh' e C8 AL he=>?_) (F.args_zip_next_1 _))))
 obtain⟨o,AM,AO⟩:=he;refine AJ (R4 (T:="StopIteration") (b:=true) ⟨o,AM,AO⟩ hY ?_);exact B0 (Dc _ _ AL)
end
def Inv.We{X:Af}{pins:List (A7×Obj)}{σ :St}{H:AA}{s:AP}{h':BH}{t':Nat}{ch:List A7}(I:Inv X pins σ H s)(k:∀b o,b∉ch->s.heap.get? b=some o->h'.get? b=some o)(hf:∀b∈ch,KO X pins H b):Inv X pins σ H { s with heap:=h',toks:=t' }:=by
 have QP:∀b u,H b=some u->b∉ch:=λb u e z=>by rw[(hf b z).1]at e;cases e
 refine I.step (g':=s.gens) (d':=s.drawn) (ch:=ch) (λb A0=>?_) (λb o _ _ AO e _=>k b o AO e) (λb o _ _ AO e _=>⟨o.slots,k b o AO e⟩) (λ_ _ _ _ n=>n)
  (λb o AO e=>⟨o,k b o AO e⟩) (λ_ _ e=>e) (λ_ _ _ e=>e) (λb Ap e=>⟨#[],by rw[e];simp⟩) (λm hm=>?_) (λb u e=>?_) I.bare
 .obtain⟨_,f1,_,GV,f4,IW⟩:=hf b A0;exact⟨GV,f1,f4,IW⟩
 .obtain⟨o,A6,BY,AM,r⟩:=hm;exact⟨o,A6,BY,k _ o (λz=>(hf _ z).2.1 rfl) AM,r⟩
 .refine(I.Ba b u e).Q6 (λc v AO q=>k c v ?_ q) (λ_ q=>q) λ_ _ q=>q;rcases AO with z|z
  .rw[z];exact QP b u e
  .exact QP c _ z
def Inv.gL{X:Af}{pins:List (A7×Obj)}{σ :St}{H:AA}{s:AP}{h':BH}{t':Nat}{ch:List A7}{T:A7}{xs:List V}{its:List A4}(I:Inv X pins σ H s)(k:∀b o,b∉ch->s.heap.get? b=some o->h'.get? b=some o)(hf:∀b∈ch,KO X pins H b)(CW:s.heap.objs.size<=T)(Av:Xp h' T its.toArray)(CE:Vals xs its)(Ar:xs.length<=CF):Inv X pins σ (upd H T (.tup xs)) { s with heap:=h',toks:=t' }:=by
 have QP:∀b u,H b=some u->b∉ch:=λb u e z=>by rw[(hf b z).1]at e;cases e
 have AS:H T=none:=I.Ba.fresh CW;have neT:∀b o,s.heap.get? b=some o->b≠T:=λb o e=>Fe (I1 (DT e) CW)
 refine I.step (g':=s.gens) (d':=s.drawn) (ch:=ch) (λb A0=>?_) (λb o _ _ AO e _=>k b o AO e) (λb o _ _ AO e _=>⟨o.slots,k b o AO e⟩) (λb o _ e n=>by rw[Da (neT b o e)];exact n)
  (λb o AO e=>⟨o,k b o AO e⟩) (λb ys e=>by rw[Da (KI e AS)];exact e) (λb _ _ e=>by rw[Da (KI e AS)];exact e) (λb Ap e=>⟨#[],by rw[Da (KI e AS),e];simp⟩) (λm hm=>?_) (λb u e=>?_) I.bare
 .obtain⟨_,f1,_,GV,f4,IW⟩:=hf b A0;exact⟨GV,f1,f4,IW⟩
 .obtain⟨o,A6,BY,AM,r⟩:=hm;exact⟨o,A6,BY,k _ o (λz=>(hf _ z).2.1 rfl) AM,r⟩
 .by_cases A0:b=T
  .subst A0;rw[E1]at e;cases e;exact⟨Ar,its,CE,Av⟩
  .rw[Da A0]at e;refine(I.Ba b u e).Q6 (λc v AO q=>k c v ?_ q) (λc q=>by rw[Da (KI q AS)];exact q) λc ys q=>by rw[Da (KI q AS)];exact q
   rcases AO with z|z
   .rw[z];exact QP b u e
   .exact QP c _ z
def hp(x:Str):It:=⟨λi _=>i<x.cps.size,λi H v H'=>H'=H/\∃c,x.cps[i]?=some c/\v=.str ⟨#[c]⟩,λi _=>i=x.cps.size⟩
def qS{prog:Bu}{w:Bh}{A:CG}(BD:A.handled=none)(I:A7)(x:Str)(t:Tok):Walks prog w A I [I] [I] x.cps.size (SignAt x) (λi h=>h.IsStrIter I (LW x) x t i):=by
 unfold LW;cases AB:x.cps.all (· <128)
 .rw[if_neg GC];exact Walks.strWide BD I x t
 .rw[if_pos rfl];exact Walks.strAscii BD I x t
def kH{prog:Bu}{w:Bh}{A:CG}(BD:A.handled=none)(I:A7)(x:Str)(t:Tok):Draws prog w A I [I] x.cps.size (λi v=>∃c u,x.cps[i]?=some c/\v=.str ⟨#[c]⟩ u) (λi h=>h.IsStrIter I (LW x) x t i):=by
 unfold LW;cases AB:x.cps.all (· <128)
 .rw[if_neg GC];exact Draws.strWide BD I x t
 .rw[if_pos rfl];exact Draws.strAscii BD I x t
def adY(x:Str):["enumerate","zip","dict_itemiterator","dict_reverseitemiterator","odict_iterator","itertools.zip_longest","itertools.pairwise"].contains (LW x)=false:=by
 unfold LW
 split<;>decide
def aeH{P:Bu}{w:Bh}{K:AY}{Bt:AT}(it:A7)(x:Str)(t:Tok):Turn P w K Bt (hp x) [it] it (λi h=>h.IsStrIter it (LW x) x t i) where
 mem:=by simp
 obj:=λi h st b A0=>by
  have e:b=it:=by simpa using A0
  subst e;obtain⟨o,e,c,d⟩:=st;exact⟨o,e,λv z=>by rw[d]at z;cases z⟩
 keep:=λi h h' st k=>by obtain⟨o,e,r⟩:=st;exact⟨o,k it (by simp) o e,r⟩
 item:=by intro X Cn hw Ao AO i pins s σ H E I hf st Ah;subst Cn hw Ao;have W:=qS (prog:=X.prog) (w:=X.w) (A:=X.A) (I.ok.hd AO) it x t;refine W.item i s _ _ Ah st λv h' C8 BR Mo kk=>?_;obtain⟨c,u,Zm,rfl⟩:=BR;have B5:Inv X pins σ H { s with heap:=h',toks:=C8 }:=I.We (ch:=[it]) kk hf;obtain⟨o,e,BX,d1⟩:=id Mo;exact⟨_,rfl,YU (s:={ s with heap:=h',toks:=C8 }) e BX d1 (adY x) ⟨.str ⟨#[c]⟩,H,B5,⟨u,rfl⟩,⟨rfl,c,Zm,rfl⟩,Mo,λb A0=>(hf b A0).1⟩⟩
 done:=by intro X Cn hw Ao AO i pins s σ H E I hf st Ah;subst Cn hw Ao;have W:=qS (prog:=X.prog) (w:=X.w) (A:=X.A) (I.ok.hd AO) it x t;have AC:i=x.cps.size:=Ah;subst AC;exact W.done s _ _ st λh' C8 kk=>⟨rfl,I.We (ch:=[it]) kk hf⟩
 self:=λA i s Q E st h=>by
  unfold LW at st;cases AB:x.cps.all (· <128)
  .rw[AB,if_neg GC]at st;exact wpAny_pyIter_striter_wide st h
  .rw[AB,if_pos rfl]at st;exact wpAny_pyIter_striter_ascii st h
section
variable{X:Af}{Bt:AT}
def mV(F8:TE):TI:=λσ H R=>F8 σ H λv H1=>∃x,v=.str x/\R (hp x) H1
def abL{l:AT}{F8:TE}(AQ:Ay X l F8):GS X Bt l (mV F8):=by
 intro pins s σ H R I h;refine Bb (AQ pins s σ H _ I h) λv s1⟨y,H1,B5,AK,An⟩=>?_;obtain⟨x,e,q⟩:=An;subst e;obtain⟨t,rfl⟩:=AK;refine wpAny_pyIter_strU ?_;refine⟨s1.heap.objs.size,[s1.heap.objs.size],_,_,H1,rfl,B5.kept (t':=s1.toks) λb o e=>DE _ e,aeH _ x t,⟨_,FK _ rfl,rfl,rfl⟩,λb A0=>?_,q⟩;have e:b=s1.heap.objs.size:=by simpa using A0
 subst e;exact B5.Oa (CY _) (B5.Ba.fresh (CY _))
end
noncomputable def hl(K:AY)(l:A7):It:=⟨λi H=>∃xs x,C4 K H l xs/\xs[i]?=some x,λi H v H'=>∃p x,H p=none/\H'=upd H p (.tup [.int (i:Int),x])/\v=.ref p/\∀xs,C4 K H l xs->xs[i]?=some x,λi H=>∃xs,C4 K H l xs/\xs.length=i⟩
def aeD{P:Bu}{w:Bh}{K:AY}{elts:List AT}{kk:Nat}{pos:Pos}(e it l:A7)(kY:e≠it) :
  Turn P w K (.Tuple elts kk pos) (hl K l) [e,it] e (λi h=>(∃old,IsEnum h e it i old)/\h.IsListIter it l i) where
 mem:=by simp
 obj:=λi h st b A0=>by
  obtain⟨⟨old,he⟩,o,A9,c,d⟩:=st;rcases List.mem_cons.mp A0 with z|z
  .subst z;exact⟨_,he,λv z=>by have GA:Y7 _=T1 v:=z;cases GA⟩
  .have z:b=it:=by simpa using z
   subst z;exact⟨o,A9,λv z=>by rw[d]at z;cases z⟩
 keep:=λi h h' st k=>by obtain⟨⟨old,he⟩,hit⟩:=st;exact⟨⟨old,k e (by simp) _ he⟩,hit.at λo x=>k it (by simp) o x⟩
 item:=by
  intro X Cn hw Ao AO i pins s σ H E I hf st Ah;subst Cn hw Ao;obtain⟨xs,x,AX,AH⟩:=Ah;obtain⟨its,CE,pl,Ar⟩:=I.list AX;obtain⟨⟨old,he⟩,hit⟩:=st;have Ec:=pl.isList;have hle:l≠e:=λz=>by subst z;obtain⟨o,AM,K0,_⟩:=Ec;rw[he]at AM;cases AM;have K0:O1 "enumerate"=O1 "list":=K0;injection K0 with K0;exact absurd K0 (by decide)
  have cZ:l≠it:=λz=>by subst z;obtain⟨o,AM,K0,_⟩:=Ec;obtain⟨Ce,Ed,Of,_⟩:=hit;rw[Ed]at AM;cases AM;rw[K0]at Of;injection Of with Of;exact absurd Of (by decide)
  have W:=WalksT.enumerate (prog:=X.prog) (w:=X.w) (A:=X.A) (I.ok.hd AO) e it l kY hle cZ its.toArray;have hlen:=CE.length;have dT:i<xs.length:=(List.getElem?_eq_some_iff.mp AH).1;refine W.item i s _ _ (by rw[Dx,<-hlen];exact dT) ⟨⟨old,he⟩,hit,Ec⟩ λT vals h' C8 Cn CW vm Zh AL=>?_;obtain⟨t,u,BP,rfl⟩:=Cn;obtain⟨FV,Vo,Fb⟩:=CE.get AH;have Ko:FV=u:=by rw[rz]at BP;rw[Vo]at BP;exact FA BP
  subst Ko;refine⟨_,rfl,?_⟩;refine W.go elts kk pos i T { s with heap:=h',toks:=C8 } _ _ Zh λh2 Lr Oh=>?_;have kS:T∉[e,it]:=W.apart i T h' Zh;have keep:∀b o,b∉[e,it]->s.heap.get? b=some o->h2.get? b=some o:=λb o A0 q=>Oh b o A0 (AL b o A0 q);have Vn:Xp h2 T (#[.int i t,FV]:Array A4):=by obtain⟨o,AM,r⟩:=vm;exact⟨o,Oh T o kS AM,r⟩
  have AS:H T=none:=I.Ba.fresh CW;have Bo:Inv X pins σ (upd H T (.tup [.int (i:Int),x])) { s with heap:=h2,toks:=C8 }:=I.gL (its:=[.int i t,FV]) (ch:=[e,it]) keep hf CW Vn (.cons ⟨t,rfl⟩ (.cons Fb .nil)) (by show 2<=CF;decide);refine⟨.ref T,upd H T (.tup [.int (i:Int),x]),Bo,rfl,⟨T,x,AS,rfl,rfl,λys Bf=>by rw[I.e8 Bf AX];exact AH⟩,⟨Lr.1,Lr.2.1⟩,λb A0=>?_⟩;have nb:b≠T:=λz=>kS (z▸A0);rw[Da nb];exact(hf b A0).1
 done:=by
  intro X Cn hw Ao AO i pins s σ H E I hf st Ah;subst Cn hw Ao;obtain⟨xs,AX,AH⟩:=Ah;obtain⟨its,CE,pl,Ar⟩:=I.list AX;obtain⟨⟨old,he⟩,hit⟩:=st;have Ec:=pl.isList;have hle:l≠e:=λz=>by subst z;obtain⟨o,AM,K0,_⟩:=Ec;rw[he]at AM;cases AM;have K0:O1 "enumerate"=O1 "list":=K0;injection K0 with K0;exact absurd K0 (by decide)
  have cZ:l≠it:=λz=>by subst z;obtain⟨o,AM,K0,_⟩:=Ec;obtain⟨Ce,Ed,Of,_⟩:=hit;rw[Ed]at AM;cases AM;rw[K0]at Of;injection Of with Of;exact absurd Of (by decide)
  have W:=WalksT.enumerate (prog:=X.prog) (w:=X.w) (A:=X.A) (I.ok.hd AO) e it l kY hle cZ its.toArray;have G4:i=its.toArray.size:=by rw[Dx,<-CE.length];exact AH.symm
  subst G4;exact W.done s _ _ ⟨⟨old,he⟩,hit,Ec⟩ λh' C8 kk=>⟨rfl,I.We (ch:=[e,it]) kk hf⟩
 self:=λA i s Q E st h=>by obtain⟨⟨old,he⟩,_⟩:=st;exact wpAny_pyIter_enum he h
section
variable{X:Af}{elts:List AT}{kk:Nat}{Qo:Pos}
def mQ(K:AY)(C3:FC):TI:=λσ H R=>C3 σ H λvs H1=>∃l,vs=[.ref l]/\(∃xs,C4 K H1 l xs)/\R (hl K l) H1
def abG{a:AT}{C3:FC}{p pos:Pos}(Ah:EL X "enumerate")(hm:X.mg "enumerate"=none)(AB:Gf X [a] C3)(AN:BF [a] X.env=[(false,BK a X.env)]:=by rfl):GS X (.Tuple elts kk Qo) (.Call (.Name "enumerate" p) [a] [] pos) (mQ X.K C3):=by
 have A0:LU "enumerate"=some (.type "enumerate"):=by kernel_rfl
 intro pins s σ H R I h;refine ru (Oj I Ah hm A0 (Qz (Bb (AB pos pins s σ H _ I h) λus s1⟨vs,H1,B5,AK,An⟩=>?_) AN rfl));obtain⟨l,e,⟨xs,AX⟩,q⟩:=An;subst e;obtain⟨u,rfl,Fb⟩:=vals1 AK;cases Fb;obtain⟨its,CE,pl,Ar⟩:=B5.list AX;refine call_enumerate_list pl.isList λh' he hit hsz AL=>?_;have Bo:Inv X pins σ H1 { s1 with heap:=h' }:=B5.kept (t':=s1.toks) AL;refine wpAny_pyIter_enum he ?_;refine⟨s1.heap.objs.size+1,[s1.heap.objs.size+1,s1.heap.objs.size],_,_,H1,rfl,Bo,aeD _ _ l (Nat.succ_ne_self _),⟨⟨_,he⟩,hit⟩,λb A0=>?_,q⟩;have A0:b=s1.heap.objs.size+1\/b=s1.heap.objs.size:=by simpa using A0
 rcases A0 with z|z
 .subst z;exact B5.Oa (V1 _) (B5.Ba.fresh (V1 _))
 .subst z;exact B5.Oa (CY _) (B5.Ba.fresh (CY _))
end
abbrev bJ(h:BH)(x:Str)(t:Tok):BH:=h.push { cls:=.type (LW x),data:=.fields #[.str x t,.int 0 0] }
abbrev bK(h:BH)(x:Str)(t:Tok)(l:A7):BH:=(bJ h x t).push { cls:=.type "tuple_iterator",data:=.fields #[.ref l,.int 0 0] }
abbrev bL(h:BH)(x:Str)(t:Tok)(l:A7):BH:=(bK h x t l).push { cls:=.type "tuple",data:=.seq #[.ref h.objs.size,.ref (bJ h x t).objs.size] }
abbrev bM(h:BH)(x:Str)(t:Tok)(l:A7):BH:=(bL h x t l).push { cls:=.type "tuple",data:=.seq #[.none,.none] }
abbrev SO(h:BH)(x:Str)(t:Tok)(l:A7):BH:=(bM h x t l).push { cls:=.type "zip",data:=.fields #[.none,.bool false,.bool false,.ref (bK h x t l).objs.size,.ref (bL h x t l).objs.size] }
set_option maxHeartbeats 4000000 in
def zX(x:Str)(t:Tok)(Dl:A7)(ys:Array A4) :
  Meets (Lz.«zip.__new__» ⟨[.type "zip",.str x t,.ref Dl],[]⟩) (λ_ R s=>s.heap.IsTuple Dl ys/\R (.ok (.ret (.ref (bM s.heap x t Dl).objs.size))) { s with heap:=SO s.heap x t Dl }):=
 .of_wp λprog w A R s h=>by
   obtain⟨Ad,g,d,C8,os⟩:=s;obtain⟨M1,h⟩:=h;have afq:=sub_zip;have vh:Heap.IsTuple (Shared.heap ⟨Ad.push { cls:=.type (LW x),data:=.fields #[.str x t,.int 0 0] },g,d,C8,os⟩) Dl ys:=Heap.IsTuple.push M1 _
   wp_walk using wpAny_pyIter_strU,wpAny_pyIter_tuple vh
   exact⟨_,rfl,h⟩
theorem t8 {prog:Bu} {w:Bh} {A:CG} {E:A4->AP->Prop} {s:AP} {x:Str} {t:Tok} {Dl:A7} {ys:Array A4} {Q:A4->AP->Prop} (M1:s.heap.IsTuple Dl ys)(h:∀h',Ir h' (s.heap.objs.size+4) (s.heap.objs.size+2) (s.heap.objs.size+3) .none->Gq h' (s.heap.objs.size+2) (.ref s.heap.objs.size) (.ref (s.heap.objs.size+1))->
    Gq h' (s.heap.objs.size+3) .none .none->h'.IsStrIter s.heap.objs.size (LW x) x t 0->h'.IsTupleIter (s.heap.objs.size+1) Dl 0->h'.objs.size=s.heap.objs.size+5->
    (∀c o,s.heap.get? c=some o->h'.get? c=some o)->Q (.ref (s.heap.objs.size+4)) { s with heap:=h' }) :
  Ae (B2 prog w) A (call (.type "zip") [.str x t,.ref Dl]) Q E s:=by
 refine callType_new F.called_zip (by decide) (F.typeCall_zip_2 _ _) (F.newCall_zip_2 _ _) (λobj=>F.args_object_init_3 obj _ _) F.entry_zip_new (zX x t Dl ys) ⟨M1,?_⟩;have DS:(bJ s.heap x t).objs.size=s.heap.objs.size+1:=LX ..;have Db:(bK s.heap x t Dl).objs.size=s.heap.objs.size+2:=by rw[LX,DS]
 have Qw:(bL s.heap x t Dl).objs.size=s.heap.objs.size+3:=by rw[LX,Db]
 have SM:(bM s.heap x t Dl).objs.size=s.heap.objs.size+4:=by rw[LX,Qw]
 have fc:(SO s.heap x t Dl).objs.size=s.heap.objs.size+5:=by rw[LX,SM]
 have WI:(SO s.heap x t Dl).get? (bM s.heap x t Dl).objs.size=some _:=FK _ rfl;have HZ:(SO s.heap x t Dl).get? (bL s.heap x t Dl).objs.size=some _:=DE _ (FK _ rfl);have g3:(SO s.heap x t Dl).get? (bK s.heap x t Dl).objs.size=some _:=DE _ (DE _ (FK _ rfl));have g2:(SO s.heap x t Dl).get? (bJ s.heap x t).objs.size=some _:=DE _ (DE _ (DE _ (FK _ rfl)));have g1:(SO s.heap x t Dl).get? s.heap.objs.size=some _:=DE _ (DE _ (DE _ (DE _ (FK _ rfl))));show _/\_;rw[Db,Qw,SM]at WI;rw[DS,Db]at g3;rw[Qw]at HZ;rw[DS]at g2;rw[SM];exact⟨⟨_,WI,rfl⟩,h _ WI g3 HZ ⟨_,g1,rfl,rfl⟩ ⟨_,g2,rfl,rfl⟩ fc λc o x=>
  DE _ (DE _ (DE _ (DE _ (DE _ x))))⟩
noncomputable def hr(K:AY)(x:Str)(l:A7):It:=⟨λi H=>i<x.cps.size/\∃ys y,CK K H l ys/\ys[i]?=some y,
 λi H v H'=>∃p c y,x.cps[i]?=some c/\H p=none/\H'=upd H p (.tup [.str ⟨#[c]⟩,y])/\v=.ref p/\∀ys,CK K H l ys->ys[i]?=some y,
 λi H=>∃ys,CK K H l ys/\i=min x.cps.size ys.length⟩
structure jM(z TI C9 BZ C0:A7):Prop where
 TIz:TI≠z
 TOz:C9≠z
 TITO:TI≠C9
 TIi1:TI≠BZ
 TIi2:TI≠C0
 TOi1:C9≠BZ
 TOi2:C9≠C0
 i1z:BZ≠z
 i2z:C0≠z
 i12:BZ≠C0
def aeJ{P:Bu}{w:Bh}{K:AY}{elts:List AT}{kk:Nat}{pos:Pos}(x:Str)(t:Tok)(l z TI C9 BZ C0:A7)(ap:jM z TI C9 BZ C0) :
  Turn P w K (.Tuple elts kk pos) (hr K x l) [z,TI,C9,BZ,C0] z (λi h=>Ir h z TI C9 .none/\Gq h TI (.ref BZ) (.ref C0)/\(∃a b,Gq h C9 a b)/\h.IsStrIter BZ (LW x) x t i/\h.IsTupleIter C0 l i) where
 mem:=by simp
 obj:=λi h st b A0=>by
  obtain⟨Ar,IY,⟨a,LN,J3⟩,⟨Cw,A9,BX,d1⟩,DA,AG,Ev,Cq⟩:=st;have A0:b=z\/b=TI\/b=C9\/b=BZ\/b=C0:=by simpa using A0
  rcases A0 with q|q|q|q|q<;>subst q
  .exact⟨_,Ar,λv z=>by have GA:Y7 _=T1 v:=z;cases GA⟩
  .exact⟨_,IY,λv z=>by have GA:Data.seq _ _=T1 v:=z;cases GA⟩
  .exact⟨_,J3,λv z=>by have GA:Data.seq _ _=T1 v:=z;cases GA⟩
  .exact⟨Cw,A9,λv z=>by rw[d1]at z;cases z⟩
  .exact⟨DA,AG,λv z=>by rw[Cq]at z;cases z⟩
 keep:=λi h h' st k=>by obtain⟨Ar,IY,⟨a,LN,J3⟩,⟨Cw,A9,AK⟩,DA,AG,B4⟩:=st;exact⟨k z (by simp) _ Ar,k TI (by simp) _ IY,⟨a,LN,k C9 (by simp) _ J3⟩,⟨Cw,k BZ (by simp) _ A9,AK⟩,DA,k C0 (by simp) _ AG,B4⟩
 item:=by
  intro X Cn hw Ao AO i pins s σ H E I hf st Ah;subst Cn hw Ao;obtain⟨AC,ys,y,AX,Bf⟩:=Ah;obtain⟨its,CE,Av,wf⟩:=I.tuple AX;obtain⟨Ar,IY,⟨a,LN,J3⟩,Zu,Fq⟩:=st;have nl:∀b∈[z,TI,C9,BZ,C0],l≠b:=λb A0 q=>by
   subst q;rcases AX with(h|⟨o,h⟩)|⟨o,xB,n,h,_⟩
   .rw[(hf l A0).1]at h;cases h
   .rw[(hf l A0).1]at h;cases h
   .have h1:=I.ok.mod.JP l o h;rcases(hf l A0).2.2.2.1 with q|q
    .exact I.ok.SX l o h1 q
    .exact absurd (I1 (DT (I.ok.bs l o h1).1) q) (JC _)
  have BD:X.A.in1.handled=none:=I.ok.hd AO;have I4:=kH (prog:=X.prog) (w:=X.w) (A:=X.A.in1) BD BZ x t;have Hn:=kI (prog:=X.prog) (w:=X.w) (A:=X.A.in1) BD C0 l (nl C0 (by simp)) its.toArray;have hlen:=CE.length;have dT:i<ys.length:=(List.getElem?_eq_some_iff.mp Bf).1
  have Pg:T6 z TI C9 BZ C0 [BZ] [C0,l]:=⟨ap.TIz,ap.TOz,ap.TITO,ap.TIi1,ap.TIi2,ap.TOi1,ap.TOi2,ap.i1z,ap.i2z,ap.i12,by simpa using ap.i1z.symm,by simpa using ap.TOi1,by simpa using ap.i12.symm,
   by simp only[PV,N1,or_false,not_or];exact⟨ap.i2z.symm,(nl z (by simp)).symm⟩,by simp only[PV,N1,or_false,not_or];exact⟨ap.TOi2,(nl C9 (by simp)).symm⟩,by simp only[PV,N1,or_false,not_or];exact⟨ap.i12,(nl BZ (by simp)).symm⟩⟩
  refine ab3 I4 Hn Pg Ar IY J3 Zu ⟨Fq,Av⟩ AC (by rw[Dx,<-hlen];exact dT) λMq Ii h' C8 Eh Cu a1 a2 I7 OR S5 T7 AL=>?_;obtain⟨c,t1,v6,rfl⟩:=Eh;obtain⟨FV,Vo,Fb⟩:=CE.get Bf;have Ko:FV=Ii:=by rw[rz]at Cu;rw[Vo]at Cu;exact FA Cu
  subst Ko;refine⟨_,rfl,?_⟩;refine wpAny_letOwnedTupleGo_zip a1 λh2 cr U9=>?_;have acp:∀b∈[z,TI,C9,BZ,C0],b<s.heap.objs.size:=λb A0=>by
   have A0:b=z\/b=TI\/b=C9\/b=BZ\/b=C0:=by simpa using A0
   obtain⟨Cw,A9,_⟩:=Zu;obtain⟨DA,AG,_⟩:=Fq;rcases A0 with q|q|q|q|q<;>subst q
   .exact DT Ar
   .exact DT IY
   .exact DT J3
   .exact DT A9
   .exact DT AG
  have nB:∀b∈[z,TI,C9,BZ,C0],b≠s.heap.objs.size:=λb A0=>Fe (acp b A0);have keep:∀b o,b∉[z,C9,BZ,C0]->s.heap.get? b=some o->h2.get? b=some o:=λb o A0 q=>by have A0:¬(b=z\/b=C9\/b=BZ\/b=C0):=λw=>A0 (by simpa using w);exact U9.extBut b o (λw=>A0 (.inl w)) (AL b o (λw=>A0 (.inl w)) (λw=>A0 (.inr (.inl w))) (λw=>A0 (.inr (.inr (.inl w)))) (λw=>A0 (.inr (.inr (.inr w)))) q)
  have Vn:Xp h2 s.heap.objs.size ([.str ⟨#[c]⟩ t1,FV]:List A4).toArray:=⟨_,U9.extBut _ _ (nB z (by simp)).symm S5,rfl,_,rfl⟩;have AS:H s.heap.objs.size=none:=I.Ba.fresh (CY _);have Bo:Inv X pins σ (upd H s.heap.objs.size (.tup [.str ⟨#[c]⟩,y])) { s with heap:=h2,toks:=C8 }:=I.gL (its:=[.str ⟨#[c]⟩ t1,FV]) (ch:=[z,C9,BZ,C0]) keep (λb A0=>hf b (by
   have A0:b=z\/b=C9\/b=BZ\/b=C0:=by simpa using A0
   rcases A0 with q|q|q|q<;>simp[q])) (CY _) Vn (.cons ⟨t1,rfl⟩ (.cons Fb .nil)) (by show 2<=CF;decide)
  refine⟨.ref s.heap.objs.size,_,Bo,rfl,⟨s.heap.objs.size,c,y,v6,AS,rfl,rfl,λzs wh=>by rw[I.gK wh AX];exact Bf⟩,?_,λb A0=>?_⟩
  .refine⟨cr,U9.extBut _ _ ap.TIz (AL _ _ ap.TIz ap.TITO ap.TIi1 ap.TIi2 IY),⟨_,_,U9.extBut _ _ ap.TOz a2⟩,?_,?_⟩
   .obtain⟨Cw,A9,AK⟩:=I7;exact⟨Cw,U9.extBut _ _ ap.i1z A9,AK⟩
   .obtain⟨⟨DA,AG,B4⟩,_⟩:=OR;exact⟨DA,U9.extBut _ _ ap.i2z AG,B4⟩
  .rw[Da (nB b A0)];exact(hf b A0).1
 done:=by
  intro X Cn hw Ao AO i pins s σ H E I hf st Ah;subst Cn hw Ao;obtain⟨ys,AX,AC⟩:=Ah;obtain⟨its,CE,Av,wf⟩:=I.tuple AX;obtain⟨Ar,IY,⟨a,LN,J3⟩,Zu,Fq⟩:=st;have nl:∀b∈[z,TI,C9,BZ,C0],l≠b:=λb A0 q=>by
   subst q;rcases AX with(h|⟨o,h⟩)|⟨o,xB,n,h,_⟩
   .rw[(hf l A0).1]at h;cases h
   .rw[(hf l A0).1]at h;cases h
   .have h1:=I.ok.mod.JP l o h;rcases(hf l A0).2.2.2.1 with q|q
    .exact I.ok.SX l o h1 q
    .exact absurd (I1 (DT (I.ok.bs l o h1).1) q) (JC _)
  have BD:X.A.in1.handled=none:=I.ok.hd AO;have I4:=kH (prog:=X.prog) (w:=X.w) (A:=X.A.in1) BD BZ x t;have Hn:=kI (prog:=X.prog) (w:=X.w) (A:=X.A.in1) BD C0 l (nl C0 (by simp)) its.toArray;have hlen:=CE.length
  have Pg:T6 z TI C9 BZ C0 [BZ] [C0,l]:=⟨ap.TIz,ap.TOz,ap.TITO,ap.TIi1,ap.TIi2,ap.TOi1,ap.TOi2,ap.i1z,ap.i2z,ap.i12,by simpa using ap.i1z.symm,by simpa using ap.TOi1,by simpa using ap.i12.symm,
   by simp only[PV,N1,or_false,not_or];exact⟨ap.i2z.symm,(nl z (by simp)).symm⟩,by simp only[PV,N1,or_false,not_or];exact⟨ap.TOi2,(nl C9 (by simp)).symm⟩,by simp only[PV,N1,or_false,not_or];exact⟨ap.i12,(nl BZ (by simp)).symm⟩⟩
  refine ab2 I4 Hn Pg Ar IY J3 Zu ⟨Fq,Av⟩ ?_ λh' C8 kk=>⟨rfl,I.We (ch:=[z,C9,BZ,C0]) (λb o A0 q=>?_) λb A0=>hf b ?_⟩
  .have A6:its.toArray.size=its.length:=by simp
   rw[A6,<-hlen];lia
  .have A0:¬(b=z\/b=C9\/b=BZ\/b=C0):=λw=>A0 (by simpa using w);exact kk b o (λw=>A0 (.inl w)) (λw=>A0 (.inr (.inl w))) (λw=>A0 (.inr (.inr (.inl w)))) (λw=>A0 (.inr (.inr (.inr w)))) q
  .have A0:b=z\/b=C9\/b=BZ\/b=C0:=by simpa using A0
   rcases A0 with q|q|q|q<;>simp[q]
 self:=λA i s Q E st h=>wpAny_pyIter_zip st.1 h
section
variable{X:Af}{elts:List AT}{kk:Nat}{Qo:Pos}
def aex(n:Nat):jM (n+4) (n+2) (n+3) n (n+1):=
 ⟨(show n+2≠n+4 from Fe (show(n+2:Nat)<n+4 by lia)),
  (show n+3≠n+4 from Fe (show(n+3:Nat)<n+4 by lia)),
  (show n+2≠n+3 from Fe (show(n+2:Nat)<n+3 by lia)),
  (show n+2≠n from My (show(n:Nat)<n+2 by lia)),
  (show n+2≠n+1 from My (show(n+1:Nat)<n+2 by lia)),
  (show n+3≠n from My (show(n:Nat)<n+3 by lia)),
  (show n+3≠n+1 from My (show(n+1:Nat)<n+3 by lia)),
  (show n≠n+4 from Fe (show(n:Nat)<n+4 by lia)),
  (show n+1≠n+4 from Fe (show(n+1:Nat)<n+4 by lia)),
  (show n≠n+1 from Fe (show(n:Nat)<n+1 by lia))⟩
def lh(K:AY)(C3:FC):TI:=λσ H R=>C3 σ H λvs H1=>∃x l,vs=[.str x,.ref l]/\(∃ys,CK K H1 l ys)/\R (hr K x l) H1
def abN{a b:AT}{C3:FC}{p pos:Pos}(Ah:EL X "zip")(hm:X.mg "zip"=none)(AB:Gf X [a,b] C3)(AN:BF [a,b] X.env=[(false,BK a X.env),(false,BK b X.env)]:=by rfl)(Fq:BF [b] X.env=[(false,BK b X.env)]:=by rfl) :
  GS X (.Tuple elts kk Qo) (.Call (.Name "zip" p) [a,b] [] pos) (lh X.K C3):=by
 have A0:LU "zip"=some (.type "zip"):=by kernel_rfl
 intro pins s σ H R I h;refine ru (Oj I Ah hm A0 (Qz (Bb (AB pos pins s σ H _ I h) λus s1⟨vs,H1,B5,AK,An⟩=>?_) (by rw[AN,Fq]) (by rw[Fq];rfl)));obtain⟨x,l,e,⟨ys,AX⟩,q⟩:=An;subst e;obtain⟨u,Ii,rfl,⟨t,rfl⟩,Fb⟩:=vals2 AK;cases Fb;obtain⟨its,CE,Av,Ar⟩:=B5.tuple AX;refine t8 (show s1.heap.IsTuple l its.toArray from Av) λh' a1 a2 I7 OR S5 T7 AL=>?_;have Bo:Inv X pins σ H1 { s1 with heap:=h' }:=B5.kept (t':=s1.toks) AL;refine wpAny_pyIter_zip a1 ?_;refine⟨s1.heap.objs.size+4,[s1.heap.objs.size+4,s1.heap.objs.size+2,s1.heap.objs.size+3,s1.heap.objs.size,s1.heap.objs.size+1],_,_,H1,rfl,Bo,aeJ x t l _ _ _ _ _ (aex s1.heap.objs.size),⟨a1,a2,⟨_,_,I7⟩,OR,S5⟩,λb A0=>?_,q⟩;have A0:s1.heap.objs.size<=b:=by
  have A0:b=s1.heap.objs.size+4\/b=s1.heap.objs.size+2\/b=s1.heap.objs.size+3\/b=s1.heap.objs.size\/b=s1.heap.objs.size+1:=by simpa using A0
  rcases A0 with q|q|q|q|q
  .rw[q];exact Un _ _
  .rw[q];exact Un _ _
  .rw[q];exact Un _ _
  .rw[q];exact CY _
  .rw[q];exact Un _ _
 exact B5.Oa A0 (B5.Ba.fresh A0)
end
end C2
namespace Cm
open PySem PySem.Spec C2
section
variable{X:Af}{F:BA}{e a b c Bt iter elt:AT}{A6:List AT}{pos p:Pos}{m n:Ag}{ma:B6}
def GI(c:Nat):D:=.str ⟨#[c]⟩
def eY:D->R (List D)
 |.str x=>.ok (x.cps.toList.map GI)
 |_=>.bad
def xD{K:AY}{G:AA}(x:Str):MF K (hp x) (x.cps.toList.map GI) G where
 go:=λi H s AC=>by
  have h:i<x.cps.size:=by simpa using AC
  exact h
 Jg:=λi H v H' s AC y=>by obtain⟨e,c,AO,rfl⟩:=y;refine⟨GI c,?_,.inl ⟨e,by unfold GI;simp only[At]⟩⟩;rw[ER,Ud,AO];rfl
 stop:=λH s=>by
  have h:(x.cps.toList.map GI).length=x.cps.size:=by simp
  exact h
def WA(m:Ag):B6:=λρ=>(m ρ).bind eY
def xV:ON (Kk F (WA m)) (mV (Ck F m)):=by
 rintro σ H Q ⟨G,ρ,r,h⟩;unfold WA at h;refine⟨G,ρ,r,?_⟩;refine rb h λd Aw h v H1 Al AK s1 a=>?_;cases d with
 |str x=>simp only[At]at a;exact⟨x,a,h _ H1 Al AK s1 (xD x)⟩
 |_=>cases h
def QZ(ds:List D):List D:=ds.zipIdx.map λp=>.tup [.int (p.2:Int),p.1]
def uA{ds:List D}{i:Nat}{d:D}(e:ds[i]?=some d):(QZ ds)[i]?=some (.tup [.int (i:Int),d]):=by unfold QZ;rw[ER,List.getElem?_zipIdx,e];simp
def Tz:List D->R (List D)
 |[.lst ds]=>.ok (QZ ds)
 |[.Cc ds]=>.ok (QZ ds)
 |_=>.bad
def m3{K:AY}{G:AA}{l:A7}{ds:List D}{xs:List V}(h:C4 K G l xs)(q:A_ K G ds xs):MF K (hl K l) (QZ ds) G where
 go:=λi H s AC=>by
  have AC:i<ds.length:=by simpa[QZ]using AC
  obtain⟨v,e,_⟩:=q.get (E8 AC);exact⟨xs,v,C4.mono s h,e⟩
 Jg:=λi H v H' s AC y=>by obtain⟨p,x,Ad,rfl,rfl,y⟩:=y;have ex:=y xs (C4.mono s h);obtain⟨d,e,a⟩:=q.WL ex;exact⟨_,uA e,.inr ⟨p,_,_,Ad,rfl,rfl,rfl,λAl s1 _=>.cons (by simp only[At]) (.cons (a.mono s1) .nil)⟩⟩
 stop:=λH s=>⟨xs,C4.mono s h,by simp[QZ,q.length]⟩
def W9(m:B6):B6:=λρ=>(m ρ).bind Tz
def wE(Ao:F.K=X.K):ON (Kk F (W9 ma)) (mQ X.K (F7 F ma)):=by
 rintro σ H Q ⟨G,ρ,r,h⟩;unfold W9 at h;refine⟨G,ρ,r,?_⟩;refine rb h λds Aw h vs H1 Al AK s1 al=>?_;unfold Tz at h
 split at h
 .rename_i ds;obtain⟨v,rfl,a⟩:=al.one;simp only[At]at a;obtain⟨q,xs,rfl,AX,F2⟩:=a;have GJ:C4 X.K Al q xs:=C4.of AX;rw[<-Ao]at GJ;refine⟨q,rfl,⟨xs,by rw[<-Ao];exact C4.mono AK.kp.sub GJ⟩,?_⟩;rw[<-Ao];exact h _ H1 Al AK s1 (m3 GJ F2)
 .rename_i ds;obtain⟨v,rfl,a⟩:=al.one;simp only[At]at a;obtain⟨q,xs,rfl,AX,F2⟩:=a;refine⟨q,rfl,⟨xs,by rw[<-Ao];exact C4.mono AK.kp.sub AX⟩,?_⟩;rw[<-Ao];exact h _ H1 Al AK s1 (m3 AX F2)
 .exact h.elim
def SN(xs:List Nat)(ys:List D):List D:=(xs.zip ys).map λp=>.tup [GI p.1,p.2]
def rD:List D->R (List D)
 |[.str x,.EF ys]=>.ok (SN x.cps.toList ys)
 |_=>.bad
def xE{K:AY}{G:AA}{x:Str}{l:A7}{ds:List D}{xs:List V}(h:CK K G l xs)(q:A_ K G ds xs):MF K (hr K x l) (SN x.cps.toList ds) G where
 go:=λi H s AC=>by
  have AC:i<min x.cps.size ds.length:=by simpa[SN]using AC
  have h1:i<ds.length:=by lia
  obtain⟨v,e,_⟩:=q.get (E8 h1);exact⟨by lia,xs,v,CK.mono s h,e⟩
 Jg:=λi H v H' s AC y=>by
  obtain⟨p,c,SK,AO,Ad,rfl,rfl,y⟩:=y;have ex:=y xs (CK.mono s h);obtain⟨d,e,a⟩:=q.WL ex;refine⟨.tup [GI c,d],?_,.inr ⟨p,_,_,Ad,rfl,rfl,rfl,λAl s1 _=>.cons (by unfold GI;simp only[At]) (.cons (a.mono s1) .nil)⟩⟩;unfold SN;rw[ER];have Rc:(x.cps.toList.zip ds)[i]?=some (c,d):=by rw[rm];exact⟨by rw[Ud];exact AO,e⟩
  rw[Rc];rfl
 stop:=λH s=>⟨xs,CK.mono s h,by simp[SN,q.length]⟩
def ZV(m:B6):B6:=λρ=>(m ρ).bind rD
def xb(Ao:F.K=X.K):ON (Kk F (ZV ma)) (lh X.K (F7 F ma)):=by
 rintro σ H Q ⟨G,ρ,r,h⟩;unfold ZV at h;refine⟨G,ρ,r,?_⟩;refine rb h λds Aw h vs H1 Al AK s1 al=>?_;unfold rD at h
 split at h
 .rename_i x ys;obtain⟨v,w,rfl,B8,OT⟩:=al.two;simp only[At]at B8 OT;subst B8;obtain⟨q,xs,rfl,AX,F2⟩:=OT;refine⟨x,q,rfl,⟨xs,by rw[<-Ao];exact CK.mono AK.kp.sub AX⟩,?_⟩;rw[<-Ao];exact h _ H1 Al AK s1 (xE AX F2)
 .exact h.elim
structure GM(X:Af)(Bt:AT)(set:D->AF->R AF):Prop where
 ex:∃g,K8 X Bt g/\∀F:BA,F.K=X.K->Pp F g set
 Ie:∀d ρ c,set d ρ≠.exc c
 keeps:Keeps set
def Ex(i:Nat){x:Str}(hN:X.N.Nodup)(AC:X.N[i]?=some x:=by rfl)(AH:Loc X.env.scope x:=by first|exact Dq rfl|exact Ch rfl)(hf:X.fn x=true\/X.env.scope.names.lookup x=some .local:=by first|exact .inl rfl|exact .inr rfl):GM X (.Name x pos) (BL i):=
 ⟨⟨KD i,ay hN AC AH hf,λ_ _=>YS i⟩,aU i,aT i⟩
structure YG(X:Af)(acb:List AT)(As:List (D->AF->R AF)):Prop where
 ex:∃g,VP X acb g/\∀F:BA,F.K=X.K->VJ F g (Hx As)
 Ie:∀f∈As,∀d ρ c,f d ρ≠.exc c
 keeps:∀f∈As,Keeps f
def SV:YG X [] []:=⟨⟨YQ,oj,λ_ _=>kn⟩,(λ_ h=>nomatch h),(λ_ h=>nomatch h)⟩
def Ic{f:D->AF->R AF}{As:List (D->AF->R AF)}(h:GM X e f)(t:YG X A6 As)(AN:(LY (e::A6) X.env).map (·.2)=Ke e X.env::(LY A6 X.env).map (·.2):=by rfl):YG X (e::A6) (f::As):=by obtain⟨⟨g,h1,h2⟩,h3,h4⟩:=h;obtain⟨⟨MV,t1,D_⟩,t3,WY⟩:=t;exact⟨⟨WJ g MV,dz h1 t1 AN,λF N_=>dB (h2 F N_) (D_ F N_)⟩,λk AL=>by rcases List.mem_cons.mp AL with rfl|AL;exact h3;exact t3 k AL,λk AL=>by rcases List.mem_cons.mp AL with rfl|AL;exact h4;exact WY k AL⟩
def SW{k:Nat}{As:List (D->AF->R AF)}(AO:X.calm=true)(h:YG X A6 As)(AS:(LY A6 X.env).length=As.length:=by rfl)(OD:(LY A6 X.env).findIdx? (·.1)=none:=by rfl):GM X (.Tuple A6 k pos) (Fj As):=by obtain⟨⟨MV,t1,D_⟩,t3,WY⟩:=h;exact⟨⟨YR X.K As.length MV,oi AO t1 AS OD,λF N_=>by rw[<-N_];exact ko rfl (D_ F N_)⟩,p7 t3,p6 WY⟩
abbrev iH(X:Af)(scope:ED)(N:List Str)(e:AT)(m:Ag):Prop:=∀cl C s H Ak G0 H0,Jj (Fp X scope N cl C s H Ak) (Gk X.K G0 H0) e m
abbrev Pl(X:Af)(scope:ED)(N:List Str)(ifs:List AT)(m:CR):Prop:=∀cl C s H Ak G0 H0,Ps (Fp X scope N cl C s H Ak) ifs (HQ (Gk X.K G0 H0) m)
abbrev YJ(X:Af)(scope:ED)(N:List Str)(Bt:AT)(set:D->AF->R AF):Prop:=∃g,(∀cl C s H Ak,K8 (Fp X scope N cl C s H Ak) Bt g)/\(∀G0 H0,Pp (Gk X.K G0 H0) g set)
def j1{scope:ED}{N:List Str}{g:IR}{set:D->AF->R AF}(h:∀cl C s H Ak,K8 (Fp X scope N cl C s H Ak) Bt g)(k:∀F:BA,F.K=X.K->Pp F g set):YJ X scope N Bt set:=⟨g,h,λG0 H0=>k (Gk X.K G0 H0) rfl⟩
def F5:CR:=λ_=>.ok true
def KA{scope:ED}{N:List Str}:Pl X scope N [] F5:=λcl C s H Ak G0 H0 pins s' σ H' Q I h=>by obtain⟨G,ρ,r,k⟩:=h;exact aat pins s' σ H' Q I (k H' G r (Bw.refl _ _))
def tY{scope:ED}{N:List Str}{mt:CR}(h:∀cl C s H Ak G0 H0,jI (Fp X scope N cl C s H Ak) (Gk X.K G0 H0) c mt):Pl X scope N [c] mt:=λcl C s H Ak G0 H0=>aau (h cl C s H Ak G0 H0)
def ij{scope:ED}{N:List Str}{ifs:List AT}{nl:Nat}{caps:List Nat}{mi:B6}{set:D->AF->R AF}{mt:CR}{Gw:Ag}(Ao:F.K=X.K)(AC:iN X F Bt iter mi)(Ah:YJ X scope N Bt set)(Av:Pl X scope N ifs mt)(he:iH X scope N elt Gw)(AH:∀d ρ c,set d ρ≠.exc c)(AL:Keeps set){Q:TE->Prop}(k:∀g,(∀cl C s H Ak,K8 (Fp X scope N cl C s H Ak) Bt g)->(∀cl C s H Ak,Ps (Fp X scope N cl C s H Ak) ifs (ft X.K mt))->(∀cl C s H Ak,Ay (Fp X scope N cl C s H Ak) elt (fs X.K Gw))->Ep (IH F (Dm nl caps mi set mt Gw)) (ab (Kk F mi) g (ft X.K mt) (fs X.K Gw) nl caps)->Q (IH F (Dm nl caps mi set mt Gw))):Q (IH F (Dm nl caps mi set mt Gw)):=by
 obtain⟨g,g1,g2⟩:=Ah;refine k g g1 (λcl C s H Ak pins s' σ H' Rz I h=>?_) (λcl C s H Ak pins s' σ H' Rz I h=>?_) ?_
 .obtain⟨G0,H0,h⟩:=h;exact Av cl C s H Ak G0 H0 pins s' σ H' Rz I h
 .obtain⟨G0,H0,h⟩:=h;exact he cl C s H Ak G0 H0 pins s' σ H' Rz I h
 .have z:=w8 (F:=F) (nl:=nl) (caps:=caps) (mi:=mi) (tst:=mt) (elt:=Gw) (g:=g) (set:=set) (λG0 H0=>by rw[Ao];exact g2 G0 H0) AH AL;rw[Ao]at z;exact z
def aaC{scope:ED}{N:List Str}{ifs:List AT}{nl:Nat}{caps:List Nat}{mi:B6}{set:D->AF->R AF}{mt:CR}{Gw:Ag}(S:NI X.env.scope X.N scope N nl caps)(AC:iN X F Bt iter mi)(Ah:YJ X scope N Bt set)(AH:∀d ρ c,set d ρ≠.exc c)(AL:Keeps set)(Av:Pl X scope N ifs mt)(he:iH X scope N elt Gw)(AO:X.calm=true:=by rfl)(Ao:F.K=X.K:=by rfl)(AN:∀x,PO iter X.env x=pure x:=by intro _;rfl):iW X F (.ListComp elt [⟨Bt,iter,ifs,0⟩] scope pos) (Dm nl caps mi set mt Gw):=
 ij (nl:=nl) (caps:=caps) (Q:=λt=>Ay X (.ListComp elt [⟨Bt,iter,ifs,0⟩] scope pos) t) Ao AC Ah Av he AH AL λg g1 t1 A9 imp=>Ay.imp (zb S AO AC g1 t1 A9 AN) imp
end
section
variable{X:Af}{F:BA}{e a b c:AT}{A6:List AT}{pos p:Pos}{m n:Ag}{ma:B6}
def RV:List D->Option (List Bool)
 |[]=>some []
 |.Aa b::r=>(RV r).map (b::·)
 |_::_=>none
theorem j4{K:AY}{G:AA}:∀{ds:List D}{xs:List V}{bs:List Bool},A_ K G ds xs->RV ds=some bs->xs=bs.map V.Aa
 |[],_,_,q,e=>by simp only[A_]at q;subst q;cases e;rfl
 |d::ds,_,bs,q,e=>by
  simp only[A_]at q;obtain⟨v,r,rfl,a,MO⟩:=q;cases d with
  |Aa b=>
   simp only[At]at a;subst a;simp only[RV]at e;cases A9:RV ds with
   |none=>rw[A9]at e;cases e
   |some cs=>rw[A9]at e;have Bi:b::cs=bs:=FA e;subst Bi;rw[j4 MO A9];rfl
  |_=>cases e
theorem qL:∀{bs:List Bool}{us:List A4},Vals (bs.map V.Aa) us->us=bs.map T3
 |[],_,r=>by cases r;rfl
 |b::bs,_,r=>by
  cases r with
  |cons AK B4=>cases AK;rw[qL B4];rfl
def tj(AO:X.calm=true)(U6:X.A.handled=none):I3 X (.builtin "all") (λxs H Q=>∃(p:A7)(bs:List Bool),xs=[.ref p]/\C4 X.K H p (bs.map V.Aa)/\Q (.Aa (bs.all id)) H):=by
 intro pins s σ H xs us Q I r h;obtain⟨p,bs,rfl,AX,q⟩:=h;obtain⟨u,rfl,Fb⟩:=vals1 r;cases Fb;obtain⟨its,CE,pl,Ar⟩:=I.list AX;have G4:=qL CE;refine call_all_walk (hD pl.isList ?_);have OA:p≠s.heap.objs.size:=by obtain⟨o,AM,_⟩:=pl.isList;exact Fe (DT AM)
 refine⟨s.heap.objs.size,_,_,_,_,_,λi=>(bs[i]?).getD true,rfl,Walks.list (prog:=X.prog) (w:=X.w) (A:=X.A.in1) U6 s.heap.objs.size p OA its.toArray,⟨⟨_,FK _ rfl,rfl,rfl⟩,pl.isList.push _⟩,?_,λh' C8 kk=>?_⟩
 .intro i v s' Rz iJ Cn dH;rw[G4]at Cn;have Cn:(bs.map T3)[i]?=some v:=by simpa using Cn
  rw[ER]at Cn;cases Bi:bs[i]? with
  |none=>rw[Bi]at Cn;cases Cn
  |some b=>rw[Bi]at Cn;have ev:T3 b=v:=FA Cn;subst ev;dsimp only at dH;rw[Bi]at dH;exact LR dH
 .have U4:(EY its.toArray.size).all (λi=>(bs[i]?).getD true)=bs.all id:=by
    have AQ:its.toArray.size=bs.length:=by rw[G4];simp
    rw[AQ,N5,Sw,Sw];constructor
    .intro BD x AH;obtain⟨i,AC,rfl⟩:=List.mem_iff_getElem.mp AH;have:=BD i (List.mem_range.mpr AC);rw[E8 AC]at this;exact this
    .intro BD i AC;have AC:=List.mem_range.mp AC;rw[E8 AC];exact BD _ (N2 AC)
  rw[U4];exact⟨.Aa _,H,I.kept (t':=C8) λb o AG=>kk b o (by
   intro z;have z:b=s.heap.objs.size:=by simpa using z
   exact absurd (DT AG) (by rw[z];exact JC _)) (DE _ AG),rfl,q⟩
def CM:List D->R D
 |[.lst ds]=>match RV ds with|some bs=>.ok (.Aa (bs.all id))|none=>.bad
 |_=>.bad
def aaH:OK F (λxs H Q=>∃(p:A7)(bs:List Bool),xs=[.ref p]/\C4 X.K H p (bs.map V.Aa)/\Q (.Aa (bs.all id)) H) CM:=by
 intro σ ρ G H xs ds Q r al k;unfold CM at k
 split at k
 .rename_i ds
  split at k
  .rename_i bs Bi;obtain⟨v,rfl,B8⟩:=al.one;simp only[At]at B8;obtain⟨q,xs,rfl,AX,F2⟩:=B8;have:=j4 F2 Bi;subst this;exact⟨q,bs,rfl,C4.of (r.kp.sub _ _ AX),k _ H G r (Bw.refl _ _) (by simp only[At])⟩
  .exact k.elim
 .exact k.elim
end
section
variable{X:Af}{F:BA}{e a b c:AT}{A6:List AT}{pos p:Pos}{m n:Ag}{ma:B6}
def ownAt(i:Nat)(ρ:AF):R (List D):=match ρ[i]? with
 |some (.ob (.lst ds))=>.ok ds
 |_=>.bad
def GX(i:Nat)(m:Ag):Aq:=λρ=>(ownAt i ρ).bind λds=>(m ρ).bind λd=>if ds.length<1000000 then .ok (.BC (ρ.set i (.C5 (ds++[d]))))else .bad
end
abbrev Mn(K:AY)(n:Nat)(mf:List D->R CI):B9:=UR K n (λ_ _ _=>False) mf
structure EG(P:Bu)(w:Bh)(K:AY)(mg:Str->Option A4)(base:BH)(x:Str)(n k:Nat)(mf:List D->R CI):Prop where
 ex:∃(f:A7)(fd:GD)(Ap:List Str),Ap.length=n/\Gd P w K mg base Gb k f fd Ap (Mn K n mf)/\mg x=some (.ref f)/\K3 K (.ref f)=true/\Binds K fd Ap []
section
variable{X:Af}{F:BA}{e:AT}{A6:List AT}{pos p:Pos}{ma:B6}{x:Str}{n k:Nat}{mf:List D->R CI}
end
structure EE(K:AY)(mg:Str->Option A4)(x:Str)(st:BW)(Ap:List Str):Prop where
 ex:∃(f:A7)(fd:GD),MD K x x st f fd/\mg x=some (.ref f)/\Binds K fd Ap []
def sq{P:Bu}{w:Bh}{K:AY}{mg:Str->Option A4}{base:BH}{x:Str}{st:BW}{N Ap:List Str}{k:Nat}{m:Aq}(d:EE K mg x st Ap)(S:D2 N Ap (Bx st))(h:∀(f:A7)(CA:A4)(A:CG)(outer:List Env)(s:AP)(H:AA)(E:DL),Dy k (A.deeper (Mw x (Bx st) s.heap.objs.size f CA))->∀G0 H0,sk (Iy Gb P w K mg base N x (Bx st) f CA A outer s H E).KP (Gk K G0 H0) (GU st) m) :
  EG P w K mg base x Ap.length (k+1) (Dh N.length m):=by
 obtain⟨f,fd,fn,hm,A0⟩:=d.ex;refine⟨f,fd,Ap,rfl,fn.ok S eb λCA A outer s H vs Q E AI AN=>?_,hm,fn.kp,A0⟩;obtain⟨G,Av⟩:=cK AN;exact⟨_,h f CA A outer s H E AI G H,Av⟩
def tn{K:AY}{h:BH}{mg:Str->Option A4}{x:Str}{st:BW}{Ap:List Str}{f:A7}{Fi:A4}{Du an:Option A7}{Nd:Array (Option A4)}{D9 doc pm CA DB:A4}(X:K.In h)(G:h.Ns E4 mg)(a:Fg K E4 x=some (some (.ref f)))(l:K.lookup f=some ⟨Fi,Du,.func (JI x x (Kn st) (GU st) (Bx st) .none D9 doc pm an CA DB),Nd⟩)(c:PS K CA x=true)(k:K3 K (.ref f)=true)(b:∀(D9 doc pm:A4)(an:Option A7)(CA DB:A4)(us:List A4),us.length=Ap.length->T4 (JI x x (Kn st) (GU st) (Bx st) .none D9 doc pm an CA DB) ⟨us,[]⟩=pure (Ap.zip us)):EE K mg x st Ap:=
 ⟨f,_,Rf (st:=st) l c k,O2 X G a,(Rf (st:=st) l c k).binds b⟩
def xq{K:AY}{mf:List D->R CI}{H:AA}{a:A7}{ns:List Int}(Jy:C4 K H a (ns.map V.int))(h:mf [.Cc (ns.map .int)]=.ok (.v (.Aa true)))(E:DL):Mn K 1 mf [.ref a] H (λv _=>v=.Aa true) E:=by
 refine⟨H,[.Cc (ns.map .int)],Sub.refl _,.cons ?_ .nil,rfl,?_⟩
 .simp only[At];refine⟨a,_,rfl,Jy,?_⟩;induction ns with
  |nil=>exact .nil
  |cons n r C6=>exact .cons (by simp only[At]) (a3 r)
 .rw[h];intro v G' H' _ B8;simp only[At]at B8;exact B8
where
 a3 {K:AY} {H:AA}:∀r:List Int,A_ K H (r.map .int) (r.map V.int)
  |[]=>.nil
  |n::r=>.cons (by simp only[At]) (a3 r)
section
variable{X:Af}{F:BA}{e a b c Bt iter elt:AT}{A6:List AT}{pos p:Pos}{m n:Ag}{ma:B6}{scope:ED}{N:List Str}
structure VH(X:Af)(scope:ED)(N:List Str)(Bt:AT)(set:D->AF->R AF):Prop where
 g:YJ X scope N Bt set
 BC:∀d ρ c,set d ρ≠.exc c
 kp:Keeps set
def Jv(i:Nat){x:Str}(hN:N.Nodup:=by decide+kernel)(AC:N[i]?=some x:=by rfl)(AQ:(M0 scope X.env).names.lookup x=some .local:=by rfl):VH X scope N (.Name x pos) (BL i):=
 ⟨j1 (g:=KD i) (λcl C s H Ak=>ay (X:=Fp X scope N cl C s H Ak) hN AC (.inl AQ) (.inr AQ)) λF _=>YS i,aU i,aT i⟩
def tT(i j:Nat){x y:Str}{Az py:Pos}{k:Nat}(AO:X.calm=true:=by rfl)(hN:N.Nodup:=by decide+kernel)(AC:N[i]?=some x:=by rfl)(By:N[j]?=some y:=by rfl)(AQ:(M0 scope X.env).names.lookup x=some .local:=by rfl)(hm:(M0 scope X.env).names.lookup y=some .local:=by rfl) :
  VH X scope N (.Tuple [.Name x Az,.Name y py] k pos) (Fj [BL i,BL j]):=by
 refine⟨j1 (g:=YR X.K 2 (WJ (KD i) (WJ (KD j) YQ))) (λcl C s H Ak=>?_) (λF N_=>?_),p7 ?_,p6 ?_⟩
 .exact oi (X:=Fp X scope N cl C s H Ak) AO (dz (ay (X:=Fp X scope N cl C s H Ak) hN AC (.inl AQ) (.inr AQ)) (dz (ay (X:=Fp X scope N cl C s H Ak) hN By (.inl hm) (.inr hm)) oj rfl) rfl) rfl rfl
 .rw[<-N_];exact ko rfl (dB (YS i) (dB (YS j) kn))
 .intro f hf;rcases List.mem_cons.mp hf with rfl|hf
  .exact aU i
  .rw[List.mem_singleton.mp hf];exact aU j
 .intro f hf;rcases List.mem_cons.mp hf with rfl|hf
  .exact aT i
  .rw[List.mem_singleton.mp hf];exact aT j
def aaD(nl:Nat)(caps:List Nat){ifs:List AT}{mi:B6}{set:D->AF->R AF}{mt:CR}{Gw:Ag}(S:V_ X.env.scope X.N scope N nl caps=true)(AC:iN X F Bt iter mi)(Ah:VH X scope N Bt set)(Av:Pl X scope N ifs mt)(he:iH X scope N elt Gw)(AO:X.calm=true:=by rfl)(Ao:F.K=X.K:=by rfl)(AN:∀x,PO iter X.env x=pure x:=by intro _;rfl):iW X F (.ListComp elt [⟨Bt,iter,ifs,0⟩] scope pos) (Dm nl caps mi set mt Gw):=
 aaC (.of S) AC Ah.g Ah.BC Ah.kp Av he AO Ao AN
def Tf(i:Nat)(a:B6):Aq:=λρ=>((EB i a) ρ).bind λf=>match f with
 |.BC BJ=>.ok (.BC (Kq i BJ))
 |f=>.ok f
end
def gJ{K:AY}{c:A7}{D8:Option A7}{its:Array A4}{n:Nat}{Bz:Array (Option A4)}{xs:List V}{ds:List D}(l:K.lookup c=some ⟨.type "tuple",D8,.seq its n,Bz⟩)(Ar:its.size<=CF)(v:Vals xs its.toList)(a:∀G,A_ K G ds xs) :
  ∀G,At K G (.EF ds) (.ref c):=λG=>by
 simp only[At];exact⟨c,xs,rfl,.inr ⟨_,its,n,l,rfl,rfl,Ar,v⟩,a G⟩
def Sg(i:Int)(t:Tok):RelV (.int i) (.int i t):=⟨t,rfl⟩
def aG(x:Str)(t:Tok):RelV (.str x) (.str x t):=⟨t,rfl⟩
def S6{K:AY}{G:AA}(i:Int):At K G (.int i) (.int i):=by simp only[At]
def Z0{K:AY}{G:AA}(i:Str):At K G (.str i) (.str i):=by simp only[At]
structure B1(X:Af)(F:BA)(e:AT)(m:Ag):Prop where
 o:Ay X e (Ck F m)
structure LK(X:Af)(F:BA)(e:AT)(m:B6):Prop where
 o:Ay X e (IH F m)
structure Fz(X:Af)(F:BA)(e:AT)(m:CR):Prop where
 o:Fm X e (HQ F m)
structure S4(X:Af)(F:BA)(e:AT)(m:CR):Prop where
 o:Jp X e (HQ F m)
structure GT(X:Af)(F:BA)(A6:List AT)(m:B6):Prop where
 o:Gf X A6 (F7 F m)
structure FL(X:Af)(F:BA)(st:BW)(m:Aq):Prop where
 o:DX X st (GK F m)
structure Ju(X:Af)(F:BA)(st:List BW)(m:Aq):Prop where
 o:Gg X st (GK F m)
structure MN(X:Af)(F:BA)(Bt e:AT)(m:B6):Prop where
 o:GS X Bt e (Kk F m)
structure Pc(X:Af)(F:BA)(e:Option AT)(m:MI):Prop where
 o:VQ X e (Wa F m)
section
variable{X:Af}{F:BA}{e a b c Bt iter elt:AT}{A6:List AT}{pos p:Pos}{m n:Ag}{ma:B6}{st:BW}{S8:List BW}
def A8(i:Nat){x:Str}(hN:X.N[i]?=some x:=by rfl)(BR:H3 X.env.scope x:=by first|exact Dq rfl|exact Ch (Dq rfl)|exact Ch (Ch rfl))(hd:(x==("__debug__" :Str))=false:=by decide)(DU:(x==("__classdict__" :Str))=false:=by decide):B1 X F (.Name x pos) (J i):=⟨Ay.imp (IG hN BR hd DU) (x_ i)⟩
def AV{i:Int}{j}:B1 X F (.Constant (.int i) j pos) (A5 (.int i)):=⟨Ay.imp zg (Vr λ_=>by simp only[At])⟩
def Nu{i:Bool}{j}:B1 X F (.Constant (.bool i) j pos) (A5 (.Aa i)):=⟨Ay.imp aa6 (Vr λ_=>by simp only[At])⟩
def FJ{i:Str}{j}:B1 X F (.Constant (.str i) j pos) (A5 (.str i)):=⟨Ay.imp abB (Vr λ_=>by simp only[At])⟩
def Hc{j}:B1 X F (.Constant .none j pos) (A5 .non):=⟨Ay.imp aaB (Vr λ_=>by simp only[At])⟩
def Ac:GT X F [] AD:=⟨Gf.imp Sa vu⟩
def AE{m:Ag}{r:B6}(h:B1 X F e m)(t:GT X F A6 r)(AN:notStar e=true:=by rfl):GT X F (e::A6) (A2 m r):=⟨have h:=h.1;have t:=t.1;Gf.imp (QU h t (adW e A6 X.env AN)) w9⟩
def FX{k}{m:B6}(h:GT X F A6 m):B1 X F (.Tuple A6 k pos) (DH m):=⟨have h:=h.1;Ay.imp (abC h) xX⟩
def EI{m:B6}(h:GT X F A6 m):LK X F (.List A6 pos) (C1 m):=⟨have h:=h.1;Ay.imp (zj h) wO⟩
def D5{m:B6}(h:LK X F e m):B1 X F e (BS m):=⟨have h:=h.1;Ay.imp h wH⟩
def aF{m:Ag}(h:B1 X F e m):B1 X F e (MB m):=⟨have h:=h.1;Ay.imp h wn⟩
def UH{m:CR}(h:Fz X F e m):Fz X F e (IE m):=⟨have h:=h.1;Fm.imp h w4⟩
def JA{m:Ag}(h:B1 X F e m)(he:∀whole,isTrue e X.env whole=(do let v <-whole;N6 e.pos;K6 [v] (truthy v)):=by intro _;rfl):Fz X F e (BE m):=⟨have h:=h.1;Fm.imp (aas h he) Zz⟩
def SJ{m:CR}(h:Fz X F a m):S4 X F (.BoolOp .And [a] pos) m:=⟨have h:=h.1;aaz h⟩
def Qv{m:CR}(h:Fz X F a m):S4 X F (.BoolOp .Or [a] pos) m:=⟨have h:=h.1;ab1 h⟩
def SI{m n:CR}(h:Fz X F a m)(k:S4 X F (.BoolOp .And (b::A6) pos) n):S4 X F (.BoolOp .And (a::b::A6) pos) (Gv m n):=⟨have h:=h.1;have k:=k.1;Jp.imp (aay h k) wl⟩
def Qu{m n:CR}(h:Fz X F a m)(k:S4 X F (.BoolOp .Or (b::A6) pos) n):S4 X F (.BoolOp .Or (a::b::A6) pos) (JS m n):=⟨have h:=h.1;have k:=k.1;Jp.imp (ab0 h k) vy⟩
def Jf{m:CR}(h:S4 X F e m):Fz X F e m:=⟨have h:=h.1;Jp.pt h⟩
def KY{m:CR}(h:Fz X F a m):Fz X F (.UnaryOp .Not a pos) (GG m):=⟨have h:=h.1;Fm.imp (aar h) vv⟩
def Wt{op}{m:Ag}(h:B1 X F a m):B1 X F (.BoolOp op [a] pos) m:=⟨have h:=h.1;abA h⟩
def Wq{m n:Ag}(h:B1 X F a m)(k:B1 X F (.BoolOp .And (b::A6) pos) n):B1 X F (.BoolOp .And (a::b::A6) pos) (P1 m n):=⟨have h:=h.1;have k:=k.1;Ay.imp (aa5 h k) wm⟩
def afE{m:Ag}(h:B1 X F a m):B1 X F (.UnaryOp .Not a pos) (ZX m):=⟨have h:=h.1;Ay.imp (ab9 h) vw⟩
def ah{k:CR}{m n:Ag}(h:Fz X F c k)(AB:B1 X F a m)(A0:B1 X F b n):B1 X F (.IfExp c a b pos) (Mc k m n):=⟨have h:=h.1;have AB:=AB.1;have A0:=A0.1;Ay.imp (zf h AB A0) wJ⟩
def EP:Ju X F [] Co:=⟨Gg.imp o9 vt⟩
def BB{m n:Aq}(h:FL X F st m)(k:Ju X F S8 n):Ju X F (st::S8) (AU m n):=⟨have h:=h.1;have k:=k.1;Gg.imp (o8 h k) xQ⟩
def B_{m:Aq}(h:FL X F st m):Ju X F [st] m:=⟨have h:=h.1;e3 h⟩
def Dw{m:Ag}(h:B1 X F e m):FL X F (.Return (some e) pos) (D0 m):=⟨have h:=h.1;DX.imp (X6 h) w1⟩
def UF{m:B6}(h:LK X F e m):FL X F (.Return (some e) pos) (GH m):=⟨have h:=h.1;DX.imp (X6 h) wS⟩
def UG(i:Nat){x:Str}{p:Pos}(hN:X.N[i]?=some x:=by rfl)(BR:H3 X.env.scope x:=by first|exact Dq rfl|exact Ch (Dq rfl)|exact Ch (Ch rfl))(hd:(x==("__debug__" :Str))=false:=by decide)(DU:(x==("__classdict__" :Str))=false:=by decide):FL X F (.Return (some (.Name x p)) pos) (GH (JT i)):=⟨DX.imp (X6 (IG hN BR hd DU)) (xP i)⟩
def EJ{k:CR}{m n:Aq}{xs ys:List BW}(h:Fz X F c k)(AB:Ju X F xs m)(A0:Ju X F ys n):FL X F (.If c xs ys pos) (Cb k m n):=⟨have h:=h.1;have AB:=AB.1;have A0:=A0.1;DX.imp (o6 h AB A0) wK⟩
def r3{m:Aq}(i:Nat)(h:FL X F st m):FL X F st (RL i m):=⟨have h:=h.1;DX.imp h wG⟩
def C_(i:Nat){x:Str}{p:Pos}{m:Ag}(hN:X.N.Nodup)(he:B1 X F e m)(AC:X.N[i]?=some x:=by rfl)(AH:Loc X.env.scope x:=by first|exact Dq rfl|exact Ch rfl)(AN:QQ e=true:=by rfl)(hf:X.fn x=true\/X.env.scope.names.lookup x=some .local:=by first|exact .inl rfl|exact .inr rfl):FL X F (.Assign [.Name x p] e pos) (BN i m):=⟨have he:=he.1;DX.imp (b3 hN AC AH he (Nm _ _ _ _ AN) hf) xR⟩
def Ij(i:Nat){x:Str}{p:Pos}{m:B6}(hN:X.N.Nodup)(he:LK X F e m)(AC:X.N[i]?=some x:=by rfl)(AH:Loc X.env.scope x:=by first|exact Dq rfl|exact Ch rfl)(AN:QQ e=true:=by rfl)(hf:X.fn x=true\/X.env.scope.names.lookup x=some .local:=by first|exact .inl rfl|exact .inr rfl):FL X F (.Assign [.Name x p] e pos) (EB i m):=⟨have he:=he.1;DX.imp (b3 hN AC AH he (Nm _ _ _ _ AN) hf) lp⟩
def SG(AB:B1 X F a m)(A0:B1 X F b n):B1 X F (.BinOp a .Sub b pos) (A3 Ih m n):=⟨have AB:=AB.1;have A0:=A0.1;Px zt (X1 λ_ _ _=>by simp only[At]) AB A0⟩
def Ws(AB:B1 X F a m)(A0:B1 X F b n):B1 X F (.BinOp a .Mult b pos) (A3 Mf m n):=⟨have AB:=AB.1;have A0:=A0.1;Px zn (UJ λ_ _ _=>by simp only[At]) AB A0⟩
def GN(AB:B1 X F a m)(A0:B1 X F b n):B1 X F (.BinOp a .FloorDiv b pos) (A3 Dr m n):=⟨have AB:=AB.1;have A0:=A0.1;Px aaa (UJ λ_ _ _=>by simp only[At]) AB A0⟩
def E2(AB:B1 X F a m)(A0:B1 X F b n):B1 X F (.BinOp a .Mod b pos) (A3 CJ m n):=⟨have AB:=AB.1;have A0:=A0.1;Px zm (UJ λ_ _ _=>by simp only[At]) AB A0⟩
def bE(AB:B1 X F a m)(A0:B1 X F b n):B1 X F (.BinOp a .Pow b pos) (A3 Ng m n):=⟨have AB:=AB.1;have A0:=A0.1;Px zq (UJ λ_ _ _=>by simp only[At]) AB A0⟩
def r8(AB:B1 X F a m)(A0:B1 X F b n):Fz X F (.Compare a [.Lt] [b] pos) (BE (A3 T_ m n)):=⟨have AB:=AB.1;have A0:=A0.1;Qn zl (X1 λ_ _ _=>by simp only[At]) AB A0 (NE _)⟩
def aej(AB:B1 X F a m)(A0:B1 X F b n):Fz X F (.Compare a [.Gt] [b] pos) (BE (A3 Od m n)):=⟨have AB:=AB.1;have A0:=A0.1;Qn oT (X1 λ_ _ _=>by simp only[At]) AB A0 (NE _)⟩
def af8(AB:B1 X F a m)(A0:B1 X F b n):B1 X F (.Compare a [.Gt] [b] pos) (A3 Od m n):=⟨have AB:=AB.1;have A0:=A0.1;VF oT (X1 λ_ _ _=>by simp only[At]) AB A0 (NE _)⟩
def bD(AB:B1 X F a m):B1 X F (.UnaryOp .USub a pos) (Cr JW m):=⟨have AB:=AB.1;uj aeQ (λσ ρ G H x Aj Q r Bl k=>by
 unfold JW at k
 split at k
 .rename_i i;simp only[At]at Bl;exact⟨i,Bl,k _ H G r (Bw.refl _ _) (by simp only[At])⟩
 .exact k.elim) AB⟩
def Ez(AB:B1 X F a m)(A0:B1 X F b n):B1 X F (.BinOp a .Add b pos) (A3 Cj m n):=⟨have AB:=AB.1;have A0:=A0.1;Px (aaX.or (aaY.or dq)) aaG AB A0⟩
def II(BP:X.A.units+64<De)(AB:B1 X F a m)(A0:B1 X F b n)(Ao:F.K=X.K:=by rfl):Fz X F (.Compare a [.Eq] [b] pos) (BE (A3 (Bj true) m n)):=⟨have AB:=AB.1;have A0:=A0.1;Qn (oS Ao BP) (am true) AB A0 (NE _)⟩
def Mb(BP:X.A.units+64<De)(AB:B1 X F a m)(A0:B1 X F b n)(Ao:F.K=X.K:=by rfl):Fz X F (.Compare a [.NotEq] [b] pos) (BE (A3 (Bj false) m n)):=⟨have AB:=AB.1;have A0:=A0.1;Qn (oW Ao BP) (am false) AB A0 (NE _)⟩
def px(BP:X.A.units+64<De)(AB:B1 X F a m)(A0:B1 X F b n)(Ao:F.K=X.K:=by rfl):B1 X F (.Compare a [.Eq] [b] pos) (A3 (Bj true) m n):=⟨have AB:=AB.1;have A0:=A0.1;VF (oS Ao BP) (am true) AB A0 (NE _)⟩
def afD(BP:X.A.units+64<De)(AB:B1 X F a m)(A0:B1 X F b n)(Ao:F.K=X.K:=by rfl):B1 X F (.Compare a [.NotEq] [b] pos) (A3 (Bj false) m n):=⟨have AB:=AB.1;have A0:=A0.1;VF (oW Ao BP) (am false) AB A0 (NE _)⟩
def r7(BP:X.A.units+64<De)(AB:B1 X F a m)(A0:B1 X F b n)(Ao:F.K=X.K:=by rfl)(hm:Io .In b=false:=by with_unfolding_all rfl):Fz X F (.Compare a [.In] [b] pos) (BE (A3 (inD true) m n)):=⟨have AB:=AB.1;have A0:=A0.1;Qn (oU Ao BP) (dk true) AB A0 hm⟩
def r9(BP:X.A.units+64<De)(AB:B1 X F a m)(A0:B1 X F b n)(Ao:F.K=X.K:=by rfl)(hm:Io .NotIn b=false:=by with_unfolding_all rfl):Fz X F (.Compare a [.NotIn] [b] pos) (BE (A3 (inD false) m n)):=⟨have AB:=AB.1;have A0:=A0.1;Qn (zo Ao BP) (dk false) AB A0 hm⟩
def Wr(BP:X.A.units+64<De)(AB:B1 X F a m)(A0:B1 X F b n)(Ao:F.K=X.K:=by rfl)(hm:Io .In b=false:=by with_unfolding_all rfl):B1 X F (.Compare a [.In] [b] pos) (A3 (inD true) m n):=⟨have AB:=AB.1;have A0:=A0.1;VF (oU Ao BP) (dk true) AB A0 hm⟩
def Oz(AB:B1 X F a m)(A0:B1 X F b n):Fz X F (.Compare a [.Is] [b] pos) (BE (A3 (Fs true) m n)):=⟨have AB:=AB.1;have A0:=A0.1;Qn oV (λσ ρ G H x y Aj Gi Q r Bl CU k=>by
 unfold Fs at k
 split at k
 .simp only[At]at CU;rw[cy Bl]at k;exact⟨CU,k _ H G r (Bw.refl _ _) (by simp only[At];rfl)⟩
 .exact k.elim) AB A0 (NE _)⟩
def aek(AB:B1 X F a m)(A0:B1 X F b n):Fz X F (.Compare a [.IsNot] [b] pos) (BE (A3 (Fs false) m n)):=⟨have AB:=AB.1;have A0:=A0.1;Qn zp (λσ ρ G H x y Aj Gi Q r Bl CU k=>by
 unfold Fs at k
 split at k
 .simp only[At]at CU;rw[cy Bl]at k;exact⟨CU,k _ H G r (Bw.refl _ _) (by simp only[At];rfl)⟩
 .exact k.elim) AB A0 (NE _)⟩
def af9(AB:B1 X F a m)(A0:B1 X F b n):B1 X F (.Compare a [.Is] [b] pos) (A3 (Fs true) m n):=⟨have AB:=AB.1;have A0:=A0.1;VF oV (λσ ρ G H x y Aj Gi Q r Bl CU k=>by
 unfold Fs at k
 split at k
 .simp only[At]at CU;rw[cy Bl]at k;exact⟨CU,k _ H G r (Bw.refl _ _) (by simp only[At];rfl)⟩
 .exact k.elim) AB A0 (NE _)⟩
def af5{op JY:Kg}{r BO:F1}{f g:D->D->R D}{l:Ag}(AM:E9 X (GO op) r)(Ed:E9 X (GO JY) BO)(hf:Ho F r f)(Ah:Ho F BO g)(AB:B1 X F a m)(A0:B1 X F b n)(AO:B1 X F c l)(hm:lastMarks [op,JY] [b,c]=false:=by with_unfolding_all rfl):B1 X F (.Compare a [op,JY] [b,c] pos) (QA f g m n l):=⟨have AB:=AB.1;have A0:=A0.1;have AO:=AO.1;Ay.imp (aa8 AM Ed AB A0 AO hm) (ll hf Ah)⟩
def aeh{op JY:Kg}{r BO:F1}{f g:D->D->R D}{l:Ag}(AM:E9 X (GO op) r)(Ed:E9 X (GO JY) BO)(hf:Ho F r f)(Ah:Ho F BO g)(AB:B1 X F a m)(A0:B1 X F b n)(AO:B1 X F c l)(hm:lastMarks [op,JY] [b,c]=false:=by with_unfolding_all rfl):Fz X F (.Compare a [op,JY] [b,c] pos) (BE (QA f g m n l)):=⟨have AB:=AB.1;have A0:=A0.1;have AO:=AO.1;Fm.imp (aap AM Ed AB A0 AO hm) λσ H Q h=>by obtain⟨G,ρ,r,k⟩:=li (F:=F) (m:=QA f g m n l) σ H Q h;exact ll hf Ah σ H _ ⟨G,ρ,r,k⟩⟩
def FW(hm:X.mg "len"=none)(AB:GT X F [e] ma)(Ao:F.K=X.K:=by rfl)(Ah:EL X "len":=by rfl)(he:BF [e] X.env=(false,BK e X.env)::BF [] X.env:=by rfl)(Dt:(Cy pos (BF [] X.env)).any (·.1)=false:=by rfl):B1 X F (.Call (.Name "len" p) [e] [] pos) (Bs CO ma):=⟨have AB:=AB.1;bl t0 (aaL Ao) hm PySem.boot_len AB Ah (by decide) (by decide) he Dt⟩
def Ub{U:Str}{T:String}{Cu:Pos}(tt:S3 X.K T)(hm:X.mg "isinstance"=none)(ur:X.mg U=none)(vn:LU U=some (.type T))(AB:B1 X F a m)(Ao:F.K=X.K:=by rfl)(Ah:EL X "isinstance":=by rfl)(vI:EL X U:=by rfl)(uw:U≠"__name__":=by decide)(v9:(U==("__debug__" :Str))=false:=by decide)(Fq:BF [.Name U Cu] X.env=(false,BK (.Name U Cu) X.env)::BF [] X.env:=by rfl)(he:BF [a,.Name U Cu] X.env=(false,BK a X.env)::BF [.Name U Cu] X.env:=by rfl)(Dt:(Cy pos (BF [.Name U Cu] X.env)).any (·.1)=false:=by rfl):B1 X F (.Call (.Name "isinstance" p) [a,.Name U Cu] [] pos) (Cr (M9 T) m):=⟨by
 have AB:=AB.1;have A0:LU "isinstance"=some (.builtin "isinstance"):=by kernel_rfl
 refine Ay.imp (dv (sz Ao tt) Ah hm A0 (QU AB (QU (aa7 vI ur vn (v:=.ty T) rfl uw v9) Sa Fq) he) (by decide) (by decide) he Dt) ?_;rintro σ H Q ⟨G,ρ,r,h⟩;unfold Cr at h;refine⟨G,ρ,r,?_⟩;refine rb h λd Aw h x H1 Al AK s1 Bl=>?_;unfold M9 at h;cases e:Wg d with
 |none=>rw[e]at h;cases h
 |some sW=>rw[e]at h;exact⟨Al,d,x,sW,AK.kp.sub,rfl,Bl,e,h _ H1 Al AK s1 (by simp only[At])⟩⟩
def Bm(AB:B1 X F a m)(A0:B1 X F b n)(AN:hz b)(Ao:F.K=X.K:=by rfl):B1 X F (.Subscript a b pos) (A3 AR m n):=⟨have AB:=AB.1;have A0:=A0.1;Ay.imp (zh wt AB A0 AN) (a0 (aaK Ao))⟩
def Ma:Pc X F none FT:=⟨λpins s σ H Q I h=>by obtain⟨G,ρ,r,k⟩:=h;exact abW pins s σ H Q I (k H G r (Bw.refl _ _))⟩
def Je(h:B1 X F e m):Pc X F (some e) (Er m):=⟨have h:=h.1;λpins s σ H Q I hw=>by
 obtain⟨G,ρ,r,k⟩:=hw;refine abX h pins s σ H Q I ⟨G,ρ,r,?_⟩;unfold Er at k;refine rb k λd Aw k x H1 Al AK s1 Bl=>?_;cases d with
 |int i=>simp only[At]at Bl;exact⟨i,Bl,k H1 Al AK s1⟩
 |_=>exact k.elim⟩
def Ox{lo AC:Option AT}{Cu:Pos}{Me QL:MI}(AB:B1 X F a m)(AQ:Pc X F lo Me)(BD:Pc X F AC QL)(Ao:F.K=X.K:=by rfl):B1 X F (.Subscript a (.Slice lo AC none Cu) pos) (EN FG m Me QL):=⟨have AB:=AB.1;have AQ:=AQ.1;have BD:=BD.1;Ay.imp (dy (adB.or adC) AB AQ BD) (xT Ao)⟩
def afG(hm:X.mg "str"=none)(AB:GT X F [e] ma)(Ah:EL X "str":=by rfl)(he:BF [e] X.env=(false,BK e X.env)::BF [] X.env:=by rfl)(Dt:(Cy pos (BF [] X.env)).any (·.1)=false:=by rfl):B1 X F (.Call (.Name "str" p) [e] [] pos) (Bs UV ma):=⟨have AB:=AB.1;bm t5 aaO hm (by kernel_rfl) AB Ah (by decide) (by decide) he Dt⟩
def Lf(h:B1 X F e m)(Ao:F.K=X.K:=by rfl):MN X F Bt e (F4 m):=⟨have h:=h.1;GS.imp (abI h) (by rw[<-Ao];exact wM)⟩
def rA(h:B1 X F e m)(Ao:F.K=X.K:=by rfl):MN X F Bt e (QG m):=⟨have h:=h.1;GS.imp (abM h) (by rw[<-Ao];exact xY)⟩
def aeo(h:B1 X F e m):MN X F Bt e (WA m):=⟨have h:=h.1;GS.imp (abL h) xV⟩
def Ik(hm:X.mg "range"=none)(AB:GT X F [a] ma)(Ah:EL X "range":=by rfl)(AN:BF [a] X.env=[(false,BK a X.env)]:=by rfl):MN X F Bt (.Call (.Name "range" p) [a] [] pos) (Fh ma):=⟨have AB:=AB.1;GS.imp (abJ Ah hm AB AN) vz⟩
def aen(hm:X.mg "range"=none)(AB:GT X F [a,b] ma)(Ah:EL X "range":=by rfl)(AN:BF [a,b] X.env=[(false,BK a X.env),(false,BK b X.env)]:=by rfl)(Fq:BF [b] X.env=[(false,BK b X.env)]:=by rfl):MN X F Bt (.Call (.Name "range" p) [a,b] [] pos) (Te ma):=⟨have AB:=AB.1;GS.imp (abK Ah hm AB AN Fq) w0⟩
def ael{elts:List AT}{k:Nat}{Wd:Pos}(hm:X.mg "enumerate"=none)(AB:GT X F [a] ma)(Ao:F.K=X.K:=by rfl)(Ah:EL X "enumerate":=by rfl)(AN:BF [a] X.env=[(false,BK a X.env)]:=by rfl):MN X F (.Tuple elts k Wd) (.Call (.Name "enumerate" p) [a] [] pos) (W9 ma):=⟨have AB:=AB.1;GS.imp (abG Ah hm AB AN) (wE Ao)⟩
def aep{elts:List AT}{k:Nat}{Wd:Pos}(hm:X.mg "zip"=none)(AB:GT X F [a,b] ma)(Ao:F.K=X.K:=by rfl)(Ah:EL X "zip":=by rfl)(AN:BF [a,b] X.env=[(false,BK a X.env),(false,BK b X.env)]:=by rfl)(Fq:BF [b] X.env=[(false,BK b X.env)]:=by rfl):MN X F (.Tuple elts k Wd) (.Call (.Name "zip" p) [a,b] [] pos) (ZV ma):=⟨have AB:=AB.1;GS.imp (abN Ah hm AB AN Fq) (xb Ao)⟩
def Hd{body:List BW}{mi:B6}{set:D->AF->R AF}{HL:Aq}(Ad:PassesOwn (B2 X.prog X.w) X.A X.env X.xe)(AC:MN X F Bt iter mi)(Ah:GM X Bt set)(A0:Ju X F body HL)(AO:X.calm=true:=by rfl)(Ao:F.K=X.K:=by rfl)(AN:∀x,PO iter X.env x=pure x:=by intro _;rfl):FL X F (.For Bt iter body [] pos) (E0 mi set HL):=⟨by
 have AC:=AC.1;have A0:=A0.1;obtain⟨⟨g,h1,h2⟩,h3,_⟩:=Ah;exact DX.imp (aan Ad AO AC h1 A0 AN) (wF (h2 F Ao) h3)⟩
def aeg{st:BW}{i:Nat}{a:B6}(h:FL X F st (EB i a)):FL X F st (Tf i a):=⟨have h:=h.1;DX.imp h λCa σ H⟨G,ρ,r,k⟩=>by
 refine⟨G,ρ,r,?_⟩;unfold Tf at k;refine rb k λf e k=>?_;cases f with
 |BC BJ=>intro σ' G' H' BO s';obtain⟨Ci,B4,s2⟩:=BO.Kq i;exact k σ' Ci H' B4 (s'.trans s2)
 |E6 d=>exact k
 |J_ d=>exact k
 |Py d=>exact k
 |rs d _=>exact k
 |G1 d=>exact k
 |DB d=>exact k⟩
def U_{k:Nat}(AI:Dy k X.A)(hm:X.mg "all"=none)(AB:GT X F [e] ma)(AO:X.calm=true:=by rfl)(Ah:EL X "all":=by rfl)(he:BF [e] X.env=(false,BK e X.env)::BF [] X.env:=by rfl)(Dt:(Cy pos (BF [] X.env)).any (·.1)=false:=by rfl):B1 X F (.Call (.Name "all" p) [e] [] pos) (Bs CM ma):=⟨have AB:=AB.1;bl (tj AO AI.hd) aaH hm (by kernel_rfl) AB Ah (by decide) (by decide) he Dt⟩
def Nv (i:Nat) {x:Str} {Az:Pos} {apos:Pos} {Bq:Pos} (he:B1 X F e m) (hN:X.N[i]?=some x:=by rfl) (BR:H3 X.env.scope x:=by first|exact Dq rfl|exact Ch (Dq rfl)|exact Ch (Ch rfl)) (hd:(x==("__debug__" :Str))=false:=by decide) (DU:(x==("__classdict__" :Str))=false:=by decide) (MX:I0 (.Name x Az) "append" X.env (BK (.Name x Az) X.env)=BK (.Name x Az) X.env:=by rfl) (M3:(apos.endLine==Bq.line)=true:=by rfl) (MZ:((Cy Bq (BF [e] X.env)).all (λx=>!x.1)&&(H6 Bq (H5 [] X.env)).all (λx=>x.1.isSome)
   &&decide (([e]:List AT).length+([]:List FY).length+(if([]:List FY).isEmpty then 0 else 1)<30))=true:=by rfl) (AN:BF [e] X.env=(false,BK e X.env)::BF [] X.env:=by rfl) (M5:(Cy Bq (BF [] X.env)).any (·.1)=false:=by rfl) (Ao:F.K=X.K:=by rfl):FL X F (.Expr (.Call (.Attribute (.Name x Az) "append" apos) [e] [] Bq) pos) (GX i m):=⟨by
 have he:=he.1;refine DX.imp (b2 (X4 Uh ro rW eO (IG hN BR hd DU) (QU he Sa AN) MX MZ M3 AN M5) (Nm _ _ _ _ rfl)) ?_;rintro Ca σ H ⟨G,ρ,r,h⟩;unfold GX ownAt at h;cases CN:ρ[i]? with
 |none=>rw[CN]at h;cases h
 |some s=>
  rw[CN]at h;cases s with
  |un=>cases h
  |A1 _=>cases h
  |Et _=>cases h
  |Bc _ _=>cases h
  |ob ob=>
   cases ob with
   |B7 _ _=>cases h
   |ins _ _ _=>cases h
   |lst ds=>
    obtain⟨q,xs,A9,h1,h2,h3,h4⟩:=r.own CN;have h:Ht F G Ca ((m ρ).bind λd=>if ds.length<1000000 then .ok (.BC (ρ.set i (.C5 (ds++[d]))))else .bad):=h;refine⟨.ref q,A9,.inl ⟨rfl,xs,C4.of h1⟩,G,ρ,r,?_⟩;refine rb h λd Aw h v H1 Al AK s1 B8=>?_;obtain⟨Hw,Gy,Ew,Iz,Oe,Qb,HH⟩:=AK.own CN;rw[A9]at Ew;cases Ew;by_cases AQ:ds.length<1000000
    .rw[if_pos AQ]at h;refine⟨q,Gy,v,rfl,rfl,Iz,by rw[<-HH.length];exact LV AQ (by decide),?_⟩;exact h σ Al _ (AK.mut CN A9 (HH.snoc B8)) s1.g
    .rw[if_neg AQ]at h;exact h.elim⟩
def DR{x:Str}{n k:Nat}{mf:List D->R CI}(c:EG X.prog X.w X.K X.mg X.base x n k mf)(AI:Dy k X.A)(AB:GT X F (e::A6) ma)(KF:F.EX=λ_ _=>False:=by rfl)(Ao:F.K=X.K:=by rfl)(Ah:EL X x:=by rfl)(HJ:(x==("__debug__" :Str))=false:=by decide)(he:BF (e::A6) X.env=(false,BK e X.env)::BF A6 X.env:=by rfl)(Dt:(Cy pos (BF A6 X.env)).any (·.1)=false:=by rfl):B1 X F (.Call (.Name x p) (e::A6) [] pos) (Bg n mf ma):=⟨by
 have AB:=AB.1;obtain⟨f,fd,Ap,AS,HY,hm,AL,A0⟩:=c.ex;refine Ay.imp (o_ HY AI Ah hm AL A0 .nil Sb AB HJ he Dt) ?_;rw[<-Ao];exact w5 (xe:=λ_ _ _=>False) (E:=iK) KF⟩
def Km{x:Str}{n k:Nat}{mf:List D->R CI}(c:EG X.prog X.w X.K X.mg X.base x n k mf)(AI:Dy k X.A)(AB:GT X F (e::A6) ma)(KF:F.EX=λ_ _=>False:=by rfl)(Ao:F.K=X.K:=by rfl)(Ah:EL X x:=by rfl)(HJ:(x==("__debug__" :Str))=false:=by decide)(he:BF (e::A6) X.env=(false,BK e X.env)::BF A6 X.env:=by rfl)(Dt:(Cy pos (BF A6 X.env)).any (·.1)=false:=by rfl):LK X F (.Call (.Name x p) (e::A6) [] pos) (FS n mf ma):=⟨by
 have AB:=AB.1;obtain⟨f,fd,Ap,AS,HY,hm,AL,A0⟩:=c.ex;refine Ay.imp (o_ HY AI Ah hm AL A0 .nil Sb AB HJ he Dt) ?_;rw[<-Ao];exact w6 (xe:=λ_ _ _=>False) (E:=iK) KF⟩
variable{scope:ED}{N:List Str}
abbrev iT(X:Af)(scope:ED)(N:List Str)(e:AT)(m:Ag):Prop:=∀cl C s H Ak G0 H0,B1 (Fp X scope N cl C s H Ak) (Gk X.K G0 H0) e m
def pw{mt:CR}(h:∀cl C s H Ak G0 H0,Fz (Fp X scope N cl C s H Ak) (Gk X.K G0 H0) c mt):Pl X scope N [c] mt:=Cm.tY λcl C s H Ak G0 H0=>(h cl C s H Ak G0 H0).1
def NS(sc:ED)(NN:List Str)(nl:Nat)(caps:List Nat):List Str:=((sc.names.drop 1).take nl).map (·.1)++caps.map λj=>NN.getD j ""
def Jd(nl:Nat)(caps:List Nat){ifs:List AT}{mi:B6}{set:D->AF->R AF}{mt:CR}{Gw:Ag}(S:V_ X.env.scope X.N scope (NS scope X.N nl caps) nl caps=true)(AC:MN X F Bt iter mi)(Ah:VH X scope (NS scope X.N nl caps) Bt set)(Av:Pl X scope (NS scope X.N nl caps) ifs mt)(he:iT X scope (NS scope X.N nl caps) elt Gw)(AO:X.calm=true:=by rfl)(Ao:F.K=X.K:=by rfl)(AN:∀x,PO iter X.env x=pure x:=by intro _;rfl):LK X F (.ListComp elt [⟨Bt,iter,ifs,0⟩] scope pos) (Dm nl caps mi set mt Gw):=
 ⟨Cm.aaD nl caps S AC.1 Ah Av (λcl C s H Ak G0 H0=>(he cl C s H Ak G0 H0).1) AO Ao AN⟩
end
def En{P:Bu}{w:Bh}{K:AY}{mg:Str->Option A4}{base:BH}{x:Str}{st:BW}{N Ap:List Str}{k:Nat}{m:Aq}(d:EE K mg x st Ap)(S:D2 N Ap (Bx st))(h:∀(f:A7)(CA:A4)(A:CG)(outer:List Env)(s:AP)(H:AA)(E:DL),Dy k (A.deeper (Mw x (Bx st) s.heap.objs.size f CA))->∀G0 H0,Ju (Iy Gb P w K mg base N x (Bx st) f CA A outer s H E).KP (Gk K G0 H0) (GU st) m) :
  EG P w K mg base x Ap.length (k+1) (Dh N.length m):=Cm.sq d S λf CA A outer s H E AI G0 H0=>(h f CA A outer s H E AI G0 H0).1
structure Pm(K:AY)(mg:Str->Option A4)(x:Str)(d:D):Prop where
 ex:∃(v:V)(u:A4),mg x=some u/\RelV v u/\∀G,At K G d v
def Ua{X:Af}{F:BA}{x:Str}{d:D}{pos:Pos}(c:Pm X.K X.mg x d)(Ao:F.K=X.K:=by rfl)(Ah:EL X x:=by rfl)(hd:(x==("__debug__" :Str))=false:=by decide):B1 X F (.Name x pos) (A5 d):=by obtain⟨v,u,h1,h2,h3⟩:=c.ex;exact⟨Cm.ui h1 h2 (by rw[Ao];exact h3) Ah hd⟩
end Cm
namespace C2
open PySem PySem.Spec PyProof.Rows
section
variable{X:Af}{Bt:AT}
def iV(a b c:Int):Prop:=c≠0/\Builtin.Range.small a b c=true/\0<=gW a b c/\Builtin.divisionGoesByPylong (b-a) c=false
instance(a b c:Int):Decidable (iV a b c):=by unfold iV;infer_instance
end
section
variable{X:Af}{a e:AT}{C3:FC}{pos p pos' SZ:Pos}
theorem qP:∀{xs:List V}{us:List A4},xs.length=us.length->(∀(i:Nat) x y,xs[i]?=some x->us[i]?=some y->RelV x y)->Vals xs us
 |[],[],_,_=>.nil
 |[],_::_,h,_=>by simp at h
 |_::_,[],h,_=>by simp at h
 |x::xs,u::us,h,f=>.cons (f 0 x u (by simp) (by simp)) (qP (by simpa using h) λi a b A9 AG=>f (i+1) a b (by simpa using A9) (by simpa using AG))
def zD{pins:List (A7×Obj)}{σ :St}{H1:AA}{s2:AP}{Q:CT}{r:A7}{j:Int}{t u v:Tok}(Bo:Inv X pins σ H1 s2)(AO:X.calm=true)(AI:IsRange s2.heap r 0 j 1 t u v)(An: -(2^62)<=j)(BG:j<=1000000)(q:∀l,H1 l=none->Q (.ref l) (upd H1 l (.lst ((EY j.toNat).map λi=>.int (i:Nat))))):Ae (B2 X.prog X.w) X.A (call (.type "list") [.ref r]) (Gc X pins σ Q) X.xe s2:=by
 have AS:gW 0 j 1=(j.toNat:Nat):=by rw[rangeSize_one];split<;>lia
 refine call_list_range (Bo.ok.hd AO) AI (small_one (by lia) (by lia) (by lia) (by lia)) AS (by lia) λh' C8 Z1 DM kp e it=>?_;obtain⟨acc,rfl⟩:∃l:List A4,Z1=l.toArray:=⟨Z1.toList,by simp⟩;have BR:Vals ((EY j.toNat).map λi=>V.int ((i:Nat):Int)) acc:=by
  have AQ:acc.length=j.toNat:=by simpa using it.1
  refine qP ?_ ?_
  .simp[AQ]
  .intro i x y A9 AG;rw[ER]at A9;have AC:i<j.toNat:=by rw[<-AQ];exact(List.getElem?_eq_some_iff.mp AG).1
   rw[Ux AC]at A9;cases A9;obtain⟨tt,rfl⟩:=it.2 i y (by simpa using AG);exact⟨tt,by simp⟩
 exact⟨.ref _,_,Bo.laid (t':=C8) kp (CY _) (show Fl X.prog X.w X.K _ h' _ (.lst _)from⟨Ff (m:=1000000) (by simp;lia) (by decide),acc,DM,BR,e⟩),rfl,q _ (Bo.Ba.fresh (CY _))⟩
def acx(C3:FC):TE:=λσ H Q=>C3 σ H λvs H1=>∃j:Int,vs=[.int j]/\-(2^62)<=j/\j<=1000000/\∀l,H1 l=none->Q (.ref l) (upd H1 l (.lst ((EY j.toNat).map λi=>.int (i:Nat))))
def zi(Ah:EL X "list")(hm:X.mg "list"=none)(dQ:EL X "range")(Oi:X.mg "range"=none)(AO:X.calm=true)(AB:Gf X [a] C3)(AN:BF [a] X.env=[(false,BK a X.env)]:=by rfl)(Fq:BF [.Call (.Name "range" SZ) [a] [] pos'] X.env=[(false,BK (.Call (.Name "range" SZ) [a] [] pos') X.env)]:=by rfl) :
  Ay X (.Call (.Name "list" p) [.Call (.Name "range" SZ) [a] [] pos'] [] pos) (acx C3):=by
 intro pins s σ H Q I h;refine Uq (Oj (u:=.type "list") I Ah hm (by kernel_rfl) ?_);refine Qz ?_ Fq rfl;rw[Fq];refine Sk ?_;refine Call_ (Oj I dQ Oi boot_range (Qz (Bb (AB pos' pins s σ H _ I h) λus s1⟨vs,H1,B5,AK,An⟩=>?_) AN rfl));obtain⟨j,e,An,BG,q⟩:=An;subst e;cases AK with
 |cons r Ml=>cases Ml;obtain⟨t,rfl⟩:=r;refine call_range_1 (Ut ?_);exact zD (B5.kept λb o e=>DE _ e) AO (IsRange.new ..) An BG q
end
end C2
namespace Cm
open PySem PySem.Spec C2
abbrev Hh:=AF->R (D×AF)
def lb(F:BA)(G:AA)(σ :St)(Q:CT):R (D×AF)->Prop
 |.ok (d,BJ)=>∀v H' G',Rel F G' H' σ BJ->Sub G G'->At F.K G' d v->Q v H'
 |.exc c=>Nc F c
 |.bad=>False
def ae(F:BA)(m:Hh):TE:=λσ H Q=>∃G ρ,Rel F G H σ ρ/\lb F G σ Q (m ρ)
section
variable{F:BA}
def NA(i:Nat)(a:Hh):Aq:=λρ=>(a ρ).bind λx=>(BL i x.1 x.2).bind λBJ=>.ok (.BC BJ)
def xS{i:Nat}{a:Hh}:IN (GK F (NA i a)) (Oq (ae F a) (KD i)):=by
 rintro Ca σ H ⟨G,ρ,r,h⟩;unfold NA BL at h;refine⟨G,ρ,r,?_⟩;cases Aw:a ρ with
 |bad=>rw[Aw]at h;cases h
 |exc c=>rw[Aw]at h;exact h
 |ok x=>
  obtain⟨d,EQ⟩:=x;rw[Aw,R.E_]at h;intro v H1 Al AK s1 B8;by_cases AC:i<EQ.length
  .simp only[if_pos AC]at h;exact h _ Al H1 (AK.set AC B8) s1
  .simp only[if_neg AC]at h;cases h
def QC(a:Hh):Aq:=λρ=>(a ρ).bind λx=>.ok (.BC x.2)
def wD{a:Hh}:IN (GK F (QC a)) (qY (ae F a)):=by
 rintro Ca σ H ⟨G,ρ,r,h⟩;unfold QC at h;refine⟨G,ρ,r,?_⟩;cases Aw:a ρ with
 |bad=>rw[Aw]at h;cases h
 |exc c=>rw[Aw]at h;exact h
 |ok x=>obtain⟨d,EQ⟩:=x;rw[Aw]at h;exact λv H' G' BO s' _=>h σ G' H' BO s'
end
section
variable{F:BA}
def del(H:AA)(a:A7):AA:=λb=>if b=a then none else H b
def tQ{H:AA}{a:A7}:del H a a=none:=by simp[del]
def sy{H:AA}{a b:A7}(h:b≠a):del H a b=H b:=by simp[del,h]
def kB(H:AA)(a:A7):Sub (del H a) H:=λb o e=>by
 unfold del at e
 split at e
 .cases e
 .exact e
end
section
variable{F:BA}
end
end Cm
namespace Cm
open PySem PySem.Spec C2 PyProof.Rows
def A_.erase{K:AY}{G:AA}{ds:List D}{xs:List V}(n:Nat)(q:A_ K G ds xs):A_ K G (ds.eraseIdx n) (xs.eraseIdx n):=by rw[rT,rT];exact(q.take n).append (q.drop (n+1))
section
variable{X:Af}{F:BA}{e a b c:AT}{A6:List AT}{pos p:Pos}{m n:Ag}{ma:B6}
noncomputable def P4(i:Nat)(m:Ag):Hh:=λρ=>(ownAt i ρ).bind λds=>(m ρ).bind λd=>match d with
 |.int k=>if-(2^63)<=k/\k<2^63 then match T2 k ds.length with
  |some j=>match ds[j]? with
   |some y=>.ok (y,ρ.set i (.C5 (ds.eraseIdx j)))
   |none=>.bad
  |none=>.bad
  else .bad
 |_=>.bad
def ZU(i:Nat)(m:Hh):Aq:=λρ=>(ownAt i ρ).bind λ_=>(m ρ).bind λx=>(ownAt i x.2).bind λds=>if ds.length<1000000 then .ok (.BC (x.2.set i (.C5 (ds++[x.1]))))else .bad
def ZO:List D->R (List D)
 |[.lst xs]=>.ok xs
 |[.Cc xs]=>.ok xs
 |[.tup xs]=>.ok xs
 |_=>.bad
def P3(m:B6):B6:=λρ=>(m ρ).bind ZO
def wN(Ao:F.K=X.K):Ep (IH F (P3 ma)) (aa (λxs H Q=>∃p ys,xs=[.ref p]/\(C4 X.K H p ys\/CK X.K H p ys)/\∀l,H l=none->Q (.ref l) (upd H l (.lst ys))) (F7 F ma)):=by
 rintro σ H Q ⟨G,ρ,r,h⟩;unfold P3 at h;refine⟨G,ρ,r,?_⟩;refine rb h λds Aw h vs H1 Al AK s1 a=>?_;unfold ZO at h
 split at h
 .obtain⟨v,rfl,B8⟩:=a.one;simp only[At]at B8;obtain⟨q,xs,rfl,AX,F2⟩:=B8;refine⟨q,xs,rfl,.inl (C4.of (AK.kp.sub _ _ AX)),λl AQ=>?_⟩;exact h l xs _ Al (AK.lay0 AQ) (s1.trans (Bw.lay0 AQ)) (s1.h.gone AQ) E1 (AK.kp.sub.gone AQ) F2
 .obtain⟨v,rfl,B8⟩:=a.one;simp only[At]at B8;obtain⟨q,xs,rfl,AX,F2⟩:=B8;refine⟨q,xs,rfl,.inl (by rw[<-Ao];exact C4.mono AK.kp.sub AX),λl AQ=>?_⟩;exact h l xs _ Al (AK.lay0 AQ) (s1.trans (Bw.lay0 AQ)) (s1.h.gone AQ) E1 (AK.kp.sub.gone AQ) F2
 .obtain⟨v,rfl,B8⟩:=a.one;simp only[At]at B8;obtain⟨q,xs,rfl,AX,F2⟩:=B8;refine⟨q,xs,rfl,.inr (CK.of (AK.kp.sub _ _ AX)),λl AQ=>?_⟩;exact h l xs _ Al (AK.lay0 AQ) (s1.trans (Bw.lay0 AQ)) (s1.h.gone AQ) E1 (AK.kp.sub.gone AQ) F2
 .exact h.elim
def W3:List D->R (List D)
 |[.int j]=>if-(2^62)<=j/\j<=1000000 then .ok (G7 0 j.toNat)else .bad
 |_=>.bad
def WB(m:B6):B6:=λρ=>(m ρ).bind W3
theorem jX{K:AY}{G:AA}:∀(l:List Nat),A_ K G (l.map λi=>.int (0+((i:Nat):Int))) (l.map λi=>V.int ((i:Nat):Int))
 |[]=>.nil
 |i::l=>.cons (by simp[At]) (jX l)
def Ls:List D->R D
 |[.int i]=>.ok (.int i)
 |[.Aa k]=>.ok (.int (if k then 1 else 0))
 |[.str x]=>if x.length<=640 then match intText? x with|some i=>.ok (.int i)|none=>.bad else .bad
 |_=>.bad
def aaQ:OK F (λxs H Q=>((∃i,xs=[.int i]/\Q (.int i) H)\/∃k,xs=[.Aa k]/\Q (.int (if k then 1 else 0)) H)\/((∃i,xs=[.int i]/\Q (.int i) H)\/∃x i,xs=[.str x]/\x.length<=640/\intText? x=some i/\Q (.int i) H)) Ls:=by
 intro σ ρ G H xs ds Q r al k;unfold Ls at k
 split at k
 .rename_i i;exact .inl (.inl ⟨i,al.ints1,k _ H G r (Bw.refl _ _) (by simp only[At])⟩)
 .rename_i c;obtain⟨v,rfl,B8⟩:=al.one;simp only[At]at B8;subst B8;exact .inl (.inr ⟨c,rfl,k _ H G r (Bw.refl _ _) (by simp only[At])⟩)
 .rename_i x
  split at k
  .rename_i AQ
   split at k
   .rename_i i AC;obtain⟨v,rfl,B8⟩:=al.one;simp only[At]at B8;subst B8;exact .inr (.inr ⟨x,i,rfl,AQ,AC,k _ H G r (Bw.refl _ _) (by simp only[At])⟩)
   .exact k.elim
  .exact k.elim
 .exact k.elim
def Md(set:D->AF->R AF)(m:Ag):Aq:=λρ=>(m ρ).bind λd=>(set d ρ).bind λBJ=>.ok (.BC BJ)
def pK{n:Nat}{mf:List D->R CI}{xe:DL->Str->AA->Prop}{E:DL}{Al H1:AA}{σ :C2.St}{ρ:AF}{ds:List D}{vs:List V}{Q:CT}(AH:F.EX=xe E)(AK:Rel F Al H1 σ ρ)(a:A_ F.K Al ds vs)(AS:ds.length=n)(h:JN F Al H1 σ ρ Q ((mf ds).bind PI)):UR F.K n xe mf vs H1 Q E:=by
 refine⟨Al,ds,AK.kp.sub,a,AS,?_⟩;cases e:mf ds with
 |bad=>rw[e]at h;cases h
 |exc c=>rw[e]at h;intro G' H' k;have z:=h G' H' (FZ.of AK k).kp;rw[AH]at z;exact z
 |ok t=>
  rw[e,R.E_]at h;cases t with
  |v d=>exact λv G' H' k B8=>h v H' G' (FZ.of AK k) ⟨k.ET,k.BD,k.new⟩ B8
  |o A6=>intro p xs G' H' k h1 h2 h3 h4;have h2:H1 p=none:=h2;have BO:=FZ.of AK k;have no:¬Cf H' σ ρ p:=Cf.fresh AK k.BD h2;refine h (.ref p) H' _ (BO.take h3 h1 (AK.kp.BD.gone h2) no) (Bw.put ⟨k.ET,k.BD,k.new⟩ h2 h1) ?_;simp only[At];exact⟨p,xs,rfl,E1,h4.mono (Sub.upd h1)⟩
  |t t=>intro v G' H' k q;obtain⟨a1,a2,I7⟩:=(FZ.of AK k).gG (F':=⟨F.K,Al,H1,xe E,J9⟩) rfl q ⟨k.ET,k.BD,k.new⟩ λb A0=>⟨(q.own b A0).2,AK.kp.BD.gone (q.own b A0).2,Cf.fresh AK k.BD (q.own b A0).2⟩;exact h v H' _ a1 a2 I7
end
section
variable{X:Af}{F:BA}{e a b c:AT}{A6:List AT}{pos p:Pos}{m n:Ag}{ma:B6}
end
end Cm
namespace Cm
open PySem PySem.Spec C2
structure Pw(X:Af)(F:BA)(e:AT)(m:Hh):Prop where
 o:Ay X e (ae F m)
section
variable{X:Af}{F:BA}{e a b c Bt iter elt:AT}{A6:List AT}{pos p:Pos}{m n:Ag}{ma:B6}{st:BW}{S8:List BW}
def fx (i:Nat) {x:Str} {Az:Pos} {apos:Pos} {Bq:Pos} (he:B1 X F e m) (hN:X.N[i]?=some x:=by rfl) (BR:H3 X.env.scope x:=by first|exact Dq rfl|exact Ch (Dq rfl)|exact Ch (Ch rfl)) (hd:(x==("__debug__" :Str))=false:=by decide) (DU:(x==("__classdict__" :Str))=false:=by decide) (MX:I0 (.Name x Az) "pop" X.env (BK (.Name x Az) X.env)=BK (.Name x Az) X.env:=by rfl) (M3:(apos.endLine==Bq.line)=true:=by rfl) (MZ:((Cy Bq (BF [e] X.env)).all (λx=>!x.1)&&(H6 Bq (H5 [] X.env)).all (λx=>x.1.isSome)
   &&decide (([e]:List AT).length+([]:List FY).length+(if([]:List FY).isEmpty then 0 else 1)<30))=true:=by rfl) (AN:BF [e] X.env=(false,BK e X.env)::BF [] X.env:=by rfl) (M5:(Cy Bq (BF [] X.env)).any (·.1)=false:=by rfl):Pw X F (.Call (.Attribute (.Name x Az) "pop" apos) [e] [] Bq) (P4 i m):=⟨by
 have he:=he.1;refine Ay.imp (X4 Uh PySem.F.slot_list_pop PySem.F.type_list_pop yu (IG hN BR hd DU) (QU he Sa AN) MX MZ M3 AN M5) ?_;rintro σ H Q ⟨G,ρ,r,h⟩;unfold P4 ownAt at h;cases CN:ρ[i]? with
 |none=>rw[CN]at h;cases h
 |some s=>
  rw[CN]at h;cases s with
  |un=>cases h
  |A1 _=>cases h
  |Et _=>cases h
  |Bc _ _=>cases h
  |ob ob=>
   cases ob with
   |B7 _ _=>cases h
   |ins _ _ _=>cases h
   |lst ds=>
    obtain⟨q,xs,A9,h1,h2,h3,h4⟩:=r.own CN;rw[R.E_]at h;refine⟨.ref q,A9,.inl ⟨rfl,xs,C4.of h1⟩,G,ρ,r,?_⟩;refine rb h λd Aw h v H1 Al AK s1 B8=>?_;obtain⟨Hw,Gy,Ew,Iz,Oe,Qb,HH⟩:=AK.own CN;rw[A9]at Ew;cases Ew;cases d with
    |int k=>
     simp only[At]at B8;subst B8;simp only at h
     split at h
     .rename_i AL
      split at h
      .rename_i j KB
       split at h
       .rename_i y Cz;obtain⟨w,HX,OT⟩:=HH.get Cz;refine⟨q,Gy,k,j,w,rfl,rfl,Iz,AL.1,AL.2,by rw[<-HH.length];exact KB,HX,?_⟩;exact h w _ Al (AK.mut CN A9 (HH.erase j)) s1.g OT
       .exact h.elim
      .exact h.elim
     .exact h.elim
    |_=>exact h.elim⟩
def aed (i:Nat) {x:Str} {Az:Pos} {apos:Pos} {Bq:Pos} {m:Hh} (he:Pw X F e m) (hN:X.N[i]?=some x:=by rfl) (BR:H3 X.env.scope x:=by first|exact Dq rfl|exact Ch (Dq rfl)|exact Ch (Ch rfl)) (hd:(x==("__debug__" :Str))=false:=by decide) (DU:(x==("__classdict__" :Str))=false:=by decide) (MX:I0 (.Name x Az) "append" X.env (BK (.Name x Az) X.env)=BK (.Name x Az) X.env:=by rfl) (M3:(apos.endLine==Bq.line)=true:=by rfl) (MZ:((Cy Bq (BF [e] X.env)).all (λx=>!x.1)&&(H6 Bq (H5 [] X.env)).all (λx=>x.1.isSome)
   &&decide (([e]:List AT).length+([]:List FY).length+(if([]:List FY).isEmpty then 0 else 1)<30))=true:=by rfl) (AN:BF [e] X.env=(false,BK e X.env)::BF [] X.env:=by rfl) (M5:(Cy Bq (BF [] X.env)).any (·.1)=false:=by rfl):FL X F (.Expr (.Call (.Attribute (.Name x Az) "append" apos) [e] [] Bq) pos) (ZU i m):=⟨by
 have he:=he.1;refine DX.imp (b2 (X4 Uh ro rW eO (IG hN BR hd DU) (QU he Sa AN) MX MZ M3 AN M5) (Nm _ _ _ _ rfl)) ?_;rintro Ca σ H ⟨G,ρ,r,h⟩;unfold ZU ownAt at h;cases CN:ρ[i]? with
 |none=>rw[CN]at h;cases h
 |some s=>
  rw[CN]at h;cases s with
  |un=>cases h
  |A1 _=>cases h
  |Et _=>cases h
  |Bc _ _=>cases h
  |ob ob=>
   cases ob with
   |B7 _ _=>cases h
   |ins _ _ _=>cases h
   |lst agC=>
    obtain⟨q,xs,A9,h1,h2,h3,h4⟩:=r.own CN;rw[R.E_]at h;refine⟨.ref q,A9,.inl ⟨rfl,xs,C4.of h1⟩,G,ρ,r,?_⟩;cases Aw:m ρ with
    |bad=>rw[Aw]at h;cases h
    |exc c=>rw[Aw]at h;exact h
    |ok y=>
     obtain⟨d,EQ⟩:=y;rw[Aw,R.E_]at h;intro v H1 Al AK s1 B8;simp only at h;cases OZ:EQ[i]? with
     |none=>rw[OZ]at h;cases h
     |some s=>
      rw[OZ]at h;cases s with
      |un=>cases h
      |A1 _=>cases h
      |Et _=>cases h
      |Bc _ _=>cases h
      |ob ob=>
       cases ob with
       |B7 _ _=>cases h
       |ins _ _ _=>cases h
       |lst ds=>
        rw[R.E_]at h;obtain⟨Hw,Gy,Ew,Iz,Oe,Qb,HH⟩:=AK.own OZ;rw[A9]at Ew;cases Ew;by_cases AQ:ds.length<1000000
        .rw[if_pos AQ]at h;refine⟨q,Gy,v,rfl,rfl,Iz,by rw[<-HH.length];exact LV AQ (by decide),?_⟩;exact h σ Al _ (AK.mut OZ A9 (HH.snoc B8)) s1
        .rw[if_neg AQ]at h;exact h.elim⟩
def qw(hm:X.mg "list"=none)(AB:GT X F [e] ma)(Ao:F.K=X.K:=by rfl)(Ah:EL X "list":=by rfl)(he:BF [e] X.env=(false,BK e X.env)::BF [] X.env:=by rfl)(Dt:(Cy pos (BF [] X.env)).any (·.1)=false:=by rfl):LK X F (.Call (.Name "list" p) [e] [] pos) (P3 ma):=⟨have AB:=AB.1;Ay.imp (oa t2 Ah hm (by kernel_rfl) AB (by decide) (by decide) he Dt) (wN Ao)⟩
def qx{SZ pos':Pos}(hm:X.mg "list"=none)(Oi:X.mg "range"=none)(AB:GT X F [a] ma)(AO:X.calm=true:=by rfl)(Ah:EL X "list":=by rfl)(dQ:EL X "range":=by rfl)(AN:BF [a] X.env=[(false,BK a X.env)]:=by rfl)(Fq:BF [.Call (.Name "range" SZ) [a] [] pos'] X.env=[(false,BK (.Call (.Name "range" SZ) [a] [] pos') X.env)]:=by rfl):LK X F (.Call (.Name "list" p) [.Call (.Name "range" SZ) [a] [] pos'] [] pos) (WB ma):=⟨by
 have AB:=AB.1;refine Ay.imp (zi Ah hm dQ Oi AO AB AN Fq) ?_;rintro σ H Q ⟨G,ρ,r,h⟩;unfold WB at h;refine⟨G,ρ,r,?_⟩;refine rb h λds Aw h vs H1 Al AK s1 a=>?_;unfold W3 at h
 split at h
 .rename_i j
  split at h
  .rename_i By;refine⟨j,a.ints1,By.1,By.2,λl AQ=>?_⟩;exact h l _ _ Al (AK.lay0 AQ) (s1.trans (Bw.lay0 AQ)) (s1.h.gone AQ) E1 (AK.kp.sub.gone AQ) (jX _)
  .exact h.elim
 .exact h.elim⟩
def q0(hm:X.mg "int"=none)(AB:GT X F [e] ma)(Ah:EL X "int":=by rfl)(he:BF [e] X.env=(false,BK e X.env)::BF [] X.env:=by rfl)(Dt:(Cy pos (BF [] X.env)).any (·.1)=false:=by rfl):B1 X F (.Call (.Name "int" p) [e] [] pos) (Bs Ls ma):=⟨have AB:=AB.1;bm (tk.or tl) aaQ hm (by kernel_rfl) AB Ah (by decide) (by decide) he Dt⟩
def g5{Bt:AT}{set:D->AF->R AF}(he:B1 X F e m)(Ah:GM X Bt set)(Ao:F.K=X.K:=by rfl)(AN:swapsWithSole [Bt] e pos.line X.env=pure false:=by rfl)(hw:swappedStores [Bt] e X.env=pure none:=by rfl)(h1:(LY [Bt] X.env).map (·.2)=[Ke Bt X.env]:=by rfl):FL X F (.Assign [Bt] e pos) (Md set m):=⟨by
 have he:=he.1;obtain⟨⟨g,g1,g2⟩,g3,_⟩:=Ah;refine DX.imp (o4 he g1 AN hw h1) ?_;rintro Ca σ H ⟨G,ρ,r,h⟩;unfold Md at h;refine⟨G,ρ,r,?_⟩;refine rb h λd Aw h v H1 Al AK s1 B8=>?_;cases A6:set d ρ with
 |bad=>rw[A6]at h;cases h
 |exc c=>exact absurd A6 (g3 d ρ c)
 |ok BJ=>rw[A6]at h;exact g2 F Ao σ ρ Al H1 v d _ BJ AK B8 A6 λσ' BO=>h σ' Al H1 BO s1.g⟩
def g4(i:Nat){x:Str}{p:Pos}{m:Hh}(hN:X.N.Nodup)(he:Pw X F e m)(AC:X.N[i]?=some x:=by rfl)(AH:Loc X.env.scope x:=by first|exact Dq rfl|exact Ch rfl)(AN:QQ e=true:=by rfl)(hf:X.fn x=true\/X.env.scope.names.lookup x=some .local:=by first|exact .inl rfl|exact .inr rfl):FL X F (.Assign [.Name x p] e pos) (NA i m):=⟨have he:=he.1;DX.imp (b3 hN AC AH he (Nm _ _ _ _ AN) hf) xS⟩
def r1{m:Hh}(h:Pw X F e m)(AN:QQ e=true:=by rfl):FL X F (.Expr e pos) (QC m):=⟨have h:=h.1;DX.imp (b2 h (Nm _ _ _ _ AN)) wD⟩
end
def GE.inj{K:AY}{c:Str}{C KJ:A7}(h:GE K c C)(h':GE K c KJ):C=KJ:=by unfold GE at h h';rw[h]at h';cases h';rfl
theorem nc{K:AY}{G:AA}{f:Str}{d:D}:∀{xs:List (Str×V)}{ds:List D},A_ K G ds (xs.map (·.2))->((xs.map (·.1)).zip ds).lookup f=some d->∃v,xs.lookup f=some v/\At K G d v
 |[],_,_,e=>by simp at e
 |(k,v)::xs,[],h,_=>by have:=h.length;simp at this
 |(k,v)::xs,e::ds,h,l=>by
  simp only[E3,A_]at h;obtain⟨Nq,r,A9,a,t⟩:=h;cases A9;simp only[E3,K4,Um]at l |-;cases AL:f==k with
  |true=>rw[AL]at l;cases l;exact⟨v,rfl,a⟩
  |false=>rw[AL]at l;exact nc t l
theorem ZP{f:Str}:∀{xs:List (Str×V)},(xs.map (·.1)).all (λk=>!(f==k))=true->xs.lookup f=none
 |[],_=>rfl
 |(k,v)::xs,h=>by simp only[E3,R6,Ga,Bool.not_eq_true']at h;rw[Um,h.1];exact ZP (by simpa using h.2)
structure OL(K:AY)(c:Str)(As:List Str):Prop where
 ex:∃C,GE K c C/\Ji K C/\∀f∈As,Rw K C f
def Ds(c f:Str):D->R D
 |.ins DM ns ds=>if DM=c then match(ns.zip ds).lookup f with
  |some d=>.ok d
  |none=>.bad
  else .bad
 |_=>.bad
section
variable{X:Af}{F:BA}{e a b c o:AT}{A6:List AT}{pos p:Pos}{m n:Ag}{ma:B6}
structure Pr(P:Bu)(w:Bh)(K:AY)(mg:Str->Option A4)(base:BH)(Ai mt:Str)(n k:Nat)(mf:List D->R CI):Prop where
 ex:∃(C f:A7)(fd:GD)(Ap:List Str),GE K Ai C/\Ji K C/\Meth K C mt f/\Gd P w K mg base Gb k f fd Ap (Mn K (n+1) mf)/\Binds K fd Ap []
def Q1(Ai mt:Str):D->R D
 |.ins DM ns ds=>if DM=Ai/\ns.all (λk=>!(mt==k))=true then .ok (.ins DM ns ds)else .bad
 |_=>.bad
def Ia(Ai mt:Str)(n:Nat)(mf:List D->R CI)(o:Ag)(ma:B6):Ag:=λρ=>(o ρ).bind λd=>(Q1 Ai mt d).bind λd=>(ma ρ).bind λds=>if ds.length=n then(mf (d::ds)).bind PI else .bad
def wR{Ai mt:Str}{n:Nat}{mf:List D->R CI}{C:A7}{E:DL}(AH:F.EX=λ_ _=>False)(HI:GE F.K Ai C):Ep (Ck F (Ia Ai mt n mf m ma)) (WZ C mt (Mn F.K (n+1) mf) [] E (Ck F m) (F7 F ma)):=by
 rintro σ H Q ⟨G,ρ,r,h⟩;unfold Ia at h;refine⟨G,ρ,r,?_⟩;refine rb h λd Aw h x H1 Al AK s1 Bl=>?_;cases d with
 |ins DM ns ds=>
  simp only[Q1]at h
  split at h
  .rename_i AO;obtain⟨Jz,FE⟩:=AO;subst Jz;have VT:=Bl;simp only[At]at Bl;obtain⟨q,Aj,xs,rfl,⟨KJ,BX,g1⟩,rfl,al⟩:=Bl;have:=BX.inj HI;subst this;refine⟨q,Aj,xs,rfl,AK.kp.sub _ _ g1,ZP FE,Al,ρ,AK,?_⟩;rw[R.E_]at h;refine rb h λA6 Bi h vs Ax Ci B4 s2 B8=>?_;by_cases AS:A6.length=n
   .rw[if_pos AS]at h;rw[LP];exact pK (xe:=λ_ _ _=>False) AH B4 (.cons (VT.mono s2.g) B8) (by simp[AS]) (h.mono (s1.trans s2))
   .rw[if_neg AS]at h;cases h
  .exact h.elim
 |_=>cases h
def cT:D->Option Key
 |.int i=>some (.inl i)
 |.str x=>some (.inr x)
 |_=>none
def ZL:List D->Option (List Key)
 |[]=>some []
 |d::ds=>match cT d,ZL ds with
  |some k,some ks=>some (k::ks)
  |_,_=>none
def eU:D->Option Jm
 |.tup ds=>(ZL ds).map .inr
 |d=>(cT d).map .inl
def aj:List D->Option Bd
 |[]=>some []
 |d::ds=>match eU d,aj ds with
  |some k,some ks=>some (k::ks)
  |_,_=>none
def J8:D->Option Bd
 |.tup ds=>aj ds
 |_=>none
def nG{K:AY}{G:AA}{d:D}{v:V}{k:Key}(e:cT d=some k)(a:At K G d v):v=D9 k:=by
 cases d<;>first
  |(cases e;done)
  |(cases e;simp only[At]at a;exact a)
theorem nH{K:AY}{G:AA}:∀{ds:List D}{vs:List V}{ks:List Key},ZL ds=some ks->A_ K G ds vs->vs=ks.map D9
 |[],_,_,e,a=>by simp only[A_]at a;subst a;cases e;rfl
 |d::ds,_,_,e,a=>by
  simp only[A_]at a;obtain⟨v,r,rfl,B8,MO⟩:=a;unfold ZL at e
  split at e
  .rename_i k ks A9 AG;cases e;rw[nG A9 B8,nH AG MO];rfl
  .cases e
def ye{K:AY}{G:AA}{d:D}{v:V}{k:Jm}(e:eU d=some k)(a:At K G d v):NM G k v:=by
 unfold eU at e
 split at e
 .obtain⟨ks,A9,rfl⟩:=Option.map_eq_some_iff.mp e;simp only[At]at a;obtain⟨b,xs,rfl,A0,al⟩:=a;exact⟨b,rfl,by rw[A0,nH A9 al]⟩
 .obtain⟨k,A9,rfl⟩:=Option.map_eq_some_iff.mp e;exact nG A9 a
theorem m_{K:AY}{G:AA}:∀{ds:List D}{vs:List V}{ks:Bd},aj ds=some ks->A_ K G ds vs->Paired (NM G) ks vs
 |[],_,_,e,a=>by simp only[A_]at a;subst a;cases e;exact .nil
 |d::ds,_,_,e,a=>by
  simp only[A_]at a;obtain⟨v,r,rfl,B8,MO⟩:=a;unfold aj at e
  split at e
  .rename_i k ks A9 AG;cases e;exact .cons (ye A9 B8) (m_ AG MO)
  .cases e
def OH{K:AY}{G:AA}{d:D}{v:V}{ks:Bd}(e:J8 d=some ks)(a:At K G d v):∃b,v=.ref b/\Jt G ks b:=by
 cases d with
 |tup ds=>simp only[At]at a;obtain⟨b,xs,rfl,A0,al⟩:=a;exact⟨b,rfl,xs,A0,m_ e al⟩
 |_=>cases e
def Nn{G H:AA}{k:Bd}{a:A7}(h:Jt G k a)(s:Sub G H):Jt H k a:=h.mono λb xs e=>s b _ e
theorem Wi{κ:Type}[DecidableEq κ](k:κ):∀Ab:List (κ×V),(FI Ab k).isSome=(Ab.map (·.1)).any (λx=>decide (x=k))
 |[]=>rfl
 |(x,v)::Ab=>by
  have C6:=Wi k Ab;unfold FI at C6 |-;rw[IL,E3,Nx];by_cases h:x=k
  .simp[h]
  .simp only[h,decide_false,Bool.false_or];exact C6
def IU(b:Bool)(k d:D):R D:=match d with
 |.B7 ks _=>match J8 k with
  |some kk=>.ok (.Aa (if b then ks.any (λx=>decide (x=kk))else !ks.any (λx=>decide (x=kk))))
  |none=>.bad
 |_=>.bad
def kC{b:Bool}{σ :St}{ρ:AF}{G H:AA}{y x:V}{Lb D8:D}{Q:CT}(r:Rel F G H σ ρ)(CU:At F.K G Lb y)(Bl:At F.K G D8 x)(h:JN F G H σ ρ Q (IU b Lb D8)) :
  ∃a o,x=.ref a/\J4 H a y o/\Q (.Aa (if b then o.isSome else !o.isSome)) H:=by
 unfold IU at h
 split at h
 .rename_i ks ds
  split at h
  .rename_i kk DY;simp only[At]at Bl;obtain⟨a,xs,rfl,Ah,rfl,al⟩:=Bl;obtain⟨q,rfl,AX⟩:=OH DY CU;refine⟨a,FI xs kk,rfl,J4.t (r.kp.sub _ _ Ah) (Nn AX r.kp.sub),?_⟩;rw[Wi];exact h _ H G r (Bw.refl _ _) (by simp only[At])
  .exact h.elim
 .exact h.elim
def lm:Ep (Ck F (A3 (IU true) m n)) (qW (Ck F m) (Ck F n)):=by rintro σ H Q ⟨G,ρ,r,h⟩;unfold A3 at h;refine⟨G,ρ,r,?_⟩;refine rb h λLb Aw h y H1 Al AK s1 CU=>?_;refine⟨Al,ρ,AK,?_⟩;refine rb h λD8 Bi h x Ax Ci B4 s2 Bl=>?_;exact kC (b:=true) B4 (CU.mono s2.g) Bl (h.mono (s1.trans s2))
def wC:Ep (Ck F (A3 (IU false) m n)) (qX (Ck F m) (Ck F n)):=by rintro σ H Q ⟨G,ρ,r,h⟩;unfold A3 at h;refine⟨G,ρ,r,?_⟩;refine rb h λLb Aw h y H1 Al AK s1 CU=>?_;refine⟨Al,ρ,AK,?_⟩;refine rb h λD8 Bi h x Ax Ci B4 s2 Bl=>?_;exact kC (b:=false) B4 (CU.mono s2.g) Bl (h.mono (s1.trans s2))
def RO(i:Nat):Aq:=λρ=>if i<ρ.length then .ok (.BC (ρ.set i (.ob (.B7 [] []))))else .bad
def X7:List Bd->List D->Bd->D->List D
 |k::ks,d::ds,kk,v=>(if k=kk then v else d)::X7 ks ds kk v
 |_,_,_,_=>[]
noncomputable def putD(ks:List Bd)(ds:List D)(kk:Bd)(d:D):R La:=if ks.any (λx=>decide (x=kk))=false/\ks.length<1000000 then .ok (.B7 (ks++[kk]) (ds++[d]))else if ks.any (λx=>decide (x=kk))=true/\ks.length<1000000 then .ok (.B7 ks (X7 ks ds kk d))else .bad
noncomputable def Ta(i:Nat)(mk mv:Ag):Aq:=λρ=>(mv ρ).bind λv=>match ρ[i]? with
 |some (.ob (.B7 ks ds))=>(mk ρ).bind λk=>match J8 k with
  |some kk=>(putD ks ds kk v).bind λo=>.ok (.BC (ρ.set i (.ob o)))
  |none=>.bad
 |_=>.bad
def Hv(m:Ag):Aq:=λρ=>(m (ES ρ)).bind λd=>.ok (.E6 d)
def eE:Aq:=λ_=>.bad
end
mutual
noncomputable def L7:D->Bool
 |.ins _ _ _=>false
 |.tup ds=>Lp ds
 |.lst ds=>Lp ds
 |.Cc ds=>Lp ds
 |.Do _ ds=>Lp ds
 |.B7 _ ds=>Lp ds
 |.EF ds=>Lp ds
 |_=>true
noncomputable def Lp:List D->Bool
 |[]=>true
 |d::ds=>L7 d&&Lp ds
end
def Vs:E5->Bool
 |.ins _ _ _=>true
 |_=>false
section
variable{K:AY}{G G':AA}
def Eu.off(h:∀b o,G b=some o->Vs o=false->G' b=some o){a:A7}{u:E5}(BP:Vs u=false)(r:Eu G a u):Eu G' a u:=by
 rcases r with r|⟨o,r⟩
 .exact .inl (h _ _ r BP)
 .exact .inr ⟨o,h _ _ r rfl⟩
mutual
theorem At.off(h:∀b o,G b=some o->Vs o=false->G' b=some o):∀{d:D}{v:V},L7 d=true->At K G d v->At K G' d v
 |.non,_,_,q=>by simpa only[At]using q
 |.Aa _,_,_,q=>by simpa only[At]using q
 |.int _,_,_,q=>by simpa only[At]using q
 |.str _,_,_,q=>by simpa only[At]using q
 |.tup _,_,n,q=>by simp only[At,L7]at q n |-;obtain⟨a,xs,e,g,r⟩:=q;exact⟨a,xs,e,h _ _ g rfl,A_.off h n r⟩
 |.lst _,_,n,q=>by simp only[At,L7]at q n |-;obtain⟨a,xs,e,g,r⟩:=q;exact⟨a,xs,e,h _ _ g rfl,A_.off h n r⟩
 |.Cc _,_,n,q=>by
  simp only[At,L7]at q n |-;obtain⟨a,xs,e,g,r⟩:=q;refine⟨a,xs,e,?_,A_.off h n r⟩;rcases g with g|g
  .exact .inl (Eu.off h rfl g)
  .exact .inr g
 |.EF _,_,n,q=>by
  simp only[At,L7]at q n |-;obtain⟨a,xs,e,g,r⟩:=q;refine⟨a,xs,e,?_,A_.off h n r⟩;rcases g with g|g
  .exact .inl (Eu.off h rfl g)
  .exact .inr g
 |.Do _ _,_,n,q=>by simp only[At,L7]at q n |-;obtain⟨a,xs,e,g,k,r⟩:=q;exact⟨a,xs,e,h _ _ g rfl,k,A_.off h n r⟩
 |.B7 _ _,_,n,q=>by simp only[At,L7]at q n |-;obtain⟨a,xs,e,g,k,r⟩:=q;exact⟨a,xs,e,h _ _ g rfl,k,A_.off h n r⟩
 |.ins _ _ _,_,n,_=>by simp only[L7]at n;cases n
 |.Q_ _,_,n,q=>by simp only[At]at q |-;obtain⟨a,xs,e,⟨C,BX,g⟩,r⟩:=q;exact⟨a,xs,e,⟨C,BX,h _ _ g rfl⟩,r⟩
theorem A_.off(h:∀b o,G b=some o->Vs o=false->G' b=some o):∀{ds:List D}{vs:List V},Lp ds=true->A_ K G ds vs->A_ K G' ds vs
 |[],_,_,q=>by simpa only[A_]using q
 |_::_,_,n,q=>by simp only[A_,Lp,Ga]at q n |-;obtain⟨v,r,e,a,t⟩:=q;exact⟨v,r,e,At.off h n.1 a,A_.off h n.2 t⟩
end
end
def abe:Be->Bool
 |.ob (.ins _ _ _)=>true
 |.ob _=>false
 |.Et _=>false
 |.Bc _ _=>false
 |_=>true
def dn(ρ:AF):Bool:=ρ.all abe
def RJ(m:Ag):Ag:=λρ=>(m (ES ρ)).bind λd=>if L7 d=true/\dn ρ=true then .ok d else .bad
section
variable{F:BA}
open Classical in
noncomputable def HG(H:AA)(σ :St)(ρ:AF)(G:AA):AA:=λb=>if Cf H σ ρ b then none else G b
def wo{m:Ag}:Ep (Ck F (RJ m)) (Ck F m):=by
 rintro σ H Q ⟨G,ρ,r,h⟩;refine⟨IA σ ρ G H,ES ρ,r.plus,?_⟩;unfold RJ at h;refine rb h λd Aw h v H' G' BO s' a=>?_;by_cases hd:L7 d=true/\dn ρ=true
 .rw[if_pos hd]at h;have QS:∀b,Cf H σ ρ b->G b=none:=λb z=>(r.foot z).2.1;have QR:∀b,Cf H σ ρ b->F.H0 b=none:=λb z=>(r.foot z).2.2;have du:∀b,Cf H σ ρ b->∃AM,H b=some AM/\Vs AM=true:=λb⟨i,s,o,A9,AG,f⟩=>by
   have AC:=List.all_eq_true.mp hd.2 _ (JF A9);cases s with
   |un=>cases f
   |A1 _=>cases f
   |Et _=>cases AC
   |Bc _ _=>cases AC
   |ob ob=>
    have f:o=some (.ref b):=f;obtain⟨c,AM,B3,h1,_,_,h4⟩:=r.obj A9;rw[AG,f]at B3;cases B3;cases ob with
    |lst _=>cases AC
    |B7 _ _=>cases AC
    |ins _ _ _=>obtain⟨C,Aj,xs,_,rfl,_⟩:=h4;exact⟨_,h1,rfl⟩
  have off:∀b,¬Cf H σ ρ b->HG H σ ρ G' b=G' b:=λb n=>by unfold HG;rw[if_neg n]
  have on:∀b,Cf H σ ρ b->HG H σ ρ G' b=none:=λb n=>by unfold HG;rw[if_pos n]
  have BM:Sub G (HG H σ ρ G'):=λb o e=>by
   have n:¬Cf H σ ρ b:=λz=>by rw[QS b z]at e;cases e
   rw[off b n];exact s'.g b o (WK r b o e)
  have cP:∀b,Cf H σ ρ b->∀o,H b=some o->H' b=some o:=λb z o e=>BO.kp.sub _ _ (s'.g _ _ (by rw[Oc z];exact e));have rel:Rel F (HG H σ ρ G') H' σ ρ:=by
   refine r.over rfl ⟨λb o e=>?_,r.kp.ET.trans BM,BO.kp.BD,λb A0=>?_⟩ BM λb C5=>?_
   .by_cases n:Cf H σ ρ b
    .rw[on b n]at e;cases e
    .rw[off b n]at e;exact BO.kp.sub b o e
   .have n:¬Cf H σ ρ b:=λz=>A0.1 (QR b z);rw[off b n];exact BO.kp.new b A0
   .refine⟨?_,on b C5,QR b C5⟩;cases Bi:H b with
    |none=>exact absurd Bi (r.foot C5).1
    |some o=>exact cP b C5 o Bi
  refine h v H' _ rel ⟨BM,s'.h,λb A0=>?_⟩ (At.off (λb o e AC=>?_) hd.1 a)
  .by_cases n:Cf H σ ρ b
   .rw[on b n,QS b n]
   .rw[off b n,s'.n b A0];unfold IA;rw[if_neg n]
  .have n:¬Cf H σ ρ b:=λz=>by
     obtain⟨AM,A9,AG⟩:=du b z;have:=s'.g b AM (by rw[Oc z];exact A9);rw[e]at this;cases this;rw[AC]at AG;cases AG
   rw[off b n];exact e
 .rw[if_neg hd]at h;cases h
abbrev Jl:=AF->R AF
def x1(F:BA)(σ :St)(Ca:Ends):R AF->Prop
 |.ok BJ=>∀G' H',Rel F G' H' σ BJ->Ca.BC σ H'
 |.exc c=>Nc F c
 |.bad=>False
def Os(F:BA)(m:Jl):F_:=λCa σ H=>∃G ρ,Rel F G H σ ρ/\x1 F σ Ca (m ρ)
def NB(a b:Jl):Jl:=λρ=>(a ρ).bind b
def xW{a b:Jl}:IN (Os F (NB a b)) (gD (Os F a) (Os F b)):=by
 rintro Ca σ H ⟨G,ρ,r,h⟩;unfold NB at h;refine⟨G,ρ,r,?_⟩;cases Aw:a ρ with
 |bad=>rw[Aw]at h;cases h
 |exc c=>rw[Aw]at h;exact h
 |ok EQ=>rw[Aw,R.E_]at h;exact λG' H' BO=>⟨G',EQ,BO,h⟩
def QF(c:CR):Jl:=λρ=>(c ρ).bind λk=>if k=true then .bad else .ok ρ
def wI{c:CR}:IN (Os F (QF c)) (gA (HQ F c) qb gC):=by
 rintro Ca σ H ⟨G,ρ,r,h⟩;unfold QF at h;refine⟨G,ρ,r,?_⟩;refine rb h λk Aw h H1 Al AK s1=>?_;cases k with
 |true=>cases h
 |false=>exact h Al H1 AK
theorem b4{f:Str}{v:V}:∀{As:List (Str×V)},(As.map (·.1)).all (λk=>!(f==k))=true->HN f v As=As++[(f,v)]
 |[],_=>rfl
 |(g,x)::As,h=>by
  simp only[E3,R6,Ga,Bool.not_eq_true']at h;have ne:g≠f:=λz=>by subst z;simp at h
  rw[HN,if_neg ne,b4 (by simpa using h.2)];rfl
noncomputable def L0(Ai f:Str)(m:Ag):Jl:=λρ=>(m ρ).bind λd=>match(ρ[0]? :Option Be)with
 |some (.ob (.ins DM ns ds))=>if DM=Ai/\ns.all (λk=>!(f==k))=true/\ns.length<1000 then .ok (ρ.set 0 (.ob (.ins Ai (ns++[f]) (ds++[d]))))else .bad
 |_=>.bad
end
section
variable{X:Af}{F:BA}{e o:AT}{pos:Pos}{m:Ag}
def acU{Ai f x:Str}{As:List Str}{Az pos':Pos}(k:OL X.K Ai As)(he:Jj X F e m)(hf:f∈As:=by decide+kernel)(hN:X.N[0]?=some x:=by rfl)(BR:H3 X.env.scope x:=by first|exact Dq rfl|exact Ch (Dq rfl)|exact Ch (Ch rfl))(hd:(x==("__debug__" :Str))=false:=by decide)(DU:(x==("__classdict__" :Str))=false:=by decide)(AN:QQ e=true:=by rfl)(Ao:F.K=X.K:=by rfl) :
  DX X (.Assign [.Attribute (.Name x Az) f pos'] e pos) (Os F (L0 Ai f m)):=by
 refine DX.imp (e2 (IG hN BR hd DU) he (Nm _ _ _ _ AN)) ?_;rintro Ca σ H ⟨G,ρ,r,h⟩;unfold L0 at h;refine⟨G,ρ,r,?_⟩;refine rb h λd Aw h v H1 Al AK s1 B8=>?_
 split at h
 .rename_i DM ns ds CN
  split at h
  .rename_i AO;obtain⟨rfl,FE,U5⟩:=AO;obtain⟨q,AM,A9,h1,h2,h3,C,Aj,xs,BX,rfl,rfl,al⟩:=AK.obj CN;obtain⟨KJ,CP,Br,Ft⟩:=k.ex;rw[Ao]at BX;have:=BX.inj CP;subst this;refine⟨.ref q,A9,q,C,Aj,xs,rfl,h1,Br,Ft f hf,by simpa using U5,?_⟩;refine h Al _ (AK.Wx CN A9 ⟨C,Aj,HN f v xs,by rw[Ao];exact BX,rfl,?_,?_⟩)
   .rw[b4 FE];simp
   .rw[b4 FE,Hz];exact al.snoc B8
  .exact h.elim
 .exact h.elim
end
noncomputable def lY(F:BA)(x C:A7)(Q:CT):R (List Str×List D)->Prop
 |.ok (ns,ds)=>∀Aj xs G' H',FZ F G' H'->G' x=none->H' x=some (.ins C Aj xs)->xs.map (·.1)=ns->A_ F.K G' ds (xs.map (·.2))->Q .non H'
 |.exc _=>False
 |.bad=>False
noncomputable def XI(K:AY)(Ai:Str)(n:Nat)(mf:List D->R (List Str×List D)):B9:=λvs H Q E=>∃G x C Aj A6 ws,vs=.ref x::ws/\GE K Ai C/\H x=some (.ins C Aj [])/\G x=none/\Sub G H/\A_ K G A6 ws/\A6.length=n/\lY ⟨K,G,del H x,λ_ _=>False,J9⟩ x C Q (mf A6)
def RN(Ai:Str)(n:Nat)(mf:List D->R (List Str×List D))(ma:B6):Ag:=λρ=>(ma ρ).bind λds=>if ds.length=n then(Ie (mf ds)).bind λx=>.ok (.ins Ai x.1 x.2)else .bad
section
variable{X:Af}{F:BA}{e:AT}{A6:List AT}{pos p:Pos}{ma:B6}
def wP{Ai:Str}{n:Nat}{mf:List D->R (List Str×List D)}{C:A7}{E:DL}(HI:GE F.K Ai C):Ep (Ck F (RN Ai n mf ma)) (gB C (XI F.K Ai n mf) [] E (F7 F ma)):=by
 rintro σ H Q ⟨G,ρ,r,h⟩;unfold RN at h;refine⟨G,ρ,r,?_⟩;refine rb h λds Aw h vs H1 Al AK s1 B8 x Aj AH dM ne=>?_;by_cases AS:ds.length=n
 .rw[if_pos AS]at h;rw[LP];have Pz:Sub H1 (del (upd (upd H1 Aj (.own x)) x (.ins C Aj [])) x):=λb o e=>by
   have D3:b≠x:=λz=>by rw[z,AH]at e;cases e
   have DI:b≠Aj:=λz=>by rw[z,dM]at e;cases e
   rw[sy D3,Da D3,Da DI];exact e
  have dd:Sub Al (upd (upd H1 Aj (.own x)) x (.ins C Aj [])):=AK.kp.sub.trans (Pz.trans (kB _ _));refine⟨Al,x,C,Aj,ds,vs,rfl,HI,E1,AK.kp.sub.gone AH,dd,B8,AS,?_⟩;cases em:mf ds with
  |bad=>rw[em]at h;cases h
  |exc c=>rw[em]at h;cases h
  |ok y=>obtain⟨ns,Vc⟩:=y;rw[em]at h;intro VD xs G' H' k g1 g2 g3 HZ;refine⟨rfl,?_⟩;have BD:Sub H1 H':=Pz.trans k.BD;have nw:∀b,I5 H1 b->G' b=Al b:=λb A0=>k.new b (Pz.JX A0);have B4:Rel F G' H' σ ρ:=AK.grow k.ET k.sub BD nw;have no:¬Cf H' σ ρ x:=Cf.fresh AK BD AH;refine h (.ref x) H' _ (B4.take g2 g1 (AK.kp.BD.gone AH) no) ((s1.trans ⟨k.ET,BD,nw⟩).put (s1.h.gone AH) g1) ?_;simp only[At];exact⟨x,VD,xs,rfl,⟨C,HI,E1⟩,g3,HZ.mono (Sub.upd g1)⟩
 .rw[if_neg AS]at h;cases h
structure hs(P:Bu)(w:Bh)(K:AY)(mg:Str->Option A4)(base:BH)(Ai:Str)(n k:Nat)(mf:List D->R (List Str×List D)):Prop where
 ex:∃(C f:A7)(fd:GD)(Ap:List Str),GE K Ai C/\VN K C f/\Gd P w K mg base Gb k f fd Ap (XI K Ai n mf)/\mg Ai=some (.ref C)/\Binds K fd Ap []
end
def Kv(Ai:Str)(A6:List D):AF:=.ob (.ins Ai [] [])::A6.map .A1
def outI(Ai:Str):R AF->R (List Str×List D)
 |.ok (.ob (.ins c ns ds)::_)=>if c=Ai then .ok (ns,ds)else .bad
 |_=>.bad
def acD{K:AY}{G H:AA}{EX:Str->AA->Prop}{Ai:Str}{C Aj x:A7}{A6:List D}{ws:List V}(HI:GE K Ai C)(h1:H x=some (.ins C Aj []))(h2:G x=none)(s:Sub G H)(B8:A_ K G A6 ws) :
  Rel ⟨K,G,del H x,EX,J9⟩ G H (some (.ref x)::ws.map some) (Kv Ai A6):=by
 refine⟨⟨s,Sub.refl _,kB H x,λ_ _=>rfl⟩,by simp[Kv,B8.length],λi t e=>?_,λi j b As kj o Ce DS Db _ _ f uI=>?_⟩
 .cases i with
  |zero=>simp[Kv]at e;subst e;exact⟨some (.ref x),by simp,x,_,rfl,h1,h2,tQ,C,Aj,[],HI,rfl,rfl,.nil⟩
  |succ i=>
   simp only[Kv,Lu]at e |-;rw[ER]at e;cases G3:A6[i]? with
   |none=>rw[G3]at e;cases e
   |some d=>rw[G3]at e;cases e;obtain⟨v,A9,a⟩:=B8.get G3;exact⟨some v,by rw[ER,A9];rfl,v,rfl,a⟩
 .have one:∀{i:Nat}{As:Be}{o:Option V},(Kv Ai A6)[i]?=some As->FB H As o b->i=0:=λ{i As o} e f=>by
    cases i with
    |zero=>rfl
    |succ i=>
     simp only[Kv,Lu,ER]at e;cases G3:A6[i]? with
     |none=>rw[G3]at e;cases e
     |some d=>rw[G3]at e;cases e;cases f
  rw[one DS f,one Db uI]
def xj{K:AY}{Ai:Str}{n:Nat}{m:Jl}{vs:List V}{H:AA}{Q:CT}{E:DL}(h:XI K Ai n (λA6=>outI Ai (m (Kv Ai A6))) vs H Q E) :
  ∃G H0,Os (Gk K G H0) m { BC:=λ_ H'=>Q .non H',E6:=Q } (vs.map some) H:=by
 obtain⟨G,x,C,Aj,A6,ws,rfl,HI,h1,h2,s,B8,l,k⟩:=h;refine⟨G,del H x,G,Kv Ai A6,acD HI h1 h2 s B8,?_⟩;replace k:lY ⟨K,G,del H x,λ_ _=>False,J9⟩ x C Q (outI Ai (m (Kv Ai A6))):=k;cases em:m (Kv Ai A6)with
 |bad=>rw[em]at k;cases k
 |exc c=>rw[em]at k;cases k
 |ok BJ=>
  rw[em]at k;intro G' H' r;unfold outI at k
  split at k
  .rename_i afY ns ds F8 heq;cases heq;obtain⟨a,AM,A9,g1,g2,g3,KJ,VD,xs,BX,rfl,AG,al⟩:=r.obj (i:=0) rfl;have A9:some (some (V.ref x))=some (some (V.ref a)):=A9;cases A9
   split at k
   .rename_i AO;subst AO;have:=BX.inj HI;subst this;exact k VD xs G' H' r.kp g2 g1 AG al
   .exact k.elim
  .exact k.elim
end Cm
namespace Cm
open PySem PySem.Spec C2 PyProof.Rows
def pI{K:AY}{Ai:Str}{n:Nat}{mf:List D->R (List Str×List D)}:∀vs H Q E,XI K Ai n mf vs H Q E->vs.length=n+1:=λvs H Q E h=>by obtain⟨G,x,C,Aj,A6,ws,rfl,_,_,_,_,q,l,_⟩:=h;rw[Hk,<-q.length,l]
def adX{N:List Str}{vs:List V}(h:vs.length=N.length):C2.start N vs=vs.map some:=by unfold C2.start;simp[h]
def vx{P:Bu}{w:Bh}{K:AY}{mg:Str->Option A4}{base:BH}{x qual Ai FU:Str}{st:BW}{Ap:List Str}{k:Nat}{m:Jl}{f:A7}{fd:GD}(fn:MD K x qual st f fd)(S:D2 (FU::Ap) (FU::Ap) (Bx st))(h:∀(f:A7)(CA:A4)(A:CG)(outer:List Env)(s:AP)(H:AA)(E:DL),Dy k (A.deeper (Mw qual (Bx st) s.heap.objs.size f CA))->∀G0 H0,Gg (Iy Gb P w K mg base (FU::Ap) qual (Bx st) f CA A outer s H E).KP (GU st) (Os (Gk K G0 H0) m)) :
  Gd P w K mg base Gb (k+1) f fd (FU::Ap) (XI K Ai Ap.length λA6=>outI Ai (m (Kv Ai A6))):=fn.ok S pI λCA A outer s H vs Q E AI AN=>by
 have AQ:=pI vs H Q E AN;obtain⟨G,H0,Av⟩:=xj AN;refine⟨_,h f CA A outer s H E AI G H0,?_⟩;rw[adX (by simpa using AQ)];exact Av
def zQ{P:Bu}{w:Bh}{K:AY}{mg:Str->Option A4}{base:BH}{x qual Ai FU:Str}{st:BW}{N Ap:List Str}{k:Nat}{m:Aq}{C f:A7}{fd:GD}(fn:MD K x qual st f fd)(HI:GE K Ai C)(AO:Ji K C)(hm:Meth K C x f)(A0:Binds K fd (FU::Ap) [])(S:D2 N (FU::Ap) (Bx st))(h:∀(f:A7)(CA:A4)(A:CG)(outer:List Env)(s:AP)(H:AA)(E:DL),Dy k (A.deeper (Mw qual (Bx st) s.heap.objs.size f CA))->∀G0 H0,Ju (Iy Gb P w K mg base N qual (Bx st) f CA A outer s H E).KP (Gk K G0 H0) (GU st) m) :
  Pr P w K mg base Ai x Ap.length (k+1) (Dh N.length m):=by
 refine⟨C,f,fd,FU::Ap,HI,AO,hm,fn.ok S eb λCA A outer s H vs Q E AI AN=>?_,A0⟩;obtain⟨G,Av⟩:=cK AN;exact⟨_,(h f CA A outer s H E AI G H).1,Av⟩
section
variable{X:Af}{F:BA}{e a b c:AT}{A6:List AT}{pos p:Pos}{m n:Ag}{ma:B6}
def SB:List D->R D
 |[.lst xs]=>.ok (.tup xs)
 |[.Cc xs]=>.ok (.tup xs)
 |[.tup xs]=>.ok (.tup xs)
 |_=>.bad
def aaR(Ao:F.K=X.K):OK F (λxs H Q=>∃p ys,xs=[.ref p]/\((C4 X.K H p ys/\∀l,H l=none->Q (.ref l) (upd H l (.tup ys)))\/(CK X.K H p ys/\Q (.ref p) H))) SB:=by
 intro σ ρ G H xs ds Q r al k;unfold SB at k
 split at k
 .obtain⟨v,rfl,B8⟩:=al.one;simp only[At]at B8;obtain⟨q,ys,rfl,AX,F2⟩:=B8;refine⟨q,ys,rfl,.inl ⟨C4.of (r.kp.sub _ _ AX),λl AQ=>?_⟩⟩;refine k (.ref l) _ _ (r.lay AQ) (Bw.lay r.kp.sub AQ) ?_;simp only[At];exact⟨l,ys,rfl,E1,F2.mono (Sub.upd (r.kp.sub.gone AQ))⟩
 .obtain⟨v,rfl,B8⟩:=al.one;simp only[At]at B8;obtain⟨q,ys,rfl,AX,F2⟩:=B8;refine⟨q,ys,rfl,.inl ⟨by rw[<-Ao];exact C4.mono r.kp.sub AX,λl AQ=>?_⟩⟩;refine k (.ref l) _ _ (r.lay AQ) (Bw.lay r.kp.sub AQ) ?_;simp only[At];exact⟨l,ys,rfl,E1,F2.mono (Sub.upd (r.kp.sub.gone AQ))⟩
 .obtain⟨v,rfl,B8⟩:=al.one;have tR:=B8;simp only[At]at B8;obtain⟨q,ys,rfl,AX,F2⟩:=B8;exact⟨q,ys,rfl,.inr ⟨CK.of (r.kp.sub _ _ AX),k _ H G r (Bw.refl _ _) tR⟩⟩
 .exact k.elim
end
end Cm
namespace Dj
open PySem PyProof.Rows
section
variable{prog:Bu}{w:Bh}{A:CG}{E:A4->AP->Prop}{s:AP}
def tD{t b:A7}{ws:List A4}{Q:A4->AP->Prop}(Av:IsTup s.heap t ([]:List A4).toArray)(A0:IsTup s.heap b ws.toArray)(h:Q (.ref b) s):Ae (B2 prog w) A (JK .Add (.ref t) (.ref b)) Q E s:=by
 obtain⟨⟨cls,D8,data,Bz⟩,AM,AO,n,hd⟩:=id Av;obtain⟨⟨tE,Yk,data2,aV⟩,Rj,FE,DI,hd2⟩:=id A0;simp only at AO hd FE hd2;subst AO hd FE hd2
 exact concat_meets ⟨_,AM,rfl⟩ ⟨_,Rj,rfl⟩ gw seq_tuple_add gh gf (gV _ _)
  (tuple_addW0 t b ([]:List A4).toArray ws.toArray n DI D8 Yk Bz aV (by simp)) ⟨AM,Rj,h⟩
end
end Dj
namespace C2
open PySem PySem.Spec PyProof.Rows
variable{X:Af}
def nj(K:AY):F1:=λx y H Q=>∃a b ys,x=.ref a/\y=.ref b/\CK K H a []/\CK K H b ys/\Q (.ref b) H
def aa_:E9 X (JK .Add) (nj X.K):=by intro pins s σ H x y v u Q I BQ Bv h;obtain⟨a,b,ys,rfl,rfl,AB,A0,q⟩:=h;cases BQ;cases Bv;obtain⟨its,AK,Eh,_⟩:=I.tuple AB;cases AK;obtain⟨IC,B4,Cu,_⟩:=I.tuple A0;exact Dj.tD Eh Cu ⟨.ref b,H,I,rfl,q⟩
end C2
namespace Cm
open PySem PySem.Spec C2 PyProof.Rows
section
variable{X:Af}{F:BA}{e a b c:AT}{A6:List AT}{pos p:Pos}{m n:Ag}{ma:B6}
def VY:D->D->R D
 |.tup xs,.tup ys=>if xs.length+ys.length<=1000000 then .ok (.tup (xs++ys))else .bad
 |_,_=>.bad
def aaI(Ao:F.K=X.K):Ho F (λx y H Q=>ni X.K x y H Q\/nj X.K x y H Q) VY:=by
 intro σ ρ G H x y Aj Gi Q r Bl CU k;unfold VY at k
 split at k
 .rename_i ds A6;have VT:=Bl;have tS:=CU;simp only[At]at Bl CU
  split at k
  .rename_i AQ;obtain⟨p,xs,rfl,h1,An⟩:=Bl;obtain⟨Cu,ys,rfl,h2,BG⟩:=CU;by_cases AH:xs=[]
   .subst AH;refine .inr ⟨p,Cu,ys,rfl,rfl,CK.of (r.kp.sub _ _ h1),CK.of (r.kp.sub _ _ h2),?_⟩;have e:ds=[]:=rM (by rw[An.length];rfl);subst e;exact k _ H G r (Bw.refl _ _) tS
   .refine .inl ⟨p,Cu,xs,ys,rfl,rfl,CK.of (r.kp.sub _ _ h1),CK.of (r.kp.sub _ _ h2),AH,by rw[<-An.length,<-BG.length];exact Ff AQ (by decide),λBf=>?_,λ_ l AS=>?_⟩
    .subst Bf;have e:A6=[]:=rM (by rw[BG.length];rfl);subst e;rw[LP]at k;exact k _ H G r (Bw.refl _ _) VT
    .refine k (.ref l) _ _ (r.lay AS) (Bw.lay r.kp.sub AS) ?_;simp only[At];exact⟨l,xs++ys,rfl,E1,(An.append BG).mono (Sub.upd (r.kp.sub.gone AS))⟩
  .exact k.elim
 .exact k.elim
def LB(d:D)(l h:Option Int):R D:=match d with
 |.tup xs=>if Dj.CQ xs.length 0 l=0/\Dj.CQ xs.length xs.length h=xs.length then .bad else .ok (.tup (G2 xs l h))
 |_=>.bad
def xU(Ao:F.K=X.K){lo AC:MI}:Ep (Ck F (EN LB m lo AC)) (gE (ny X.K) (Ck F m) (Wa F lo) (Wa F AC)):=by
 rintro σ H Q ⟨G,ρ,r,h⟩;unfold EN at h;refine⟨G,ρ,r,?_⟩;refine rb h λd Aw h x H1 Al AK s1 Bl=>?_;refine⟨Al,ρ,AK,?_⟩;refine rb h λl el h Ax Ci B4 s2=>?_;refine⟨Ci,ρ,B4,?_⟩;refine rb h λu OW h Cp Ge DV s3=>?_;have up:=(s1.trans s2).trans s3;have K9:=(Bl.mono s2.g).mono s3.g;cases d with
 |tup ds=>
  simp only[LB]at h
  split at h
  .exact h.elim
  .rename_i hw;simp only[At]at K9;obtain⟨q,xs,rfl,AX,F2⟩:=K9;rw[F2.length]at hw;refine⟨q,xs,rfl,CK.of (DV.kp.sub _ _ AX),hw,λN7 AS=>?_⟩;refine h (.ref N7) _ _ (DV.lay AS) (up.trans (Bw.lay DV.kp.sub AS)) ?_;simp only[At];exact⟨N7,_,rfl,E1,(F2.cut l u).mono (Sub.upd (DV.kp.sub.gone AS))⟩
 |_=>cases h
instance(i j:Int):Decidable (IntMulOk i j):=by unfold IntMulOk;infer_instance
end
section
variable{X:Af}{F:BA}{e a b c:AT}{A6:List AT}{pos p:Pos}{m n:Ag}{ma:B6}
def Q9(i:Nat)(m:Ag):B6:=λρ=>(ownAt i ρ).bind λds=>(m ρ).bind λd=>match d with
 |.lst A6=>if ds.length+A6.length<=1000000 then .ok (ds++A6)else .bad
 |_=>.bad
end
end Cm
namespace Cm
open PySem PySem.Spec C2
section
variable{X:Af}{F:BA}{e a b c o Bt iter elt:AT}{A6:List AT}{pos p:Pos}{m n:Ag}{ma:B6}{st:BW}{S8:List BW}
def KX{Ai f:Str}{As:List Str}(k:OL X.K Ai As)(he:B1 X F o m)(hf:f∈As:=by decide+kernel)(Ao:F.K=X.K:=by rfl)(A0:I0 o f X.env (BK o X.env)=BK o X.env:=by rfl):B1 X F (.Attribute o f pos) (Cr (Ds Ai f) m):=⟨by
 have he:=he.1;refine Ay.imp (dw he A0) ?_;rintro σ H Q ⟨G,ρ,r,h⟩;unfold Cr at h;refine⟨G,ρ,r,?_⟩
 revert h;refine λg=>rb g λd Aw h x H1 Al AK s1 Bl=>?_
 cases d with
 |ins DM ns ds=>
  simp only[Ds]at h
  split at h
  .rename_i AO;subst AO
   split at h
   .rename_i d' AQ;simp only[At]at Bl;obtain⟨q,Aj,xs,rfl,⟨C,BX,g1⟩,rfl,al⟩:=Bl;obtain⟨v,BR,B8⟩:=nc al AQ;obtain⟨KJ,CP,Br,Ft⟩:=k.ex;rw[Ao]at BX;have:=BX.inj CP;subst this;exact⟨q,C,Aj,xs,v,rfl,AK.kp.sub _ _ g1,Br,Ft f hf,BR,h v H1 Al AK s1 B8⟩
   .exact h.elim
  .exact h.elim
 |_=>exact h.elim⟩
def bC {Ai mt:Str} {n k:Nat} {mf:List D->R CI} {pl:Sem Bool} {apos:Pos} (c:Pr X.prog X.w X.K X.mg X.base Ai mt n k mf) (AI:Dy k X.A) (he:B1 X F o m) (AB:GT X F (e::A6) ma) (KF:F.EX=λ_ _=>False:=by rfl) (Ao:F.K=X.K:=by rfl) (OD:BF (e::A6) X.env=(false,BK e X.env)::BF A6 X.env:=by rfl) (Dt:(Cy pos (BF A6 X.env)).any (·.1)=false:=by rfl) (Av:BK (.Call (.Attribute o mt apos) (e::A6) [] pos) X.env=(do
   let D1 <-BK o X.env
   N6 apos.atName
   let(f,first) <-K6 [D1] (PX D1 mt pl)
   RH pos f first (Cy pos (BF (e::A6) X.env)) (H6 pos (H5 [] X.env))):=by rfl):B1 X F (.Call (.Attribute o mt apos) (e::A6) [] pos) (Ia Ai mt n mf m ma):=⟨by
 have he:=he.1;have AB:=AB.1;obtain⟨C,f,fd,Ap,BX,Ev,HB,HY,A0⟩:=c.ex;refine Ay.imp (oh (pl:=pl) he Ev HB HY AI A0 .nil Sb AB OD Dt Av) ?_;rw[<-Ao];exact wR KF (by rw[Ao];exact BX)⟩
def agk(BP:X.A.units+64<De)(AB:B1 X F a m)(A0:B1 X F b n)(h1:Io .In b=false:=by with_unfolding_all rfl):B1 X F (.Compare a [.In] [b] pos) (A3 (IU true) m n):=⟨have AB:=AB.1;have A0:=A0.1;Ay.imp (aa9 (oZ (by lia) AB A0) h1) lm⟩
def r6(BP:X.A.units+64<De)(AB:B1 X F a m)(A0:B1 X F b n)(h1:Io .In b=false:=by with_unfolding_all rfl):Fz X F (.Compare a [.In] [b] pos) (BE (A3 (IU true) m n)):=⟨by
 have AB:=AB.1;have A0:=A0.1;refine Fm.imp (oA (oZ (by lia) AB A0) h1) λσ H Q h=>?_;obtain⟨G,ρ,r,k⟩:=Zz σ H Q h;exact lm σ H _ ⟨G,ρ,r,k⟩⟩
def aei(BP:X.A.units+64<De)(AB:B1 X F a m)(A0:B1 X F b n)(h1:Io .NotIn b=false:=by with_unfolding_all rfl):Fz X F (.Compare a [.NotIn] [b] pos) (BE (A3 (IU false) m n)):=⟨by
 have AB:=AB.1;have A0:=A0.1;refine Fm.imp (oA (aa3 (by lia) AB A0) h1) λσ H Q h=>?_;obtain⟨G,ρ,r,k⟩:=Zz σ H Q h;exact wC σ H _ ⟨G,ρ,r,k⟩⟩
def r5(i:Nat){x:Str}{p q:Pos}(hN:X.N.Nodup)(AC:X.N[i]?=some x:=by rfl)(AH:Loc X.env.scope x:=by first|exact Dq rfl|exact Ch rfl)(hf:X.fn x=true\/X.env.scope.names.lookup x=some .local:=by first|exact .inl rfl|exact .inr rfl):FL X F (.Assign [.Name x p] (.Dict [] [] q) pos) (RO i):=⟨by
 refine DX.imp (b3 hN AC AH od (Nm _ _ _ _ rfl) hf) ?_;rintro Ca σ H ⟨G,ρ,r,h⟩;unfold RO at h;intro a AB
 split at h
 .rename_i AQ;refine h _ G _ ((r.lay0 AB).setB AQ E1 (r.kp.sub.gone AB) (r.kp.BD.gone AB) ⟨[],rfl,rfl,.nil⟩ λj A6 o _ A9 AG f=>Cf.fresh r (Sub.upd AB) AB ⟨j,A6,o,A9,AG,f⟩) (Sub.refl _)
 .exact h.elim⟩
def ov(e a b:AT)(p:Pos)(l:Nat)(env:Env):PW e (some (.Subscript a b p)) l env=pure false:=by cases e<;>rfl
theorem b8{K:AY}{G:AA}{kk:Bd}{d:D}{v:V}(B8:At K G d v):∀{xs:List (Bd×V)}{ds:List D},A_ K G ds (xs.map (·.2))->A_ K G (X7 (xs.map (·.1)) ds kk d) ((xs.map λCt=>if Ct.1=kk then(Ct.1,v)else Ct).map (·.2))
 |[],ds,h=>by cases ds<;>exact .nil
 |(k,u)::xs,[],h=>by simp[A_]at h
 |(k,u)::xs,e::ds,h=>by
  simp only[E3,A_,Up]at h;obtain⟨_,_,⟨rfl,rfl⟩,h1,h2⟩:=h;simp only[E3,X7];by_cases q:k=kk
  .rw[if_pos q,if_pos q];exact .cons B8 (b8 B8 h2)
  .rw[if_neg q,if_neg q];exact .cons h1 (b8 B8 h2)
def r0(i:Nat){x:Str}{Az pos':Pos}{k v:AT}{mk mv:Ag}(BP:X.A.units+64<De)(AL:B1 X F k mk)(BR:B1 X F v mv)(hN:X.N[i]?=some x:=by rfl)(Rn:H3 X.env.scope x:=by first|exact Dq rfl|exact Ch (Dq rfl)|exact Ch (Ch rfl))(hd:(x==("__debug__" :Str))=false:=by decide)(DU:(x==("__classdict__" :Str))=false:=by decide):FL X F (.Assign [.Subscript (.Name x Az) k pos'] v pos) (Ta i mk mv):=⟨by
 have AL:=AL.1;have BR:=BR.1;refine DX.imp (o5 (by lia) (IG hN Rn hd DU) AL BR (ov _ _ _ _ _ _)) ?_;rintro Ca σ H ⟨G,ρ,r,h⟩;unfold Ta at h;refine⟨G,ρ,r,?_⟩;refine rb h λVC Aw h v H1 Al AK s1 B8=>?_
 split at h
 .rename_i ks ds CN;obtain⟨q,AM,A9,_⟩:=AK.obj CN;refine⟨.ref q,A9,Al,ρ,AK,?_⟩;refine rb h λLb Bi h y Ax Ci B4 s2 CU=>?_;obtain⟨Hw,Ed,Ew,h1,h2,h3,xs,rfl,rfl,al⟩:=B4.obj CN;rw[A9]at Ew;cases Ew
  split at h
  .rename_i kk DY;unfold putD at h
   split at h
   .rename_i AO;obtain⟨Jz,FE⟩:=AO;obtain⟨VW,rfl,WQ⟩:=OH DY CU;have AS:FI xs kk=none:=by
     have:=Wi kk xs;rw[Jz]at this;exact Option.not_isSome_iff_eq_none.mp (by rw[this];exact GC)
    refine⟨q,_,rfl,Pn.t h1 (Nn WQ B4.kp.sub) (LV (by simpa using FE) (by decide)),?_⟩;rw[e4 _ AS];refine h σ Ci _ (B4.Wx CN A9 ⟨xs++[(kk,v)],rfl,by simp,?_⟩) (s1.g.trans s2.g);rw[Hz];exact al.snoc (B8.mono s2.g)
   .split at h
    .rename_i AO;obtain⟨Jz,FE⟩:=AO;obtain⟨VW,rfl,WQ⟩:=OH DY CU;refine⟨q,_,rfl,Pn.t h1 (Nn WQ B4.kp.sub) (LV (by simpa using FE) (by decide)),?_⟩;have BY:putK xs kk v=xs.map (λCt=>if Ct.1=kk then(Ct.1,v)else Ct):=by
      unfold putK;rw[PQ]at Jz;exact if_pos Jz
     rw[BY];refine h σ Ci _ (B4.Wx CN A9 ⟨_,rfl,?_,b8 (B8.mono s2.g) al⟩) (s1.g.trans s2.g);rw[IK];refine List.map_congr_left λCt _=>?_;show(if Ct.1=kk then(Ct.1,v)else Ct).1=Ct.1
     split<;>rfl
    .exact h.elim
  .exact h.elim
 .exact h.elim⟩
def SH(h:B1 X F e m):FL X F (.Return (some e) pos) (Hv m):=⟨by
 have h:=h.1;refine DX.imp (X6 h) ?_;rintro Ca σ H ⟨G,ρ,r,h⟩;unfold Hv at h;refine⟨_,_,r.plus,?_⟩;cases Aw:m (ES ρ)with
 |bad=>rw[Aw]at h;cases h
 |exc c=>rw[Aw]at h;exact h
 |ok d=>rw[Aw,R.E_]at h;exact λv H' G' BO s' a=>h v G' H' BO.kp a⟩
def qz{st:BW}:FL X F st eE:=⟨DX.imp o7 λCa σ H⟨G,ρ,r,h⟩=>h.elim⟩
def af3(h:B1 X F e m):B1 X F e (RJ m):=⟨have h:=h.1;Ay.imp h wo⟩
def afA{Ai:Str}{n k:Nat}{mf:List D->R (List Str×List D)}(c:hs X.prog X.w X.K X.mg X.base Ai n k mf)(AI:Dy (k+1) X.A)(AB:GT X F (e::A6) ma)(Ao:F.K=X.K:=by rfl)(Ah:EL X Ai:=by rfl)(HJ:(Ai==("__debug__" :Str))=false:=by decide)(he:BF (e::A6) X.env=(false,BK e X.env)::BF A6 X.env:=by rfl)(Dt:(Cy pos (BF A6 X.env)).any (·.1)=false:=by rfl):B1 X F (.Call (.Name Ai p) (e::A6) [] pos) (RN Ai n mf ma):=⟨by
 have AB:=AB.1;obtain⟨C,f,fd,Ap,BX,Ev,HY,hm,A0⟩:=c.ex;refine Ay.imp (og Ev HY AI Ah hm A0 .nil Sb AB HJ he Dt) ?_;rw[<-Ao];exact wP (by rw[Ao];exact BX)⟩
def q1(hm:X.mg "tuple"=none)(AB:GT X F [e] ma)(Ao:F.K=X.K:=by rfl)(Ah:EL X "tuple":=by rfl)(he:BF [e] X.env=(false,BK e X.env)::BF [] X.env:=by rfl)(Dt:(Cy pos (BF [] X.env)).any (·.1)=false:=by rfl):B1 X F (.Call (.Name "tuple" p) [e] [] pos) (Bs SB ma):=⟨have AB:=AB.1;bm t7 (aaR Ao) hm (by kernel_rfl) AB Ah (by decide) (by decide) he Dt⟩
def af4(AB:B1 X F a m)(A0:B1 X F b n)(Ao:F.K=X.K:=by rfl):B1 X F (.BinOp a .Add b pos) (A3 VY m n):=⟨have AB:=AB.1;have A0:=A0.1;Px (aaZ.or aa_) (aaI Ao) AB A0⟩
def fy{lo AC:Option AT}{Cu:Pos}{Me QL:MI}(AB:B1 X F a m)(AQ:Pc X F lo Me)(BD:Pc X F AC QL)(Ao:F.K=X.K:=by rfl):B1 X F (.Subscript a (.Slice lo AC none Cu) pos) (EN LB m Me QL):=⟨have AB:=AB.1;have AQ:=AQ.1;have BD:=BD.1;Ay.imp (dy pE AB AQ BD) (xU Ao)⟩
def qv(i:Nat){x:Str}{Az:Pos}(A0:B1 X F b m)(hN:X.N[i]?=some x:=by rfl)(BR:H3 X.env.scope x:=by first|exact Dq rfl|exact Ch (Dq rfl)|exact Ch (Ch rfl))(hd:(x==("__debug__" :Str))=false:=by decide)(DU:(x==("__classdict__" :Str))=false:=by decide):LK X F (.BinOp (.Name x Az) .Add b pos) (Q9 i m):=⟨by
 have A0:=A0.1;refine Ay.imp (dx dq (IG hN BR hd DU) A0) ?_;rintro σ H Q ⟨G,ρ,r,h⟩;unfold Q9 ownAt at h;cases CN:ρ[i]? with
 |none=>rw[CN]at h;cases h
 |some s=>
  rw[CN]at h;cases s with
  |un=>cases h
  |A1 _=>cases h
  |Et _=>cases h
  |Bc _ _=>cases h
  |ob ob=>
   cases ob with
   |B7 _ _=>cases h
   |ins _ _ _=>cases h
   |lst ds=>
    obtain⟨q,xs,A9,h1,h2,h3,h4⟩:=r.own CN;rw[R.E_]at h;refine⟨.ref q,A9,G,ρ,r,?_⟩;refine rb h λd Aw h v H1 Al AK s1 B8=>?_;obtain⟨Hw,Gy,Ew,Iz,Oe,Qb,HH⟩:=AK.own CN;rw[A9]at Ew;cases Ew;cases d with
    |lst A6=>
     simp only at h
     split at h
     .rename_i AQ;simp only[At]at B8;obtain⟨Cu,ys,rfl,g2,BG⟩:=B8;refine⟨q,Cu,Gy,ys,rfl,rfl,Iz,AK.kp.sub _ _ g2,by rw[<-HH.length,<-BG.length];exact Ff AQ (by decide),λl AS=>?_⟩;exact h l (Gy++ys) _ Al (AK.lay0 AS) (s1.trans (Bw.lay0 AS)) (s1.h.gone AS) E1 (AK.kp.sub.gone AS) (HH.append BG)
     .exact h.elim
    |_=>exact h.elim⟩
structure Yy(X:Af)(F:BA)(st:BW)(m:Jl):Prop where
 o:DX X st (Os F m)
structure Yx(X:Af)(F:BA)(st:List BW)(m:Jl):Prop where
 o:Gg X st (Os F m)
def afN{m:Jl}(h:Yy X F st m):Yx X F [st] m:=⟨e3 h.1⟩
def Wu{a b:Jl}(h:Yy X F st a)(k:Yx X F S8 b):Yx X F (st::S8) (NB a b):=⟨Gg.imp (o8 h.1 k.1) xW⟩
def q4{c:AT}{r:BW}{k:CR}(h:Fz X F c k):Yy X F (.If c [r] [] pos) (QF k):=⟨DX.imp (o6 h.1 (e3 o7) o9) wI⟩
def bG{Ai f x:Str}{As:List Str}{Az pos':Pos}(k:OL X.K Ai As)(he:B1 X F e m)(hf:f∈As:=by decide+kernel)(hN:X.N[0]?=some x:=by rfl)(BR:H3 X.env.scope x:=by first|exact Dq rfl|exact Ch (Dq rfl)|exact Ch (Ch rfl))(hd:(x==("__debug__" :Str))=false:=by decide)(DU:(x==("__classdict__" :Str))=false:=by decide)(AN:QQ e=true:=by rfl)(Ao:F.K=X.K:=by rfl) :
  Yy X F (.Assign [.Attribute (.Name x Az) f pos'] e pos) (L0 Ai f m):=⟨Cm.acU k he.1 hf hN BR hd DU AN Ao⟩
end
structure OP(K:AY)(Ai x qual:Str)(st:BW)(Ap:List Str):Prop where
 ex:∃(C f:A7)(fd:GD),GE K Ai C/\Ji K C/\Meth K C x f/\MD K x qual st f fd/\Binds K fd Ap []
structure InK(K:AY)(mg:Str->Option A4)(Ai qual:Str)(st:BW)(Ap:List Str):Prop where
 ex:∃(C f:A7)(fd:GD),GE K Ai C/\VN K C f/\MD K "__init__" qual st f fd/\mg Ai=some (.ref C)/\Binds K fd Ap []
def bF{P:Bu}{w:Bh}{K:AY}{mg:Str->Option A4}{base:BH}{x qual Ai FU:Str}{st:BW}{N Ap:List Str}{k:Nat}{m:Aq}(d:OP K Ai x qual st (FU::Ap))(S:D2 N (FU::Ap) (Bx st))(h:∀(f:A7)(CA:A4)(A:CG)(outer:List Env)(s:AP)(H:AA)(E:DL),Dy k (A.deeper (Mw qual (Bx st) s.heap.objs.size f CA))->∀G0 H0,Ju (Iy Gb P w K mg base N qual (Bx st) f CA A outer s H E).KP (Gk K G0 H0) (GU st) m) :
  Pr P w K mg base Ai x Ap.length (k+1) (Dh N.length m):=by
 obtain⟨C,f,fd,h1,h2,h3,h4,h5⟩:=d.ex;exact zQ h4 h1 h2 h3 h5 S h
def afL{P:Bu}{w:Bh}{K:AY}{mg:Str->Option A4}{base:BH}{qual Ai FU:Str}{st:BW}{Ap:List Str}{k:Nat}{m:Jl}(d:InK K mg Ai qual st (FU::Ap))(S:D2 (FU::Ap) (FU::Ap) (Bx st))(h:∀(f:A7)(CA:A4)(A:CG)(outer:List Env)(s:AP)(H:AA)(E:DL),Dy k (A.deeper (Mw qual (Bx st) s.heap.objs.size f CA))->∀G0 H0,Yx (Iy Gb P w K mg base (FU::Ap) qual (Bx st) f CA A outer s H E).KP (Gk K G0 H0) (GU st) m) :
  hs P w K mg base Ai Ap.length (k+1) (λA6=>outI Ai (m (Kv Ai A6))):=by
 obtain⟨C,f,fd,h1,h2,h3,h4,h5⟩:=d.ex;exact⟨C,f,fd,FU::Ap,h1,h2,vx h3 S λf CA A outer s H E AI G0 H0=>(h f CA A outer s H E AI G0 H0).1,h4,h5⟩
end Cm
namespace Cm
open PySem PySem.Spec C2 PyProof.Rows
section
variable{K:AY}{G G' H H':AA}
def Bp.nil:Bp K G H [] []:=by simp only[Bp]
def Bp.cons{t:T}{Au:List T}{v:V}{vs:List V}(h:CS K G H t v)(k:Bp K G H Au vs):Bp K G H (t::Au) (v::vs):=by simp only[Bp];exact⟨v,vs,rfl,h,k⟩
theorem Bp.length:∀{Au:List T}{vs:List V},Bp K G H Au vs->Au.length=vs.length
 |[],_,h=>by simp only[Bp]at h;subst h;rfl
 |_::_,_,h=>by simp only[Bp]at h;obtain⟨v,r,rfl,_,t⟩:=h;simp[Bp.length t]
theorem qp:∀{Au:List T}{vs:List V}{i:Nat}{t:T},Bp K G H Au vs->Au[i]?=some t->∃v,vs[i]?=some v/\CS K G H t v
 |[],_,_,_,_,e=>by simp at e
 |_::_,_,0,_,h,e=>by simp only[Bp]at h;obtain⟨v,r,rfl,q,t⟩:=h;simp at e;subst e;exact⟨v,by simp,q⟩
 |_::_,_,i+1,d,h,e=>by simp only[Bp]at h;obtain⟨v,r,rfl,q,t⟩:=h;obtain⟨u,h1,h2⟩:=qp (i:=i) (t:=d) t (by simpa using e);exact⟨u,by simpa using h1,h2⟩
theorem Bp.append:∀{Au us:List T}{vs ws:List V},Bp K G H Au vs->Bp K G H us ws->Bp K G H (Au++us) (vs++ws)/\EA H (Au++us) (vs++ws)=EA H Au vs++EA H us ws
 |[],_,_,_,h,t=>by simp only[Bp]at h;subst h;exact⟨t,by rw[U2];rfl⟩
 |_::_,_,_,_,h,t=>by simp only[Bp]at h;obtain⟨v,r,rfl,q,s⟩:=h;obtain⟨h1,h2⟩:=Bp.append s t;exact⟨.cons q h1,by rw[List.cons_append,List.cons_append,Hr,Hr,h2,Uu]⟩
theorem d7:∀{Au:List T}{xs:List V}{k:Nat}{t:T}{v:V}{b:A7},Au[k]?=some t->xs[k]?=some v->b∈Ak H t v->b∈EA H Au xs
 |[],_,_,_,_,_,e,_,_=>by simp at e
 |_::_,[],_,_,_,_,_,e,_=>by simp at e
 |_::_,_::_,0,_,_,_,A9,AG,h=>by simp at A9 AG;subst A9 AG;rw[Hr];exact HS _ h
 |_::_,_::_,k+1,_,_,_,A9,AG,h=>by rw[Hr];exact GB _ (d7 (by simpa using A9) (by simpa using AG) h)
end
section
variable{F:BA}{G H:AA}{σ :C2.St}{ρ:AF}
end
section
variable{X:Af}{F:BA}{e a b c Bt iter elt:AT}{A6:List AT}{pos p:Pos}{m n:Ag}{ma:B6}
end
end Cm
namespace Cm
open PySem PySem.Spec C2
section
variable{F:BA}
end
section
variable{X:Af}{F:BA}{e a b c Bt iter elt:AT}{A6:List AT}{pos p:Pos}{m n:Ag}{ma:B6}{scope:ED}{N:List Str}
end
noncomputable def Qr(c:CR)(b:Aq):Nat->AF->R FQ
 |0,_=>.bad
 |n+1,ρ=>(c ρ).bind λk=>if k=true then(b ρ).bind λf=>match f with
  |.BC BJ=>Qr c b n BJ
  |.DB BJ=>Qr c b n BJ
  |.G1 BJ=>.ok (.BC BJ)
  |f=>.ok f
  else .ok (.BC ρ)
def L1(c:CR)(b:Aq):Aq:=Qr c b 1000
section
variable{F:BA}
def xa{c:CR}{b:Aq}:IN (GK F (L1 c b)) (qh (HQ F c) (GK F b)):=by
 rintro Ca σ H ⟨G,ρ,r,h⟩;refine⟨λm σ2 Ax=>∃Ci EW,Rel F Ci Ax σ2 EW/\Sub G Ci/\Ht F Ci Ca (Qr c b m EW),⟨1000,G,ρ,r,Sub.refl _,h⟩,?_⟩;rintro m σ2 Ax ⟨Ci,EW,B4,s2,Br⟩;refine⟨Ci,EW,B4,?_⟩;cases m with
 |zero=>cases Br
 |succ n=>
  simp only[Qr]at Br;refine rb Br λk ec Br Cp Ge DV No=>?_;cases k with
  |false=>rw[if_neg GC]at Br |-;exact Br σ2 Ge Cp DV No.g
  |true=>
   rw[if_pos rfl]at Br |-;refine⟨λσ4 Hg=>∃VI Jh,Rel F VI Hg σ4 Jh/\Sub G VI/\Ht F VI Ca (Qr c b n Jh),λσ4 Hg q=>⟨n,Xh _,q⟩,Ge,EW,DV,?_⟩;refine rb Br λf Bi Br=>?_;cases f with
   |BC P0=>exact λσ7 ME H2 JZ Dn=>⟨ME,P0,JZ,s2.trans (No.g.trans Dn),Ht.mono (No.g.trans Dn) Br⟩
   |DB P0=>exact λσ7 ME H2 JZ Dn=>⟨ME,P0,JZ,s2.trans (No.g.trans Dn),Ht.mono (No.g.trans Dn) Br⟩
   |G1 P0=>exact λσ7 ME H2 JZ Dn=>Br σ7 ME H2 JZ (No.g.trans Dn)
   |E6 d=>exact Br
   |J_ ds=>exact Br
   |Py t=>exact Br
   |rs t _=>exact Br
end
section
variable{X:Af}{F:BA}{e a b c o:AT}{A6:List AT}{pos p:Pos}{m n:Ag}{ma:B6}
def bI{body:List BW}{Ze:CR}{HL:Aq}(Ad:PassesOwn (B2 X.prog X.w) X.A X.env X.xe)(AO:Fz X F c Ze)(A0:Ju X F body HL):FL X F (.While c body [] pos) (L1 Ze HL):=⟨DX.imp (aao Ad AO.1 A0.1) xa⟩
def findD(ks:List Bd)(ds:List D)(kk:Bd):Option D:=((ks.zip ds).find? λp=>decide (p.1=kk)).map (·.2)
theorem WF{K:AY}{G:AA}(kk:Bd):∀{ds:List D}{xs:List (Bd×V)},A_ K G ds (xs.map (·.2))->match findD (xs.map (·.1)) ds kk with
  |some d=>∃v,FI xs kk=some v/\At K G d v
  |none=>FI xs kk=none
 |[],xs,h=>by
  simp only[A_]at h;have:xs=[]:=by simpa using h
  subst this;rfl
 |d::ds,[],h=>by simp only[A_,PP]at h;obtain⟨v,r,e,_⟩:=h;cases e
 |d::ds,(k,v)::xs,h=>by
  simp only[A_,E3]at h;obtain⟨Nq,r,e,a,t⟩:=h;cases e;have C6:=WF (K:=K) (G:=G) kk (ds:=ds) (xs:=xs) t;unfold findD FI at C6 |-;simp only[E3,K4,IL];by_cases AL:k=kk
  .simp only[AL,decide_true,hR];exact⟨v,rfl,a⟩
  .simp only[AL,decide_false];exact C6
def W7(m n:Ag):Ag:=λρ=>(m ρ).bind λd=>match d with
 |.B7 ks ds=>(n ρ).bind λk=>match J8 k with
  |some kk=>.ok ((findD ks ds kk).getD .non)
  |none=>.bad
 |_=>.bad
def wA:Ep (Ck F (W7 m n)) (qV (Ck F m) (Ck F n)):=by
 rintro σ H Q ⟨G,ρ,r,h⟩;unfold W7 at h;refine⟨G,ρ,r,?_⟩;refine rb h λD8 Aw h x H1 Al AK s1 Bl=>?_;cases D8 with
 |B7 ks ds=>
  simp only at h;simp only[At]at Bl;obtain⟨a,xs,rfl,Ah,rfl,al⟩:=Bl;refine⟨a,rfl,.inr ⟨xs,.inl (AK.kp.sub _ _ Ah)⟩,Al,ρ,AK,?_⟩;refine rb h λLb Bi h y Ax Ci B4 s2 CU=>?_;cases DY:J8 Lb with
  |none=>rw[DY]at h;cases h
  |some kk=>
   rw[DY]at h;simp only at h;obtain⟨q,rfl,AX⟩:=OH DY CU;refine⟨FI xs kk,J4.t (B4.kp.sub _ _ (s2.g _ _ Ah)) (Nn AX B4.kp.sub),?_⟩;have f:=WF (K:=F.K) (G:=Al) kk al;cases Cs:findD (xs.map (·.1)) ds kk with
   |none=>rw[Cs]at f h;rw[show FI xs kk=none from f];exact h .non Ax Ci B4 (s1.trans s2) (by simp only[Xj,At])
   |some d=>rw[Cs]at f h;obtain⟨v,ev,B8⟩:=f;rw[ev];exact h v Ax Ci B4 (s1.trans s2) (B8.mono s2.g)
 |_=>cases h
def af6 {apos Bq:Pos} (BP:X.A.units+64<De) (AM:B1 X F o m) (he:B1 X F e n) (h1:I0 o "get" X.env (BK o X.env)=BK o X.env:=by rfl)(h2:((Cy Bq (BF [e] X.env)).all (λx=>!x.1)&&(H6 Bq (H5 [] X.env)).all (λx=>x.1.isSome)
  &&decide (([e]:List AT).length+([]:List FY).length+(if([]:List FY).isEmpty then 0 else 1)<30))=true:=by rfl) (h3:(apos.endLine==Bq.line)=true:=by rfl) (h4:Cy Bq (BF [e] X.env)=[(false,BK e X.env)]:=by rfl) :
  B1 X F (.Call (.Attribute o "get" apos) [e] [] Bq) (W7 m n):=⟨Ay.imp (zc (by lia) AM.1 he.1 ⟨h1,h2,h3,h4⟩) wA⟩
def IV(d k:D):R D:=match d with
 |.B7 ks ds=>match J8 k with
  |some kk=>match findD ks ds kk with
   |some v=>.ok v
   |none=>.bad
  |none=>.bad
 |_=>.bad
def wB:Ep (Ck F (A3 IV m n)) (pP (Ck F m) (Ck F n)):=by
 rintro σ H Q ⟨G,ρ,r,h⟩;unfold A3 at h;refine⟨G,ρ,r,?_⟩;refine rb h λD8 Aw h x H1 Al AK s1 Bl=>?_;refine⟨Al,ρ,AK,?_⟩;refine rb h λLb Bi h y Ax Ci B4 s2 CU=>?_;unfold IV at h
 split at h
 .rename_i ks ds
  split at h
  .rename_i kk DY;simp only[At]at Bl;obtain⟨a,xs,rfl,Ah,rfl,al⟩:=Bl;obtain⟨q,rfl,AX⟩:=OH DY CU;have f:=WF (K:=F.K) (G:=Al) kk al
   split at h
   .rename_i d Cs;rw[Cs]at f;obtain⟨v,ev,B8⟩:=f;refine⟨a,v,rfl,?_,h v Ax Ci B4 (s1.trans s2) (B8.mono s2.g)⟩;rw[<-ev];exact J4.t (B4.kp.sub _ _ (s2.g _ _ Ah)) (Nn AX B4.kp.sub)
   .exact h.elim
  .exact h.elim
 .exact h.elim
def fw(BP:X.A.units+64<De)(AM:B1 X F o m)(he:B1 X F e n)(AN:Yr e):B1 X F (.Subscript o e pos) (A3 IV m n):=⟨Ay.imp (oc (by lia) AM.1 he.1 AN) wB⟩
end
section
variable{K:AY}{G0 H0:AA}{E:DL}
end
section
variable{X:Af}{e c:AT}{A6:List AT}{st:BW}{pos p:Pos}{K:AY}{G0 H0:AA}{E:DL}{mt:CR}{ms:Aq}{ma:B6}
end
section
variable{P:Bu}{w:Bh}{K:AY}{mg:Str->Option A4}{base:BH}{N:List Str}{qual:Str}{scope:ED}{f:A7}{cd:A4}{A:CG}{outer:List Env}{s0:AP}{TL:AA}{E:DL}{G0 H0:AA}
end
section
variable{X:Af}{F:BA}{e:AT}{A6:List AT}{pos p:Pos}{ma:B6}
end
end Cm
namespace C2
open PySem PySem.Spec PySem.Calls PyProof.Rows PySem.W PySem.Builtin PySem.Builtin.ObjectAttr PySem.Builtin.Getset_descriptor
section
variable{prog:Bu}{w:Bh}{A:CG}{E:A4->AP->Prop}{s:AP}{K:Frag}{a D:A7}
end
end C2
namespace Cm
open PySem PySem.Spec C2
section
variable{X:Af}{F:BA}{a:AT}{pos p:Pos}{m:Ag}
end
def Mk:D->D->R D
 |.lst xs,.int k=>if 0<=k/\k<=1000/\xs.length<=100 then .ok (.lst (Fx k.toNat xs).flatten)else .bad
 |_,_=>.bad
theorem A_.rep{K:AY}{G:AA}{ds:List D}{xs:List V}(q:A_ K G ds xs):∀n:Nat,A_ K G (Fx n ds).flatten (Fx n xs).flatten
 |0=>by simpa using A_.nil
 |n+1=>by rw[PN,PN,R3,R3];exact q.append (A_.rep q n)
section
variable{X:Af}{F:BA}{a b:AT}{pos p:Pos}{m n:Ag}
def aaN:Ho F nu Mk:=by
 intro σ ρ G H x y Aj Gi Q r Bl CU k;unfold Mk at k
 split at k
 .rename_i xs j
  split at k
  .rename_i AO;simp only[At]at Bl CU;obtain⟨l,vs,rfl,AQ,al⟩:=Bl;refine⟨l,j,vs,rfl,CU,r.kp.sub _ _ AQ,by lia,by lia,?_,λq AX=>?_⟩
   .rw[<-al.length];have h1:j.toNat<=1000:=by lia
    exact Ff (Nat.mul_le_mul AO.2.2 h1) (by decide)
   .refine k (.ref q) _ _ (r.lay AX) (Bw.lay r.kp.sub AX) ?_;simp only[At];exact⟨q,_,rfl,E1,(al.mono (Sub.upd (r.kp.sub.gone AX))).rep j.toNat⟩
  .exact k.elim
 .exact k.elim
def pz(AB:B1 X F a m)(A0:B1 X F b n):B1 X F (.BinOp a .Mult b pos) (A3 Mk m n):=⟨Px zr aaN AB.1 A0.1⟩
def zy{i:Nat}{ρ:AF}{ds:List D}(h:ownAt i ρ=.ok ds):ρ[i]?=some (.C5 ds):=by
 unfold ownAt at h
 split at h
 .rename_i e;cases h;exact e
 .cases h
def zx{i:Nat}{ρ:AF}{c:Str}(h:ownAt i ρ=.exc c):False:=by
 unfold ownAt at h
 split at h<;>cases h
end
end Cm
namespace YC
open PySem PySem.SetTable
section
variable{α:Type}
end
section
variable{α:Type}
end
section
variable{prog:Bu}{w:Bh}{A:CG}{E:A4->AP->Prop}{s:AP}{K:Type}[DecidableEq K]{knd:KeyKind prog w K}
end
section
variable{prog:Bu}{w:Bh}{A:CG}{E:A4->AP->Prop}{s:AP}{K:Type}[DecidableEq K]{knd:KeyKind prog w K}
end
section
variable{prog:Bu}{w:Bh}{A:CG}{E:A4->AP->Prop}{s:AP}{K:Type}[DecidableEq K]{knd:KeyKind prog w K}
end
end YC
namespace YC
open PySem PySem.Spec PyProof.Rows
section
variable{prog:Bu}{w:Bh}{K:Type}[DecidableEq K]{knd:hI prog w K}
def ss(S:List (List K))(ks:List K):List (List K):=if ks∈S then S else S++[ks]
def sx(keys:List (List K)):List (List K):=keys.foldl ss []
section
variable{A:CG}{R:Result->AP->Prop}{I:A7}{Ak wr:List A7}{G:Array GenState->Array GenState->Prop}{n:Nat}{P:Nat->A4->Prop}{St:Nat->AP->Prop}
end
end
section
variable{prog:Bu}{w:Bh}{A:CG}{E:A4->AP->Prop}{s:AP}{K:Type}[DecidableEq K]{knd:hI prog w K}
end
end YC
namespace LT
open PySem PyProof.Rows
structure Fy(kd:Ly)(CD:Array K7)(st:Gr):Prop where
 k:JM st=kd
 p:(Bn st).Perm CD
 n:O3 st= #[]
 f:T5 st=none
def Fy.KW{kd:Ly}{CD:Array K7}{st:Gr}(b:Fy kd CD st):(Bn st).size=CD.size:=b.p.size_eq
def Fy.to{kd:Ly}{CD:Array K7}{st:Gr}(b:Fy kd CD st){xs:Array K7}(q:xs.Perm (Bn st)):Fy kd CD (setArr st xs):=⟨b.k,q.trans b.p,b.n,b.f⟩
structure NH(prog:Bu)(w:Bh)(A:CG)(s:AP)(kd:Ly)(κ:KeyKind)(CD:Array K7):Prop where
 lt:∀(E:A4->AP->Prop)(x y:K7){Q:Bool->AP->Prop},x∈CD.toList->y∈CD.toList->Q (κ.blt ((κ.keyOf x.1).getD κ.dflt) ((κ.keyOf y.1).getD κ.dflt)) s->Ae (B2 prog w) A (keyLt' kd x.1 y.1) Q E s
section
variable{prog:Bu}{w:Bh}{A:CG}{E:A4->AP->Prop}{s:AP}{CD:Array K7}{κ:KeyKind}{kd:Ly}
def Fy.at{st:Gr}(b:Fy kd CD st){i:Nat}(AC:i<CD.size):∃x,(Bn st)[i]?=some x/\x∈CD.toList/\KK κ (Bn st) i=(κ.keyOf x.1).getD κ.dflt:=by
 have g:i<(Bn st).size:=by rw[b.KW];exact AC
 have e:=getElem?_pos (Bn st) i g;refine⟨_,e,(Array.perm_iff_toList_perm.mp b.p).mem_iff.mp (by simp),?_⟩;unfold KK;rw[e]
def W4(C:NH prog w A s kd κ CD){st:Gr}(b:Fy kd CD st){i j:Nat}{Q:Option Bool->Gr->Prop}(AC:i<CD.size)(By:j<CD.size)(h:Q (some (κ.blt (KK κ (Bn st) i) (KK κ (Bn st) j))) st):wpS (B2 prog w) A E s (ltAt' i j) Q st:=by obtain⟨x,Ey,Em,Fd⟩:=b.at (κ:=κ) AC;obtain⟨y,IJ,Il,SL⟩:=b.at (κ:=κ) By;rw[Fd,SL]at h;rw[ltAt'_eq];refine F0 (wpS_get ?_);show wpS _ _ _ _ (elem' (Bn st) i>>=λx=>elem' (Bn st) j>>=λy=>lt' x y) Q st;rw[elem'_eq,Ey,elem'_eq,IJ];refine F0 (Gp (F0 (Gp ?_)));rw[lt'_eq];refine F0 (wpS_get (F0 (wpS_lift (R7 ?_))));rw[b.k];exact C.lt _ x y Em Il ⟨rfl,Gp h⟩
def q9{xs:Array K7}:H7 κ xs 1:=λi j a c=>by
 have:i=j:=by lia
 subst this;exact RA _
def aeR{xs:Array K7}{n:Nat}(h:H7 κ xs n)(q:κ.kle (KK κ xs (n-1)) (KK κ xs n)):H7 κ xs (n+1):=λi j a c=>by
 by_cases e:j<n
 .exact h i j a e
 have e:j=n:=by lia
 subst e;by_cases g:i=j
 .subst g;exact RA _
 .exact Xl (h i (j-1) (by lia) (by lia)) q
def Yl{xs:Array K7}{n:Nat}(h:NonIncK κ xs n)(q:κ.kle (KK κ xs n) (KK κ xs (n-1))):NonIncK κ xs (n+1):=λi j a c=>by
 by_cases e:j<n
 .exact h i j a e
 have e:j=n:=by lia
 subst e;by_cases g:i=j
 .subst g;exact RA _
 .exact Xl q (h i (j-1) (by lia) (by lia))
def NonIncK.same{xs ys:Array K7}{n:Nat}(h:NonIncK κ xs n)(e:∀k,KK κ ys k=KK κ xs k):NonIncK κ ys n:=λi j a c=>by rw[e,e];exact h i j a c
def jW(C:NH prog w A s kd κ CD){st:Gr}{a Eg:Nat}{Q:AscSt->Gr->Prop}(AS:Eg<=CD.size)(AB:1<=a)(an:a<=Eg)(b:Fy kd CD st)(AN:H7 κ (Bn st) a)(h:∀n,a<=n->n<=Eg->H7 κ (Bn st) n->(n<Eg->κ.klt (KK κ (Bn st) n) (KK κ (Bn st) (n-1)))->Q (none,n) st):wpS (B2 prog w) A E s (ascLoop a Eg) Q st:=by
 unfold ascLoop;refine Sy (I:=λx c t=>t=st/\c=(none,x)/\H7 κ (Bn st) x) ?_ ?_ ⟨rfl,rfl,AN⟩
 .rintro x c t g1 g2 ⟨rfl,rfl,g3⟩;dsimp only;refine F0 (W4 C b (by lia) (by lia) ?_);cases e:κ.blt (KK κ (Bn t) x) (KK κ (Bn t) (x-1))with
  |true=>exact Gp (h x g1 (by lia) g3 λ_=>e)
  |false=>exact Gp ⟨rfl,rfl,aeR g3 e⟩
 .rintro c t ⟨rfl,rfl,g⟩;have em:max a Eg=Eg:=by lia
  rw[em]at g |-;exact h Eg an (CY _) g λz=>absurd z (JC _)
def qi(C:NH prog w A s kd κ CD){st:Gr}{n Eg:Nat}{Q:Option Nat->Gr->Prop}(AS:Eg<=CD.size)(h1:1<=n)(nn:n<=Eg)(b:Fy kd CD st)(AN:NonIncK κ (Bn st) n)(h:∀m t,Fy kd CD t->m<=Eg->H7 κ (Bn t) m->Q (some m) t):wpS (B2 prog w) A E s (tail3 n Eg) Q st:=by
 have Ar:n<=(Bn st).size:=by rw[b.KW];lia
 have LN:Fy kd CD (setArr st (mirror (Bn st) 0 n ((n-0)/2))):=b.to (YA _ _ _ _);unfold tail3;refine F0 (YB (F0 (jW C AS h1 nn LN (λi j g1 g2=>?_) λm Hu H_ ZT _=>Gp (h m _ LN H_ ZT))));show κ.kle (KK κ (mirror (Bn st) 0 n ((n-0)/2)) i) (KK κ (mirror (Bn st) 0 n ((n-0)/2)) j);rw[KK_mirror Ar,KK_mirror Ar,if_pos ⟨JJ _,by lia⟩,if_pos ⟨JJ _,g2⟩];exact AN _ _ (by lia) (by lia)
def Flat(κ:KeyKind)(xs:Array K7)(m q:Nat):Prop:=q+1<=m/\∀i,m-(q+1)<=i->i<m->KK κ xs i=KK κ xs (m-1)
def bX{xs:Array K7}{m:Nat}(h:1<=m):Flat κ xs m 0:=⟨h,λi a c=>by
 have:i=m-1:=by lia
 rw[this]⟩
def uP(C:NH prog w A s kd κ CD){st:Gr}{n Eg:Nat}{Q:DescSt->Gr->Prop}(AS:Eg<=CD.size)(h1:1<=n)(nn:n<=Eg)(b:Fy kd CD st)(AN:NonIncK κ (Bn st) n)(h:∀m q t,Fy kd CD t->n<=m->m<=Eg->NonIncK κ (Bn t) m->Flat κ (Bn t) m q->Q (none,m,q) t):wpS (B2 prog w) A E s (descLoop n Eg) Q st:=by
 unfold descLoop;refine Sy (I:=λx c t=>∃q,c=(none,x,q)/\Fy kd CD t/\NonIncK κ (Bn t) x/\Flat κ (Bn t) x q) ?_ ?_ ⟨0,rfl,b,AN,bX h1⟩
 .rintro x c t g1 g2 ⟨q,rfl,b,g3,HZ⟩;dsimp only;have Ar:x<=(Bn t).size:=by rw[b.KW];lia
  refine F0 (W4 C b (by lia) (by lia) ?_);cases e:κ.blt (KK κ (Bn t) x) (KK κ (Bn t) (x-1))with
  |true=>
   have up:=Yl g3 (Xt e);dsimp only;rw[if_pos rfl];by_cases z:q>0
   .rw[if_pos z];exact F0 (YB (Gp ⟨0,rfl,b.to (YA _ _ _ _),NonIncK.same up (hS Ar HZ.2),bX (by lia)⟩))
   .rw[if_neg z];exact Gp ⟨0,rfl,b,up,bX (by lia)⟩
  |false=>
   dsimp only;rw[if_neg (by simp)];refine F0 (W4 C b (by lia) (by lia) ?_);cases CV:κ.blt (KK κ (Bn t) (x-1)) (KK κ (Bn t) x)with
   |true=>exact Gp (h x q t b g1 (by lia) g3 HZ)
   |false=>
    have bo:KK κ (Bn t) x=KK κ (Bn t) (x-1):=rq CV e;refine Gp ⟨q+1,rfl,b,Yl g3 CV,by have:=HZ.1;lia,λi a c=>?_⟩;rw[show x+1-1=x by lia];by_cases w:i=x
    .rw[w]
    .rw[bo];exact HZ.2 i (by lia) (by lia)
 .rintro c t ⟨q,rfl,b,g3,HZ⟩;have em:max n Eg=Eg:=by lia
  rw[em]at g3 HZ |-;exact h Eg q t b nn (CY _) g3 HZ
def kE(C:NH prog w A s kd κ CD){st:Gr}{n Eg:Nat}{Q:Option Nat->Gr->Prop}(AS:Eg<=CD.size)(nn:n+1<=Eg)(b:Fy kd CD st)(AN:NonIncK κ (Bn st) (n+1))(h:∀m t,Fy kd CD t->m<=Eg->H7 κ (Bn t) m->Q (some m) t):wpS (B2 prog w) A E s (descPart n Eg) Q st:=by
 unfold descPart;refine F0 (wpS_lift (Kc ⟨rfl,F0 (uP C AS (by lia) nn b AN λm q t LN Hu H_ g1 g2=>?_)⟩));dsimp only;have Ar:m<=(Bn t).size:=by rw[LN.KW];lia
 by_cases z:q>0
 .rw[if_pos z];exact F0 (YB (qi C AS (by lia) H_ (LN.to (YA _ _ _ _)) (NonIncK.same g1 (hS Ar g2.2)) h))
 .rw[if_neg z];exact qi C AS (by lia) H_ LN g1 h
def acM(C:NH prog w A s kd κ CD){st:Gr}{Eg:Nat}{Q:Option Nat->Gr->Prop}(AS:Eg<=CD.size)(h1:1<=Eg)(b:Fy kd CD st)(h:∀m t,Fy kd CD t->m<=Eg->H7 κ (Bn t) m->Q (some m) t) :
  wpS (B2 prog w) A E s (countRun' 0 Eg) Q st:=by
 rw[countRun0_eq];refine F0 (jW C AS (CY 1) h1 b q9 λn D3 DI g1 g2=>?_);dsimp only;by_cases e:n=Eg
 .rw[if_pos (by simpa using e)];exact Gp (h n st b DI g1)
 rw[if_neg (by simpa using e)];have g2:=g2 (by lia);have Ar:n<=(Bn st).size:=by rw[b.KW];lia
 by_cases z:n>1
 .rw[if_pos z];refine F0 (W4 C b (by lia) (by lia) ?_);cases CV:κ.blt (KK κ (Bn st) 0) (KK κ (Bn st) (n-1))with
  |true=>exact Gp (h n st b DI g1)
  |false=>
   dsimp only;rw[if_neg (by simp)];have HF:∀k,0<=k->k<n->KK κ (Bn st) k=KK κ (Bn st) (n-1):=λk _ AL=>
    rq (g1 k (n-1) (by lia) (by lia)) (Xl CV (g1 0 k (JJ _) AL))
   have uV:NonIncK κ (Bn st) n:=λi j a c=>by rw[HF i (JJ _) (by lia),HF j (JJ _) c];exact RA _
   exact F0 (YB (kE C AS (by lia) (b.to (YA _ _ _ _)) (NonIncK.same (Yl uV (Xt g2)) (hS Ar HF)) h))
 .rw[if_neg z];have A9:n=1:=by lia
  subst A9;exact kE C AS (by lia) b (Yl (λi j a c=>by
   have:i=j:=by lia
   subst this;exact RA _) (Xt g2)) h
def tX(C:NH prog w A s kd κ CD){st:Gr}{n ok:Nat}{Q:Bool->Gr->Prop}(AS:n<=CD.size)(AL:ok<=n)(b:Fy kd CD st)(AN:H7 κ (Bn st) ok)(h:∀t,Fy kd CD t->H7 κ (Bn t) n->Q true t):wpS (B2 prog w) A E s (binarySort' 0 n ok) Q st:=by
 rw[binarySort'_eq];simp only[Sz];refine F0 (wpS_mono (Sy (I:=λk c t=>c=(none,())/\Fy kd CD t/\H7 κ (Bn t) (min k n)) (Q:=λc t=>c=(none,())/\Fy kd CD t/\H7 κ (Bn t) n) ?_ ?_ ?_) ?_)
 .rintro k c t CP Br ⟨rfl,b,g⟩;have DY:min k n=k:=by lia
  rw[DY]at g;have Ar:k<(Bn t).size:=by rw[b.KW];lia
  refine F0 (wpS_mono (Sy (I:=λx c u=>u=t/\∃l r,c=(none,l,r)/\l<=r/\r<=k/\r-l<=k-x/\(∀i,i<l->κ.kle (KK κ (Bn t) i) (KK κ (Bn t) k))/\∀i,r<=i->i<k->κ.klt (KK κ (Bn t) k) (KK κ (Bn t) i))
   (Q:=λc u=>u=t/\∃l r,c=(none,l,r)/\l<=k/\(∀i,i<l->κ.kle (KK κ (Bn t) i) (KK κ (Bn t) k))/\∀i,l<=i->i<k->κ.klt (KK κ (Bn t) k) (KK κ (Bn t) i)) ?_ ?_ ⟨rfl,0,k,rfl,by lia,by lia,by lia,λi z=>by lia,λi z GA=>by lia⟩) ?_)
  .rintro x c u _ Em ⟨rfl,l,r,rfl,G6,Dl,W0,lo,AC⟩;dsimp only;by_cases z:l≥r
   .rw[if_pos z];have e:l=r:=by lia
    subst e;exact Gp ⟨rfl,l,l,rfl,Dl,lo,AC⟩
   rw[if_neg z];refine F0 (W4 C b (by lia) (by lia) ?_);cases e:κ.blt (KK κ (Bn u) k) (KK κ (Bn u) ((l+r)/2))with
   |true=>exact Gp ⟨rfl,l,(l+r)/2,rfl,by lia,by lia,by lia,lo,λi a c=>KeyOrd.klt_of_klt_of_kle e (g _ _ a c)⟩
   |false=>exact Gp ⟨rfl,(l+r)/2+1,r,rfl,by lia,by lia,by lia,λi a=>Xl (g i ((l+r)/2) (by lia) (by lia)) (show κ.kle _ _ from e),AC⟩
  .rintro c u ⟨rfl,l,r,rfl,G6,Dl,W0,lo,AC⟩;have e:l=r:=by lia
   subst e;exact⟨rfl,l,l,rfl,Dl,lo,AC⟩
  .rintro c u ⟨rfl,l,r,rfl,G6,lo,AC⟩;show wpS _ _ _ _ (moveDown' k l>>=λ_=>pure (Ny (none,()))) _ _;rw[moveDown'_eq];refine F0 (wpS_modify (Gp ⟨rfl,b.to (bubble_perm _ _ _),?_⟩));rw[show min (k+1) n=k+1 by lia];intro i j afs d4;show κ.kle (KK κ (bubble (Bn u) k (k-l)) i) (KK κ (bubble (Bn u) k (k-l)) j);rw[KK_bubble Ar (by lia),KK_bubble Ar (by lia),show k-(k-l)=l by lia]
   repeat' split
   all_goals first|lia|exact RA _|exact lo _ (by lia)|exact Xt (AC _ (by lia) (by lia))|exact g _ _ (by lia) (by lia)
 .rintro c t ⟨rfl,b,g⟩;rw[show min (max (max ok 1) n) n=n by lia]at g;exact⟨rfl,b,g⟩
 .refine⟨rfl,b,?_⟩;by_cases z:ok=0
  .subst z;intro i j a c;exact q9 i j a (by lia)
  .rw[show min (max ok 1) n=ok by lia];exact AN
 .rintro c t ⟨rfl,b,g⟩;exact Gp (h t b g)
def acN(C:NH prog w A s kd κ CD){st:Gr}{Q:Unit->Gr->Prop}(b:Fy kd CD st)(h2:2<=CD.size)(Yq:CD.size<64)(h:∀t,(Bn t).Perm CD->T5 t=none->H7 κ (Bn t) CD.size->Q () t):wpS (B2 prog w) A E s sortRuns' Q st:=by
 rw[sortRuns'_eq];refine F0 (wpS_get ?_);dsimp only;have ZC:minRun' CD.size CD.size 0=CD.size:=by
  obtain⟨f,hf⟩:∃f,CD.size=f+1:=⟨CD.size-1,by lia⟩;have:minRun' (f+1) CD.size 0=CD.size:=by rw[minRun'_succ,if_pos Yq,Nat.add_zero]
  rwa [<-hf]at this
 simp only[b.KW,ZC]
 refine F0 (wpS_mono (Sy (I:=λx c t=>(x=0/\c=(none,0)/\Fy kd CD t)\/(1<=x/\c=(none,CD.size)/\(Bn t).Perm CD/\T5 t=none/\O3 t= #[(0,CD.size,0)]/\H7 κ (Bn t) CD.size))
  (Q:=λc t=>c=(none,CD.size)/\(Bn t).Perm CD/\T5 t=none/\O3 t= #[(0,CD.size,0)]/\H7 κ (Bn t) CD.size) ?_ ?_ (.inl ⟨rfl,rfl,b⟩)) ?_)
 .have last:∀t,Fy kd CD t->H7 κ (Bn t) CD.size->(Bn (setPending t ((O3 t).push (0,CD.size,0)))).Perm CD/\T5 (setPending t ((O3 t).push (0,CD.size,0)))=none/\O3 (setPending t ((O3 t).push (0,CD.size,0)))= #[(0,CD.size,0)]/\H7 κ (Bn (setPending t ((O3 t).push (0,CD.size,0)))) CD.size:=
    λt b g=>⟨b.p,b.f,by show(O3 t).push _=_;rw[b.n];rfl,g⟩
  rintro x c t _ Em (⟨rfl,rfl,b⟩|⟨Ey,rfl,g⟩)
  .dsimp only;rw[if_neg (by lia)];simp only[hQ,Nat.min_self,Sz];refine F0 (acM C (CY _) (by lia) b λm t b Hu g=>?_);dsimp only;by_cases z:m<CD.size
   .rw[if_pos z];refine F0 (wpS_lift (Kc ⟨rfl,F0 (tX C (CY _) Hu b g λu b g=>?_)⟩));simp only[PU,Hj,if_false];refine F0 (wpS_get ?_);rw[b.n];exact F0 (wpS_modify (Gp (.inr ⟨by lia,rfl,last u b g⟩)))
   .rw[if_neg z];have e:m=CD.size:=by lia
    subst e;refine F0 (wpS_get ?_);rw[b.n];exact F0 (wpS_modify (Gp (.inr ⟨by lia,rfl,last t b g⟩)))
  .dsimp only;rw[if_pos (CY _)];exact Gp ⟨rfl,g⟩
 .rintro c t (⟨z,_,_⟩|⟨_,e,g⟩)
  .lia
  .exact⟨e,g⟩
 .rintro c t ⟨rfl,g1,g2,g3,HZ⟩;dsimp only;refine F0 (wpS_mono (Sy (I:=λ_ c u=>u=t/\c=(none,())) (Q:=λc u=>u=t/\c=(none,())) ?_ (λ_ _ z=>z) ⟨rfl,rfl⟩) ?_)
  .rintro x c u _ _ ⟨rfl,rfl⟩;refine F0 (wpS_get ?_);rw[if_pos (by rw[g3];exact CY 1)];exact Gp ⟨rfl,rfl⟩
  .rintro c u ⟨rfl,rfl⟩;exact Gp (h _ g1 g2 HZ)
end
def ltI:List Int->List Int->Bool
 |[],[]=>false
 |[],_::_=>true
 |_::_,[]=>false
 |a::x,b::y=>if a=b then ltI x y else decide (a<b)
theorem eB:∀a,ltI a a=false
 |[]=>rfl
 |_::x=>by simp[ltI,eB x]
theorem ZR:∀a b c,ltI a b=true->ltI b c=true->ltI a c=true
 |[],[],_,h,_=>by cases h
 |[],_::_,[],_,h=>by cases h
 |[],_::_,_::_,_,_=>rfl
 |_::_,[],_,h,_=>by cases h
 |_::_,_::_,[],_,h=>by cases h
 |a::x,b::y,c::z,h1,h2=>by
  simp only[ltI]at h1 h2 |-;by_cases A9:a=b
  .subst A9;rw[if_pos rfl]at h1;by_cases AG:a=c
   .subst AG;rw[if_pos rfl]at h2 |-;exact ZR x y z h1 h2
   .rw[if_neg AG]at h2 |-;exact h2
  .rw[if_neg A9]at h1;have h1:=of_decide_eq_true h1;by_cases AG:b=c
   .subst AG;rw[if_neg A9];exact decide_eq_true h1
   .rw[if_neg AG]at h2;have h2:=of_decide_eq_true h2;rw[if_neg (by lia)];exact decide_eq_true (by lia)
theorem ZQ:∀a b,ltI a b=false->ltI b a=false->a=b
 |[],[],_,_=>rfl
 |[],_::_,h,_=>by cases h
 |_::_,[],_,h=>by cases h
 |a::x,b::y,h1,h2=>by
  simp only[ltI]at h1 h2;by_cases e:a=b
  .subst e;rw[if_pos rfl]at h1 h2;rw[ZQ x y h1 h2]
  .rw[if_neg e]at h1;rw[if_neg (λz=>e z.symm)]at h2;have h1:=of_decide_eq_false h1;have h2:=of_decide_eq_false h2;exact absurd (by lia) e
def mm(a b c:List Int)(h:ltI a c=true):ltI a b=true\/ltI b c=true:=by
 cases A9:ltI a b with
 |true=>exact .inl rfl
 |false=>
  cases AG:ltI b c with
  |true=>exact .inr rfl
  |false=>
   exfalso;cases B3:ltI b a with
   |true=>rw[ZR b a c B3 h]at AG;cases AG
   |false=>rw[ZQ a b A9 B3,AG]at h;cases h
section
variable{prog:Bu}{w:Bh}{A:CG}{E:A4->AP->Prop}{s:AP}
def pR{a b:Int}{t u:Tok}{Q:A4->AP->Prop}(h:Q (.bool (decide (a<b))) s):Ae (B2 prog w) A (richCompare .Lt (.int a t) (.int b u)) Q E s:=
 wpAny_richCompare_same (op:=.Lt) (V7 s a t) (V7 s b u) slot_int_lt (call_int_lt ⟨(λe=>nomatch e),h⟩)
def Gj(k:Int×Int×Int):List Int:=[k.1,k.2.1,k.2.2]
def cS(b:Bool)(x y:A4):keyLt' (tuples' b) x y=(do
  let xs <-ri x;let ys <-ri y
  for ((p,q),i) in(xs.toList.zip ys.toList).zipIdx do
   if !(<-eqBool p q)then return <-oneLt' (b&&i==0) p q
  return xs.size<ys.size):=rfl
def oQ{x y:A4}{Q:Bool->AP->Prop}(h:Ae (B2 prog w) A (richCompare .Lt x y) (λv s'=>∃c,v=.bool c/\Q c s') E s):Ae (B2 prog w) A (oneLt' false x y) Q E s:=by rw[oneLt'_eq];simp only[Hj,if_false];refine AJ (Ip h (λv s'⟨c,e,q⟩=>?_) λ_ _ e=>e);subst e;exact LR q
def zu:KeyOrd:=⟨List Int,ltI,eB,ZR,mm,ZQ⟩
theorem eH{β:Type}{f:A4->Sem β}{g:A4->β}:∀{vs:List A4}{Q:List β->AP->Prop},(∀v∈vs,∀(R:β->AP->Prop),R (g v) s->Ae (B2 prog w) A (f v) R E s)->Q (vs.map g) s->Ae (B2 prog w) A (vs.mapM f) Q E s
 |[],Q,_,h=>by rw[List.mapM_nil];exact B0 h
 |v::vs,Q,hf,h=>by rw[List.mapM_cons];refine AJ (hf v (by simp) _ (AJ (eH (λu BP=>hf u (by simp[BP])) (B0 h))))
def yV{vs:List A4}{g:A4->A4}{T:String}{Q:Ly->AP->Prop}(AS:vs≠[])(h1:∀v∈vs,∃a o m r,v=.ref a/\s.heap.get? a=some o/\o.cls=.type "tuple"/\o.data=.seq (g v::r).toArray m)(h2:∀v∈vs,s.TypeIs (g v) T)(h:Q (tuples' (O1 T !=.type "tuple")) s) :
  Ae (B2 prog w) A (keyKind' vs.toArray) Q E s:=by
 rw[keyKind'_eq,List.mapM_toArray];rw[map_eq_pure_bind];refine AJ (AJ (eH (g:=λv=>some (g v)) (λv BR R MW=>?_) (B0 ?_)))
 .obtain⟨a,o,m,r,rfl,AM,AO,hd⟩:=h1 v BR;show Ae _ _ (typeOf (.ref a)>>=_) R E s;refine AJ (V4 ⟨o,AM,AO⟩ ?_);rw[if_neg (by simp)];refine AJ (PR AM hd (B0 ?_));simpa using MW
 .rw[if_pos (by simp)];refine AJ (Kc ?_);have e:Array.filterMap id (vs.map λv=>some (g v)).toArray=(vs.map g).toArray:=by simp
  rw[e,oneTypeOnly'_eq,List.mapM_toArray,map_eq_pure_bind];refine AJ (AJ (AJ (eH (g:=λ_=>.type T) (λv BR R MW=>?_) (B0 ?_))))
  .obtain⟨u,BP,rfl⟩:=List.mem_map.mp BR;exact V4 (h2 u BP) MW
  .obtain⟨v,r,rfl⟩:=List.exists_cons_of_ne_nil AS;have DG:(List.map (λ_=>O1 T) (List.map g (v::r))).toArray[0]?=some (.type T):=by simp
   rw[DG];dsimp only;rw[if_pos (by simp)];exact B0 (B0 h)
end
section
variable{prog:Bu}{w:Bh}{A:CG}{E:A4->AP->Prop}{s:AP}
def adI{a:A7}{vs:List A4}{n:Nat}{κ:KeyKind}{kd:Ly}{P:Fin->AP->Prop}(AM:s.heap.get? a=some (Iq "list" vs.toArray n))(Yq:vs.length<64)(AL:∀h':BH,(∀b o,b≠a->s.heap.get? b=some o->h'.get? b=some o)->vs≠[]->(∀R:Ly->AP->Prop,R kd { s with heap:=h' }->Ae (B2 prog w) A (keyKind' vs.toArray) R E { s with heap:=h' })/\NH prog w A { s with heap:=h' } kd κ (pairsOf vs))(h:∀t:Gr,(Bn t).Perm (pairsOf vs)->H7 κ (Bn t) (pairsOf vs).size->P (.done (.ret .none)) { s with heap:=sortedHeap s.heap a vs ((Bn t).map (·.2)) }) :
  Ae (B2 prog w) A (Lz.«list.sort» ⟨[.ref a],[]⟩) P E s:=by
 rw[list_sort_plain];have AB:a<s.heap.objs.size:=DT AM;obtain⟨A9,g1⟩:∃A9,(s.heap.update a (Kb λ_=> #[])).get? a=some (Iq "list" #[] A9):=⟨_,get?_update_seq AM (λ_=> #[])⟩;refine AJ (PR AM rfl (AJ (listUpdate_at AM rfl (AJ (seqEpoch_at g1 rfl (AJ (hX (AJ (wpAny_newList (K5 ?_))))))))));have keep:∀b o,b≠a->s.heap.get? b=some o->(((s.heap.update a (Kb λ_=> #[])).push (Iq "tuple" vs.toArray 0)).push (Iq "list" #[] 0)).get? b=some o:=λb o nb e=>
  DE _ (DE _ (by rw[Heap.get?_update_ne _ _ _ _ nb];exact e))
 have Ob:(((s.heap.update a (Kb λ_=> #[])).push (Iq "tuple" vs.toArray 0)).push (Iq "list" #[] 0)).get? a=some (Iq "list" #[] A9):=DE _ (DE _ g1);show Ae (B2 prog w) A _ P E { s with heap:=((s.heap.update a (Kb λ_=> #[])).push (Iq "tuple" vs.toArray 0)).push (Iq "list" #[] 0) };dsimp only;by_cases z:vs.toArray.size<2
 .rw[if_pos z,if_pos z];refine AJ (B0 ?_);rw[StateT.run_pure];refine AJ (B0 (AJ (seqEpoch_at Ob rfl (AJ (listUpdate_at Ob rfl ?_ (hsz2:=by rw[Array.size_map];show(pairsOf vs).size<=_;rw[V5,Lw];lia))))));simp only[bne_self_eq_false,Hj,if_false];refine B0 (h (SortSt.mk' general' (vs.toArray.zip vs.toArray) #[] 7 none) (rp _) λi j c d=>?_);have z:vs.length<2:=by simpa using z
  have:i=j:=by rw[V5]at d;lia
  subst this;exact RA _
 .rw[if_neg z,if_neg z];have z:¬vs.length<2:=by simpa using z
  obtain⟨CP,Br⟩:=AL _ keep (by intro e;subst e;simp at z)
  refine AJ (CP _ (AJ (Ip (acN (κ:=κ) Br (st:=SortSt.mk' kd (vs.toArray.zip vs.toArray) #[] 7 none) (Q:=λ_ t=>(Bn t).Perm (pairsOf vs)/\T5 t=none/\H7 κ (Bn t) (pairsOf vs).size)
   ⟨rfl,rp _,rfl,rfl⟩ (by rw[V5];lia) (by rw[V5];exact Yq) λt a1 a2 I7=>⟨a1,a2,I7⟩) ?_ λ_ _ e=>e)))
  rintro⟨⟨⟩,t⟩ s' ⟨rfl,Ad,hf,AN⟩;dsimp only;refine AJ (seqEpoch_at Ob rfl (AJ (listUpdate_at Ob rfl ?_ (hsz2:=by refine Ff (hM ((Array.size_map ..).trans (Ad.size_eq.trans (V5 _)))) ?_;rw[Lw];lia))));rw[hf];simp only[bne_self_eq_false,Hj,if_false];exact B0 (h t Ad AN)
end
def Kz(a b:Int×Int×Int):Bool:=!ltI (Gj b) (Gj a)
def LC(ks:List (Int×Int×Int)):List (Int×Int×Int):=ks.mergeSort Kz
def UT(ks:List (Int×Int×Int)):(LC ks).Perm ks:=List.mergeSort_perm _ _
def vS{a b:Int×Int×Int}(h:Gj a=Gj b):a=b:=by obtain⟨a1,a2,I7⟩:=a;obtain⟨H9,H4,Z5⟩:=b;simp only[Gj,Up,and_true]at h;simp only[Prod.mk.injEq];exact h
def xv(a b c:Int×Int×Int)(h1:Kz a b=true)(h2:Kz b c=true):Kz a c=true:=by
 unfold Kz at*;cases e:ltI (Gj c) (Gj a)with
 |false=>rfl
 |true=>
  rcases mm _ (Gj b) _ e with z|z
  .rw[z]at h2;cases h2
  .rw[z]at h1;cases h1
def xu(a b:Int×Int×Int):(Kz a b||Kz b a)=true:=by
 unfold Kz;cases e:ltI (Gj b) (Gj a)with
 |false=>rfl
 |true=>
  cases AG:ltI (Gj a) (Gj b)with
  |false=>rfl
  |true=>have:=ZR _ _ _ e AG;rw[eB]at this;cases this
def adP{ks l:List (Int×Int×Int)}(p:l.Perm ks)(h:l.Pairwise λa b=>Kz a b=true):l=LC ks:=
 List.Perm.eq_of_pairwise (le:=λa b=>Kz a b=true) (λa b _ _ h1 h2=>by unfold Kz at h1 h2;exact vS (ZQ _ _ (by simpa using h2) (by simpa using h1))) h (List.pairwise_mergeSort xv xu ks) (p.trans (UT ks).symm)
section
variable{prog:Bu}{w:Bh}{A:CG}{E:A4->AP->Prop}{s:AP}
end
end LT
namespace C2
open PySem PySem.Spec PyProof.Rows
section
variable{X:Af}
theorem qM{κ:Type}{R:V->κ->Prop}:∀{vs:List A4}{ks:List κ},vs.length=ks.length->(∀(i:Nat) v k,vs[i]?=some v->ks[i]?=some k->∃z,RelV z v/\R z k)->∃zs,Vals zs vs/\zs.length=vs.length/\∀(i:Nat) z k,zs[i]?=some z->ks[i]?=some k->R z k
 |[],_,_,_=>⟨[],.nil,rfl,λi z k e=>by simp at e⟩
 |v::vs,[],h,_=>by simp at h
 |v::vs,k::ks,h,g=>by
  obtain⟨z,DS,Db⟩:=g 0 v k rfl rfl;obtain⟨zs,GY,G9,Jb⟩:=qM (vs:=vs) (ks:=ks) (by simpa using h) λi v k A9 AG=>g (i+1) v k (by simpa using A9) (by simpa using AG);refine⟨z::zs,.cons DS GY,by simp[G9],λi GA k' A9 AG=>?_⟩;cases i with
  |zero=>simp at A9 AG;subst A9 AG;exact Db
  |succ i=>exact Jb i GA k' (by simpa using A9) (by simpa using AG)
end
end C2
namespace Cm
open PySem PySem.Spec C2 PyProof.Rows
section
variable{X:Af}{F:BA}{e a b c:AT}{A6:List AT}{pos p:Pos}{m n:Ag}{ma:B6}
def yM:D->Option Key
 |.int i=>some (.inl i)
 |.str x=>some (.inr x)
 |_=>none
def keysOf:List D->Option (List Key)
 |[]=>some []
 |d::ds=>match yM d,keysOf ds with
  |some k,some ks=>some (k::ks)
  |_,_=>none
def aeC:D->Option (List Key)
 |.tup ds=>keysOf ds
 |_=>none
def q5:List D->Option (List (List Key))
 |[]=>some []
 |d::ds=>match aeC d,q5 ds with
  |some k,some ks=>some (k::ks)
  |_,_=>none
def ag1:List D->R D
 |[.lst ds]=>if ds.length<77 then match q5 ds with
  |some ks=>.ok (.int (YC.sx ks).length)
  |none=>.bad
  else .bad
 |_=>.bad
def W8(i:Nat)(m:Ag):Hh:=λρ=>(ownAt i ρ).bind λds=>(m ρ).bind λd=>match d with
 |.lst A6=>if ds.length+A6.length<=1000000 then .ok (.non,ρ.set i (.C5 (ds++A6)))else .bad
 |_=>.bad
def agl (i:Nat) {x:Str} {Az:Pos} {apos:Pos} {Bq:Pos} (he:B1 X F e m) (hN:X.N[i]?=some x:=by rfl) (BR:H3 X.env.scope x:=by first|exact Dq rfl|exact Ch (Dq rfl)|exact Ch (Ch rfl)) (hd:(x==("__debug__" :Str))=false:=by decide) (DU:(x==("__classdict__" :Str))=false:=by decide)(MX:I0 (.Name x Az) "extend" X.env (BK (.Name x Az) X.env)=BK (.Name x Az) X.env:=by rfl) (M3:(apos.endLine==Bq.line)=true:=by rfl)(MZ:((Cy Bq (BF [e] X.env)).all (λx=>!x.1)&&(H6 Bq (H5 [] X.env)).all (λx=>x.1.isSome)
    &&decide (([e]:List AT).length+([]:List FY).length+(if([]:List FY).isEmpty then 0 else 1)<30))=true:=by rfl)
  (AN:BF [e] X.env=(false,BK e X.env)::BF [] X.env:=by rfl) (M5:(Cy Bq (BF [] X.env)).any (·.1)=false:=by rfl) :
  Pw X F (.Call (.Attribute (.Name x Az) "extend" apos) [e] [] Bq) (W8 i m):=by
 refine⟨Ay.imp (X4 Uh rX rY n9 (IG hN BR hd DU) (QU he.1 Sa AN) MX MZ M3 AN M5) ?_⟩;rintro σ H Q ⟨G,ρ,r,h⟩;unfold W8 ownAt at h;cases CN:ρ[i]? with
 |none=>rw[CN]at h;cases h
 |some s=>
  rw[CN]at h;cases s with
  |un=>cases h
  |A1 _=>cases h
  |Et _=>cases h
  |Bc _ _=>cases h
  |ob ob=>
   cases ob with
   |B7 _ _=>cases h
   |ins _ _ _=>cases h
   |lst ds=>
    obtain⟨q,xs,A9,h1,h2,h3,h4⟩:=r.own CN;rw[R.E_]at h;refine⟨.ref q,A9,.inl ⟨rfl,xs,C4.of h1⟩,G,ρ,r,?_⟩;refine rb h λd Aw h v H1 Al AK s1 B8=>?_;obtain⟨Hw,Gy,Ew,Iz,Oe,Qb,HH⟩:=AK.own CN;rw[A9]at Ew;cases Ew;cases d with
    |lst A6=>
     simp only at h
     split at h
     .rename_i AQ;simp only[At]at B8;obtain⟨Cu,ys,rfl,g2,BG⟩:=B8;refine⟨q,Cu,Gy,ys,rfl,rfl,Iz,AK.kp.sub _ _ g2,by rw[<-HH.length,<-BG.length,Lw];lia,?_⟩;exact h .non _ Al (AK.mut CN A9 (HH.append BG)) s1.g (by simp only[At])
     .exact h.elim
    |_=>cases h
def IF(m n:Ag):B6:=λρ=>(m ρ).bind λc=>(n ρ).bind λd=>match c,d with
 |.lst ds,.lst A6=>if ds.length+A6.length<=1000000 then .ok (ds++A6)else .bad
 |_,_=>.bad
def Uc(AB:B1 X F a m)(A0:B1 X F b n):LK X F (.BinOp a .Add b pos) (IF m n):=by
 refine⟨Ay.imp (dx dq AB.1 A0.1) ?_⟩;rintro σ H Q ⟨G,ρ,r,h⟩;unfold IF at h;refine⟨G,ρ,r,?_⟩;refine rb h λc Aw h u H1 Al AK s1 LM=>?_;refine⟨Al,ρ,AK,?_⟩;refine rb h λd Bi h v Ax Ci B4 s2 B8=>?_
 split at h
 .split at h
  .rename_i AQ;simp only[At]at LM B8;obtain⟨Eh,xs,rfl,g1,An⟩:=LM;obtain⟨Cu,ys,rfl,g2,BG⟩:=B8;refine⟨Eh,Cu,xs,ys,rfl,rfl,s2.h _ _ (AK.kp.sub _ _ g1),B4.kp.sub _ _ g2,by rw[<-An.length,<-BG.length,Lw];lia,λN7 AS=>?_⟩;exact h N7 (xs++ys) _ Ci (B4.lay0 AS) ((s1.trans s2).trans (Bw.lay0 AS)) ((s1.trans s2).h.gone AS) E1 (B4.kp.sub.gone AS) ((An.mono s2.g).append BG)
  .exact h.elim
 .exact h.elim
def Vb(k:Int×Int×Int):D:=.tup [.int k.1,.tup [.int k.2.1,.int k.2.2]]
theorem jY{K:AY}{G:AA}:∀{ds:List D}{xs:List V},xs.length=ds.length->(∀(i:Nat) x d,xs[i]?=some x->ds[i]?=some d->At K G d x)->A_ K G ds xs
 |[],[],_,_=>.nil
 |[],_::_,h,_=>by simp at h
 |_::_,[],h,_=>by simp at h
 |d::ds,x::xs,h,g=>.cons (g 0 x d rfl rfl) (jY (by simpa using h) λi x d A9 AG=>g (i+1) x d (by simpa using A9) (by simpa using AG))
end
section
variable{X:Af}{F:BA}{e a b c:AT}{A6:List AT}{pos p:Pos}{m n:Ag}{ma:B6}
theorem A_.p2{K:AY}{G:AA}:∀{ds:List D}{xs:List V}{j:Nat}{d:D}{v:V},A_ K G ds xs->At K G d v->A_ K G (ds.set j d) (xs.set j v)
 |[],_,_,_,_,h,_=>by simp only[A_]at h;subst h;simp[A_]
 |_::_,_,0,_,_,h,a=>by simp only[A_]at h;obtain⟨v,r,rfl,q,t⟩:=h;exact .cons a t
 |_::_,_,j+1,_,_,h,a=>by simp only[A_]at h;obtain⟨v,r,rfl,q,t⟩:=h;exact .cons q (A_.p2 t a)
def putN(i:Nat)(ρ:AF)(ds:List D)(v:D):Option Nat->R FQ
 |some j=>.ok (.BC (ρ.set i (.C5 (ds.set j v))))
 |none=>.bad
def putK(i:Nat)(ρ:AF)(ds:List D)(v:D):D->R FQ
 |.int j=>putN i ρ ds v (I_ ds.length j)
 |_=>.bad
def ZY(i:Nat)(mk mv:Ag):Aq:=λρ=>(mv ρ).bind λv=>(ownAt i ρ).bind λds=>(mk ρ).bind λk=>putK i ρ ds v k
def aef (i:Nat) {x:Str} {Az pos':Pos} {k v:AT} {mk mv:Ag} (AL:B1 X F k mk) (BR:B1 X F v mv) (hN:X.N[i]?=some x:=by rfl) (Rn:H3 X.env.scope x:=by first|exact Dq rfl|exact Ch (Dq rfl)|exact Ch (Ch rfl)) (hd:(x==("__debug__" :Str))=false:=by decide) (DU:(x==("__classdict__" :Str))=false:=by decide)(AN:swapsWithSole [.Subscript (.Name x Az) k pos'] v pos.line X.env=pure false:=by rfl) (hw:swappedStores [.Subscript (.Name x Az) k pos'] v X.env=pure none:=by rfl)(h1:(LY [.Subscript (.Name x Az) k pos'] X.env).map (·.2)=[Ke (.Subscript (.Name x Az) k pos') X.env]:=by rfl)(AB:∀u,Ke (.Subscript (.Name x Az) k pos') X.env u=(do
    let D1 <-K6 [u] (BK (.Name x Az) X.env)
    let G5 <-K6 [u,D1] (BK k X.env)
    N6 pos'
    K6 [u,D1,G5] (setItem D1 G5 u)
    release [u,D1,G5] []):=by intro _;rfl) :
  FL X F (.Assign [.Subscript (.Name x Az) k pos'] v pos) (ZY i mk mv):=by
 refine⟨DX.imp (o4 BR.1 (abF (IG hN Rn hd DU) AL.1 set_list AB) AN hw h1) ?_⟩;rintro Ca σ H ⟨G,ρ,r,h⟩;unfold ZY at h;refine⟨G,ρ,r,?_⟩;refine rb h λd ev h u H1 Al AK s1 LM=>?_;cases CN:ownAt i ρ with
 |bad=>rw[CN]at h;cases h
 |exc c=>exact(zx CN).elim
 |ok ds=>
  rw[CN,R.E_]at h;have DG:=zy CN;obtain⟨q,xs,A9,h1,h2,h3,h4⟩:=AK.own DG;refine⟨.ref q,A9,Al,ρ,AK,?_⟩;refine rb h λkd DY h w Ax Ci B4 s2 OT=>?_;obtain⟨Hw,Gy,Ew,Iz,Oe,Qb,HH⟩:=B4.own DG;rw[A9]at Ew;cases Ew;cases kd with
  |int j=>
   simp only[putK]at h;simp only[At]at OT;cases FD:I_ ds.length j with
   |none=>rw[FD]at h;cases h
   |some n=>rw[FD]at h;simp only[putN]at h;refine⟨q,Gy,j,n,rfl,OT,Iz,by rw[<-HH.length];exact FD,?_⟩;exact h _ Ci _ (B4.mut DG A9 (HH.p2 (LM.mono s2.g))) (s1.trans s2).g
  |_=>cases h
end
section
variable{P:Bu}{w:Bh}{K:AY}{mg:Str->Option A4}{base:BH}{N:List Str}{qual:Str}{scope:ED}{f:A7}{cd:A4}{A:CG}{outer:List Env}{s0:AP}{TL:AA}{E:DL}{G0 H0:AA}
end
section
variable{X:Af}{F:BA}{e:AT}{A6:List AT}{pos p:Pos}{ma:B6}
end
section
variable{X:Af}{F:BA}{e:AT}{pos p:Pos}{m n:Ag}{ma:B6}
end
end Cm
namespace C2
open PySem PySem.Spec PyProof.Rows
section
variable{X:Af}{i j:Nat}{x n y:Str}{W:A7}{e:AT}{E7:TE}{E:DL}{tc:BW}{acn:List BW}{Au:F_}{aa4 np Ad pos py:Pos}
end
end C2
namespace Cm
open PySem PySem.Spec C2 PyProof.Rows
section
variable{X:Af}{F:BA}{pos:Pos}
end
section
variable{X:Af}{F:BA}{a b:AT}{pos p:Pos}{m n:Ag}{ma:B6}
end
end Cm
namespace C2
open PySem PySem.Spec PyProof.Rows
section
variable{prog:Bu}{w:Bh}{A:CG}{E:A4->AP->Prop}{s:AP}
end
section
variable{X:Af}{pos:Pos}
theorem qO:∀{is:List Int}{us:List A4},Vals (is.map V.int) us->∀(i:Nat) v,us[i]?=some v->∃t,v=.int ((is[i]?).getD 0) t
 |[],_,r,i,v,e=>by cases r;cases e
 |k::is,_,r,i,v,e=>by
  cases r with
  |cons AK B4=>
   cases i with
   |zero=>simp at e;subst e;obtain⟨t,z⟩:=AK;exact⟨t,by simpa using z⟩
   |succ i=>simpa using qO B4 i v (by simpa using e)
theorem o3:∀(is:List Int)(n:Nat),n<=is.length->preSum (λi=>(is[i]?).getD 0) n=(is.take n).sum
 |is,0,_=>by simp[preSum]
 |is,n+1,h=>by
  have AS:n<is.length:=by lia
  rw[preSum,o3 is n (by lia),gr,E8 AS];simp[-List.take_append_getElem]
def t6(AO:X.calm=true)(U6:X.A.handled=none):I3 X (.builtin "sum") (λxs H Q=>∃(p:A7)(is:List Int),xs=[.ref p]/\C4 X.K H p (is.map V.int)/\Q (.int is.sum) H):=by
 intro pins s σ H xs us Q I r h;obtain⟨p,is,rfl,AX,q⟩:=h;obtain⟨u,rfl,Fb⟩:=vals1 r;cases Fb;obtain⟨its,CE,pl,Ar⟩:=I.list AX;have AQ:its.length=is.length:=by rw[<-CE.length,Fw]
 refine call_sum_walkAnyS (hD pl.isList ?_);have OA:p≠s.heap.objs.size:=by obtain⟨o,AM,_⟩:=pl.isList;exact Fe (DT AM)
 refine⟨s.heap.objs.size,_,_,_,_,_,_,λi=>(is[i]?).getD 0,rfl,(Walks.list (prog:=X.prog) (w:=X.w) (A:=X.A.in1) U6 s.heap.objs.size p OA its.toArray).toS,⟨⟨_,FK _ rfl,rfl,rfl⟩,pl.isList.push _⟩,?_,?_,λs' C8 kk=>?_⟩
 .intro b A0;have Ad:p<s.heap.objs.size:=by obtain⟨o,AM,_⟩:=pl.isList;exact DT AM
  simp at A0 |-;rcases A0 with rfl|rfl
  .exact Xh _
  .exact hF Ad
 .intro i v Cn;exact qO CE i v (by simpa using Cn)
 .have A6:s'={ s with heap:=s'.heap,toks:=s'.toks }:=by
    have CP:=kk.gens;have Br:=kk.os;have Ft:=kk.drawn;obtain⟨h,g,d,t,o⟩:=s';simp only at CP Br Ft;subst CP Br Ft;rfl
  have AS:its.toArray.size=is.length:=by simpa using AQ
  rw[AS,o3 is is.length (CY _),Xm];rw[A6];refine⟨.int _,H,I.kept (t':=s'.toks) λb o AG=>kk.heap b o (by
   intro z;have z:b=s.heap.objs.size:=by simpa using z
   exact absurd (DT AG) (by rw[z];exact JC _)) (DE _ AG),⟨_,rfl⟩,q⟩
end
end C2
namespace Cm
open PySem PySem.Spec C2 PyProof.Rows
section
variable{X:Af}{F:BA}{e:AT}{A6:List AT}{pos p:Pos}{m n:Ag}{ma:B6}
def agn(As:List (D->AF->R AF)):D->AF->R AF
 |.lst ds,ρ=>Hx As ds ρ
 |_,_=>.bad
def Qj:List D->Option (List Int)
 |[]=>some []
 |.int i::ds=>(Qj ds).map (i::·)
 |_=>none
def Q7:List D->R D
 |[.lst ds]=>match Qj ds with
  |some is=>.ok (.int is.sum)
  |none=>.bad
 |_=>.bad
theorem ly{K:AY}{G:AA}:∀{ds:List D}{xs:List V}{is:List Int},A_ K G ds xs->Qj ds=some is->xs=is.map V.int
 |[],xs,is,a,e=>by simp only[A_]at a;cases e;subst a;rfl
 |d::ds,xs,is,a,e=>by
  simp only[A_]at a;obtain⟨v,r,rfl,a1,a2⟩:=a;cases d with
  |int i=>
   simp only[At]at a1;subst a1;simp only[Qj]at e;cases A9:Qj ds with
   |none=>rw[A9]at e;cases e
   |some cs=>rw[A9]at e;have Bi:i::cs=is:=FA e;subst Bi;rw[ly a2 A9];rfl
  |_=>cases e
def aaP:OK F (λxs H Q=>∃(p:A7)(is:List Int),xs=[.ref p]/\C4 F.K H p (is.map V.int)/\Q (.int is.sum) H) Q7:=by
 intro σ ρ G H xs ds Q r al k;unfold Q7 at k
 split at k
 .rename_i ds
  split at k
  .rename_i is Bi;obtain⟨v,rfl,B8⟩:=al.one;simp only[At]at B8;obtain⟨q,xs,rfl,AX,F2⟩:=B8;refine⟨q,is,rfl,?_,k _ H G r (Bw.refl _ _) (by simp only[At])⟩;rw[<-ly F2 Bi];exact C4.of (r.kp.sub _ _ AX)
  .exact k.elim
 .exact k.elim
def afH{k:Nat}(AI:Dy k X.A)(hm:X.mg "sum"=none)(AB:GT X F [e] ma)(Ao:F.K=X.K:=by rfl)(AO:X.calm=true:=by rfl)(Ah:EL X "sum":=by rfl)(he:BF [e] X.env=(false,BK e X.env)::BF [] X.env:=by rfl)(Dt:(Cy pos (BF [] X.env)).any (·.1)=false:=by rfl) :
  B1 X F (.Call (.Name "sum" p) [e] [] pos) (Bs Q7 ma):=⟨bl (t6 AO AI.hd) (by rw[<-Ao];exact aaP) hm (by kernel_rfl) AB.1 Ah (by decide) (by decide) he Dt⟩
def vr{Ai mt:Str}{mf:List D->R CI}{C:A7}{E:DL}(AH:F.EX=λ_ _=>False)(HI:GE F.K Ai C):Ep (Ck F (Ia Ai mt 0 mf m AD)) (WZ C mt (Mn F.K (0+1) mf) [] E (Ck F m) af):=by
 rintro σ H Q ⟨G,ρ,r,h⟩;unfold Ia at h;refine⟨G,ρ,r,?_⟩;refine rb h λd Aw h x H1 Al AK s1 Bl=>?_;cases d with
 |ins DM ns ds=>
  simp only[Q1]at h
  split at h
  .rename_i AO;obtain⟨Jz,FE⟩:=AO;subst Jz;have VT:=Bl;simp only[At]at Bl;obtain⟨q,Aj,xs,rfl,⟨KJ,BX,g1⟩,rfl,al⟩:=Bl;have:=BX.inj HI;subst this;refine⟨q,Aj,xs,rfl,AK.kp.sub _ _ g1,ZP FE,?_⟩;rw[R.E_]at h;have h:JN F G H σ ρ Q ((mf [.ins DM (xs.map (·.1)) ds]).bind PI):=h;show Mn F.K (0+1) mf ([V.ref q]++[]) H1 Q E;rw[LP];exact pK (xe:=λ_ _ _=>False) AH AK (.cons VT .nil) (by simp) (h.mono s1)
  .exact h.elim
 |_=>cases h
def afC {o:AT} {Ai mt:Str} {k:Nat} {mf:List D->R CI} {pl:Sem Bool} {apos:Pos} (c:Pr X.prog X.w X.K X.mg X.base Ai mt 0 k mf) (AI:Dy k X.A) (he:B1 X F o m) (KF:F.EX=λ_ _=>False:=by rfl) (Ao:F.K=X.K:=by rfl)(Av:BK (.Call (.Attribute o mt apos) [] [] pos) X.env=(do
    let D1 <-BK o X.env
    N6 apos.atName
    let(f,first) <-K6 [D1] (PX D1 mt pl)
    RH pos f first (Cy pos (BF [] X.env)) (H6 pos (H5 [] X.env))):=by rfl) :
  B1 X F (.Call (.Attribute o mt apos) [] [] pos) (Ia Ai mt 0 mf m AD):=by
 obtain⟨C,f,fd,Ap,BX,Ev,HB,HY,A0⟩:=c.ex;refine⟨Ay.imp (zk (pl:=pl) he.1 Ev HB HY AI A0 .nil Sb Av) ?_⟩;rw[<-Ao];exact vr KF (by rw[Ao];exact BX)
end
end Cm
namespace C2
open PySem PySem.Spec PyProof.Rows
section
variable{X:Af}{elts:List AT}{kk:Nat}{Qo:Pos}
end
end C2
namespace Cm
open PySem PySem.Spec C2 PyProof.Rows
section
variable{X:Af}{F:BA}{a b:AT}{pos p:Pos}{ma:B6}
end
end Cm
namespace Cm
open PySem PySem.Spec C2
mutual
noncomputable def Mh:D->Bool
 |.lst _=>false
 |.Cc _=>false
 |.tup ds=>L8 ds
 |.ins _ _ ds=>L8 ds
 |.Do _ ds=>L8 ds
 |.B7 _ ds=>L8 ds
 |.EF ds=>L8 ds
 |_=>true
noncomputable def L8:List D->Bool
 |[]=>true
 |d::ds=>Mh d&&L8 ds
end
def Vt:E5->Bool
 |.lst _=>true
 |_=>false
section
variable{K:AY}{G G':AA}
def Eu.dg(h:∀b o,G b=some o->Vt o=false->G' b=some o){a:A7}{u:E5}(BP:Vt u=false)(r:Eu G a u):Eu G' a u:=by
 rcases r with r|⟨o,r⟩
 .exact .inl (h _ _ r BP)
 .exact .inr ⟨o,h _ _ r rfl⟩
mutual
theorem At.dg(h:∀b o,G b=some o->Vt o=false->G' b=some o):∀{d:D}{v:V},Mh d=true->At K G d v->At K G' d v
 |.non,_,_,q=>by simpa only[At]using q
 |.Aa _,_,_,q=>by simpa only[At]using q
 |.int _,_,_,q=>by simpa only[At]using q
 |.str _,_,_,q=>by simpa only[At]using q
 |.tup _,_,n,q=>by simp only[At,Mh]at q n |-;obtain⟨a,xs,e,g,r⟩:=q;exact⟨a,xs,e,h _ _ g rfl,A_.SY h n r⟩
 |.lst _,_,n,_=>by simp only[Mh]at n;cases n
 |.Cc _,_,n,_=>by simp only[Mh]at n;cases n
 |.EF _,_,n,q=>by
  simp only[At,Mh]at q n |-;obtain⟨a,xs,e,g,r⟩:=q;refine⟨a,xs,e,?_,A_.SY h n r⟩;rcases g with g|g
  .exact .inl (Eu.dg h rfl g)
  .exact .inr g
 |.Do _ _,_,n,q=>by simp only[At,Mh]at q n |-;obtain⟨a,xs,e,g,k,r⟩:=q;exact⟨a,xs,e,h _ _ g rfl,k,A_.SY h n r⟩
 |.B7 _ _,_,n,q=>by simp only[At,Mh]at q n |-;obtain⟨a,xs,e,g,k,r⟩:=q;exact⟨a,xs,e,h _ _ g rfl,k,A_.SY h n r⟩
 |.ins _ _ _,_,n,q=>by simp only[At,Mh]at q n |-;obtain⟨a,Aj,xs,e,⟨C,BX,g⟩,k,r⟩:=q;exact⟨a,Aj,xs,e,⟨C,BX,h _ _ g rfl⟩,k,A_.SY h n r⟩
 |.Q_ _,_,n,q=>by simp only[At]at q |-;obtain⟨a,xs,e,⟨C,BX,g⟩,r⟩:=q;exact⟨a,xs,e,⟨C,BX,h _ _ g rfl⟩,r⟩
theorem A_.SY(h:∀b o,G b=some o->Vt o=false->G' b=some o):∀{ds:List D}{vs:List V},L8 ds=true->A_ K G ds vs->A_ K G' ds vs
 |[],_,_,q=>by simpa only[A_]using q
 |_::_,_,n,q=>by simp only[A_,L8,Ga]at q n |-;obtain⟨v,r,e,a,t⟩:=q;exact⟨v,r,e,At.dg h n.1 a,A_.SY h n.2 t⟩
end
end
mutual
noncomputable def Pe:T->Bool
 |.A1 _=>true
 |.lst Au=>Z2 Au
 |_=>false
noncomputable def Z2:List T->Bool
 |[]=>true
 |t::Au=>Pe t&&Z2 Au
end
mutual
theorem i8{K:AY}{G H:AA}:∀{t:T}{v:V},Pe t=true->CS K G H t v->∀b∈Ak H t v,∃xs,H b=some (.lst xs)
 |.A1 _,_,_,_,b,A0=>by simp only[Ak]at A0;cases A0
 |.lst _,_,n,h,b,A0=>by
  simp only[CS,Pe]at h n;obtain⟨a,xs,rfl,q,r⟩:=h;rw[Rd q]at A0;rcases List.mem_cons.mp A0 with rfl|A0
  .exact⟨xs,q⟩
  .exact jQ n r b A0
 |.Do _ _,_,n,_,_,_=>by simp only[Pe]at n;cases n
 |.B7 _ _,_,n,_,_,_=>by simp only[Pe]at n;cases n
 |.ins _ _ _,_,n,_,_,_=>by simp only[Pe]at n;cases n
theorem jQ{K:AY}{G H:AA}:∀{Au:List T}{vs:List V},Z2 Au=true->Bp K G H Au vs->∀b∈EA H Au vs,∃xs,H b=some (.lst xs)
 |[],_,_,_,b,A0=>by rw[U2]at A0;cases A0
 |_::_,_,n,h,b,A0=>by
  simp only[Bp,Z2,Ga]at h n;obtain⟨v,r,rfl,q,t⟩:=h;rw[Hr]at A0;rcases List.mem_append.mp A0 with A0|A0
  .exact i8 n.1 q b A0
  .exact jQ n.2 t b A0
end
def Op:Be->Bool
 |.ob (.lst _)=>true
 |.ob _=>false
 |.Et t=>Pe t
 |.Bc _ t=>Pe t
 |_=>true
def X2(ρ:AF):Bool:=ρ.all Op
section
variable{F:BA}
end
section
variable{X:Af}{F:BA}{e:AT}
end
section
variable{K:AY}{G0 H0:AA}{E:DL}
end
section
variable{X:Af}{e:AT}{K:AY}{G0 H0:AA}{E:DL}{m:Ag}
end
section
variable{F:BA}
end
section
variable{X:Af}{F:BA}{e o:AT}{A6:List AT}{pos:Pos}{ma:B6}{m n:Ag}
end
def Np:List T->Option (List D)
 |[]=>some []
 |.A1 d::Au=>(Np Au).map (d::·)
 |_=>none
theorem q8:∀{Au:List T}{ds:List D},Np Au=some ds->Au=ds.map .A1
 |[],ds,h=>by simp only[Np]at h;cases h;rfl
 |t::Au,ds,h=>by
  cases t with
  |A1 d=>simp only[Np]at h;obtain⟨r,e,rfl⟩:=Option.map_eq_some_iff.mp h;rw[q8 e];rfl
  |_=>simp[Np]at h
theorem Wh:∀ds:List D,Np (ds.map .A1)=some ds
 |[]=>rfl
 |d::ds=>by simp only[E3,Np,Wh ds];rfl
section
variable{K:AY}{G H:AA}
theorem qm:∀{ds:List D}{xs:List V},A_ K G ds xs->Bp K G H (ds.map .A1) xs
 |[],xs,h=>by simp only[A_]at h;subst h;exact Bp.nil
 |d::ds,xs,h=>by simp only[A_]at h;obtain⟨v,r,rfl,a,t⟩:=h;exact Bp.cons (by simp only[CS];exact a) (qm t)
theorem qo:∀{ds:List D}{xs:List V},Bp K G H (ds.map .A1) xs->A_ K G ds xs
 |[],xs,h=>by simp only[PP,Bp]at h;subst h;exact A_.nil
 |d::ds,xs,h=>by simp only[E3,Bp]at h;obtain⟨v,r,rfl,a,t⟩:=h;simp only[CS]at a;exact A_.cons a (qo t)
theorem d8:∀(ds:List D)(xs:List V),EA H (ds.map .A1) xs=[]
 |[],xs=>U2
 |d::ds,[]=>by simp only[E3,EA]
 |d::ds,x::xs=>by rw[E3,Hr,d8 ds xs];simp only[Ak,Xc]
end
section
variable{F:BA}{G H:AA}{σ :C2.St}{ρ:AF}
end
section
variable{X:Af}{F:BA}{e:AT}{pos:Pos}{m:Ag}{Gw:Hh}
def QH(m:Ag):Aq:=λρ=>(m ρ).bind λd=>.ok (.rs d ρ)
def r4(h:B1 X F e m):FL X F (.Return (some e) pos) (QH m):=⟨DX.imp (X6 h.1) λCa σ H⟨G,ρ,r,k⟩=>by
 unfold QH at k;refine⟨G,ρ,r,?_⟩;cases Aw:m ρ with
 |bad=>rw[Aw]at k;cases k
 |exc c=>rw[Aw]at k;exact k
 |ok d=>rw[Aw,R.E_]at k;exact λv H' G' BO u a=>k v σ G' H' BO a⟩
end
section
variable{F:BA}{G H:AA}{σ :C2.St}{ρ:AF}
end
section
variable{X:Af}{F:BA}{e c:AT}{pos:Pos}{m:Ag}
end
section
variable{X:Af}{F:BA}{e c:AT}{pos:Pos}{m:Ag}
end
section
variable{F:BA}
end
section
variable{X:Af}{F:BA}{k:AT}{pos:Pos}{mk:Ag}
end
open Classical in
noncomputable def HC(H:AA)(l:List A7):AA:=λb=>if b∈l then none else H b
def k6{H:AA}{l:List A7}{b:A7}(h:b∈l):HC H l b=none:=by unfold HC;rw[if_pos h]
def TG{H:AA}{l:List A7}{b:A7}(h:b∉l):HC H l b=H b:=by unfold HC;rw[if_neg h]
def k9(H:AA)(l:List A7):Sub (HC H l) H:=λb o e=>by
 by_cases h:b∈l
 .rw[k6 h]at e;cases e
 .rw[TG h]at e;exact e
def k8{H:AA}{l:List A7}{b:A7}(h:HC H l b=none):b∈l\/H b=none:=by
 by_cases A0:b∈l
 .exact .inl A0
 .rw[TG A0]at h;exact .inr h
section
variable{X:Af}{F:BA}{A6:List AT}{pos:Pos}{ma:B6}
end
def Q8(m:B6):B6:=λρ=>(m (ES ρ)).bind λds=>if L8 ds=true/\X2 ρ=true then .ok ds else .bad
section
variable{F:BA}
def wp{m:B6}:Ep (IH F (Q8 m)) (IH F m):=by
 rintro σ H Q ⟨G,ρ,r,h⟩;refine⟨IA σ ρ G H,ES ρ,r.plus,?_⟩;unfold Q8 at h;refine rb h λds Aw h p xs H' G' BO s' AS AB Ah q=>?_;by_cases hd:L8 ds=true/\X2 ρ=true
 .rw[if_pos hd]at h;have QS:∀b,Cf H σ ρ b->G b=none:=λb z=>(r.foot z).2.1;have QR:∀b,Cf H σ ρ b->F.H0 b=none:=λb z=>(r.foot z).2.2;have du:∀b,Cf H σ ρ b->∃AM,H b=some AM/\Vt AM=true:=λb⟨i,s,o,A9,AG,f⟩=>by
   have AC:=List.all_eq_true.mp hd.2 _ (JF A9);cases s with
   |un=>cases f
   |A1 _=>cases f
   |Et t=>obtain⟨v,rfl,Kp⟩:=f;obtain⟨Ce,B3,Nq,CB,ok⟩:=r.Bz i _ A9;rw[AG]at B3;cases B3;cases CB;obtain⟨xs,e⟩:=i8 AC ok.at_ b Kp;exact⟨_,e,rfl⟩
   |Bc n t=>obtain⟨v,rfl,Kp⟩:=f;obtain⟨Ce,B3,Nq,CB,ok,_⟩:=r.Bz i _ A9;rw[AG]at B3;cases B3;cases CB;obtain⟨xs,e⟩:=i8 AC ok.at_ b Kp;exact⟨_,e,rfl⟩
   |ob ob=>
    have f:o=some (.ref b):=f;obtain⟨c,AM,B3,h1,_,_,h4⟩:=r.obj A9;rw[AG,f]at B3;cases B3;cases ob with
    |lst _=>obtain⟨xs,rfl,_⟩:=h4;exact⟨_,h1,rfl⟩
    |B7 _ _=>cases AC
    |ins _ _ _=>cases AC
  have off:∀b,¬Cf H σ ρ b->HG H σ ρ G' b=G' b:=λb n=>by unfold HG;rw[if_neg n]
  have on:∀b,Cf H σ ρ b->HG H σ ρ G' b=none:=λb n=>by unfold HG;rw[if_pos n]
  have BM:Sub G (HG H σ ρ G'):=λb o e=>by
   have n:¬Cf H σ ρ b:=λz=>by rw[QS b z]at e;cases e
   rw[off b n];exact s'.g b o (WK r b o e)
  have cP:∀b,Cf H σ ρ b->∀o,H b=some o->H' b=some o:=λb z o e=>BO.kp.sub _ _ (s'.g _ _ (by rw[Oc z];exact e));have rel:Rel F (HG H σ ρ G') H' σ ρ:=by
   refine r.over rfl ⟨λb o e=>?_,r.kp.ET.trans BM,BO.kp.BD,λb A0=>?_⟩ BM λb C5=>?_
   .by_cases n:Cf H σ ρ b
    .rw[on b n]at e;cases e
    .rw[off b n]at e;exact BO.kp.sub b o e
   .have n:¬Cf H σ ρ b:=λz=>A0.1 (QR b z);rw[off b n];exact BO.kp.new b A0
   .refine⟨?_,on b C5,QR b C5⟩;cases Bi:H b with
    |none=>exact absurd Bi (r.foot C5).1
    |some o=>exact cP b C5 o Bi
  refine h p xs H' _ rel ⟨BM,s'.h,λb A0=>?_⟩ AS AB (by rw[off p (λz=>(r.foot z).1 AS)];exact Ah) (A_.SY (λb o e AC=>?_) hd.1 q)
  .by_cases n:Cf H σ ρ b
   .rw[on b n,QS b n]
   .rw[off b n,s'.n b A0];unfold IA;rw[if_neg n]
  .have n:¬Cf H σ ρ b:=λz=>by
     obtain⟨AM,A9,AG⟩:=du b z;have:=s'.g b AM (by rw[Oc z];exact A9);rw[e]at this;cases this;rw[AC]at AG;cases AG
   rw[off b n];exact e
 .rw[if_neg hd]at h;cases h
end
section
variable{X:Af}{F:BA}{e:AT}{pos:Pos}
def qU{m:B6}(h:LK X F e m):LK X F e (Q8 m):=⟨Ay.imp h.1 wp⟩
end
section
variable{X:Af}{F:BA}{e:AT}{pos:Pos}
end
section
variable{X:Af}{F:BA}{e:AT}{A6:List AT}{pos p:Pos}{m:Ag}{ma:B6}
end
def Dv{N P:List Str}{sc:ED}(a:sc.kind=.function:=by rfl)(b:sc.isCoroutine=false:=by rfl)(c:sc.isGenerator=false:=by rfl)(d:N.Nodup:=by decide+kernel)(e:N.take P.length=P:=by rfl)(f:∀x∈P,sc.names.lookup x=some .local\/sc.names.lookup x=some .cell:=by decide+kernel)(g:∀y∈sc.names,y.2≠.free:=by decide+kernel):D2 N P sc:=⟨a,b,c,d,e,f,g⟩
end Cm
namespace Cm
open PySem PySem.Spec C2 PyProof.Rows
section
variable{X:Af}{F:BA}{e:AT}{A6:List AT}{pos p:Pos}{ma:B6}
end
end Cm
namespace Cm
open PySem PySem.Spec C2
mutual
noncomputable def Si:D->Bool
 |.non=>true
 |.Aa _=>true
 |.int _=>true
 |.str _=>true
 |.tup ds=>Q5 ds
 |_=>false
noncomputable def Q5:List D->Bool
 |[]=>true
 |d::ds=>Si d&&Q5 ds
end
mutual
theorem At.oN{K:AY}{G G':AA}(h:∀b xs,G b=some (.tup xs)->G' b=some (.tup xs)):∀{d:D}{v:V},Si d=true->At K G d v->At K G' d v
 |.non,_,_,q=>by simpa only[At]using q
 |.Aa _,_,_,q=>by simpa only[At]using q
 |.int _,_,_,q=>by simpa only[At]using q
 |.str _,_,_,q=>by simpa only[At]using q
 |.tup _,_,n,q=>by simp only[At,Si]at q n |-;obtain⟨a,xs,e,g,r⟩:=q;exact⟨a,xs,e,h _ _ g,A_.dh h n r⟩
 |.lst _,_,n,_=>by cases n
 |.Cc _,_,n,_=>by cases n
 |.EF _,_,n,_=>by cases n
 |.Do _ _,_,n,_=>by cases n
 |.B7 _ _,_,n,_=>by cases n
 |.ins _ _ _,_,n,_=>by cases n
 |.Q_ _,_,n,_=>by cases n
theorem A_.dh{K:AY}{G G':AA}(h:∀b xs,G b=some (.tup xs)->G' b=some (.tup xs)):∀{ds:List D}{vs:List V},Q5 ds=true->A_ K G ds vs->A_ K G' ds vs
 |[],_,_,q=>by simpa only[A_]using q
 |_::_,_,n,q=>by simp only[A_,Q5,Ga]at q n |-;obtain⟨v,r,e,a,t⟩:=q;exact⟨v,r,e,At.oN h n.1 a,A_.dh h n.2 t⟩
end
section
variable{F:BA}{G H G' H':AA}{σ :C2.St}{ρ:AF}
def Rel.ng(r:Rel F G H σ ρ)(BO:Rel F G' H' σ (ES ρ))(s':Bw (IA σ ρ G H) H G' H'):Rel F (HG H σ ρ G') H' σ ρ/\Bw G H (HG H σ ρ G') H'/\∀b xs,G' b=some (.tup xs)->HG H σ ρ G' b=some (.tup xs):=by
 have QS:∀b,Cf H σ ρ b->G b=none:=λb z=>(r.foot z).2.1;have QR:∀b,Cf H σ ρ b->F.H0 b=none:=λb z=>(r.foot z).2.2;have off:∀b,¬Cf H σ ρ b->HG H σ ρ G' b=G' b:=λb n=>by unfold HG;rw[if_neg n]
 have on:∀b,Cf H σ ρ b->HG H σ ρ G' b=none:=λb n=>by unfold HG;rw[if_pos n]
 have BM:Sub G (HG H σ ρ G'):=λb o e=>by
  have n:¬Cf H σ ρ b:=λz=>by rw[QS b z]at e;cases e
  rw[off b n];exact s'.g b o (WK r b o e)
 have mC:∀b,Cf H σ ρ b->∀o,H b=some o->G' b=some o:=λb z o e=>s'.g _ _ (by rw[Oc z];exact e);refine⟨r.over rfl ⟨λb o e=>?_,r.kp.ET.trans BM,BO.kp.BD,λb A0=>?_⟩ BM λb C5=>?_,⟨BM,s'.h,λb A0=>?_⟩,λb xs e=>?_⟩
 .by_cases n:Cf H σ ρ b
  .rw[on b n]at e;cases e
  .rw[off b n]at e;exact BO.kp.sub b o e
 .have n:¬Cf H σ ρ b:=λz=>A0.1 (QR b z);rw[off b n];exact BO.kp.new b A0
 .refine⟨?_,on b C5,QR b C5⟩;cases Bi:H b with
  |none=>exact absurd Bi (r.foot C5).1
  |some o=>exact BO.kp.sub _ _ (mC b C5 o Bi)
 .by_cases n:Cf H σ ρ b
  .rw[on b n,QS b n]
  .rw[off b n,s'.n b A0];unfold IA;rw[if_neg n]
 .have n:¬Cf H σ ρ b:=λz=>by
    obtain⟨D3,DI⟩:=r.WG z;cases OW:H b with
    |none=>exact D3 OW
    |some o=>have:=mC b z o OW;rw[e]at this;cases this;exact DI xs OW
  rw[off b n];exact e
end
def M_(m:Ag):Ag:=λρ=>(m (ES ρ)).bind λd=>if Si d=true then .ok d else .bad
def RK(m:B6):B6:=λρ=>(m (ES ρ)).bind λds=>if Q5 ds=true then .ok ds else .bad
section
variable{F:BA}
def w2{m:Ag}:Ep (Ck F (M_ m)) (Ck F m):=by
 rintro σ H Q ⟨G,ρ,r,h⟩;refine⟨IA σ ρ G H,ES ρ,r.plus,?_⟩;unfold M_ at h;refine rb h λd Aw h v H' G' BO s' a=>?_
 split at h
 .rename_i hd;obtain⟨rel,up,off⟩:=r.ng BO s';exact h v H' _ rel up (a.oN off hd)
 .exact h.elim
def w3{m:B6}:Ep (IH F (RK m)) (IH F m):=by
 rintro σ H Q ⟨G,ρ,r,h⟩;refine⟨IA σ ρ G H,ES ρ,r.plus,?_⟩;unfold RK at h;refine rb h λds Aw h p xs H' G' BO s' AS AB Ah q=>?_
 split at h
 .rename_i hd;obtain⟨rel,up,off⟩:=r.ng BO s';have no:¬Cf H σ ρ p:=λz=>(r.foot z).1 AS;exact h p xs H' _ rel up AS AB (by unfold HG;rw[if_neg no];exact Ah) (q.dh off hd)
 .exact h.elim
end
section
variable{X:Af}{F:BA}{e:AT}{m:Ag}{ma:B6}
def fv(h:B1 X F e m):B1 X F e (M_ m):=⟨Ay.imp h.1 w2⟩
end
def KS:Be->Option T
 |.Et t=>some t
 |.Bc _ t=>some t
 |_=>none
def PH(s:Be)(t:T):Be:=match s with
 |.Bc k _=>.Bc k t
 |_=>.Et t
def aH{F:BA}{G H:AA}{s:Be}{t:T}{o:Option V}(e:KS s=some t)(h:IQ F G H o s):∃v,o=some v/\ML F G H t v:=by
 cases s with
 |Et u=>cases e;exact h
 |Bc k u=>cases e;obtain⟨v,z,q,_⟩:=h;exact⟨v,z,q⟩
 |_=>cases e
def XC{H:AA}{s:Be}{t:T}{v:V}{b:A7}(e:KS s=some t):FB H s (some v) b↔b∈Ak H t v:=by
 cases s with
 |Et u=>cases e;exact⟨λ⟨w,z,h⟩=>by cases z;exact h,λh=>⟨v,rfl,h⟩⟩
 |Bc k u=>cases e;exact⟨λ⟨w,z,h⟩=>by cases z;exact h,λh=>⟨v,rfl,h⟩⟩
 |_=>cases e
def pW{s:Be}{t t':T}(e:KS s=some t):KS (PH s t')=some t':=by cases s<;>first|rfl|cases e
def pV{F:BA}{G H G' H':AA}{s:Be}{t t':T}{v:V}(e:KS s=some t)(h:IQ F G H (some v) s)(q:ML F G' H' t' v):IQ F G' H' (some v) (PH s t'):=by
 cases s with
 |Et u=>exact⟨v,rfl,q⟩
 |Bc k u=>obtain⟨w,z,_,p⟩:=h;cases z;exact⟨v,rfl,q,p⟩
 |_=>cases e
def Rel.aaV{F:BA}{G H G' H':AA}{σ :C2.St}{ρ:AF}{EX:Str->AA->Prop}(r:Rel F G H σ ρ){x:Nat}{s:Be}{t t':T}{v:V}(ex:ρ[x]?=some s)(A6:KS s=some t)(AH: σ[x]?=some (some v))(k:FZ ⟨F.K,G,HC H (Ak H t v),EX,J9⟩ G' H')(QT:ML ⟨F.K,G,HC H (Ak H t v),EX,J9⟩ G' H' t' v):Rel F G' H' σ (ρ.set x (PH s t')):=by
 have ZS:x<ρ.length:=(List.getElem?_eq_some_iff.mp ex).1;have dA:∀b∈Ak H t v,FB H s (some v) b:=λb A0=>(XC A6).mpr A0;have C5:∀b∈Ak H t v,Cf H σ ρ b:=λb A0=>⟨x,_,_,ex,AH,dA b A0⟩;have h0:∀b,HC H (Ak H t v) b=none->F.H0 b=none:=λb z=>by
  rcases k8 z with z|z
  .exact(r.foot (C5 b z)).2.2
  .exact r.kp.BD.gone z
 have kp:FZ F G' H':=by
  refine⟨k.sub,r.kp.ET.trans k.ET,λb o e=>?_,λb A0=>?_⟩
  .refine k.BD b o ?_;have n:b∉Ak H t v:=λz=>by rw[(r.foot (C5 b z)).2.2]at e;cases e
   show HC H _ b=some o;rw[TG n];exact r.kp.BD b o e
  .have QN:b∉Ak H t v:=λz=>A0.1 (r.foot (C5 b z)).2.2;have n:I5 (HC H (Ak H t v)) b:=by unfold I5;rw[TG QN];exact r.kp.BD.JX A0
   rw[show G' b=G b from k.new b n];exact r.kp.new b A0
 have Nf:∀(i:Nat)(q:Be),i≠x->ρ[i]?=some q->∃o,σ[i]?=some o/\IQ F G' H' o q/\(∀a,FB H' q o a->FB H q o a):=λi q D3 e=>by
  obtain⟨o,A9,w⟩:=r.Bz i q e;obtain⟨An,BG⟩:=w.keep (H':=H') k.ET λa f=>by
   have na:a∉Ak H t v:=λz=>D3 (r.NT i x a _ _ _ _ e ex A9 AH f (dA a z));obtain⟨g1,g2,_⟩:=w.foot f;have c:HC H (Ak H t v) a=H a:=TG na;refine⟨?_,?_⟩
   .cases OW:H a with
    |none=>exact absurd OW g1
    |some u=>exact k.BD a u (c.trans OW)
   .rw[show G' a=G a from k.new a (by show I5 (HC H _) a;unfold I5;rw[c];exact w.WG f)];exact g2
  exact⟨o,A9,An,BG⟩
 have ik:∀(i:Nat)(q:Be)(o:Option V)(a:A7),i≠x->ρ[i]?=some q-> σ[i]?=some o->FB H q o a->HC H (Ak H t v) a≠none:=λi q o a D3 e A9 f z=>by
  rcases k8 z with z|z
  .exact D3 (r.NT i x a _ _ _ _ e ex A9 AH f (dA a z))
  .exact(r.foot ⟨i,q,o,e,A9,f⟩).1 z
 have aco:IQ F G H (some v) s:=by obtain⟨o,A9,q⟩:=r.Bz x s ex;rw[AH]at A9;cases A9;exact q
 have cl:∀(i:Nat)(q:Be)(o:Option V)(a:A7),(ρ.set x (PH s t'))[i]?=some q-> σ[i]?=some o->FB H' q o a->(i=x/\a∈Ak H' t' v)\/(i≠x/\ρ[i]?=some q/\FB H q o a):=λi q o a e A9 f=>by
  rcases get_set e with⟨rfl,rfl⟩|⟨D3,e⟩
  .rw[AH]at A9;cases A9;exact .inl ⟨rfl,(XC (pW A6)).mp f⟩
  .obtain⟨Ce,GY,_,G9⟩:=Nf i q (I2 D3) e;rw[A9]at GY;cases GY;exact .inr ⟨I2 D3,e,G9 a f⟩
 refine⟨kp,by simp[r.len],λi q e=>?_,λi j a s1 s2 Cw DA A9 AG B3 CB f1 f2=>?_⟩
 .rcases get_set e with⟨rfl,rfl⟩|⟨D3,e⟩
  .exact⟨some v,AH,pV A6 aco ⟨QT.at_,QT.Am,λb A0=>⟨(QT.own b A0).1,h0 b (QT.own b A0).2⟩⟩⟩
  .obtain⟨o,GY,G9,_⟩:=Nf i q (I2 D3) e;exact⟨o,GY,G9⟩
 .rcases cl i s1 Cw a A9 B3 f1 with⟨BZ,Hu⟩|⟨BZ,mO,mP⟩<;>rcases cl j s2 DA a AG CB f2 with⟨OE,H_⟩|⟨OE,mA,mB⟩
  .rw[BZ,OE]
  .exact absurd (QT.own a Hu).2 (ik j s2 DA a OE mA CB mB)
  .exact absurd (QT.own a H_).2 (ik i s1 Cw a BZ mO B3 mP)
  .exact r.NT i j a s1 s2 Cw DA mO mA B3 CB mP mB
def lZ(F:BA)(v:V)(Q:CT):R (D×T)->Prop
 |.ok (d,t)=>∀u G' H',FZ F G' H'->At F.K G' d u->ML F G' H' t v->Q u H'
 |_=>False
noncomputable def XJ(K:AY)(n:Nat)(mf:T->List D->R (D×T)):B9:=λvs H Q E=>∃G t v A6 ws,vs=v::ws/\Sub G H/\CS K G H t v/\(Ak H t v).Nodup/\(∀b∈Ak H t v,G b=none)/\A_ K G A6 ws/\A6.length=n/\
 lZ ⟨K,G,HC H (Ak H t v),λ_ _=>False,J9⟩ v Q (mf t A6)
def pJ{K:AY}{n:Nat}{mf:T->List D->R (D×T)}:∀vs H Q E,XJ K n mf vs H Q E->vs.length=n+1:=λvs H Q E h=>by obtain⟨G,t,v,A6,ws,rfl,_,_,_,_,a,l,_⟩:=h;simp[<-a.length,l]
def abS(v:V):Nat->Option V:=λk=>if k=0 then some v else none
def WH(K:AY)(G H:AA)(v:V):BA:=⟨K,G,H,λ_ _=>False,abS v⟩
def cw(N:Nat)(t:T)(A6:List D):AF:=.Bc 0 t::J6 (N-1) A6
def aw(d:D)(ρ:AF):R (D×T):=match(ρ[0]? :Option Be)with
 |some (.Bc 0 t)=>.ok (d,t)
 |_=>.bad
def UK:FQ->R (D×T)
 |.BC ρ=>aw .non ρ
 |.rs d ρ=>aw d ρ
 |_=>.bad
def QB(N:Nat)(m:Aq)(t:T)(A6:List D):R (D×T):=(m (cw N t A6)).bind UK
def acE{K:AY}{G H:AA}{N:Nat}{t:T}{v:V}{A6:List D}{ws:List V}(s:Sub G H)(a1:CS K G H t v)(Am:(Ak H t v).Nodup)(no:∀b∈Ak H t v,G b=none)(a:A_ K G A6 ws) :
  Rel (WH K G (HC H (Ak H t v)) v) G H (Nl (N+1) (v::ws)) (cw (N+1) t A6):=by
 have oG:=pX (EX:=λ_ _=>False) (N:=N) s a;have st:Nl (N+1) (v::ws)=some v::Nl N ws:=by unfold Nl;simp
 rw[st];show Rel _ G H (some v::Nl N ws) (.Bc 0 t::J6 N A6);have A1:∀(i:Nat)(q:Be),(J6 N A6)[i]?=some q->(q=.un\/∃d,q=.A1 d):=λi q e=>by
  unfold J6 at e;rcases List.mem_append.mp (JF e)with m|m
  .obtain⟨d,_,rfl⟩:=List.mem_map.mp m;exact .inr ⟨d,rfl⟩
  .obtain⟨_,rfl⟩:=List.mem_replicate.mp m;exact .inl rfl
 have L6:∀(i:Nat)(q:Be)(o:Option V)(b:A7),(Be.Bc 0 t::J6 N A6)[i]?=some q->FB H q o b->i=0:=λi q o b e f=>by
  cases i with
  |zero=>rfl
  |succ i=>rcases A1 i q (by simpa using e)with rfl|⟨d,rfl⟩<;>cases f
 refine⟨⟨s,Sub.refl _,k9 _ _,λ_ _=>rfl⟩,by simp[oG.len],λi q e=>?_,λi j b s1 s2 Cw DA A9 AG _ _ f1 f2=>by rw[L6 i s1 Cw b A9 f1,L6 j s2 DA b AG f2]⟩;cases i with
 |zero=>cases e;exact⟨some v,rfl,v,rfl,⟨a1,Am,λb A0=>⟨no b A0,k6 A0⟩⟩,rfl⟩
 |succ i=>
  have e:(J6 N A6)[i]?=some q:=by simpa using e
  obtain⟨o,A9,w⟩:=oG.Bz i q e;refine⟨o,by simpa using A9,?_⟩;rcases A1 i q e with rfl|⟨d,rfl⟩
  .trivial
  .exact w
def j2{K:AY}{n N:Nat}{m:Aq}{vs:List V}{H:AA}{Q:CT}{E:DL}(h:XJ K n (QB (N+1) m) vs H Q E) :
  ∃G H0 v,GK (WH K G H0 v) m { BC:=λ_ H'=>Q .non H',E6:=Q } (Nl (N+1) vs) H:=by
 obtain⟨G,t,v,A6,ws,rfl,s,a1,Am,no,a,l,k⟩:=h;refine⟨G,HC H (Ak H t v),v,G,_,acE s a1 Am no a,?_⟩;unfold QB at k;have fin:∀(d:D)(BJ:AF)(σ' :C2.St)(G' H':AA)(u:V),lZ ⟨K,G,HC H (Ak H t v),λ_ _=>False,J9⟩ v Q (aw d BJ)->Rel (WH K G (HC H (Ak H t v)) v) G' H' σ' BJ->At K G' d u->Q u H':=λd BJ σ' G' H' u k r LM=>by
  unfold aw at k
  split at k
  .rename_i t' DG;obtain⟨o,A9,w,rfl,⟨GY,G9,Jb⟩,Wk⟩:=r.Bz 0 _ DG;have Wk:some v=some w:=Wk;cases Wk;exact k u G' H' ⟨r.kp.sub,r.kp.ET,r.kp.BD,r.kp.new⟩ LM ⟨GY,G9,Jb⟩
  .exact k.elim
 cases e:m (cw (N+1) t A6)with
 |bad=>rw[e]at k;cases k
 |exc c=>rw[e]at k;cases k
 |ok f=>
  rw[e,R.E_]at k;cases f with
  |BC BJ=>exact λσ' G' H' r s'=>fin .non BJ σ' G' H' .non k r (by simp only[At])
  |rs d BJ=>exact λu σ' G' H' r LM=>fin d BJ σ' G' H' u k r LM
  |_=>cases k
structure YK(P:Bu)(w:Bh)(K:AY)(mg:Str->Option A4)(base:BH)(Ai mt:Str)(n k:Nat)(mf:T->List D->R (D×T)):Prop where
 ex:∃(C f:A7)(fd:GD)(Ap:List Str),GE K Ai C/\Ji K C/\Meth K C mt f/\Gd P w K mg base Gb k f fd Ap (XJ K n mf)/\Binds K fd Ap []
def q3{P:Bu}{w:Bh}{K:AY}{mg:Str->Option A4}{base:BH}{x qual Ai FU L3:Str}{st:BW}{N Ap:List Str}{k:Nat}{m:Aq}(d:OP K Ai x qual st (FU::Ap))(S:D2 (L3::N) (FU::Ap) (Bx st))(h:∀(f:A7)(CA:A4)(A:CG)(outer:List Env)(s:AP)(H:AA)(E:DL),Dy k (A.deeper (Mw qual (Bx st) s.heap.objs.size f CA))->∀G0 H0 v,Ju (Iy Gb P w K mg base (L3::N) qual (Bx st) f CA A outer s H E).KP (WH K G0 H0 v) (GU st) m) :
  YK P w K mg base Ai x Ap.length (k+1) (QB (N.length+1) m):=by
 obtain⟨C,f,fd,h1,h2,h3,h4,h5⟩:=d.ex;refine⟨C,f,fd,FU::Ap,h1,h2,h3,h4.ok S pJ λCA A outer s H vs Q E AI AN=>?_,h5⟩;obtain⟨G,H0,v,Av⟩:=j2 AN;exact⟨_,(h f CA A outer s H E AI G H0 v).1,Av⟩
noncomputable def Va(i n:Nat)(Ai mt:Str)(mf:T->List D->R (D×T))(ρ:AF)(s:Be)(A6:List D):Option T->R (D×AF)
 |some (.ins c ns Au)=>if c=Ai/\ns.all (λk=>!(mt==k))=true/\A6.length=n then(Ie (mf (.ins c ns Au) A6)).bind λx=>.ok (x.1,ρ.set i (PH s x.2))else .bad
 |_=>.bad
def KG(i:Nat)(Ai mt:Str)(n:Nat)(mf:T->List D->R (D×T))(ma:B6):Hh:=λρ=>match ρ[i]? with
 |some s=>(Ie (ma ρ)).bind λA6=>Va i n Ai mt mf ρ s A6 (KS s)
 |none=>.bad
section
variable{X:Af}{F:BA}{e:AT}{A6:List AT}{pos:Pos}{ma:B6}
def w7{i n:Nat}{Ai mt:Str}{mf:T->List D->R (D×T)}{C:A7}{E:DL}(HI:GE F.K Ai C):Ep (ae F (KG i Ai mt n mf ma)) (WZ C mt (XJ F.K n mf) [] E (Wb i) (F7 F ma)):=by
 rintro σ H Q ⟨G,ρ,r,h⟩;unfold KG at h
 split at h
 .rename_i s A6;cases Aw:ma ρ with
  |bad=>rw[Aw]at h;cases h
  |exc c=>rw[Aw]at h;cases h
  |ok ds=>
   rw[Aw]at h;replace h:lb F G σ Q (Va i n Ai mt mf ρ s ds (KS s)):=h;unfold Va at h
   split at h
   .rename_i c ns Au Rb
    split at h
    .rename_i AO;obtain⟨rfl,FE,AQ⟩:=AO;obtain⟨o,A9,q⟩:=r.Bz i s A6;obtain⟨v,rfl,ok⟩:=aH Rb q;have HT:=ok.at_;simp only[CS]at HT;obtain⟨a,Aj,xs,rfl,⟨KJ,BX,h1⟩,rfl,F8⟩:=HT;have:=BX.inj HI;subst this;refine⟨.ref a,A9,a,Aj,xs,rfl,h1,ZP FE,G,ρ,r,?_⟩;rw[Aw];intro vs H1 Al AK s1 B8;obtain⟨DA,AG,BG⟩:=AK.Bz i s A6;rw[A9]at AG;cases AG;obtain⟨_,B3,PB⟩:=aH Rb BG;cases B3;rw[LP];refine⟨Al,_,.ref a,ds,vs,rfl,AK.kp.sub,PB.at_,PB.Am,λb A0=>(PB.own b A0).1,B8,AQ,?_⟩;cases em:mf (.ins c (xs.map (·.1)) Au) ds with
     |bad=>rw[em]at h;cases h
     |exc c=>rw[em]at h;cases h
     |ok y=>obtain⟨d,t'⟩:=y;rw[em]at h;intro u G' H' k' LM QT;exact h u H' G' (AK.aaV A6 Rb A9 k' QT) (s1.g.trans k'.ET) LM
    .exact h.elim
   .exact h.elim
 .exact h.elim
def fz (i:Nat) {x Ai mt:Str} {Az apos:Pos} {n k:Nat} {mf:T->List D->R (D×T)} {pl:Sem Bool} (c:YK X.prog X.w X.K X.mg X.base Ai mt n k mf) (AI:Dy k X.A) (AB:GT X F (e::A6) ma) (Ao:F.K=X.K:=by rfl)(hN:X.N[i]?=some x:=by rfl) (BR:H3 X.env.scope x:=by first|exact Dq rfl|exact Ch (Dq rfl)|exact Ch (Ch rfl)) (hd:(x==("__debug__" :Str))=false:=by decide) (DU:(x==("__classdict__" :Str))=false:=by decide)(OD:BF (e::A6) X.env=(false,BK e X.env)::BF A6 X.env:=by rfl) (Dt:(Cy pos (BF A6 X.env)).any (·.1)=false:=by rfl) (Av:BK (.Call (.Attribute (.Name x Az) mt apos) (e::A6) [] pos) X.env=(do
    let D1 <-BK (.Name x Az) X.env
    N6 apos.atName
    let(f,first) <-K6 [D1] (PX D1 mt pl)
    RH pos f first (Cy pos (BF (e::A6) X.env)) (H6 pos (H5 [] X.env))):=by rfl):Pw X F (.Call (.Attribute (.Name x Az) mt apos) (e::A6) [] pos) (KG i Ai mt n mf ma):=⟨by
 obtain⟨C,f,fd,Ap,BX,Ev,HB,HY,A0⟩:=c.ex;refine Ay.imp (oh (pl:=pl) (IG hN BR hd DU) Ev HB HY AI A0 .nil Sb AB.1 OD Dt Av) ?_;rw[<-Ao];exact w7 (by rw[Ao];exact BX)⟩
end
theorem nd{f:Str}:∀{xs:List (Str×V)}{j:Nat},(xs.map (·.1)).findIdx? (λk=>f==k)=some j->∃p,xs[j]?=some p/\xs.lookup f=some p.2
 |[],_,h=>by simp at h
 |(k,v)::xs,j,h=>by
  rw[E3,List.findIdx?_cons]at h;rw[Um];cases e:f==k with
  |true=>simp only[e,if_true]at h;cases h;exact⟨(k,v),rfl,rfl⟩
  |false=>simp only[e,Hj,if_false]at h;obtain⟨afw,h1,rfl⟩:=Option.map_eq_some_iff.mp h;obtain⟨p,Eh,Cu⟩:=nd h1;exact⟨p,by simpa using Eh,Cu⟩
section
variable{K:AY}{G H:AA}
theorem qq{q:A7}{ks ks':List Bd}{ds ds':List D}{ys He:List (Bd×V)}(AX:H q=some (.B7 ys))(AL:He.map (·.1)=ks')(n:A_ K G ds' (He.map (·.2))):∀{Au:List T}{vs:List V}{k:Nat},Bp K G H Au vs->(EA H Au vs).Nodup->Au[k]?=some (.B7 ks (ds.map .A1))->vs[k]?=some (.ref q)->
  Bp K G (upd H q (.B7 He)) (Au.set k (.B7 ks' (ds'.map .A1))) vs/\EA (upd H q (.B7 He)) (Au.set k (.B7 ks' (ds'.map .A1))) vs=EA H Au vs
 |[],_,_,_,_,e,_=>by simp at e
 |t::Au,_,0,h,Am,e,ev=>by
  simp only[Bp]at h;obtain⟨v,r,rfl,h1,h2⟩:=h;simp at e ev;subst e ev;rw[Hr]at Am;have f1:Ak H (.B7 ks (ds.map .A1)) (.ref q)=[q]:=by rw[MT AX,d8]
  have f2:Ak (upd H q (.B7 He)) (.B7 ks' (ds'.map .A1)) (.ref q)=[q]:=by rw[MT E1,d8]
  rw[f1]at Am;obtain⟨CP,Br⟩:=h2.keep (H':=upd H q (.B7 He)) λb A0=>Da λz=>(List.nodup_append.mp Am).2.2 q (by simp) b A0 z.symm;rw[List.set_cons_zero,Hr,Hr,f1,f2,Br];refine⟨.cons ?_ CP,rfl⟩;simp only[CS];exact⟨q,He,rfl,E1,AL,qm n⟩
 |t::Au,_,k+1,h,Am,e,ev=>by simp only[Bp]at h;obtain⟨v,r,rfl,h1,h2⟩:=h;simp at e ev;rw[Hr]at Am;obtain⟨D3,DI,L4⟩:=List.nodup_append.mp Am;have ZB:q∈EA H Au r:=d7 e ev (by rw[MT AX];simp);obtain⟨CP,Br⟩:=h1.keep (H':=upd H q (.B7 He)) λb A0=>Da λz=>L4 b A0 q ZB z;obtain⟨Eh,Cu⟩:=qq AX AL n (k:=k) h2 DI e ev;rw[List.set_cons_succ,Hr,Hr,Br,Cu];exact⟨.cons CP Eh,rfl⟩
end
structure Po where
 s:Be
 ns:List Str
 Au:List T
 j:Nat
 ks:List Bd
 ds:List D
def WE(Ai g:Str)(s:Be)(ns:List Str)(Au:List T)(j:Nat):Option T->R Po
 |some (.B7 ks us)=>match Np us with
  |some ds=>.ok ⟨s,ns,Au,j,ks,ds⟩
  |none=>.bad
 |_=>.bad
def WD(Ai g:Str)(s:Be):Option T->R Po
 |some (.ins c ns Au)=>if c=Ai then match ns.findIdx? (λk=>g==k)with
  |some j=>WE Ai g s ns Au j Au[j]?
  |none=>.bad
  else .bad
 |_=>.bad
def KC(i:Nat)(Ai g:Str)(ρ:AF):R Po:=match ρ[i]? with
 |some s=>WD Ai g s (KS s)
 |none=>.bad
def lV{i:Nat}{Ai g:Str}{ρ:AF}{x:Po}(h:KC i Ai g ρ=.ok x):ρ[i]?=some x.s/\KS x.s=some (.ins Ai x.ns x.Au)/\x.ns.findIdx? (λk=>g==k)=some x.j/\x.Au[x.j]?=some (.B7 x.ks (x.ds.map .A1)):=by
 unfold KC at h
 split at h
 .rename_i s A6;unfold WD at h
  split at h
  .rename_i c ns Au Rb
   split at h
   .rename_i AO;subst AO
    split at h
    .rename_i j KB;unfold WE at h
     split at h
     .rename_i ks us DY
      split at h
      .rename_i ds Ko;cases h;rw[q8 Ko]at DY;exact⟨A6,Rb,KB,DY⟩
      .cases h
     .cases h
    .cases h
   .cases h
  .cases h
 .cases h
def lU{i:Nat}{Ai g c:Str}{ρ:AF}(h:KC i Ai g ρ=.exc c):False:=by
 unfold KC WD WE at h
 repeat' split at h
 all_goals cases h
def Rel.fd{F:BA}{G H:AA}{σ :C2.St}{ρ:AF}{i:Nat}{Ai g:Str}{x:Po}(r:Rel F G H σ ρ)(h:KC i Ai g ρ=.ok x):∃a C Aj xs q ys,σ[i]?=some (some (.ref a))/\GE F.K Ai C/\H a=some (.ins C Aj xs)/\xs.map (·.1)=x.ns/\Bp F.K G H x.Au (xs.map (·.2))/\xs.lookup g=some (.ref q)/\(xs.map (·.2))[x.j]?=some (.ref q)/\H q=some (.B7 ys)/\ys.map (·.1)=x.ks/\A_ F.K G x.ds (ys.map (·.2))/\(a::EA H x.Au (xs.map (·.2))).Nodup/\ML F G H (.ins Ai x.ns x.Au) (.ref a):=by
 obtain⟨h1,h2,h3,h4⟩:=lV h;obtain⟨o,A9,w⟩:=r.Bz i _ h1;obtain⟨v,rfl,ok⟩:=aH h2 w;have HT:=ok.at_;simp only[CS]at HT;obtain⟨a,Aj,xs,rfl,⟨C,BX,AB⟩,FD,F8⟩:=HT;rw[<-FD]at h3;obtain⟨p,Eh,Cu⟩:=nd h3;obtain⟨u,Mq,Ii⟩:=qp F8 h4;have Ko:u=p.2:=by rw[ER,Eh]at Mq;exact(FA Mq).symm
 subst Ko;simp only[CS]at Ii;obtain⟨q,ys,eq,AX,DY,acd⟩:=Ii;have Am:=ok.Am;rw[Lc AB]at Am;exact⟨a,C,Aj,xs,q,ys,A9,BX,AB,FD,F8,by rw[Cu,eq],by rw[Mq,eq],AX,DY,qo acd,Am,ok⟩
def QD(i:Nat)(Ai g:Str)(mk:Ag):Ag:=λρ=>(KC i Ai g ρ).bind λx=>(mk ρ).bind λk=>IV (.B7 x.ks x.ds) k
def bz(i:Nat)(Ai:Str)(ρ:AF)(x:Po):La->R FQ
 |.B7 ks ds=>.ok (.BC (ρ.set i (PH x.s (.ins Ai x.ns (x.Au.set x.j (.B7 ks (ds.map .A1)))))))
 |_=>.bad
def YO(i:Nat)(Ai:Str)(ρ:AF)(x:Po)(v:D):Option Bd->R FQ
 |some kk=>(putD x.ks x.ds kk v).bind (bz i Ai ρ x)
 |none=>.bad
def N8(i:Nat)(Ai g:Str)(mk mv:Ag):Aq:=λρ=>(mv ρ).bind λv=>(KC i Ai g ρ).bind λx=>(mk ρ).bind λk=>YO i Ai ρ x v (J8 k)
section
variable{X:Af}{F:BA}{e:AT}{pos:Pos}{m n:Ag}
def af2(i:Nat){x Ai g:Str}{As:List Str}{Az apos:Pos}(k:OL X.K Ai As)(BP:X.A.units+64<De)(he:B1 X F e n)(AN:Yr e)(hf:g∈As:=by decide+kernel)(Ao:F.K=X.K:=by rfl)(hN:X.N[i]?=some x:=by rfl)(BR:H3 X.env.scope x:=by first|exact Dq rfl|exact Ch (Dq rfl)|exact Ch (Ch rfl))(hd:(x==("__debug__" :Str))=false:=by decide)(DU:(x==("__classdict__" :Str))=false:=by decide)(A0:I0 (.Name x Az) g X.env (BK (.Name x Az) X.env)=BK (.Name x Az) X.env:=by rfl):B1 X F (.Subscript (.Attribute (.Name x Az) g apos) e pos) (QD i Ai g n):=⟨by
 refine Ay.imp (oc (by lia) (dw (IG hN BR hd DU) A0) he.1 AN) ?_;rintro σ H Q ⟨G,ρ,r,h⟩;unfold QD at h;cases Cs:KC i Ai g ρ with
 |bad=>rw[Cs]at h;cases h
 |exc c=>exact(lU Cs).elim
 |ok y=>
  rw[Cs,R.E_]at h;obtain⟨a,C,Aj,xs,q,ys,A9,BX,AB,FD,F8,lk,lv,AX,DY,al,_⟩:=r.fd Cs;obtain⟨KJ,CP,Br,Ft⟩:=k.ex;rw[Ao]at BX;have:=BX.inj CP;subst this;refine⟨.ref a,A9,a,C,Aj,xs,.ref q,rfl,AB,Br,Ft g hf,lk,G,ρ,r,?_⟩;refine rb h λLb Bi h z Ax Ci B4 s2 CU=>?_;simp only[IV]at h
  split at h
  .rename_i kk bp;obtain⟨b,rfl,A0⟩:=OH bp CU;have f:=WF (K:=F.K) (G:=G) kk al;rw[DY]at f
   split at h
   .rename_i d Cs;rw[Cs]at f;obtain⟨v,ev,B8⟩:=f;refine⟨q,v,rfl,?_,h v Ax Ci B4 s2 (B8.mono s2.g)⟩;rw[<-ev];exact J4.t (s2.h _ _ AX) (Nn A0 B4.kp.sub)
   .exact h.elim
  .exact h.elim⟩
def Rel.ka{G H:AA}{σ :C2.St}{ρ:AF}{i:Nat}{Ai g:Str}{x:Po}(r:Rel F G H σ ρ)(h:KC i Ai g ρ=.ok x){q:A7}{He:List (Bd×V)}{ks':List Bd}{ds':List D}{a C Aj:A7}{xs:List (Str×V)}{ys:List (Bd×V)}(A9: σ[i]?=some (some (.ref a)))(AB:H a=some (.ins C Aj xs))(lv:(xs.map (·.2))[x.j]?=some (.ref q))(AX:H q=some (.B7 ys))(AL:He.map (·.1)=ks')(n:A_ F.K G ds' (He.map (·.2))) :
  Rel F G (upd H q (.B7 He)) σ (ρ.set i (PH x.s (.ins Ai x.ns (x.Au.set x.j (.B7 ks' (ds'.map .A1)))))):=by
 obtain⟨h1,h2,h3,h4⟩:=lV h;obtain⟨o,AG,w⟩:=r.Bz i _ h1;rw[A9]at AG;cases AG;obtain⟨_,B3,ok⟩:=aH h2 w;cases B3;have HT:=ok.at_;simp only[CS]at HT;obtain⟨LL,VD,Gy,Aw,⟨KJ,BX,WN⟩,FD,F8⟩:=HT;cases Aw;rw[AB]at WN;cases WN;have Am:=ok.Am;have C5:=ok.own;have Cs:Ak H (.ins Ai x.ns x.Au) (.ref a)=a::EA H x.Au (xs.map (·.2)):=Lc AB;rw[Cs]at Am C5;obtain⟨na,eQ⟩:=List.nodup_cons.mp Am;have ZB:q∈EA H x.Au (xs.map (·.2)):=d7 h4 lv (by rw[MT AX];simp);obtain⟨Eh,Cu⟩:=qq AX AL n F8 eQ h4 lv;have z3:a≠q:=λz=>na (by rw[z];exact ZB);have WO:upd H q (.B7 He) a=some (.ins C Aj xs):=by rw[Da z3];exact AB
 have R_:Ak (upd H q (.B7 He)) (.ins Ai x.ns (x.Au.set x.j (.B7 ks' (ds'.map .A1)))) (.ref a)=a::EA H x.Au (xs.map (·.2)):=by rw[Lc WO,Cu]
 refine r.eP h1 A9 ((XC h2).mpr (by rw[Cs];exact Fv _ ZB)) (pV h2 w ⟨?_,by rw[R_];exact Am,by rw[R_];exact C5⟩) λb Kp=>.inl ?_
 .simp only[CS];exact⟨a,Aj,xs,rfl,⟨C,BX,WO⟩,FD,Eh⟩
 .have:=(XC (pW h2)).mp Kp;rw[R_,<-Cs]at this;exact(XC h2).mpr this
def qy(i:Nat){x Ai g:Str}{As:List Str}{Az apos pos':Pos}{k v:AT}{mk mv:Ag}(Qm:OL X.K Ai As)(BP:X.A.units+64<De)(AL:B1 X F k mk)(BR:B1 X F v mv)(hf:g∈As:=by decide+kernel)(Ao:F.K=X.K:=by rfl)(hN:X.N[i]?=some x:=by rfl)(Rn:H3 X.env.scope x:=by first|exact Dq rfl|exact Ch (Dq rfl)|exact Ch (Ch rfl))(hd:(x==("__debug__" :Str))=false:=by decide)(DU:(x==("__classdict__" :Str))=false:=by decide)(A0:I0 (.Name x Az) g X.env (BK (.Name x Az) X.env)=BK (.Name x Az) X.env:=by rfl):FL X F (.Assign [.Subscript (.Attribute (.Name x Az) g apos) k pos'] v pos) (N8 i Ai g mk mv):=⟨by
 refine DX.imp (o5 (by lia) (dw (IG hN Rn hd DU) A0) AL.1 BR.1 (ov _ _ _ _ _ _)) ?_;rintro Ca σ H ⟨G,ρ,r,h⟩;unfold N8 at h;refine⟨G,ρ,r,?_⟩;refine rb h λVC Aw h v H1 Al AK s1 B8=>?_;cases Cs:KC i Ai g ρ with
 |bad=>rw[Cs]at h;cases h
 |exc c=>exact(lU Cs).elim
 |ok y=>
  rw[Cs,R.E_]at h;obtain⟨a,C,Aj,xs,q,ys,A9,BX,AB,FD,F8,lk,lv,AX,DY,al,_⟩:=AK.fd Cs;obtain⟨KJ,CP,Br,Ft⟩:=Qm.ex;rw[Ao]at BX;have:=BX.inj CP;subst this;refine⟨.ref a,A9,a,C,Aj,xs,.ref q,rfl,AB,Br,Ft g hf,lk,Al,ρ,AK,?_⟩;refine rb h λLb Bi h z Ax Ci B4 s2 CU=>?_;have WO:=s2.h _ _ AB;have Rm:=s2.h _ _ AX;unfold YO at h
  split at h
  .rename_i kk bp;obtain⟨b,rfl,A0⟩:=OH bp CU;have T8:=al.mono s2.g;unfold putD at h
   split at h
   .rename_i AO;obtain⟨Jz,FE⟩:=AO;rw[<-DY]at Jz FE;have AS:FI ys kk=none:=by
     have:=Wi kk ys;rw[Jz]at this;exact Option.not_isSome_iff_eq_none.mp (by rw[this];exact GC)
    refine⟨q,_,rfl,Pn.t Rm (Nn A0 B4.kp.sub) (LV (by simpa using FE) (by decide)),?_⟩;rw[e4 _ AS];refine h σ Ci _ (B4.ka Cs (ks':=y.ks++[kk]) (ds':=y.ds++[VC]) A9 WO lv Rm (by rw[<-DY];simp) ?_) (s1.g.trans s2.g);rw[Hz];exact T8.snoc (B8.mono s2.g)
   .split at h
    .rename_i AO;obtain⟨Jz,FE⟩:=AO;rw[<-DY]at Jz FE;refine⟨q,_,rfl,Pn.t Rm (Nn A0 B4.kp.sub) (LV (by simpa using FE) (by decide)),?_⟩;have BY:C2.putK ys kk v=ys.map (λCt=>if Ct.1=kk then(Ct.1,v)else Ct):=by
      unfold C2.putK;rw[PQ]at Jz;exact if_pos Jz
     rw[BY];refine h σ Ci _ (B4.ka Cs (ks':=y.ks) (ds':=X7 y.ks y.ds kk VC) A9 WO lv Rm ?_ ?_) (s1.g.trans s2.g)
     .rw[<-DY,IK];refine List.map_congr_left λCt _=>?_;show(if Ct.1=kk then(Ct.1,v)else Ct).1=Ct.1
      split<;>rfl
     .rw[<-DY];exact b8 (B8.mono s2.g) T8
    .exact h.elim
  .exact h.elim⟩
end
noncomputable def U1(Ai f:Str)(t:T)(ρ:AF):Option Be->R FQ
 |some (.Bc k (.ins c ns Au))=>if c=Ai/\ns.all (λk=>!(f==k))=true/\ns.length<1000 then .ok (.BC (ρ.set 0 (.Bc k (.ins Ai (ns++[f]) (Au++[t])))))else .bad
 |_=>.bad
def QE(Ai f:Str)(m:Ag):Aq:=λρ=>(m ρ).bind λd=>U1 Ai f (.A1 d) ρ (ρ[0]? :Option Be)
def Tc(Ai f:Str):Aq:=λρ=>U1 Ai f (.B7 [] []) ρ (ρ[0]? :Option Be)
section
variable{F:BA}{G H:AA}{σ :C2.St}{ρ:AF}
def Rel.kf(r:Rel F G H σ ρ){k:Nat}{Ai f:Str}{ns:List Str}{Au:List T}{t:T}{a C Aj:A7}{xs:List (Str×V)}{v:V}(e:ρ[0]?=some (.Bc k (.ins Ai ns Au)))(Aw: σ[0]?=some (some (.ref a)))(AB:H a=some (.ins C Aj xs))(AS:ns.all (λk=>!(f==k))=true)(at_:CS F.K G H t v)(Am:(Ak H t v).Nodup)(no:∀b∈Ak H t v,G b=none/\F.H0 b=none/\¬Cf H σ ρ b) :
  Rel F G (upd H a (.ins C Aj (HN f v xs))) σ (ρ.set 0 (.Bc k (.ins Ai (ns++[f]) (Au++[t])))):=by
 obtain⟨o,A9,v0,rfl,ok,Ad⟩:=r.Bz 0 _ e;rw[Aw]at A9;cases A9;have HT:=ok.at_;simp only[CS]at HT;obtain⟨LL,VD,Gy,z,⟨KJ,BX,WN⟩,FD,F8⟩:=HT;cases z;rw[AB]at WN;cases WN;have nC:=ok.Am;have dr:=ok.own;have Cs:Ak H (.ins Ai ns Au) (.ref a)=a::EA H Au (xs.map (·.2)):=Lc AB;rw[Cs]at nC dr;obtain⟨na,eQ⟩:=List.nodup_cons.mp nC;have own:∀b∈a::EA H Au (xs.map (·.2)),Cf H σ ρ b:=λb A0=>⟨0,_,_,e,Aw,.ref a,rfl,by rw[Cs];exact A0⟩;have nat:a∉Ak H t v:=λz=>(no a z).2.2 (own a (by simp));have BY:HN f v xs=xs++[(f,v)]:=b4 (by rw[FD];exact AS);rw[BY];obtain⟨CP,Br⟩:=F8.keep (H':=upd H a (.ins C Aj (xs++[(f,v)]))) λb A0=>Da λz=>na (by rw[<-z];exact A0);obtain⟨Ft,OF⟩:=at_.keep (H':=upd H a (.ins C Aj (xs++[(f,v)]))) λb A0=>Da λz=>nat (by rw[<-z];exact A0);obtain⟨Eh,Cu⟩:=Bp.append CP (Bp.cons Ft Bp.nil);have em:(xs++[(f,v)]).map (·.2)=xs.map (·.2)++[v]:=by simp
 have R_:Ak (upd H a (.ins C Aj (xs++[(f,v)]))) (.ins Ai (ns++[f]) (Au++[t])) (.ref a)=a::(EA H Au (xs.map (·.2))++Ak H t v):=by rw[Lc E1,em,Cu,Br,Hr,OF,U2,LP]
 refine r.eP e Aw ⟨.ref a,rfl,by rw[Cs];simp⟩ ⟨.ref a,rfl,⟨?_,?_,?_⟩,Ad⟩ λb Kp=>?_
 .simp only[CS];exact⟨a,Aj,_,rfl,⟨C,BX,E1⟩,by simp[FD],by rw[em];exact Eh⟩
 .rw[R_];refine List.nodup_cons.mpr ⟨λz=>?_,List.nodup_append.mpr ⟨eQ,Am,λb A0 c AO z=>(no c AO).2.2 (own c (by rw[<-z];exact Fv _ A0))⟩⟩;rcases List.mem_append.mp z with z|z
  .exact na z
  .exact nat z
 .rw[R_];intro b A0;rcases List.mem_cons.mp A0 with rfl|A0
  .exact dr b (by simp)
  .rcases List.mem_append.mp A0 with A0|A0
   .exact dr b (Fv _ A0)
   .exact⟨(no b A0).1,(no b A0).2.1⟩
 .obtain⟨u,Ko,A0⟩:=Kp;cases Ko;rw[R_]at A0;rcases List.mem_cons.mp A0 with rfl|A0
  .exact .inl ⟨.ref b,rfl,by rw[Cs];simp⟩
  .rcases List.mem_append.mp A0 with A0|A0
   .exact .inl ⟨.ref a,rfl,by rw[Cs];exact Fv _ A0⟩
   .exact .inr (no b A0).2.2
end
section
variable{X:Af}{F:BA}{e:AT}{pos:Pos}{m:Ag}
def bH{Ai f x:Str}{As:List Str}{Az pos':Pos}(k:OL X.K Ai As)(he:B1 X F e m)(hf:f∈As:=by decide+kernel)(hN:X.N[0]?=some x:=by rfl)(BR:H3 X.env.scope x:=by first|exact Dq rfl|exact Ch (Dq rfl)|exact Ch (Ch rfl))(hd:(x==("__debug__" :Str))=false:=by decide)(DU:(x==("__classdict__" :Str))=false:=by decide)(AN:QQ e=true:=by rfl)(Ao:F.K=X.K:=by rfl) :
  FL X F (.Assign [.Attribute (.Name x Az) f pos'] e pos) (QE Ai f m):=⟨by
 refine DX.imp (e2 (IG hN BR hd DU) he.1 (Nm _ _ _ _ AN)) ?_;rintro Ca σ H ⟨G,ρ,r,h⟩;unfold QE at h;refine⟨G,ρ,r,?_⟩;refine rb h λd Aw h v H1 Al AK s1 B8=>?_;unfold U1 at h
 split at h
 .rename_i kk c ns Au CN
  split at h
  .rename_i AO;obtain⟨rfl,FE,U5⟩:=AO;obtain⟨o,A9,v0,rfl,ok,Ad⟩:=AK.Bz 0 _ CN;have HT:=ok.at_;simp only[CS]at HT;obtain⟨a,Aj,xs,rfl,⟨C,BX,AB⟩,FD,F8⟩:=HT;obtain⟨KJ,CP,Br,Ft⟩:=k.ex;rw[Ao]at BX;have:=BX.inj CP;subst this;refine⟨.ref a,A9,a,C,Aj,xs,rfl,AB,Br,Ft f hf,by have:=congrArg Sx FD;simp at this;lia,?_⟩;exact h σ Al _ (AK.kf CN A9 AB FE (t:=.A1 d) (by simp only[CS];exact B8) (by simp[Ak]) (by simp[Ak])) s1.g
  .exact h.elim
 .exact h.elim⟩
def r2{Ai f x:Str}{As:List Str}{Az pos' q:Pos}(k:OL X.K Ai As)(hf:f∈As:=by decide+kernel)(hN:X.N[0]?=some x:=by rfl)(BR:H3 X.env.scope x:=by first|exact Dq rfl|exact Ch (Dq rfl)|exact Ch (Ch rfl))(hd:(x==("__debug__" :Str))=false:=by decide)(DU:(x==("__classdict__" :Str))=false:=by decide)(Ao:F.K=X.K:=by rfl) :
  FL X F (.Assign [.Attribute (.Name x Az) f pos'] (.Dict [] [] q) pos) (Tc Ai f):=⟨by
 refine DX.imp (e2 (IG hN BR hd DU) od (Nm _ _ _ _ rfl)) ?_;rintro Ca σ H ⟨G,ρ,r,h⟩;unfold Tc U1 at h;intro p Vm
 split at h
 .rename_i kk c ns Au CN
  split at h
  .rename_i AO;obtain⟨rfl,FE,U5⟩:=AO;have AK:=r.lay0 (o:=.B7 []) Vm;obtain⟨o,A9,v0,rfl,ok,Ad⟩:=AK.Bz 0 _ CN;have HT:=ok.at_;simp only[CS]at HT;obtain⟨a,Aj,xs,rfl,⟨C,BX,AB⟩,FD,F8⟩:=HT;obtain⟨KJ,CP,Br,Ft⟩:=k.ex;rw[Ao]at BX;have:=BX.inj CP;subst this;refine⟨.ref a,A9,a,C,Aj,xs,rfl,AB,Br,Ft f hf,by have:=congrArg Sx FD;simp at this;lia,?_⟩;have kh:Ak (upd H p (.B7 [])) (.B7 [] []) (.ref p)=[p]:=by rw[MT E1,U2]
   exact h σ G _ (AK.kf CN A9 AB FE (t:=.B7 [] []) (v:=.ref p) (by simp only[CS];exact⟨p,[],rfl,E1,rfl,Bp.nil⟩) (by rw[kh];simp) (by rw[kh];intro b A0;rw[List.mem_singleton.mp A0];exact⟨r.kp.sub.gone Vm,r.kp.BD.gone Vm,Cf.fresh r (Sub.upd Vm) Vm⟩)) (Sub.refl _)
  .exact h.elim
 .exact h.elim⟩
end
def wy(F:BA)(x:A7)(Q:CT):R T->Prop
 |.ok t=>∀G' H',FZ F G' H'->ML F G' H' t (.ref x)->Q .non H'
 |_=>False
noncomputable def e_(K:AY)(Ai:Str)(n:Nat)(mf:List D->R T):B9:=λvs H Q E=>∃G x C Aj A6 ws,vs=.ref x::ws/\GE K Ai C/\H x=some (.ins C Aj [])/\G x=none/\Sub G H/\A_ K G A6 ws/\A6.length=n/\wy ⟨K,G,HC H [x],λ_ _=>False,J9⟩ x Q (mf A6)
def m2:D×T->R T
 |(.non,t)=>.ok t
 |_=>.bad
def ZW(Ai:Str)(N:Nat)(m:Aq)(A6:List D):R T:=(QB N m (.ins Ai [] []) A6).bind m2
def adL{K:AY}{Ai:Str}{n N:Nat}{m:Aq}:∀vs H Q E,e_ K Ai n (ZW Ai N m) vs H Q E->XJ K n (QB N m) vs H Q E:=λvs H Q E h=>by
 obtain⟨G,x,C,Aj,A6,ws,rfl,HI,h1,h2,s,B8,l,k⟩:=h;have Cs:Ak H (.ins Ai [] []) (.ref x)=[x]:=by rw[Lc h1,U2]
 refine⟨G,.ins Ai [] [],.ref x,A6,ws,rfl,s,?_,by rw[Cs];simp,by rw[Cs];intro b A0;rw[List.mem_singleton.mp A0];exact h2,B8,l,?_⟩
 .simp only[CS];exact⟨x,Aj,[],rfl,⟨C,HI,h1⟩,rfl,Bp.nil⟩
 .rw[Cs];unfold ZW at k;cases e:QB N m (.ins Ai [] []) A6 with
  |bad=>rw[e]at k;cases k
  |exc c=>rw[e]at k;cases k
  |ok y=>
   rw[e,R.E_]at k;obtain⟨d,t⟩:=y;cases d with
   |non=>intro u G' H' kp LM ok;simp only[At]at LM;subst LM;exact k G' H' kp ok
   |_=>cases k
structure ht(P:Bu)(w:Bh)(K:AY)(mg:Str->Option A4)(base:BH)(Ai:Str)(n k:Nat)(mf:List D->R T):Prop where
 ex:∃(C f:A7)(fd:GD)(Ap:List Str),GE K Ai C/\VN K C f/\Gd P w K mg base Gb k f fd Ap (e_ K Ai n mf)/\mg Ai=some (.ref C)/\Binds K fd Ap []
def afK{P:Bu}{w:Bh}{K:AY}{mg:Str->Option A4}{base:BH}{qual Ai FU L3:Str}{st:BW}{N Ap:List Str}{k:Nat}{m:Aq}(d:InK K mg Ai qual st (FU::Ap))(S:D2 (L3::N) (FU::Ap) (Bx st))(h:∀(f:A7)(CA:A4)(A:CG)(outer:List Env)(s:AP)(H:AA)(E:DL),Dy k (A.deeper (Mw qual (Bx st) s.heap.objs.size f CA))->∀G0 H0 v,Ju (Iy Gb P w K mg base (L3::N) qual (Bx st) f CA A outer s H E).KP (WH K G0 H0 v) (GU st) m) :
  ht P w K mg base Ai Ap.length (k+1) (ZW Ai (N.length+1) m):=by
 obtain⟨C,f,fd,h1,h2,h3,h4,h5⟩:=d.ex;refine⟨C,f,fd,FU::Ap,h1,h2,Gd.imp (h3.ok S pJ λCA A outer s H vs Q E AI AN=>?_) adL,h4,h5⟩;obtain⟨G,H0,v,Av⟩:=j2 AN;exact⟨_,(h f CA A outer s H E AI G H0 v).1,Av⟩
def Td(n:Nat)(mf:List D->R T)(ma:B6):Ag:=λρ=>(ma ρ).bind λds=>if ds.length=n then(Ie (mf ds)).bind λt=>.ok (toD t)else .bad
section
variable{X:Af}{F:BA}{e:AT}{A6:List AT}{pos p:Pos}{ma:B6}
def wQ{Ai:Str}{n:Nat}{mf:List D->R T}{C:A7}{E:DL}(HI:GE F.K Ai C):Ep (Ck F (Td n mf ma)) (gB C (e_ F.K Ai n mf) [] E (F7 F ma)):=by
 rintro σ H Q ⟨G,ρ,r,h⟩;unfold Td at h;refine⟨G,ρ,r,?_⟩;refine rb h λds Aw h vs H1 Al AK s1 B8 x Aj AH dM ne=>?_;by_cases AS:ds.length=n
 .rw[if_pos AS]at h;rw[LP];have Pz:Sub H1 (HC (upd (upd H1 Aj (.own x)) x (.ins C Aj [])) [x]):=λb o e=>by
   have D3:b≠x:=λz=>by rw[z,AH]at e;cases e
   have DI:b≠Aj:=λz=>by rw[z,dM]at e;cases e
   rw[TG (by simpa using D3),Da D3,Da DI];exact e
  have dd:Sub Al (upd (upd H1 Aj (.own x)) x (.ins C Aj [])):=AK.kp.sub.trans (Pz.trans (k9 _ _));refine⟨Al,x,C,Aj,ds,vs,rfl,HI,E1,AK.kp.sub.gone AH,dd,B8,AS,?_⟩;cases em:mf ds with
  |bad=>rw[em]at h;cases h
  |exc c=>rw[em]at h;cases h
  |ok t=>rw[em]at h;intro G' H' k ok;refine⟨rfl,?_⟩;have BD:Sub H1 H':=Pz.trans k.BD;have nw:∀b,I5 H1 b->G' b=Al b:=λb A0=>k.new b (Pz.JX A0);have B4:Rel F G' H' σ ρ:=AK.grow k.ET k.sub BD nw;have fr:∀b∈Ak H' t (.ref x),H1 b=none:=λb A0=>Pz.gone (ok.own b A0).2;obtain⟨t1,D_,t3⟩:=B4.gG (G0:=G) (H0:=H) (by rfl) ok (s1.trans ⟨k.ET,BD,nw⟩) λb A0=>⟨s1.h.gone (fr b A0),AK.kp.BD.gone (fr b A0),Cf.fresh AK BD (fr b A0)⟩;exact h (.ref x) H' _ t1 D_ t3
 .rw[if_neg AS]at h;cases h
def afB{Ai:Str}{n k:Nat}{mf:List D->R T}(c:ht X.prog X.w X.K X.mg X.base Ai n k mf)(AI:Dy (k+1) X.A)(AB:GT X F (e::A6) ma)(Ao:F.K=X.K:=by rfl)(Ah:EL X Ai:=by rfl)(HJ:(Ai==("__debug__" :Str))=false:=by decide)(he:BF (e::A6) X.env=(false,BK e X.env)::BF A6 X.env:=by rfl)(Dt:(Cy pos (BF A6 X.env)).any (·.1)=false:=by rfl):B1 X F (.Call (.Name Ai p) (e::A6) [] pos) (Td n mf ma):=⟨by
 have AB:=AB.1;obtain⟨C,f,fd,Ap,BX,Ev,HY,hm,A0⟩:=c.ex;refine Ay.imp (og Ev HY AI Ah hm A0 .nil Sb AB HJ he Dt) ?_;rw[<-Ao];exact wQ (by rw[Ao];exact BX)⟩
end
def Tb(i:Nat)(m:Hh):Hh:=λρ=>(ownAt i ρ).bind λ_=>(m ρ).bind λx=>W8 i (λ_=>.ok x.1) x.2
section
variable{X:Af}{F:BA}{e:AT}{A6:List AT}{pos p:Pos}{m:Ag}{ma:B6}
def afI (i:Nat) {x:Str} {Az:Pos} {apos:Pos} {Bq:Pos} {m:Hh} (he:Pw X F e m) (hN:X.N[i]?=some x:=by rfl) (BR:H3 X.env.scope x:=by first|exact Dq rfl|exact Ch (Dq rfl)|exact Ch (Ch rfl)) (hd:(x==("__debug__" :Str))=false:=by decide) (DU:(x==("__classdict__" :Str))=false:=by decide) (MX:I0 (.Name x Az) "extend" X.env (BK (.Name x Az) X.env)=BK (.Name x Az) X.env:=by rfl) (M3:(apos.endLine==Bq.line)=true:=by rfl) (MZ:((Cy Bq (BF [e] X.env)).all (λx=>!x.1)&&(H6 Bq (H5 [] X.env)).all (λx=>x.1.isSome)
   &&decide (([e]:List AT).length+([]:List FY).length+(if([]:List FY).isEmpty then 0 else 1)<30))=true:=by rfl) (AN:BF [e] X.env=(false,BK e X.env)::BF [] X.env:=by rfl) (M5:(Cy Bq (BF [] X.env)).any (·.1)=false:=by rfl):Pw X F (.Call (.Attribute (.Name x Az) "extend" apos) [e] [] Bq) (Tb i m):=⟨by
 have he:=he.1;refine Ay.imp (X4 Uh rX rY n9 (IG hN BR hd DU) (QU he Sa AN) MX MZ M3 AN M5) ?_;rintro σ H Q ⟨G,ρ,r,h⟩;unfold Tb ownAt at h;cases CN:ρ[i]? with
 |none=>rw[CN]at h;cases h
 |some s=>
  rw[CN]at h;cases s with
  |un=>cases h
  |A1 _=>cases h
  |Et _=>cases h
  |Bc _ _=>cases h
  |ob ob=>
   cases ob with
   |B7 _ _=>cases h
   |ins _ _ _=>cases h
   |lst ds=>
    obtain⟨q,xs,A9,h1,h2,h3,h4⟩:=r.own CN;rw[R.E_]at h;refine⟨.ref q,A9,.inl ⟨rfl,xs,C4.of h1⟩,G,ρ,r,?_⟩;cases Aw:m ρ with
    |bad=>rw[Aw]at h;cases h
    |exc c=>rw[Aw]at h;exact h
    |ok y=>
     obtain⟨d,EQ⟩:=y;rw[Aw,R.E_]at h;intro v H1 Al AK s1 B8;simp only[W8,ownAt]at h;cases OZ:EQ[i]? with
     |none=>rw[OZ]at h;cases h
     |some acQ=>
      rw[OZ]at h;cases acQ with
      |un=>cases h
      |A1 _=>cases h
      |Et _=>cases h
      |Bc _ _=>cases h
      |ob ob=>
       cases ob with
       |B7 _ _=>cases h
       |ins _ _ _=>cases h
       |lst Gs=>
        rw[R.E_,R.E_]at h;obtain⟨Hw,Gy,Ew,Iz,Oe,Qb,HH⟩:=AK.own OZ;rw[A9]at Ew;cases Ew;cases d with
        |lst A6=>
         simp only at h
         split at h
         .rename_i AQ;simp only[At]at B8;obtain⟨Cu,ys,rfl,g2,BG⟩:=B8;refine⟨q,Cu,Gy,ys,rfl,rfl,Iz,AK.kp.sub _ _ g2,by rw[<-HH.length,<-BG.length,Lw];lia,?_⟩;exact h .non _ Al (AK.mut OZ A9 (HH.append BG)) s1 (by simp only[At])
         .exact h.elim
        |_=>exact h.elim⟩
end
section
variable{X:Af}{F:BA}{e:AT}{pos:Pos}{m n:Ag}
end
end Cm
namespace LE
open PySem
def S0(h:BH)(d:A7)(A6:Array Lv):Prop:=∃o,h.get? d=some o/\o.ExactDict/\o.data=.dict A6 A6.size
def S0.typeIs{s:AP}{d:A7}{A6:Array Lv}(x:S0 s.heap d A6):s.TypeIs (.ref d) "dict":=let⟨o,AM,c,_⟩:=x;⟨o,AM,c.1⟩
section
variable{prog:Bu}{w:Bh}{A:CG}{E:A4->AP->Prop}{s:AP}{A6:Array Lv}
def XH{a:A7}{c:A4}{vs:Array A4}{i:Nat}{x:A4}{Q:Unit->AP->Prop}(AM:s.heap.get? a=some { cls:=c,data:=.fields vs })(AC:i<vs.size)(Dc:∀h',h'.get? a=some { cls:=c,data:=.fields (vs.setIfInBounds i x) }->h'.objs.size=s.heap.objs.size->(∀b o,b≠a->s.heap.get? b=some o->h'.get? b=some o)->Q () { s with heap:=h' }) :
  Ae (B2 prog w) A (setField (.ref a) i x) Q E s:=by
 refine Sr AM rfl AC (Dc _ ?_ ?_ λb o A0 e=>(LQ ..).2 b A0|>.trans e)
 .rw[PJ _ AM (gn (Ur rfl _))];rfl
 .exact(LQ ..).1
def xG {it d:A7} {i:Nat} {ok D1:A4} {Q:Option A4->AP->Prop} (hit:IsItemIter s.heap it d i A6.size A6.size ok D1) (hm:S0 s.heap d A6) (cb:i<A6.size)(Dc:∀h',IsItemIterOut h' it d (i+1) A6.size A6.size A6[i].key A6[i].val s.heap.objs.size->h'.get? s.heap.objs.size=some { cls:=.type "tuple",data:=.seq #[A6[i].key,A6[i].val] }->h'.objs.size=s.heap.objs.size+1->
    (∀b o,b≠it->s.heap.get? b=some o->h'.get? b=some o)->Q (some (.ref s.heap.objs.size)) { s with heap:=h' }) :
  Ae (B2 prog w) A (JL (.ref it)) Q E s:=by
 have CW:s.TypeIs (.ref it) "dict_itemiterator":=⟨_,hit,rfl⟩;obtain⟨Du,M4,DU,MY⟩:=id hm;unfold JL
 refine AJ (R7 (Mt (name:=FP "__next__") CW XM
  (Im XM CW rK ?_ (rU _))))
 refine AJ (B0 ?_);refine AJ ?_;refine AJ ?_;refine AJ (XK CW (B0 ?_));refine AJ (Y0 hit rfl ?_);have OC:Uk "dict_itemiterator"=true:=by decide
 simp only[OC,if_true];show Ae _ _ (if(DF d==G_)=true then _ else _) _ _ s;rw[if_neg (show¬((DF d==G_)=true)from GC)];refine AJ (B0 ?_);refine AJ (R2 M4 MY ?_);rw[if_neg (by simp)];refine AJ (B0 ?_);refine AJ (Sq M4 MY ?_);rw[if_neg (by simp)];refine B0 ?_;simp only[show¬((i:Int)<0)from by lia,if_false,N0,Ug cb];refine AJ ?_;refine AJ (XK CW (B0 ?_));refine AJ (gj CW ?_);show Ae _ _ (setField (.ref it) 3 (Kf ((i:Int)+1))>>=_) _ _ s;refine AJ (XH hit (by simp) λh1 g1 DS CP=>?_);have l3:Xx { s with heap:=h1 } (.ref it) "dict_itemiterator":=⟨_,g1,rfl⟩;refine AJ (K5 ?_);refine AJ (gj l3 ?_);show Ae _ _ (Builtin.Dict_items.isOneOf _ _>>=_) _ _ _;refine AJ (gj l3 ?_);show Ae _ _ (rR (.ref it) 6 A6[i].key A6[i].val) _ _ _;unfold rR;refine AJ (hX ?_);have g2:(h1.push { cls:=.type "tuple",data:=.seq #[A6[i].key,A6[i].val] }).get? it=_:=DE _ g1;have D_:(h1.push { cls:=.type "tuple",data:=.seq #[A6[i].key,A6[i].val] }).get? s.heap.objs.size=some { cls:=.type "tuple",data:=.seq #[A6[i].key,A6[i].val] }:=by rw[<-DS];exact FK _ rfl
 have Db:(h1.push { cls:=.type "tuple",data:=.seq #[A6[i].key,A6[i].val] }).objs.size=s.heap.objs.size+1:=by rw[<-DS];simp[Heap.push]
 have Br:∀b o,b≠it->s.heap.get? b=some o->(h1.push { cls:=.type "tuple",data:=.seq #[A6[i].key,A6[i].val] }).get? b=some o:=λb o A0 e=>DE _ (CP b o A0 e);have ne:s.heap.objs.size≠it:=λz=>by exact absurd z (My (DT hit))
 generalize h1.push { cls:=.type "tuple",data:=.seq #[A6[i].key,A6[i].val] }=h2 at g2 D_ Db Br |-;rw[DS];unfold Builtin.Dict_items.ownedTupleIsFree;refine AJ (AJ (Hi g2 rfl (x:=.none) (by simp) (B0 ?_)));refine AJ (Hi g2 rfl (x:=ok) (by simp) ?_);refine AJ (Hi g2 rfl (x:=D1) (by simp) ?_);refine AJ (XH g2 (by simp) λh3 g3 Qw Ft=>?_);refine AJ (XH g3 (by simp) λh4 HZ SM OF=>?_);refine AJ (XH HZ (by simp) λh5 WI fc lW=>?_);refine AJ (XH WI (by simp) λh6 Ob aeu lX=>?_);refine AJ (Y9 (B0 (B0 ⟨_,rfl,B0 (Dc h6 ?_ ?_ ?_ λb o A0 e=>?_)⟩)))
 .show h6.get? it=_;rw[Ob];simp[Kf]
 .exact lX _ _ ne (lW _ _ ne (OF _ _ ne (Ft _ _ ne D_)))
 .exact(aeu.trans (fc.trans (SM.trans Qw))).trans Db
 .exact lX _ _ A0 (lW _ _ A0 (OF _ _ A0 (Ft _ _ A0 (Br _ _ A0 e))))
def xF{it d:A7}{ok D1:A4}{Q:Option A4->AP->Prop}(BD:A.handled=none)(hit:IsItemIter s.heap it d A6.size A6.size A6.size ok D1)(hm:S0 s.heap d A6)(Dc:∀h',Heap.ExtBut it s.heap h'->Q none { s with heap:=h' }):Ae (B2 prog w) A (JL (.ref it)) Q E s:=by
 have CW:s.TypeIs (.ref it) "dict_itemiterator":=⟨_,hit,rfl⟩;obtain⟨Du,M4,DU,MY⟩:=id hm;unfold JL
 refine AJ (R7 (Mt (name:=FP "__next__") CW XM
  (Im XM CW rK ?_ (rU _))))
 refine AJ (B0 ?_);refine AJ ?_;refine AJ ?_;refine AJ (XK CW (B0 ?_));refine AJ (Y0 hit rfl ?_);have OC:Uk "dict_itemiterator"=true:=by decide
 simp only[OC,if_true];show Ae _ _ (if(DF d==G_)=true then _ else _) _ _ s;rw[if_neg (show¬((DF d==G_)=true)from GC)];refine AJ (B0 ?_);refine AJ (R2 M4 MY ?_);rw[if_neg (by simp)];refine AJ (B0 ?_);refine AJ (Sq M4 MY ?_);rw[if_neg (by simp)];refine B0 ?_;simp only[show¬((A6.size:Int)<0)from by lia,if_false,N0,rj (CY A6.size)];refine AJ ?_;refine AJ (XK CW (B0 ?_));show Ae _ _ (setField (.ref it) 2 .none>>=_) _ _ s;refine AJ (Sr hit rfl (by simp) ?_);show Ae _ _ (newExc (.type "StopIteration") []>>=_) _ _ _;refine AJ ?_;simp only[newExc,newTuple];refine AJ (JE ?_ (by size_fits));refine AJ (m:=Ss _ _) (wpAny_of_eq (a:=G_) (by first|rfl|(simp only[Ss];rfl)) ?_);refine JE ?_ (by size_fits);simp only[raiseNew];refine AJ (wpAny_handled ?_);rw[show A.in1.handled=none from BD];refine AJ (B0 (wpAny_throw ?_));refine AJ (R4 (T:="StopIteration") (b:=true) ⟨_,FK _ rfl,rfl⟩ hY ?_);exact B0 (Dc _ (((LQ ..).extBut.push _).push _))
theorem xJ{d:A7}{Q:A4->AP->Prop}(hd:(d==Hl)=false)(hm:S0 s.heap d A6)(Dc:Q (.ref s.heap.objs.size) { s with heap:=s.heap.push { cls:=.type "dict_items",data:=.fields #[.ref d] } }) :
  Ae (B2 prog w) A (call (.builtin "dict.items") [.ref d]) Q E s:=by
 have CW:s.TypeIs (.ref d) "dict":=hm.typeIs;refine V2 F.slot_dict_items CW F.entry_dict_items (F.args_dict_items_1 _) (S:=λA R s=>s.TypeIs (.ref d) "dict"/\R (.ok (.ret (.ref s.heap.objs.size))) { s with heap:=s.heap.push { cls:=.type "dict_items",data:=.fields #[.ref d] } }) (MeetsIn.of_wp λA R s⟨CW,h⟩=>?_) ⟨CW,Dc⟩;unfold Lz.«dict.items» Builtin.Dict.noArgs;refine AJ (AJ (XR CW ?_));show Ae _ _ (pure _) _ _ _;refine B0 ?_;unfold ga;rw[if_neg (by rw[hd];exact GC)];refine AJ (B0 ?_);exact AJ (JE (B0 ⟨_,rfl,h⟩))
theorem xH{v d:A7}{Q:A4->AP->Prop}(BR:s.heap.IsItemsView v d)(hm:S0 s.heap d A6)(Dc:Q (.ref s.heap.objs.size) { s with heap:=s.heap.push { cls:=.type "dict_itemiterator",data:=.fields #[.none,.bool false,.ref d,.int 0 0,.int A6.size 0,.int A6.size 0,.none,.none] } }) :
  Ae (B2 prog w) A (pyIter (.ref v)) Q E s:=by
 obtain⟨o,AM,AO,WS⟩:=hm;obtain⟨D1,wX,agV,vB⟩:=id BR;refine gs BR.typeIs F.slot_dict_items_iter (Im F.slot_dict_items_iter BR.typeIs F.entry_dict_items_iter ?_ (F.args_dict_items_iter_1 _));unfold Lz.«dict_items.__iter__»;refine AJ ?_;show Ae _ _ (pure (DF v)) _ _ s;refine B0 ?_;refine AJ ?_;unfold Builtin.Dict_items.dictOf;refine AJ (Hi wX vB (x:=.ref d) (by simp) (B0 ?_));unfold Builtin.Dict_items.newIterator;refine AJ (AJ (R2 AM WS ?_));refine AJ (Sq AM WS ?_);have OC:Uk "dict_itemiterator"=true:=by decide
 simp only[OC,if_true,Builtin.Dict_items.ownedTupleFields,newFields];refine JE (B0 ⟨_,rfl,"dict_itemiterator",_,⟨_,FK _ rfl,rfl⟩,F.slot_dict_itemiterator_next.lookup,?_⟩) (by show _<=_;simp;decide);exact Dc
end
end LE
namespace C2
open PySem PySem.Spec
theorem e1{α β:Type}{R:α->β->Prop}:∀{l:List α}{m:List β},Paired R l m->∀(i:Nat) a b,l[i]?=some a->m[i]?=some b->R a b
 |_,_,.nil,i,a,b,e,_=>by simp at e
 |_,_,.cons h t,0,a,b,A9,AG=>by simp at A9 AG;subst A9 AG;exact h
 |_,_,.cons h t,i+1,a,b,A9,AG=>e1 t i a b (by simpa using A9) (by simpa using AG)
noncomputable def hn(d:A7)(n:Nat):It:=⟨λi H=>∃Ab,H d=some (.B7 Ab)/\Ab.length=n/\i<n,
 λi H v H'=>∃p b k y,H p=none/\H'=upd H p (.tup [.ref b,y])/\v=.ref p/\(k.length≠1->Jt H k b)/\∀Ab,H d=some (.B7 Ab)->Ab[i]?=some (k,y),λi H=>∃Ab,H d=some (.B7 Ab)/\Ab.length=n/\n=i⟩
def b5{X:Af}{pins:List (A7×Obj)}{σ :St}{H:AA}{s:AP}{d:A7}{Ab:List (Bd×V)}(I:Inv X pins σ H s)(hd:H d=some (.B7 Ab)) :
  ∃xs A6,KT X.K H Ab xs/\LE.S0 s.heap d A6/\A6.toList=xs.map (PY (L5 X.prog X.w))/\A6.size=Ab.length/\(d==Hl)=false:=by
 obtain⟨_,Bf,xs,kt,o,A6,BY,h1,h2,h3,h4,_,_,h5⟩:=VB I.Ba I.EM (.inl hd);subst h5;refine⟨xs,A6,kt,⟨o,h1,h2,h3⟩,h4,?_,Bf⟩;rw[<-Uw,h4,Fw];exact(Paired.length kt).symm
theorem aeE{P:Bu}{w:Bh}{K:AY}{elts:List AT}{kk:Nat}{pos:Pos}(it d:A7)(n:Nat) :
  Turn P w K (.Tuple elts kk pos) (hn d n) [it] it (λi h=>∃ok D1,IsItemIter h it d i n n ok D1) where
 mem:=by simp
 obj:=λi h st b A0=>by
  obtain⟨ok,D1,e⟩:=st;obtain rfl:b=it:=by simpa using A0
  exact⟨_,e,λv z=>by have GA:Y7 _=T1 v:=z;cases GA⟩
 keep:=λi h h' st k=>by obtain⟨ok,D1,e⟩:=st;exact⟨ok,D1,k it (by simp) _ e⟩
 item:=by
  intro X Cn hw Ao AO i pins s σ H E I hf st Ah;subst Cn hw Ao;obtain⟨Ab,AX,AS,AC⟩:=Ah;obtain⟨ok,D1,hit⟩:=st;obtain⟨xs,A6,kt,Sd,he,Ar,Bf⟩:=b5 I AX;rw[AS]at Ar;subst Ar;refine LE.xG hit Sd AC λh' AM Av AN AL=>?_;refine⟨_,rfl,wpAny_letOwnedTupleGo_items AM λh2 vJ Fq=>?_⟩;have CW:s.heap.objs.size∉[it]:=λz=>by
   obtain rfl:s.heap.objs.size=it:=by simpa using z
   exact absurd (DT hit) (JC _)
  have keep:∀b o,b∉[it]->s.heap.get? b=some o->h2.get? b=some o:=λb o A0 q=>(Fq.2 b (by simpa using A0)).trans (AL b o (by simpa using A0) q);obtain⟨Ct,VG⟩:∃Ct,Ab[i]?=some Ct:=⟨_,E8 (by lia)⟩;obtain⟨q,eq,AK,B4,DV⟩:∃q,xs[i]?=some q/\Ct.1=q.1/\Iu X.K H Ct.1 q.2.1/\RelV Ct.2 q.2.2:=by
   have AQ:=Paired.length kt;have ZS:i<xs.length:=by lia
   exact⟨xs[i],E8 ZS,e1 kt i _ _ VG (E8 ZS)⟩
  have bo:A6[i]=PY (L5 X.prog X.w) q:=by
   have:A6.toList[i]?=some (PY (L5 X.prog X.w) q):=by rw[he,ER,eq];rfl
   rw[Ud,Ug AC]at this;exact FA this
  have Vn:Xp h2 s.heap.objs.size (#[.ref q.2.1,q.2.2]:Array A4):=by have:=(Fq.2 _ (by simpa using CW)).trans Av;rw[bo]at this;exact⟨_,this,rfl,_,rfl⟩
  have uv:H s.heap.objs.size=none:=I.Ba.fresh (CY _);have Bo:Inv X pins σ (upd H s.heap.objs.size (.tup [.ref q.2.1,Ct.2])) { s with heap:=h2 }:=I.gL (its:=[.ref q.2.1,q.2.2]) (ch:=[it]) (t':=s.toks) keep hf (CY _) Vn (.cons rfl (.cons DV .nil)) (by show 2<=CF;decide);refine⟨.ref s.heap.objs.size,_,Bo,rfl,⟨s.heap.objs.size,q.2.1,Ct.1,Ct.2,uv,rfl,rfl,λz=>B4.elim id λ⟨x,_,_,_,B3,_⟩=>absurd (by rw[B3];rfl) z,λks AL=>by rw[AX]at AL;cases AL;exact VG⟩,⟨_,_,vJ⟩,λb A0=>?_⟩;have nb:b≠s.heap.objs.size:=λz=>CW (z▸A0);rw[Da nb];exact(hf b A0).1
 done:=by
  intro X Cn hw Ao AO i pins s σ H E I hf st Ah;subst Cn hw Ao;obtain⟨Ab,AX,AS,AC⟩:=Ah;obtain⟨ok,D1,hit⟩:=st;obtain⟨xs,A6,kt,Sd,he,Ar,Bf⟩:=b5 I AX;have A9:n=A6.size:=by lia
  subst A9 AC;refine LE.xF (I.ok.hd AO) hit Sd λh' AL=>⟨rfl,I.We (ch:=[it]) (t':=s.toks) (λb o A0 q=>AL b o (by simpa using A0) q) hf⟩
 self:=λA i s Q E st h=>by obtain⟨ok,D1,hit⟩:=st;have CW:s.TypeIs (.ref it) "dict_itemiterator":=⟨_,hit,rfl⟩;refine gs CW rN (Im rN CW (show entryFor table "dict_itemiterator.__iter__"=some Lz.«dict_keyiterator.__iter__» by kernel_rfl) ?_ (F.args_dict_itemiterator_iter_1 _));show Ae _ _ (pure _) _ _ _;exact B0 ⟨_,rfl,"dict_itemiterator",_,CW,F.slot_dict_itemiterator_next.lookup,h⟩
section
variable{X:Af}{elts:List AT}{kk:Nat}{Qo:Pos}
def mR(Ei:TE):TI:=λσ H R=>Ei σ H λv H1=>∃d Ab,v=.ref d/\H1 d=some (.B7 Ab)/\R (hn d Ab.length) H1
def abH{o:AT}{Ei:TE}{apos Bq:Pos}(AM:Ay X o Ei)(A0:I0 o "items" X.env (BK o X.env)=BK o X.env)(AQ:(apos.endLine==Bq.line)=true)(hf:((Cy Bq (BF [] X.env)).all (λx=>!x.1)&&(H6 Bq (H5 [] X.env)).all (λx=>x.1.isSome)&&decide (([]:List AT).length+([]:List FY).length+(if([]:List FY).isEmpty then 0 else 1)<30))=true:=by rfl)(Av:Cy Bq (BF [] X.env)=[]:=by rfl) :
  GS X (.Tuple elts kk Qo) (.Call (.Attribute o "items" apos) [] [] Bq) (mR Ei):=by
 intro pins s σ H R I h;refine Xs A0 hf AQ XZ PySem.F.slot_dict_items PySem.F.type_dict_items (Bb (AM pins s σ H _ I h) λu s1⟨x,H1,B5,BQ,d,Ab,ex,hd,q⟩=>?_);subst ex;obtain rfl:u=DF d:=BQ;obtain⟨t1,D_,_⟩:=a5 B5 (.inr ⟨Ab,.inl hd⟩);refine⟨t1,D_,?_⟩;rw[Av];obtain⟨xs,A6,kt,Sd,he,Ar,Bf⟩:=b5 B5 hd;refine Ui rfl (PySem.evalArgs_none ?_);refine LE.xJ Bf Sd ?_;have Bo:Inv X pins σ H1 { s1 with heap:=s1.heap.push { cls:=.type "dict_items",data:=.fields #[.ref d] } }:=B5.kept (t':=s1.toks) λb o e=>DE _ e;obtain⟨Oy,agG,afy,acB,agW,cr,_⟩:=b5 Bo hd;refine LE.xH ⟨_,FK _ rfl,rfl,rfl⟩ acB ?_;refine⟨_,[_],_,_,H1,rfl,Bo.kept (t':=s1.toks) λb o e=>DE _ e,aeE _ d Ab.length,⟨_,_,by rw[<-cr];exact FK _ rfl⟩,λb A0=>?_,q⟩;obtain rfl:=List.mem_singleton.mp A0;exact Bo.Oa (CY _) (Bo.Ba.fresh (CY _))
end
end C2
namespace Cm
open PySem PySem.Spec C2
def Vw:Key->D
 |.inl i=>.int i
 |.inr x=>.str x
def TS:Jm->D
 |.inl k=>Vw k
 |.inr ks=>.tup (ks.map Vw)
def l_{K:AY}{G:AA}(k:Key):At K G (Vw k) (D9 k):=by cases k<;>simp only[Vw,At]<;>rfl
theorem la{K:AY}{G:AA}:∀ks:List Key,A_ K G (ks.map Vw) (ks.map D9)
 |[]=>.nil
 |k::ks=>.cons (l_ k) (la ks)
theorem ai{K:AY}{G H:AA}(t:∀b ys,H b=some (.tup ys)->G b=some (.tup ys)):∀{k:Bd}{vs:List V},Paired (NM H) k vs->A_ K G (k.map TS) vs
 |_,_,.nil=>.nil
 |.inl k::_,_,.cons h r=>.cons (by have h:_=D9 k:=h;rw[h];exact l_ k) (ai t r)
 |.inr ks::_,_,.cons h r=>.cons (by obtain⟨b,rfl,e⟩:=h;simp only[TS,At];exact⟨b,_,rfl,t _ _ e,la ks⟩) (ai t r)
def UB(ks:List Bd)(ds:List D):List D:=(ks.zip ds).map λp=>.tup [.tup (p.1.map TS),p.2]
def ZI:D->R (List D)
 |.B7 ks ds=>if ks.all (λk=>k.length !=1)=true then .ok (UB ks ds)else .bad
 |_=>.bad
def xC{K:AY}{G:AA}{d:A7}{ds:List D}{Ab:List (Bd×V)}(h:G d=some (.B7 Ab))(AL:(Ab.map (·.1)).all (λk=>k.length !=1)=true)(q:A_ K G ds (Ab.map (·.2))):MF K (hn d Ab.length) (UB (Ab.map (·.1)) ds) G where
 go:=λi H s AC=>by
  have AC:i<min Ab.length ds.length:=by simpa[UB]using AC
  exact⟨Ab,s _ _ h,rfl,by lia⟩
 Jg:=λi H v H' s AC y=>by
  obtain⟨p,b,k,y,Ad,rfl,rfl,C8,SK⟩:=y;have ex:=SK Ab (s _ _ h);have AG:(Ab.map (·.2))[i]?=some y:=by rw[ER,ex];rfl
  have A9:(Ab.map (·.1))[i]?=some k:=by rw[ER,ex];rfl
  obtain⟨d',e,a⟩:=q.WL AG;have yd:k.length≠1:=by simpa using List.all_eq_true.mp AL k (JF A9)
  refine⟨.tup [.tup (k.map TS),d'],?_,.inr ⟨p,_,_,Ad,rfl,rfl,rfl,λAl s1 t1=>.cons ?_ (.cons (a.mono s1) .nil)⟩⟩
  .unfold UB;rw[ER];have Rc:((Ab.map (·.1)).zip ds)[i]?=some (k,d'):=by
    rw[rm];exact⟨A9,e⟩
   rw[Rc];rfl
  .obtain⟨vs,ev,Nh⟩:=C8 yd;simp only[At];exact⟨b,vs,rfl,t1 _ _ ev,ai t1 Nh⟩
 stop:=λH s=>⟨Ab,s _ _ h,rfl,by simp[UB,q.length]⟩
def RM(m:Ag):B6:=λρ=>(m ρ).bind ZI
section
variable{X:Af}{F:BA}{e:AT}{m:Ag}
def wL:ON (Kk F (RM m)) (mR (Ck F m)):=by
 rintro σ H Q ⟨G,ρ,r,h⟩;unfold RM at h;refine⟨G,ρ,r,?_⟩;refine rb h λd Aw h v H1 Al AK s1 a=>?_;unfold ZI at h
 split at h
 .split at h
  .rename_i AL;simp only[At]at a;obtain⟨q,xs,rfl,AX,rfl,F2⟩:=a;exact⟨q,xs,rfl,AK.kp.sub _ _ AX,h _ H1 Al AK s1 (xC AX AL F2)⟩
  .exact h.elim
 .exact h.elim
def aem{elts:List AT}{k:Nat}{Wd apos Bq:Pos}(he:B1 X F e m)(A0:I0 e "items" X.env (BK e X.env)=BK e X.env:=by rfl)(AQ:(apos.endLine==Bq.line)=true:=by rfl)(hf:((Cy Bq (BF [] X.env)).all (λx=>!x.1)&&(H6 Bq (H5 [] X.env)).all (λx=>x.1.isSome)&&decide (([]:List AT).length+([]:List FY).length+(if([]:List FY).isEmpty then 0 else 1)<30))=true:=by rfl)(Av:Cy Bq (BF [] X.env)=[]:=by rfl) :
  MN X F (.Tuple elts k Wd) (.Call (.Attribute e "items" apos) [] [] Bq) (RM m):=⟨GS.imp (abH he.1 A0 AQ hf Av) wL⟩
end
end Cm
namespace C2
open PySem PySem.Spec
noncomputable def acu(K:AY)(Ei ty Wf:TE):TE:=λσ H Q=>Ei σ H λx H1=>∃a,x=.ref a/\YH H1 a/\ty σ H1 λy Ax=>Wf σ Ax λz Cp=>∃Ab k b,Cp a=some (.B7 Ab)/\y=.ref b/\Iu K Cp k b/\Ab.length<CF/\
 (∀v,FI Ab k=some v->Q v Cp)/\(FI Ab k=none->Q z (upd Cp a (.B7 (putK Ab k z))))
section
variable{X:Af}{o e f:AT}{apos Bq:Pos}{Ei ty Wf:TE}
def ze(BP:X.A.units+16<De)(AM:Ay X o Ei)(he:Ay X e ty)(hf:Ay X f Wf)(m:M2 X o "setdefault" apos e f Bq):Ay X (.Call (.Attribute o "setdefault" apos) [e,f] [] Bq) (acu X.K Ei ty Wf):=by
 intro pins s σ H Q I h;refine Xs m.base m.few m.line XZ PySem.F.slot_dict_setdefault PySem.F.type_dict_setdefault (Bb (AM pins s σ H _ I h) λu s1⟨x,H1,B5,BQ,a,ex,d,An⟩=>?_);subst ex;obtain rfl:u=DF a:=BQ;obtain⟨t1,D_,_⟩:=a5 B5 d;refine⟨t1,D_,?_⟩;rw[m.trees];refine Ui rfl (XU (Sk (Bb (he pins s1 σ H1 _ B5 An) λG5 s2⟨y,Ax,Bo,Bv,BG⟩=>
  Sk (Bb (hf pins s2 σ Ax _ Bo BG) λkl s3⟨z,Cp,Dk,pa,Ab,k,b,Aw,Cz,JO,AQ,EO,Sc⟩=>Ut ?_))))
 subst Cz;cases(show G5=DF b from Bv);obtain⟨Ar,hd,xs,rel,D8⟩:=VB Dk.Ba Dk.EM (.inl Aw);have AH:xs.length<=CF:=by rw[<-Paired.length rel];exact Ar
 have Kl:=rel.val k;refine LE.abY (nest_room BP) hd (cU Dk.Ba Dk.EM JO) D8 (λp Ad=>?_) (λAS h' TQ AN=>?_) AH
 .rw[Ad]at Kl;cases ev:FI Ab k with
  |none=>rw[ev]at Kl;cases Kl
  |some v=>rw[ev]at Kl;exact⟨v,Cp,Dk.tok _,Kl,EO v ev⟩
 .have ev:FI Ab k=none:=by
    rw[AS]at Kl;cases ev:FI Ab k with
    |none=>rfl
    |some v=>rw[ev]at Kl;cases Kl
  have M1:(putK Ab k z).length<=CF:=by have:=d6 Ab k z;lia
  obtain⟨q,A6,BY,AX,h2,h3,h4,_,h5⟩:=TQ;refine⟨z,_,bf (ob:=.B7 (putK Ab k z)) Dk (by rw[Aw];exact Lx) AN ⟨q,AX⟩ ⟨M1,hd,_,(rel.put k JO pa).keeps λc ys ec=>?_,q,A6,BY,AX,h2,h3,h4,h5⟩,pa,Sc ev⟩;rw[Da (mX ec Aw (λz=>nomatch z))];exact ec
end
end C2
namespace Cm
open PySem PySem.Spec C2
abbrev Ru:=AF->R Bd
def lc(F:BA)(G H:AA)(σ :C2.St)(ρ:AF)(Q:CT):R Bd->Prop
 |.ok k=>∀b H' G',Rel F G' H' σ ρ->Bw G H G' H'->Iu F.K H' k b->Q (.ref b) H'
 |_=>False
def acw(F:BA)(m:Ru):TE:=λσ H Q=>∃G ρ,Rel F G H σ ρ/\lc F G H σ ρ Q (m ρ)
structure i3(X:Af)(F:BA)(e:AT)(m:Ru):Prop where
 ex:∃t,Ay X e t/\∀ σ H Q,acw F m σ H Q->t σ H Q
def dj:Option Bd->R Bd
 |some k=>.ok k
 |none=>.bad
def P2(m:Ag):Ru:=λρ=>(Ie (m ρ)).bind λd=>dj (J8 d)
def eF(x:Str):Ru:=λ_=>.ok [.inl (.inr x)]
def be(i:Nat)(ρ:AF):R (List Bd×List D):=match ρ[i]? with
 |some (.ob (.B7 ks ds))=>.ok (ks,ds)
 |_=>.bad
noncomputable def N9(i:Nat)(mk:Ru)(mv:Ag):Aq:=λρ=>(be i ρ).bind λx=>(Ie (mk ρ)).bind λk=>(Ie (mv ρ)).bind λv=>if x.1.any (λy=>decide (y=k))=true then(if x.1.length<1000000 then .ok (.BC ρ)else .bad)else(putD x.1 x.2 k v).bind λo=>.ok (.BC (ρ.set i (.ob o)))
section
variable{X:Af}{F:BA}{e f:AT}{pos Az apos Bq:Pos}{m:Ag}
def q2(he:B1 X F e m):i3 X F e (P2 m):=⟨_,he.1,by
 rintro σ H Q ⟨G,ρ,r,h⟩;refine⟨G,ρ,r,?_⟩;unfold P2 at h;cases Aw:m ρ with
 |bad=>rw[Aw]at h;cases h
 |exc c=>rw[Aw]at h;cases h
 |ok d=>
  rw[Aw]at h;intro v H1 Al AK s1 a;replace h:lc F G H σ ρ Q (dj (J8 d)):=h;cases DY:J8 d with
  |none=>rw[DY]at h;cases h
  |some k=>rw[DY]at h;obtain⟨b,rfl,A0⟩:=OH DY a;exact h b H1 Al AK s1 (.inl (Nn A0 AK.kp.sub))⟩
def afM{nm x:Str}(c:Pm X.K X.mg nm (.EF [.str x]))(Ao:F.K=X.K:=by rfl)(Ah:EL X nm:=by rfl)(hd:(nm==("__debug__" :Str))=false:=by decide):i3 X F (.Name nm pos) (eF x):=by
 obtain⟨v,u,hm,CE,at'⟩:=c.ex;refine⟨_,oe Ah hm CE hd,?_⟩;rintro σ H Q ⟨G,ρ,r,h⟩;have a:=at' λ_=>none;simp only[At,A_]at a;obtain⟨b,xs,rfl,GJ,w,BO,rfl,rfl,rfl⟩:=a;refine h b H G r (Bw.refl _ _) (.inr ?_);rcases GJ with(GJ|⟨o,GJ⟩)|⟨o,its,n,AL,AO,hd,_,vs⟩
 .cases GJ
 .cases GJ
 .refine⟨x,o,n,?_⟩;generalize el:its.toList=l at vs;cases vs with
  |cons p q=>
   cases q;obtain⟨t,rfl⟩:=p;have:its= #[.str x t]:=by apply Array.ext';rw[el]
   exact⟨t,rfl,by rw[Ao];exact AL,AO,by rw[hd,this]⟩
def g0(i:Nat){x:Str}{mk:Ru}{mv:Ag}(BP:X.A.units+64<De)(AL:i3 X F e mk)(BR:B1 X F f mv)(Ao:F.K=X.K:=by rfl)(hN:X.N[i]?=some x:=by rfl)(Rn:H3 X.env.scope x:=by first|exact Dq rfl|exact Ch (Dq rfl)|exact Ch (Ch rfl))(hd:(x==("__debug__" :Str))=false:=by decide)(DU:(x==("__classdict__" :Str))=false:=by decide)(A0:I0 (.Name x Az) "setdefault" X.env (BK (.Name x Az) X.env)=BK (.Name x Az) X.env:=by rfl)(hf:((Cy Bq (BF [e,f] X.env)).all (λx=>!x.1)&&(H6 Bq (H5 [] X.env)).all (λx=>x.1.isSome)&&decide (([e,f]:List AT).length+([]:List FY).length+(if([]:List FY).isEmpty then 0 else 1)<30))=true:=by rfl)(AQ:(apos.endLine==Bq.line)=true:=by rfl)(Av:Cy Bq (BF [e,f] X.env)=[(false,BK e X.env),(false,BK f X.env)]:=by rfl) :
  FL X F (.Expr (.Call (.Attribute (.Name x Az) "setdefault" apos) [e,f] [] Bq) pos) (N9 i mk mv):=⟨by
 obtain⟨C8,PC,xc⟩:=AL.ex;refine DX.imp (b2 (ze (by lia) (IG hN Rn hd DU) PC BR.1 ⟨A0,hf,AQ,Av⟩)) ?_;rintro Ca σ H ⟨G,ρ,r,h⟩;unfold N9 be at h
 split at h
 .rename_i ks ds CN;obtain⟨q,AM,A9,h0,_,_,aec,rfl,_⟩:=r.obj CN;refine⟨.ref q,A9,q,rfl,.inr ⟨aec,.inl h0⟩,xc σ H _ ⟨G,ρ,r,?_⟩⟩;rw[R.E_]at h;cases DY:mk ρ with
  |bad=>rw[DY]at h;cases h
  |exc c=>rw[DY]at h;cases h
  |ok k=>
   rw[DY]at h;intro b H1 Al AK s1 JO;refine⟨Al,ρ,AK,?_⟩;cases ev:mv ρ with
   |bad=>rw[ev]at h;cases h
   |exc c=>rw[ev]at h;cases h
   |ok VC=>
    rw[ev]at h;intro z Ax Ci B4 s2 Pg;obtain⟨Hw,Ed,Ew,h1,h2,h3,xs,rfl,rfl,al⟩:=B4.obj CN;rw[A9]at Ew;cases Ew;replace h:Ht F G Ca (if(xs.map (·.1)).any (λy=>decide (y=k))=true then(if(xs.map (·.1)).length<1000000 then .ok (.BC ρ)else .bad)else(putD (xs.map (·.1)) ds k VC).bind λo=>.ok (.BC (ρ.set i (.ob o)))):=h;have vs:=Wi k xs;have kb2:Iu X.K Ax k b:=by rw[<-Ao];exact JO.mono λb ys e=>s2.h _ _ e
    split at h
    .rename_i AO;rw[AO]at vs
     split at h
     .rename_i M1;exact⟨xs,k,b,h1,rfl,kb2,LV (by simpa using M1) (by decide),λv _=>h σ Ci Ax B4 (s1.g.trans s2.g),λz=>by rw[z]at vs;cases vs⟩
     .exact h.elim
    .rename_i AO;have AO:(xs.map (·.1)).any (λy=>decide (y=k))=false:=Bool.eq_false_iff.mpr AO;have AS:FI xs k=none:=by
      rw[AO]at vs;exact Option.not_isSome_iff_eq_none.mp (by rw[vs];exact GC)
     unfold putD at h
     split at h
     .rename_i FE;refine⟨xs,k,b,h1,rfl,kb2,LV (by simpa using FE.2) (by decide),λv ev=>(by rw[AS]at ev;cases ev),λ_=>?_⟩;rw[e4 _ AS];refine h σ Ci _ (B4.Wx CN A9 ⟨xs++[(k,z)],rfl,by simp,?_⟩) (s1.g.trans s2.g);rw[Hz];exact al.snoc Pg
     .rename_i FE
      split at h
      .rename_i U5;rw[AO]at U5;cases U5.1
      .exact h.elim
 .exact h.elim⟩
end
end Cm
namespace C2
open PySem PySem.Spec
def hu(K:AY)(H:AA)(k:Bd)(b:A7):Prop:=Jt H k b\/∃x,k=[.inl (.inr x)]/\CK K H b [.str x]
def yP{X:Af}{pins:List (A7×Obj)}{σ :St}{H:AA}{s:AP}{k:Bd}{b:A7}(I:Inv X pins σ H s)(e:hu X.K H k b):(L5 X.prog X.w).is s.heap k b:=by
 rcases e with e|⟨x,rfl,GJ⟩
 .exact Rq I.Ba e
 .obtain⟨its,vs,⟨o,AM,AO,n,hd⟩,_⟩:=I.tuple GJ;cases vs with
  |cons p q=>cases q;obtain⟨t,rfl⟩:=p;exact⟨o,_,n,AM,AO,hd,by simpa using GR.cons (k:=.inl (.inr x)) (cQ x t) .nil⟩
def acr(K:AY)(Ei ty:TE):TE:=λσ H Q=>Ei σ H λx H1=>∃a,x=.ref a/\YH H1 a/\ty σ H1 λy Ax=>∃Ab k b,Eu Ax a (.B7 Ab)/\y=.ref b/\hu K Ax k b/\Q ((FI Ab k).getD .non) Ax
def zd{X:Af}{o e:AT}{apos Bq:Pos}{Ei ty:TE}(BP:X.A.units+16<De)(AM:Ay X o Ei)(he:Ay X e ty)(m:jD X o "get" apos e Bq):Ay X (.Call (.Attribute o "get" apos) [e] [] Bq) (acr X.K Ei ty):=by intro pins s σ H Q I h;refine Xs m.base m.few m.line XZ Uf rV (Bb (AM pins s σ H _ I h) λu s1⟨x,H1,B5,BQ,a,ex,d,An⟩=>?_);subst ex;obtain rfl:u=DF a:=BQ;obtain⟨t1,D_,_⟩:=a5 B5 d;refine⟨t1,D_,?_⟩;rw[m.trees];refine Ui rfl (XU (Sk (Bb (he pins s1 σ H1 _ B5 An) λG5 s2⟨y,Ax,Bo,Bv,Ab,k,b,e,Cz,JO,BG⟩=>Ut ?_)));subst Cz;cases(show G5=DF b from Bv);obtain⟨z,hd,xs,rel,D8⟩:=RZ Bo.Ba Bo.EM e;exact V2 Uf D8.typeIs gi (gg _ _) (meetsH_dict_get (L5 X.prog X.w) a b hd) ⟨nest_room BP,k,xs,yP Bo JO,D8,⟨(FI Ab k).getD .non,Ax,Bo.tok _,(rel.val k).getD rfl,BG⟩⟩
end C2
namespace Cm
open PySem PySem.Spec C2
section
variable{X:Af}{F:BA}{e o elt iter Bt:AT}{pos:Pos}{scope:ED}{m n:Ag}
def aee(i:Nat)(nl:Nat)(caps:List Nat){y:Str}{py:Pos}{ifs:List AT}{mi:B6}{set:D->AF->R AF}{mt:CR}{Gw:Ag}{Bq:Pos}(hN:X.N.Nodup)(S:V_ X.env.scope X.N scope (NS scope X.N nl caps) nl caps=true)(AC:MN X F Bt iter mi)(Ah:VH X scope (NS scope X.N nl caps) Bt set)(Av:Pl X scope (NS scope X.N nl caps) ifs mt)(he:iT X scope (NS scope X.N nl caps) elt Gw)(Bf:X.N[i]?=some y:=by rfl)(AQ:X.env.kindOf y=some .local:=by rfl)(cj:PW (.ListComp elt [⟨Bt,iter,ifs,0⟩] scope Bq) (some (.Name y py)) pos.line X.env=pure true:=by rfl)(AO:X.calm=true:=by rfl)(Ao:F.K=X.K:=by rfl)(AN:∀x,PO iter X.env x=pure x:=by intro _;rfl) :
  FL X F (.Assign [.Name y py] (.ListComp elt [⟨Bt,iter,ifs,0⟩] scope Bq) pos) (EB i (RK (Dm nl caps mi set mt Gw))):=by
 refine⟨DX.imp (t:=Oq (IH F (RK (Dm nl caps mi set mt Gw))) (KD i)) ?_ lp⟩;refine DX.imp (t:=Oq (IH F (Dm nl caps mi set mt Gw)) (KD i)) ?_ λCa σ H h=>w3 σ H _ h;refine ij (nl:=nl) (caps:=caps) (Q:=λt=>DX X (.Assign [.Name y py] (.ListComp elt [⟨Bt,iter,ifs,0⟩] scope Bq) pos) (Oq t (KD i))) Ao AC.1 Ah.g Av (λcl C s H Ak G0 H0=>(he cl C s H Ak G0 H0).1) Ah.BC Ah.kp λg g1 t1 A9 imp=>?_;exact DX.imp (aam (.of S) AO hN Bf AQ AC.1 g1 t1 A9 cj AN) λCa σ H h=>imp σ H _ h
def Q4(d:D)(l h:Option Int):R D:=match d with
 |.EF xs=>if Dj.CQ xs.length 0 l=0/\Dj.CQ xs.length xs.length h=xs.length then .bad else .ok (.tup (G2 xs l h))
 |d=>LB d l h
def TV:D->Option Bd
 |.EF [.str x]=>some [.inl (.inr x)]
 |d=>J8 d
def W6(m n:Ag):Ag:=λρ=>(m ρ).bind λd=>match d with
 |.B7 ks ds=>(n ρ).bind λk=>match TV k with
  |some kk=>.ok ((findD ks ds kk).getD .non)
  |none=>.bad
 |_=>.bad
def yJ{K:AY}{G H:AA}{d:D}{v:V}{k:Bd}(e:TV d=some k)(s:Sub G H)(a:At K G d v):∃b,v=.ref b/\hu K H k b:=by
 unfold TV at e
 split at e
 .rename_i x;cases e;simp only[At,A_]at a;obtain⟨b,xs,rfl,GJ,u,r,rfl,rfl,rfl⟩:=a;exact⟨b,rfl,.inr ⟨x,rfl,CK.mono s GJ⟩⟩
 .obtain⟨b,rfl,A0⟩:=OH e a;exact⟨b,rfl,.inl (Nn A0 s)⟩
def afF{a:AT}{lo AC:Option AT}{Cu:Pos}{Me QL:MI}(AB:B1 X F a m)(AQ:Pc X F lo Me)(BD:Pc X F AC QL)(Ao:F.K=X.K:=by rfl):B1 X F (.Subscript a (.Slice lo AC none Cu) pos) (EN Q4 m Me QL):=⟨by
 refine Ay.imp (dy pE AB.1 AQ.1 BD.1) ?_;rintro σ H Q ⟨G,ρ,r,h⟩;unfold EN at h;refine⟨G,ρ,r,?_⟩;refine rb h λd Aw h x H1 Al AK s1 Bl=>?_;refine⟨Al,ρ,AK,?_⟩;refine rb h λl el h Ax Ci B4 s2=>?_;refine⟨Ci,ρ,B4,?_⟩;refine rb h λu OW h Cp Ge DV s3=>?_;have up:=(s1.trans s2).trans s3;have K9:=(Bl.mono s2.g).mono s3.g;cases d with
 |tup ds=>
  simp only[Q4,LB]at h
  split at h
  .exact h.elim
  .rename_i hw;simp only[At]at K9;obtain⟨q,xs,rfl,AX,F2⟩:=K9;rw[F2.length]at hw;refine⟨q,xs,rfl,CK.of (DV.kp.sub _ _ AX),hw,λN7 AS=>?_⟩;refine h (.ref N7) _ _ (DV.lay AS) (up.trans (Bw.lay DV.kp.sub AS)) ?_;simp only[At];exact⟨N7,_,rfl,E1,(F2.cut l u).mono (Sub.upd (DV.kp.sub.gone AS))⟩
 |EF ds=>
  simp only[Q4]at h
  split at h
  .exact h.elim
  .rename_i hw;simp only[At]at K9;obtain⟨q,xs,rfl,AX,F2⟩:=K9;rw[F2.length]at hw;refine⟨q,xs,rfl,by rw[<-Ao];exact CK.mono DV.kp.sub AX,hw,λN7 AS=>?_⟩;refine h (.ref N7) _ _ (DV.lay AS) (up.trans (Bw.lay DV.kp.sub AS)) ?_;simp only[At];exact⟨N7,_,rfl,E1,(F2.cut l u).mono (Sub.upd (DV.kp.sub.gone AS))⟩
 |_=>exact h.elim⟩
def af7 {apos Bq:Pos} (BP:X.A.units+64<De) (AM:B1 X F o m) (he:B1 X F e n) (Ao:F.K=X.K:=by rfl) (h1:I0 o "get" X.env (BK o X.env)=BK o X.env:=by rfl)(h2:((Cy Bq (BF [e] X.env)).all (λx=>!x.1)&&(H6 Bq (H5 [] X.env)).all (λx=>x.1.isSome)
  &&decide (([e]:List AT).length+([]:List FY).length+(if([]:List FY).isEmpty then 0 else 1)<30))=true:=by rfl) (h3:(apos.endLine==Bq.line)=true:=by rfl) (h4:Cy Bq (BF [e] X.env)=[(false,BK e X.env)]:=by rfl) :
  B1 X F (.Call (.Attribute o "get" apos) [e] [] Bq) (W6 m n):=⟨by
 refine Ay.imp (zd (by lia) AM.1 he.1 ⟨h1,h2,h3,h4⟩) ?_;rintro σ H Q ⟨G,ρ,r,h⟩;unfold W6 at h;refine⟨G,ρ,r,?_⟩;refine rb h λD8 Aw h x H1 Al AK s1 Bl=>?_;cases D8 with
 |B7 ks ds=>
  simp only at h;simp only[At]at Bl;obtain⟨a,xs,rfl,Ah,rfl,al⟩:=Bl;refine⟨a,rfl,.inr ⟨xs,.inl (AK.kp.sub _ _ Ah)⟩,Al,ρ,AK,?_⟩;refine rb h λLb Bi h y Ax Ci B4 s2 CU=>?_;cases DY:TV Lb with
  |none=>rw[DY]at h;cases h
  |some kk=>
   rw[DY]at h;simp only at h;obtain⟨b,rfl,A0⟩:=yJ DY B4.kp.sub CU;rw[Ao]at A0;refine⟨xs,kk,b,.inl (B4.kp.sub _ _ (s2.g _ _ Ah)),rfl,A0,?_⟩;have f:=WF (K:=F.K) (G:=Al) kk al;cases Cs:findD (xs.map (·.1)) ds kk with
   |none=>rw[Cs]at f h;rw[show FI xs kk=none from f];exact h .non Ax Ci B4 (s1.trans s2) (by simp only[Xj,At])
   |some d=>rw[Cs]at f h;obtain⟨v,ev,B8⟩:=f;rw[ev];exact h v Ax Ci B4 (s1.trans s2) (B8.mono s2.g)
 |_=>exact h.elim⟩
end
end Cm
namespace LT
open PySem PyProof.Rows
section
variable{prog:Bu}{w:Bh}{A:CG}{E:A4->AP->Prop}{s:AP}{CD:Array K7}{κ:KeyKind}{kd:Ly}
end
def KN(h:BH)(d:A7)(A6:Array Lv)(BY:Nat):Prop:=∃o,h.get? d=some o/\o.ExactDict/\o.data=.dict A6 BY
def KN.at{h h':BH}{d:A7}{A6:Array Lv}{BY:Nat}(x:KN h d A6 BY)(e:∀o,h.get? d=some o->h'.get? d=some o):KN h' d A6 BY:=let⟨o,AM,r⟩:=x;⟨o,e _ AM,r⟩
def KN.typeIs{s:AP}{d:A7}{A6:Array Lv}{BY:Nat}(x:KN s.heap d A6 BY):s.TypeIs (.ref d) "dict":=let⟨o,AM,c,_⟩:=x;⟨o,AM,c.1⟩
section
variable{prog:Bu}{w:Bh}{A:CG}{E:A4->AP->Prop}{s:AP}{A6:Array Lv}
theorem ac9{d:A7}{BY:Nat}{Q:A4->AP->Prop}(hd:(d==Hl)=false)(hm:KN s.heap d A6 BY)(Dc:Q (.ref s.heap.objs.size) { s with heap:=s.heap.push { cls:=.type "dict_keyiterator",data:=.fields #[.ref d,.int 0 0,.int A6.size 0,.int BY 0] } }) :
  Ae (B2 prog w) A (pyIter (.ref d)) Q E s:=by
 have CW:s.TypeIs (.ref d) "dict":=hm.typeIs;obtain⟨o,AM,AO,WS⟩:=hm;refine gs CW F.slot_dict_iter (Im F.slot_dict_iter CW F.entry_dict_iter ?_ (F.args_dict_iter_1 _));unfold Lz.«dict.__iter__»;refine AJ ?_;unfold Builtin.Dict.dictSlotNone;refine AJ (XR CW ?_);show Ae _ _ (pure (DF d)) _ _ s;refine B0 ?_;show Ae _ _ (ga d>>=_) _ _ s;unfold ga;rw[if_neg (by rw[hd];exact GC)];refine AJ (B0 ?_);refine AJ (R2 AM WS ?_);refine AJ (Sq AM WS ?_);refine AJ (JE (B0 ⟨_,rfl,"dict_keyiterator",_,⟨_,FK _ rfl,rfl⟩,F.slot_dict_keyiterator_next.lookup,?_⟩));simpa[Kf]using Dc
def ac8{it d:A7}{i BY:Nat}{Q:Option A4->AP->Prop}(hit:s.heap.IsKeyIter it d i A6.size BY)(hm:KN s.heap d A6 BY)(cb:i<A6.size)(Dc:∀h',h'.IsKeyIter it d (i+1) A6.size BY->JH it s.heap h'->Q (some A6[i].key) { s with heap:=h' }) :
  Ae (B2 prog w) A (JL (.ref it)) Q E s:=by
 obtain⟨o,AM,AO,hd⟩:=id hit;obtain⟨Du,M4,DU,MY⟩:=id hm;unfold JL
 refine AJ (R7 (Mt (name:=FP "__next__") hit.typeIs XO
  (Im XO hit.typeIs rO ?_ (rL _))))
 refine AJ (B0 ?_);refine AJ ?_;refine AJ ?_
 first|refine AJ (XN hit.typeIs (B0 ?_))|refine AJ (XY hit.typeIs (B0 ?_))
 refine AJ (Y0 AM hd ?_);have OC:Uk "dict_keyiterator"=false:=by decide
 simp only[OC,Hj,if_false];show Ae _ _ (if(DF d==G_)=true then _ else _) _ _ s;rw[if_neg (show¬((DF d==G_)=true)from GC)];refine AJ (B0 ?_);refine AJ (R2 M4 MY ?_);rw[if_neg (by simp)];refine AJ (B0 ?_);refine AJ (Sq M4 MY ?_);rw[if_neg (by simp)];refine B0 ?_;simp only[show¬((i:Int)<0)from by lia,if_false,N0,Ug cb];refine AJ ?_
 first|refine AJ (XN hit.typeIs (B0 ?_))|refine AJ (XY hit.typeIs (B0 ?_))
 refine AJ (wpAny_isOneOf_keyiter hit.typeIs ?_);show Ae _ _ (setField (.ref it) 1 (Kf ((i:Int)+1))>>=_) _ _ s;refine AJ (Sr AM hd (by simp) ?_);have U8:(s.heap.update it (Obj.mapFields (·.setIfInBounds 1 (Kf ((i:Int)+1))))).IsKeyIter it d (i+1) A6.size BY:=
  ⟨_,PJ _ AM (gn (Ur hd _)),(Obj.cls_mapFields ..).trans AO,by rw[Ur hd];simp[Kf]⟩
 refine AJ (K5 ?_);refine AJ (wpAny_isOneOf_keyiter (s:={ s with heap:=s.heap.update it (Obj.mapFields (·.setIfInBounds 1 (Kf ((i:Int)+1)))) }) U8.typeIs ?_);show Ae _ _ (pure A6[i].key) _ _ _;exact B0 (B0 ⟨_,rfl,B0 (Dc _ U8 (LQ ..))⟩)
def ab8{it d:A7}{BY:Nat}{Q:Option A4->AP->Prop}(BD:A.handled=none)(hit:s.heap.IsKeyIter it d A6.size A6.size BY)(hm:KN s.heap d A6 BY)(Dc:∀h',Heap.ExtBut it s.heap h'->Q none { s with heap:=h' }):Ae (B2 prog w) A (JL (.ref it)) Q E s:=by
 obtain⟨o,AM,AO,hd⟩:=id hit;obtain⟨Du,M4,DU,MY⟩:=id hm;unfold JL
 refine AJ (R7 (Mt (name:=FP "__next__") hit.typeIs XO
  (Im XO hit.typeIs rO ?_ (rL _))))
 refine AJ (B0 ?_);refine AJ ?_;refine AJ ?_
 first|refine AJ (XN hit.typeIs (B0 ?_))|refine AJ (XY hit.typeIs (B0 ?_))
 refine AJ (Y0 AM hd ?_);have OC:Uk "dict_keyiterator"=false:=by decide
 simp only[OC,Hj,if_false];show Ae _ _ (if(DF d==G_)=true then _ else _) _ _ s;rw[if_neg (show¬((DF d==G_)=true)from GC)];refine AJ (B0 ?_);refine AJ (R2 M4 MY ?_);rw[if_neg (by simp)];refine AJ (B0 ?_);refine AJ (Sq M4 MY ?_);rw[if_neg (by simp)];refine B0 ?_;simp only[show¬((A6.size:Int)<0)from by lia,if_false,N0,rj (CY A6.size)];refine AJ ?_
 first|refine AJ (XN hit.typeIs (B0 ?_))|refine AJ (XY hit.typeIs (B0 ?_))
 show Ae _ _ (setField (.ref it) 0 .none>>=_) _ _ s;refine AJ (Sr AM hd (by simp) ?_);show Ae _ _ (newExc (.type "StopIteration") []>>=_) _ _ _;refine AJ ?_;simp only[newExc,newTuple];refine AJ (JE ?_ (by size_fits));refine AJ (m:=Ss _ _) (wpAny_of_eq (a:=G_) (by first|rfl|(simp only[Ss];rfl)) ?_);refine JE ?_ (by size_fits);simp only[raiseNew];refine AJ (wpAny_handled ?_);rw[show A.in1.handled=none from BD];refine AJ (B0 (wpAny_throw ?_));refine AJ (R4 (T:="StopIteration") (b:=true) ⟨_,FK _ rfl,rfl⟩ hY ?_);exact B0 (Dc _ (((LQ ..).extBut.push _).push _))
def acA(BD:A.handled=none)(I d:A7)(OA:d≠I)(A6:Array Lv)(BY:Nat) :
  Walks prog w A I [I,d] [I] A6.size (λi v=>A6[i]?.map (·.key)=some v) (λi h=>h.IsKeyIter I d i A6.size BY/\KN h d A6 BY) where
 sub:=λb A0=>by simp at A0;simp[A0]
 frame:=λ_ _ _ st AL=>⟨st.1.at λo e=>AL I (by simp) o e,st.2.at λo e=>AL d (by simp) o e⟩
 item:=λi s Q E AC st Dc=>ac8 st.1 st.2 AC λh' U8 Ks=>
  Dc _ h' s.toks (by rw[Ug AC];rfl) ⟨U8,st.2.at λo e=>Ks.extBut d o OA e⟩ λb o A0 e=>Ks.extBut b o (λh=>A0 (by simp[h])) e
 done:=λs Q E st Dc=>ab8 BD st.1 st.2 λh' vC=>Dc h' s.toks λb o A0 e=>vC b o (λh=>A0 (by simp[h])) e
 self:=λ_ _ _ _ st Dc=>wpAny_pyIter_keyiter st.1 Dc
def uR:typeLookup (.type "dict") "__len__"=pure (some (.builtin "dict.__len__")):=by rw[typeLookup_type,builtinLookup_eq_fast];kernel_rfl
def yU{acc:Array A4}{A6:Array Lv}(h:ItemsOf (λi v=>A6[i]?.map (·.key)=some v) acc A6.size):acc.toList=A6.toList.map (·.key):=by
 apply hG;intro i;have A9:acc.toList[i]?=acc[i]?:=by simp
 rw[ER,A9];cases e:acc[i]? with
 |none=>
  have:acc.size<=i:=by simpa using e
  rw[h.1]at this;have AG:A6.toList[i]?=none:=List.getElem?_eq_none (by simpa using this);rw[AG];rfl
 |some v=>have:=h.2 i v e;rw[<-this];simp
theorem tH{d:A7}{BY:Nat}{Q:List A4->AP->Prop}(BD:A.handled=none)(hd:(d==Hl)=false)(hm:KN s.heap d A6 BY)(AS:A6.size<=CF)(Dc:∀h' C8,(∀b o,s.heap.get? b=some o->h'.get? b=some o)->s.heap.objs.size<h'.objs.size->Q (A6.toList.map (·.key)) { s with heap:=h',toks:=C8 }):Ae (B2 prog w) A (collect (.ref d)) Q E s:=by
 have IB:d<s.heap.objs.size:=by obtain⟨o,AM,_⟩:=hm;exact DT AM
 have l1:s.heap.objs.size≠d:=λe=>JC _ (e▸IB);unfold collect;refine AJ (wpAny_runValue (codeAny_builtin F.entry_proto_collect ?_));rw[s7 F.plain_proto_collect _];show Ae _ A.in1 (newList []>>=λl=>again (.builtin "list.__iadd__" ⟨[l,.ref d],[]⟩)) _ _ s;refine AJ (JE ?_);refine B0 ⟨plainId_quiet F.plain_list_iadd _,codeAny_builtin F.entry_list_iadd ?_⟩;rw[s7 F.plain_list_iadd _];have Zr:KN (s.heap.push { cls:=.type "list",data:=.seq ([]:List A4).toArray }) d A6 BY:=hm.at λo e=>DE _ e;have kz:(s.heap.push { cls:=.type "list",data:=.seq ([]:List A4).toArray }).get? s.heap.objs.size=some { cls:=.type "list",data:=.seq ([]:List A4).toArray }:=FK _ rfl;show Ae _ A.in1 (rJ (.ref s.heap.objs.size) (.ref d) (.ref s.heap.objs.size)) _ _ { s with heap:=s.heap.push { cls:=.type "list",data:=.seq ([]:List A4).toArray } };generalize Cs:s.heap.push { cls:=.type "list",data:=.seq ([]:List A4).toArray }=f1 at Zr kz |-;unfold rJ;refine AJ (V4 (s:={ s with heap:=f1 }) (Zr.typeIs (s:={ s with heap:=f1 })) ?_);have h1:rZ (.ref s.heap.objs.size) (.ref d)=false:=by simp[rZ,l1]
 rw[if_neg (by rw[h1];decide)];refine AJ (ac9 (s:={ s with heap:=f1 }) hd Zr ?_);dsimp only;have J1:(f1.push { cls:=.type "dict_keyiterator",data:=.fields #[.ref d,.int 0 0,.int A6.size 0,.int BY 0] }).IsKeyIter f1.objs.size d 0 A6.size BY:=⟨_,FK _ rfl,rfl,rfl⟩;have Oi:KN (f1.push { cls:=.type "dict_keyiterator",data:=.fields #[.ref d,.int 0 0,.int A6.size 0,.int BY 0] }) d A6 BY:=Zr.at λo e=>DE _ e;have Zi:(f1.push { cls:=.type "dict_keyiterator",data:=.fields #[.ref d,.int 0 0,.int A6.size 0,.int BY 0] }).get? s.heap.objs.size=some { cls:=.type "list",data:=.seq ([]:List A4).toArray }:=DE _ kz;have Oh:∀b o,s.heap.get? b=some o->(f1.push { cls:=.type "dict_keyiterator",data:=.fields #[.ref d,.int 0 0,.int A6.size 0,.int BY 0] }).get? b=some o:=λb o e=>DE _ (by rw[<-Cs];exact DE _ e);have Ar:f1.objs.size=s.heap.objs.size+1:=by rw[<-Cs];exact size_push' _ _
 generalize f1.push { cls:=.type "dict_keyiterator",data:=.fields #[.ref d,.int 0 0,.int A6.size 0,.int BY 0] }=f2 at J1 Oi Zi Oh |-;have QO:d≠f1.objs.size:=Fe (by rw[Ar];exact hF IB);have W:=(acA (prog:=prog) (w:=w) (A:=A.in1) BD f1.objs.size d QO A6 BY).toS;have l2:s.heap.objs.size∉[f1.objs.size,d]:=λh=>by
  rcases List.mem_cons.mp h with e|h
  .lia
  .exact l1 (List.mem_singleton.mp h)
 refine AJ (K5 ?_);unfold Builtin.List.listLengthHint;refine AJ (Sp (s:={ s with heap:=f2 }) (Oi.typeIs (s:={ s with heap:=f2 })) uR ?_)
 (generalize dS:("dict.__len__" :String)=lq;(fail_if_success (clear dS lq));wp_delta;rw[show splitId lq=some ("dict","__len__")from by subst dS;decide+kernel];subst dS)
 refine AJ (R4 (b:=true) (Oi.typeIs (s:={ s with heap:=f2 })) (by rw[isSubtype_type];kernel_rfl) ?_);rw[if_neg (by simp)];dsimp only;rw[if_pos (by decide+kernel)];refine AJ (V4 (Oi.typeIs (s:={ s with heap:=f2 })) ?_);refine B0 ?_;rw[if_pos (by decide+kernel)];refine AJ (Kc (AJ ?_));show Ae _ A.in1 (updateSeq s.heap.objs.size (·.push .none)>>=λ_=>updateSeq s.heap.objs.size (·.pop)) _ _ { s with heap:=f2 };refine AJ (wpAny_updateSeq (s:={ s with heap:=f2 }) Zi rfl ?_);have l0:=PJ (Kb (·.push G_)) Zi rfl;refine wpAny_updateSeq l0 rfl ?_;have vj:=PJ (Kb (·.pop)) l0 rfl
 have Nf:∀b o,b≠s.heap.objs.size->f2.get? b=some o->
   ((f2.update s.heap.objs.size (Kb (·.push G_))).update s.heap.objs.size (Kb (·.pop))).get? b=some o:=
  λb o A0 e=>(Xa _ _ (I2 A0)).trans ((Xa _ _ (I2 A0)).trans e)
 refine B0 ⟨plainId_quiet F.plain_extend_loop _,codeAny_extend_loopS W AS _ l2 _ A6.size 0 _ _ _ (by lia) (JJ _)
  (W.frame 0 ({ s with heap:=f2 }:AP) _ s.toks ⟨J1,Oi⟩ (CY _) λb A0 o e=>Nf b o (λh=>l2 (h▸A0)) e) vj (ItemsOf.nil _) λs' Z1 DM ut ky kU=>?_⟩
 show Ae _ A (load s.heap.objs.size>>=_) _ _ s';refine AJ (wpAny_load ky ?_);refine B0 ?_;show Q Z1.toList s';rw[yU kU];obtain⟨Hu,H_,ZT,mz,ag9⟩:=ut;have Ec:=DT ky;obtain⟨a1,a2,I7,OR,S5⟩:=s';dsimp only at Hu H_ ZT mz Ec;subst H_ ZT mz;refine Dc a1 OR (λb o e=>?_) Ec;have A0:=DT e;exact Hu b o (λz=>by
  rcases List.mem_cons.mp z with e|z
  .rw[e]at A0;exact JC _ A0
  .rw[List.mem_singleton.mp z,Ar]at A0;exact absurd A0 (Nat.not_lt.mpr (V1 _))) (Nf b o (λz=>by rw[z]at A0;exact JC _ A0) (Oh b o e))
end
inductive KM(h:BH)(v:A4):Int×Int×Int->Prop
 |at_ (a:A7) (o:Obj) (m:Nat) (t u:Tok) (x:Int):v=.ref a->h.get? a=some o->o.cls=.type "tuple"->o.data=.seq #[.str (FP "at") t,.int x u] m->KM h v (0,x,0)
 |VA (a:A7) (o:Obj) (m:Nat) (t u:Tok) (x:Int):v=.ref a->h.get? a=some o->o.cls=.type "tuple"->o.data=.seq #[.str (FP "drop") t,.int x u] m->KM h v (1,x,0)
 |X3 (a:A7) (o:Obj) (m:Nat) (t u FV:Tok) (x y:Int):v=.ref a->h.get? a=some o->o.cls=.type "tuple"->o.data=.seq #[.str (FP "out") t,.int x u,.int y FV] m->KM h v (2,x,y)
 |Lq (a:A7) (o:Obj) (m:Nat) (t:Tok):v=.ref a->h.get? a=some o->o.cls=.type "tuple"->o.data=.seq #[.str (FP "ring") t] m->KM h v (3,0,0)
theorem KM.data{h:BH}{v:A4}{k:Int×Int×Int}(x:KM h v k):∃a o m its,v=.ref a/\h.get? a=some o/\o.data=.seq its m/\
  ((∃t u,k=(0,k.2.1,0)/\its= #[.str (FP "at") t,.int k.2.1 u])\/(∃t u,k=(1,k.2.1,0)/\its= #[.str (FP "drop") t,.int k.2.1 u])\/(∃t u FV,k=(2,k.2.1,k.2.2)/\its= #[.str (FP "out") t,.int k.2.1 u,.int k.2.2 FV])\/∃t,k=(3,0,0)/\its= #[.str (FP "ring") t]):=by
 cases x with
 |at_ a o n t u x A9 AG B3 CB=>exact⟨a,o,n,_,A9,AG,CB,.inl ⟨t,u,rfl,rfl⟩⟩
 |VA a o n t u x A9 AG B3 CB=>exact⟨a,o,n,_,A9,AG,CB,.inr (.inl ⟨t,u,rfl,rfl⟩)⟩
 |X3 a o n t u FV x y A9 AG B3 CB=>exact⟨a,o,n,_,A9,AG,CB,.inr (.inr (.inl ⟨t,u,FV,rfl,rfl⟩))⟩
 |Lq a o n t A9 AG B3 CB=>exact⟨a,o,n,_,A9,AG,CB,.inr (.inr (.inr ⟨t,rfl,rfl⟩))⟩
def KM.inj{h:BH}{v:A4}{k k':Int×Int×Int}(x:KM h v k)(y:KM h v k'):k=k':=by obtain⟨a,o,m,its,rfl,AM,hd,x⟩:=x.data;obtain⟨LL,Ce,Ee,its',e,Ed,Gu,y⟩:=y.data;cases e;rw[AM]at Ed;cases Ed;rw[hd]at Gu;injection Gu with Gu _;subst Gu;rcases x with⟨t,u,e,f⟩|⟨t,u,e,f⟩|⟨t,u,FV,e,f⟩|⟨t,e,f⟩<;>rcases y with⟨D_,Ii,AG,f2⟩|⟨D_,Ii,AG,f2⟩|⟨D_,Ii,aeO,AG,f2⟩|⟨D_,AG,f2⟩<;>(rw[f]at f2;simp at f2)<;>first|(exact absurd f2.1.1 (by decide))|(exact absurd f2.1 (by decide))|(rw[e,AG];try simp[f2])
def KM.first{h:BH}{v:A4}{k:Int×Int×Int}(x:KM h v k)(s:AP):∃u,(∃a o m r,v=DF a/\h.get? a=some o/\o.cls=.type "tuple"/\o.data=.seq (u::r).toArray m)/\Xx s u "str":=by
 cases x with
 |at_ a o n t u x A9 AG B3 CB=>exact⟨_,⟨a,o,n,_,A9,AG,B3,CB⟩,RC _ _ _⟩
 |VA a o n t u x A9 AG B3 CB=>exact⟨_,⟨a,o,n,_,A9,AG,B3,CB⟩,RC _ _ _⟩
 |X3 a o n t u FV x y A9 AG B3 CB=>exact⟨_,⟨a,o,n,_,A9,AG,B3,CB⟩,RC _ _ _⟩
 |Lq a o n t A9 AG B3 CB=>exact⟨_,⟨a,o,n,_,A9,AG,B3,CB⟩,RC _ _ _⟩
def KM.mono{h h':BH}{v:A4}{k:Int×Int×Int}(m:∀b o,h.get? b=some o->h'.get? b=some o)(x:KM h v k):KM h' v k:=by
 cases x with
 |at_ a o n t u x A9 AG B3 CB=>exact .at_ a o n t u x A9 (m _ _ AG) B3 CB
 |VA a o n t u x A9 AG B3 CB=>exact .VA a o n t u x A9 (m _ _ AG) B3 CB
 |X3 a o n t u FV x y A9 AG B3 CB=>exact .X3 a o n t u FV x y A9 (m _ _ AG) B3 CB
 |Lq a o n t A9 AG B3 CB=>exact .Lq a o n t A9 (m _ _ AG) B3 CB
section
variable{prog:Bu}{w:Bh}{A:CG}{E:A4->AP->Prop}{s:AP}{A6:Array Lv}
def adK{d:A7}{BY:Nat}{κ:KeyKind}{kd:Ly}{vs:List A4}{Q:A4->AP->Prop}(BD:A.handled=none)(hd:(d==Hl)=false)(hm:KN s.heap d A6 BY)(ev:A6.toList.map (·.key)=vs)(AS:vs.length<64)(AL:∀(h':BH)(C8:Nat)(YI:CG)(iJ:A4->AP->Prop),YI.units<=A.units+8->(∀b o,s.heap.get? b=some o->h'.get? b=some o)->vs≠[]->(∀R:Ly->AP->Prop,R kd { s with heap:=h',toks:=C8 }->Ae (B2 prog w) YI (keyKind' vs.toArray) R iJ { s with heap:=h',toks:=C8 })/\NH prog w YI { s with heap:=h',toks:=C8 } kd κ (pairsOf vs))(h:∀(u:Gr)(l:A7)(h':BH) C8 e,(Bn u).Perm (pairsOf vs)->H7 κ (Bn u) (pairsOf vs).size->s.heap.objs.size<=l->(∀b o,s.heap.get? b=some o->h'.get? b=some o)->h'.get? l=some (Iq "list" ((Bn u).map (·.2)) e)->Q (.ref l) { s with heap:=h',toks:=C8 }) :
  Ae (B2 prog w) A (call (.builtin "sorted") [.ref d]) Q E s:=by
 refine Calls.call_function_entry kind_sorted plain_sorted entry_sorted (args_sorted1 _) ?_;unfold Lz.«sorted»;have Ar:A6.size<=CF:=by have:=congrArg Sx ev;rw[Fw,Uw]at this;rw[Lw];lia
 refine AJ (m:=checkCount "sorted" 1 1 _) (B0 (AJ (tH (A:=A.in1) BD hd hm Ar λf C8 kp Ar=>?_)));rw[ev];refine AJ (wpAny_newList ?_);have g:(f.push (Iq "list" vs.toArray 0)).get? f.objs.size=some (Iq "list" vs.toArray 0):=FK _ rfl;have keep:∀b o,s.heap.get? b=some o->(f.push (Iq "list" vs.toArray 0)).get? b=some o:=λb o e=>DE _ (kp b o e);have Ar:=R5 Ar;show Ae _ _ _ _ _ { s with heap:=f.push (Iq "list" vs.toArray 0),toks:=C8 };refine AJ (K5 (Im slot_list_sort ⟨_,g,rfl⟩ entry_list_sort (adI (s:={ s with heap:=f.push (Iq "list" vs.toArray 0),toks:=C8 }) (κ:=κ) (kd:=kd) g AS (λh' k ne=>AL h' C8 _ _ (by simp only[Around.in1_units];lia) (λb o e=>k b o (λz=>absurd (z▸DT e) (Nat.not_lt.mpr Ar)) (keep b o e)) ne) λu Ad AN=>⟨_,rfl,?_⟩) (args_list_sort _)));obtain⟨e,ge⟩:=sortedHeap_at (out:=(Bn u).map (·.2)) g;refine B0 ⟨_,rfl,h u _ _ C8 e Ad AN Ar (λb o q=>?_) ge⟩;have oE:=keep b o q;exact(sortedHeap_old (λz:b=f.objs.size=>absurd (z▸DT q) (Nat.not_lt.mpr Ar)) (DT oE)).trans oE
def zL{a LL:A7}{o Ce:Obj}{m Ee:Nat}{x y:Str}{t u:Tok}{r BO:List A4}{Q:Bool->AP->Prop}(AM:s.heap.get? a=some o)(hd:o.data=.seq (.str x t::r).toArray m)(Ed:s.heap.get? LL=some Ce)(Gu:Ce.data=.seq (.str y u::BO).toArray Ee)(ne:x≠y)(h:Q (decide (x.cps.toList<y.cps.toList)) s):Ae (B2 prog w) A (keyLt' (tuples' true) (.ref a) (.ref LL)) Q E s:=by rw[cS];refine AJ (PR AM hd (AJ (PR Ed Gu ?_)));simp only[K4,R1,R9];refine AJ (AJ (AJ (Xf ?_)));rw[if_pos (by simpa using ne)];exact AJ (oneLt_str (B0 (B0 (B0 h))))
def mn{a LL:A7}{o Ce:Obj}{m Ee:Nat}{x:Str}{t u t1 Mq:Tok}{i j:Int}{r BO:List A4}{Q:Bool->AP->Prop}(AM:s.heap.get? a=some o)(hd:o.data=.seq (.str x t::.int i t1::r).toArray m)(Ed:s.heap.get? LL=some Ce)(Gu:Ce.data=.seq (.str x u::.int j Mq::BO).toArray Ee)(h1:i≠j->Q (decide (i<j)) s)(h2:i=j->(r=[]/\BO=[]/\Q false s)\/∃p q D_ Ii,r=[.int p D_]/\BO=[.int q Ii]/\Q (decide (p<q)) s):Ae (B2 prog w) A (keyLt' (tuples' true) (.ref a) (.ref LL)) Q E s:=by
 rw[cS];refine AJ (PR AM hd (AJ (PR Ed Gu ?_)));simp only[K4,R1,R9];refine AJ (AJ (AJ (Xf ?_)));rw[if_neg (by simp)];refine B0 ?_;dsimp only;refine AJ (AJ (gv ?_));by_cases e:i=j
 .rw[if_neg (by simp[e])];refine B0 ?_;dsimp only;rcases h2 e with⟨rfl,rfl,h⟩|⟨p,q,D_,Ii,rfl,rfl,h⟩
  .simp only[gu,Uz,V0];exact B0 (B0 h)
  .simp only[K4,gu,R1,Uz,R9,V0];refine AJ (AJ (gv ?_));by_cases B3:p=q
   .rw[if_neg (by simp[B3])];rw[B3]at h;exact B0 (B0 (B0 (by simpa using h)))
   .rw[if_pos (by simpa using B3)];exact AJ (oQ (pR ⟨_,rfl,B0 (B0 (B0 h))⟩))
 .rw[if_pos (by simpa using e)];exact AJ (oQ (pR ⟨_,rfl,B0 (B0 (B0 (h1 e)))⟩))
def zJ{x y:A4}{k k':Int×Int×Int}{Q:Bool->AP->Prop}(AH:KM s.heap x k)(Bf:KM s.heap y k')(h:Q (ltI (Gj k) (Gj k')) s):Ae (B2 prog w) A (keyLt' (tuples' true) x y) Q E s:=by
 obtain⟨a,o,m,its,rfl,AM,hd,AH⟩:=AH.data;obtain⟨LL,Ce,Ee,its',rfl,Ed,Gu,Bf⟩:=Bf.data
 rcases AH with⟨t,u,e,f⟩|⟨t,u,e,f⟩|⟨t,u,FV,e,f⟩|⟨t,e,f⟩<;>rcases Bf with⟨D_,Ii,AG,f2⟩|⟨D_,Ii,AG,f2⟩|⟨D_,Ii,aeO,AG,f2⟩|⟨D_,AG,f2⟩<;>rw[e,AG]at h<;>rw[f]at hd<;>rw[f2]at Gu<;>first
  |(refine zL AM hd Ed Gu (by decide) (Eq.mp (congrArg (λz=>Q z s) ?_) h);kernel_rfl)
  |(refine mn AM hd Ed Gu (λne=>?_) (λeq=>.inl ⟨rfl,rfl,?_⟩)<;>simp only[Gj,ltI,if_true]at h<;>first|(rw[if_neg ne]at h;exact h)|(rw[if_pos eq]at h;exact h))
  |(refine mn AM hd Ed Gu (λne=>?_) (λeq=>.inr ⟨_,_,_,_,rfl,rfl,?_⟩)<;>simp only[Gj,ltI,if_true]at h<;>first|(rw[if_neg ne]at h;exact h)|(rw[if_pos eq]at h;by_cases bh:k.2.2=k'.2.2<;>first|(rw[if_pos bh]at h;rw[bh];simpa using h)|(rw[if_neg bh]at h;exact h)))
  |(rw[cS]
    refine AJ (PR AM hd (AJ (PR Ed Gu ?_)));simp only[K4,gu,R1,Uz,R9,V0];refine AJ (AJ (AJ (Xf ?_)));rw[if_neg (by simp)];exact B0 (B0 (B0 (by simpa[Gj,ltI]using h))))
open Classical in
noncomputable def ZM(h:BH):KeyKind:={ zu with keyOf:=λv=>if q:∃k,KM h v k then some (Gj (choose q))else none,dflt:=[] }
def cW{h:BH}{v:A4}{k:Int×Int×Int}(x:KM h v k):(ZM h).keyOf v=some (Gj k):=by have q:∃k,KM h v k:=⟨k,x⟩;exact(dif_pos q).trans (congrArg (λz=>some (Gj z)) ((XS q).inj x))
def adJ{d:A7}{BY:Nat}{us:List A4}{ks:List (Int×Int×Int)}{Q:A4->AP->Prop}(BD:A.handled=none)(hd:(d==Hl)=false)(hm:KN s.heap d A6 BY)(Ko:A6.toList.map (·.key)=us)(AS:us.length<64)(AQ:us.length=ks.length)(AL:∀(i:Nat) v k,us[i]?=some v->ks[i]?=some k->KM s.heap v k)(h:∀(vs:List A4)(l:A7)(h':BH) C8 e,vs.length=us.length->(∀(i:Nat) v k,vs[i]?=some v->(LC ks)[i]?=some k->v∈us/\KM s.heap v k)->s.heap.objs.size<=l->(∀b o,s.heap.get? b=some o->h'.get? b=some o)->h'.get? l=some (Iq "list" vs.toArray e)->Q (.ref l) { s with heap:=h',toks:=C8 }) :
  Ae (B2 prog w) A (call (.builtin "sorted") [.ref d]) Q E s:=by
 classical
 have all:∀v∈us,∃k,KM s.heap v k:=λv BR=>by obtain⟨i,AC,rfl⟩:=Sn BR;exact⟨_,AL i _ _ (E8 AC) (E8 (by lia))⟩
 obtain⟨OI,Qc⟩:∃OI:A4->Int×Int×Int,∀v∈us,KM s.heap v (OI v):=⟨λv=>if q:∃k,KM s.heap v k then gx q else default,λv BR=>by have q:=all v BR;simp only[dif_pos q];exact XS q⟩
 have u1:ks=us.map OI:=by
  apply hG;intro i;rw[ER];cases e:us[i]? with
  |none=>rw[List.getElem?_eq_none_iff]at e;simp;lia
  |some v=>have AC:=(List.getElem?_eq_some_iff.mp e).1;have AG:ks[i]?=some ks[i]:=E8 (by lia);rw[AG,(AL i v _ e AG).inj (Qc v (JF e))];rfl
 obtain⟨vs,ev⟩:∃vs,A6.toList.map (·.key)=vs:=⟨_,rfl⟩;have pu:vs.Perm us:=by rw[<-ev,<-Ko]
 have pm:∀p∈(pairsOf vs).toList,p.1=p.2/\p.1∈us:=λp Ad=>by rw[pairsOf_toList]at Ad;have:=mem_zip_self Ad;exact⟨this.1,pu.mem_iff.mp this.2⟩
 refine adK (κ:=ZM s.heap) (kd:=tuples' true) BD hd hm ev (by rw[pu.length_eq];exact AS) (λh' C8 YI iJ Lj kp ne=>⟨λR MW=>?_,⟨λafZ x y afR AH Bf Dc=>?_⟩⟩) λu l h' C8 e Ad AN Qd kp g=>?_
 .have g:∀v∈vs,∃u,(∃a o m r,v=DF a/\h'.get? a=some o/\o.cls=.type "tuple"/\o.data=.seq (u::r).toArray m)/\Xx { s with heap:=h',toks:=C8 } u "str":=λv BR=>by
    exact((Qc v (pu.mem_iff.mp BR)).mono kp).first _
  obtain⟨YT,l5⟩:∃YT:A4->A4,∀v∈vs,(∃a o m r,v=DF a/\h'.get? a=some o/\o.cls=.type "tuple"/\o.data=.seq (YT v::r).toArray m)/\Xx { s with heap:=h',toks:=C8 } (YT v) "str":=⟨λv=>if q:v∈vs then gx (g v q)else .none,λv BR=>by simp only[dif_pos BR];exact XS (g v BR)⟩
  exact yV (s:={ s with heap:=h',toks:=C8 }) (g:=YT) (T:="str") ne (λv BR=>(l5 v BR).1) (λv BR=>(l5 v BR).2) MW
 .obtain⟨_,Em⟩:=pm x AH;obtain⟨_,Il⟩:=pm y Bf;rw[cW (Qc _ Em),cW (Qc _ Il)]at Dc;exact zJ (s:={ s with heap:=h',toks:=C8 }) ((Qc _ Em).mono kp) ((Qc _ Il).mono kp) Dc
 .obtain⟨SE,MS⟩:∃SE:List A4,SE=(Bn u).toList.map (·.2):=⟨_,rfl⟩;have U0:(Bn u).map (·.2)=SE.toArray:=by rw[MS];apply Array.ext';simp
  have ml:(Bn u).toList.Perm (pairsOf vs).toList:=Array.perm_iff_toList_perm.mp Ad;have ue:∀p∈(Bn u).toList,p.1=p.2/\p.1∈us:=λp Ad=>pm p (ml.mem_iff.mp Ad);have Nh:SE.Perm us:=by
   rw[MS];have:=ml.map (·.2);rw[pairsOf_toList]at this;have e:∀l:List A4,(l.zip l).map (·.2)=l:=λl=>by induction l with
    |nil=>rfl
    |cons a l C6=>simp[C6]
   rw[e]at this;exact this.trans pu
  have adO:(SE.map OI).Pairwise λa b=>Kz a b=true:=by
   rw[List.pairwise_iff_getElem];intro i j AC By WV;have ab_:i<(Bn u).size:=by rw[MS]at AC;simpa using AC
   have pA:j<(Bn u).size:=by rw[MS]at By;simpa using By
   have q:=AN i j (R5 WV) (by rw[<-Ad.size_eq];exact pA);have kk:∀n(AS:n<(Bn u).size),KK (ZM s.heap) (Bn u) n=Gj (OI (Bn u)[n].2):=λn AS=>by have m:=ue (Bn u)[n] (by simp);unfold KK;rw[Ug AS];show((ZM s.heap).keyOf (Bn u)[n].1).getD _=_;rw[cW (Qc _ m.2),m.1];rfl
   rw[kk i ab_,kk j pA]at q;have q:ltI (Gj (OI (Bn u)[j].2)) (Gj (OI (Bn u)[i].2))=false:=q;unfold Kz;simp only[MS,List.getElem_map,Array.getElem_toList];rw[q];rfl
  have A6:SE.map OI=LC ks:=adP (by rw[u1];exact Nh.map OI) adO;rw[U0]at g;refine h SE l h' C8 e Nh.length_eq (λi v k A9 AG=>?_) Qd kp g;have mv:v∈us:=Nh.mem_iff.mp (JF A9);rw[<-A6,ER,A9]at AG;simp at AG;exact⟨mv,by rw[<-AG];exact Qc v mv⟩
end
end LT
namespace C2
open PySem PySem.Spec PyProof.Rows
noncomputable def EV(k:Int×Int×Int):Bd:=if k.1=0 then[.inl (.inr (FP "at")),.inl (.inl k.2.1)]else if k.1=1 then[.inl (.inr (FP "drop")),.inl (.inl k.2.1)]else if k.1=2 then[.inl (.inr (FP "out")),.inl (.inl k.2.1),.inl (.inl k.2.2)]else[.inl (.inr (FP "ring"))]
def OM(k:Int×Int×Int):Prop:=k=(0,k.2.1,0)\/k=(1,k.2.1,0)\/k=(2,k.2.1,k.2.2)\/k=(3,0,0)
def x5{i:Int}{v:A4}(h:OG (.inl i) v=true):∃t,v=.int i t:=by
 rcases Kx h with⟨j,t,e,rfl⟩|⟨x,t,e,rfl⟩<;>cases e
 exact⟨t,rfl⟩
def x6{x:Str}{v:A4}(h:OG (.inr x) v=true):∃t,v=.str x t:=by
 rcases Kx h with⟨j,t,e,rfl⟩|⟨y,t,e,rfl⟩<;>cases e
 exact⟨t,rfl⟩
def zB{P:Bu}{w:Bh}{h:BH}{x:Str}{ks:Bd}{l:List A4}(n:GR P w h (.inl (.inr x)::ks) l):∃t r,l=.str x t::r/\GR P w h ks r:=by
 cases n with
 |cons a b=>obtain⟨t,rfl⟩:=x6 a;exact⟨t,_,rfl,b⟩
def ZG{P:Bu}{w:Bh}{h:BH}{x:Int}{ks:Bd}{l:List A4}(n:GR P w h (.inl (.inl x)::ks) l):∃t r,l=.int x t::r/\GR P w h ks r:=by
 cases n with
 |cons a b=>obtain⟨t,rfl⟩:=x5 a;exact⟨t,_,rfl,b⟩
def ZH{P:Bu}{w:Bh}{h:BH}{l:List A4}(n:GR P w h [] l):l=[]:=by cases n;rfl
def nI{P:Bu}{w:Bh}{K:AY}{H:AA}{h:BH}{b:A7}{k:Int×Int×Int}(ok:Eo P w K H h)(JP:K.In h)(g:OM k)(e:Iu K H (EV k) b):LT.KM h (.ref b) k:=by
 obtain⟨o,its,n,AM,AO,hd,eR⟩:=(show J5 P w h (EV k) b from cU ok JP e);generalize el:its.toList=l at eR;have Aw:its=l.toArray:=by rw[<-el]
 subst Aw;rcases g with g|g|g|g<;>rw[g]at eR |-<;>obtain⟨t,r,rfl,D3⟩:=zB eR
 .obtain⟨u,B4,rfl,DI⟩:=ZG D3;rw[ZH DI]at hd;exact .at_ b o n t u _ rfl AM AO hd
 .obtain⟨u,B4,rfl,DI⟩:=ZG D3;rw[ZH DI]at hd;exact .VA b o n t u _ rfl AM AO hd
 .obtain⟨u,B4,rfl,DI⟩:=ZG D3;obtain⟨FV,DV,rfl,L4⟩:=ZG DI;rw[ZH L4]at hd;exact .X3 b o n t u FV _ _ rfl AM AO hd
 .rw[ZH D3]at hd;exact .Lq b o n t rfl AM AO hd
section
variable{X:Af}
noncomputable def aah(K:AY):List V->AA->CT->Prop:=λxs H Q=>∃p Ab ks,xs=[.ref p]/\Eu H p (.B7 Ab)/\Ab.length<64/\Ab.map (·.1)=ks.map EV/\(∀k∈ks,OM k)/\
 ∀l zs,H l=none->zs.length=ks.length->(∀(i:Nat) z k,zs[i]?=some z->(LT.LC ks)[i]?=some k->∃b,z=.ref b/\Iu K H (EV k) b)->Q (.ref l) (upd H l (.lst zs))
def t4(BD:X.A.handled=none):I3 X (.builtin "sorted") (aah X.K):=by
 intro pins s σ H xs us Q I r h;obtain⟨p,Ab,ks,rfl,AX,Yq,AL,Ah,q⟩:=h;obtain⟨u,rfl,BQ⟩:=vals1 r;cases BQ;obtain⟨Ar,Bf,xs,kt,o,A6,BY,h1,h2,h3,h4,h5,h6,_⟩:=VB I.Ba I.EM AX;have ZS:Ab.length=xs.length:=Paired.length kt;have lk:Ab.length=ks.length:=by simpa using congrArg Sx AL
 have DY:A6.toList.map (·.key)=(xs.map (·.2.1)).map DF:=by rw[h4,IK,IK];rfl
 have all:∀(i:Nat) v k,((xs.map (·.2.1)).map DF)[i]?=some v->ks[i]?=some k->∃b,v=.ref b/\Iu X.K H (EV k) b:=λi v k A9 AG=>by
  rw[IK,ER]at A9;obtain⟨x,ex,rfl⟩:=Option.map_eq_some_iff.mp A9;have AC:=(List.getElem?_eq_some_iff.mp ex).1;have VG:Ab[i]?=some Ab[i]:=E8 (by lia);have pp:=e1 kt i _ _ VG ex;have:(Ab.map (·.1))[i]?=(ks.map EV)[i]?:=by rw[AL]
  rw[ER,ER,VG,AG]at this;have this:Ab[i].1=EV k:=by simpa using this
  exact⟨x.2.1,rfl,by rw[<-this];exact pp.2.1⟩
 have lv:((xs.map (·.2.1)).map DF).length=ks.length:=by simp;lia
 refine LT.adJ (ks:=ks) BD Bf ⟨o,h1,h2,h3⟩ DY (by lia) lv (λi v k A9 AG=>?_) λvs l h' C8 e G6 g Ad kp gl=>?_
 .obtain⟨b,rfl,JO⟩:=all i v k A9 AG;exact nI I.Ba I.EM (Ah k (JF AG)) JO
 .obtain⟨zs,GY,G9,Jb⟩:=qM (R:=λz k=>∃b,z=V.ref b/\Iu X.K H (EV k) b) (vs:=vs) (ks:=LT.LC ks) (by rw[G6,(LT.UT ks).length_eq];exact lv) λi v k A9 AG=>by
    obtain⟨g1,g2⟩:=g i v k A9 AG;obtain⟨j,By,KB⟩:=Sn g1;obtain⟨b,Bi,JO⟩:=all j v (ks[j]'(by lia)) (by rw[E8 By,KB]) (E8 (by lia));subst Bi;have:=(nI I.Ba I.EM (Ah _ (N2 _)) JO).inj g2;rw[this]at JO;exact⟨.ref b,rfl,b,rfl,JO⟩
  refine⟨.ref l,_,I.laid (a:=l) (t':=C8) kp Ad (show Fl X.prog X.w X.K _ _ _ (.lst zs)from⟨by rw[G9,G6,Lw];lia,vs,e,GY,gl⟩),rfl,q l zs (I.Ba.fresh Ad) (by lia) Jb⟩
end
end C2
namespace Cm
open PySem PySem.Spec C2 PyProof.Rows
noncomputable def Z9:Bd->Option (Int×Int×Int)
 |[.inl (.inr x),.inl (.inl h)]=>if x=FP "at" then some (0,h,0)else if x=FP "drop" then some (1,h,0)else none
 |[.inl (.inr x),.inl (.inl h),.inl (.inl d)]=>if x=FP "out" then some (2,h,d)else none
 |[.inl (.inr x)]=>if x=FP "ring" then some (3,0,0)else none
 |_=>none
def SS:List Bd->Option (List (Int×Int×Int))
 |[]=>some []
 |d::ds=>match Z9 d,SS ds with
  |some k,some ks=>some (k::ks)
  |_,_=>none
def DN(k:Int×Int×Int):D:=if k.1=3 then .EF [.str (FP "ring")]else .tup ((EV k).map TS)
def yn{n:Bd}{k:Int×Int×Int}(h:Z9 n=some k):n=EV k/\OM k:=by
 unfold Z9 at h
 split at h
 .split at h
  .rename_i e;cases h;rw[e];exact⟨rfl,.inl rfl⟩
  .split at h
   .rename_i e;cases h;rw[e];exact⟨rfl,.inr (.inl rfl)⟩
   .cases h
 .split at h
  .rename_i e;cases h;rw[e];exact⟨rfl,.inr (.inr (.inl rfl))⟩
  .cases h
 .split at h
  .rename_i e;cases h;rw[e];exact⟨rfl,.inr (.inr (.inr rfl))⟩
  .cases h
 .cases h
theorem n7:∀{ns:List Bd}{ks:List (Int×Int×Int)},SS ns=some ks->ns=ks.map EV/\∀k∈ks,OM k
 |[],ks,h=>by simp only[SS]at h;cases h;exact⟨rfl,λk AL=>nomatch AL⟩
 |d::ds,ks,h=>by
  simp only[SS]at h
  split at h
  .rename_i k ks' A9 AG;cases h;obtain⟨rfl,g1⟩:=yn A9;obtain⟨rfl,g2⟩:=n7 AG;refine⟨rfl,λk AL=>?_⟩;rcases List.mem_cons.mp AL with rfl|AL
   .exact g1
   .exact g2 k AL
  .cases h
def aW:List D->R (List D)
 |[.B7 ns _]=>match SS ns with
  |some ks=>if ns.length<64 then .ok ((LT.LC ks).map DN)else .bad
  |none=>.bad
 |_=>.bad
def Vd(m:B6):B6:=λρ=>(m ρ).bind aW
def tN{K:AY}{G H:AA}{b:A7}{k:Int×Int×Int}(g:OM k)(e:Iu K H (EV k) b):At K (I8 G H) (DN k) (.ref b):=by
 have tt:∀b ys,H b=some (.tup ys)->I8 G H b=some (.tup ys):=λ_ _ e=>jS e;by_cases h3:k.1=3
 .have DG:EV k=[.inl (.inr (FP "ring"))]:=by unfold EV;rw[h3];rfl
  rw[DG]at e;unfold DN;rw[if_pos h3];simp only[At];rcases e with⟨vs,ev,Nh⟩|⟨x,o,n,t,A9,AL,AO,hd⟩
  .cases Nh with
   |cons a r=>cases r;have a:_=D9 _:=a;subst a;exact⟨b,_,rfl,CK.of (tt _ _ ev),.cons (by simp only[At];rfl) .nil⟩
  .obtain rfl:x=FP "ring":=by simpa using A9.symm
   exact⟨b,[.str (FP "ring")],rfl,.inr ⟨o,_,n,AL,AO,hd,by show 1<=CF;decide,.cons ⟨t,rfl⟩ .nil⟩,.cons (by simp only[At]) .nil⟩
 .unfold DN;rw[if_neg h3];have C8:Jt H (EV k) b:=e.elim id λ⟨x,_,_,_,A9,_⟩=>by
   rcases g with g|g|g|g
   .rw[g]at A9;cases A9
   .rw[g]at A9;cases A9
   .rw[g]at A9;cases A9
   .exact absurd (by rw[g]) h3
  obtain⟨vs,ev,Nh⟩:=C8;simp only[At];exact⟨b,vs,rfl,tt _ _ ev,ai tt Nh⟩
section
variable{X:Af}{F:BA}{e:AT}{pos p:Pos}{ma:B6}
def afO(BD:X.A.handled=none)(hm:X.mg "sorted"=none)(AB:GT X F [e] ma)(Ao:F.K=X.K:=by rfl)(Ah:EL X "sorted":=by rfl)(he:BF [e] X.env=(false,BK e X.env)::BF [] X.env:=by rfl)(Dt:(Cy pos (BF [] X.env)).any (·.1)=false:=by rfl) :
  LK X F (.Call (.Name "sorted" p) [e] [] pos) (Vd ma):=by
 refine⟨Ay.imp (dv (t4 BD) Ah hm (by kernel_rfl) AB.1 (by decide) (by decide) he Dt) ?_⟩;rintro σ H Q ⟨G,ρ,r,h⟩;unfold Vd at h;refine⟨G,ρ,r,?_⟩;refine rb h λds Aw h vs H1 Al AK s1 a=>?_;unfold aW at h
 split at h
 .split at h
  .rename_i ks DY
   split at h
   .rename_i AN;obtain⟨v,rfl,B8⟩:=a.one;simp only[At]at B8;obtain⟨q,xs,rfl,AX,AH,F2⟩:=B8;obtain⟨A9,kq⟩:=n7 DY;refine⟨q,xs,ks,rfl,.inl (AK.kp.sub _ _ AX),by have:=congrArg Sx AH;simp at this;lia,by rw[AH,A9],kq,λl zs AQ zO Ar=>?_⟩;have B4:=AK.I8;refine h l _ _ _ (B4.lay0 AQ) ((s1.trans (Bw.I8 AK.kp.sub)).trans (Bw.lay0 AQ)) (s1.h.gone AQ) E1 (B4.kp.sub.gone AQ) (jY (by rw[Fw,zO,(LT.UT ks).length_eq]) λi x d A9 AG=>?_);rw[ER]at AG;obtain⟨k,Tv,rfl⟩:=Option.map_eq_some_iff.mp AG;obtain⟨b,rfl,JO⟩:=Ar i x k A9 Tv;rw[<-Ao]at JO;exact tN (kq k ((LT.UT ks).mem_iff.mp (JF Tv))) JO
   .exact h.elim
  .exact h.elim
 .exact h.elim
end
end Cm
namespace Cm
open PySem PySem.Spec C2
@[simp] theorem BV{α β:Type}(a:α)(k:α->R β):(R.ok a).bind k=k a:=(rfl)
def Sj(b:Aq):FQ->R FQ
 |.BC ρ=>b ρ
 |f=>.ok f
@[simp] theorem EC(a b:Aq)(ρ:AF):AU a b ρ=(a ρ).bind (Sj b):=by unfold AU;congr 1
@[simp] theorem FH(b:Aq)(ρ:AF):Sj b (.BC ρ)=b ρ:=(rfl)
@[simp] theorem agr(b:Aq)(d:D):Sj b (.E6 d)=.ok (.E6 d):=(rfl)
@[simp] theorem agq(b:Aq)(d:List D):Sj b (.J_ d)=.ok (.J_ d):=(rfl)
def b7:Option Be->R D
 |some (.A1 d)=>.ok d
 |_=>.bad
@[simp] theorem v_var(i:Nat)(ρ:AF):J i ρ=b7 ρ[i]?:=by unfold J b7;rfl
@[simp] theorem PG(d:D):b7 (some (.A1 d))=.ok d:=(rfl)
@[simp] theorem qC(d:D)(ρ:AF):A5 d ρ=.ok d:=(rfl)
@[simp] theorem aC(f:D->D->R D)(a b:Ag)(ρ:AF):A3 f a b ρ=(a ρ).bind λx=>(b ρ).bind λy=>f x y:=(rfl)
@[simp] theorem gT(f:D->R D)(a:Ag)(ρ:AF):Cr f a ρ=(a ρ).bind f:=(rfl)
@[simp] theorem Nr(ρ:AF):AD ρ=.ok []:=(rfl)
@[simp] theorem Le(a:Ag)(r:B6)(ρ:AF):A2 a r ρ=(a ρ).bind λx=>(r ρ).bind λxs=>.ok (x::xs):=(rfl)
def gH(xs:List D):R D:=if xs.length<=1000000 then .ok (.tup xs)else .bad
@[simp] theorem adv(m:B6)(ρ:AF):DH m ρ=(m ρ).bind gH:=(rfl)
@[simp] theorem agt{xs:List D}(h:xs.length<=1000000):gH xs=.ok (.tup xs):=if_pos h
@[simp] theorem Qq(m:B6)(ρ:AF):BS m ρ=(m ρ).bind λxs=>.ok (.lst xs):=(rfl)
@[simp] theorem qH(m:B6)(ρ:AF):C1 m ρ=(m ρ).bind lim:=(rfl)
@[simp] theorem aeX(m:Ag)(ρ:AF):BE m ρ=(m ρ).bind NO:=(rfl)
@[simp] theorem sG(b:Bool):NO (.Aa b)=.ok b:=(rfl)
@[simp] theorem v_and(a b:CR)(ρ:AF):Gv a b ρ=(a ρ).bind λc=>if c=true then b ρ else .ok false:=(rfl)
@[simp] theorem v_or(a b:CR)(ρ:AF):JS a b ρ=(a ρ).bind λc=>if c=true then .ok true else b ρ:=(rfl)
@[simp] theorem v_not(a:CR)(ρ:AF):GG a ρ=(a ρ).bind λc=>.ok (!c):=(rfl)
@[simp] theorem agv(a b:Ag)(ρ:AF):P1 a b ρ=(a ρ).bind λx=>(NO x).bind λc=>if c=true then b ρ else .ok (.Aa false):=(rfl)
@[simp] theorem qG(c:CR)(a b:Aq)(ρ:AF):Cb c a b ρ=(c ρ).bind λk=>if k=true then a ρ else b ρ:=(rfl)
@[simp] theorem aga(ρ:AF):Co ρ=.ok (.BC ρ):=(rfl)
@[simp] theorem qI(a:Ag)(ρ:AF):D0 a ρ=(a ρ).bind λd=>.ok (.E6 d):=(rfl)
@[simp] theorem adp(a:B6)(ρ:AF):GH a ρ=(a ρ).bind λd=>.ok (.J_ d):=(rfl)
@[simp] theorem adu(i:Nat)(d:D)(ρ:AF):BL i d ρ=if i<ρ.length then .ok (ρ.set i (.A1 d))else .bad:=(rfl)
@[simp] theorem adq(i:Nat)(a:Ag)(ρ:AF):BN i a ρ=(a ρ).bind λd=>(BL i d ρ).bind λBJ=>.ok (.BC BJ):=(rfl)
@[simp] theorem qJ(i:Nat)(a:B6)(ρ:AF):EB i a ρ=(a ρ).bind λds=>if i<ρ.length then .ok (.BC (ρ.set i (.C5 ds)))else .bad:=(rfl)
@[simp] theorem ads(i:Nat)(a:Hh)(ρ:AF):NA i a ρ=(a ρ).bind λx=>(BL i x.1 x.2).bind λBJ=>.ok (.BC BJ):=(rfl)
@[simp] theorem qF(a:Hh)(ρ:AF):QC a ρ=(a ρ).bind λx=>.ok (.BC x.2):=(rfl)
@[simp] theorem aD(f:List D->R D)(m:B6)(ρ:AF):Bs f m ρ=(m ρ).bind f:=(rfl)
@[simp] theorem aeZ(n:Nat)(mf:List D->R CI)(m:B6)(ρ:AF):Bg n mf m ρ=(m ρ).bind λds=>if ds.length=n then(mf ds).bind PI else .bad:=(rfl)
@[simp] theorem qD(n:Nat)(mf:List D->R CI)(m:B6)(ρ:AF):FS n mf m ρ=(m ρ).bind λds=>if ds.length=n then(mf ds).bind bB else .bad:=(rfl)
def gP(mi:B6)(set:D->AF->R AF)(body:Aq)(ρ:AF):E0 mi set body ρ=(mi ρ).bind λds=>IX set body ds ρ:=(rfl)
@[simp] theorem age(m:B6)(ρ:AF):Fh m ρ=(m ρ).bind X8:=(rfl)
@[simp] theorem ah4(m:Ag)(ρ:AF):F4 m ρ=(m ρ).bind XG:=(rfl)
@[simp] theorem v_bor(m:Ag)(ρ:AF):MB m ρ=(m (ES ρ)).bind ar:=(rfl)
@[simp] theorem ah0(m:CR)(ρ:AF):IE m ρ=m (ES ρ):=(rfl)
def qE(nl:Nat)(caps:List Nat)(mi:B6)(set:D->AF->R AF)(tst:CR)(elt:Ag)(ρ:AF):Dm nl caps mi set tst elt ρ=(mi ρ).bind λds=>Ie (I9 set tst elt ds (NP nl caps ρ) []):=(rfl)
@[simp] theorem i6(i j:Int):Cj (.int i) (.int j)=.ok (.int (i+j)):=(rfl)
@[simp] theorem fF(i j:Int):Ih (.int i) (.int j)=.ok (.int (i-j)):=(rfl)
@[simp] theorem afb{i j:Int}(h1: -18446744073709551616<i)(h2:i<18446744073709551616):Mf (.int i) (.int j)=.ok (.int (i*j)):=if_pos (Dq ⟨h1,h2⟩)
@[simp] theorem mul_r{i j:Int}(h1: -18446744073709551616<j)(h2:j<18446744073709551616):Mf (.int i) (.int j)=.ok (.int (i*j)):=if_pos (Ch ⟨h1,h2⟩)
@[simp] theorem bW{i j:Int}(h1:0<j)(h2:j<1073741824):Dr (.int i) (.int j)=.ok (.int (i/j)):=if_pos ⟨h1,h2⟩
@[simp] theorem Ww{i j:Int}(h:0<j):CJ (.int i) (.int j)=.ok (.int (i%j)):=if_pos h
def aal:Ng (.int 10) (.int 30)=.ok (.int 1000000000000000000000000000000):=(rfl)
@[simp] theorem zK(i j:Int):T_ (.int i) (.int j)=.ok (.Aa (decide (i<j))):=(rfl)
@[simp] theorem ag0(i j:Int):TW (.int i) (.int j)=.ok (.Aa (decide (i<=j))):=(rfl)
@[simp] theorem agS(i j:Int):Od (.int i) (.int j)=.ok (.Aa (decide (j<i))):=(rfl)
@[simp] theorem agF(i j:Int):Bj true (.int i) (.int j)=.ok (.Aa (i==j)):=(rfl)
@[simp] theorem afc(i j:Int):Bj false (.int i) (.int j)=.ok (.Aa (!(i==j))):=(rfl)
@[simp] theorem ag2(xs:List D):CO [.lst xs]=.ok (.int xs.length):=(rfl)
@[simp] theorem ag4(xs:List D):CO [.tup xs]=.ok (.int xs.length):=(rfl)
@[simp] theorem ag3(xs:List D):CO [.Cc xs]=.ok (.int xs.length):=(rfl)
@[simp] theorem agB(d:D):PI (.v d)=.ok d:=(rfl)
@[simp] theorem afk(ds:List D):bB (.o ds)=.ok ds:=(rfl)
@[simp] theorem afh(d:D):outD (.E6 d)=.ok (.v d):=(rfl)
@[simp] theorem afg(d:List D):outD (.J_ d)=.ok (.o d):=(rfl)
@[simp] theorem adl(N:Nat)(m:Aq)(ds:List D):Dh N m ds=(m (J6 N ds)).bind outD:=(rfl)
def dt:Option Be->R (List D)
 |some (.C5 ds)=>.ok ds
 |_=>.bad
@[simp] theorem agb(i:Nat)(ρ:AF):ownAt i ρ=dt ρ[i]?:=by unfold ownAt dt;rfl
@[simp] theorem afi(ds:List D):dt (some (.C5 ds))=.ok ds:=(rfl)
@[simp] theorem agL(set:D->AF->R AF)(body:Aq)(ρ:AF):IX set body [] ρ=.ok (.BC ρ):=(rfl)
theorem kg{set:D->AF->R AF}{body:Aq}(I:Nat->AF->Prop):∀(ds:List D)(i:Nat)(ρ:AF),(∀(j:Nat) d ρ,ds[j]?=some d->I (i+j) ρ->∃EQ BJ,set d ρ=.ok EQ/\body EQ=.ok (.BC BJ)/\I (i+j+1) BJ)->I i ρ->∃BJ,IX set body ds ρ=.ok (.BC BJ)/\I (i+ds.length) BJ
 |[],i,ρ,_,h=>⟨ρ,rfl,h⟩
 |d::ds,i,ρ,st,h=>by
  obtain⟨EQ,EW,A9,AG,h2⟩:=st 0 d ρ rfl h;obtain⟨BJ,B3,h3⟩:=kg I ds (i+1) EW (λj d ρ e AC=>by obtain⟨a,b,BX,Ev,HB⟩:=st (j+1) d ρ (by simpa using e) (by rw[show i+(j+1)=i+1+j by lia];exact AC);exact⟨a,b,BX,Ev,by rw[show i+1+j+1=i+(j+1)+1 by lia];exact HB⟩) (by simpa using h2)
  refine⟨BJ,?_,by rw[Hk,show i+(ds.length+1)=i+1+ds.length by lia];exact h3⟩;rw[IX,A9,BV,AG,BV];exact B3
def vU{mi:B6}{set:D->AF->R AF}{body:Aq}{ds:List D}{ρ:AF}(I:Nat->AF->Prop)(AC:mi ρ=.ok ds)(st:∀(j:Nat) d ρ,ds[j]?=some d->I j ρ->∃EQ BJ,set d ρ=.ok EQ/\body EQ=.ok (.BC BJ)/\I (j+1) BJ)(h:I 0 ρ):∃BJ,E0 mi set body ρ=.ok (.BC BJ)/\I ds.length BJ:=by obtain⟨BJ,e,h'⟩:=kg I ds 0 ρ (λj d ρ e By=>by rw[Sz]at By |-;exact st j d ρ e By) h;rw[Sz]at h';exact⟨BJ,by rw[gP,AC,BV,e],h'⟩
@[simp] theorem cN(d:D):HU (.A1 d)=.A1 d:=(rfl)
def iC(i:Nat)(ρ:AF)(ds:List D)(d:D):R FQ:=if ds.length<1000000 then .ok (.BC (ρ.set i (.C5 (ds++[d]))))else .bad
@[simp] theorem afV{i:Nat}{ρ:AF}{ds:List D}{d:D}(h:ds.length<1000000):iC i ρ ds d=.ok (.BC (ρ.set i (.C5 (ds++[d])))):=if_pos h
@[simp] theorem agw(i:Nat)(m:Ag)(ρ:AF):GX i m ρ=(ownAt i ρ).bind λds=>(m ρ).bind λd=>iC i ρ ds d:=(rfl)
@[simp] theorem agx(i:Nat)(m:Hh)(ρ:AF):ZU i m ρ=(ownAt i ρ).bind λ_=>(m ρ).bind λx=>(ownAt i x.2).bind λds=>iC i x.2 ds x.1:=(rfl)
def agJ(i:Nat)(ds:List D)(ρ:AF):D->R (D×AF)
 |.lst A6=>if ds.length+A6.length<=1000000 then .ok (.non,ρ.set i (.C5 (ds++A6)))else .bad
 |_=>.bad
noncomputable def b0(i:Nat)(ds:List D)(ρ:AF):D->R (D×AF)
 |.int k=>if-(2^63)<=k/\k<2^63 then match T2 k ds.length with
  |some j=>match ds[j]? with
   |some y=>.ok (y,ρ.set i (.C5 (ds.eraseIdx j)))
   |none=>.bad
  |none=>.bad
  else .bad
 |_=>.bad
@[simp] theorem agc(i:Nat)(m:Ag)(ρ:AF):P4 i m ρ=(ownAt i ρ).bind λds=>(m ρ).bind λd=>b0 i ds ρ d:=by unfold P4;congr 1
def abV{i:Nat}{ds:List D}{ρ:AF}{k:Nat}(h:k<ds.length)(AQ:ds.length<1000000):b0 i ds ρ (.int (k:Int))=.ok (ds[k],ρ.set i (.C5 (ds.eraseIdx k))):=by
 have H9: -(2^63)<=(k:Int):=Int.le_trans (by decide) (Int.natCast_nonneg k);have H4:(k:Int)<2^63:=Int.lt_trans (b:=1000000) (by lia) (by decide);have s:T2 (k:Int) ds.length=some k:=by rw[PySem.seqIndex_of (by lia) (by lia)];simp
 simp only[b0,if_pos (And.intro H9 H4),s,E8 h]
@[simp] theorem ah7(m:B6)(ρ:AF):WB m ρ=(m ρ).bind W3:=(rfl)
@[simp] theorem ah6(m:B6)(ρ:AF):P3 m ρ=(m ρ).bind ZO:=(rfl)
@[simp] theorem ah5(m:Ag)(ρ:AF):QG m ρ=(m ρ).bind gI:=(rfl)
@[simp] theorem qK(set:D->AF->R AF)(m:Ag)(ρ:AF):Md set m ρ=(m ρ).bind λd=>(set d ρ).bind λBJ=>.ok (.BC BJ):=(rfl)
@[simp] theorem agh(m:Ag)(ρ:AF):Hv m ρ=(m (ES ρ)).bind λd=>.ok (.E6 d):=(rfl)
@[simp] theorem agm(ds:List D):XG (.lst ds)=.ok ds:=(rfl)
@[simp] theorem ag6(ds:List D):ZO [.lst ds]=.ok ds:=(rfl)
@[simp] theorem ag5{xs:List D}(h:xs.length<=1000000):lim xs=.ok xs:=if_pos h
@[simp] theorem agQ:ES []=[]:=(rfl)
@[simp] theorem agP(s:Be)(ρ:AF):ES (s::ρ)=NX s::ES ρ:=(rfl)
@[simp] theorem vY(d:D):NX (.A1 d)=.A1 d:=(rfl)
@[simp] theorem vZ:NX .un=.un:=(rfl)
@[simp] theorem agO(ds:List D):NX (.ob (.lst ds))=.A1 (.lst ds):=(rfl)
@[simp] theorem aff(i:Int):ar (.int i)=.ok (.int i):=(rfl)
@[simp] theorem X0{α:Type}(a:α):Ie (R.ok a)=.ok a:=(rfl)
def fg:Option Be->R (List D)
 |some (.ob (.lst ds))=>.ok ds
 |_=>.bad
@[simp] theorem agi(i:Nat)(ρ:AF):JT i ρ=fg ρ[i]?:=by unfold JT fg;rfl
@[simp] theorem agj(ds:List D):fg (some (.C5 ds))=.ok ds:=(rfl)
@[simp] theorem ah1(f g:D->D->R D)(a b c:Ag)(ρ:AF):QA f g a b c ρ=(a ρ).bind λx=>(b ρ).bind λy=>(f x y).bind λz=>(NO z).bind λk=>if k=true then(c ρ).bind λw=>g y w else .ok (.Aa false):=(rfl)
@[simp] theorem aft(N:Nat)(ds:List D):J6 N ds=ds.map .A1++Fx (N-ds.length) .un:=(rfl)
def K2{xs:List D}{k:Nat}{d:D}(h:xs[k]?=some d):AR (.lst xs) (.int (k:Int))=.ok d:=by
 have AL:=(List.getElem?_eq_some_iff.mp h).1;have e:GF xs (k:Int)=some d:=by unfold GF I_;rw[if_pos (by lia),if_pos (by lia)];simpa using h
 simp only[AR,e]
def wq{xs:List D}{k:Nat}{d:D}(h:xs[k]?=some d):AR (.Cc xs) (.int (k:Int))=.ok d:=by
 have AL:=(List.getElem?_eq_some_iff.mp h).1;have e:GF xs (k:Int)=some d:=by unfold GF I_;rw[if_pos (by lia),if_pos (by lia)];simpa using h
 simp only[AR,e]
def wu{xs:List D}{k:Nat}{d:D}(h:xs[k]?=some d):AR (.tup xs) (.int (k:Int))=.ok d:=by
 have AL:=(List.getElem?_eq_some_iff.mp h).1;have e:GF xs (k:Int)=some d:=by unfold GF I_;rw[if_pos (by lia),if_pos (by lia)];simpa using h
 simp only[AR,e]
def JV(x:Int){n:Nat}(h:0<n):∃k:Nat,k<n/\x%(n:Int)=(k:Int):=by have h0:0<=x%(n:Int):=Xe _ (by lia);have h1:x%(n:Int)<(n:Int):=Xq _ (by lia);obtain⟨k,e⟩:=r_ h0;exact⟨k,by lia,e⟩
@[simp] theorem Sf(n:Nat)(h:n<1000000):X8 [.int (n:Int)]=.ok (G7 0 n):=by have: -(2^62)<=(n:Int)/\(n:Int)<2^62:=⟨by lia,by lia⟩;simp only[X8,if_pos this,N0]
def aai{n j:Nat}{d:D}(h:(G7 0 n)[j]?=some d):j<n/\d=.int (j:Int):=by
 unfold G7 at h;rw[ER]at h;cases e:(EY n)[j]? with
 |none=>rw[e]at h;cases h
 |some k=>
  rw[e]at h;have By:j<n:=by have:=(List.getElem?_eq_some_iff.mp e).1;simpa using this
  rw[Ux By]at e;cases e;simp at h;exact⟨By,h.symm⟩
@[simp] theorem aaj(a:Int)(n:Nat):(G7 a n).length=n:=by simp[G7]
@[simp] theorem SD{α β aey:Type}(r:R α)(f:α->R β)(g:β->R aey):(r.bind f).bind g=r.bind λx=>(f x).bind g:=by cases r<;>rfl
def Ends{β:Type}(r:R β)(T:β->Prop):Prop:=∃b,r=.ok b/\T b
@[simp] theorem agD{β:Type}(b:β)(T:β->Prop):Ends (.ok b) T=T b:=propext ⟨λ⟨c,e,h⟩=>by cases e;exact h,λh=>⟨b,rfl,h⟩⟩
theorem Ends.bind{α β:Type}{r:R α}{k:α->R β}{S:α->Prop}{T:β->Prop}(h:Ends r S)(f:∀b,S b->Ends (k b) T):Ends (r.bind k) T:=by obtain⟨b,rfl,A0⟩:=h;exact f b A0
def Ends.mono{β:Type}{r:R β}{S T:β->Prop}(h:Ends r S)(f:∀b,S b->T b):Ends r T:=by obtain⟨b,e,A0⟩:=h;exact⟨b,e,f b A0⟩
def Jn(I:AF->Prop)(f:FQ):Prop:=∃ρ,f=.BC ρ/\I ρ
@[simp] theorem afP(I:AF->Prop)(ρ:AF):Jn I (.BC ρ)=I ρ:=propext ⟨λ⟨r,e,h⟩=>by cases e;exact h,λh=>⟨ρ,rfl,h⟩⟩
def kP{β:Type}{mi:B6}{set:D->AF->R AF}{body:Aq}{ds:List D}{ρ:AF}{k:FQ->R β}{T:β->Prop}(I:Nat->AF->Prop)(AC:mi ρ=.ok ds)(h0:I 0 ρ)(st:∀(j:Nat) d ρ,ds[j]?=some d->I j ρ->Ends ((set d ρ).bind body) (Jn (I (j+1))))(fin:∀BJ,I ds.length BJ->Ends (k (.BC BJ)) T):Ends ((E0 mi set body ρ).bind k) T:=by
 obtain⟨BJ,e,h⟩:=vU (body:=body) (set:=set) (mi:=mi) I AC (λj d ρ hd J1=>by
  obtain⟨b,e,BJ,rfl,h⟩:=st j d ρ hd J1;cases A6:set d ρ with
  |bad=>rw[A6]at e;cases e
  |exc c=>rw[A6]at e;cases e
  |ok EQ=>rw[A6,BV]at e;exact⟨EQ,BJ,rfl,e,h⟩) h0
 rw[e,BV];exact fin BJ h
def pN(i:Nat):FQ->R FQ
 |.BC BJ=>.ok (.BC (Kq i BJ))
 |f=>.ok f
@[simp] theorem adt(i:Nat)(a:B6)(ρ:AF):Tf i a ρ=(EB i a ρ).bind (pN i):=by unfold Tf;congr 1
@[simp] theorem adU(i:Nat)(ρ:AF):pN i (.BC ρ)=.ok (.BC (Kq i ρ)):=(rfl)
def cM(ds:List D):D->R (List D)
 |.lst A6=>if ds.length+A6.length<=1000000 then .ok (ds++A6)else .bad
 |_=>.bad
@[simp] theorem afX{ds A6:List D}(h:ds.length+A6.length<=1000000):cM ds (.lst A6)=.ok (ds++A6):=if_pos h
def jA:D->D->R (List D)
 |.lst ds,.lst A6=>if ds.length+A6.length<=1000000 then .ok (ds++A6)else .bad
 |_,_=>.bad
@[simp] theorem th{ds A6:List D}(h:ds.length+A6.length<=1000000):jA (.lst ds) (.lst A6)=.ok (ds++A6):=if_pos h
@[simp] theorem ae_(m n:Ag)(ρ:AF):IF m n ρ=(m ρ).bind λc=>(n ρ).bind λd=>jA c d:=by unfold IF;congr 1
@[simp] theorem aea(i:Nat)(m:Ag)(ρ:AF):Q9 i m ρ=(ownAt i ρ).bind λds=>(m ρ).bind λd=>cM ds d:=by unfold Q9;congr 1
@[simp] theorem gS(f:D->Option Int->Option Int->R D)(m:Ag)(lo AC:MI)(ρ:AF):EN f m lo AC ρ=(m ρ).bind λd=>(lo ρ).bind λl=>(AC ρ).bind λh=>f d l h:=(rfl)
def d9(i:Nat)(ρ:AF):Option Be->AF
 |some (.ob o)=>ρ.set i (.A1 (PA o))
 |_=>ρ
@[simp] theorem agN(i:Nat)(ρ:AF):Kq i ρ=d9 i ρ ρ[i]?:=by unfold Kq d9;rfl
@[simp] theorem agM(i:Nat)(ρ:AF)(ds:List D):d9 i ρ (some (.C5 ds))=ρ.set i (.A1 (.lst ds)):=(rfl)
@[simp] theorem gQ(ρ:AF):FT ρ=.ok none:=(rfl)
@[simp] theorem gR(m:Ag)(ρ:AF):Er m ρ=(m ρ).bind intD:=(rfl)
@[simp] theorem lx(i:Int):intD (.int i)=.ok (some i):=(rfl)
def br{β α:Type}{mi:B6}{elt:Ag}{tst:CR}{caps:List Nat}{ρ:AF}{k:List D->R β}{T:β->Prop}(g:α->D)(xs:List α)(p:α->Bool)(f:α->D)(AC:mi ρ=.ok (xs.map g))(AQ:xs.length<=1000)(Av:∀a∈xs,tst (.A1 (g a)::caps.map λj=>HU (ρ.getD j .un))=.ok (p a))(h:∀a∈xs,p a=true->elt (.A1 (g a)::caps.map λj=>HU (ρ.getD j .un))=.ok (f a))(fin:Ends (k ((xs.filter p).map f)) T):Ends ((Dm 1 caps mi (BL 0) tst elt ρ).bind k) T:=by
 have go:∀(xs:List α)(ws:List D)(s0:Be),ws.length+xs.length<=1000000->(∀a∈xs,tst (.A1 (g a)::caps.map λj=>HU (ρ.getD j .un))=.ok (p a))->(∀a∈xs,p a=true->elt (.A1 (g a)::caps.map λj=>HU (ρ.getD j .un))=.ok (f a))->I9 (BL 0) tst elt (xs.map g) (s0::caps.map λj=>HU (ρ.getD j .un)) ws=.ok (ws++(xs.filter p).map f):=by
  intro xs;induction xs with
  |nil=>intro ws s0 _ _ _;simp[I9]
  |cons a xs C6=>
   intro ws s0 AQ Av h;simp only[Hk]at AQ;have DG:BL 0 (g a) (s0::caps.map λj=>HU (ρ.getD j .un))=.ok (.A1 (g a)::caps.map λj=>HU (ρ.getD j .un)):=by simp
   rw[E3,I9,DG,BV,Av a (by simp),BV];cases e:p a with
   |true=>simp only[if_true,h a (by simp) e,BV,if_pos (show ws.length<1000000 by lia)];rw[C6 (ws++[f a]) _ (by simp;lia) (λx AH=>Av x (by simp[AH])) λx AH=>h x (by simp[AH])];simp[e]
   |false=>simp only[Hj,if_false];rw[C6 ws _ (by lia) (λx AH=>Av x (by simp[AH])) λx AH=>h x (by simp[AH])];simp[e]
 rw[qE,AC,BV];have e:=go xs [] .un (by simp;lia) Av h;have:Ie (I9 (BL 0) tst elt (xs.map g) (NP 1 caps ρ) [])=.ok ((xs.filter p).map f):=by show Ie (I9 (BL 0) tst elt (xs.map g) (.un::caps.map λj=>HU (ρ.getD j .un)) [])=_;rw[e];rfl
 rw[this,BV];exact fin
def Tw{β α:Type}{mi:B6}{elt:Ag}{caps:List Nat}{ρ:AF}{k:List D->R β}{T:β->Prop}(g:α->D)(xs:List α)(f:α->D)(AC:mi ρ=.ok (xs.map g))(AQ:xs.length<=1000)(h:∀a∈xs,elt (.A1 (g a)::caps.map λj=>HU (ρ.getD j .un))=.ok (f a))(fin:Ends (k (xs.map f)) T):Ends ((Dm 1 caps mi (BL 0) F5 elt ρ).bind k) T:=
 br g xs (λ_=>true) f AC AQ (λ_ _=>rfl) (λa AB _=>h a AB) (by rw[List.filter_eq_self.mpr λ_ _=>rfl];exact fin)
def dW(n:Nat):G7 0 n=(EY n).map λ(i:Nat)=>.int (i:Int):=by simp[G7]
def Ra{β:Type}{mi:B6}{elt:Ag}{caps:List Nat}{ρ:AF}{k:List D->R β}{T:β->Prop}(n:Nat)(f:Nat->D)(AC:mi ρ=.ok (G7 0 n))(AQ:n<=1000)(h:∀a,a<n->elt (.A1 (.int (a:Int))::caps.map λj=>HU (ρ.getD j .un))=.ok (f a))(fin:Ends (k ((EY n).map f)) T):Ends ((Dm 1 caps mi (BL 0) F5 elt ρ).bind k) T:=
 Tw (λ(i:Nat)=>.int (i:Int)) (EY n) f (by rw[AC,dW]) (by simpa using AQ) (λa AB=>h a (by simpa using AB)) fin
def Tx{β α:Type}{mi:B6}{set:D->AF->R AF}{body:Aq}{ρ:AF}{k:FQ->R β}{T:β->Prop}(g:α->D)(xs:List α)(I:Nat->AF->Prop)(AC:mi ρ=.ok (xs.map g))(h0:I 0 ρ)(st:∀(j:Nat) a ρ,xs[j]?=some a->I j ρ->Ends ((set (g a) ρ).bind body) (Jn (I (j+1))))(fin:∀BJ,I xs.length BJ->Ends (k (.BC BJ)) T):Ends ((E0 mi set body ρ).bind k) T:=
 kP I AC h0 (λj d ρ hd J1=>by
  rw[ER]at hd;cases e:xs[j]? with
  |none=>rw[e]at hd;cases hd
  |some a=>rw[e]at hd;cases hd;exact st j a ρ e J1) (by rw[Fw];exact fin)
def OY{β:Type}{mi:B6}{set:D->AF->R AF}{body:Aq}{ρ:AF}{k:FQ->R β}{T:β->Prop}(n:Nat)(I:Nat->AF->Prop)(AC:mi ρ=.ok (G7 0 n))(h0:I 0 ρ)(st:∀(j:Nat) ρ,j<n->I j ρ->Ends ((set (.int (j:Int)) ρ).bind body) (Jn (I (j+1))))(fin:∀BJ,I n BJ->Ends (k (.BC BJ)) T):Ends ((E0 mi set body ρ).bind k) T:=
 kP I AC h0 (λj d ρ hd J1=>by obtain⟨By,rfl⟩:=aai hd;exact st j ρ By J1) (by rw[aaj];exact fin)
theorem n1{α β:Type}(f:α->β):∀(l:List α)(i:Nat),(l.map f).eraseIdx i=(l.eraseIdx i).map f
 |[],_=>rfl
 |x::l,0=>rfl
 |x::l,i+1=>by simp only[ra,E3,n1 f l i]
def e0{α:Type}(g:α->D){l:List α}{i:Nat}{k:Nat}(h:k<l.length)(AQ:l.length<1000000)(ρ:AF):b0 i (l.map g) ρ (.int (k:Int))=.ok (g l[k],ρ.set i (.C5 ((l.eraseIdx k).map g))):=by rw[abV (by simpa using h) (by simpa using AQ),n1];simp
@[simp] theorem ag8(n:Nat)(h:n<=1000000):W3 [.int (n:Int)]=.ok (G7 0 n):=by have: -(2^62)<=(n:Int)/\(n:Int)<=1000000:=⟨by lia,by lia⟩;simp only[W3,if_pos this,N0]
@[simp] theorem pB(xs:List D)(l h:Option Int):FG (.lst xs) l h=.ok (.lst (G2 xs l h)):=(rfl)
@[simp] theorem agp(xs:List D)(l h:Option Int):FG (.Cc xs) l h=.ok (.lst (G2 xs l h)):=(rfl)
def bc{α:Type}(xs:List α)(k:Nat):G2 xs none (some (k:Int))=xs.take k:=by
 unfold G2;rw[Dj.pe,Dj.pc,List.drop_zero,hQ];by_cases h:k<=xs.length
 .rw[Nat.min_eq_left h]
 .rw[Nat.min_eq_right (by lia),Xm,rh (by lia)]
def k5{α:Type}(xs:List α)(k:Nat):G2 xs (some (k:Int)) none=xs.drop k:=by
 unfold G2;rw[Dj.pe,Dj.pc];by_cases h:k<=xs.length
 .rw[Nat.min_eq_left h,<-Xi,Xm]
 .rw[Nat.min_eq_right (by lia),List.drop_length,List.drop_of_length_le (by lia)];simp
def k7{α β:Type}(g:α->β)(xs:List α)(l h:Option Int):G2 (xs.map g) l h=(G2 xs l h).map g:=by unfold G2;simp[T0,hJ]
@[simp] theorem ac3(As:List (D->AF->R AF))(ds:List D)(ρ:AF):Fj As (.tup ds) ρ=Hx As ds ρ:=(rfl)
@[simp] theorem ac1(ρ:AF):Hx [] [] ρ=.ok ρ:=(rfl)
@[simp] theorem ac0(f:D->AF->R AF)(As:List (D->AF->R AF))(d:D)(ds:List D)(ρ:AF):Hx (f::As) (d::ds) ρ=(f d ρ).bind λBJ=>Hx As ds BJ:=(rfl)
@[simp] theorem ah8(Ai:Str)(n:Nat)(mf:List D->R (List Str×List D))(ma:B6)(ρ:AF):RN Ai n mf ma ρ=(ma ρ).bind λds=>if ds.length=n then(Ie (mf ds)).bind λx=>.ok (.ins Ai x.1 x.2)else .bad:=(rfl)
@[simp] theorem afd(i:Int):JW (.int i)=.ok (.int (-i)):=(rfl)
@[simp] theorem afj{x:D}{k:Int}(h0:0<=k)(h:k<=1000):Mk (.lst [x]) (.int k)=.ok (.lst (Fx k.toNat x)):=by
  have b:0<=k/\k<=1000/\[x].length<=100:=⟨h0,h,by simp⟩;simp only[Mk,if_pos b]
  congr 2
  generalize k.toNat=n;induction n with
  |zero=>rfl
  |succ n C6=>simp[PN,C6]
@[simp] theorem adn(m:B6)(ρ:AF):W9 m ρ=(m ρ).bind Tz:=(rfl)
@[simp] theorem v_is(m:Ag)(ρ:AF):WA m ρ=(m ρ).bind eY:=(rfl)
@[simp] theorem ag_(i:Nat)(m:Aq)(ρ:AF):RL i m ρ=m (Kq i ρ):=(rfl)
@[simp] theorem ah3(c:CR)(a b:Ag)(ρ:AF):Mc c a b ρ=(c ρ).bind λk=>if k=true then a ρ else b ρ:=(rfl)
@[simp] theorem ado(Ai mt:Str)(n:Nat)(mf:List D->R CI)(o:Ag)(ma:B6)(ρ:AF):Ia Ai mt n mf o ma ρ=(o ρ).bind λd=>(Q1 Ai mt d).bind λd=>(ma ρ).bind λds=>if ds.length=n then(mf (d::ds)).bind PI else .bad:=(rfl)
@[simp] theorem agd(i:Nat)(mk mv:Ag)(ρ:AF):ZY i mk mv ρ=(mv ρ).bind λv=>(ownAt i ρ).bind λds=>(mk ρ).bind λk=>putK i ρ ds v k:=(rfl)
def aav{i:Nat}{ρ:AF}{ds:List D}{v:D}{k:Nat}(h:k<ds.length):putK i ρ ds v (.int (k:Int))=.ok (.BC (ρ.set i (.C5 (ds.set k v)))):=by
 have e:I_ ds.length (k:Int)=some k:=by unfold I_;rw[if_pos (by lia),if_pos (by lia)];simp
 simp only[putK,e,putN]
@[simp] theorem qs(k:Bool):Ls [.Aa k]=.ok (.int (if k then 1 else 0)):=(rfl)
@[simp] theorem afv(x:D):Fs true x .non=.ok (.Aa (K1 x)):=(rfl)
@[simp] theorem ago(x:Str):eY (.str x)=.ok (x.cps.toList.map GI):=(rfl)
def uB{α:Type}(g:α->D)(xs:List α):Tz [.lst (xs.map g)]=.ok (xs.zipIdx.map λp=>.tup [.int (p.2:Int),g p.1]):=by
 simp only[Tz,QZ]
 congr 1
 rw[List.zipIdx_map,IK];rfl
def u2{β α:Type}{mi:B6}{elt:Ag}{caps:List Nat}{ρ:AF}{k:List D->R β}{jK:β->Prop}(g1 g2:α->D)(xs:List α)(f:α->D)(AC:mi ρ=.ok (xs.map λa=>.tup [g1 a,g2 a]))(AQ:xs.length<=1000)(h:∀a∈xs,elt (.A1 (g1 a)::.A1 (g2 a)::caps.map λj=>HU (ρ.getD j .un))=.ok (f a))(fin:Ends (k (xs.map f)) jK):Ends ((Dm 2 caps mi (Fj [BL 0,BL 1]) F5 elt ρ).bind k) jK:=by
 have go:∀(xs:List α)(ws:List D)(s0 s1:Be),ws.length+xs.length<=1000000->(∀a∈xs,elt (.A1 (g1 a)::.A1 (g2 a)::caps.map λj=>HU (ρ.getD j .un))=.ok (f a))->I9 (Fj [BL 0,BL 1]) F5 elt (xs.map λa=>.tup [g1 a,g2 a]) (s0::s1::caps.map λj=>HU (ρ.getD j .un)) ws=.ok (ws++xs.map f):=by
  intro xs;induction xs with
  |nil=>intro ws s0 s1 _ _;simp[I9]
  |cons a xs C6=>
   intro ws s0 s1 AQ h;simp only[Hk]at AQ;have DG:Fj [BL 0,BL 1] (.tup [g1 a,g2 a]) (s0::s1::caps.map λj=>HU (ρ.getD j .un))=.ok (.A1 (g1 a)::.A1 (g2 a)::caps.map λj=>HU (ρ.getD j .un)):=by simp
   rw[E3,I9,DG,BV];simp only[F5,BV,if_true,h a (by simp),if_pos (show ws.length<1000000 by lia)];rw[C6 (ws++[f a]) _ _ (by simp;lia) λx AH=>h x (by simp[AH])];simp
 rw[qE,AC,BV];have e:=go xs [] .un .un (by simp;lia) h;have:Ie (I9 (Fj [BL 0,BL 1]) F5 elt (xs.map λa=>.tup [g1 a,g2 a]) (NP 2 caps ρ) [])=.ok (xs.map f):=by show Ie (I9 (Fj [BL 0,BL 1]) F5 elt (xs.map λa=>.tup [g1 a,g2 a]) (.un::.un::caps.map λj=>HU (ρ.getD j .un)) [])=_;rw[e];rfl
 rw[this,BV];exact fin
def Ends.done{β:Type}{r:R β}{b:β}(h:Ends r (· =b)):r=.ok b:=by obtain⟨c,e,rfl⟩:=h;exact e
end Cm
namespace DW
open PySem PySem.Spec C2 Cm
def top(i:Nat):BW:=PySem.Challenge.pw_nohalfway_k67_whole_any_weaving_met.main.body.getD i (.Pass ⟨0,0,0,0⟩)
abbrev fa:BW:=top 37
abbrev ek:BW:=top 38
abbrev fb:BW:=top 39
abbrev eh:BW:=top 40
abbrev ew:BW:=top 41
abbrev ej:BW:=top 45
abbrev er:BW:=top 44
abbrev fZ:BW:=top 46
abbrev f_:BW:=top 47
abbrev fX:BW:=top 53
abbrev fY:BW:=top 42
abbrev eo:BW:=top 43
abbrev et:BW:=top 51
abbrev es:BW:=top 52
abbrev fU:BW:=top 2
abbrev fV:BW:=top 3
abbrev fN:BW:=top 30
abbrev fS:BW:=top 31
abbrev fR:BW:=top 32
abbrev fW:BW:=top 33
abbrev fO:BW:=top 34
abbrev fG:BW:=inClass (top 35) 0
abbrev fH:BW:=inClass (top 22) 3
abbrev fL:BW:=inClass (top 22) 4
abbrev fK:BW:=inClass (top 22) 5
abbrev fI:BW:=inClass (top 22) 2
abbrev fT:BW:=top 9
abbrev fQ:BW:=top 8
abbrev fP:BW:=top 10
abbrev f8:BW:=top 15
abbrev e7:BW:=inClass (top 35) 3
abbrev f6:BW:=top 17
abbrev fM:BW:=inClass (top 22) 1
abbrev fJ:BW:=inClass (top 22) 0
abbrev f5:BW:=top 19
abbrev f7:BW:=top 23
abbrev f3:BW:=top 24
abbrev ez:BW:=top 25
abbrev ey:BW:=top 26
abbrev ei:BW:=top 48
abbrev en:BW:=top 49
abbrev ep:BW:=top 50
abbrev eu:BW:=top 54
abbrev Q0:BW:=top 55
def TB:D:=.int 15
def TC:D:=.int 4
def TD:D:=.int 6
def Yg:D:=.EF [.str (BU "ring")]
def TF:D:=.EF [.str (BU "0"),.str (BU "1"),.str (BU "x")]
def Pi:D:=.EF [.int 8,.int 4,.int 2,.int 1]
structure i1(K:AY)(mg:Str->Option A4):Prop where
 l7:EE K mg "_law_cell_at" fa ["_law_script","_law_k"]
 lC:EE K mg "_law_mixed" ek ["_law_cell","_law_k"]
 l8:EE K mg "_law_counts" fb ["_law_cell","_law_wide"]
 l9:EE K mg "_law_doors" eh ["_law_counts_here"]
 lK:EE K mg "_law_wires" ew ["_law_cell","_law_counts_here"]
 lB:EE K mg "_law_free_book" ej ["_law_number","_law_count"]
 lG:EE K mg "_law_row" er ["_law_cell","_law_k","_law_count"]
 k4:EE K mg "_law_books" fZ ["_law_cells","_law_counts_here","_law_shift"]
 l6:EE K mg "_law_both" f_ ["_law_script","_law_counts_here"]
 jf:EE K mg "_law_all" fX ["_law_script"]
 jg:EE K mg "_law_beyond" fY ["_law_wires_here","_law_door"]
 lE:EE K mg "_law_outer" eo ["_law_counts_here","_law_wires_here"]
 lI:EE K mg "_law_some" et ["_law_cell","_law_many"]
 lH:EE K mg "_law_shelves" es ["_law_old","_law_new","_law_some_here"]
 jc:EE K mg "is_whole" fU ["thing"]
 jd:EE K mg "is_whole_within" fV ["thing","least","greatest"]
 k1:EE K mg "are_counts" fN ["thing"]
 ja:EE K mg "is_pair" fS ["thing"]
 j_:EE K mg "is_door_among" fR ["counts","thing"]
 je:EE K mg "is_wire_among" fW ["counts","thing"]
 k2:EE K mg "far_doors" fO ["counts","wires"]
 ju:InK K mg "Net" "Net.__init__" fG ["self","counts","wires"]
 jv:OP K "Weaver" "behind" "Weaver.behind" fH ["self","spot"]
 jz:OP K "Weaver" "round_from" "Weaver.round_from" fL ["self","spot"]
 jy:OP K "Weaver" "met" "Weaver.met" fK ["self"]
 jw:OP K "Weaver" "entered" "Weaver.entered" fI ["self","door","ahead"]
 jb:EE K mg "is_pattern" fT ["thing"]
 jZ:EE K mg "is_address" fQ ["thing"]
 k3:EE K mg "fits" fP ["pattern","address"]
 lS:EE K mg "taken" f8 ["book","door","address"]
 jt:OP K "Net" "beyond" "Net.beyond" e7 ["self","door"]
 lP:EE K mg "onward" f6 ["net","book","door","address"]
 k0:OP K "Weaver" "weave" "Weaver.weave" fM ["self","door"]
 jx:InK K mg "Weaver" "Weaver.__init__" fJ ["self","net","stages","door","address","shunned"]
 lO:EE K mg "mixed" f5 ["old","new","houses"]
 lR:EE K mg "stages_of" f7 ["old","new","row"]
 lN:EE K mg "met_with_leadings" f3 ["net","old","new","row","door","address"]
 lM:EE K mg "meets" ez ["net","old","new","row","door","address"]
 lL:EE K mg "leading" ey ["net","old","new","row","door","address","goal"]
 lA:EE K mg "_law_fits" ei ["_law_pattern","_law_address"]
 lD:EE K mg "_law_next" en ["_law_wires_here","_law_book","_law_door","_law_address"]
 lF:EE K mg "_law_road" ep ["_law_wires_here","_law_books_here","_law_door","_law_address"]
 lJ:EE K mg "_law_walked" eu ["_law_wires_here","_law_shelves_here","_law_door","_law_address","_law_cells"]
 uL:EE K mg "law" Q0 ["_law_script"]
 Ql:OL K "Net" ["many","counts","joined","far"]
 HK:OL K "Weaver" ["net","stages","address","shunned","woven","told"]
 RS:mg "all"=none
 il:mg "bool"=none
 im:mg "enumerate"=none
 YX:mg "int"=none
 RT:mg "isinstance"=none
 FM:mg "len"=none
 RU:mg "list"=none
 HA:mg "range"=none
 iq:mg "sorted"=none
 cH:mg "str"=none
 ir:mg "sum"=none
 Ye:mg "tuple"=none
 iu:mg "zip"=none
 TB:Pm K mg "GREATEST_ADDRESS" TB
 TC:Pm K mg "MOST_DOORS" TC
 TD:Pm K mg "MOST_HOUSES" TD
 Yg:Pm K mg "RING" Yg
 TF:Pm K mg "SIGNS" TF
 Pi:Pm K mg "WORTHS" Pi
def abq:D2 ["_law_script","_law_k"] ["_law_script","_law_k"] (Bx fa):=Dv
def YZ:Aq:=
    AU (Cb (BE (A3 T_ (J 1) (Bs CO (A2 (J 0) (AD))))) (D0 (A3 AR (J 0) (J 1))) (Co))
    (D0 (A5 (.int 0)))
def Ib:List D->R CI:=Dh 2 YZ
def fC:D2 ["_law_cell","_law_k","_law_factor","_law_prime"] ["_law_cell","_law_k"] (Bx ek):=Dv
noncomputable def c8:Aq:=
    AU (BN 2 (A3 AR (BS (C1 (A2 (A5 (.int 48271)) (A2 (A5 (.int 69621)) (A2 (A5 (.int 16807)) (A2 (A5 (.int 39373)) (A2 (A5 (.int 40692)) (A2 (A5 (.int 742938285)) (A2 (A5 (.int 950706376)) (A2 (A5 (.int 1343714438)) (AD))))))))))) (A3 CJ (J 1) (A5 (.int 8)))))
    (AU (BN 3 (A3 AR (BS (C1 (A2 (A5 (.int 2147483647)) (A2 (A5 (.int 2147483629)) (A2 (A5 (.int 2147483587)) (A2 (A5 (.int 2147483579)) (A2 (A5 (.int 2147483563)) (AD)))))))) (A3 CJ (J 1) (A5 (.int 5)))))
    (D0 (A3 Dr (A3 CJ (A3 Mf (A3 Cj (A3 Cj (A3 CJ (J 0) (A3 Ng (A5 (.int 10)) (A5 (.int 30)))) (A3 Mf (A5 (.int 31)) (J 1))) (A5 (.int 7))) (J 2)) (J 3)) (A5 (.int 7)))))
def EU:List D->R CI:=Dh 4 c8
def UP:D2 ["_law_cell","_law_wide","_law_bounds","_law_number","_law_most","_law_many"] ["_law_cell","_law_wide"] (Bx fb):=Dv
noncomputable def c4:Aq:=
    AU (BN 2 (BS (C1 (A2 (A5 (.int 4)) (A2 (A5 (.int 4)) (A2 (A5 (.int 4)) (A2 (A5 (.int 3)) (A2 (A5 (.int 2)) (A2 (A5 (.int 2)) (AD))))))))))
    (AU (Cb (BE (J 1)) (BN 2 (A3 Mk (BS (C1 (A2 (A5 (.int 4)) (AD)))) (A5 (.int 6)))) (Co))
    (AU (Cb (BE (A3 (Bj true) (A3 CJ (J 0) (A5 (.int 2))) (A5 (.int 1)))) (AU (BN 3 (A3 CJ (A3 Dr (J 0) (A5 (.int 2))) (A3 Ng (A5 (.int 10)) (A5 (.int 60)))))
    (AU (BN 4 (A3 AR (J 2) (A3 CJ (J 3) (A5 (.int 6)))))
    (GH (Dm 1 [4,3] (Fh (A2 (A3 Cj (A5 (.int 1)) (A3 CJ (J 3) (A5 (.int 6)))) (AD))) (BL 0) (F5) (A3 Cj (A5 (.int 1)) (A3 CJ (A3 CJ (A3 Dr (A3 Dr (J 2) (A5 (.int 6))) (A3 AR (BS (C1 (A2 (A5 (.int 1)) (A2 (A5 (.int 4)) (A2 (A5 (.int 16)) (A2 (A5 (.int 64)) (A2 (A5 (.int 256)) (A2 (A5 (.int 1024)) (AD))))))))) (J 0))) (A5 (.int 4))) (J 1))))))) (Co))
    (AU (BN 5 (A3 Cj (A5 (.int 1)) (A3 CJ (Bg 2 EU (A2 (J 0) (A2 (A5 (.int 0)) (AD)))) (A5 (.int 6)))))
    (GH (Dm 1 [0,2,5] (Fh (A2 (J 5) (AD))) (BL 0) (F5) (A3 Cj (A5 (.int 1)) (A3 CJ (Bg 2 EU (A2 (J 1) (A2 (A3 Cj (A5 (.int 1)) (J 0)) (AD)))) (A3 AR (J 2) (A3 Ih (J 3) (A5 (.int 1)))))))))))
def Tn:List D->R CI:=Dh 6 c4
def aM:D2 ["_law_counts_here","_law_doors_here","_law_house"] ["_law_counts_here"] (Bx eh):=Dv
noncomputable def c5:Aq:=
    AU (EB 1 (C1 (AD)))
    (AU (E0 (Fh (A2 (Bs CO (A2 (J 0) (AD))) (AD))) (BL 2) (EB 1 (Q9 1 (BS (Dm 1 [2] (Fh (A2 (A3 AR (J 0) (J 2)) (AD))) (BL 0) (F5) (DH (A2 (J 1) (A2 (J 0) (AD)))))))))
    (GH (JT 1)))
def Tp:List D->R CI:=Dh 3 c5
def KU:D2 ["_law_cell","_law_counts_here","_law_doors_here","_law_wires_here","_law_number","_law_keep","_law_k","_law_picks","_law_one","_law_other"] ["_law_cell","_law_counts_here"] (Bx ew):=Dv
noncomputable def cE:Aq:=
    AU (EB 2 (FS 1 Tp (A2 (J 1) (AD))))
    (AU (EB 3 (C1 (AD)))
    (AU (BN 4 (A3 Dr (A3 CJ (A3 Dr (J 0) (A5 (.int 2))) (A3 Ng (A5 (.int 10)) (A5 (.int 60)))) (A5 (.int 24576))))
    (AU (BN 5 (A3 Cj (A5 (.int 1)) (A3 CJ (Bg 2 EU (A2 (J 0) (A2 (A5 (.int 8)) (AD)))) (A5 (.int 3)))))
    (AU (Cb (BE (A3 (Bj true) (A3 CJ (J 0) (A5 (.int 2))) (A5 (.int 1)))) (AU (BN 5 (A3 Cj (A5 (.int 1)) (A3 CJ (J 4) (A5 (.int 24)))))
    (BN 4 (A3 Dr (J 4) (A5 (.int 24))))) (Co))
    (AU (BN 6 (A5 (.int 9)))
    (AU (L1 (IE (BE (A3 Od (Bs CO (A2 (J 2) (AD))) (A3 Cj (J 5) (A5 (.int 1)))))) (AU (BN 7 (BS (Q8 (C1 (A2 (Bg 2 EU (A2 (J 0) (A2 (J 6) (AD)))) (A2 (Bg 2 EU (A2 (J 0) (A2 (A3 Cj (J 6) (A5 (.int 1))) (AD)))) (AD)))))))
    (AU (Cb (BE (A3 (Bj true) (A3 CJ (J 0) (A5 (.int 2))) (A5 (.int 1)))) (AU (BN 7 (BS (Q8 (C1 (A2 (J 4) (A2 (A3 Dr (J 4) (Bs CO (A2 (J 2) (AD)))) (AD)))))))
    (BN 4 (MB (A3 Dr (A3 Dr (J 4) (Bs CO (A2 (J 2) (AD)))) (A3 Ih (Bs CO (A2 (J 2) (AD))) (A5 (.int 1))))))) (Co))
    (AU (NA 8 (P4 2 (MB (A3 CJ (A3 AR (J 7) (A5 (.int 0))) (Bs CO (A2 (J 2) (AD)))))))
    (AU (NA 9 (P4 2 (MB (A3 CJ (A3 AR (J 7) (A5 (.int 1))) (Bs CO (A2 (J 2) (AD)))))))
    (AU (GX 3 (DH (A2 (J 8) (A2 (J 9) (AD)))))
    (BN 6 (A3 Cj (J 6) (A5 (.int 2))))))))))
    (GH (JT 3))))))))
def SR:List D->R CI:=Dh 10 cE
def Mm:D2 ["_law_number","_law_count","_law_book","_law_many","_law_choices","_law_k","_law_pattern","_law_j"] ["_law_number","_law_count"] (Bx ej):=Dv
noncomputable def c7:Aq:=
    AU (EB 2 (C1 (AD)))
    (AU (BN 3 (A3 CJ (J 0) (A5 (.int 13))))
    (AU (BN 0 (A3 Dr (J 0) (A5 (.int 13))))
    (AU (BN 4 (BS (IF (BS (C1 (A2 (A5 .non) (AD)))) (BS (WB (A2 (J 1) (AD)))))))
    (AU (E0 (Fh (A2 (J 3) (AD))) (BL 5) (AU (BN 6 (A5 (.str (BU ""))))
    (AU (E0 (Fh (A2 (A5 (.int 4)) (AD))) (BL 7) (AU (BN 6 (A3 Cj (J 6) (A3 AR (A5 (.str (BU "01x"))) (A3 CJ (J 0) (A5 (.int 3))))))
    (BN 0 (A3 Dr (J 0) (A5 (.int 3))))))
    (AU (GX 2 (DH (A2 (J 6) (A2 (A3 AR (J 4) (A3 CJ (J 0) (A3 Cj (J 1) (A5 (.int 1))))) (A2 (A3 AR (J 4) (A3 CJ (A3 Dr (J 0) (A3 Cj (J 1) (A5 (.int 1)))) (A3 Cj (J 1) (A5 (.int 1))))) (AD))))))
    (BN 0 (A3 Dr (A3 Dr (J 0) (A3 Cj (J 1) (A5 (.int 1)))) (A3 Cj (J 1) (A5 (.int 1)))))))))
    (GH (JT 2))))))
def SP:List D->R CI:=Dh 8 c7
def Nk:D2 ["_law_cell","_law_k","_law_count","_law_number","_law_pattern","_law_j","_law_door","_law_out"] ["_law_cell","_law_k","_law_count"] (Bx er):=Dv
noncomputable def cB:Aq:=
    AU (BN 3 (Bg 2 EU (A2 (J 0) (A2 (J 1) (AD)))))
    (AU (BN 4 (A5 (.str (BU ""))))
    (AU (E0 (Fh (A2 (A5 (.int 4)) (AD))) (BL 5) (AU (BN 4 (A3 Cj (J 4) (A3 AR (BS (C1 (A2 (A5 (.str (BU "x"))) (A2 (A5 (.str (BU "x"))) (A2 (A5 (.str (BU "0"))) (A2 (A5 (.str (BU "1"))) (A2 (A5 (.str (BU "x"))) (AD)))))))) (A3 CJ (J 3) (A5 (.int 5))))))
    (BN 3 (A3 Dr (J 3) (A5 (.int 5))))))
    (AU (BN 6 (A5 .non))
    (AU (Cb (BE (A3 (Bj true) (A3 CJ (J 3) (A5 (.int 3))) (A5 (.int 0)))) (BN 6 (A3 CJ (A3 Dr (J 3) (A5 (.int 3))) (J 2))) (Co))
    (AU (BN 7 (A3 CJ (A3 Dr (J 3) (A5 (.int 20))) (J 2)))
    (AU (Cb (BE (A3 (Bj true) (A3 CJ (A3 Dr (J 3) (A5 (.int 100))) (A5 (.int 9))) (A5 (.int 0)))) (BN 7 (A5 .non)) (Co))
    (D0 (DH (A2 (J 4) (A2 (J 6) (A2 (J 7) (AD))))))))))))
def P5:List D->R CI:=Dh 8 cB
def Sh:D2 ["_law_cells","_law_counts_here","_law_shift","_law_books_here","_law_house","_law_cell","_law_many"] ["_law_cells","_law_counts_here","_law_shift"] (Bx fZ):=Dv
noncomputable def c2:Aq:=
    AU (EB 3 (C1 (AD)))
    (AU (E0 (Fh (A2 (Bs CO (A2 (J 1) (AD))) (AD))) (BL 4) (AU (BN 5 (A3 Cj (A3 Cj (A5 (.int 17)) (A3 Mf (A5 (.int 5)) (J 4))) (J 2)))
    (AU (Cb (BE (A3 (Bj false) (J 0) (BS (C1 (AD))))) (BN 5 (A3 AR (J 0) (A3 CJ (A3 Cj (J 4) (J 2)) (Bs CO (A2 (J 0) (AD)))))) (Co))
    (Cb (Gv (BE (A3 (Bj false) (J 0) (BS (C1 (AD))))) (BE (A3 (Bj true) (A3 CJ (J 5) (A5 (.int 2))) (A5 (.int 1))))) (GX 3 (BS (FS 2 SP (A2 (A3 CJ (A3 Dr (J 5) (A5 (.int 2))) (A3 Ng (A5 (.int 10)) (A5 (.int 60)))) (A2 (A3 AR (J 1) (J 4)) (AD)))))) (AU (BN 5 (A3 Cj (J 5) (A3 Mf (A5 (.int 3)) (J 4))))
    (AU (BN 6 (A3 AR (BS (C1 (A2 (A5 (.int 1)) (A2 (A5 (.int 2)) (A2 (A5 (.int 3)) (A2 (A5 (.int 0)) (A2 (A5 (.int 2)) (A2 (A5 (.int 4)) (A2 (A5 (.int 12)) (AD)))))))))) (A3 CJ (Bg 2 EU (A2 (J 5) (A2 (A5 (.int 3)) (AD)))) (A5 (.int 7)))))
    (GX 3 (BS (Dm 1 [5,1,4,2] (Fh (A2 (J 6) (AD))) (BL 0) (F5) (Bg 3 P5 (A2 (J 1) (A2 (A3 Cj (A3 Cj (A5 (.int 4)) (J 4)) (A3 Mf (A5 (.int 3)) (J 0))) (A2 (A3 AR (J 2) (J 3)) (AD))))))))))))))
    (GH (JT 3)))
def QJ:List D->R CI:=Dh 7 c2
def aL:D2 ["_law_script","_law_counts_here","_law_old","_law_new","_law_house"] ["_law_script","_law_counts_here"] (Bx f_):=Dv
noncomputable def c3:Aq:=
    AU (BN 2 (BS (FS 3 QJ (A2 (EN FG (J 0) (Er (A5 (.int 2))) (Er (A5 (.int 9)))) (A2 (J 1) (A2 (A5 (.int 0)) (AD)))))))
    (AU (EB 3 (FS 3 QJ (A2 (EN FG (J 0) (Er (A5 (.int 9))) (Er (A5 (.int 16)))) (A2 (J 1) (A2 (A5 (.int 1)) (AD))))))
    (AU (E0 (Fh (A2 (Bs CO (A2 (J 1) (AD))) (AD))) (BL 4) (Cb (BE (A3 (Bj true) (A3 CJ (Bg 2 EU (A2 (Bg 2 Ib (A2 (J 0) (A2 (A5 (.int 1)) (AD)))) (A2 (J 4) (AD)))) (A5 (.int 4))) (A5 (.int 0)))) (ZY 3 (J 4) (BS (P3 (A2 (A3 AR (J 2) (J 4)) (AD))))) (Co)))
    (Hv (DH (A2 (J 2) (A2 (J 3) (AD)))))))
def Tk:List D->R CI:=Dh 5 c3
def UO:D2 ["_law_script","_law_cell","_law_counts_here","_law_wires_here","_law_old","_law_new"] ["_law_script"] (Bx fX):=Dv
noncomputable def c0:Aq:=
    AU (BN 1 (Bg 2 Ib (A2 (J 0) (A2 (A5 (.int 0)) (AD)))))
    (AU (BN 2 (BS (FS 2 Tn (A2 (J 1) (A2 (A3 (Bj true) (A3 CJ (Bg 2 EU (A2 (Bg 2 Ib (A2 (J 0) (A2 (A5 (.int 1)) (AD)))) (A2 (A5 (.int 11)) (AD)))) (A5 (.int 4))) (A5 (.int 0))) (AD))))))
    (AU (BN 3 (BS (FS 2 SR (A2 (J 1) (A2 (J 2) (AD))))))
    (AU (Md (Fj [BL 4,BL 5]) (Bg 2 Tk (A2 (J 0) (A2 (J 2) (AD)))))
    (D0 (DH (A2 (J 2) (A2 (J 3) (A2 (J 4) (A2 (J 5) (AD))))))))))
def Tj:List D->R CI:=Dh 6 c0
def fA:D2 ["_law_wires_here","_law_door","_law_one","_law_other"] ["_law_wires_here","_law_door"] (Bx fY):=Dv
def c1:Aq:=
    AU (E0 (F4 (J 0)) (Fj [BL 2,BL 3]) (AU (Cb (BE (A3 (Bj true) (J 2) (J 1))) (D0 (J 3)) (Co))
    (Cb (BE (A3 (Bj true) (J 3) (J 1))) (D0 (J 2)) (Co))))
    (D0 (A5 .non))
def Vk:List D->R CI:=Dh 4 c1
def abr:D2 ["_law_counts_here","_law_wires_here"] ["_law_counts_here","_law_wires_here"] (Bx eo):=Dv
def cA:Aq:=
    GH (Dm 1 [1] (F4 (BS (FS 1 Tp (A2 (J 0) (AD))))) (BL 0) (BE (A3 (Fs true) (Bg 2 Vk (A2 (J 1) (A2 (J 0) (AD)))) (A5 .non))) (J 0))
def Tq:List D->R CI:=Dh 2 cA
def aO:D2 ["_law_cell","_law_many","_law_houses","_law_some_here","_law_k"] ["_law_cell","_law_many"] (Bx et):=Dv
noncomputable def cD:Aq:=
    AU (EB 2 (WB (A2 (J 1) (AD))))
    (AU (EB 3 (C1 (AD)))
    (AU (E0 (Fh (A2 (A3 CJ (Bg 2 EU (A2 (J 0) (A2 (A5 (.int 3)) (AD)))) (A3 Cj (J 1) (A5 (.int 1)))) (AD))) (BL 4) (ZU 3 (P4 2 (MB (A3 CJ (Bg 2 EU (A2 (J 0) (A2 (A3 Cj (A5 (.int 4)) (J 4)) (AD)))) (Bs CO (A2 (J 2) (AD))))))))
    (GH (JT 3))))
def SQ:List D->R CI:=Dh 5 cD
def fD:D2 ["_law_old","_law_new","_law_some_here","_law_shelves_here","_law_count"] ["_law_old","_law_new","_law_some_here"] (Bx es):=Dv
noncomputable def cC:Aq:=
    AU (EB 3 (C1 (AD)))
    (AU (E0 (Fh (A2 (A3 Cj (Bs CO (A2 (J 2) (AD))) (A5 (.int 1))) (AD))) (BL 4) (GX 3 (BS (Dm 1 [0,1,2,4] (Fh (A2 (Bs CO (A2 (J 0) (AD))) (AD))) (BL 0) (F5) (A3 AR (A3 AR (BS (C1 (A2 (J 1) (A2 (J 2) (AD))))) (Bs Ls (A2 (A3 (inD true) (J 0) (EN FG (J 3) (FT) (Er (J 4)))) (AD)))) (J 0))))))
    (GH (JT 3)))
def Tr:List D->R CI:=Dh 5 cC
def abo:D2 ["thing"] ["thing"] (Bx fU):=Dv
def ip:Aq:=
    D0 (P1 (Cr (M9 "int") (J 0)) (ZX (Cr (M9 "bool") (J 0))))
def RQ:List D->R CI:=Dh 1 ip
def abp:D2 ["thing","least","greatest"] ["thing","least","greatest"] (Bx fV):=Dv
def hk:Aq:=
    D0 (P1 (Bg 1 RQ (A2 (J 0) (AD))) (QA TW TW (J 1) (J 0) (J 2)))
def RR:List D->R CI:=Dh 3 hk
def abi:D2 ["thing"] ["thing"] (Bx fN):=Dv
noncomputable def hb:Aq:=
    AU (Cb (JS (GG (BE (Cr (M9 "list") (J 0)))) (GG (BE (QA TW TW (A5 (.int 1)) (Bs CO (A2 (J 0) (AD))) (A5 TD))))) (D0 (A5 (.Aa false))) (Co))
    (D0 (Bs CM (A2 (BS (Dm 1 [] (F4 (J 0)) (BL 0) (F5) (Bg 3 RR (A2 (J 0) (A2 (A5 (.int 1)) (A2 (A5 TC) (AD))))))) (AD))))
def Th:List D->R CI:=Dh 1 hb
def abm:D2 ["thing"] ["thing"] (Bx fS):=Dv
def io:Aq:=
    D0 (P1 (Cr (M9 "tuple") (J 0)) (A3 (Bj true) (Bs CO (A2 (J 0) (AD))) (A5 (.int 2))))
def Vj:List D->R CI:=Dh 1 io
def abl:D2 ["counts","thing"] ["counts","thing"] (Bx fR):=Dv
noncomputable def hi:Aq:=
    AU (Cb (JS (GG (BE (Bg 1 Vj (A2 (J 1) (AD))))) (GG (BE (Bg 3 RR (A2 (A3 AR (J 1) (A5 (.int 0))) (A2 (A5 (.int 0)) (A2 (A3 Ih (Bs CO (A2 (J 0) (AD))) (A5 (.int 1))) (AD)))))))) (D0 (A5 (.Aa false))) (Co))
    (D0 (Bg 3 RR (A2 (A3 AR (J 1) (A5 (.int 1))) (A2 (A5 (.int 0)) (A2 (A3 Ih (A3 AR (J 0) (A3 AR (J 1) (A5 (.int 0)))) (A5 (.int 1))) (AD))))))
def Vi:List D->R CI:=Dh 2 hi
def pg:D2 ["counts","thing","both"] ["counts","thing"] (Bx fW):=Dv
noncomputable def iD:Aq:=
    AU (Cb (GG (BE (Bg 1 Vj (A2 (J 1) (AD))))) (D0 (A5 (.Aa false))) (Co))
    (AU (BN 2 (P1 (Bg 2 Vi (A2 (J 0) (A2 (A3 AR (J 1) (A5 (.int 0))) (AD)))) (Bg 2 Vi (A2 (J 0) (A2 (A3 AR (J 1) (A5 (.int 1))) (AD))))))
    (D0 (P1 (J 2) (A3 (Bj false) (A3 AR (J 1) (A5 (.int 0))) (A3 AR (J 1) (A5 (.int 1)))))))
def Zb:List D->R CI:=Dh 3 iD
def f9:D2 ["counts","wires","far","wire"] ["counts","wires"] (Bx fO):=Dv
noncomputable def hc:Aq:=
    AU (RO 2)
    (AU (E0 (QG (J 1)) (BL 3) (AU (Cb (GG (BE (Bg 2 Zb (A2 (J 0) (A2 (J 3) (AD)))))) (eE) (Co))
    (AU (Cb (IE (JS (BE (A3 (IU true) (A3 AR (J 3) (A5 (.int 0))) (J 2))) (BE (A3 (IU true) (A3 AR (J 3) (A5 (.int 1))) (J 2))))) (eE) (Co))
    (AU (Ta 2 (A3 AR (J 3) (A5 (.int 0))) (A3 AR (J 3) (A5 (.int 1))))
    (Ta 2 (A3 AR (J 3) (A5 (.int 1))) (A3 AR (J 3) (A5 (.int 0))))))))
    (Hv (J 2)))
def RP:List D->R CI:=Dh 4 hc
def acW:D2 ["self","counts","wires"] ["self","counts","wires"] (Bx fG):=Dv
noncomputable def Z6:Jl:=
    NB (QF (GG (BE (Bg 1 Th (A2 (J 1) (AD))))))
    (NB (QF (GG (BE (Cr (M9 "list") (J 2)))))
    (NB (L0 "Net" "many" (Bs CO (A2 (J 1) (AD))))
    (NB (L0 "Net" "counts" (Bs SB (A2 (J 1) (AD))))
    (NB (L0 "Net" "joined" (Bs SB (A2 (J 2) (AD))))
    (L0 "Net" "far" (RJ (Bg 2 RP (A2 (Cr (Ds "Net" "counts") (J 0)) (A2 (Cr (Ds "Net" "joined") (J 0)) (AD))))))))))
def Vf:List D->R (List Str×List D):=λA6=>outI "Net" (Z6 (Kv "Net" A6))
def pf:D2 ["self","spot","told"] ["self","spot"] (Bx fH):=Dv
noncomputable def VU:Aq:=
    AU (BN 2 (A3 IV (Cr (Ds "Weaver" "told") (J 0)) (J 1)))
    (AU (Cb (JS (BE (A3 (Bj false) (A3 AR (J 2) (A5 (.int 0))) (A5 (.str (BU "at"))))) (BE (A3 (Bj true) (A3 AR (J 2) (A5 (.int 1))) (Cr (Ds "Weaver" "shunned") (J 0))))) (D0 (A5 .non)) (Co))
    (D0 (DH (A2 (DH (A2 (A3 AR (J 2) (A5 (.int 1))) (A2 (A3 AR (J 2) (A5 (.int 2))) (AD)))) (A2 (A3 AR (J 1) (A5 (.int 1))) (AD))))))
def NC:List D->R CI:=Dh 3 VU
def aK:D2 ["self","spot","gone","further"] ["self","spot"] (Bx fL):=Dv
noncomputable def YV:Aq:=
    AU (EB 2 (C1 (A2 (J 1) (AD))))
    (AU (BN 3 (Ia "Weaver" "behind" 1 NC (J 0) (A2 (J 1) (AD))))
    (AU (L1 (IE (Gv (BE (A3 (Fs false) (J 3) (A5 .non))) (BE (A3 (inD false) (J 3) (J 2))))) (AU (GX 2 (J 3))
    (BN 3 (Ia "Weaver" "behind" 1 NC (J 0) (A2 (J 3) (AD))))))
    (RL 2 (D0 (Mc (BE (A3 (Bj true) (J 3) (J 1))) (J 2) (BS (C1 (AD))))))))
def Tg:List D->R CI:=Dh 4 YV
def XD:D2 ["self","found","spot","numbers","ring"] ["self"] (Bx fK):=Dv
noncomputable def Z8:Aq:=
    AU (RO 1)
    (AU (E0 (RM (Cr (Ds "Weaver" "woven") (J 0))) (Fj [BL 2,BL 3]) (AU (N9 1 (P2 (DH (A2 (A5 (.str (BU "at"))) (A2 (A3 AR (A3 AR (J 2) (A5 (.int 0))) (A5 (.int 0))) (AD))))) (J 3))
    (AU (Cb (BE (A3 (Bj false) (A3 AR (A3 IV (Cr (Ds "Weaver" "told") (J 0)) (J 2)) (A5 (.int 0))) (A5 (.str (BU "at"))))) (N9 1 (P2 (A3 IV (Cr (Ds "Weaver" "told") (J 0)) (J 2))) (J 3)) (Co))
    (AU (BN 4 (Ia "Weaver" "round_from" 1 Tg (J 0) (A2 (J 2) (AD))))
    (Cb (BE (A3 (Bj false) (J 4) (BS (C1 (AD))))) (N9 1 (eF (BU "ring")) (BS (IF (EN FG (J 3) (FT) (Er (Cr JW (A5 (.int 1))))) (A3 Mk (BS (C1 (A2 (A3 AR (J 2) (A5 (.int 1))) (AD)))) (Bs CO (A2 (J 4) (AD))))))) (Co))))))
    (Hv (J 1)))
def ZZ:List D->R CI:=Dh 5 Z8
def aJ:D2 ["self","door","ahead","least","spots","spot"] ["self","door","ahead"] (Bx fI):=Dv
noncomputable def Z7:Aq:=
    AU (Cb (IE (BE (A3 (Bj true) (A3 AR (J 1) (A5 (.int 0))) (Cr (Ds "Weaver" "shunned") (J 0))))) (QH (BS (C1 (AD)))) (Co))
    (AU (BN 3 (Mc (BE (A3 (Bj false) (J 2) (BS (C1 (AD))))) (A3 AR (J 2) (Cr JW (A5 (.int 1)))) (A5 (.int 0))))
    (AU (Tf 4 (RK (Dm 1 [1,0] (Te (A2 (J 3) (A2 (Bs CO (A2 (Cr (Ds "Weaver" "stages") (J 0)) (AD))) (AD)))) (BL 0) (BE (A3 (IU false) (DH (A2 (J 1) (A2 (J 0) (AD)))) (Cr (Ds "Weaver" "woven") (J 2)))) (DH (A2 (J 1) (A2 (J 0) (AD)))))))
    (AU (E0 (F4 (J 4)) (BL 5) (N8 0 "Weaver" "woven" (J 5) (BS (IF (J 2) (BS (C1 (A2 (A3 AR (J 5) (A5 (.int 1))) (AD))))))))
    (QH (J 4)))))
def QI:T->List D->R (D×T):=QB 6 Z7
def abn:D2 ["thing"] ["thing"] (Bx fT):=Dv
noncomputable def hj:Aq:=
    AU (Cb (JS (GG (BE (Cr (M9 "str") (J 0)))) (BE (A3 (Bj false) (Bs CO (A2 (J 0) (AD))) (Bs CO (A2 (A5 Pi) (AD)))))) (D0 (A5 (.Aa false))) (Co))
    (D0 (Bs CM (A2 (BS (Dm 1 [] (WA (J 0)) (BL 0) (F5) (A3 (inD true) (J 0) (A5 TF)))) (AD))))
def Za:List D->R CI:=Dh 1 hj
def abk:D2 ["thing"] ["thing"] (Bx fQ):=Dv
def hh:Aq:=
    D0 (Bg 3 RR (A2 (J 0) (A2 (A5 (.int 0)) (A2 (A5 TB) (AD)))))
def Z_:List D->R CI:=Dh 1 hh
def abj:D2 ["pattern","address"] ["pattern","address"] (Bx fP):=Dv
noncomputable def hg:Aq:=
    AU (Cb (JS (GG (BE (Bg 1 Za (A2 (J 0) (AD))))) (GG (BE (Bg 1 Z_ (A2 (J 1) (AD)))))) (D0 (A5 (.Aa false))) (Co))
    (D0 (Bs CM (A2 (BS (Dm 2 [1] (ZV (A2 (J 0) (A2 (A5 Pi) (AD)))) (Fj [BL 0,BL 1]) (F5) (A3 (inD true) (J 0) (DH (A2 (A5 (.str (BU "x"))) (A2 (Bs UV (A2 (A3 CJ (A3 Dr (J 2) (J 1)) (A5 (.int 2))) (AD))) (AD))))))) (AD))))
def Ti:List D->R CI:=Dh 2 hg
def fE:D2 ["book","door","address","number","row"] ["book","door","address"] (Bx f8):=Dv
noncomputable def cI:Aq:=
    AU (E0 (W9 (A2 (J 0) (AD))) (Fj [BL 3,BL 4]) (Cb (Gv (JS (BE (A3 (Fs true) (A3 AR (J 4) (A5 (.int 1))) (A5 .non))) (BE (A3 (Bj true) (A3 AR (J 4) (A5 (.int 1))) (J 1)))) (BE (Bg 2 Ti (A2 (A3 AR (J 4) (A5 (.int 0))) (A2 (J 2) (AD)))))) (D0 (J 3)) (Co)))
    (D0 (A5 .non))
def Zd:List D->R CI:=Dh 5 cI
def acV:D2 ["self","door"] ["self","door"] (Bx e7):=Dv
def ha:Aq:=
    D0 (W7 (Cr (Ds "Net" "far") (J 0)) (J 1))
def Ve:List D->R CI:=Dh 2 ha
def aP:D2 ["net","book","door","address","number","out","far"] ["net","book","door","address"] (Bx f6):=Dv
noncomputable def TA:Aq:=
    AU (BN 4 (Bg 3 Zd (A2 (J 1) (A2 (A3 AR (J 2) (A5 (.int 1))) (A2 (J 3) (AD))))))
    (AU (BN 5 (Mc (BE (A3 (Fs true) (J 4) (A5 .non))) (A5 .non) (A3 AR (A3 AR (J 1) (J 4)) (A5 (.int 2)))))
    (AU (Cb (BE (A3 (Fs true) (J 5) (A5 .non))) (D0 (DH (A2 (A5 (.str (BU "drop"))) (A2 (A3 AR (J 2) (A5 (.int 0))) (AD))))) (Co))
    (AU (BN 6 (Ia "Net" "beyond" 1 Ve (J 0) (A2 (DH (A2 (A3 AR (J 2) (A5 (.int 0))) (A2 (J 5) (AD)))) (AD))))
    (AU (Cb (BE (A3 (Fs true) (J 6) (A5 .non))) (D0 (DH (A2 (A5 (.str (BU "out"))) (A2 (A3 AR (J 2) (A5 (.int 0))) (A2 (J 5) (AD)))))) (Co))
    (D0 (DH (A2 (A5 (.str (BU "at"))) (A2 (A3 AR (J 6) (A5 (.int 0))) (A2 (A3 AR (J 6) (A5 (.int 1))) (AD))))))))))
def P7:List D->R CI:=Dh 7 TA
def UN:D2 ["self","door","waiting","further","spot","told"] ["self","door"] (Bx fM):=Dv
noncomputable def YW:Aq:=
    AU (NA 2 (KG 0 "Weaver" "entered" 2 QI (A2 (J 1) (A2 (BS (C1 (AD))) (AD)))))
    (L1 (BE (A3 (Bj false) (J 2) (BS (C1 (AD))))) (AU (EB 3 (C1 (AD)))
    (AU (E0 (F4 (J 2)) (BL 4) (AU (BN 5 (M_ (Bg 4 P7 (A2 (Cr (Ds "Weaver" "net") (J 0)) (A2 (A3 AR (A3 AR (Cr (Ds "Weaver" "stages") (J 0)) (A3 AR (J 4) (A5 (.int 1)))) (A3 AR (A3 AR (J 4) (A5 (.int 0))) (A5 (.int 0)))) (A2 (A3 AR (J 4) (A5 (.int 0))) (A2 (Cr (Ds "Weaver" "address") (J 0)) (AD))))))))
    (AU (N8 0 "Weaver" "told" (J 4) (J 5))
    (Cb (BE (A3 (Bj true) (A3 AR (J 5) (A5 (.int 0))) (A5 (.str (BU "at"))))) (QC (Tb 3 (KG 0 "Weaver" "entered" 2 QI (A2 (DH (A2 (A3 AR (J 5) (A5 (.int 1))) (A2 (A3 AR (J 5) (A5 (.int 2))) (AD)))) (A2 (QD 0 "Weaver" "woven" (J 4)) (AD)))))) (Co)))))
    (RL 3 (BN 2 (J 3))))))
def Vh:T->List D->R (D×T):=QB 6 YW
def acX:D2 ["self","net","stages","door","address","shunned"] ["self","net","stages","door","address","shunned"] (Bx fJ):=Dv
noncomputable def VV:Aq:=
    AU (QE "Weaver" "net" (J 1))
    (AU (QE "Weaver" "stages" (J 2))
    (AU (QE "Weaver" "address" (J 4))
    (AU (QE "Weaver" "shunned" (J 5))
    (AU (Tc "Weaver" "woven")
    (AU (Tc "Weaver" "told")
    (QC (KG 0 "Weaver" "weave" 1 Vh (A2 (J 3) (AD)))))))))
def Vg:List D->R T:=ZW "Weaver" 6 VV
def abw:D2 ["old","new","houses"] ["old","new","houses"] (Bx f5):=Dv
def cF:Aq:=
    GH (Dm 1 [2,1,0] (Fh (A2 (Bs CO (A2 (J 0) (AD))) (AD))) (BL 0) (F5) (BS (P3 (A2 (Mc (BE (A3 (inD true) (J 0) (J 1))) (A3 AR (J 2) (J 0)) (A3 AR (J 3) (J 0))) (AD)))))
def Zc:List D->R CI:=Dh 3 cF
def abx:D2 ["old","new","row"] ["old","new","row"] (Bx f7):=Dv
def cG:Aq:=
    GH (Dm 1 [0,1,2] (Fh (A2 (A3 Cj (Bs CO (A2 (J 2) (AD))) (A5 (.int 1))) (AD))) (BL 0) (F5) (BS (FS 3 Zc (A2 (J 1) (A2 (J 2) (A2 (EN FG (J 3) (FT) (Er (J 0))) (AD)))))))
def Wv:List D->R CI:=Dh 3 cG
def abv:D2 ["net","old","new","row","door","address"] ["net","old","new","row","door","address"] (Bx f3):=Dv
def Yd:Aq:=
    D0 (Ia "Weaver" "met" 0 ZZ (Td 5 Vg (A2 (J 0) (A2 (BS (FS 3 Wv (A2 (J 1) (A2 (J 2) (A2 (J 3) (AD)))))) (A2 (J 4) (A2 (J 5) (A2 (A5 .non) (AD))))))) AD)
def ND:List D->R CI:=Dh 6 Yd
def abu:D2 ["net","old","new","row","door","address"] ["net","old","new","row","door","address"] (Bx ez):=Dv
def Yc:Aq:=
    GH (Vd (A2 (Bg 6 ND (A2 (J 0) (A2 (J 1) (A2 (J 2) (A2 (J 3) (A2 (J 4) (A2 (J 5) (AD)))))))) (AD)))
def WC:List D->R CI:=Dh 6 Yc
def abt:D2 ["net","old","new","row","door","address","goal"] ["net","old","new","row","door","address","goal"] (Bx ey):=Dv
noncomputable def Yb:Aq:=
    AU (Cb (GG (BE (Bs CM (A2 (BS (Dm 1 [] (QG (EN Q4 (J 6) (Er (A5 (.int 1))) (FT))) (BL 0) (F5) (Bg 1 RQ (A2 (J 0) (AD))))) (AD))))) (D0 (A5 .non)) (Co))
    (D0 (W6 (Bg 6 ND (A2 (J 0) (A2 (J 1) (A2 (J 2) (A2 (J 3) (A2 (J 4) (A2 (J 5) (AD)))))))) (J 6)))
def Ts:List D->R CI:=Dh 7 Yb
def fB:D2 ["_law_pattern","_law_address","_law_k","_law_figure"] ["_law_pattern","_law_address"] (Bx ei):=Dv
noncomputable def c6:Aq:=
    AU (E0 (Fh (A2 (A5 (.int 4)) (AD))) (BL 2) (AU (BN 3 (A3 CJ (A3 Dr (J 1) (A3 AR (BS (C1 (A2 (A5 (.int 8)) (A2 (A5 (.int 4)) (A2 (A5 (.int 2)) (A2 (A5 (.int 1)) (AD))))))) (J 2))) (A5 (.int 2))))
    (Cb (Gv (BE (A3 (Bj false) (A3 AR (J 0) (J 2)) (A5 (.str (BU "x"))))) (BE (A3 (Bj false) (A3 AR (J 0) (J 2)) (A3 AR (A5 (.str (BU "01"))) (J 3))))) (D0 (A5 (.Aa false))) (Co))))
    (D0 (A5 (.Aa true)))
def Vl:List D->R CI:=Dh 4 c6
def XE:D2 ["_law_wires_here","_law_book","_law_door","_law_address","_law_pattern","_law_inward","_law_out","_law_behind"] ["_law_wires_here","_law_book","_law_door","_law_address"] (Bx en):=Dv
noncomputable def c9:Aq:=
    AU (E0 (F4 (J 1)) (Fj [BL 4,BL 5,BL 6]) (Cb (Gv (BE (Bg 2 Vl (A2 (J 4) (A2 (J 3) (AD))))) (JS (BE (A3 (Fs true) (J 5) (A5 .non))) (BE (A3 (Bj true) (J 5) (A3 AR (J 2) (A5 (.int 1))))))) (AU (Cb (BE (A3 (Fs true) (J 6) (A5 .non))) (D0 (DH (A2 (A5 (.str (BU "drop"))) (A2 (A3 AR (J 2) (A5 (.int 0))) (AD))))) (Co))
    (AU (BN 7 (Bg 2 Vk (A2 (J 0) (A2 (DH (A2 (A3 AR (J 2) (A5 (.int 0))) (A2 (J 6) (AD)))) (AD)))))
    (AU (Cb (BE (A3 (Fs true) (J 7) (A5 .non))) (D0 (DH (A2 (A5 (.str (BU "out"))) (A2 (A3 AR (J 2) (A5 (.int 0))) (A2 (J 6) (AD)))))) (Co))
    (D0 (A3 VY (DH (A2 (A5 (.str (BU "at"))) (AD))) (J 7)))))) (Co)))
    (D0 (DH (A2 (A5 (.str (BU "drop"))) (A2 (A3 AR (J 2) (A5 (.int 0))) (AD)))))
def Lo:List D->R CI:=Dh 8 c9
def aN:D2 ["_law_wires_here","_law_books_here","_law_door","_law_address","_law_road_here","_law_told"] ["_law_wires_here","_law_books_here","_law_door","_law_address"] (Bx ep):=Dv
noncomputable def Y_:Aq:=
    AU (EB 4 (C1 (A2 (J 2) (AD))))
    (AU (BN 5 (M_ (Bg 4 Lo (A2 (J 0) (A2 (A3 AR (J 1) (A3 AR (J 2) (A5 (.int 0)))) (A2 (J 2) (A2 (J 3) (AD))))))))
    (AU (L1 (IE (Gv (BE (A3 (Bj true) (A3 AR (J 5) (A5 (.int 0))) (A5 (.str (BU "at"))))) (BE (A3 (inD false) (EN LB (J 5) (Er (A5 (.int 1))) (FT)) (J 4))))) (AU (GX 4 (EN LB (J 5) (Er (A5 (.int 1))) (FT)))
    (BN 5 (M_ (Bg 4 Lo (A2 (J 0) (A2 (A3 AR (J 1) (A3 AR (A3 AR (J 4) (Cr JW (A5 (.int 1)))) (A5 (.int 0)))) (A2 (A3 AR (J 4) (Cr JW (A5 (.int 1)))) (A2 (J 3) (AD))))))))))
    (Hv (DH (A2 (J 4) (A2 (J 5) (AD)))))))
def QK:List D->R CI:=Dh 6 Y_
def LA:D2 ["_law_wires_here","_law_shelves_here","_law_door","_law_address","_law_cells","_law_found","_law_count","_law_since","_law_cell","_law_number","_law_told","_law_road_here"] ["_law_wires_here","_law_shelves_here","_law_door","_law_address","_law_cells"] (Bx eu):=Dv
noncomputable def Ya:Aq:=
    AU (EB 5 (C1 (A2 (DH (A2 (A5 (.str (BU "at"))) (A2 (A3 AR (J 2) (A5 (.int 0))) (AD)))) (AD))))
    (AU (BN 6 (A5 (.int 0)))
    (AU (EB 7 (C1 (A2 (J 2) (AD))))
    (AU (E0 (F4 (J 4)) (BL 8) (AU (BN 9 (Bg 2 EU (A2 (J 8) (A2 (A5 (.int 6)) (AD)))))
    (AU (Cb (Gv (BE (A3 (Bj true) (A3 CJ (J 9) (A5 (.int 4))) (A5 (.int 0)))) (BE (A3 T_ (J 6) (A3 Ih (Bs CO (A2 (J 1) (AD))) (A5 (.int 1)))))) (AU (BN 6 (A3 Cj (A3 Cj (J 6) (A5 (.int 1))) (A3 CJ (A3 Dr (J 9) (A5 (.int 4))) (A3 Ih (A3 Ih (Bs CO (A2 (J 1) (AD))) (A5 (.int 1))) (J 6)))))
    (EB 7 (C1 (A2 (J 2) (AD))))) (Co))
    (AU (BN 10 (Bg 4 Lo (A2 (J 0) (A2 (A3 AR (A3 AR (J 1) (J 6)) (A3 AR (J 2) (A5 (.int 0)))) (A2 (J 2) (A2 (J 3) (AD)))))))
    (AU (Cb (BE (A3 (Bj false) (A3 AR (J 10) (A5 (.int 0))) (A5 (.str (BU "at"))))) (Hv (BS (IF (J 5) (BS (C1 (A2 (J 10) (AD))))))) (Co))
    (AU (BN 2 (EN LB (J 10) (Er (A5 (.int 1))) (FT)))
    (AU (GX 5 (DH (A2 (A5 (.str (BU "at"))) (A2 (A3 AR (J 2) (A5 (.int 0))) (AD)))))
    (AU (Cb (IE (BE (A3 (inD true) (J 2) (J 7)))) (GX 5 (DH (A2 (A5 (.str (BU "ring"))) (AD)))) (Co))
    (GX 7 (J 2))))))))))
    (AU (Md (Fj [BL 11,BL 10]) (Bg 4 QK (A2 (J 0) (A2 (A3 AR (J 1) (J 6)) (A2 (J 2) (A2 (J 3) (AD)))))))
    (AU (EB 5 (Q9 5 (BS (Dm 1 [] (F4 (J 11)) (BL 0) (F5) (DH (A2 (A5 (.str (BU "at"))) (A2 (A3 AR (J 0) (A5 (.int 0))) (AD))))))))
    (AU (Cb (BE (A3 (Bj true) (A3 AR (J 10) (A5 (.int 0))) (A5 (.str (BU "at"))))) (Hv (BS (IF (J 5) (BS (C1 (A2 (DH (A2 (A5 (.str (BU "ring"))) (AD))) (AD))))))) (Co))
    (Hv (BS (IF (J 5) (BS (C1 (A2 (J 10) (AD)))))))))))))
def P6:List D->R CI:=Dh 12 Ya
def Ig:D2 ["_law_script","_law_counts_here","_law_wires_here","_law_old","_law_new","_law_outer_here","_law_some_here","_law_shelves_here","_law_net","_law_k","_law_number","_law_door","_law_address","_law_told","_law_cells","_law_cell","_law_thing"] ["_law_script"] (Bx Q0):=Dv
noncomputable def YY:Aq:=
    AU (Md (Fj [BL 1,BL 2,BL 3,BL 4]) (Bg 1 Tj (A2 (J 0) (AD))))
    (AU (BN 5 (BS (FS 2 Tq (A2 (J 1) (A2 (J 2) (AD))))))
    (AU (BN 6 (BS (FS 2 SQ (A2 (Bg 2 Ib (A2 (J 0) (A2 (A5 (.int 1)) (AD)))) (A2 (Bs CO (A2 (J 1) (AD))) (AD))))))
    (AU (BN 7 (BS (FS 3 Tr (A2 (J 3) (A2 (J 4) (A2 (J 6) (AD)))))))
    (AU (BN 8 (RN "Net" 2 Vf (A2 (J 1) (A2 (J 2) (AD)))))
    (AU (E0 (Fh (A2 (A3 AR (BS (C1 (A2 (A5 (.int 2)) (A2 (A5 (.int 1)) (AD))))) (Bs Ls (A2 (A3 Od (Bs Q7 (A2 (J 1) (AD))) (A5 (.int 12))) (AD)))) (AD))) (BL 9) (AU (BN 10 (Bg 2 EU (A2 (Bg 2 Ib (A2 (J 0) (A2 (A3 Cj (A5 (.int 2)) (J 9)) (AD)))) (A2 (A5 (.int 7)) (AD)))))
    (AU (BN 11 (A3 AR (J 5) (A3 CJ (J 10) (Bs CO (A2 (J 5) (AD))))))
    (AU (BN 12 (A3 CJ (A3 Dr (J 10) (A5 (.int 50))) (A5 (.int 16))))
    (AU (BN 13 (BS (FS 6 WC (A2 (J 8) (A2 (J 3) (A2 (J 4) (A2 (J 6) (A2 (J 11) (A2 (J 12) (AD))))))))))
    (AU (BN 14 (EN FG (J 0) (Er (A3 Cj (A5 (.int 16)) (J 9))) (FT)))
    (AU (Cb (GG (BE (Bs CM (A2 (BS (Dm 1 [13] (F4 (Bg 5 P6 (A2 (J 2) (A2 (J 7) (A2 (J 11) (A2 (J 12) (A2 (J 14) (AD)))))))) (BL 0) (F5) (A3 (inD true) (J 0) (J 1)))) (AD))))) (D0 (A5 (.Aa false))) (Co))
    (AU (E0 (F4 (EN FG (J 14) (FT) (Er (A5 (.int 4))))) (BL 15) (Cb (GG (BE (Bs CM (A2 (BS (Dm 1 [13] (F4 (Bg 5 P6 (A2 (J 2) (A2 (J 7) (A2 (J 11) (A2 (J 12) (A2 (BS (C1 (A2 (J 15) (AD)))) (AD)))))))) (BL 0) (F5) (A3 (inD true) (J 0) (J 1)))) (AD))))) (D0 (A5 (.Aa false))) (Co)))
    (E0 (F4 (EN FG (EN FG (J 13) (Er (A3 CJ (A3 Dr (J 10) (A5 (.int 900))) (Bs CO (A2 (J 13) (AD))))) (FT)) (FT) (Er (A5 (.int 3))))) (BL 16) (Cb (BE (A3 (Fs true) (Bg 7 Ts (A2 (J 8) (A2 (J 3) (A2 (J 4) (A2 (J 6) (A2 (J 11) (A2 (J 12) (A2 (J 16) (AD))))))))) (A5 .non))) (D0 (A5 (.Aa false))) (Co)))))))))))
    (D0 (A3 (Fs true) (Bg 7 Ts (A2 (J 8) (A2 (J 3) (A2 (J 4) (A2 (J 6) (A2 (A3 AR (J 5) (A5 (.int 0))) (A2 (A5 (.int 3)) (A2 (DH (A2 (A5 (.str (BU "lost"))) (A2 (A5 (.int 0)) (AD)))) (AD))))))))) (A5 .non))))))))
def Rr:List D->R CI:=Dh 17 YY
def IT{α β:Type}(a:α)(k:α->R β):(R.ok a).bind k=k a:=rfl
def aR{a b:Aq}{ρ BJ:AF}(h:a ρ=.ok (.BC BJ)):AU a b ρ=b BJ:=by simp only[AU,h,IT]
def i_{f:List D->R CI}{a:Ag}{ρ:AF}{x y:D}(AB:a ρ=.ok x)(h:f [x]=.ok (.v y)):Bg 1 f (A2 a AD) ρ=.ok y:=by simp only[Bg,A2,AD,AB,IT,Hk,N3,if_true,h,PI]
def call2{f:List D->R CI}{a b:Ag}{ρ:AF}{x z y:D}(AB:a ρ=.ok x)(A0:b ρ=.ok z)(h:f [x,z]=.ok (.v y)):Bg 2 f (A2 a (A2 b AD)) ρ=.ok y:=by simp only[Bg,A2,AD,AB,A0,IT,Hk,N3,if_true,h,PI]
def EZ{f:D->D->R D}{a b:Ag}{ρ:AF}{x y z:D}(AB:a ρ=.ok x)(A0:b ρ=.ok y)(h:f x y=.ok z):A3 f a b ρ=.ok z:=by simp only[A3,AB,A0,IT,h]
def JR{a:Ag}{ρ:AF}{c:Bool}(AB:a ρ=.ok (.Aa c)):BE a ρ=.ok c:=by simp only[BE,AB,IT,NO]
def eG{a:CR}{ρ:AF}{c:Bool}(AB:a ρ=.ok c):GG a ρ=.ok (!c):=by simp only[GG,AB,IT]
def sD{a b:CR}{ρ:AF}{c d:Bool}(AB:a ρ=.ok c)(A0:c=true->b ρ=.ok d):Gv a b ρ=.ok (c&&d):=by
 cases c
 .simp only[Gv,AB,IT,Hj,if_false,Bool.false_and]
 .simp only[Gv,AB,IT,A0 rfl,if_true,Xv]
def Q2{i:Nat}{a:Ag}{ρ BJ:AF}{d:D}(AB:a ρ=.ok d)(AN:BL i d ρ=.ok BJ):BN i a ρ=.ok (.BC BJ):=by simp only[BN,AB,IT,AN]
def M8{c:CR}{a b:Aq}{ρ:AF}{k:Bool}(AO:c ρ=.ok k):Cb c a b ρ=if k=true then a ρ else b ρ:=by simp only[Cb,AO,IT]
def p1{c:CR}{a b:Aq}{ρ:AF}(AO:c ρ=.ok false):AU (Cb c a Co) b ρ=b ρ:=by simp only[AU,Cb,AO,IT,Co];rfl
def acF{e:Ag}{ρ:AF}{d:D}(he:e ρ=.ok d):D0 e ρ=.ok (.E6 d):=by simp only[D0,he,IT]
def TY{a:Ag}{ρ:AF}{xs:List D}(AB:a ρ=.ok (.lst xs)):Bs CO (A2 a AD) ρ=.ok (.int (xs.length:Nat)):=by simp only[Bs,A2,AD,AB,IT,CO]
def CC(cs:List Nat):List D:=cs.map λ(c:Nat)=>D.int (c:Int)
abbrev AW:=Nat×Nat
def AZ(d:AW):D:=.tup [.int (d.1:Nat),.int (d.2:Nat)]
def Cd(w:AW×AW):D:=.tup [AZ w.1,AZ w.2]
def ends(ws:List (AW×AW)):List AW:=(ws.map λw=>[w.1,w.2]).flatten
theorem bQ{α:Type}:∀(l:List α)(i:Nat)(h:i<l.length),List.Perm (l[i]::l.eraseIdx i) l
 |x::l,0,_=>List.Perm.refl _
 |x::l,i+1,h=>by have C6:=bQ l i (by simpa using h);simp only[List.getElem_cons_succ,ra];exact(List.Perm.swap x _ _).trans (C6.cons x)
def OV(cs:List Nat)(h:Nat):List AW:=(EY (cs.getD h 0)).map λk=>(h,k)
def CM(cs:List Nat)(n:Nat):List AW:=(EY n).flatMap (OV cs)
def i7(cs:List Nat)(n:Nat):CM cs (n+1)=CM cs n++OV cs n:=by unfold CM;rw[List.range_succ,List.flatMap_append];simp
def eK{cs:List Nat}{h:Nat}{d:AW}:d∈OV cs h↔d.1=h/\d.2<cs.getD h 0:=by
 unfold OV;rw[List.mem_map];constructor
 .rintro⟨k,AL,rfl⟩;exact⟨rfl,List.mem_range.mp AL⟩
 .rintro⟨rfl,h2⟩;exact⟨d.2,List.mem_range.mpr h2,rfl⟩
def P8{cs:List Nat}{n:Nat}{d:AW}:d∈CM cs n↔d.1<n/\d.2<cs.getD d.1 0:=by
 unfold CM;rw[List.mem_flatMap];constructor
 .rintro⟨h,BD,hd⟩;obtain⟨rfl,h2⟩:=eK.mp hd;exact⟨List.mem_range.mp BD,h2⟩
 .rintro⟨h1,h2⟩;exact⟨d.1,List.mem_range.mpr h1,eK.mpr ⟨rfl,h2⟩⟩
def uY(cs:List Nat)(h:Nat):(OV cs h).Nodup:=by unfold OV;rw[List.nodup_iff_pairwise_ne,List.pairwise_map];exact List.nodup_range.imp λWP z=>WP (Prod.mk.inj z).2
theorem jP(cs:List Nat):∀n,(CM cs n).Nodup
 |0=>List.nodup_nil
 |n+1=>by rw[i7];refine List.nodup_append.mpr ⟨jP cs n,uY cs n,λa AB b A0 z=>?_⟩;subst z;have h1:=(P8.mp AB).1;have h2:=(eK.mp A0).1;lia
def dC{cs:List Nat}(h:∀c∈cs,c<=4)(k:Nat):cs.getD k 0<=4:=by
 rw[JB];cases e:cs[k]? with
 |none=>simp
 |some c=>simpa using h c (JF e)
def uX{cs:List Nat}(h:∀c∈cs,1<=c/\c<=4)(k:Nat):(OV cs k).length<=4:=by unfold OV;rw[Fw,List.length_range];exact dC (λc AO=>(h c AO).2) k
theorem OS{cs:List Nat}(h:∀c∈cs,1<=c/\c<=4):∀n,(CM cs n).length<=4*n
 |0=>by simp[CM]
 |n+1=>by rw[i7,JG];have:=OS h n;have:=uX h n;lia
def Yi{cs:List Nat}{h:Nat}(BD:h<cs.length):(CC cs)[h]?=some (.int (cs.getD h 0:Nat)):=by simp[CC,E8 BD,JB]
structure LG(cs:List Nat)(ws:List (AW×AW)):Prop where
 h1:1<=cs.length
 h6:cs.length<=6
 c:∀c∈cs,1<=c/\c<=4
 Am:(ends ws).Nodup
 sub:∀d∈ends ws,d∈CM cs cs.length
 few:ws.length<100
def head_mem{cs:List Nat}(h1:1<=cs.length)(c:∀c∈cs,1<=c/\c<=4):((0,0):AW)∈CM cs cs.length:=by
 refine P8.mpr ⟨h1,?_⟩;cases cs with
 |nil=>simp at h1
 |cons x r=>exact(c x (Ms ..)).1
def ID(d:AW):Bd:=[.inl (.inl (d.1:Nat)),.inl (.inl (d.2:Nat))]
def cR{a b:AW}(h:ID a=ID b):a=b:=by
 obtain⟨a1,a2⟩:=a;obtain⟨H9,H4⟩:=b;simp only[ID,Up,Sum.inl.injEq,and_true]at h;have h1:a1=H9:=by lia
 have h2:a2=H4:=by lia
 rw[h1,h2]
def Vx(d:AW):J8 (AZ d)=some (ID d):=rfl
def FN(ws:List (AW×AW)):List Bd:=(ends ws).map ID
def Fc(ws:List (AW×AW)):List D:=(ws.map λw=>[AZ w.2,AZ w.1]).flatten
def ks_any(ws:List (AW×AW))(d:AW):(FN ws).any (λx=>decide (x=ID d))=decide (d∈ends ws):=by
 unfold FN;rw[PQ];by_cases h:d∈ends ws
 .rw[decide_eq_true h,Uo];exact⟨d,h,by simp⟩
 .rw[decide_eq_false h,List.any_eq_false];intro x AH;simp only[hK,decide_eq_true_eq];exact λz=>h (cR z▸AH)
def Yo(ws:List (AW×AW)):(ends ws).length=2*ws.length:=by
 induction ws with
 |nil=>rfl
 |cons w r C6=>simp only[ends,E3,R3,JG,Hk,N3]at C6 |-;lia
def kF{i:Nat}{mk mv:Ag}{ρ:AF}{ks:List Bd}{ds:List D}{k v:D}{kk:Bd}(AN:ρ[i]?=some (.ob (.B7 ks ds)))(AL:mk ρ=.ok k)(BR:mv ρ=.ok v)(DY:J8 k=some kk)(AS:ks.any (λx=>decide (x=kk))=false)(AQ:ks.length<1000000) :
  Ta i mk mv ρ=.ok (.BC (ρ.set i (.ob (.B7 (ks++[kk]) (ds++[v]))))):=by
 simp only[Ta,BR,AN,AL,IT,DY,putD,if_pos (And.intro AS AQ)]
def sE{ks:List Bd}{a b:Bd}(h:ks.any (λx=>decide (x=b))=false)(ne:a≠b):(ks++[a]).any (λx=>decide (x=b))=false:=by rw[List.any_append,h];simp[ne]
def yH(ws:List (AW×AW))(w:AW×AW):FN (ws++[w])=FN ws++[ID w.1]++[ID w.2]:=by simp[FN,ends]
def adw(ws:List (AW×AW))(w:AW×AW):Fc (ws++[w])=Fc ws++[AZ w.2]++[AZ w.1]:=by simp[Fc]
def z8{P:List (AW×AW)}{w:AW×AW}{r:List (AW×AW)}(Am:(ends (P++w::r)).Nodup):w.1∉ends P/\w.2∉ends P/\w.1≠w.2:=by
 have e:ends (P++w::r)=ends P++(w.1::w.2::ends r):=by simp[ends]
 rw[e]at Am;obtain⟨_,DI,L4⟩:=List.nodup_append.mp Am;refine⟨λz=>L4 _ z w.1 (by simp) rfl,λz=>L4 _ z w.2 (by simp) rfl,λz=>?_⟩;rw[List.nodup_cons]at DI;exact DI.1 (by rw[z];simp)
def fi(i lo AC:Int):RR [.int i,.int lo,.int AC]=.ok (.v (.Aa (decide (lo<=i)&&decide (i<=AC)))):=by have w:RQ [.int i]=.ok (.v (.Aa true)):=rfl;simp[RR,hk,w];by_cases h:lo<=i<;>simp[h]
def kA{cs:List Nat}{d:AW}(h:d∈CM cs cs.length):Vi [.tup (CC cs),AZ d]=.ok (.v (.Aa true)):=by
 obtain⟨h1,h2⟩:=P8.mp h;have p:Vj [AZ d]=.ok (.v (.Aa true)):=rfl;have DG:AR (AZ d) (.int 0)=.ok (.int d.1):=rfl;have A9:AR (AZ d) (.int 1)=.ok (.int d.2):=rfl;have AG:AR (.tup (CC cs)) (.int (d.1:Nat))=.ok (.int (cs.getD d.1 0:Nat)):=wu (Yi h1);have l:(CC cs).length=cs.length:=by simp[CC]
 simp only[JB]at h2 AG;simp[Vi,hi,p,DG,A9,AG,l,fi,show¬((cs.length:Int)-1<(d.1:Nat))by lia];lia
def uW{a b:AW}(h:a≠b):Bj false (AZ a) (AZ b)=.ok (.Aa true):=by
 show R.ok (D.Aa (!(((a.1:Nat):Int)==((b.1:Nat):Int)&&(((a.2:Nat):Int)==((b.2:Nat):Int)&&true))))=_;by_cases h1:a.1=b.1
 .by_cases h2:a.2=b.2
  .exact absurd (PZ h1 h2) h
  .rw[beq_eq_false_iff_ne.mpr (show((a.2:Nat):Int)≠((b.2:Nat):Int)by lia)];simp
 .rw[beq_eq_false_iff_ne.mpr (show((a.1:Nat):Int)≠((b.1:Nat):Int)by lia)];simp
def ae8{cs:List Nat}{w:AW×AW}(h1:w.1∈CM cs cs.length)(h2:w.2∈CM cs cs.length)(ne:w.1≠w.2):Zb [.tup (CC cs),Cd w]=.ok (.v (.Aa true)):=by have p:Vj [Cd w]=.ok (.v (.Aa true)):=rfl;have DG:AR (Cd w) (.int 0)=.ok (AZ w.1):=rfl;have A9:AR (Cd w) (.int 1)=.ok (AZ w.2):=rfl;simp[Zb,iD,p,DG,A9,kA h1,kA h2,uW ne]
def x9(l:List D):M9 "list" (.lst l)=.ok (.Aa true):=rfl
theorem j5{α:Type}(f:α->Bool):∀l:List α,RV (l.map λa=>D.Aa (f a))=some (l.map f)
 |[]=>rfl
 |a::l=>by simp[RV,j5 f l]
def VS{α:Type}(f:α->Bool)(l:List α):Cm.CM [.lst (l.map λa=>D.Aa (f a))]=.ok (.Aa (l.all f)):=by simp[Cm.CM,j5,Sv]
def tm(cs:List Nat)(ws:List (AW×AW))(h:LG cs ws):RP [.tup (CC cs),.tup (ws.map Cd)]=.ok (.v (.B7 (FN ws) (Fc ws))):=by
 apply Ends.done;have few:=h.few;simp[RP,hc,RO];refine Tx Cd ws (λj ρ=>∃s3,ρ=[.A1 (.tup (CC cs)),.A1 (.tup (ws.map Cd)),.ob (.B7 (FN (ws.take j)) (Fc (ws.take j))),s3]) rfl ⟨.un,by simp[FN,Fc,ends]⟩ ?_ ?_
 .rintro j w _ hw ⟨s3,rfl⟩;obtain⟨By,HX⟩:=List.getElem?_eq_some_iff.mp hw;have adM:ws=ws.take j++w::ws.drop (j+1):=by rw[<-HX];simp
  obtain⟨D3,DI,L4⟩:=z8 (P:=ws.take j) (w:=w) (r:=ws.drop (j+1)) (by rw[<-adM];exact h.Am);have C8:ws.take (j+1)=ws.take j++[w]:=by rw[List.take_succ,hw];rfl
  have JQ:(FN (ws.take j)).length<1000:=by simp[FN,Yo];lia
  have pn:∀x,x=w.1\/x=w.2->x∈CM cs cs.length:=λx AH=>h.sub x (List.mem_flatten.mpr ⟨[w.1,w.2],List.mem_map.mpr ⟨w,JF hw,rfl⟩,by simpa using AH⟩);have aeA:=ae8 (pn _ (.inl rfl)) (pn _ (.inr rfl)) L4;generalize Cn:ws.take j=P at*;have DG:AR (Cd w) (.int 0)=.ok (AZ w.1):=rfl;have A9:AR (Cd w) (.int 1)=.ok (AZ w.2):=rfl;have CP:IU true (AZ w.1) (.B7 (FN P) (Fc P))=.ok (.Aa false):=by simp[IU,Vx,ks_any,D3]
  have Br:IU true (AZ w.2) (.B7 (FN P) (Fc P))=.ok (.Aa false):=by simp[IU,Vx,ks_any,DI]
  have Eh:=kF (i:=2) (mk:=A3 AR (J 3) (A5 (.int 0))) (mv:=A3 AR (J 3) (A5 (.int 1))) (ρ:=[.A1 (.tup (CC cs)),.A1 (.tup (ws.map Cd)),.ob (.B7 (FN P) (Fc P)),.A1 (Cd w)]) rfl rfl rfl (Vx w.1) (by rw[ks_any];simp[D3]) (by lia);have Cu:=kF (i:=2) (mk:=A3 AR (J 3) (A5 (.int 1))) (mv:=A3 AR (J 3) (A5 (.int 0))) (ρ:=[.A1 (.tup (CC cs)),.A1 (.tup (ws.map Cd)),.ob (.B7 (FN P++[ID w.1]) (Fc P++[AZ w.2])),.A1 (Cd w)]) rfl rfl rfl (Vx w.2) (sE (by rw[ks_any];simp[DI]) λz=>L4 (cR z)) (by simp;lia);have HY:NX (.ob (.B7 (FN P) (Fc P)))=.A1 (.B7 (FN P) (Fc P)):=rfl;simp at Eh Cu;simp[aeA,ES,HY,DG,A9,CP,Br,Eh,Cu,C8,yH,adw]
 .rintro _ ⟨s3,rfl⟩;have HY:NX (.ob (.B7 (FN ws) (Fc ws)))=.A1 (.B7 (FN ws) (Fc ws)):=rfl;simp[Hv,ES,HY]
def tJ(cs:List Nat)(h1:1<=cs.length)(h6:cs.length<=6)(h:∀c∈cs,1<=c/\c<=4):Th [.lst (CC cs)]=.ok (.v (.Aa true)):=by
 apply Ends.done;have lcs:(CC cs).length=cs.length:=by simp[CC]
 simp[Th,hb,x9,lcs,TD,show(1:Int)<=cs.length by lia,show(cs.length:Int)<=6 by lia];refine Tw (λc:Nat=>D.int (c:Int)) cs (λ_=>.Aa true) (by simp[CC]) (by lia) (λc AO=>by have:=h c AO;simp[fi,TC];lia) ?_;have a:=VS (λ_:Nat=>true) cs;simp only[a];simp
def Wc{a b:Jl}{ρ EQ:AF}(h:a ρ=.ok EQ):NB a b ρ=b EQ:=by simp only[NB,h,IT]
theorem qQ:∀ws:List (AW×AW),Lp (Fc ws)=true
 |[]=>rfl
 |w::ws=>by show Lp (AZ w.2::AZ w.1::Fc ws)=true;simp only[Lp,qQ ws];rfl
def xi(cs:List Nat)(ws:List (AW×AW))(h:LG cs ws):Vf [.lst (CC cs),.lst (ws.map Cd)]=.ok (["many","counts","joined","far"],[.int (cs.length:Nat),.tup (CC cs),.tup (ws.map Cd),.B7 (FN ws) (Fc ws)]):=by
 let r (ns:List Str) (ds:List D):AF:=[.ob (.ins "Net" ns ds),.A1 (.lst (CC cs)),.A1 (.lst (ws.map Cd))]
 have g1:QF (GG (BE (Bg 1 Th (A2 (J 1) (AD))))) (r [] [])=.ok (r [] []):=by have z:GG (BE (Bg 1 Th (A2 (J 1) (AD)))) (r [] [])=.ok false:=eG (c:=true) (JR (i_ rfl (tJ cs h.h1 h.h6 h.c)));simp only[QF,z,IT,Hj,if_false]
 have g2:QF (GG (BE (Cr (M9 "list") (J 2)))) (r [] [])=.ok (r [] []):=rfl;have f1:L0 "Net" "many" (Bs CO (A2 (J 1) (AD))) (r [] [])=.ok (r ["many"] [.int (cs.length:Nat)]):=by
  have JQ:Bs CO (A2 (J 1) AD) (r [] [])=.ok (.int (cs.length:Nat)):=by rw[TY (xs:=CC cs) rfl];simp[CC]
  rw[L0,JQ];rfl
 have f2:L0 "Net" "counts" (Bs SB (A2 (J 1) (AD))) (r ["many"] [.int (cs.length:Nat)])=.ok (r ["many","counts"] [.int (cs.length:Nat),.tup (CC cs)]):=rfl;have GV:L0 "Net" "joined" (Bs SB (A2 (J 2) (AD))) (r ["many","counts"] [.int (cs.length:Nat),.tup (CC cs)])=.ok (r ["many","counts","joined"] [.int (cs.length:Nat),.tup (CC cs),.tup (ws.map Cd)]):=rfl;have f4:L0 "Net" "far" (RJ (Bg 2 RP (A2 (Cr (Ds "Net" "counts") (J 0)) (A2 (Cr (Ds "Net" "joined") (J 0)) (AD))))) (r ["many","counts","joined"] [.int (cs.length:Nat),.tup (CC cs),.tup (ws.map Cd)])=.ok (r ["many","counts","joined","far"] [.int (cs.length:Nat),.tup (CC cs),.tup (ws.map Cd),.B7 (FN ws) (Fc ws)]):=by
  have z:RJ (Bg 2 RP (A2 (Cr (Ds "Net" "counts") (J 0)) (A2 (Cr (Ds "Net" "joined") (J 0)) (AD)))) (r ["many","counts","joined"] [.int (cs.length:Nat),.tup (CC cs),.tup (ws.map Cd)])=.ok (.B7 (FN ws) (Fc ws)):=by have y:Bg 2 RP (A2 (Cr (Ds "Net" "counts") (J 0)) (A2 (Cr (Ds "Net" "joined") (J 0)) (AD))) (ES (r ["many","counts","joined"] [.int (cs.length:Nat),.tup (CC cs),.tup (ws.map Cd)]))=.ok (.B7 (FN ws) (Fc ws)):=call2 (x:=.tup (CC cs)) (z:=.tup (ws.map Cd)) rfl rfl (tm cs ws h);have n:L7 (.B7 (FN ws) (Fc ws))=true/\dn (r ["many","counts","joined"] [.int (cs.length:Nat),.tup (CC cs),.tup (ws.map Cd)])=true:=⟨by simp only[L7];exact qQ ws,rfl⟩;simp only[RJ,y,IT,if_pos n]
  rw[L0,z];rfl
 show outI "Net" (Z6 (r [] []))=_;unfold Z6;rw[Wc g1,Wc g2,Wc f1,Wc f2,Wc GV,f4];rfl
theorem kQ{β:Type}{c:CR}{b:Aq}{k:FQ->R β}{T:β->Prop}(I:Nat->AF->Prop)(st:∀n ρ,I n ρ->∃t,c ρ=.ok t/\(t=true->Ends (b ρ) (Jn λBJ=>∃m,m<n/\I m BJ))/\(t=false->Ends (k (.BC ρ)) T)):∀(f n:Nat)(ρ:AF),I n ρ->n<f->Ends ((Qr c b f ρ).bind k) T
 |0,n,ρ,h,hf=>by lia
 |f+1,n,ρ,h,hf=>by
  obtain⟨t,e,h1,h2⟩:=st n ρ h;simp only[Qr,e,BV];cases t with
  |false=>simpa using h2 rfl
  |true=>obtain⟨x,ex,BJ,rfl,m,hm,J1⟩:=h1 rfl;simp only[if_true,ex,BV];exact kQ I st f m BJ J1 (by lia)
def Yp{β:Type}{c:CR}{b:Aq}{k:FQ->R β}{T:β->Prop}(I:Nat->AF->Prop){n:Nat}{ρ:AF}(h:I n ρ)(AS:n<1000)(st:∀n ρ,I n ρ->∃t,c ρ=.ok t/\(t=true->Ends (b ρ) (Jn λBJ=>∃m,m<n/\I m BJ))/\(t=false->Ends (k (.BC ρ)) T)):Ends ((L1 c b ρ).bind k) T:=kQ I st 1000 n ρ h AS
def VZ(ns:List Int)(k:Nat):∃c:Int,Ib [.Cc (ns.map D.int),.int k]=.ok (.v (.int c)):=by
 by_cases h:k<ns.length
 .refine⟨ns[k],?_⟩;have e:AR (.Cc (ns.map D.int)) (.int (k:Int))=.ok (.int ns[k]):=wq (by simp[h]);simp[Ib,YZ,h,e]
 .exact⟨0,by simp[Ib,YZ,h]⟩
def b1:Ng (.int 10) (.int 60)=.ok (.int 1000000000000000000000000000000000000000000000000000000000000):=(rfl)
def az(l:List Int)(x:Int){n:Nat}(AS:l.length=n)(h:0<n):∃f∈l,AR (.lst (l.map D.int)) (.int (x%(n:Int)))=.ok (.int f):=by obtain⟨j,By,e⟩:=JV x h;rw[e];exact⟨l[j],N2 _,K2 (by simp[AS,By])⟩
def L2(c:Int)(k:Nat)(AL:k<1000):∃y:Int,EU [.int c,.int k]=.ok (.v (.int y)):=by obtain⟨f,hf,Cs⟩:=az [48271,69621,16807,39373,40692,742938285,950706376,1343714438] k (n:=8) rfl (by decide);obtain⟨p,Ad,BY⟩:=az [2147483647,2147483629,2147483587,2147483579,2147483563] k (n:=5) rfl (by decide);have f0:0<f/\f<18446744073709551616:=(by decide:∀f∈([48271,69621,16807,39373,40692,742938285,950706376,1343714438]:List Int),0<f/\f<18446744073709551616) f hf;have FU:0<p:=(by decide:∀p∈([2147483647,2147483629,2147483587,2147483579,2147483563]:List Int),0<p) p Ad;have Cs:AR (.lst [.int 48271,.int 69621,.int 16807,.int 39373,.int 40692,.int 742938285,.int 950706376,.int 1343714438]) (.int ((k:Int)%8))=.ok (.int f):=Cs;have BY:AR (.lst [.int 2147483647,.int 2147483629,.int 2147483587,.int 2147483579,.int 2147483563]) (.int ((k:Int)%5))=.ok (.int p):=BY;simp(disch:=first|lia|(simp;done)|(simp;lia)) [EU,c8,aal,lim,Cs,BY]
def om(x:Int)(l:List Int)(AQ:l.length=6)(h:∀c∈l,1<=c/\c<=4):∃b:Int,(1<=b/\b<=4)/\AR (.lst (l.map D.int)) (.int (x%6))=.ok (.int b):=by obtain⟨f,hf,e⟩:=az l x (n:=6) AQ (by decide);exact⟨f,h f hf,e⟩
def tI(cell:Int)(wide:Bool):∃cs:List Nat,(1<=cs.length/\cs.length<=6)/\(∀c∈cs,1<=c/\c<=4)/\Tn [.int cell,.Aa wide]=.ok (.o (CC cs)):=by
 suffices h:Ends (Tn [.int cell,.Aa wide]) λb=>∃cs:List Nat,(1<=cs.length/\cs.length<=6)/\(∀c∈cs,1<=c/\c<=4)/\b=.o (CC cs)by
  obtain⟨b,e,cs,h1,h2,rfl⟩:=h;exact⟨cs,h1,h2,e⟩
 obtain⟨l,AQ,A0,el⟩:∃l:List Int,l.length=6/\(∀c∈l,1<=c/\c<=4)/\l=(if wide then[4,4,4,4,4,4]else[4,4,4,3,2,2]):=⟨_,by cases wide<;>rfl,by cases wide<;>decide,rfl⟩;have st:∀(k:AF->R FQ)(T:CI->Prop),Ends ((k [.A1 (.int cell),.A1 (.Aa wide),.A1 (.lst (l.map D.int)),.un,.un,.un]).bind outD) T->True:=λ_ _ _=>trivial
 have run:Tn [.int cell,.Aa wide]=((AU (Cb (BE (A3 (Bj true) (A3 CJ (J 0) (A5 (.int 2))) (A5 (.int 1)))) (AU (BN 3 (A3 CJ (A3 Dr (J 0) (A5 (.int 2))) (A3 Ng (A5 (.int 10)) (A5 (.int 60)))))
  (AU (BN 4 (A3 AR (J 2) (A3 CJ (J 3) (A5 (.int 6)))))
  (GH (Dm 1 [4,3] (Fh (A2 (A3 Cj (A5 (.int 1)) (A3 CJ (J 3) (A5 (.int 6)))) (AD))) (BL 0) (F5) (A3 Cj (A5 (.int 1)) (A3 CJ (A3 CJ (A3 Dr (A3 Dr (J 2) (A5 (.int 6))) (A3 AR (BS (C1 (A2 (A5 (.int 1)) (A2 (A5 (.int 4)) (A2 (A5 (.int 16)) (A2 (A5 (.int 64)) (A2 (A5 (.int 256)) (A2 (A5 (.int 1024)) (AD))))))))) (J 0))) (A5 (.int 4))) (J 1))))))) (Co))
  (AU (BN 5 (A3 Cj (A5 (.int 1)) (A3 CJ (Bg 2 EU (A2 (J 0) (A2 (A5 (.int 0)) (AD)))) (A5 (.int 6)))))
  (GH (Dm 1 [0,2,5] (Fh (A2 (J 5) (AD))) (BL 0) (F5) (A3 Cj (A5 (.int 1)) (A3 CJ (Bg 2 EU (A2 (J 1) (A2 (A3 Cj (A5 (.int 1)) (J 0)) (AD)))) (A3 AR (J 2) (A3 Ih (J 3) (A5 (.int 1)))))))))) [.A1 (.int cell),.A1 (.Aa wide),.A1 (.lst (l.map D.int)),.un,.un,.un]).bind outD:=by
  subst el;cases wide<;>simp[Tn,c4,lim,Fx]
 rw[run];by_cases AM:cell%2=1
 .obtain⟨m,hm,em⟩:=JV (cell/2%1000000000000000000000000000000000000000000000000000000000000) (n:=6) (by decide);obtain⟨b,vp,Bi⟩:=om (cell/2%1000000000000000000000000000000000000000000000000000000000000) l AQ A0;have OX:(1:Int)+cell/2%1000000000000000000000000000000000000000000000000000000000000%6=((m+1:Nat):Int):=by have:cell/2%1000000000000000000000000000000000000000000000000000000000000%6=(m:Int):=em;lia
  have ex:∀k:Nat,∃c:Nat,(1<=c/\c<=4)/\(k<6->∃g:Int,0<g/\g<1073741824/\AR (.lst [.int 1,.int 4,.int 16,.int 64,.int 256,.int 1024]) (.int (k:Int))=.ok (.int g)/\1+cell/2%1000000000000000000000000000000000000000000000000000000000000/6/g%4%b=(c:Int)):=λk=>by
   by_cases AL:k<6
   .have Ah:∃g:Int,0<g/\g<1073741824/\AR (.lst [.int 1,.int 4,.int 16,.int 64,.int 256,.int 1024]) (.int (k:Int))=.ok (.int g):=by
      rcases(by lia:k=0\/k=1\/k=2\/k=3\/k=4\/k=5)with rfl|rfl|rfl|rfl|rfl|rfl
      .exact⟨1,by decide,by decide,rfl⟩
      .exact⟨4,by decide,by decide,rfl⟩
      .exact⟨16,by decide,by decide,rfl⟩
      .exact⟨64,by decide,by decide,rfl⟩
      .exact⟨256,by decide,by decide,rfl⟩
      .exact⟨1024,by decide,by decide,rfl⟩
    obtain⟨g,g1,g2,g3⟩:=Ah;have KZ:=Xe (cell/2%1000000000000000000000000000000000000000000000000000000000000/6/g%4) (show b≠0 by lia);have DS:=Xq (cell/2%1000000000000000000000000000000000000000000000000000000000000/6/g%4) (show 0<b by lia);exact⟨(1+cell/2%1000000000000000000000000000000000000000000000000000000000000/6/g%4%b).toNat,by lia,λ_=>⟨g,g1,g2,g3,by lia⟩⟩
   .exact⟨1,by lia,λh=>absurd h AL⟩
  let MQ:Nat->Nat:=λk=>(ex k).choose
  have b_:∀k,1<=MQ k/\MQ k<=4:=λk=>(ex k).choose_spec.1;have ba:∀k:Nat,k<6->∃g:Int,0<g/\g<1073741824/\AR (.lst [.int 1,.int 4,.int 16,.int 64,.int 256,.int 1024]) (.int (k:Int))=.ok (.int g)/\1+cell/2%1000000000000000000000000000000000000000000000000000000000000/6/g%4%b=(MQ k:Int):=λk=>(ex k).choose_spec.2;simp(disch:=first|lia|(simp;done)|(simp;lia)) [AM,b1,Bi,OX,lim,-RB,-E3];refine Ra (m+1) (λk=>.int (MQ k:Int)) (by simp[OX,show m+1<1000000 by lia,-RB]) (by lia) (λk AL=>?_) ?_
  .obtain⟨g,g1,g2,g3,HZ⟩:=ba k (by lia);simp(disch:=first|lia|(simp;done)|(simp;lia)) [g3,HZ,lim]
  .simp;refine⟨(EY (m+1)).map MQ,⟨by simp,by simp;lia⟩,λc AO=>?_,by simp[CC]⟩;obtain⟨k,_,rfl⟩:=List.mem_map.mp AO;exact b_ k
 .obtain⟨y,Cz⟩:=L2 cell 0 (by decide);have Qa:EU [.int cell,.int 0]=.ok (.v (.int y)):=Cz;obtain⟨m,hm,em⟩:=JV y (n:=6) (by decide);have OX:(1:Int)+y%6=((m+1:Nat):Int):=by have:y%6=(m:Int):=em;lia
  obtain⟨b,vp,Bi⟩:=om y l AQ A0;have uk:AR (.lst (l.map D.int)) (.int (m:Int))=.ok (.int b):=by rw[<-Bi];congr 2;have:y%6=(m:Int):=em;lia
  have ex:∀k:Nat,∃c:Nat,(1<=c/\c<=4)/\(k<10->∃z:Int,EU [.int cell,.int (1+(k:Int))]=.ok (.v (.int z))/\1+z%b=(c:Int)):=λk=>by
   by_cases AL:k<10
   .obtain⟨z,Rc⟩:=L2 cell (1+k) (by lia);have KZ:=Xe z (show b≠0 by lia);have DS:=Xq z (show 0<b by lia);exact⟨(1+z%b).toNat,by lia,λ_=>⟨z,by rw[<-Rc];simp,by lia⟩⟩
   .exact⟨1,by lia,λh=>absurd h AL⟩
  let MQ:Nat->Nat:=λk=>(ex k).choose
  have b_:∀k,1<=MQ k/\MQ k<=4:=λk=>(ex k).choose_spec.1;have ba:∀k:Nat,k<10->∃z:Int,EU [.int cell,.int (1+(k:Int))]=.ok (.v (.int z))/\1+z%b=(MQ k:Int):=λk=>(ex k).choose_spec.2;have Om:((m+1:Nat):Int)-1=(m:Int):=by lia
  simp(disch:=first|lia|(simp;done)|(simp;lia)) [AM,Qa,OX,-RB];refine Ra (m+1) (λk=>.int (MQ k:Int)) (by simp[show m+1<1000000 by lia,-RB]) (by lia) (λk AL=>?_) ?_
  .obtain⟨z,AG,B3⟩:=ba k (by lia);simp(disch:=first|lia|(simp;done)|(simp;lia)) [AG,B3,Om,uk,-RB]
  .simp;refine⟨(EY (m+1)).map MQ,⟨by simp,by simp;lia⟩,λc AO=>?_,by simp[CC]⟩;obtain⟨k,_,rfl⟩:=List.mem_map.mp AO;exact b_ k
def kD{cs:List Nat}(h6:cs.length<=6)(HV:∀c∈cs,1<=c/\c<=4):Tp [.lst (CC cs)]=.ok (.o ((CM cs cs.length).map AZ)):=by
 apply Ends.done;have lcs:(CC cs).length=cs.length:=by simp[CC]
 simp(disch:=first|lia|(simp;done)|(simp;lia)) [Tp,c5,lim];refine OY cs.length (λj ρ=>∃s2,ρ=[.A1 (.lst (CC cs)),.C5 ((CM cs j).map AZ),s2]) (by simp[lcs,show cs.length<1000000 by lia]) ⟨.un,by simp[CM]⟩ ?_ ?_
 .rintro j _ By ⟨s5,rfl⟩;have B3:AR (.lst (CC cs)) (.int (j:Int))=.ok (.int (cs.getD j 0:Nat)):=K2 (Yi By);have nV:=dC (λc h=>(HV c h).2) j;simp;refine Ra (cs.getD j 0) (λk=>AZ (j,k)) (by simp only[JB]at B3 nV;simp[B3,show cs[j]?.getD 0<1000000 by lia]) (by lia) (λk AL=>by simp[AZ]) ?_;have JQ:=OS HV j;simp only[JB]at nV |-;simp[show(CM cs j).length+cs[j]?.getD 0<=1000000 by lia];rw[i7];simp[OV]
 .rintro _ ⟨s5,rfl⟩;simp
@[simp] theorem agy(m:B6)(ρ:AF):Q8 m ρ=(m (ES ρ)).bind λds=>if L8 ds=true/\X2 ρ=true then .ok ds else .bad:=(rfl)
def u5(ws:List (AW×AW))(w:AW×AW):ends (ws++[w])=ends ws++[w.1,w.2]:=by simp[ends]
def pC(d:D):Op (.A1 d)=true:=(rfl)
def pD(d:List D):Op (.C5 d)=true:=(rfl)
noncomputable def fh:Aq:=AU (NA 8 (P4 2 (MB (A3 CJ (A3 AR (J 7) (A5 (.int 0))) (Bs CO (A2 (J 2) (AD)))))))
    (AU (NA 9 (P4 2 (MB (A3 CJ (A3 AR (J 7) (A5 (.int 1))) (Bs CO (A2 (J 2) (AD)))))))
    (AU (GX 3 (DH (A2 (J 8) (A2 (J 9) (AD)))))
    (BN 6 (A3 Cj (J 6) (A5 (.int 2))))))
noncomputable def UY:Aq:=AU (BN 7 (BS (Q8 (C1 (A2 (Bg 2 EU (A2 (J 0) (A2 (J 6) (AD)))) (A2 (Bg 2 EU (A2 (J 0) (A2 (A3 Cj (J 6) (A5 (.int 1))) (AD)))) (AD)))))))
    (AU (Cb (BE (A3 (Bj true) (A3 CJ (J 0) (A5 (.int 2))) (A5 (.int 1)))) (AU (BN 7 (BS (Q8 (C1 (A2 (J 4) (A2 (A3 Dr (J 4) (Bs CO (A2 (J 2) (AD)))) (AD)))))))
    (BN 4 (MB (A3 Dr (A3 Dr (J 4) (Bs CO (A2 (J 2) (AD)))) (A3 Ih (Bs CO (A2 (J 2) (AD))) (A5 (.int 1))))))) (Co))
    fh)
def aE:CR:=IE (BE (A3 Od (Bs CO (A2 (J 2) (AD))) (A3 Cj (J 5) (A5 (.int 1)))))
noncomputable def MM(cell:Int)(X:D)(R:List AW)(ws:List (AW×AW))(nm kp:Int)(Dn s8 s9:Be):AF:=[.A1 (.int cell),.A1 X,.C5 (R.map AZ),.C5 (ws.map Cd),.A1 (.int nm),.A1 (.int kp),.A1 (.int ((9+2*ws.length:Nat):Int)),Dn,s8,s9]
noncomputable def i2(cell:Int)(X:D)(al:List AW)(kp:Int)(n:Nat)(ρ:AF):Prop:=∃(ws:List (AW×AW))(R:List AW)(nm:Int)(Dn s8 s9:Be),(ends ws++R).Perm al/\1<=R.length/\n=R.length/\(Op Dn=true/\Op s8=true/\Op s9=true)/\ρ=MM cell X R ws nm kp Dn s8 s9
def qT{cell:Int}{X:D}{al R:List AW}{ws:List (AW×AW)}{nm kp:Int}{s8 s9:Be}(pm:(ends ws++R).Perm al)(W0:3<=R.length)(OJ:al.length<=100)(An BG:Int) :
  Ends (fh (MM cell X R ws nm kp (.A1 (.lst [.int An,.int BG])) s8 s9)) (Jn λBJ=>∃m,m<R.length/\i2 cell X al kp m BJ):=by
 have JQ:(ends ws).length+R.length=al.length:=by have:=pm.length_eq;simpa using this
 rw[Yo]at JQ;obtain⟨CP,dV,tz⟩:=JV An (n:=R.length) (by lia);have ag7:(R.eraseIdx CP).length=R.length-1:=gX dV;obtain⟨Br,Oh,u0⟩:=JV BG (n:=(R.eraseIdx CP).length) (by lia);have zH:((R.eraseIdx CP).eraseIdx Br).length=R.length-2:=by rw[gX Oh];lia
 have DZ:AR (.lst [.int An,.int BG]) (.int 0)=.ok (.int An):=rfl;have BZ:AR (.lst [.int An,.int BG]) (.int 1)=.ok (.int BG):=rfl;have g1:=e0 AZ (i:=2) dV (by lia);have g2:=e0 AZ (i:=2) Oh (by lia);unfold MM fh;simp(disch:=first|lia|(simp;done)|(simp;lia)) [DZ,BZ,tz,g1];rw[u0];simp(disch:=first|lia|(simp;done)|(simp;lia)) [g2];refine⟨R.length-2,by lia,ws++[(R[CP],(R.eraseIdx CP)[Br])],(R.eraseIdx CP).eraseIdx Br,nm,_,_,_,?_,by lia,zH.symm,⟨rfl,rfl,rfl⟩,by simp[MM,Cd];exact⟨by lia,rfl,rfl,rfl⟩⟩;rw[u5,Uu];refine List.Perm.trans (List.Perm.append_left _ ?_) pm;exact((bQ (R.eraseIdx CP) Br Oh).cons _).trans (bQ R CP dV)
def ae5{cell:Int}{X:D}{al R:List AW}{ws:List (AW×AW)}{nm kp:Int}{Dn s8 s9:Be}(pm:(ends ws++R).Perm al)(W0:3<=R.length)(OJ:al.length<=100)(AN:Op Dn=true/\Op s8=true/\Op s9=true) :
  Ends (UY (MM cell X R ws nm kp Dn s8 s9)) (Jn λBJ=>∃m,m<R.length/\i2 cell X al kp m BJ):=by
 have JQ:(ends ws).length+R.length=al.length:=by have:=pm.length_eq;simpa using this
 rw[Yo]at JQ;obtain⟨IJ,f1⟩:=L2 cell (9+2*ws.length) (by lia);obtain⟨Il,f2⟩:=L2 cell (9+2*ws.length+1) (by lia);have jr:EU [.int cell,.int (((9+2*ws.length:Nat):Int)+1)]=.ok (.v (.int Il)):=f2;by_cases AM:cell%2=1
 .have:=qT (cell:=cell) (X:=X) (nm:=nm/R.length/((R.length:Int)-1)) (kp:=kp) (s8:=s8) (s9:=s9) pm W0 OJ nm (nm/R.length);unfold UY;unfold MM at this |-;simp(disch:=first|lia|(simp;done)|(simp;lia)) [AM,f1,jr,lim,L8,Mh,X2,pC,pD,AN.1,AN.2.1,AN.2.2,-RB];exact this
 .have:=qT (cell:=cell) (X:=X) (nm:=nm) (kp:=kp) (s8:=s8) (s9:=s9) pm W0 OJ IJ Il;unfold UY;unfold MM at this |-;simp(disch:=first|lia|(simp;done)|(simp;lia)) [AM,f1,jr,lim,L8,Mh,X2,pC,pD,AN.1,AN.2.1,AN.2.2,-RB];exact this
def ae9(cell:Int)(cs:List Nat)(h1:1<=cs.length)(h6:cs.length<=6)(HV:∀c∈cs,1<=c/\c<=4):∃ws,LG cs ws/\(∃d∈CM cs cs.length,d∉ends ws)/\SR [.int cell,.lst (CC cs)]=.ok (.o (ws.map Cd)):=by
 suffices h:Ends (SR [.int cell,.lst (CC cs)]) λb=>∃ws,LG cs ws/\(∃d∈CM cs cs.length,d∉ends ws)/\b=.o (ws.map Cd)by
  obtain⟨b,e,ws,h,h',rfl⟩:=h;exact⟨ws,h,h',e⟩
 have MH:1<=(CM cs cs.length).length:=Uj (head_mem h1 HV);have af_:=OS HV cs.length;have z4:=jP cs cs.length;have out:=kD h6 HV;obtain⟨rC,uf⟩:=L2 cell 8 (by decide);have kJ:EU [.int cell,.int 8]=.ok (.v (.int rC)):=uf;have fin:∀(nm kp:Int),1<=kp->Ends ((L1 aE UY (MM cell (.lst (CC cs)) (CM cs cs.length) [] nm kp .un .un .un)).bind λf=>(Sj (GH (JT 3)) f).bind outD) λb=>∃ws,LG cs ws/\(∃d∈CM cs cs.length,d∉ends ws)/\b=.o (ws.map Cd):=λnm kp agY=>by
  refine Yp (n:=(CM cs cs.length).length) (i2 cell (.lst (CC cs)) (CM cs cs.length) kp) ⟨[],_,nm,.un,.un,.un,.refl _,MH,rfl,⟨rfl,rfl,rfl⟩,rfl⟩ (by lia) ?_;rintro n _ ⟨ws,R,nm,Dn,s8,s9,pm,G6,rfl,AN,rfl⟩;refine⟨decide (kp+1<(R.length:Int)),by simp[aE,MM],λAv=>ae5 pm (by have:=of_decide_eq_true Av;lia) (by lia) AN,λhf=>?_⟩;simp[MM];have JQ:(ends ws).length+R.length=(CM cs cs.length).length:=by have:=pm.length_eq;simpa using this
  rw[Yo]at JQ;have Am:(ends ws++R).Nodup:=pm.nodup_iff.mpr z4;have MW:R[0]∈R:=N2 _;exact⟨ws,⟨h1,h6,HV,(List.nodup_append.mp Am).1,λd hd=>pm.mem_iff.mp (HS _ hd),by lia⟩,⟨R[0].1,R[0].2,pm.mem_iff.mp (GB _ MW),λz=>(List.nodup_append.mp Am).2.2 _ z _ MW rfl⟩,rfl⟩
 have ev:∀x:Int,1<=1+x%3/\1<=1+x%24:=λx=>by lia
 have Bi:cE=AU (EB 2 (FS 1 Tp (A2 (J 1) (AD))))
  (AU (EB 3 (C1 (AD)))
  (AU (BN 4 (A3 Dr (A3 CJ (A3 Dr (J 0) (A5 (.int 2))) (A3 Ng (A5 (.int 10)) (A5 (.int 60)))) (A5 (.int 24576))))
  (AU (BN 5 (A3 Cj (A5 (.int 1)) (A3 CJ (Bg 2 EU (A2 (J 0) (A2 (A5 (.int 8)) (AD)))) (A5 (.int 3)))))
  (AU (Cb (BE (A3 (Bj true) (A3 CJ (J 0) (A5 (.int 2))) (A5 (.int 1)))) (AU (BN 5 (A3 Cj (A5 (.int 1)) (A3 CJ (J 4) (A5 (.int 24)))))
  (BN 4 (A3 Dr (J 4) (A5 (.int 24))))) (Co))
  (AU (BN 6 (A5 (.int 9)))
  (AU (L1 aE UY) (GH (JT 3)))))))):=rfl
 have key:∀T:CI->Prop,(∀nm kp:Int,1<=kp->Ends ((L1 aE UY (MM cell (.lst (CC cs)) (CM cs cs.length) [] nm kp .un .un .un)).bind λf=>(Sj (GH (JT 3)) f).bind outD) T)->Ends (SR [.int cell,.lst (CC cs)]) T:=λT h=>by
  by_cases AM:cell%2=1
  .have:=h (cell/2%1000000000000000000000000000000000000000000000000000000000000/24576/24) (1+cell/2%1000000000000000000000000000000000000000000000000000000000000/24576%24) (ev _).2;simp(disch:=first|lia|(simp;done)|(simp;lia)) [SR,Bi,out,lim,b1,kJ,AM];exact this
  .have:=h (cell/2%1000000000000000000000000000000000000000000000000000000000000/24576) (1+rC%3) (ev _).1;simp(disch:=first|lia|(simp;done)|(simp;lia)) [SR,Bi,out,lim,b1,kJ,AM];exact this
 exact key _ fin
def NK(c:Nat):Prop:=c=48\/c=49\/c=120
structure MK(x:Str):Prop where
 l:x.cps.toList.length=4
 s:∀c∈x.cps.toList,NK c
def aba{c:Nat}(h:NK c):inD true (GI c) TF=.ok (.Aa true):=by rcases h with h|h|h<;>subst h<;>rfl
def len_str(x:Str)(h:x.cps.toList.length<=1000):CO [.str x]=.ok (.int (x.cps.toList.length:Int)):=by
 have e:x.length=x.cps.toList.length:=rfl;have AG:x.length<=1000000:=by lia
 rw[<-e];simp only[CO,if_pos AG]
def xA(x:Str):M9 "str" (.str x)=.ok (.Aa true):=rfl
def adi:CO [Pi]=.ok (.int 4):=rfl
def aa1{x:Str}(h:MK x):Za [.str x]=.ok (.v (.Aa true)):=by apply Ends.done;have l:=h.l;simp[Za,hj,xA,len_str x (by lia),adi,l];refine Tw GI x.cps.toList (λ_=>.Aa true) (by simp) (by lia) (λc AO=>by simp[aba (h.s c AO)]) ?_;have a:=VS (λ_:Nat=>true) x.cps.toList;simp only[a];simp
def sf{x y:Str}(h:x.length+y.length<=1000000):Cj (.str x) (.str y)=.ok (.str (x++y)):=if_pos h
def tK(x:Str)(c:Nat):(x++(⟨#[c]⟩:Str)).cps.toList=x.cps.toList++[c]:=by show(x.cps++ #[c]).toList=_;simp
structure DK where
 p:Str
 a:Option Nat
 b:Option Nat
def Gl:Option Nat->D
 |none=>.non
 |some k=>.int (k:Int)
def G8(r:DK):D:=.tup [.str r.p,Gl r.a,Gl r.b]
structure S1(c:Nat)(r:DK):Prop where
 p:MK r.p
 b:∀k,r.b=some k->k<c
def Df(b:List DK):D:=.lst (b.map G8)
def MC(c:Nat)(b:List DK):Prop:=b.length<=12/\∀r∈b,S1 c r
def ku{cs:List Nat}(h:∀c∈cs,1<=c/\c<=4){k:Nat}(AL:k<cs.length):1<=cs.getD k 0/\cs.getD k 0<=4:=by have:=h (cs[k]) (N2 _);simpa[AL]using this
def p9{I:AF->Prop}{x:Str}{c j:Nat}(AQ:x.cps.toList.length=j)(AN:∀c∈x.cps.toList,NK c)(AO:NK c)(By:j<4):Cj (.str x) (.str ⟨#[c]⟩)=.ok (.str (x++(⟨#[c]⟩:Str)))/\(x++(⟨#[c]⟩:Str)).cps.toList.length=j+1/\∀d∈(x++(⟨#[c]⟩:Str)).cps.toList,NK d:=by
 have xn:x.length+(⟨#[c]⟩:Str).length<=1000000:=by
  have h1:x.length=x.cps.toList.length:=rfl;have h2:(⟨#[c]⟩:Str).length=1:=rfl
  lia
 have ca:=tK x c;refine⟨sf xn,by rw[ca];simp only[JG,AQ,Hk,N3],λd hd=>?_⟩;rw[ca]at hd;rcases List.mem_append.mp hd with h|h
 .exact AN d h
 .rw[List.mem_singleton.mp h];exact AO
def abP(y:Int):∃c,NK c/\AR (.lst [.str (BU "x"),.str (BU "x"),.str (BU "0"),.str (BU "1"),.str (BU "x")]) (.int (y%5))=.ok (.str ⟨#[c]⟩):=by
 have h:y%5=0\/y%5=1\/y%5=2\/y%5=3\/y%5=4:=by lia
 rcases h with h|h|h|h|h<;>rw[h]
 .exact⟨120,.inr (.inr rfl),rfl⟩
 .exact⟨120,.inr (.inr rfl),rfl⟩
 .exact⟨48,.inl rfl,rfl⟩
 .exact⟨49,.inr (.inl rfl),rfl⟩
 .exact⟨120,.inr (.inr rfl),rfl⟩
def abO(y:Int):∃c,NK c/\AR (.str (BU "01x")) (.int (y%3))=.ok (.str ⟨#[c]⟩):=by
 have h:y%3=0\/y%3=1\/y%3=2:=by lia
 rcases h with h|h|h<;>rw[h]
 .exact⟨48,.inl rfl,rfl⟩
 .exact⟨49,.inr (.inl rfl),rfl⟩
 .exact⟨120,.inr (.inr rfl),rfl⟩
def Zg:(BU "").cps.toList.length=0/\∀c∈(BU "").cps.toList,NK c:=⟨by decide,λc h=>nomatch (show c∈([]:List Nat)from h)⟩
def acJ(cell:Int)(k:Nat)(AL:k<900)(c:Nat)(AO:1<=c)(uz:c<=4):∃r,S1 c r/\P5 [.int cell,.int k,.int (c:Int)]=.ok (.v (G8 r)):=by
 suffices h:Ends (P5 [.int cell,.int k,.int (c:Int)]) λb=>∃r,S1 c r/\b=.v (G8 r)by
  obtain⟨b,e,p,h,rfl⟩:=h;exact⟨p,h,e⟩
 obtain⟨y,Cz⟩:=L2 cell k (by lia);have key:∀T:CI->Prop,(∀(r:DK),S1 c r->T (.v (G8 r)))->Ends (P5 [.int cell,.int k,.int (c:Int)]) T:=λT CW=>by
  simp(disch:=first|lia|(simp;done)|(simp;lia)) [P5,cB,Cz];refine OY 4 (λj ρ=>∃(z:Int)(x:Str)(s5:Be),x.cps.toList.length=j/\(∀c∈x.cps.toList,NK c)/\ρ=[.A1 (.int cell),.A1 (.int k),.A1 (.int c),.A1 (.int z),.A1 (.str x),s5,.un,.un]) (by simp;exact Sf 4 (by decide)) ⟨y,BU "",.un,Zg.1,Zg.2,rfl⟩ ?_ ?_
  .rintro j _ By ⟨z,x,s2,AQ,AN,rfl⟩;obtain⟨d,hd,e⟩:=abP z;obtain⟨A9,AG,B3⟩:=p9 (I:=λ_=>True) AQ AN hd By;simp(disch:=first|lia|(simp;done)|(simp;lia)) [e,A9,lim];exact⟨_,_,by simpa using AG,by simpa using B3,rfl,rfl⟩
  .rintro _ ⟨z,x,s5,AQ,AN,rfl⟩;obtain⟨An,afn,eq1⟩:=JV (z/3) (n:=c) (by lia);obtain⟨BG,Rm,eq2⟩:=JV (z/20) (n:=c) (by lia);by_cases h3:z%3=0<;>by_cases h9:z/100%9=0<;>simp(disch:=first|lia|(simp;done)|(simp;lia)) [h3,h9,eq1,eq2]
   .exact CW ⟨x,some An,none⟩ ⟨⟨AQ,AN⟩,λ_ h=>nomatch h⟩
   .exact CW ⟨x,some An,some BG⟩ ⟨⟨AQ,AN⟩,λk h=>by cases h;exact Rm⟩
   .exact CW ⟨x,none,none⟩ ⟨⟨AQ,AN⟩,λ_ h=>nomatch h⟩
   .exact CW ⟨x,none,some BG⟩ ⟨⟨AQ,AN⟩,λk h=>by cases h;exact Rm⟩
 exact key _ λr AI=>⟨r,AI,rfl⟩
def choice(c:Nat)(y:Int):∃o:Option Nat,(∀k,o=some k->k<c)/\AR (.lst (D.non::G7 0 c)) (.int (y%((c:Int)+1)))=.ok (Gl o):=by
 obtain⟨k,AL,e⟩:=JV y (n:=c+1) (by lia);have e:y%((c:Int)+1)=(k:Int):=by rw[<-e];simp
 rw[e];cases k with
 |zero=>exact⟨none,(λ_ h=>nomatch h),K2 rfl⟩
 |succ k=>exact⟨some k,(λj h=>by cases h;lia),K2 (by simp[G7,Gl,Ux (show k<c by lia)])⟩
def vW(y:Int)(c:Nat)(AO:1<=c)(uz:c<=4):∃b,MC c b/\SP [.int y,.int (c:Int)]=.ok (.o (b.map G8)):=by
 suffices h:Ends (SP [.int y,.int (c:Int)]) λt=>∃b,MC c b/\t=.o (b.map G8)by
  obtain⟨t,e,p,h,rfl⟩:=h;exact⟨p,h,e⟩
 have key:∀T:CI->Prop,(∀b,MC c b->T (.o (b.map G8)))->Ends (SP [.int y,.int (c:Int)]) T:=λT CW=>by
  obtain⟨m,hm,em⟩:=JV y (n:=13) (by decide);have em:y%13=(m:Int):=em;simp(disch:=first|lia|(simp;done)|(simp;lia)) [SP,c7,lim,em];refine OY m (λj ρ=>∃(z:Int)(b:List DK)(s5 Gx Dn:Be),b.length=j/\(∀r∈b,S1 c r)/\ρ=[.A1 (.int z),.A1 (.int c),.C5 (b.map G8),.A1 (.int m),.A1 (.lst (D.non::G7 0 c)),s5,Gx,Dn]) (by simp;exact Sf m (by lia)) ⟨y/13,[],.un,.un,.un,rfl,(λ_ h=>nomatch h),rfl⟩ ?_ ?_
  .rintro j _ By ⟨z,b,s5,Gx,Dn,AQ,A0,rfl⟩;simp;refine OY 4 (λj ρ=>∃(z:Int)(x:Str)(s5 Dn:Be),x.cps.toList.length=j/\(∀c∈x.cps.toList,NK c)/\ρ=[.A1 (.int z),.A1 (.int c),.C5 (b.map G8),.A1 (.int m),.A1 (.lst (D.non::G7 0 c)),s5,.A1 (.str x),Dn]) (by simp;exact Sf 4 (by decide)) ⟨z,BU "",_,_,Zg.1,Zg.2,rfl⟩ ?_ ?_
   .rintro j _ By ⟨z,x,s5,Dn,AQ,AN,rfl⟩;obtain⟨d,hd,e⟩:=abO z;obtain⟨A9,AG,B3⟩:=p9 (I:=λ_=>True) AQ AN hd By;simp(disch:=first|lia|(simp;done)|(simp;lia)) [e,A9];exact⟨_,_,by simpa using AG,by simpa using B3,rfl,rfl⟩
   .rintro _ ⟨z,x,s5,Dn,M1,AN,rfl⟩;obtain⟨Cw,h1,BZ⟩:=choice c z;obtain⟨DA,h2,C0⟩:=choice c (z/((c:Int)+1));simp(disch:=first|lia|(simp;done)|(simp;lia)) [BZ,C0];refine⟨_,b++[⟨x,Cw,DA⟩],by simp[AQ],λr AI=>?_,rfl,by simp[G8]⟩;rcases List.mem_append.mp AI with h|h
    .exact A0 r h
    .rw[List.mem_singleton.mp h];exact⟨⟨M1,AN⟩,h2⟩
  .rintro _ ⟨z,b,s5,Gx,Dn,AQ,A0,rfl⟩;simp;exact CW b ⟨by lia,A0⟩
 exact key _ λb A0=>⟨b,A0,rfl⟩
def ne_nil{l:List D}(h:l.all (okN 7)=true):Bj false (.lst l) (.lst [])=.ok (.Aa (!l.isEmpty)):=by unfold Bj;have:okN 8 (.lst l)=true:=h;cases l<;>simp_all[okN,Cv,F3]
def UJ(zs:List Int):(zs.map D.int).all (okN 7)=true:=by simp[okN]
structure GZ(cs:List Nat)(bs:List (List DK)):Prop where
 l:bs.length=cs.length
 b:∀(i:Nat) b,bs[i]?=some b->MC (cs.getD i 0) b
noncomputable def h_:Aq:=AU (BN 5 (A3 Cj (J 5) (A3 Mf (A5 (.int 3)) (J 4))))
    (AU (BN 6 (A3 AR (BS (C1 (A2 (A5 (.int 1)) (A2 (A5 (.int 2)) (A2 (A5 (.int 3)) (A2 (A5 (.int 0)) (A2 (A5 (.int 2)) (A2 (A5 (.int 4)) (A2 (A5 (.int 12)) (AD)))))))))) (A3 CJ (Bg 2 EU (A2 (J 5) (A2 (A5 (.int 3)) (AD)))) (A5 (.int 7)))))
    (GX 3 (BS (Dm 1 [5,1,4,2] (Fh (A2 (J 6) (AD))) (BL 0) (F5) (Bg 3 P5 (A2 (J 1) (A2 (A3 Cj (A3 Cj (A5 (.int 4)) (J 4)) (A3 Mf (A5 (.int 3)) (J 0))) (A2 (A3 AR (J 2) (J 3)) (AD)))))))))
def Rs(Z:D)(cs:List Nat)(Hy:Nat)(bs:List (List DK))(s4 s5 Gx:Be):AF:=[.A1 Z,.A1 (.lst (CC cs)),.A1 (.int (Hy:Int)),.C5 (bs.map Df),s4,s5,Gx]
def iU(Z:D)(cs:List Nat)(Hy:Nat)(j:Nat)(ρ:AF):Prop:=∃(bs:List (List DK))(s4 s5 Gx:Be),bs.length=j/\(∀(i:Nat) b,bs[i]?=some b->MC (cs.getD i 0) b)/\ρ=Rs Z cs Hy bs s4 s5 Gx
def oB{cs:List Nat}{bs:List (List DK)}{b:List DK}(A0:∀(i:Nat) b,bs[i]?=some b->MC (cs.getD i 0) b)(dJ:MC (cs.getD bs.length 0) b):∀(i:Nat) x,(bs++[b])[i]?=some x->MC (cs.getD i 0) x:=λi x e=>by
 by_cases AC:i<bs.length
 .rw[Mx AC]at e;exact A0 i x e
 .rw[Nw (by lia)]at e;have z:i-bs.length=0:=by
   have:=(List.getElem?_eq_some_iff.mp e).1;simpa using this
  rw[z]at e;simp at e;subst e;rw[show i=bs.length by lia];exact dJ
def ta{Z:D}{cs:List Nat}(HV:∀c∈cs,1<=c/\c<=4)(h6:cs.length<=6){Hy:Nat}(Zv:Hy<=1){bs:List (List DK)}(By:bs.length<cs.length)(A0:∀(i:Nat) b,bs[i]?=some b->MC (cs.getD i 0) b)(cell:Int)(Gx:Be):Ends (h_ (Rs Z cs Hy bs (.A1 (.int (bs.length:Int))) (.A1 (.int cell)) Gx)) (Jn (iU Z cs Hy (bs.length+1))):=by
 have B3:AR (.lst (CC cs)) (.int (bs.length:Int))=.ok (.int (cs.getD bs.length 0:Nat)):=K2 (Yi By);obtain⟨BX,Jx⟩:=ku HV By;have put:=λb=>oB (cs:=cs) (bs:=bs) (b:=b) A0;generalize cs.getD bs.length 0=c at B3 BX Jx put;obtain⟨y,Cz⟩:=L2 (cell+3*(bs.length:Int)) 3 (by decide);have Qa:EU [.int (cell+3*(bs.length:Int)),.int 3]=.ok (.v (.int y)):=Cz;obtain⟨m,hm,em⟩:∃m:Nat,m<=12/\AR (.lst [.int 1,.int 2,.int 3,.int 0,.int 2,.int 4,.int 12]) (.int (y%7))=.ok (.int (m:Int)):=by obtain⟨f,hf,Cs⟩:=az [1,2,3,0,2,4,12] y (n:=7) rfl (by decide);have f0:=(by decide:∀f∈([1,2,3,0,2,4,12]:List Int),0<=f/\f<=12) f hf;exact⟨f.toNat,by lia,by rw[show((f.toNat:Nat):Int)=f by lia];exact Cs⟩
 have ex:∀k:Nat,∃r:DK,k<13->S1 (c) r/\P5 [.int (cell+3*(bs.length:Int)),.int (4+(Hy:Int)+3*(k:Int)),.int (c:Nat)]=.ok (.v (G8 r)):=λk=>by
  by_cases AL:k<13
  .obtain⟨r,AI,CN⟩:=acJ (cell+3*(bs.length:Int)) (4+Hy+3*k) (by lia) (c) BX Jx;exact⟨r,λ_=>⟨AI,by rw[<-CN];simp⟩⟩
  .exact⟨⟨BU "",none,none⟩,λh=>absurd h AL⟩
 let b9:Nat->DK:=λk=>(ex k).choose
 have pY:∀k,k<13->S1 (c) (b9 k)/\P5 [.int (cell+3*(bs.length:Int)),.int (4+(Hy:Int)+3*(k:Int)),.int (c:Nat)]=.ok (.v (G8 (b9 k))):=λk=>(ex k).choose_spec;unfold h_ Rs;simp(disch:=first|lia|(simp;done)|(simp;lia)) [lim,Qa,em];refine Ra m (λk=>G8 (b9 k)) (by simp[show m<1000000 by lia]) (by lia) (λk AL=>?_) ?_
 .have:=(pY k (by lia)).2;simp(disch:=first|lia|(simp;done)|(simp;lia)) [B3,this]
 .simp(disch:=first|lia|(simp;done)|(simp;lia));exact⟨bs++[(EY m).map b9],_,_,_,by simp,put _ ⟨by simp;lia,λr AI=>by obtain⟨k,AL,rfl⟩:=List.mem_map.mp AI;exact(pY k (by have:=List.mem_range.mp AL;lia)).1⟩,by simp[Rs,Df];exact⟨rfl,rfl,rfl⟩⟩
def j3(zs:List Int)(Hy:Nat)(Zv:Hy<=1)(cs:List Nat)(h1:1<=cs.length)(h6:cs.length<=6)(HV:∀c∈cs,1<=c/\c<=4):∃bs,GZ cs bs/\QJ [.lst (zs.map D.int),.lst (CC cs),.int (Hy:Int)]=.ok (.o (bs.map Df)):=by
 suffices h:Ends (QJ [.lst (zs.map D.int),.lst (CC cs),.int (Hy:Int)]) λb=>∃bs,GZ cs bs/\b=.o (bs.map Df)by
  obtain⟨b,e,bs,h,rfl⟩:=h;exact⟨bs,h,e⟩
 have lcs:(CC cs).length=cs.length:=by simp[CC]
 have ne:=ne_nil (UJ zs)
 have Bi:c2=AU (EB 3 (C1 (AD)))
  (AU (E0 (Fh (A2 (Bs CO (A2 (J 1) (AD))) (AD))) (BL 4) (AU (BN 5 (A3 Cj (A3 Cj (A5 (.int 17)) (A3 Mf (A5 (.int 5)) (J 4))) (J 2)))
  (AU (Cb (BE (A3 (Bj false) (J 0) (BS (C1 (AD))))) (BN 5 (A3 AR (J 0) (A3 CJ (A3 Cj (J 4) (J 2)) (Bs CO (A2 (J 0) (AD)))))) (Co))
  (Cb (Gv (BE (A3 (Bj false) (J 0) (BS (C1 (AD))))) (BE (A3 (Bj true) (A3 CJ (J 5) (A5 (.int 2))) (A5 (.int 1))))) (GX 3 (BS (FS 2 SP (A2 (A3 CJ (A3 Dr (J 5) (A5 (.int 2))) (A3 Ng (A5 (.int 10)) (A5 (.int 60)))) (A2 (A3 AR (J 1) (J 4)) (AD)))))) h_))))
  (GH (JT 3))):=rfl
 simp only[QJ,Bi];simp[lim];refine OY cs.length (iU (.lst (zs.map D.int)) cs Hy) (by simp[lcs,show cs.length<1000000 by lia]) ⟨[],.un,.un,.un,rfl,(λi b e=>by simp at e),rfl⟩ ?_ ?_
 .rintro j _ By ⟨bs,s4,s5,Gx,rfl,A0,rfl⟩;have B3:AR (.lst (CC cs)) (.int (bs.length:Int))=.ok (.int (cs.getD bs.length 0:Nat)):=K2 (Yi By);obtain⟨BX,Jx⟩:=ku HV By;have put:=λb=>oB (cs:=cs) (bs:=bs) (b:=b) A0;have tail:=λcell=>ta (Z:=.lst (zs.map D.int)) HV h6 Zv By A0 cell Gx;generalize cs.getD bs.length 0=c at B3 BX Jx put;unfold Rs at tail |-;cases zs with
  |nil=>simp only[PP]at ne tail |-;have ne:Bj false (.lst []) (.lst [])=.ok (.Aa false):=ne;simp(disch:=first|lia|(simp;done)|(simp;lia)) [lim,ne];exact tail _
  |cons z zs=>
   have ne:Bj false (.lst ((z::zs).map D.int)) (.lst [])=.ok (.Aa true):=ne;obtain⟨k,AL,DY⟩:=JV ((bs.length:Int)+(Hy:Int)) (n:=(z::zs).length) (by simp);have Tv:((bs.length:Int)+(Hy:Int))%(((z::zs).map D.int).length:Int)=(k:Int):=by rw[Fw];exact DY
   have UD:AR (.lst ((z::zs).map D.int)) (.int (k:Int))=.ok (.int (z::zs)[k]):=K2 (by rw[ER,E8 AL];rfl);generalize(z::zs)[k]=cell at UD;generalize(z::zs).map D.int=Z at ne Tv UD tail;have afU:0<(Z.length:Int):=by
    cases Z with
    |nil=>cases ne
    |cons _ _=>simp
   by_cases AM:cell%2=1
   .obtain⟨b,dJ,Cs⟩:=vW (cell/2%1000000000000000000000000000000000000000000000000000000000000) c BX Jx;simp(disch:=first|lia|(simp;done)|(simp;lia)) [lim,ne,Tv,UD,AM,b1,B3,Cs];exact⟨bs++[b],_,_,_,by simp,put _ dJ,by simp[Rs,Df];exact⟨rfl,rfl,rfl⟩⟩
   .simp(disch:=first|lia|(simp;done)|(simp;lia)) [lim,ne,Tv,UD,AM];exact tail _
 .rintro _ ⟨bs,s4,s5,Gx,AQ,A0,rfl⟩;simp[Rs];exact⟨bs,⟨AQ,A0⟩,rfl⟩
def t_(ns:List Int)(cs:List Nat)(h1:1<=cs.length)(h6:cs.length<=6)(HV:∀c∈cs,1<=c/\c<=4):∃os nw,GZ cs os/\GZ cs nw/\Tk [.Cc (ns.map D.int),.lst (CC cs)]=.ok (.v (.tup [.lst (os.map Df),.lst (nw.map Df)])):=by
 suffices h:Ends (Tk [.Cc (ns.map D.int),.lst (CC cs)]) λb=>∃os nw,GZ cs os/\GZ cs nw/\b=.v (.tup [.lst (os.map Df),.lst (nw.map Df)])by
  obtain⟨b,e,os,nw,h,h',rfl⟩:=h;exact⟨os,nw,h,h',e⟩
 have lcs:(CC cs).length=cs.length:=by simp[CC]
 obtain⟨os,PB,A9⟩:=j3 (G2 ns (some 2) (some 9)) 0 (by decide) cs h1 h6 HV;obtain⟨nw,di,AG⟩:=j3 (G2 ns (some 9) (some 16)) 1 (by decide) cs h1 h6 HV;have Ew:QJ [.lst (G2 (ns.map D.int) (some 2) (some 9)),.lst (CC cs),.int 0]=.ok (.o (os.map Df)):=by rw[k7];exact A9
 have MR:QJ [.lst (G2 (ns.map D.int) (some 9) (some 16)),.lst (CC cs),.int 1]=.ok (.o (nw.map Df)):=by rw[k7];exact AG
 obtain⟨BX,tx⟩:=VZ ns 1;have kL:Ib [.Cc (ns.map D.int),.int 1]=.ok (.v (.int BX)):=tx;have key:∀T:CI->Prop,(∀nw,GZ cs nw->T (.v (.tup [.lst (os.map Df),.lst (nw.map Df)])))->Ends (Tk [.Cc (ns.map D.int),.lst (CC cs)]) T:=λT CW=>by
  simp(disch:=first|lia|(simp;done)|(simp;lia)) [Tk,c3,Ew,MR];refine OY cs.length (λj ρ=>∃(nw:List (List DK))(s4:Be),GZ cs nw/\ρ=[.A1 (.Cc (ns.map D.int)),.A1 (.lst (CC cs)),.A1 (.lst (os.map Df)),.C5 (nw.map Df),s4]) (by simp[lcs,show cs.length<1000000 by lia]) ⟨nw,.un,di,rfl⟩ ?_ ?_
  .rintro j _ By ⟨nw,s4,ok,rfl⟩;obtain⟨y,Cz⟩:=L2 BX j (by lia);have lo:=PB.l;have ln:=ok.l;have UD:AR (.lst (os.map Df)) (.int (j:Int))=.ok (Df os[j]):=K2 (by simp[show j<os.length by lia]);by_cases h4:y%4=0
   .simp(disch:=first|lia|(simp;done)|(simp;lia)) [kL,Cz,h4,UD,P3,Df];rw[aav (by simp;lia)];simp;refine⟨nw.set j os[j],⟨by simp[ln],λi b e=>?_⟩,by simp[List.map_set,Df]⟩;rw[hH]at e
    split at e
    .rename_i WV;subst WV;rw[if_pos (by lia)]at e;cases e;exact PB.b j _ (E8 _)
    .exact ok.b i b e
   .simp(disch:=first|lia|(simp;done)|(simp;lia)) [kL,Cz,h4];exact⟨nw,ok,rfl⟩
  .rintro _ ⟨nw,s4,ok,rfl⟩;simp(disch:=first|lia|(simp;done)|(simp;lia)) [Hv];exact CW nw ok
 exact key _ λnw h=>⟨os,nw,PB,h,rfl⟩
def sB(ns:List Int):∃cs ws os nw,LG cs ws/\(∃d∈CM cs cs.length,d∉ends ws)/\GZ cs os/\GZ cs nw/\Tj [.Cc (ns.map D.int)]=.ok (.v (.tup [.lst (CC cs),.lst (ws.map Cd),.lst (os.map Df),.lst (nw.map Df)])):=by obtain⟨Jw,DG⟩:=VZ ns 0;obtain⟨BX,A9⟩:=VZ ns 1;have uc:Ib [.Cc (ns.map D.int),.int 0]=.ok (.v (.int Jw)):=DG;have Ew:Ib [.Cc (ns.map D.int),.int 1]=.ok (.v (.int BX)):=A9;obtain⟨y,Cz⟩:=L2 BX 11 (by decide);have Qa:EU [.int BX,.int 11]=.ok (.v (.int y)):=Cz;obtain⟨cs,⟨h1,h6⟩,HV,ec⟩:=tI Jw (y%4==0);obtain⟨ws,Ef,ex,HX⟩:=ae9 Jw cs h1 h6 HV;obtain⟨os,nw,PB,di,Bi⟩:=t_ ns cs h1 h6 HV;refine⟨cs,ws,os,nw,Ef,ex,PB,di,?_⟩;simp(disch:=first|lia|(simp;done)|(simp;lia)) [Tj,c0,uc,Ew,Qa,ec,HX,Bi,Md]
@[simp] theorem ah2(m n:Ag)(ρ:AF):W7 m n ρ=(m ρ).bind λd=>match d with
  |.B7 ks ds=>(n ρ).bind λk=>match J8 k with
   |some kk=>.ok ((findD ks ds kk).getD .non)
   |none=>.bad
  |_=>.bad:=(rfl)
def sg(i:Int):Z_ [.int i]=.ok (.v (.Aa (decide (0<=i)&&decide (i<=15)))):=by simp[Z_,hh,fi,TB]
def OU(a w:Nat):Nat:=48+a/w%2
def NV(p:Str)(a:Nat):Bool:=(p.cps.toList.zip [8,4,2,1]).all λq=>decide (q.1=120\/q.1=OU a q.2)
def aci(b:Nat)(h:b=0\/b=1):UV [.int (b:Int)]=.ok (.str ⟨#[48+b]⟩):=by rcases h with rfl|rfl<;>rfl
def sign_eq(c d:Nat):Cv (.str ⟨#[d]⟩) (GI c)=decide (c=d):=by show Cv (.str ⟨#[d]⟩) (.str ⟨#[c]⟩)=_;simp only[Cv];rw[N5,beq_iff_eq,decide_eq_true_iff];simp;exact eq_comm
def acj:BU "x"=⟨#[120]⟩:=by decide
def xd(c d:Nat):inD true (GI c) (.tup [.str (BU "x"),.str ⟨#[d]⟩])=.ok (.Aa (decide (c=120\/c=d))):=by have o:okN 7 (GI c)=true:=rfl;have Cw:okN 7 (.str (BU "x"))=true:=rfl;have DA:okN 7 (.str ⟨#[d]⟩)=true:=rfl;have s:Oo (.tup [.str (BU "x"),.str ⟨#[d]⟩])=some [.str (BU "x"),.str ⟨#[d]⟩]:=rfl;simp only[inD,s,o,Cw,DA,R6,List.all_nil,Uy,and_self,if_true,Nx,List.any_nil,Bool.or_false];rw[acj,sign_eq,sign_eq];simp
def uO{p:Str}(Ad:MK p){a:Nat}(AB:a<16):Ti [.str p,.int (a:Int)]=.ok (.v (.Aa (NV p a))):=by
 apply Ends.done;have l:=Ad.l;simp[Ti,hg,aa1 Ad,sg,show(a:Int)<=15 by lia];refine u2 (λq:Nat×Nat=>GI q.1) (λq=>.int (q.2:Int)) (p.cps.toList.zip [8,4,2,1]) (λq=>.Aa (decide (q.1=120\/q.1=OU a q.2))) ?_ (by simp;lia) (λq AX=>?_) ?_
 .show R.ok (SN p.cps.toList [.int 8,.int 4,.int 2,.int 1])=_;unfold SN;rw[show([.int 8,.int 4,.int 2,.int 1]:List D)=([8,4,2,1]:List Nat).map λ(n:Nat)=>D.int (n:Int)from rfl,List.zip_map_right,IK];rfl
 .have hw:q.2=8\/q.2=4\/q.2=2\/q.2=1:=by
    have:=(Xb (show(q.1,q.2)∈_ from AX)).2;simpa using this
  have Om:UV [.int ((a:Int)/(q.2:Int)%2)]=.ok (.str ⟨#[48+a/q.2%2]⟩):=by have:=aci (a/q.2%2) (by lia);rw[<-this];simp
  simp(disch:=first|lia|(simp;done)|(simp;lia)) [Om,xd,OU];rw[N5];simp;exact decide_eq_true_iff.symm
 .have al:=VS (λq:Nat×Nat=>decide (q.1=120\/q.1=OU a q.2)) (p.cps.toList.zip [8,4,2,1]);simp only[al];simp[NV]
def mt(d a:Nat)(r:DK):Bool:=(r.a.isNone||r.a==some d)&&NV r.p a
def m1(o:Option Nat):K1 (Gl o)=o.isNone:=by cases o<;>rfl
def jn(o:Option Nat)(d:Nat):Bj true (Gl o) (.int (d:Int))=.ok (.Aa (o==some d)):=by
 cases o with
 |none=>rfl
 |some k=>
  show R.ok (D.Aa ((k:Int)==(d:Int)))=_
  congr 2
  rw[N5];simp
  lia
def adm(mi:B6)(set:D->AF->R AF)(body:Aq)(ρ:AF):E0 mi set body ρ=(mi ρ).bind λds=>IX set body ds ρ:=(rfl)
def Ja(d a:Nat):Nat->List DK->Option Nat
 |_,[]=>none
 |i,r::rs=>if mt d a r=true then some i else Ja d a (i+1) rs
theorem ql{d a:Nat}(AB:a<16):∀(rs:List DK)(i:Nat)(s0 s3 s4:Be),(∀r∈rs,MK r.p)->
  Ends ((IX (Fj [BL 3,BL 4]) (Cb (Gv (JS (BE (A3 (Fs true) (A3 AR (J 4) (A5 (.int 1))) (A5 .non))) (BE (A3 (Bj true) (A3 AR (J 4) (A5 (.int 1))) (J 1)))) (BE (Bg 2 Ti (A2 (A3 AR (J 4) (A5 (.int 0))) (A2 (J 2) (AD)))))) (D0 (J 3)) (Co)) ((rs.zipIdx i).map λp=>.tup [.int (p.2:Int),G8 p.1]) [s0,.A1 (.int (d:Int)),.A1 (.int (a:Int)),s3,s4]).bind (Sj (D0 (A5 .non)))) (· =.E6 (Gl (Ja d a i rs)))
 |[],i,s0,s3,s4,_=>by simp[Ja,Gl]
 |r::rs,i,s0,s3,s4,h=>by
  have DZ:AR (G8 r) (.int 0)=.ok (.str r.p):=rfl;have BZ:AR (G8 r) (.int 1)=.ok (Gl r.a):=rfl;have C6:=ql (d:=d) AB rs (i+1) s0 (.A1 (.int (i:Int))) (.A1 (G8 r)) λx AH=>h x (Fv _ AH);have f:=uO (h r Ms) AB;have bd:(Cb (Gv (JS (BE (A3 (Fs true) (A3 AR (J 4) (A5 (.int 1))) (A5 .non))) (BE (A3 (Bj true) (A3 AR (J 4) (A5 (.int 1))) (J 1)))) (BE (Bg 2 Ti (A2 (A3 AR (J 4) (A5 (.int 0))) (A2 (J 2) (AD)))))) (D0 (J 3)) (Co)) [s0,.A1 (.int (d:Int)),.A1 (.int (a:Int)),.A1 (.int (i:Int)),.A1 (G8 r)]=if mt d a r=true then .ok (.E6 (.int (i:Int)))else .ok (.BC [s0,.A1 (.int (d:Int)),.A1 (.int (a:Int)),.A1 (.int (i:Int)),.A1 (G8 r)]):=by unfold mt;have An:=m1 r.a;have BG:=jn r.a d;generalize r.a.isNone=H9 at An |-;generalize(r.a==some d)=H4 at BG |-;generalize NV r.p a=Z5 at f |-;cases H9<;>cases H4<;>cases Z5<;>simp[DZ,BZ,An,BG,f]
  rw[R1,E3,IX];simp only[ac3,ac0,ac1,adu,Hk,N3,BV];simp only[show(3:Nat)<0+1+1+1+1+1 by decide,if_true,BV,List.set_cons_succ,List.set_cons_zero,Hk,N3,show(4:Nat)<0+1+1+1+1+1 by decide,bd];cases hm:mt d a r with
  |true=>simp[Ja,hm,Gl]
  |false=>simp only[Hj,if_false,BV,Ja,hm];exact C6
def ac_{b:List DK}(A0:∀r∈b,MK r.p)(d a:Nat)(AB:a<16):Zd [Df b,.int (d:Int),.int (a:Int)]=.ok (.v (Gl (Ja d a 0 b))):=by apply Ends.done;have e:Tz [Df b]=.ok (b.zipIdx.map λp=>.tup [.int (p.2:Int),G8 p.1]):=uB G8 b;have k:=ql (d:=d) AB b 0 (.A1 (Df b)) .un .un A0;obtain⟨f,hf,rfl⟩:=k;simp only[Zd,adl,cI,EC,adm,adn,Le,v_var,Nr];have z:b7 (J6 5 [Df b,.int (d:Int),.int (a:Int)])[0]?=.ok (Df b):=rfl;simp only[z,BV,e];have Db:J6 5 [Df b,.int (d:Int),.int (a:Int)]=[.A1 (Df b),.A1 (.int (d:Int)),.A1 (.int (a:Int)),.un,.un]:=rfl;rw[Db,hf];simp
def Dd(cs:List Nat)(ws:List (AW×AW)):D:=.ins "Net" ["many","counts","joined","far"] [.int (cs.length:Nat),.tup (CC cs),.tup (ws.map Cd),.B7 (FN ws) (Fc ws)]
def st(s:String):D:=.str (BU s)
inductive On where
 |drop|out (o:Nat)|to (e:AW)
def pairsOf(ws:List (AW×AW)):List (AW×AW):=ws.flatMap λw=>[(w.1,w.2),(w.2,w.1)]
def IS(ws:List (AW×AW))(d:AW):Option AW:=((pairsOf ws).find? λp=>decide (p.1=d)).map (·.2)
theorem rE:∀ws:List (AW×AW),(FN ws).zip (Fc ws)=(pairsOf ws).map λp=>(ID p.1,AZ p.2)
 |[]=>rfl
 |w::ws=>by
  have C6:=rE ws;have A9:FN (w::ws)=ID w.1::ID w.2::FN ws:=by simp[FN,ends]
  have AG:Fc (w::ws)=AZ w.2::AZ w.1::Fc ws:=by simp[Fc]
  have B3:pairsOf (w::ws)=(w.1,w.2)::(w.2,w.1)::pairsOf ws:=by simp[pairsOf]
  rw[A9,AG,B3,K4,K4,C6];rfl
def tu(Ap:List (AW×AW))(d:AW):((Ap.map λp=>(ID p.1,AZ p.2)).find? λp=>decide (p.1=ID d))=(Ap.find? λp=>decide (p.1=d)).map λp=>(ID p.1,AZ p.2):=by
 induction Ap with
 |nil=>rfl
 |cons p Ap C6=>
  rw[E3,IL,IL];by_cases h:p.1=d
  .simp[h]
  .have:ID p.1≠ID d:=λz=>h (cR z);simp[h,this,C6]
def tq(ws:List (AW×AW))(d:AW):findD (FN ws) (Fc ws) (ID d)=(IS ws d).map AZ:=by unfold findD IS;rw[rE,tu,Option.map_map,Option.map_map];rfl
def tV{ws:List (AW×AW)}{d e:AW}(h:IS ws d=some e):e∈ends ws:=by
 unfold IS at h;obtain⟨p,Ad,rfl⟩:=Option.map_eq_some_iff.mp h;have hm:=rn Ad;unfold pairsOf at hm;obtain⟨w,hw,Ar⟩:=List.mem_flatMap.mp hm;have WU:∀x,x=w.1\/x=w.2->x∈ends ws:=λx AH=>List.mem_flatten.mpr ⟨[w.1,w.2],List.mem_map.mpr ⟨w,hw,rfl⟩,by simpa using AH⟩;simp only[PV,N1,or_false]at Ar;rcases Ar with rfl|rfl
 .exact WU _ (.inr rfl)
 .exact WU _ (.inl rfl)
def C7(h:Nat):On->D
 |.drop=>.tup [st "drop",.int (h:Int)]
 |.out o=>.tup [st "out",.int (h:Int),.int (o:Int)]
 |.to e=>.tup [st "at",.int (e.1:Int),.int (e.2:Int)]
noncomputable def BC(ws:List (AW×AW))(b:List DK)(h d a:Nat):On:=match Ja d a 0 b with
 |none=>.drop
 |some i=>match(b[i]?).bind (·.b)with
  |none=>.drop
  |some o=>match IS ws (h,o)with
   |none=>.out o
   |some e=>.to e
theorem qj{d a:Nat}:∀(rs:List DK)(i k:Nat),Ja d a i rs=some k->i<=k/\k<i+rs.length
 |[],_,_,h=>by simp[Ja]at h
 |r::rs,i,k,h=>by
  simp only[Ja]at h
  split at h
  .cases h;simp
  .have:=qj rs (i+1) k h;simp;lia
def uN(cs:List Nat)(ws:List (AW×AW)):Ds "Net" "far" (Dd cs ws)=.ok (.B7 (FN ws) (Fc ws)):=rfl
def pr(cs:List Nat)(ws:List (AW×AW)):Q1 "Net" "beyond" (Dd cs ws)=.ok (Dd cs ws):=rfl
def tW(cs:List Nat)(ws:List (AW×AW))(d:AW):Ve [Dd cs ws,AZ d]=.ok (.v (((IS ws d).map AZ).getD .non)):=by simp[Ve,ha,uN,Vx,tq]
def x7(o:Option AW):K1 ((o.map AZ).getD .non)=o.isNone:=by cases o<;>rfl
def aaW{cs:List Nat}{ws:List (AW×AW)}{b:List DK}(A0:∀r∈b,MK r.p)(h d a:Nat)(AB:a<16):P7 [Dd cs ws,Df b,AZ (h,d),.int (a:Int)]=.ok (.v (C7 h (BC ws b h d a))):=by
 have DZ:AR (AZ (h,d)) (.int 0)=.ok (.int (h:Int)):=rfl;have BZ:AR (AZ (h,d)) (.int 1)=.ok (.int (d:Int)):=rfl;have C8:=ac_ A0 d a AB;have Fo:∀o:Nat,Ve [Dd cs ws,.tup [.int (h:Int),.int (o:Int)]]=.ok (.v (((IS ws (h,o)).map AZ).getD .non)):=λo=>tW cs ws (h,o);have L3:K1 .non=true:=rfl;have D3:∀i,K1 (.int i)=false:=λ_=>rfl;unfold BC;cases e:Ja d a 0 b with
 |none=>simp[P7,TA,DZ,BZ,C8,e,Gl,L3,D3,C7,st]
 |some i=>
  have AC:=qj b 0 i e;have Zq:i<b.length:=by lia
  have cu:AR (Df b) (.int (i:Int))=.ok (G8 b[i]):=K2 (by simp[Zq]);have C0:AR (G8 b[i]) (.int 2)=.ok (Gl b[i].b):=rfl;simp only[E8 Zq,O0];cases Bi:b[i].b with
  |none=>simp[P7,TA,DZ,BZ,C8,e,Gl,L3,D3,C7,st,cu,C0,Bi]
  |some o=>
   have Yf:=Fo o;cases Cz:IS ws (h,o)with
   |none=>rw[Cz]at Yf;simp[P7,TA,DZ,BZ,C8,e,Gl,L3,D3,C7,st,cu,C0,Bi,pr,Yf,Cz]
   |some f=>rw[Cz]at Yf;have f0:AR (AZ f) (.int 0)=.ok (.int (f.1:Int)):=rfl;have f1:AR (AZ f) (.int 1)=.ok (.int (f.2:Int)):=rfl;have L6:K1 (AZ f)=false:=rfl;simp[P7,TA,DZ,BZ,C8,e,Gl,L3,D3,C7,st,cu,C0,Bi,pr,Yf,Cz,f0,f1,L6]
def Yn(a b:AW):Cv (AZ a) (AZ b)=decide (a=b):=by
 show(((a.1:Int)==(b.1:Int))&&(((a.2:Int)==(b.2:Int))&&true))=_;rw[Uy,N5,Ga,beq_iff_eq,beq_iff_eq,decide_eq_true_iff];constructor
 .intro⟨h1,h2⟩;exact PZ (by lia) (by lia)
 .rintro rfl;exact⟨rfl,rfl⟩
def kG(ds:List AW):(ds.map AZ).all (okN 7)=true:=by rw[Xy,Sw];intro d _;rfl
def jU(ds:List AW)(d:AW):((ds.map AZ).any λy=>Cv y (AZ d))=decide (d∈ds):=by
 rw[PQ,N5,Uo,decide_eq_true_iff];constructor
 .rintro⟨x,AH,h⟩;have:=(Yn x d).symm.trans h;rw[decide_eq_true_iff]at this;rw[<-this];exact AH
 .intro h;exact⟨d,h,by show Cv (AZ d) (AZ d)=true;rw[Yn];simp⟩
def yj{Hu H_:Ag}{ρ:AF}{ds:List AW}{d:AW}(h1:Hu ρ=.ok (AZ d))(h2:H_ ρ=.ok (.lst (ds.map AZ))):BE (A3 (inD false) Hu H_) ρ=.ok (!decide (d∈ds)):=by refine JR (EZ h1 h2 ?_);have s:Oo (.lst (ds.map AZ))=some (ds.map AZ):=rfl;have o:okN 7 (AZ d)=true:=rfl;simp only[inD,s,kG,o,and_self,if_true,jU];rfl
def TO(I:AF->Prop)(o:Option D)(f:FQ):Prop:=match o with
 |some d=>f=.E6 d
 |none=>Jn I f
@[simp] theorem afS(I:AF->Prop):TO I none=Jn I:=(rfl)
@[simp] theorem afT(I:AF->Prop)(d:D):TO I (some d)=(· =.E6 d):=(rfl)
theorem pq{α:Type}{set:D->AF->R AF}{body:Aq}(g:α->D)(I:AF->Prop)(f:α->Option D):∀(xs:List α)(ρ:AF),(∀a ρ,a∈xs->I ρ->Ends ((set (g a) ρ).bind body) (TO I (f a)))->I ρ->Ends (IX set body (xs.map g) ρ) (TO I (xs.findSome? f))
 |[],ρ,_,h=>by simpa[TO,Jn]using h
 |a::xs,ρ,st,h=>by
  obtain⟨HF,e,hf⟩:=st a ρ (by simp) h;rw[E3,IX];cases A6:set (g a) ρ with
  |bad=>rw[A6]at e;cases e
  |exc c=>rw[A6]at e;cases e
  |ok EQ=>
   rw[A6,BV]at e;rw[BV,e,BV,g_];cases Cs:f a with
   |some d=>rw[Cs]at hf;have hf:HF=.E6 d:=hf;subst hf;exact⟨_,rfl,rfl⟩
   |none=>rw[Cs]at hf;obtain⟨EW,rfl,h2⟩:=hf;exact pq g I f xs EW (λb ρ A0=>st b ρ (by simp[A0])) h2
def bt{β α:Type}{mi:B6}{set:D->AF->R AF}{body:Aq}{ρ:AF}{k:FQ->R β}{T:β->Prop}(g:α->D)(xs:List α)(I:AF->Prop)(f:α->Option D)(AC:mi ρ=.ok (xs.map g))(h0:I ρ)(st:∀a ρ,a∈xs->I ρ->Ends ((set (g a) ρ).bind body) (TO I (f a)))(f1:∀d,xs.findSome? f=some d->Ends (k (.E6 d)) T)(f2:∀BJ,xs.findSome? f=none->I BJ->Ends (k (.BC BJ)) T):Ends ((E0 mi set body ρ).bind k) T:=by
 obtain⟨HF,e,h⟩:=pq (set:=set) (body:=body) g I f xs ρ st h0;rw[gP,AC,BV,e,BV];cases Cs:xs.findSome? f with
 |some d=>rw[Cs]at h;have h:HF=.E6 d:=h;rw[h];exact f1 d Cs
 |none=>rw[Cs]at h;obtain⟨EW,rfl,h2⟩:=h;exact f2 EW Cs h2
def jm(a b:AW):Bj true (AZ a) (AZ b)=.ok (.Aa (decide (a=b))):=by have o:∀d,okN 8 (AZ d)=true:=λ_=>rfl;simp[Bj,o,Yn]
def nX(ws:List (AW×AW))(d:AW):Vk [.lst (ws.map Cd),AZ d]=.ok (.v (((IS ws d).map AZ).getD .non)):=by
 apply Ends.done;simp[Vk,c1];have kb:∀ws:List (AW×AW),ws.findSome? (λw=>if w.1=d then some (AZ w.2)else if w.2=d then some (AZ w.1)else none)=(IS ws d).map AZ:=λws=>by
  induction ws with
  |nil=>rfl
  |cons w ws C6=>
   rw[g_];unfold IS pairsOf;rw[List.flatMap_cons,List.find?_append];by_cases h1:w.1=d
   .simp[h1]
   .by_cases h2:w.2=d
    .simp[h1,h2]
    .simp only[h1,h2,if_false,IL,List.find?_nil,decide_false,Option.none_or];exact C6
 refine bt Cd ws (λρ=>∃s2 s3,ρ=[.A1 (.lst (ws.map Cd)),.A1 (AZ d),s2,s3]) (λw=>if w.1=d then some (AZ w.2)else if w.2=d then some (AZ w.1)else none) (by simp) ⟨.un,.un,rfl⟩ ?_ ?_ ?_
 .rintro w _ hw ⟨s2,s3,rfl⟩;have An:=jm w.1 d;have BG:=jm w.2 d;by_cases h1:w.1=d
  .rw[decide_eq_true h1]at An;rw[if_pos h1];simp[Cd,An]
  .rw[decide_eq_false h1]at An;rw[if_neg h1];by_cases h2:w.2=d
   .rw[decide_eq_true h2]at BG;rw[if_pos h2];simp[Cd,An,BG]
   .rw[decide_eq_false h2]at BG;rw[if_neg h2];simp[Cd,An,BG]
 .intro x AH;rw[kb]at AH;rw[AH];simp
 .rintro _ AS ⟨s2,s3,rfl⟩;rw[kb]at AS;rw[AS];simp
def outs(cs:List Nat)(ws:List (AW×AW)):List AW:=(CM cs cs.length).filter λd=>(IS ws d).isNone
def zG{cs:List Nat}{ws:List (AW×AW)}(Ef:LG cs ws):Tq [.lst (CC cs),.lst (ws.map Cd)]=.ok (.o ((outs cs ws).map AZ)):=by
 apply Ends.done;have OJ:=OS Ef.c cs.length;have h6:=Ef.h6;simp[Tq,cA];refine br AZ (CM cs cs.length) (λd=>(IS ws d).isNone) AZ (by simp[kD h6 Ef.c]) (by lia) (λd hd=>?_) (λd hd=>by simp) ?_
 .simp[nX,x7]
 .simp[outs]
def xK{l k:Nat}(h:k<l):I_ l (k:Int)=some k:=by unfold I_;rw[if_pos (by lia),if_pos (by lia)];simp
def abQ(b:Nat)(h:b<2):AR (.str (BU "01")) (.int (b:Int))=.ok (GI (48+b)):=by
 have:b=0\/b=1:=by lia
 rcases this with h|h<;>subst h<;>rfl
def mY(c d:Nat):Bj false (GI c) (GI d)=.ok (.Aa (!decide (c=d))):=by
 have:=sign_eq d c;have e:(.str ⟨#[d]⟩:D)=GI d:=rfl;have o:∀c,okN 8 (GI c)=true:=λ_=>rfl;have q:Cv (GI c) (GI d)=decide (c=d):=by rw[show(GI c)=.str ⟨#[c]⟩from rfl,sign_eq d c];exact decide_eq_decide.mpr ⟨Eq.symm,Eq.symm⟩
 simp[Bj,o,q]
def aa0{p:Str}(h:MK p):∃Jw BX Ev HB,p.cps.toList=[Jw,BX,Ev,HB]:=by
 have l:=h.l
 match e:p.cps.toList,l with
 |[a,b,c,d],_=>exact⟨a,b,c,d,rfl⟩
def d2{p:Str}(Ad:MK p){k:Nat}{c:Nat}(h:p.cps.toList[k]?=some c):AR (.str p) (.int (k:Int))=.ok (GI c):=by
 have AL:=(List.getElem?_eq_some_iff.mp h).1;have l:p.length<=1000000:=by have:p.length=p.cps.toList.length:=rfl;have:=Ad.l;lia
 have e:GF p.cps.toList (k:Int)=some c:=by unfold GF;rw[xK AL];exact h
 simp only[AR,if_pos l,e];rfl
def yI{p:Str}(Ad:MK p){a:Nat}(AB:a<16):Vl [.str p,.int (a:Int)]=.ok (.v (.Aa (NV p a))):=by
 apply Ends.done;have f:NV p a=decide (∀k,k<4->∀c,p.cps.toList[k]?=some c->c=120\/c=OU a (2^(3-k))):=by
  obtain⟨Jw,BX,Ev,HB,e⟩:=aa0 Ad;unfold NV;rw[e,N5];simp only[K4,List.zip_nil_right,R6,List.all_nil,Uy,Ga,decide_eq_true_iff];constructor
  .rintro⟨h0,h1,h2,h3⟩ k AL c AO;have:k=0\/k=1\/k=2\/k=3:=by lia
   rcases this with q|q|q|q<;>subst q<;>cases AO
   .exact h0
   .exact h1
   .exact h2
   .exact h3
  .intro h;exact⟨h 0 (by decide) Jw rfl,h 1 (by decide) BX rfl,h 2 (by decide) Ev rfl,h 3 (by decide) HB rfl⟩
 simp[Vl,c6];refine bt (λk:Nat=>D.int (k:Int)) (EY 4) (λρ=>∃s2 s3,ρ=[.A1 (.str p),.A1 (.int (a:Int)),s2,s3]) (λk=>match p.cps.toList[k]? with
  |some c=>if c=120\/c=OU a (2^(3-k))then none else some (.Aa false)
  |none=>none) (by simp;exact(Sf 4 (by decide)).trans (by rw[dW])) ⟨.un,.un,rfl⟩ ?_ ?_ ?_
 .rintro k _ AL ⟨s2,s3,rfl⟩;have AL:k<4:=by simpa using AL
  have AQ:k<p.cps.toList.length:=by rw[Ad.l];exact AL
  obtain⟨c,ec⟩:∃c,p.cps.toList[k]?=some c:=⟨_,E8 AQ⟩;have A9:=d2 Ad ec;have AG:=mY c 120;have MR:Bj false (GI c) (.str (BU "x"))=.ok (.Aa (!decide (c=120))):=AG;obtain⟨w,GY,G9,B3⟩:∃w:Nat,w=2^(3-k)/\(0<w/\w<=8)/\AR (.lst [.int 8,.int 4,.int 2,.int 1]) (.int (k:Int))=.ok (.int (w:Int)):=by
   have:k=0\/k=1\/k=2\/k=3:=by lia
   rcases this with h|h|h|h<;>subst h
   .exact⟨8,rfl,by decide,rfl⟩
   .exact⟨4,rfl,by decide,rfl⟩
   .exact⟨2,rfl,by decide,rfl⟩
   .exact⟨1,rfl,by decide,rfl⟩
  have Pk:(a:Int)/(w:Int)%2=((a/w%2:Nat):Int):=by simp
  have CB:=abQ (a/w%2) (by lia);have El:=mY c (OU a w);unfold OU at El;simp only[ec];rw[<-GY];unfold OU;generalize a/w%2=b at Pk CB El |-;by_cases An:c=120
  .rw[decide_eq_true An]at MR;rw[if_pos (.inl An)];simp(disch:=first|lia|(simp;done)|(simp;lia)) [A9,MR,lim,B3,Pk]
  .rw[decide_eq_false An]at MR;by_cases BG:c=48+b
   .rw[decide_eq_true BG]at El;rw[if_pos (.inr BG)];simp(disch:=first|lia|(simp;done)|(simp;lia)) [A9,MR,B3,Pk,CB,El,lim]
   .rw[decide_eq_false BG]at El;rw[if_neg λz=>z.elim An BG];simp(disch:=first|lia|(simp;done)|(simp;lia)) [A9,MR,B3,Pk,CB,El,lim]
 .intro d hd;obtain⟨k,AL,e⟩:=List.exists_of_findSome?_eq_some hd;simp at AL;cases ec:p.cps.toList[k]? with
  |none=>rw[ec]at e;cases e
  |some c=>
   rw[ec]at e;simp only at e
   split at e
   .cases e
   .rename_i q;cases e;have:NV p a=false:=by
     rw[f];exact decide_eq_false λz=>q (z k AL c ec)
    simp[this]
 .rintro _ AS ⟨s2,s3,rfl⟩;have:NV p a=true:=by
   rw[f];refine decide_eq_true λk AL c ec=>?_;have:=List.findSome?_eq_none_iff.mp AS k (by simpa using AL);rw[ec]at this;simp only at this
   split at this
   .assumption
   .cases this
  simp[this]
def ax(b:List DK)(d a:Nat):Option Nat:=(b.find? (mt d a)).bind (·.b)
theorem qk{d a:Nat}:∀(rs:List DK)(i:Nat),match Ja d a i rs with
  |some k=>∃r,rs[k-i]?=some r/\i<=k/\rs.find? (mt d a)=some r
  |none=>rs.find? (mt d a)=none
 |[],i=>rfl
 |r::rs,i=>by
  have C6:=qk (d:=d) (a:=a) rs (i+1);simp only[Ja];rw[IL];cases hm:mt d a r with
  |true=>simp
  |false=>
   simp only[Hj,if_false];cases e:Ja d a (i+1) rs with
   |none=>rw[e]at C6;exact C6
   |some k=>rw[e]at C6;obtain⟨x,h1,h2,h3⟩:=C6;refine⟨x,?_,by lia,h3⟩;rw[show k-i=(k-(i+1))+1 by lia];simpa using h1
def lead(ws:List (AW×AW))(h:Nat):Option Nat->On
 |none=>.drop
 |some o=>match IS ws (h,o)with
  |none=>.out o
  |some e=>.to e
def yl(ws:List (AW×AW))(b:List DK)(h d a:Nat):BC ws b h d a=lead ws h (ax b d a):=by
 have k:=qk (d:=d) (a:=a) b 0;unfold BC ax;cases e:Ja d a 0 b with
 |none=>rw[e]at k;simp only at k;rw[k];rfl
 |some i=>rw[e]at k;obtain⟨r,h1,_,h3⟩:=k;rw[h3];simp only[hQ]at h1;simp only[h1,O0];cases r.b<;>rfl
theorem find_some{α β:Type}(p:α->Bool)(g:α->β):∀xs:List α,xs.findSome? (λa=>if p a=true then some (g a)else none)=(xs.find? p).map g
 |[]=>rfl
 |a::xs=>by
  rw[g_,IL];cases e:p a with
  |true=>simp
  |false=>simpa using find_some p g xs
def zE{ws:List (AW×AW)}{b:List DK}(aa2:∀r∈b,MK r.p)(d:AW){a:Nat}(AB:a<16):Lo [.lst (ws.map Cd),Df b,AZ d,.int (a:Int)]=.ok (.v (C7 d.1 (BC ws b d.1 d.2 a))):=by
 apply Ends.done;rw[yl];have L3:K1 .non=true:=rfl;have D3:∀i,K1 (.int i)=false:=λ_=>rfl;have DZ:AR (AZ d) (.int 0)=.ok (.int (d.1:Int)):=rfl;have BZ:AR (AZ d) (.int 1)=.ok (.int (d.2:Int)):=rfl;simp[Lo,c9];refine bt G8 b (λρ=>∃s4 s5 Gx Dn,ρ=[.A1 (.lst (ws.map Cd)),.A1 (Df b),.A1 (AZ d),.A1 (.int (a:Int)),s4,s5,Gx,Dn]) (λr=>if mt d.2 a r=true then some (C7 d.1 (lead ws d.1 r.b))else none) (by simp[Df]) ⟨.un,.un,.un,.un,rfl⟩ ?_ ?_ ?_
 .rintro r _ AI ⟨s4,s5,Gx,Dn,rfl⟩;have HY:=yI (aa2 r AI) AB;have q:Gv (BE (Bg 2 Vl (A2 (J 4) (A2 (J 3) (AD))))) (JS (BE (A3 (Fs true) (J 5) (A5 .non))) (BE (A3 (Bj true) (J 5) (A3 AR (J 2) (A5 (.int 1)))))) [.A1 (.lst (ws.map Cd)),.A1 (Df b),.A1 (AZ d),.A1 (.int (a:Int)),.A1 (.str r.p),.A1 (Gl r.a),.A1 (Gl r.b),Dn]=.ok (mt d.2 a r):=by
   unfold mt;have A9:=m1 r.a;have AG:=jn r.a d.2;generalize r.a.isNone=H9 at A9 |-;generalize(r.a==some d.2)=H4 at AG |-;generalize NV r.p a=Z5 at HY |-;cases H9<;>cases H4<;>cases Z5<;>simp[A9,AG,HY,BZ]
  have s0:Fj [BL 4,BL 5,BL 6] (G8 r) [.A1 (.lst (ws.map Cd)),.A1 (Df b),.A1 (AZ d),.A1 (.int (a:Int)),s4,s5,Gx,Dn]=.ok [.A1 (.lst (ws.map Cd)),.A1 (Df b),.A1 (AZ d),.A1 (.int (a:Int)),.A1 (.str r.p),.A1 (Gl r.a),.A1 (Gl r.b),Dn]:=by simp[G8]
  rw[s0,BV,qG,q,BV];cases mt d.2 a r with
  |false=>simp
  |true=>
   cases Bi:r.b with
   |none=>simp[Gl,L3,C7,lead,st,DZ]
   |some o=>
    have W1:=nX ws (d.1,o);simp only[AZ]at W1;cases Cz:IS ws (d.1,o)with
    |none=>rw[Cz]at W1;simp[Gl,D3,L3,W1,Cz,C7,lead,st,DZ]
    |some e=>rw[Cz]at W1;have L6:K1 (AZ e)=false:=rfl;have DB:VY (.tup [.str (BU "at")]) (AZ e)=.ok (.tup [.str (BU "at"),.int (e.1:Int),.int (e.2:Int)]):=rfl;simp[Gl,D3,W1,Cz,C7,lead,DZ,L6,DB,st]
 .intro x AH;rw[find_some]at AH;unfold ax;cases Cs:b.find? (mt d.2 a)with
  |none=>rw[Cs]at AH;cases AH
  |some r=>rw[Cs]at AH;cases AH;simp
 .rintro _ AS ⟨s4,s5,Gx,Dn,rfl⟩;rw[find_some]at AS;have:b.find? (mt d.2 a)=none:=by simpa using AS
  simp[ax,this,lead,C7,st,DZ]
def CZ(k:Nat):D:=.int (k:Int)
def adH(cell:Int)(n:Nat)(AS:n<=6):∃row:List Nat,row.length<=6/\SQ [.int cell,.int (n:Int)]=.ok (.o (row.map CZ)):=by
 suffices h:Ends (SQ [.int cell,.int (n:Int)]) λb=>∃row:List Nat,row.length<=6/\b=.o (row.map CZ)by
  obtain⟨b,e,row,h,rfl⟩:=h;exact⟨row,h,e⟩
 obtain⟨y,Cz⟩:=L2 cell 3 (by decide);have Qa:EU [.int cell,.int 3]=.ok (.v (.int y)):=Cz;obtain⟨m,hm,em⟩:=JV y (n:=n+1) (by lia);have OX:y%((n:Int)+1)=(m:Int):=by rw[<-em];simp
 have QX:G7 0 n=(EY n).map CZ:=by rw[dW];rfl
 simp(disch:=first|lia|(simp;done)|(simp;lia)) [SQ,cD,lim,Qa,OX];refine OY m (λj ρ=>∃(R row:List Nat)(s4:Be),R.length+j=n/\row.length=j/\ρ=[.A1 (.int cell),.A1 (.int (n:Int)),.C5 (R.map CZ),.C5 (row.map CZ),s4]) (by simp[Qa,OX];exact Sf m (by lia)) ⟨EY n,[],.un,by simp,rfl,by rw[QX];rfl⟩ ?_ ?_
 .rintro j _ By ⟨R,row,s4,h1,h2,rfl⟩;obtain⟨z,Rc⟩:=L2 cell (4+j) (by lia);have uH:EU [.int cell,.int (4+(j:Int))]=.ok (.v (.int z)):=by rw[<-Rc];simp
  obtain⟨k,AL,DY⟩:=JV z (n:=R.length) (by lia);have g:=e0 CZ (i:=2) AL (by lia);simp(disch:=first|lia|(simp;done)|(simp;lia)) [uH,DY,g];exact⟨R.eraseIdx k,by rw[gX AL];lia,row++[R[k]],by simp[h2],by simp⟩
 .rintro _ ⟨R,row,s4,h1,h2,rfl⟩;simp;exact⟨row,by lia,rfl⟩
def Cg(bs:List (List DK)):D:=.lst (bs.map Df)
def FF(os nw:List (List DK))(row:List Nat)(k:Nat):List (List DK):=(EY os.length).map λh=>if h∈row.take k then nw.getD h []else os.getD h []
def lu(l:List Nat)(h:Nat):inD true (.int (h:Int)) (.lst (l.map CZ))=.ok (.Aa (decide (h∈l))):=by
 have o:(l.map CZ).all (okN 7)=true:=by simp[CZ,okN]
 have a:((l.map CZ).any λy=>Cv y (.int (h:Int)))=decide (h∈l):=by
  rw[PQ];induction l with
  |nil=>rfl
  |cons x l C6=>
   have:Cv (CZ x) (.int (h:Int))=decide (x=h):=by
    show((x:Int)==(h:Int))=_;by_cases q:x=h
    .subst q;simp
    .have:¬(x:Int)=(h:Int):=λz=>q (by lia);simp[q,this]
   have a3:=C6 (by simp[CZ,okN]);rw[Nx,a3];simp only[hK,this];by_cases q:x=h
   .subst q;simp
   .simp[q,I2 q]
 unfold inD;simp only[Oo];rw[if_pos ⟨rfl,o⟩];simp only[if_true,a]
def bb(l:List Nat)(k:Nat):G2 (l.map CZ) none (some (k:Int))=(l.take k).map CZ:=by rw[bc,T0]
def Ro{bs:List (List DK)}{h:Nat}(BD:h<bs.length):AR (Cg bs) (.int (h:Int))=.ok (Df (bs.getD h [])):=K2 (by simp[BD])
def abZ{os nw:List (List DK)}{row:List Nat}(AQ:os.length<=6)(AS:nw.length=os.length)(AI:row.length<=6):Tr [Cg os,Cg nw,.lst (row.map CZ)]=.ok (.o ((EY (row.length+1)).map λk=>Cg (FF os nw row k))):=by
 apply Ends.done;simp[Tr,cC,lim];refine OY (row.length+1) (λj ρ=>∃s4,ρ=[.A1 (Cg os),.A1 (Cg nw),.A1 (.lst (row.map CZ)),.C5 ((EY j).map λk=>Cg (FF os nw row k)),s4]) (by have:=Sf (row.length+1) (by lia);simp at this |-;exact this) ⟨.un,rfl⟩ ?_ ?_
 .rintro j _ By ⟨s4,rfl⟩;have lo:CO [Cg os]=.ok (.int (os.length:Int)):=by simp[Cg]
  simp;refine Ra os.length (λh=>Df (if h∈row.take j then nw.getD h []else os.getD h [])) (by simp[lo,show os.length<1000000 by lia]) (by lia) (λh BD=>?_) ?_
  .have BZ:=Ro BD;have C0:=Ro (bs:=nw) (h:=h) (by lia);have q:=lu (row.take j) h;have FU:AR (.lst [Cg os,Cg nw]) (.int 0)=.ok (Cg os):=rfl;have Eh:AR (.lst [Cg os,Cg nw]) (.int 1)=.ok (Cg nw):=rfl;simp only[JB]at BZ C0 |-;by_cases hm:h∈row.take j
   .rw[decide_eq_true hm]at q;simp(disch:=first|lia|(simp;done)|(simp;lia)) only[aC,Qq,qH,Le,v_var,Nr,aD,gS,gQ,gR,cN,E3,PP,JB,LS,Lu,Xk,PG,BV,lx,pB,bb,q,qs,lim,if_true,Eh,C0,hm];simp[lim,Eh,C0]
   .rw[decide_eq_false hm]at q;simp(disch:=first|lia|(simp;done)|(simp;lia)) only[aC,Qq,qH,Le,v_var,Nr,aD,gS,gQ,gR,cN,E3,PP,JB,LS,Lu,Xk,PG,BV,lx,pB,bb,q,qs,lim,if_true,FU,BZ,hm];simp[lim,FU,BZ]
  .simp(disch:=first|lia|(simp;done)|(simp;lia));rw[List.range_succ,Hz];simp[Cg,FF,Sv]
 .rintro _ ⟨s4,rfl⟩;simp
def za{os nw:List (List DK)}{row:List Nat}{k:Nat}(AQ:os.length<=6)(AS:nw.length=os.length):Zc [Cg os,Cg nw,.lst ((row.take k).map CZ)]=.ok (.o ((FF os nw row k).map Df)):=by
 apply Ends.done;have lo:CO [Cg os]=.ok (.int (os.length:Int)):=by simp[Cg]
 simp[Zc,cF];refine Ra os.length (λh=>Df (if h∈row.take k then nw.getD h []else os.getD h [])) (by simp[lo,show os.length<1000000 by lia]) (by lia) (λh BD=>?_) ?_
 .have BZ:=Ro BD;have C0:=Ro (bs:=nw) (h:=h) (by lia);have q:=lu (row.take k) h;rw[T0]at q;simp only[JB]at BZ C0 |-;by_cases hm:h∈row.take k
  .rw[decide_eq_true hm]at q;simp[q,C0,hm,P3,Df]
  .rw[decide_eq_false hm]at q;simp[q,BZ,hm,P3,Df]
 .simp[FF,Sv]
def adV{os nw:List (List DK)}{row:List Nat}(AQ:os.length<=6)(AS:nw.length=os.length)(AI:row.length<=6):Wv [Cg os,Cg nw,.lst (row.map CZ)]=.ok (.o ((EY (row.length+1)).map λk=>Cg (FF os nw row k))):=by
 apply Ends.done;simp[Wv,cG];refine Ra (row.length+1) (λk=>Cg (FF os nw row k)) (by have:=Sf (row.length+1) (by lia);simp at this |-;exact this) (by lia) (λk AL=>?_) ?_
 .have mo:=za (os:=os) (nw:=nw) (row:=row) (k:=k) AQ AS;simp[bb,mo,-T0];rfl
 .simp
abbrev B9:=AW×Nat
def BI(s:B9):D:=.tup [AZ s.1,CZ s.2]
def F6(s:B9):Bd:=[.inr [.inl (s.1.1:Int),.inl (s.1.2:Int)],.inl (.inl (s.2:Int))]
def ea{a b:B9}(h:F6 a=F6 b):a=b:=by simp only[F6,Up,Sum.inr.injEq,Sum.inl.injEq,and_true]at h;obtain⟨⟨h1,h2⟩,h3⟩:=h;exact PZ (PZ (by lia) (by lia)) (by lia)
def Vy(s:B9):J8 (BI s)=some (F6 s):=rfl
def iB(l:List B9)(s:B9):(l.map F6).any (λx=>decide (x=F6 s))=decide (s∈l):=by
 rw[PQ];induction l with
 |nil=>rfl
 |cons x l C6=>
  rw[Nx,C6];simp only[hK];by_cases q:x=s
  .subst q;simp
  .have:¬F6 x=F6 s:=λz=>q (ea z);simp[q,this,I2 q]
theorem Wh:∀ds:List D,Np (ds.map .A1)=some ds
 |[]=>rfl
 |d::ds=>by rw[E3,Np,Wh ds];rfl
theorem qr:∀ds:List D,Mp (ds.map .A1)=ds
 |[]=>rfl
 |d::ds=>by rw[E3,Mp,qr ds];rfl
def DC(l:List Nat):D:=.lst (l.map CZ)
abbrev Fn:=List (B9×List Nat)
abbrev To:=List (B9×On)
def Qs:List Str:=["net","stages","address","shunned","woven","told"]
noncomputable def D4(X Y:D)(a:Nat)(W:Fn)(U:To):T:=.ins "Weaver" Qs [.A1 X,.A1 Y,.A1 (.int (a:Int)),.A1 .non,.B7 ((W.map (·.1)).map F6) ((W.map λp=>DC p.2).map .A1),.B7 ((U.map (·.1)).map F6) ((U.map λp=>C7 p.1.1.1 p.2).map .A1)]
def Dp(X Y:D)(a:Nat)(W:Fn)(U:To):D:=.ins "Weaver" Qs [X,Y,.int (a:Int),.non,.B7 ((W.map (·.1)).map F6) (W.map λp=>DC p.2),.B7 ((U.map (·.1)).map F6) (U.map λp=>C7 p.1.1.1 p.2)]
def UW(X Y:D)(a:Nat)(W:Fn)(U:To):toD (D4 X Y a W U)=Dp X Y a W U:=by simp only[D4,toD,Mp,qr,Dp]
@[simp] theorem v_(k:Nat)(t:T):NX (.Bc k t)=.A1 (toD t):=(rfl)
section
variable{X Y:D}{a:Nat}{W:Fn}{U:To}
def uM:Ds "Weaver" "net" (Dp X Y a W U)=.ok X:=rfl
def lQ:Ds "Weaver" "stages" (Dp X Y a W U)=.ok Y:=rfl
def uK:Ds "Weaver" "address" (Dp X Y a W U)=.ok (.int (a:Int)):=rfl
def bV:Ds "Weaver" "shunned" (Dp X Y a W U)=.ok .non:=rfl
def lT:Ds "Weaver" "woven" (Dp X Y a W U)=.ok (.B7 ((W.map (·.1)).map F6) (W.map λp=>DC p.2)):=rfl
def YM:Ds "Weaver" "told" (Dp X Y a W U)=.ok (.B7 ((U.map (·.1)).map F6) (U.map λp=>C7 p.1.1.1 p.2)):=rfl
def k_(r:AF):KC 0 "Weaver" "woven" (.Bc 0 (D4 X Y a W U)::r)=.ok ⟨.Bc 0 (D4 X Y a W U),Qs,[.A1 X,.A1 Y,.A1 (.int (a:Int)),.A1 .non,.B7 ((W.map (·.1)).map F6) ((W.map λp=>DC p.2).map .A1),.B7 ((U.map (·.1)).map F6) ((U.map λp=>C7 p.1.1.1 p.2).map .A1)],4,(W.map (·.1)).map F6,W.map λp=>DC p.2⟩:=by
 have e:Qs.findIdx? (λk=>("woven" :Str)==k)=some 4:=by decide
 simp only[KC,LS,KS,D4,WD,if_true,e,WE,Wh,Lu]
def tp(r:AF):KC 0 "Weaver" "told" (.Bc 0 (D4 X Y a W U)::r)=.ok ⟨.Bc 0 (D4 X Y a W U),Qs,[.A1 X,.A1 Y,.A1 (.int (a:Int)),.A1 .non,.B7 ((W.map (·.1)).map F6) ((W.map λp=>DC p.2).map .A1),.B7 ((U.map (·.1)).map F6) ((U.map λp=>C7 p.1.1.1 p.2).map .A1)],5,(U.map (·.1)).map F6,U.map λp=>C7 p.1.1.1 p.2⟩:=by
 have e:Qs.findIdx? (λk=>("told" :Str)==k)=some 5:=by decide
 simp only[KC,LS,KS,D4,WD,if_true,e,WE,Wh,Lu]
def aax{r:AF}{mk mv:Ag}{s:B9}{l:List Nat}(AL:mk (.Bc 0 (D4 X Y a W U)::r)=.ok (BI s))(BR:mv (.Bc 0 (D4 X Y a W U)::r)=.ok (DC l))(AS:s∉W.map (·.1))(AQ:W.length<1000) :
  N8 0 "Weaver" "woven" mk mv (.Bc 0 (D4 X Y a W U)::r)=.ok (.BC (.Bc 0 (D4 X Y a (W++[(s,l)]) U)::r)):=by
 unfold N8;rw[BR,BV,k_,BV,AL,BV,Vy];simp only[YO,putD];have:=iB (W.map (·.1)) s;rw[decide_eq_false AS]at this;rw[if_pos ⟨this,by simp;lia⟩];simp[bz,PH,D4]
def aaw{r:AF}{mk mv:Ag}{s:B9}{o:On}(AL:mk (.Bc 0 (D4 X Y a W U)::r)=.ok (BI s))(BR:mv (.Bc 0 (D4 X Y a W U)::r)=.ok (C7 s.1.1 o))(AS:s∉U.map (·.1))(AQ:U.length<1000) :
  N8 0 "Weaver" "told" mk mv (.Bc 0 (D4 X Y a W U)::r)=.ok (.BC (.Bc 0 (D4 X Y a W (U++[(s,o)]))::r)):=by
 unfold N8;rw[BR,BV,tp,BV,AL,BV,Vy];simp only[YO,putD];have:=iB (U.map (·.1)) s;rw[decide_eq_false AS]at this;rw[if_pos ⟨this,by simp;lia⟩];simp[bz,PH,D4]
def Fa(W:Fn)(d:AW)(l n:Nat):List B9:=(((Y4 l (n-l)).map λk=>((d,k):B9))).filter λs=>!decide (s∈W.map (·.1))
def Fu(l:List Nat):Nat:=l.getLast?.getD 0
def xM(l:List Nat)(h:l≠[]):AR (DC l) (.int (-1))=.ok (CZ (Fu l)):=by
 have AQ:0<l.length:=List.length_pos_iff.mpr h;have e:GF (l.map CZ) (-1)=some (CZ (Fu l)):=by unfold GF I_;rw[if_neg (by decide),if_pos (by simp;lia)];simp only[O0,Fw];rw[show((-1:Int)+(l.length:Int)).toNat=l.length-1 by lia,ER];unfold Fu;rw[List.getLast?_eq_getElem?];rw[E8 (show l.length-1<l.length by lia)];rfl
 simp only[DC,AR,e]
def ZF(W:Fn)(d:AW)(l n:Nat):(Fa W d l n).Nodup:=by exact List.Pairwise.filter _ (List.pairwise_map.mpr ((List.nodup_range' (s:=l) (n:=n-l) (step:=1)).imp λh z=>h (Prod.ext_iff.mp z).2))
def P9{W:Fn}{d:AW}{l n:Nat}{s:B9}:s∈Fa W d l n↔s.1=d/\l<=s.2/\s.2<n/\s∉W.map (·.1):=by
 unfold Fa;rw[List.mem_filter,List.mem_map];constructor
 .rintro⟨⟨k,AL,rfl⟩,h⟩;rw[List.mem_range'_1]at AL;exact⟨rfl,AL.1,by show k<n;lia,by simpa using h⟩
 .rintro⟨h1,h2,h3,h4⟩;exact⟨⟨s.2,List.mem_range'_1.mpr ⟨h2,by lia⟩,PZ h1.symm rfl⟩,by simpa using h4⟩
def acG{l n:Nat}(h1:l<=1000)(h2:n<=1000):X9 [.int (l:Int),.int (n:Int)]=.ok ((Y4 l (n-l)).map CZ):=by simp only[X9];rw[if_pos (by refine⟨?_,?_,?_,?_⟩<;>lia),show((n:Int)-(l:Int)).toNat=n-l by lia];simp[G7,List.range'_eq_map_range,CZ]
@[simp] theorem agf(m:B6)(ρ:AF):Te m ρ=(m ρ).bind X9:=(rfl)
@[simp] theorem aeY(m:B6)(ρ:AF):RK m ρ=(m (ES ρ)).bind λds=>if Q5 ds=true then .ok ds else .bad:=(rfl)
@[simp] theorem agz(m:Ag)(ρ:AF):M_ m ρ=(m (ES ρ)).bind λd=>if Si d=true then .ok d else .bad:=(rfl)
@[simp] theorem agg(m:Ag)(ρ:AF):QH m ρ=(m ρ).bind λd=>.ok (.rs d ρ):=(rfl)
theorem pG:∀l:List B9,Q5 (l.map BI)=true
 |[]=>rfl
 |s::l=>by simp[Q5,Si,BI,AZ,CZ,pG l]
def aaM(l:List Nat):(l.map CZ).all (okN 7)=true:=by simp[CZ,okN]
def kR:Aq:=N8 0 "Weaver" "woven" (J 5) (BS (IF (J 2) (BS (C1 (A2 (A3 AR (J 5) (A5 (.int 1))) (AD))))))
def bu:Aq:=AU (E0 (F4 (J 4)) (BL 5) kR) (QH (J 4))
def u7{Z:D}{N:List B9}(Zl:W.length+N.length<=1000)(Am:N.Nodup)(AS:∀s∈N,s∉W.map (·.1))(d:AW)(Di:List Nat)(AQ:Di.length<=1000)(s3:Be) :
  Ends (bu [.Bc 0 (D4 X Z a W U),.A1 (AZ d),.A1 (DC Di),s3,.A1 (.lst (N.map BI)),.un]) λf=>∃r,f=.rs (.lst (N.map BI)) (.Bc 0 (D4 X Z a (W++N.map λs=>(s,Di++[s.2])) U)::r):=by
 unfold bu;rw[EC];refine Tx BI N (λj ρ=>∃s5,ρ=[.Bc 0 (D4 X Z a (W++(N.take j).map λs=>(s,Di++[s.2])) U),.A1 (AZ d),.A1 (DC Di),s3,.A1 (.lst (N.map BI)),s5]) (by simp) ⟨.un,by simp⟩ ?_ ?_
 .rintro j s _ By ⟨s5,rfl⟩;obtain⟨vO,A6⟩:=List.getElem?_eq_some_iff.mp By;have AN:s∈N:=A6▸N2 _;have nm:s∉(W++(N.take j).map λs=>(s,Di++[s.2])).map (·.1):=by
   rw[Hz,IK,List.mem_append];rintro(z|z)
   .exact AS s AN z
   .have z:s∈N.take j:=by simpa[Sv]using z
    obtain⟨i,AC,G4⟩:=Sn z;rw[Ul]at AC;rw[List.getElem_take]at G4;exact absurd (G4.trans A6.symm) (List.pairwise_iff_getElem.mp Am i j (by lia) vO (by lia))
  have PD:=aax (X:=X) (Y:=Z) (a:=a) (U:=U) (r:=[.A1 (AZ d),.A1 (DC Di),s3,.A1 (.lst (N.map BI)),.A1 (BI s)]) (mk:=J 5) (mv:=BS (IF (J 2) (BS (C1 (A2 (A3 AR (J 5) (A5 (.int 1))) (AD)))))) (l:=Di++[s.2]) (by simp) (by have BZ:AR (BI s) (.int 1)=.ok (CZ s.2):=rfl;simp(disch:=first|lia|(simp;done)|(simp;lia)) [BZ,lim,DC]) nm (by simp;lia)
  have Ki:BL 5 (BI s) [.Bc 0 (D4 X Z a (W++(N.take j).map λs=>(s,Di++[s.2])) U),.A1 (AZ d),.A1 (DC Di),s3,.A1 (.lst (N.map BI)),s5]=.ok [.Bc 0 (D4 X Z a (W++(N.take j).map λs=>(s,Di++[s.2])) U),.A1 (AZ d),.A1 (DC Di),s3,.A1 (.lst (N.map BI)),.A1 (BI s)]:=rfl;rw[Ki,BV,kR,PD];exact⟨_,rfl,_,rfl,_,by rw[gr,By,Hz,<-Uu];rfl⟩
 .rintro _ ⟨s5,rfl⟩;simp
noncomputable def jh:Aq:=Tf 4 (RK (Dm 1 [1,0] (Te (A2 (J 3) (A2 (Bs CO (A2 (Cr (Ds "Weaver" "stages") (J 0)) (AD))) (AD)))) (BL 0) (BE (A3 (IU false) (DH (A2 (J 1) (A2 (J 0) (AD)))) (Cr (Ds "Weaver" "woven") (J 2)))) (DH (A2 (J 1) (A2 (J 0) (AD))))))
def u6{Z:D}(jH:Aq)(d:AW)(Di:List Nat):AU (Cb (IE (BE (A3 (Bj true) (A3 AR (J 1) (A5 (.int 0))) (Cr (Ds "Weaver" "shunned") (J 0))))) (QH (BS (C1 (AD)))) (Co))
  (AU (BN 3 (Mc (BE (A3 (Bj false) (J 2) (BS (C1 (AD))))) (A3 AR (J 2) (Cr JW (A5 (.int 1)))) (A5 (.int 0)))) jH) [.Bc 0 (D4 X Z a W U),.A1 (AZ d),.A1 (DC Di),.un,.un,.un]=jH [.Bc 0 (D4 X Z a W U),.A1 (AZ d),.A1 (DC Di),.A1 (CZ (Fu Di)),.un,.un]:=by
 have DZ:AR (AZ d) (.int 0)=.ok (.int (d.1:Int)):=rfl;have DG:Bj true (.int (d.1:Int)) .non=.ok (.Aa false):=rfl;have ne:Bj false (DC Di) (.lst [])=.ok (.Aa (!(Di.map CZ).isEmpty)):=ne_nil (aaM Di);by_cases h:Di=[]
 .subst h;have ne:Bj false (DC []) (.lst [])=.ok (.Aa false):=ne;simp[UW,DZ,bV,DG,ne,lim];rfl
 .have cv:=xM Di h;have:(Di.map CZ).isEmpty=false:=by cases Di<;>simp_all
  rw[this]at ne;simp[UW,DZ,bV,DG,ne,lim,cv]
def u9{Ys:List D}(AS:Ys.length<=7)(Zl:W.length+7<=1000)(d:AW)(Di:List Nat)(AQ:Di.length<=1000)(WW:Fu Di<=1000) :
  QI (D4 X (.lst Ys) a W U) [AZ d,DC Di]=.ok (.lst ((Fa W d (Fu Di) Ys.length).map BI),D4 X (.lst Ys) a (W++(Fa W d (Fu Di) Ys.length).map λs=>(s,Di++[s.2])) U):=by
 apply Ends.done;have ln:(Fa W d (Fu Di) Ys.length).length<=7:=by unfold Fa;refine Ff (s6 _ _) ?_;simp;lia
 have Bi:Z7=AU (Cb (IE (BE (A3 (Bj true) (A3 AR (J 1) (A5 (.int 0))) (Cr (Ds "Weaver" "shunned") (J 0))))) (QH (BS (C1 (AD)))) (Co))
  (AU (BN 3 (Mc (BE (A3 (Bj false) (J 2) (BS (C1 (AD))))) (A3 AR (J 2) (Cr JW (A5 (.int 1)))) (A5 (.int 0))))
  (AU jh bu)):=rfl
 show Ends ((Z7 [.Bc 0 (D4 X (.lst Ys) a W U),.A1 (AZ d),.A1 (DC Di),.un,.un,.un]).bind UK) _;rw[Bi,u6,EC,SD,jh,adt,qJ,aeY];simp only[SD];have QX:=acG (l:=Fu Di) (n:=Ys.length) WW (by lia);refine br CZ (Y4 (Fu Di) (Ys.length-Fu Di)) (λk=>!decide (((d,k):B9)∈W.map (·.1))) (λk=>BI (d,k)) (by simp[UW,lQ,CZ]at QX |-;exact QX) (by simp;lia) (λk AL=>?_) (λk AL _=>by simp[BI,CZ]) ?_
 .have:IU false (BI (d,k)) (.B7 ((W.map (·.1)).map F6) (W.map λp=>DC p.2))=.ok (.Aa (!decide (((d,k):B9)∈W.map (·.1)))):=by
    simp only[IU,Vy,iB];rfl
  have adA:gH [AZ d,CZ k]=.ok (BI (d,k)):=rfl;simp only[ES,E3,PP,v_,vY,vZ,JB,LS,Lu,Xk,cN,aeX,aC,adv,Le,Nr,v_var,PG,BV,gT,UW,lT,adA,this,sG]
 .have FD:((Y4 (Fu Di) (Ys.length-Fu Di)).filter λk=>!decide (((d,k):B9)∈W.map (·.1))).map (λk=>BI (d,k))=(Fa W d (Fu Di) Ys.length).map BI:=by
    unfold Fa;rw[List.filter_map,IK];rfl
  rw[FD,if_pos (pG _),BV,if_pos (by simp),BV,adU,BV,FH];have CN:=u7 (X:=X) (Z:=.lst Ys) (a:=a) (W:=W) (U:=U) (N:=Fa W d (Fu Di) Ys.length) (by lia) (ZF _ _ _ _) (λs AN=>(P9.mp AN).2.2.2) d Di AQ (.A1 (CZ (Fu Di)));obtain⟨f,Cs,r,rfl⟩:=CN;have z:Kq 4 (List.set [.Bc 0 (D4 X (.lst Ys) a W U),.A1 (AZ d),.A1 (DC Di),.A1 (CZ (Fu Di)),.un,.un] 4 (.C5 ((Fa W d (Fu Di) Ys.length).map BI)))=[.Bc 0 (D4 X (.lst Ys) a W U),.A1 (AZ d),.A1 (DC Di),.A1 (CZ (Fu Di)),.A1 (.lst ((Fa W d (Fu Di) Ys.length).map BI)),.un]:=rfl;rw[z,Cs];exact⟨_,rfl,rfl⟩
end
def CL(ws:List (AW×AW))(Bk:Nat->List (List DK))(a:Nat)(s:B9):On:=BC ws ((Bk s.2).getD s.1.1 []) s.1.1 s.1.2 a
structure Js(cs:List Nat)(ws:List (AW×AW))(Bk:Nat->List (List DK))(n a:Nat):Prop where
 Ef:LG cs ws
 AB:a<16
 D3:1<=n
 JU:n<=7
 Aa:∀k,k<n->(Bk k).length=cs.length
 pt:∀k,k<n->∀b∈Bk k,∀r∈b,MK r.p
def D7(n:Nat)(Bk:Nat->List (List DK)):List D:=(EY n).map λk=>Cg (Bk k)
inductive TN(N:B9->On)(n:Nat)(d0:AW):B9->Prop
 |st (k:Nat):k<n->TN N n d0 (d0,k)
 |go (s:B9) (e:AW) (k:Nat):TN N n d0 s->N s=.to e->s.2<=k->k<n->TN N n d0 (e,k)
structure Good(A:List AW)(N:B9->On)(n:Nat)(d0:AW)(W:Fn)(U:To)(pd:List B9):Prop where
 nw:(W.map (·.1)).Nodup
 inr:∀p∈W,p.1.1∈A/\p.1.2<n
 up:∀p∈W,∀k,p.1.2<=k->k<n->(p.1.1,k)∈W.map (·.1)
 lst:∀p∈W,Fu p.2=p.1.2/\p.2.length<=W.length
 nF:(U.map (·.1)).Nodup
 un:∀q∈U,q.1∈W.map (·.1)/\q.2=N q.1
 cl:∀p∈W,p.1∈pd\/(p.1∈U.map (·.1)/\∀e,N p.1=.to e->(e,p.1.2)∈W.map (·.1))
 Bc:pd.Nodup
 PD:∀s∈pd,s∈W.map (·.1)/\s∉U.map (·.1)
 rc:∀p∈W,TN N n d0 p.1
def KQ(W:Fn)(n:Nat)(s:B9):On->List B9
 |.to e=>Fa W e s.2 n
 |_=>[]
def xo(l:List Nat)(k:Nat):Fu (l++[k])=k:=by simp[Fu]
def Tu{W:Fn}{n:Nat}{s t:B9}{o:On}(h:t∈KQ W n s o):∃e,o=.to e/\t.1=e/\s.2<=t.2/\t.2<n/\t∉W.map (·.1):=by
 cases o with
 |to e=>exact⟨e,rfl,P9.mp h⟩
 |drop=>cases h
 |out _=>cases h
def oK(W:Fn)(n:Nat)(s:B9)(o:On):(KQ W n s o).Nodup:=by
 cases o with
 |to e=>exact ZF _ _ _ _
 |drop=>exact .nil
 |out _=>exact .nil
section
variable{A:List AW}{N:B9->On}{n:Nat}{d0:AW}{W:Fn}{U:To}{pd:List B9}
def Good.few(g:Good A N n d0 W U pd)(Lj:A.length<=24)(AS:n<=7):W.length<=168:=by
 have:=Qy (l₂:=A.flatMap λd=>(EY n).map λk=>((d,k):B9)) g.nw λs AN=>by obtain⟨p,Ad,rfl⟩:=List.mem_map.mp AN;obtain⟨h1,h2⟩:=g.inr p Ad;exact List.mem_flatMap.mpr ⟨_,h1,List.mem_map.mpr ⟨_,List.mem_range.mpr h2,rfl⟩⟩
 rw[Fw,List.length_flatMap]at this;simp at this;have e:∀A:List AW,(A.map λ_=>n).sum=A.length*n:=λA=>by
  induction A with
  |nil=>simp
  |cons x A C6=>simp[C6,Nat.succ_mul];lia
 rw[e]at this;have:A.length*n<=24*7:=Nat.mul_le_mul Lj AS
 lia
def Good.step(NS:∀s e,N s=.to e->e∈A){s:B9}{l:List Nat}(g:Good A N n d0 W U (s::pd))(AN:(s,l)∈W):Good A N n d0 (W++(KQ W n s (N s)).map λt=>(t,l++[t.2])) (U++[(s,N s)]) (pd++KQ W n s (N s)):=by
 have aI:s∈W.map (·.1):=List.mem_map.mpr ⟨_,AN,rfl⟩;have CP:(W++(KQ W n s (N s)).map λt=>(t,l++[t.2])).map (·.1)=W.map (·.1)++KQ W n s (N s):=by simp[Sv]
 have Br:(U++[(s,N s)]).map (·.1)=U.map (·.1)++[s]:=by simp
 obtain⟨sp,abU⟩:=List.nodup_cons.mp g.Bc;have acT:=(g.PD s (by simp)).2;have s2:=(g.inr _ AN).2;have mem:∀{p:B9×List Nat},p∈W++(KQ W n s (N s)).map (λt=>(t,l++[t.2]))->p∈W\/∃t∈KQ W n s (N s),p=(t,l++[t.2]):=λh=>by
  rcases List.mem_append.mp h with h|h
  .exact .inl h
  .obtain⟨t,Av,rfl⟩:=List.mem_map.mp h;exact .inr ⟨t,Av,rfl⟩
 refine⟨?_,λp Ad=>?_,λp Ad k h1 h2=>?_,λp Ad=>?_,?_,λq AX=>?_,λp Ad=>?_,?_,λt Av=>?_,λp Ad=>?_⟩
 .rw[CP];exact List.nodup_append.mpr ⟨g.nw,oK _ _ _ _,λx AH y Bf z=>(Tu Bf).choose_spec.2.2.2.2 (z▸AH)⟩
 .rcases mem Ad with h|⟨t,Av,rfl⟩
  .exact g.inr p h
  .obtain⟨e,A9,AG,B3,CB,El⟩:=Tu Av;exact⟨AG▸NS s e A9,CB⟩
 .rw[CP];rcases mem Ad with h|⟨t,Av,rfl⟩
  .exact HS _ (g.up p h k h1 h2)
  .obtain⟨e,A9,AG,B3,CB,El⟩:=Tu Av;by_cases hw:((t.1,k):B9)∈W.map (·.1)
   .exact HS _ hw
   .refine GB _ ?_;rw[A9];exact P9.mpr ⟨AG,Ff B3 h1,h2,hw⟩
 .rw[JG,Fw];rcases mem Ad with h|⟨t,Av,rfl⟩
  .exact⟨(g.lst p h).1,Ff (g.lst p h).2 (Un _ _)⟩
  .have:=Uj Av;have:=(g.lst _ AN).2;refine⟨xo _ _,?_⟩;simp at this |-;lia
 .rw[Br];exact List.nodup_append.mpr ⟨g.nF,by simp,λx AH y Bf z=>by rw[List.mem_singleton.mp Bf]at z;exact acT (z▸AH)⟩
 .rw[CP];rcases List.mem_append.mp AX with h|h
  .exact⟨HS _ (g.un q h).1,(g.un q h).2⟩
  .rw[List.mem_singleton.mp h];exact⟨HS _ aI,rfl⟩
 .rw[CP,Br];rcases mem Ad with h|⟨t,Av,rfl⟩
  .by_cases A6:p.1=s
   .refine .inr ⟨by rw[A6];simp,λe he=>?_⟩;rw[A6]at he |-;by_cases hw:((e,s.2):B9)∈W.map (·.1)
    .exact HS _ hw
    .refine GB _ ?_;rw[he];exact P9.mpr ⟨rfl,CY _,s2,hw⟩
   .rcases g.cl p h with q|⟨An,BG⟩
    .rcases List.mem_cons.mp q with q|q
     .exact absurd q A6
     .exact .inl (HS _ q)
    .exact .inr ⟨HS _ An,λe he=>HS _ (BG e he)⟩
  .exact .inl (GB _ Av)
 .exact List.nodup_append.mpr ⟨abU,oK _ _ _ _,λx AH y Bf z=>(Tu Bf).choose_spec.2.2.2.2 (z▸(g.PD x (by simp[AH])).1)⟩
 .rw[CP,Br];rcases List.mem_append.mp Av with h|h
  .refine⟨HS _ (g.PD t (by simp[h])).1,λz=>?_⟩;rcases List.mem_append.mp z with z|z
   .exact(g.PD t (by simp[h])).2 z
   .rw[List.mem_singleton.mp z]at h;exact sp h
  .obtain⟨e,A9,AG,B3,CB,El⟩:=Tu h;refine⟨GB _ h,λz=>?_⟩;rcases List.mem_append.mp z with z|z
   .obtain⟨q,AX,rfl⟩:=List.mem_map.mp z;exact El (g.un q AX).1
   .rw[List.mem_singleton.mp z]at El;exact El aI
 .rcases mem Ad with h|⟨t,Av,rfl⟩
  .exact g.rc p h
  .obtain⟨e,A9,AG,B3,CB,El⟩:=Tu Av;have:=TN.go s e t.2 (g.rc _ AN) A9 B3 CB;rw[<-AG]at this;exact this
def Good.start{A:List AW}{N:B9->On}{n:Nat}{d0:AW}(hd:d0∈A):Good A N n d0 ((Fa [] d0 0 n).map λt=>(t,[]++[t.2])) [] (Fa [] d0 0 n):=by
 have CP:((Fa [] d0 0 n).map λt=>(t,([]:List Nat)++[t.2])).map (·.1)=Fa [] d0 0 n:=by simp[Sv]
 have mem:∀{p:B9×List Nat},p∈(Fa [] d0 0 n).map (λt=>(t,([]:List Nat)++[t.2]))->p.1∈Fa [] d0 0 n/\p.2=[p.1.2]:=λh=>by obtain⟨t,Av,rfl⟩:=List.mem_map.mp h;exact⟨Av,rfl⟩
 refine⟨by rw[CP];exact ZF _ _ _ _,λp Ad=>?_,λp Ad k h1 h2=>?_,λp Ad=>?_,.nil,(λq AX=>nomatch AX),λp Ad=>.inl (mem Ad).1,ZF _ _ _ _,λs AN=>⟨by rw[CP];exact AN,(λz=>nomatch z)⟩,λp Ad=>?_⟩
 .obtain⟨A9,AG,B3,CB⟩:=P9.mp (mem Ad).1;exact⟨A9▸hd,B3⟩
 .obtain⟨A9,AG,B3,CB⟩:=P9.mp (mem Ad).1;rw[CP];exact P9.mpr ⟨A9,JJ _,h2,(λz=>nomatch z)⟩
 .rw[(mem Ad).2];refine⟨rfl,?_⟩;have:=Uj Ad;simp at this |-;lia
 .obtain⟨A9,AG,B3,CB⟩:=P9.mp (mem Ad).1;have:=TN.st (N:=N) (n:=n) (d0:=d0) p.1.2 B3
  rwa [show((d0,p.1.2):B9)=p.1 from PZ A9.symm rfl]at this
end
theorem tw(W:Fn)(s:B9):findD ((W.map (·.1)).map F6) (W.map λp=>DC p.2) (F6 s)=(W.find? λp=>decide (p.1=s)).map λp=>DC p.2:=by
 unfold findD;induction W with
 |nil=>rfl
 |cons p W C6=>
  simp only[E3,K4,IL];by_cases h:p.1=s
  .simp[h]
  .have:¬F6 p.1=F6 s:=λz=>h (ea z);simp only[h,this,decide_false];exact C6
def tv(U:To)(s:B9):findD ((U.map (·.1)).map F6) (U.map λp=>C7 p.1.1.1 p.2) (F6 s)=(U.find? λp=>decide (p.1=s)).map λp=>C7 p.1.1.1 p.2:=by
 unfold findD;induction U with
 |nil=>rfl
 |cons p U C6=>
  simp only[E3,K4,IL];by_cases h:p.1=s
  .simp[h]
  .have:¬F6 p.1=F6 s:=λz=>h (ea z);simp only[h,this,decide_false];exact C6
def ke{β:Type}{l:List (B9×β)}{s:B9}(h:s∈l.map (·.1)):∃x,(s,x)∈l/\l.find? (λp=>decide (p.1=s))=some (s,x):=by
 cases e:l.find? λp=>decide (p.1=s)with
 |none=>obtain⟨p,Ad,rfl⟩:=List.mem_map.mp h;have:=List.find?_eq_none.mp e p Ad;simp at this
 |some q=>
  have h1:=List.find?_some e;have h2:=rn e;have:q.1=s:=by simpa using h1
  refine⟨q.2,?_,?_⟩<;>rw[<-this]<;>first|exact h2|rfl
noncomputable def fq:Aq:=BN 5 (M_ (Bg 4 P7 (A2 (Cr (Ds "Weaver" "net") (J 0)) (A2 (A3 AR (A3 AR (Cr (Ds "Weaver" "stages") (J 0)) (A3 AR (J 4) (A5 (.int 1)))) (A3 AR (A3 AR (J 4) (A5 (.int 0))) (A5 (.int 0)))) (A2 (A3 AR (J 4) (A5 (.int 0))) (A2 (Cr (Ds "Weaver" "address") (J 0)) (AD)))))))
noncomputable def Wp:Aq:=Cb (BE (A3 (Bj true) (A3 AR (J 5) (A5 (.int 0))) (A5 (.str (BU "at"))))) (QC (Tb 3 (KG 0 "Weaver" "entered" 2 QI (A2 (DH (A2 (A3 AR (J 5) (A5 (.int 1))) (A2 (A3 AR (J 5) (A5 (.int 2))) (AD)))) (A2 (QD 0 "Weaver" "woven" (J 4)) (AD)))))) (Co)
def fo:Aq:=AU fq (AU (N8 0 "Weaver" "told" (J 4) (J 5)) Wp)
def eZ(h:Nat)(o:On):Si (C7 h o)=true:=by cases o<;>rfl
section
variable{cs:List Nat}{ws:List (AW×AW)}{Bk:Nat->List (List DK)}{n a:Nat}{W:Fn}{U:To}
def af0(ok:Js cs ws Bk n a){s:B9}(h1:s.1.1<cs.length)(h2:s.2<n)(s1 s2 s3 s5:Be):fq [.Bc 0 (D4 (Dd cs ws) (.lst (D7 n Bk)) a W U),s1,s2,s3,.A1 (BI s),s5]=.ok (.BC [.Bc 0 (D4 (Dd cs ws) (.lst (D7 n Bk)) a W U),s1,s2,s3,.A1 (BI s),.A1 (C7 s.1.1 (CL ws Bk a s))]):=by
 have BZ:AR (BI s) (.int 1)=.ok (CZ s.2):=rfl;have DZ:AR (BI s) (.int 0)=.ok (AZ s.1):=rfl;have d3:AR (AZ s.1) (.int 0)=.ok (.int (s.1.1:Int)):=rfl;have Aa:=ok.Aa s.2 h2;have CP:AR (.lst (D7 n Bk)) (CZ s.2)=.ok (Cg (Bk s.2)):=K2 (by simp[D7,h2]);have Br:=Ro (bs:=Bk s.2) (h:=s.1.1) (by lia);have on:=aaW (cs:=cs) (ws:=ws) (b:=(Bk s.2).getD s.1.1 []) (λr AI=>by
  have AQ:s.1.1<(Bk s.2).length:=by lia
  have eg:(Bk s.2).getD s.1.1 []=(Bk s.2)[s.1.1]:=by simp[AQ]
  rw[eg]at AI;exact ok.pt s.2 h2 _ (N2 _) r AI) s.1.1 s.1.2 a ok.AB
 have oP:P7 [Dd cs ws,Df ((Bk s.2).getD s.1.1 []),AZ s.1,.int (a:Int)]=.ok (.v (C7 s.1.1 (CL ws Bk a s))):=on;generalize(Bk s.2).getD s.1.1 []=VW at Br oP;simp[fq,UW,uM,lQ,uK,DZ,BZ,d3,CP,Br,oP,eZ]
end
section
variable{cs:List Nat}{ws:List (AW×AW)}{Bk:Nat->List (List DK)}{n a:Nat}{W:Fn}{U:To}
def ia{X:D}{Ys:List D}{ma:B6}{r:AF}{e:AW}{l:List Nat}(AS:Ys.length<=7)(Zl:W.length+7<=1000)(AQ:l.length<=1000)(WW:Fu l<=1000)(hm:ma (.Bc 0 (D4 X (.lst Ys) a W U)::r)=.ok [AZ e,DC l]) :
  KG 0 "Weaver" "entered" 2 QI ma (.Bc 0 (D4 X (.lst Ys) a W U)::r)=.ok (.lst ((Fa W e (Fu l) Ys.length).map BI),.Bc 0 (D4 X (.lst Ys) a (W++(Fa W e (Fu l) Ys.length).map λs=>(s,l++[s.2])) U)::r):=by
 have FD:=u9 (X:=X) (a:=a) (W:=W) (U:=U) AS Zl e l AQ WW;have BX:Qs.all (λk=>!(("entered" :Str)==k))=true:=by decide
 simp only[KG,LS,hm,X0,BV,KS];unfold D4 at FD |-;simp only[Va];rw[if_pos ⟨trivial,BX,rfl⟩,FD];rfl
def aeB(AS:n<=7)(Zl:W.length<=168){s:B9}{l:List Nat}(hf:W.find? (λp=>decide (p.1=s))=some (s,l))(AQ:l.length<=1000)(WW:Fu l=s.2)(AN:s.2<n)(F:List B9)(N_:F.length<=1000)(s1 s2:Be)(o:On) :
  Wp [.Bc 0 (D4 (Dd cs ws) (.lst (D7 n Bk)) a W U),s1,s2,.C5 (F.map BI),.A1 (BI s),.A1 (C7 s.1.1 o)]=.ok (.BC [.Bc 0 (D4 (Dd cs ws) (.lst (D7 n Bk)) a (W++(KQ W n s o).map λt=>(t,l++[t.2])) U),s1,s2,.C5 ((F++KQ W n s o).map BI),.A1 (BI s),.A1 (C7 s.1.1 o)]):=by
 cases o with
 |drop=>have DZ:AR (C7 s.1.1 .drop) (.int 0)=.ok (st "drop"):=rfl;have q:Bj true (st "drop") (.str (BU "at"))=.ok (.Aa false):=rfl;simp[Wp,DZ,q,KQ]
 |out x=>have DZ:AR (C7 s.1.1 (.out x)) (.int 0)=.ok (st "out"):=rfl;have q:Bj true (st "out") (.str (BU "at"))=.ok (.Aa false):=rfl;simp[Wp,DZ,q,KQ]
 |to e=>
  have DZ:AR (C7 s.1.1 (.to e)) (.int 0)=.ok (st "at"):=rfl;have BZ:AR (C7 s.1.1 (.to e)) (.int 1)=.ok (.int (e.1:Int)):=rfl;have C0:AR (C7 s.1.1 (.to e)) (.int 2)=.ok (.int (e.2:Int)):=rfl;have q:Bj true (st "at") (.str (BU "at"))=.ok (.Aa true):=rfl;have ls:(D7 n Bk).length=n:=by simp[D7]
  have Aj:QD 0 "Weaver" "woven" (J 4) [.Bc 0 (D4 (Dd cs ws) (.lst (D7 n Bk)) a W U),s1,s2,.C5 (F.map BI),.A1 (BI s),.A1 (C7 s.1.1 (.to e))]=.ok (DC l):=by simp only[QD,k_,BV,v_var,Lu,LS,PG,IV,Vy,tw,hf,hR]
  have hm:(A2 (DH (A2 (A3 AR (J 5) (A5 (.int 1))) (A2 (A3 AR (J 5) (A5 (.int 2))) (AD)))) (A2 (QD 0 "Weaver" "woven" (J 4)) (AD))) [.Bc 0 (D4 (Dd cs ws) (.lst (D7 n Bk)) a W U),s1,s2,.C5 (F.map BI),.A1 (BI s),.A1 (C7 s.1.1 (.to e))]=.ok [AZ e,DC l]:=by simp only[Le,Aj];simp[BZ,C0,AZ]
  have ce:=ia (X:=Dd cs ws) (Ys:=D7 n Bk) (a:=a) (W:=W) (U:=U) (e:=e) (l:=l) (by lia) (by lia) AQ (by lia) hm;rw[ls,WW]at ce;have ln:(Fa W e s.2 n).length<=7:=by unfold Fa;refine Ff (s6 _ _) ?_;simp;lia
  have ex:Tb 3 (KG 0 "Weaver" "entered" 2 QI (A2 (DH (A2 (A3 AR (J 5) (A5 (.int 1))) (A2 (A3 AR (J 5) (A5 (.int 2))) (AD)))) (A2 (QD 0 "Weaver" "woven" (J 4)) (AD)))) [.Bc 0 (D4 (Dd cs ws) (.lst (D7 n Bk)) a W U),s1,s2,.C5 (F.map BI),.A1 (BI s),.A1 (C7 s.1.1 (.to e))]=.ok (.non,[.Bc 0 (D4 (Dd cs ws) (.lst (D7 n Bk)) a (W++(Fa W e s.2 n).map λt=>(t,l++[t.2])) U),s1,s2,.C5 ((F++Fa W e s.2 n).map BI),.A1 (BI s),.A1 (C7 s.1.1 (.to e))]):=by simp only[Tb,ce];simp[W8,show F.length+(Fa W e s.2 n).length<=1000000 by lia]
  rw[Wp,qG];simp only[qF,ex];simp[DZ,q,KQ]
def adk(ok:Js cs ws Bk n a){d0:AW}{s:B9}{pd F:List B9}(g:Good (CM cs cs.length) (CL ws Bk a) n d0 W U (s::pd++F))(s1 s2 s5:Be) :
  ∃N:List B9,∃l:List Nat,(s,l)∈W/\N=KQ W n s (CL ws Bk a s)/\fo [.Bc 0 (D4 (Dd cs ws) (.lst (D7 n Bk)) a W U),s1,s2,.C5 (F.map BI),.A1 (BI s),s5]=.ok (.BC [.Bc 0 (D4 (Dd cs ws) (.lst (D7 n Bk)) a (W++N.map λt=>(t,l++[t.2])) (U++[(s,CL ws Bk a s)])),s1,s2,.C5 ((F++N).map BI),.A1 (BI s),.A1 (C7 s.1.1 (CL ws Bk a s))]):=by
 have OJ:=OS ok.Ef.c cs.length;have h6:=ok.Ef.h6;have JU:=ok.JU;have MU:=g.few (by lia) JU;have aI:=(g.PD s (by simp)).1;obtain⟨l,AN,hf⟩:=ke aI;have dU:=g.inr _ AN;have AO:s.1.1<cs.length:=(P8.mp dU.1).1;have AQ:=g.lst _ AN;have HF:F.length<=168:=by have:=Qy g.Bc λx AH=>(g.PD x AH).1;simp at this;lia
 have ul:U.length<=168:=by
  have:=Qy g.nF λx AH=>by obtain⟨q,AX,rfl⟩:=List.mem_map.mp AH;exact(g.un q AX).1
  simp at this;lia
 refine⟨_,l,AN,rfl,?_⟩;have A9:=af0 (W:=W) (U:=U) ok AO dU.2 s1 s2 (.C5 (F.map BI)) s5;have AG:=aaw (X:=Dd cs ws) (Y:=.lst (D7 n Bk)) (a:=a) (W:=W) (U:=U) (s:=s) (o:=CL ws Bk a s) (r:=[s1,s2,.C5 (F.map BI),.A1 (BI s),.A1 (C7 s.1.1 (CL ws Bk a s))]) (mk:=J 4) (mv:=J 5) (by simp) (by simp) (g.PD s (by simp)).2 (by lia);have B3:=aeB (cs:=cs) (ws:=ws) (Bk:=Bk) (a:=a) (U:=U++[(s,CL ws Bk a s)]) JU MU hf (by have:=AQ.2;simp at this;lia) AQ.1 dU.2 F (by lia) s1 s2 (CL ws Bk a s);rw[fo,EC,A9,BV,FH,EC,AG,BV,FH,B3]
end
def ym{ws:List (AW×AW)}{b:List DK}{h d a:Nat}{e:AW}(he:BC ws b h d a=.to e):e∈ends ws:=by
 unfold BC at he
 split at he
 .cases he
 .split at he
  .cases he
  .split at he
   .cases he
   .rename_i A0;cases he;exact tV A0
section
variable{cs:List Nat}{ws:List (AW×AW)}{Bk:Nat->List (List DK)}{n a:Nat}{d0:AW}
def sV(ok:Js cs ws Bk n a)(s:B9)(e:AW)(h:CL ws Bk a s=.to e):e∈CM cs cs.length:=ok.Ef.sub _ (ym h)
def Mr(cs:List Nat)(ws:List (AW×AW))(Bk:Nat->List (List DK))(n a:Nat)(W:Fn)(U:To)(s1:Be)(FO:List B9)(s3 s4 s5:Be):AF:=[.Bc 0 (D4 (Dd cs ws) (.lst (D7 n Bk)) a W U),s1,.A1 (.lst (FO.map BI)),s3,s4,s5]
def fp:Aq:=AU (E0 (F4 (J 2)) (BL 4) fo) (RL 3 (BN 2 (J 3)))
def aez(ok:Js cs ws Bk n a){LJ:Fn}{Pu:To}{FO:List B9}(g:Good (CM cs cs.length) (CL ws Bk a) n d0 LJ Pu FO)(h0:((d0,0):B9)∈LJ.map (·.1))(s1 s4 s5:Be) :
  Ends (fp (Mr cs ws Bk n a LJ Pu s1 FO (.C5 []) s4 s5)) (Jn λρ=>∃W U F s3 s4 s5,Good (CM cs cs.length) (CL ws Bk a) n d0 W U F/\W.length=LJ.length+F.length/\((d0,0):B9)∈W.map (·.1)/\ρ=Mr cs ws Bk n a W U s1 F s3 s4 s5):=by
 unfold fp;rw[EC];refine Tx BI FO (λj ρ=>∃W U F s4 s5,Good (CM cs cs.length) (CL ws Bk a) n d0 W U (FO.drop j++F)/\W.length=LJ.length+F.length/\((d0,0):B9)∈W.map (·.1)/\ρ=Mr cs ws Bk n a W U s1 FO (.C5 (F.map BI)) s4 s5) (by simp[Mr]) ⟨LJ,Pu,[],s4,s5,by simpa using g,by simp,h0,rfl⟩ ?_ ?_
 .rintro j s _ By ⟨W,U,F,s4,s5,g,lw,h0,rfl⟩;obtain⟨AQ,rfl⟩:=List.getElem?_eq_some_iff.mp By;rw[gZ AQ]at g;obtain⟨N,l,AN,uh,HX⟩:=adk ok g s1 (.A1 (.lst (FO.map BI))) s5;have Ki:BL 4 (BI FO[j]) (Mr cs ws Bk n a W U s1 FO (.C5 (F.map BI)) s4 s5)=.ok [.Bc 0 (D4 (Dd cs ws) (.lst (D7 n Bk)) a W U),s1,.A1 (.lst (FO.map BI)),.C5 (F.map BI),.A1 (BI FO[j]),s5]:=rfl;rw[Ki,BV,HX];have g':=Good.step (pd:=FO.drop (j+1)++F) (sV ok) g AN;rw[<-uh,Uu]at g';exact⟨_,rfl,_,rfl,_,_,F++N,_,_,g',by simp[lw,PT],by rw[Hz];exact HS _ h0,rfl⟩
 .rintro _ ⟨W,U,F,s4,s5,g,lw,h0,rfl⟩;rw[List.drop_length,Xc]at g;exact⟨_,rfl,_,rfl,W,U,F,_,_,_,g,lw,h0,rfl⟩
def dm(l:List B9):(l.map BI).all (okN 7)=true:=by simp[BI,AZ,CZ,okN]
def fm:Aq:=L1 (BE (A3 (Bj false) (J 2) (BS (C1 (AD))))) (AU (EB 3 (C1 (AD))) fp)
def adj(ok:Js cs ws Bk n a){LJ:Fn}{Pu:To}{FO:List B9}(g:Good (CM cs cs.length) (CL ws Bk a) n d0 LJ Pu FO)(h0:((d0,0):B9)∈LJ.map (·.1))(s1 s3 s4 s5:Be) :
  ∃W U,Good (CM cs cs.length) (CL ws Bk a) n d0 W U []/\((d0,0):B9)∈W.map (·.1)/\(fm (Mr cs ws Bk n a LJ Pu s1 FO s3 s4 s5)).bind UK=.ok (.non,D4 (Dd cs ws) (.lst (D7 n Bk)) a W U):=by
 have OJ:=OS ok.Ef.c cs.length;have h6:=ok.Ef.h6;suffices h:Ends ((fm (Mr cs ws Bk n a LJ Pu s1 FO s3 s4 s5)).bind UK) (λy=>∃W U,Good (CM cs cs.length) (CL ws Bk a) n d0 W U []/\((d0,0):B9)∈W.map (·.1)/\y=(.non,D4 (Dd cs ws) (.lst (D7 n Bk)) a W U))by
  obtain⟨y,e,W,U,g,h0,rfl⟩:=h;exact⟨W,U,g,h0,e⟩
 refine Yp (λm ρ=>∃W U FO s3 s4 s5,Good (CM cs cs.length) (CL ws Bk a) n d0 W U FO/\((d0,0):B9)∈W.map (·.1)/\m=(169-W.length)+(if FO=[]then 0 else 1)/\ρ=Mr cs ws Bk n a W U s1 FO s3 s4 s5) (n:=(169-LJ.length)+(if FO=[]then 0 else 1)) ⟨LJ,Pu,FO,s3,s4,s5,g,h0,rfl,rfl⟩ (by split<;>lia) ?_;rintro m _ ⟨W,U,FO,s3,s4,s5,g,h0,rfl,rfl⟩;refine⟨!(FO.map BI).isEmpty,?_,λAv=>?_,λAv=>?_⟩
 .have:=ne_nil (dm FO);simp[Mr,lim,this]
 .have e:EB 3 (C1 AD) (Mr cs ws Bk n a W U s1 FO s3 s4 s5)=.ok (.BC (Mr cs ws Bk n a W U s1 FO (.C5 []) s4 s5)):=rfl;rw[EC,e,BV,FH];refine(aez ok g h0 s1 s4 s5).mono ?_;rintro f ⟨ρ,rfl,s_,sZ,F,s3,s4,s5,g',lw,h0,rfl⟩;refine⟨_,rfl,_,?_,s_,sZ,F,s3,s4,s5,g',h0,rfl,rfl⟩;have MU:=g'.few (by lia) ok.JU;have hw:FO≠[]:=by rintro rfl;simp at Av
  rw[if_neg hw];cases F with
  |nil=>simp at lw |-;lia
  |cons x F=>simp at lw |-;lia
 .have:FO=[]:=by simpa using Av
  subst this;exact⟨_,rfl,W,U,g,h0,rfl⟩
def ae6(ok:Js cs ws Bk n a)(hd:d0∈CM cs cs.length):∃W U,Good (CM cs cs.length) (CL ws Bk a) n d0 W U []/\((d0,0):B9)∈W.map (·.1)/\Vh (D4 (Dd cs ws) (.lst (D7 n Bk)) a [] []) [AZ d0]=.ok (.non,D4 (Dd cs ws) (.lst (D7 n Bk)) a W U):=by
 have D3:=ok.D3;have JU:=ok.JU;have Bi:YW=AU (NA 2 (KG 0 "Weaver" "entered" 2 QI (A2 (J 1) (A2 (BS (C1 (AD))) (AD))))) fm:=rfl;have MV:=Good.start (N:=CL ws Bk a) (n:=n) hd;have h0:((d0,0):B9)∈((Fa [] d0 0 n).map λt=>(t,([]:List Nat)++[t.2])).map (·.1):=by have:((d0,0):B9)∈Fa [] d0 0 n:=P9.mpr ⟨rfl,CY _,by show 0<n;lia,λz=>nomatch z⟩;rw[IK];exact List.mem_map.mpr ⟨_,this,rfl⟩
 obtain⟨W,U,g,Ar,e⟩:=adj ok MV h0 (.A1 (AZ d0)) .un .un .un;refine⟨W,U,g,Ar,?_⟩;have ls:(D7 n Bk).length=n:=by simp[D7]
 have ce:=ia (X:=Dd cs ws) (Ys:=D7 n Bk) (a:=a) (W:=[]) (U:=[]) (e:=d0) (l:=[]) (ma:=A2 (J 1) (A2 (BS (C1 (AD))) (AD))) (r:=[.A1 (AZ d0),.un,.un,.un,.un]) (by lia) (XT rfl) (JJ _) (JJ _) (by simp[lim,DC]);rw[ls]at ce;show(YW [.Bc 0 (D4 (Dd cs ws) (.lst (D7 n Bk)) a [] []),.A1 (AZ d0),.un,.un,.un,.un]).bind UK=_;rw[Bi,EC,ads,ce,<-e];rfl
def adz(ok:Js cs ws Bk n a)(hd:d0∈CM cs cs.length):∃W U,Good (CM cs cs.length) (CL ws Bk a) n d0 W U []/\((d0,0):B9)∈W.map (·.1)/\Vg [Dd cs ws,.lst (D7 n Bk),AZ d0,.int (a:Int),.non]=.ok (D4 (Dd cs ws) (.lst (D7 n Bk)) a W U):=by
 obtain⟨W,U,g,h0,e⟩:=ae6 ok hd;refine⟨W,U,g,h0,?_⟩;have BX:Qs.all (λk=>!(("weave" :Str)==k))=true:=by decide
 have z:KG 0 "Weaver" "weave" 1 Vh (A2 (J 3) AD) [.Bc 0 (D4 (Dd cs ws) (.lst (D7 n Bk)) a [] []),.A1 (Dd cs ws),.A1 (.lst (D7 n Bk)),.A1 (AZ d0),.A1 (.int (a:Int)),.A1 .non]=.ok (.non,[.Bc 0 (D4 (Dd cs ws) (.lst (D7 n Bk)) a W U),.A1 (Dd cs ws),.A1 (.lst (D7 n Bk)),.A1 (AZ d0),.A1 (.int (a:Int)),.A1 .non]):=by simp only[KG,LS,Le,Nr,v_var,Lu,PG,X0,BV,KS];unfold D4 at e |-;simp only[Va];rw[if_pos ⟨trivial,BX,rfl⟩,e];rfl
 have AG:VV [.Bc 0 (.ins "Weaver" [] []),.A1 (Dd cs ws),.A1 (.lst (D7 n Bk)),.A1 (AZ d0),.A1 (.int (a:Int)),.A1 .non]=QC (KG 0 "Weaver" "weave" 1 Vh (A2 (J 3) (AD))) [.Bc 0 (D4 (Dd cs ws) (.lst (D7 n Bk)) a [] []),.A1 (Dd cs ws),.A1 (.lst (D7 n Bk)),.A1 (AZ d0),.A1 (.int (a:Int)),.A1 .non]:=by
  have HF:∀(f:Str)(ns:List Str)(Au:List T)(t:T)(r:AF),ns.all (λk=>!(f==k))=true->ns.length<1000->U1 "Weaver" f t (.Bc 0 (.ins "Weaver" ns Au)::r) ((.Bc 0 (.ins "Weaver" ns Au)::r:AF)[0]? :Option Be)=.ok (.BC (.Bc 0 (.ins "Weaver" (ns++[f]) (Au++[t]))::r)):=λf ns Au t r h1 h2=>by rw[LS];simp only[U1];rw[if_pos ⟨trivial,h1,h2⟩];rfl
  have Eh:∀(f:Str)(ns:List Str)(Au:List T)(m:Ag)(d:D)(r:AF)(b:Aq),m (.Bc 0 (.ins "Weaver" ns Au)::r)=.ok d->ns.all (λk=>!(f==k))=true->ns.length<1000->AU (QE "Weaver" f m) b (.Bc 0 (.ins "Weaver" ns Au)::r)=b (.Bc 0 (.ins "Weaver" (ns++[f]) (Au++[.A1 d]))::r):=λf ns Au m d r b h h1 h2=>by rw[EC,QE,h,BV,HF _ _ _ _ _ h1 h2,BV,FH]
  have Cu:∀(f:Str)(ns:List Str)(Au:List T)(r:AF)(b:Aq),ns.all (λk=>!(f==k))=true->ns.length<1000->AU (Tc "Weaver" f) b (.Bc 0 (.ins "Weaver" ns Au)::r)=b (.Bc 0 (.ins "Weaver" (ns++[f]) (Au++[.B7 [] []]))::r):=λf ns Au r b h1 h2=>by rw[EC,Tc,HF _ _ _ _ _ h1 h2,BV,FH]
  unfold VV;rw[Eh _ _ _ _ _ _ _ rfl (by decide) (by decide),Eh _ _ _ _ _ _ _ rfl (by decide) (by decide),Eh _ _ _ _ _ _ _ rfl (by decide) (by decide),Eh _ _ _ _ _ _ _ rfl (by decide) (by decide),Cu _ _ _ _ _ (by decide) (by decide),Cu _ _ _ _ _ (by decide) (by decide)];rfl
 show((VV [.Bc 0 (.ins "Weaver" [] []),.A1 (Dd cs ws),.A1 (.lst (D7 n Bk)),.A1 (AZ d0),.A1 (.int (a:Int)),.A1 .non]).bind UK).bind m2=_;rw[AG,qF,z];rfl
end
def KR(N:B9->On)(s:B9):Option B9:=match N s with
 |.to e=>some (e,s.2)
 |_=>none
def NF(o:Option B9):D:=(o.map BI).getD .non
def Dz(N:B9->On)(s:B9):Nat->Option B9
 |0=>some s
 |k+1=>(Dz N s k).bind (KR N)
def ed(a b:B9):Cv (BI a) (BI b)=decide (a=b):=by
 show(Cv (AZ a.1) (AZ b.1)&&(((a.2:Int)==(b.2:Int))&&true))=_;rw[Yn,Uy,N5,Ga,beq_iff_eq,decide_eq_true_iff,decide_eq_true_iff];constructor
 .intro⟨h1,h2⟩;exact PZ h1 (by lia)
 .rintro rfl;exact⟨rfl,rfl⟩
def sF(ds:List B9)(d:B9):((ds.map BI).any λy=>Cv y (BI d))=decide (d∈ds):=by
 rw[PQ,N5,Uo,decide_eq_true_iff];constructor
 .rintro⟨x,AH,h⟩;have:=(ed x d).symm.trans h;rw[decide_eq_true_iff]at this;rw[<-this];exact AH
 .intro h;exact⟨d,h,by show Cv (BI d) (BI d)=true;rw[ed];simp⟩
def xg(ds:List B9)(d:B9):inD false (BI d) (.lst (ds.map BI))=.ok (.Aa (!decide (d∈ds))):=by have s:Oo (.lst (ds.map BI))=some (ds.map BI):=rfl;have o:okN 7 (BI d)=true:=rfl;simp only[inD,s,dm,o,and_self,if_true,sF];rfl
def jo(o:Option B9)(s:B9):Bj true (NF o) (BI s)=.ok (.Aa (decide (o=some s))):=by
 have DA:okN 8 (BI s)=true:=rfl;cases o with
 |none=>rfl
 |some t=>have Cw:okN 8 (BI t)=true:=rfl;show Bj true (BI t) (BI s)=_;unfold Bj;rw[if_pos ⟨Cw,DA⟩,if_pos rfl,ed];by_cases h:t=s<;>simp[h]
section
variable{N:B9->On}
theorem m4{s:B9}{i j:Nat}(h:Dz N s (j+1)=Dz N s i)(AC:i<=j):∀k,i<=k->∃q,i<=q/\q<=j/\Dz N s k=Dz N s q
 |0,AL=>⟨0,AL,JJ _,rfl⟩
 |k+1,AL=>by
  by_cases e:i=k+1
  .exact⟨i,CY _,AC,by rw[e]⟩
  .obtain⟨q,An,BG,EO⟩:=m4 h AC k (by lia);have A9:Dz N s (k+1)=Dz N s (q+1):=by simp only[Dz,EO]
   by_cases z:q=j
   .subst z;exact⟨i,CY _,AC,A9.trans h⟩
   .exact⟨q+1,by lia,by lia,A9⟩
structure TJ(N:B9->On)(s:B9)(gl:List B9):Prop where
 Am:gl.Nodup
 pos:0<gl.length
 it:∀i,i<gl.length->gl[i]?=Dz N s i
def TJ.snoc{s t:B9}{gl:List B9}(h:TJ N s gl)(Av:Dz N s gl.length=some t)(AS:t∉gl):TJ N s (gl++[t]):=by
 refine⟨List.nodup_append.mpr ⟨h.Am,by simp,λx AH y Bf z=>by rw[List.mem_singleton.mp Bf]at z;exact AS (z▸AH)⟩,by simp,λi AC=>?_⟩;rw[JG,Ue]at AC;by_cases q:i<gl.length
 .rw[Mx q];exact h.it i q
 .obtain rfl:i=gl.length:=by lia
  rw[Av];simp
def TJ.round{s:B9}{gl:List B9}(h:TJ N s gl)(he:∀t,Dz N s gl.length=some t->t∈gl){m:Nat}(hm:1<=m)(AI:Dz N s m=some s):Dz N s gl.length=some s:=by
 have p:=h.pos;have dist:∀i j,i<j->j<gl.length->Dz N s i≠Dz N s j:=λi j WV By z=>by rw[<-h.it i (by lia),<-h.it j By,E8 (by lia),E8 By]at z;exact List.pairwise_iff_getElem.mp h.Am i j (by lia) By WV (FA z)
 have nn:∀k,k<=m->Dz N s k=none->Dz N s m=none:=by
  intro k AL e;obtain⟨q,rfl⟩:=Nat.le.dest AL;clear AI hm AL;induction q with
  |zero=>exact e
  |succ q C6=>rw[<-PT];simp only[Dz,C6,Option.bind_none]
 have Me:gl.length<=m:=by refine Nat.le_of_not_lt λz=>dist 0 m (by lia) z ?_;rw[AI];rfl
 cases e:Dz N s gl.length with
 |none=>rw[nn _ Me e]at AI;cases AI
 |some t=>
  obtain⟨i,AC,G4⟩:=Sn (he t e);have AG:Dz N s i=some t:=by rw[<-h.it i AC,E8 AC,G4]
  by_cases z:i=0
  .subst z;rw[<-AG];rfl
  .obtain⟨j,By⟩:∃j,gl.length=j+1:=⟨gl.length-1,by lia⟩;rw[By]at e AC Me;obtain⟨q,An,BG,EO⟩:=m4 (e.trans AG.symm) (by lia) m (by lia);exact absurd ((show Dz N s 0=Dz N s m by rw[AI];rfl).trans EO) (dist 0 q (by lia) (by lia))
end
section
variable{A:List AW}{N:B9->On}{n:Nat}{d0:AW}{W:Fn}{U:To}{X Y:D}{a:Nat}
def qt(g:Good A N n d0 W U []){s:B9}(AN:s∈W.map (·.1)):IV (.B7 ((U.map (·.1)).map F6) (U.map λp=>C7 p.1.1.1 p.2)) (BI s)=.ok (C7 s.1.1 (N s)):=by
 obtain⟨p,Ad,rfl⟩:=List.mem_map.mp AN;rcases g.cl p Ad with h|⟨h,_⟩
 .cases h
 .obtain⟨x,AH,hf⟩:=ke h;have e:=(g.un _ AH).2;dsimp only at e;subst e;simp only[IV,Vy,tv,hf,hR]
def eV(g:Good A N n d0 W U []){s t:B9}(AN:s∈W.map (·.1))(h:KR N s=some t):t∈W.map (·.1):=by
 obtain⟨p,Ad,rfl⟩:=List.mem_map.mp AN;rcases g.cl p Ad with q|⟨_,q⟩
 .cases q
 .unfold KR at h
  split at h
  .rename_i e he;cases h;exact q e he
  .cases h
def iw(g:Good A N n d0 W U []){s:B9}(AN:s∈W.map (·.1)):NC [Dp X Y a W U,BI s]=.ok (.v (NF (KR N s))):=by
 have t:=qt g AN;have BZ:AR (BI s) (.int 1)=.ok (CZ s.2):=rfl;unfold KR;cases e:N s with
 |drop=>rw[e]at t;have DZ:AR (C7 s.1.1 .drop) (.int 0)=.ok (st "drop"):=rfl;have q:Bj false (st "drop") (.str (BU "at"))=.ok (.Aa true):=rfl;simp[-IK,NC,VU,YM,t,e,DZ,q,NF]
 |out x=>rw[e]at t;have DZ:AR (C7 s.1.1 (.out x)) (.int 0)=.ok (st "out"):=rfl;have q:Bj false (st "out") (.str (BU "at"))=.ok (.Aa true):=rfl;simp[-IK,NC,VU,YM,t,e,DZ,q,NF]
 |to d=>rw[e]at t;have DZ:AR (C7 s.1.1 (.to d)) (.int 0)=.ok (st "at"):=rfl;have OE:AR (C7 s.1.1 (.to d)) (.int 1)=.ok (.int (d.1:Int)):=rfl;have Vv:AR (C7 s.1.1 (.to d)) (.int 2)=.ok (.int (d.2:Int)):=rfl;have q:Bj false (st "at") (.str (BU "at"))=.ok (.Aa false):=rfl;have BG:Bj true (.int (d.1:Int)) .non=.ok (.Aa false):=rfl;simp[-IK,NC,VU,YM,bV,t,e,DZ,BZ,OE,Vv,q,BG,NF];rfl
def ps:Q1 "Weaver" "behind" (Dp X Y a W U)=.ok (Dp X Y a W U):=rfl
def dZ:CR:=IE (Gv (BE (A3 (Fs false) (J 3) (A5 .non))) (BE (A3 (inD false) (J 3) (J 2))))
def pZ:Aq:=AU (GX 2 (J 3)) (BN 3 (Ia "Weaver" "behind" 1 NC (J 0) (A2 (J 3) (AD))))
def bA:Aq:=RL 2 (D0 (Mc (BE (A3 (Bj true) (J 3) (J 1))) (J 2) (BS (C1 (AD)))))
theorem cz(g:Good A N n d0 W U []){s:B9}(AN:s∈W.map (·.1)):∀(k:Nat)(t:B9),Dz N s k=some t->t∈W.map (·.1)
 |0,t,h=>by cases h;exact AN
 |k+1,t,h=>by simp only[Dz]at h;obtain⟨u,BP,h⟩:=Option.bind_eq_some_iff.mp h;exact eV g (cz g AN k u BP) h
def acI(g:Good A N n d0 W U [])(MU:W.length<=168){s:B9}(AN:s∈W.map (·.1)):∃R:List B9,R.length<=168/\(R≠[]↔∃m,1<=m/\Dz N s m=some s)/\Tg [Dp X Y a W U,BI s]=.ok (.v (.lst (R.map BI))):=by
 suffices h:Ends (Tg [Dp X Y a W U,BI s]) (λy=>∃R:List B9,R.length<=168/\(R≠[]↔∃m,1<=m/\Dz N s m=some s)/\y=.v (.lst (R.map BI)))by
  obtain⟨y,e,R,h1,h2,rfl⟩:=h;exact⟨R,h1,h2,e⟩
 have Bi:YV=AU (EB 2 (C1 (A2 (J 1) (AD)))) (AU (BN 3 (Ia "Weaver" "behind" 1 NC (J 0) (A2 (J 1) (AD)))) (AU (L1 dZ pZ) bA)):=rfl;have A9:BN 3 (Ia "Weaver" "behind" 1 NC (J 0) (A2 (J 1) (AD))) [.A1 (Dp X Y a W U),.A1 (BI s),.C5 [BI s],.un]=.ok (.BC [.A1 (Dp X Y a W U),.A1 (BI s),.C5 [BI s],.A1 (NF (KR N s))]):=by simp[ps,iw g AN]
 have DG:EB 2 (C1 (A2 (J 1) (AD))) [.A1 (Dp X Y a W U),.A1 (BI s),.un,.un]=.ok (.BC [.A1 (Dp X Y a W U),.A1 (BI s),.C5 [BI s],.un]):=rfl;have BZ:Dz N s 1=KR N s:=rfl;show Ends ((YV [.A1 (Dp X Y a W U),.A1 (BI s),.un,.un]).bind _) _;rw[Bi,EC,DG,BV,FH,EC,A9,BV,FH,EC,SD];refine Yp (λm ρ=>∃gl,TJ N s gl/\m=169-gl.length/\ρ=[.A1 (Dp X Y a W U),.A1 (BI s),.C5 (gl.map BI),.A1 (NF (Dz N s gl.length))]) (n:=168) ⟨[s],⟨by simp,by simp,λi AC=>by rw[Nat.lt_one_iff.mp AC];rfl⟩,rfl,by rw[Ue,BZ];rfl⟩ (by decide) ?_;rintro m _ ⟨gl,ET,rfl,rfl⟩;have ve:∀x∈gl,x∈W.map (·.1):=λx AH=>by obtain⟨i,AC,G4⟩:=Sn AH;exact cz g AN i x (by rw[<-ET.it i AC,E8 AC,G4])
 have vf:gl.length<=168:=by have:=Qy ET.Am ve;simp at this;lia
 cases e:Dz N s gl.length with
 |none=>
  refine⟨false,?_,(λz=>nomatch z),λ_=>?_⟩
  .simp[dZ,NF,Fs];intro z;cases z
  .have Eg:∀m,1<=m->¬Dz N s m=some s:=λm hm AI=>by
     have:=ET.round (λt Av=>by rw[e]at Av;cases Av) hm AI;rw[e]at this;cases this
   refine⟨.v (.lst []),?_,[],by simp,⟨λz=>absurd rfl z,λ⟨m,hm,AI⟩=>absurd AI (Eg m hm)⟩,rfl⟩;have:=jo none s;simp[bA,this,lim]
 |some t=>
  refine⟨!decide (t∈gl),?_,λAv=>?_,λAv=>?_⟩
  .have:=xg gl t;simp[dZ,NF,Fs,this];intro z;cases z
  .have Av:t∉gl:=by simpa using Av
   have g2:=ET.snoc e Av;have aeK:=cz g AN _ t e;have b:=iw (X:=X) (Y:=Y) (a:=a) g aeK;have cv:Dz N s (gl.length+1)=KR N t:=by simp only[Dz,e,O0]
   refine⟨_,?_,_,rfl,169-(gl++[t]).length,by simp;lia,gl++[t],g2,rfl,rfl⟩;rw[JG,Ue,cv];simp[pZ,NF,ps,show gl.length<1000000 by lia]at b |-;simp[b]
  .have Av:t∈gl:=by simpa using Av
   have q:=jo (some t) s;by_cases Au:t=s
   .subst Au;refine⟨.v (.lst (gl.map BI)),?_,gl,vf,⟨λ_=>⟨gl.length,ET.pos,e⟩,λ_ z=>by have:=ET.pos;rw[z]at this;exact absurd this (by decide)⟩,rfl⟩;simp[bA,q]
   .have Eg:∀m,1<=m->¬Dz N s m=some s:=λm hm AI=>by
      have:=ET.round (λt' mH=>by rw[e]at mH;cases mH;exact Av) hm AI;rw[e]at this;exact Au (FA this)
    refine⟨.v (.lst []),?_,[],by simp,⟨λz=>absurd rfl z,λ⟨m,hm,AI⟩=>absurd AI (Eg m hm)⟩,rfl⟩;simp[bA,q,lim,Au]
end
abbrev DJ:=Int×Int×Int
noncomputable def Hq:List DJ:=(EY 6).map (λh:Nat=>(0,(h:Int),0))++((EY 6).map (λh:Nat=>(1,(h:Int),0))++((EY 6).flatMap (λh:Nat=>(EY 4).map λo:Nat=>(2,(h:Int),(o:Int)))++[(3,0,0)]))
def t9:Hq.length=37:=by decide
def j6{h:Nat}(BD:h<6):((0,(h:Int),0):DJ)∈Hq:=HS _ (List.mem_map.mpr ⟨h,List.mem_range.mpr BD,rfl⟩)
def j7{h:Nat}(BD:h<6):((1,(h:Int),0):DJ)∈Hq:=GB _ (HS _ (List.mem_map.mpr ⟨h,List.mem_range.mpr BD,rfl⟩))
def j8{h o:Nat}(BD:h<6)(AM:o<4):((2,(h:Int),(o:Int)):DJ)∈Hq:=GB _ (GB _ (HS _ (List.mem_flatMap.mpr ⟨h,List.mem_range.mpr BD,List.mem_map.mpr ⟨o,List.mem_range.mpr AM,rfl⟩⟩)))
def j9:((3,0,0):DJ)∈Hq:=GB _ (GB _ (GB _ (by simp)))
def MP{k:DJ}(h:k∈Hq):OM k:=by
 rcases List.mem_append.mp h with h|h
 .obtain⟨x,_,rfl⟩:=List.mem_map.mp h;exact .inl rfl
 .rcases List.mem_append.mp h with h|h
  .obtain⟨x,_,rfl⟩:=List.mem_map.mp h;exact .inr (.inl rfl)
  .rcases List.mem_append.mp h with h|h
   .obtain⟨x,_,h⟩:=List.mem_flatMap.mp h;obtain⟨y,_,rfl⟩:=List.mem_map.mp h;exact .inr (.inr (.inl rfl))
   .rw[List.mem_singleton.mp h];exact .inr (.inr (.inr rfl))
def ZA{k:DJ}(h:OM k):Z9 (EV k)=some k:=by rcases h with g|g|g|g<;>rw[g]<;>rfl
def mb{a b:DJ}(AB:OM a)(A0:OM b)(h:EV a=EV b):a=b:=by have:=ZA AB;rw[h,ZA A0]at this;exact(FA this).symm
abbrev Gz:=List (DJ×List D)
structure Iv(P:Gz):Prop where
 Am:(P.map (·.1)).Nodup
 cd:∀k∈P.map (·.1),k∈Hq
def Iv.few{P:Gz}(h:Iv P):P.length<=37:=by have:=Qy h.Am h.cd;rw[t9]at this;simpa using this
def O_(P:Gz):D:=.B7 ((P.map (·.1)).map EV) (P.map λp=>.lst p.2)
def FR(P:Gz):Be:=.ob (.B7 ((P.map (·.1)).map EV) (P.map λp=>.lst p.2))
def KV(P:Gz)(k:DJ)(v:List D):Gz:=if k∈P.map (·.1)then P else P++[(k,v)]
def jV{l:List DJ}{k:DJ}(AQ:∀x∈l,x∈Hq)(AL:k∈Hq):(l.map EV).any (λy=>decide (y=EV k))=decide (k∈l):=by
 rw[N5,Uo,decide_eq_true_iff];constructor
 .rintro⟨y,Bf,e⟩;obtain⟨x,AH,rfl⟩:=List.mem_map.mp Bf;rw[<-mb (MP (AQ x AH)) (MP AL) (of_decide_eq_true e)];exact AH
 .intro h;exact⟨EV k,List.mem_map.mpr ⟨k,h,rfl⟩,by simp⟩
def eX{P:Gz}{k:DJ}{v:List D}(h:Iv P)(AL:k∈Hq):Iv (KV P k v):=by
 unfold KV
 split
 .exact h
 .rename_i AS;refine⟨?_,λx AH=>?_⟩
  .rw[Hz];exact List.nodup_append.mpr ⟨h.Am,by simp,λx AH y Bf z=>by rw[List.mem_singleton.mp Bf]at z;exact AS ((show x=k from z)▸AH)⟩
  .rw[Hz]at AH;rcases List.mem_append.mp AH with AH|AH
   .exact h.cd x AH
   .rw[List.mem_singleton.mp AH];exact AL
def XF{P:Gz}{k x:DJ}{v:List D}(h:x∈P.map (·.1)):x∈(KV P k v).map (·.1):=by
 unfold KV
 split
 .exact h
 .rw[Hz];exact HS _ h
def eW(P:Gz)(k:DJ)(v:List D):k∈(KV P k v).map (·.1):=by
 unfold KV
 split
 .assumption
 .rw[Hz];exact GB _ (by simp)
def aQ{P:Gz}{k:DJ}{v:List D}{mk:Ru}{mv:Ag}{s0:Be}{r:AF}(h:Iv P)(AL:k∈Hq)(DY:mk (s0::FR P::r)=.ok (EV k))(ev:mv (s0::FR P::r)=.ok (.lst v)) :
  N9 1 mk mv (s0::FR P::r)=.ok (.BC (s0::FR (KV P k v)::r)):=by
 have DG:be 1 (s0::FR P::r)=.ok ((P.map (·.1)).map EV,P.map λp=>.lst p.2):=rfl;have MU:=h.few;unfold N9;rw[DG,BV,DY,X0,BV,ev,X0,BV];dsimp only;rw[jV h.cd AL];unfold KV;by_cases hm:k∈P.map (·.1)
 .rw[if_pos hm,if_pos (by simpa using hm),if_pos (by simp;lia)]
 .rw[if_neg hm,if_neg (by simpa using hm),putD,if_pos ⟨by rw[jV h.cd AL];simpa using hm,by simp;lia⟩];simp[FR]
def Mi(h:Nat):On->DJ
 |.drop=>(1,(h:Int),0)
 |.out o=>(2,(h:Int),(o:Int))
 |.to e=>(0,(e.1:Int),0)
def J7:On->Bool
 |.to _=>true
 |_=>false
def n8:Aq:=N9 1 (P2 (DH (A2 (A5 (.str (BU "at"))) (A2 (A3 AR (A3 AR (J 2) (A5 (.int 0))) (A5 (.int 0))) (AD))))) (J 3)
noncomputable def eL:Aq:=Cb (BE (A3 (Bj false) (A3 AR (A3 IV (Cr (Ds "Weaver" "told") (J 0)) (J 2)) (A5 (.int 0))) (A5 (.str (BU "at"))))) (N9 1 (P2 (A3 IV (Cr (Ds "Weaver" "told") (J 0)) (J 2))) (J 3)) (Co)
noncomputable def eM:Aq:=Cb (BE (A3 (Bj false) (J 4) (BS (C1 (AD))))) (N9 1 (eF (BU "ring")) (BS (IF (EN FG (J 3) (FT) (Er (Cr JW (A5 (.int 1))))) (A3 Mk (BS (C1 (A2 (A3 AR (J 2) (A5 (.int 1))) (AD)))) (Bs CO (A2 (J 4) (AD))))))) (Co)
def eN:Aq:=AU n8 (AU eL (AU (BN 4 (Ia "Weaver" "round_from" 1 Tg (J 0) (A2 (J 2) (AD)))) eM))
def yp{P:Gz}(h:Iv P){s:B9}(BD:s.1.1<6)(l:List Nat)(w:D)(s4:Be):n8 [.A1 w,FR P,.A1 (BI s),.A1 (DC l),s4]=.ok (.BC [.A1 w,FR (KV P (0,(s.1.1:Int),0) (l.map CZ)),.A1 (BI s),.A1 (DC l),s4]):=by refine aQ h (j6 BD) ?_ rfl;have DZ:AR (BI s) (.int 0)=.ok (AZ s.1):=rfl;have d3:AR (AZ s.1) (.int 0)=.ok (.int (s.1.1:Int)):=rfl;have k:dj (J8 (.tup [.str (BU "at"),.int (s.1.1:Int)]))=.ok (EV (0,(s.1.1:Int),0)):=rfl;unfold P2;simp[DZ,d3,k]
def tL{α:Type}(xs:List α)(l h:Option Int):(G2 xs l h).length<=xs.length:=by unfold G2;rw[Ul,Xi];lia
def yr{P:Gz}(h:Iv P){s:B9}{l:List Nat}(AQ:l.length<=168){R:List B9}(MW:R.length<=168)(w:D):∃v,eM [.A1 w,FR P,.A1 (BI s),.A1 (DC l),.A1 (.lst (R.map BI))]=.ok (.BC [.A1 w,FR (if R=[]then P else KV P (3,0,0) v),.A1 (BI s),.A1 (DC l),.A1 (.lst (R.map BI))]):=by
 have ne:=ne_nil (dm R);have c:BE (A3 (Bj false) (J 4) (BS (C1 (AD)))) [.A1 w,FR P,.A1 (BI s),.A1 (DC l),.A1 (.lst (R.map BI))]=.ok (!(R.map BI).isEmpty):=JR (EZ rfl rfl ne);unfold eM;rw[M8 c];cases R with
 |nil=>exact⟨[],rfl⟩
 |cons x R=>
  have BZ:AR (BI s) (.int 1)=.ok (CZ s.2):=rfl;have acK:Mk (.lst [CZ s.2]) (.int ((x::R).length:Int))=.ok (.lst (Fx (x::R).length [CZ s.2]).flatten):=by have agU:(x::R).length<=168:=MW;simp only[Mk];rw[if_pos ⟨by lia,by lia,by simp⟩,N0]
  have cl:=tL (l.map CZ) none (some (-1));rw[Fw]at cl;refine⟨G2 (l.map CZ) none (some (-1))++(Fx (x::R).length [CZ s.2]).flatten,?_⟩;have Et:(!(List.map BI (x::R)).isEmpty)=true:=rfl;rw[if_pos Et,if_neg (by simp)];refine aQ h j9 rfl ?_;have mZ:JW (.int 1)=.ok (.int (-1)):=rfl;have le:Bs CO (A2 (J 4) (AD)) [.A1 w,FR P,.A1 (BI s),.A1 (DC l),.A1 (.lst ((x::R).map BI))]=.ok (.int ((x::R).length:Int)):=by have:=TY (a:=J 4) (ρ:=[.A1 w,FR P,.A1 (BI s),.A1 (DC l),.A1 (.lst ((x::R).map BI))]) (xs:=(x::R).map BI) rfl;rw[Fw]at this;exact this
  have a1:EN FG (J 3) (FT) (Er (Cr JW (A5 (.int 1)))) [.A1 w,FR P,.A1 (BI s),.A1 (DC l),.A1 (.lst ((x::R).map BI))]=.ok (.lst (G2 (l.map CZ) none (some (-1)))):=rfl;have a2:A3 Mk (BS (C1 (A2 (A3 AR (J 2) (A5 (.int 1))) (AD)))) (Bs CO (A2 (J 4) (AD))) [.A1 w,FR P,.A1 (BI s),.A1 (DC l),.A1 (.lst ((x::R).map BI))]=.ok (.lst (Fx (x::R).length [CZ s.2]).flatten):=EZ (by simp[BZ,lim]) le acK;rw[Qq,ae_,a1,BV,a2,BV,th]
  .rfl
  .simp at MW |-;lia
section
variable{A:List AW}{N:B9->On}{n:Nat}{d0:AW}{W:Fn}{U:To}{X Y:D}{a:Nat}
def yq(g:Good A N n d0 W U []){P:Gz}(h:Iv P){s:B9}(AN:s∈W.map (·.1))(BD:s.1.1<6)(AM:∀o,N s=.out o->o<4)(l:List Nat)(s4:Be):eL [.A1 (Dp X Y a W U),FR P,.A1 (BI s),.A1 (DC l),s4]=.ok (.BC [.A1 (Dp X Y a W U),FR (if J7 (N s)=true then P else KV P (Mi s.1.1 (N s)) (l.map CZ)),.A1 (BI s),.A1 (DC l),s4]):=by
 have t:=qt g AN;have D_:∀r:AF,r[0]?=some (.A1 (Dp X Y a W U))->r[2]?=some (.A1 (BI s))->A3 IV (Cr (Ds "Weaver" "told") (J 0)) (J 2) r=.ok (C7 s.1.1 (N s)):=λr h0 h2=>by simp only[aC,gT,v_var,h0,h2,PG,BV,YM,t]
 unfold eL;cases e:N s with
 |drop=>rw[e]at D_;have DZ:AR (C7 s.1.1 .drop) (.int 0)=.ok (st "drop"):=rfl;have q:Bj false (st "drop") (.str (BU "at"))=.ok (.Aa true):=rfl;have c:BE (A3 (Bj false) (A3 AR (A3 IV (Cr (Ds "Weaver" "told") (J 0)) (J 2)) (A5 (.int 0))) (A5 (.str (BU "at")))) [.A1 (Dp X Y a W U),FR P,.A1 (BI s),.A1 (DC l),s4]=.ok true:=JR (EZ (EZ (D_ _ rfl rfl) rfl DZ) rfl q);rw[M8 c,if_pos rfl];refine aQ h (j7 BD) ?_ rfl;unfold P2;rw[D_ _ rfl rfl];rfl
 |out x=>rw[e]at D_;have DZ:AR (C7 s.1.1 (.out x)) (.int 0)=.ok (st "out"):=rfl;have q:Bj false (st "out") (.str (BU "at"))=.ok (.Aa true):=rfl;have c:BE (A3 (Bj false) (A3 AR (A3 IV (Cr (Ds "Weaver" "told") (J 0)) (J 2)) (A5 (.int 0))) (A5 (.str (BU "at")))) [.A1 (Dp X Y a W U),FR P,.A1 (BI s),.A1 (DC l),s4]=.ok true:=JR (EZ (EZ (D_ _ rfl rfl) rfl DZ) rfl q);rw[M8 c,if_pos rfl];refine aQ h (j8 BD (AM x e)) ?_ rfl;unfold P2;rw[D_ _ rfl rfl];rfl
 |to d=>rw[e]at D_;have DZ:AR (C7 s.1.1 (.to d)) (.int 0)=.ok (st "at"):=rfl;have q:Bj false (st "at") (.str (BU "at"))=.ok (.Aa false):=rfl;have c:BE (A3 (Bj false) (A3 AR (A3 IV (Cr (Ds "Weaver" "told") (J 0)) (J 2)) (A5 (.int 0))) (A5 (.str (BU "at")))) [.A1 (Dp X Y a W U),FR P,.A1 (BI s),.A1 (DC l),s4]=.ok false:=JR (EZ (EZ (D_ _ rfl rfl) rfl DZ) rfl q);rw[M8 c];rfl
def abz:Q1 "Weaver" "round_from" (Dp X Y a W U)=.ok (Dp X Y a W U):=rfl
def yt(g:Good A N n d0 W U [])(MU:W.length<=168)(Lj:∀d∈A,d.1<6)(J2:∀s,s.1∈A->s.2<n->∀o,N s=.out o->o<4){P:Gz}(h:Iv P){p:B9×List Nat}(Ad:p∈W)(s4:Be) :
  ∃LH dc,Iv LH/\(∀k∈P.map (·.1),k∈LH.map (·.1))/\(0,(p.1.1.1:Int),0)∈LH.map (·.1)/\(J7 (N p.1)=false->Mi p.1.1.1 (N p.1)∈LH.map (·.1))/\((∃m,1<=m/\Dz N p.1 m=some p.1)->(3,0,0)∈LH.map (·.1))/\eN [.A1 (Dp X Y a W U),FR P,.A1 (BI p.1),.A1 (DC p.2),s4]=.ok (.BC [.A1 (Dp X Y a W U),FR LH,.A1 (BI p.1),.A1 (DC p.2),dc]):=by
 have AN:p.1∈W.map (·.1):=List.mem_map.mpr ⟨p,Ad,rfl⟩;obtain⟨BZ,C0⟩:=g.inr p Ad;have BD:=Lj _ BZ;have AM:=J2 _ BZ C0;obtain⟨R,Se,Ml,re⟩:=acI (X:=X) (Y:=Y) (a:=a) g MU AN;have h1:=eX (v:=p.2.map CZ) h (j6 BD);have A9:=yp h BD p.2 (Dp X Y a W U) s4;generalize Ew:KV P (0,(p.1.1.1:Int),0) (p.2.map CZ)=Jo at h1 A9;have CP:(0,(p.1.1.1:Int),0)∈Jo.map (·.1):=by rw[<-Ew];exact eW _ _ _
 have Mq:∀k∈P.map (·.1),k∈Jo.map (·.1):=λk AL=>by rw[<-Ew];exact XF AL
 have AG:=yq (X:=X) (Y:=Y) (a:=a) g h1 AN BD AM p.2 s4;generalize MR:(if J7 (N p.1)=true then Jo else KV Jo (Mi p.1.1.1 (N p.1)) (p.2.map CZ))=IP at AG;have h2:Iv IP:=by
  rw[<-MR]
  split
  .exact h1
  .refine eX h1 ?_;cases e:N p.1 with
   |drop=>exact j7 BD
   |out o=>exact j8 BD (AM o e)
   |to d=>rename_i z;rw[e]at z;exact absurd rfl z
 have Ii:∀k∈Jo.map (·.1),k∈IP.map (·.1):=λk AL=>by
  rw[<-MR]
  split
  .exact AL
  .exact XF AL
 have Br:J7 (N p.1)=false->Mi p.1.1.1 (N p.1)∈IP.map (·.1):=λz=>by rw[<-MR,if_neg (by rw[z];decide)];exact eW _ _ _
 obtain⟨v,CB⟩:=yr h2 (s:=p.1) (l:=p.2) (by have:=(g.lst p Ad).2;lia) Se (Dp X Y a W U);have B3:BN 4 (Ia "Weaver" "round_from" 1 Tg (J 0) (A2 (J 2) (AD))) [.A1 (Dp X Y a W U),FR IP,.A1 (BI p.1),.A1 (DC p.2),s4]=.ok (.BC [.A1 (Dp X Y a W U),FR IP,.A1 (BI p.1),.A1 (DC p.2),.A1 (.lst (R.map BI))]):=by simp[abz,re]
 refine⟨if R=[]then IP else KV IP (3,0,0) v,.A1 (.lst (R.map BI)),?_,λk AL=>?_,?_,λz=>?_,λz=>?_,?_⟩
 .split
  .exact h2
  .exact eX h2 j9
 .have:=Ii k (Mq k AL)
  split
  .exact this
  .exact XF this
 .have:=Ii _ CP
  split
  .exact this
  .exact XF this
 .have:=Br z
  split
  .exact this
  .exact XF this
 .rw[if_neg (Ml.mpr z)];exact eW _ _ _
 .rw[eN,EC,A9,BV,FH,EC,AG,BV,FH,EC,B3,BV,FH,CB]
structure LF(N:B9->On)(W:Fn)(P:Gz):Prop where
 PC:Iv P
 at_:∀p∈W,(0,(p.1.1.1:Int),0)∈P.map (·.1)
 FD:∀p∈W,J7 (N p.1)=false->Mi p.1.1.1 (N p.1)∈P.map (·.1)
 Lq:∀p∈W,(∃m,1<=m/\Dz N p.1 m=some p.1)->(3,0,0)∈P.map (·.1)
def xI(W:Fn):ZI (.B7 ((W.map (·.1)).map F6) (W.map λp=>DC p.2))=.ok (W.map λp=>.tup [BI p.1,DC p.2]):=by
 have h:((W.map (·.1)).map F6).all (λk=>k.length !=1)=true:=by rw[IK,Xy,Sw];intro p _;rfl
 simp only[ZI];rw[if_pos h]
 congr 1
 unfold UB;rw[IK,List.zip_map'];rw[IK];rfl
def zY(g:Good A N n d0 W U [])(MU:W.length<=168)(Lj:∀d∈A,d.1<6)(J2:∀s,s.1∈A->s.2<n->∀o,N s=.out o->o<4):∃P,LF N W P/\ZZ [Dp X Y a W U]=.ok (.v (O_ P)):=by
 suffices h:Ends (ZZ [Dp X Y a W U]) (λy=>∃P,LF N W P/\y=.v (O_ P))by
  obtain⟨y,e,P,Cn,rfl⟩:=h;exact⟨P,Cn,e⟩
 have Bi:Z8=AU (RO 1) (AU (E0 (RM (Cr (Ds "Weaver" "woven") (J 0))) (Fj [BL 2,BL 3]) eN) (Hv (J 1))):=rfl;have DG:RO 1 [.A1 (Dp X Y a W U),.un,.un,.un,.un]=.ok (.BC [.A1 (Dp X Y a W U),FR [],.un,.un,.un]):=rfl;have G4:RM (Cr (Ds "Weaver" "woven") (J 0)) [.A1 (Dp X Y a W U),FR [],.un,.un,.un]=.ok (W.map λp=>.tup [BI p.1,DC p.2]):=by unfold RM;rw[gT,v_var];simp only[LS,PG,BV,lT,xI]
 show Ends ((Z8 [.A1 (Dp X Y a W U),.un,.un,.un,.un]).bind _) _;rw[Bi,EC,DG,BV,FH,EC,SD];refine Tx (λp:B9×List Nat=>.tup [BI p.1,DC p.2]) W (λj ρ=>∃P s2 s3 s4,LF N (W.take j) P/\ρ=[.A1 (Dp X Y a W U),FR P,s2,s3,s4]) G4 ⟨[],.un,.un,.un,⟨⟨.nil,(λk AL=>nomatch AL)⟩,(λp Ad=>by simp at Ad),(λp Ad=>by simp at Ad),(λp Ad=>by simp at Ad)⟩,rfl⟩ ?_ ?_
 .rintro j p _ By ⟨P,s2,s3,s4,Cn,rfl⟩;have Ad:=JF By;obtain⟨LH,dc,h1,h2,h3,h4,h5,e⟩:=yt (X:=X) (Y:=Y) (a:=a) g MU Lj J2 Cn.PC Ad s4;have Ki:Fj [BL 2,BL 3] (.tup [BI p.1,DC p.2]) [.A1 (Dp X Y a W U),FR P,s2,s3,s4]=.ok [.A1 (Dp X Y a W U),FR P,.A1 (BI p.1),.A1 (DC p.2),s4]:=rfl;rw[Ki,BV,e];have C8:∀q∈W.take (j+1),q∈W.take j\/q=p:=λq AX=>by
   rw[gr,By]at AX;rcases List.mem_append.mp AX with AX|AX
   .exact .inl AX
   .exact .inr (by simpa using AX)
  refine⟨_,rfl,_,rfl,LH,_,_,dc,⟨h1,λq AX=>?_,λq AX z=>?_,λq AX z=>?_⟩,rfl⟩
  .rcases C8 q AX with AX|rfl
   .exact h2 _ (Cn.at_ q AX)
   .exact h3
  .rcases C8 q AX with AX|rfl
   .exact h2 _ (Cn.FD q AX z)
   .exact h4 z
  .rcases C8 q AX with AX|rfl
   .exact h2 _ (Cn.Lq q AX z)
   .exact h5 z
 .rintro _ ⟨P,s2,s3,s4,Cn,rfl⟩;rw[Xm]at Cn;exact⟨_,rfl,P,Cn,rfl⟩
end
section
variable{cs:List Nat}{ws:List (AW×AW)}{os nw:List (List DK)}{row:List Nat}{a:Nat}{d0:AW}
def kr{bs:List (List DK)}(h:GZ cs bs){i:Nat}(AC:i<cs.length):MC (cs.getD i 0) (bs.getD i []):=by
 have AQ:i<bs.length:=by rw[h.l];exact AC
 have:=h.b i bs[i] (E8 AQ);have e:bs.getD i []=bs[i]:=by simp[AQ]
 rw[e];exact this
def n3(Fo:GZ cs os)(bn:GZ cs nw)(k:Nat){i:Nat}(AC:i<cs.length):MC (cs.getD i 0) ((FF os nw row k).getD i []):=by
 have e:(FF os nw row k).getD i []=if i∈row.take k then nw.getD i []else os.getD i []:=by
  have AQ:i<os.length:=by rw[Fo.l];exact AC
  unfold FF;rw[JB,ER,Ux AQ];rfl
 rw[e]
 split
 .exact kr bn AC
 .exact kr Fo AC
def n5(Fo:GZ cs os)(k:Nat):(FF os nw row k).length=cs.length:=by simp[FF,Fo.l]
def S7(Ef:LG cs ws)(Fo:GZ cs os)(bn:GZ cs nw)(AI:row.length<=6)(AB:a<16):Js cs ws (FF os nw row) (row.length+1) a where
 Ef:=Ef
 AB:=AB
 D3:=by lia
 JU:=by lia
 Aa:=λk _=>n5 Fo k
 pt:=λk _ b A0 r AI=>by
  obtain⟨i,AC,G4⟩:=Sn A0;have Zq:i<cs.length:=by rw[n5 Fo k]at AC;exact AC
  have:=n3 (row:=row) Fo bn k Zq;have e:(FF os nw row k).getD i []=b:=by simp[AC,G4]
  rw[e]at this;exact(this.2 r AI).p
def zw(Ef:LG cs ws)(Fo:GZ cs os)(bn:GZ cs nw)(s:B9)(AN:s.1∈CM cs cs.length)(o:Nat)(h:CL ws (FF os nw row) a s=.out o):o<4:=by
 have AC:=(P8.mp AN).1;have G1:=n3 (row:=row) Fo bn s.2 AC;have Jx:=dC (λc AO=>(Ef.c c AO).2) s.1.1;unfold CL BC at h;generalize(FF os nw row s.2).getD s.1.1 []=b at G1 h
 split at h
 .cases h
 .rename_i i G4
  split at h
  .cases h
  .rename_i Ce U0
   split at h
   .cases h;obtain⟨r,AI,Bi⟩:=Option.bind_eq_some_iff.mp U0;have:=(G1.2 r (JF AI)).b o Bi
    lia
   .cases h
def ZD(cs:List Nat)(ws:List (AW×AW))(os nw:List (List DK))(row:List Nat)(d0:AW)(a:Nat):List D:=[Dd cs ws,Cg os,Cg nw,.lst (row.map CZ),AZ d0,.int (a:Int)]
def nA(Ef:LG cs ws)(Fo:GZ cs os)(bn:GZ cs nw)(AI:row.length<=6)(AB:a<16)(hd:d0∈CM cs cs.length):∃W U P,Good (CM cs cs.length) (CL ws (FF os nw row) a) (row.length+1) d0 W U []/\((d0,0):B9)∈W.map (·.1)/\LF (CL ws (FF os nw row) a) W P/\ND (ZD cs ws os nw row d0 a)=.ok (.v (O_ P)):=by
 have ok:=S7 (row:=row) Ef Fo bn AI AB;obtain⟨W,U,g,h0,e⟩:=adz ok hd;have OJ:=OS Ef.c cs.length;have h6:=Ef.h6;have MU:=g.few (by lia) ok.JU;obtain⟨P,mo,em⟩:=zY (X:=Dd cs ws) (Y:=.lst (D7 (row.length+1) (FF os nw row))) (a:=a) g MU (λd hd=>by have:=(P8.mp hd).1;lia) λs AN _ o h=>zw Ef Fo bn s AN o h;refine⟨W,U,P,g,h0,mo,?_⟩;have BM:=adV (os:=os) (nw:=nw) (row:=row) (by rw[Fo.l];lia) (by rw[bn.l,Fo.l]) AI;have UQ:Q1 "Weaver" "met" (Dp (Dd cs ws) (.lst (D7 (row.length+1) (FF os nw row))) a W U)=.ok (Dp (Dd cs ws) (.lst (D7 (row.length+1) (FF os nw row))) a W U):=rfl;have yo:Td 5 Vg (A2 (J 0) (A2 (BS (FS 3 Wv (A2 (J 1) (A2 (J 2) (A2 (J 3) (AD)))))) (A2 (J 4) (A2 (J 5) (A2 (A5 .non) (AD)))))) [.A1 (Dd cs ws),.A1 (Cg os),.A1 (Cg nw),.A1 (.lst (row.map CZ)),.A1 (AZ d0),.A1 (.int (a:Int))]=.ok (Dp (Dd cs ws) (.lst (D7 (row.length+1) (FF os nw row))) a W U):=by have CV:Vg [Dd cs ws,.lst ((EY (row.length+1)).map λk=>Cg (FF os nw row k)),AZ d0,.int (a:Int),.non]=.ok (D4 (Dd cs ws) (.lst (D7 (row.length+1) (FF os nw row))) a W U):=e;unfold Td;simp only[Le,Nr,v_var,Qq,qD,qC,LS,Lu,PG,BV,BM,Hk,N3,if_true,show ∀l,bB (.o l)=.ok l from λ_=>rfl,CV,X0,UW]
 have G3:∀x0 Ey Em Fd GL Jc:D,ND [x0,Ey,Em,Fd,GL,Jc]=(Yd [.A1 x0,.A1 Ey,.A1 Em,.A1 Fd,.A1 GL,.A1 Jc]).bind outD:=λ_ _ _ _ _ _=>rfl;unfold ZD;rw[G3];rw[Yd,qI,ado,yo,BV,UQ,BV,Nr,BV,N3,if_pos rfl,em];rfl
theorem n6:∀{ks:List DJ},(∀k∈ks,k∈Hq)->SS (ks.map EV)=some ks
 |[],_=>rfl
 |k::ks,h=>by rw[E3,SS,ZA (MP (h k (by simp))),n6 λx AH=>h x (by simp[AH])]
def zW{P:Gz}(Cn:Iv P){ds:List D}{x0 Ey Em Fd GL Jc:D}(e:ND [x0,Ey,Em,Fd,GL,Jc]=.ok (.v (O_ P))):WC [x0,Ey,Em,Fd,GL,Jc]=.ok (.o ((LT.LC (P.map (·.1))).map DN)):=by
 have MU:=Cn.few;have UQ:aW [O_ P]=.ok ((LT.LC (P.map (·.1))).map DN):=by simp only[aW,O_,n6 Cn.cd];rw[if_pos (by simp;lia)]
 have c:Vd (A2 (Bg 6 ND (A2 (J 0) (A2 (J 1) (A2 (J 2) (A2 (J 3) (A2 (J 4) (A2 (J 5) (AD)))))))) (AD)) [.A1 x0,.A1 Ey,.A1 Em,.A1 Fd,.A1 GL,.A1 Jc]=.ok ((LT.LC (P.map (·.1))).map DN):=by unfold Vd;simp[e,UQ]
 show(Yc [.A1 x0,.A1 Ey,.A1 Em,.A1 Fd,.A1 GL,.A1 Jc]).bind _=_;rw[Yc,adp,c];rfl
def yN{k:DJ}(h:k∈Hq):TV (DN k)=some (EV k):=by rcases MP h with g|g|g|g<;>rw[g]<;>rfl
def ac7{k:DJ}(h:k∈Hq):∃zs:List Int,zs.length<=2/\Q4 (DN k) (some 1) none=.ok (.tup (zs.map .int)):=by
 rcases MP h with g|g|g|g<;>rw[g]
 .exact⟨[k.2.1],by simp,rfl⟩
 .exact⟨[k.2.1],by simp,rfl⟩
 .exact⟨[k.2.1,k.2.2],by simp,rfl⟩
 .exact⟨[],by simp,rfl⟩
def ae7(i:Int):RQ [.int i]=.ok (.v (.Aa true)):=rfl
def nY{P:Gz}{x0 Ey Em Fd GL Jc gl:D}{kk:Bd}(e:ND [x0,Ey,Em,Fd,GL,Jc]=.ok (.v (O_ P))){zs:List Int}(Ar:zs.length<=2)(AN:Q4 gl (some 1) none=.ok (.tup (zs.map .int)))(AL:TV gl=some kk) :
  Ts [x0,Ey,Em,Fd,GL,Jc,gl]=.ok (.v ((findD ((P.map (·.1)).map EV) (P.map λp=>.lst p.2) kk).getD .non)):=by
 have c:Dm 1 [] (QG (EN Q4 (J 6) (Er (A5 (.int 1))) (FT))) (BL 0) (F5) (Bg 1 RQ (A2 (J 0) (AD))) [.A1 x0,.A1 Ey,.A1 Em,.A1 Fd,.A1 GL,.A1 Jc,.A1 gl]=.ok (zs.map λ_=>.Aa true):=by
  apply Ends.done;have Wj:∀r:R (List D),r=r.bind .ok:=λr=>by cases r<;>rfl
  rw[Wj (Dm _ _ _ _ _ _ _)];refine Tw D.int zs (λ_=>.Aa true) ?_ (by lia) (λi _=>?_) ⟨_,rfl,rfl⟩
  .simp[AN,gI,intD]
  .simp[ae7]
 have al:=VS (λ_:Int=>true) zs;have T8:zs.all (λ_=>true)=true:=by simp
 rw[T8]at al;have Ev:GG (BE (Bs Cm.CM (A2 (BS (Dm 1 [] (QG (EN Q4 (J 6) (Er (A5 (.int 1))) (FT))) (BL 0) (F5) (Bg 1 RQ (A2 (J 0) (AD))))) (AD)))) [.A1 x0,.A1 Ey,.A1 Em,.A1 Fd,.A1 GL,.A1 Jc,.A1 gl]=.ok false:=by refine eG (c:=true) (JR ?_);rw[aD,Le,Qq,c,BV,BV,Nr,BV,BV];exact al
 have uQ:W6 (Bg 6 ND (A2 (J 0) (A2 (J 1) (A2 (J 2) (A2 (J 3) (A2 (J 4) (A2 (J 5) (AD)))))))) (J 6) [.A1 x0,.A1 Ey,.A1 Em,.A1 Fd,.A1 GL,.A1 Jc,.A1 gl]=.ok ((findD ((P.map (·.1)).map EV) (P.map λp=>.lst p.2) kk).getD .non):=by
  unfold W6;have:Bg 6 ND (A2 (J 0) (A2 (J 1) (A2 (J 2) (A2 (J 3) (A2 (J 4) (A2 (J 5) (AD))))))) [.A1 x0,.A1 Ey,.A1 Em,.A1 Fd,.A1 GL,.A1 Jc,.A1 gl]=.ok (O_ P):=by simp[e]
  rw[this,BV];simp only[O_,v_var,LS,Lu,PG,BV,AL]
 show(Yb [.A1 x0,.A1 Ey,.A1 Em,.A1 Fd,.A1 GL,.A1 Jc,.A1 gl]).bind _=_;rw[Yb,p1 Ev,qI,uQ];rfl
def tr{P:Gz}(Cn:Iv P){k:DJ}(AL:k∈P.map (·.1)):∃v,findD ((P.map (·.1)).map EV) (P.map λp=>D.lst p.2) (EV k)=some (.lst v):=by
 have cd:=Cn.cd;have Qm:=cd k AL;clear Cn;unfold findD;induction P with
 |nil=>cases AL
 |cons p P C6=>
  simp only[E3,K4,IL];by_cases h:p.1=k
  .exact⟨p.2,by simp[h]⟩
  .have:¬EV p.1=EV k:=λz=>h (mb (MP (cd p.1 (by simp))) (MP Qm) z);simp only[this,decide_false];refine C6 ?_ λx AH=>cd x (by simp at AH |-;exact .inr AH);rw[E3]at AL;exact(List.mem_cons.mp AL).resolve_left (I2 h)
def ts{P:Gz}(Cn:Iv P):findD ((P.map (·.1)).map EV) (P.map λp=>D.lst p.2) [.inl (.inr (BU "lost")),.inl (.inl 0)]=none:=by
 have cd:=Cn.cd;clear Cn;unfold findD;induction P with
 |nil=>rfl
 |cons p P C6=>
  simp only[E3,K4,IL];have:¬EV p.1=[.inl (.inr (BU "lost")),.inl (.inl 0)]:=λz=>by have:=ZA (MP (cd p.1 (by simp)));rw[z]at this;exact absurd this (by intro h;cases h)
  simp only[this,decide_false];exact C6 λx AH=>cd x (by simp at AH |-;exact .inr AH)
end
def xL(xs:List D)(x:D):AR (.lst (xs++[x])) (.int (-1))=.ok x:=by
 have e:GF (xs++[x]) (-1)=some x:=by unfold GF I_;rw[if_neg (by decide),if_pos (by simp;lia)];simp only[O0];rw[JG,Ue,show((-1:Int)+((xs.length+1:Nat):Int)).toNat=xs.length by lia];simp
 simp only[AR,e]
def d5:On->String
 |.drop=>"drop"
 |.out _=>"out"
 |.to _=>"at"
def aq(h:Nat)(o:On):AR (C7 h o) (.int 0)=.ok (st (d5 o)):=by cases o<;>rfl
def lg(o:On):Bj true (st (d5 o)) (.str (BU "at"))=.ok (.Aa (J7 o)):=by cases o<;>rfl
def lf(o:On):Bj false (st (d5 o)) (.str (BU "at"))=.ok (.Aa (!J7 o)):=by cases o<;>rfl
def aaU(h:Nat)(e:AW):LB (C7 h (.to e)) (some 1) none=.ok (AZ e):=rfl
section
variable{cs:List Nat}{ws:List (AW×AW)}{Bk:Nat->List (List DK)}{n a c:Nat}{d0:AW}{W:Fn}{U:To}
def nf(ok:Js cs ws Bk n a){s:B9}(h1:s.1.1<cs.length)(h2:s.2<n):Lo [.lst (ws.map Cd),Df ((Bk s.2).getD s.1.1 []),AZ s.1,.int (a:Int)]=.ok (.v (C7 s.1.1 (CL ws Bk a s))):=by
 have Aa:=ok.Aa s.2 h2;refine zE (λr AI=>?_) s.1 ok.AB;have AQ:s.1.1<(Bk s.2).length:=by lia
 have eg:(Bk s.2).getD s.1.1 []=(Bk s.2)[s.1.1]:=by simp[AQ]
 rw[eg]at AI;exact ok.pt s.2 h2 _ (N2 _) r AI
structure Eu(N:B9->On)(W:Fn)(c:Nat)(pre:List AW)(l:AW):Prop where
 Am:(pre++[l]).Nodup
 Kw:∀e∈pre++[l],((e,c):B9)∈W.map (·.1)
 QW:∀e∈pre++[l],∃m,Dz N (e,c) m=some (l,c)
def b6:CR:=IE (Gv (BE (A3 (Bj true) (A3 AR (J 5) (A5 (.int 0))) (A5 (.str (BU "at"))))) (BE (A3 (inD false) (EN LB (J 5) (Er (A5 (.int 1))) (FT)) (J 4))))
def pT:Ag:=M_ (Bg 4 Lo (A2 (J 0) (A2 (A3 AR (J 1) (A3 AR (A3 AR (J 4) (Cr JW (A5 (.int 1)))) (A5 (.int 0)))) (A2 (A3 AR (J 4) (Cr JW (A5 (.int 1)))) (A2 (J 3) (AD))))))
def pS:Aq:=AU (GX 4 (EN LB (J 5) (Er (A5 (.int 1))) (FT))) (BN 5 pT)
def acH(ok:Js cs ws Bk n a)(g:Good (CM cs cs.length) (CL ws Bk a) n d0 W U []){d:AW}(hd:((d,c):B9)∈W.map (·.1)) :
  ∃pre l,Eu (CL ws Bk a) W c pre l/\(∀e,CL ws Bk a (l,c)=.to e->e∈pre++[l])/\QK [.lst (ws.map Cd),Cg (Bk c),AZ d,.int (a:Int)]=.ok (.v (.tup [.lst ((pre++[l]).map AZ),C7 l.1 (CL ws Bk a (l,c))])):=by
 have IZ:∀e:AW,((e,c):B9)∈W.map (·.1)->e∈CM cs cs.length/\c<n:=λe he=>by obtain⟨p,Ad,BY⟩:=List.mem_map.mp he;have:=g.inr p Ad;rw[BY]at this;exact this
 have OJ:=OS ok.Ef.c cs.length;have h6:=ok.Ef.h6;have oL:∀e:AW,((e,c):B9)∈W.map (·.1)->Lo [.lst (ws.map Cd),Df ((Bk c).getD e.1 []),AZ e,.int (a:Int)]=.ok (.v (C7 e.1 (CL ws Bk a (e,c)))):=λe he=>nf (s:=(e,c)) ok (P8.mp (IZ e he).1).1 (IZ e he).2;have G1:∀e:AW,((e,c):B9)∈W.map (·.1)->AR (Cg (Bk c)) (.int (e.1:Int))=.ok (Df ((Bk c).getD e.1 [])):=λe he=>Ro (by have:=ok.Aa c (IZ e he).2;have:=(P8.mp (IZ e he).1).1;lia);suffices h:Ends (QK [.lst (ws.map Cd),Cg (Bk c),AZ d,.int (a:Int)]) (λy=>∃pre l,Eu (CL ws Bk a) W c pre l/\(∀e,CL ws Bk a (l,c)=.to e->e∈pre++[l])/\y=.v (.tup [.lst ((pre++[l]).map AZ),C7 l.1 (CL ws Bk a (l,c))]))by
  obtain⟨y,e,pre,l,h1,h2,rfl⟩:=h;exact⟨pre,l,h1,h2,e⟩
 have Bi:Y_=AU (EB 4 (C1 (A2 (J 2) (AD)))) (AU (BN 5 (M_ (Bg 4 Lo (A2 (J 0) (A2 (A3 AR (J 1) (A3 AR (J 2) (A5 (.int 0)))) (A2 (J 2) (A2 (J 3) (AD)))))))) (AU (L1 b6 pS) (Hv (DH (A2 (J 4) (A2 (J 5) (AD))))))):=rfl;have DG:EB 4 (C1 (A2 (J 2) (AD))) [.A1 (.lst (ws.map Cd)),.A1 (Cg (Bk c)),.A1 (AZ d),.A1 (.int (a:Int)),.un,.un]=.ok (.BC [.A1 (.lst (ws.map Cd)),.A1 (Cg (Bk c)),.A1 (AZ d),.A1 (.int (a:Int)),.C5 [AZ d],.un]):=rfl;have DZ:∀e:AW,AR (AZ e) (.int 0)=.ok (.int (e.1:Int)):=λe=>rfl;have A9:BN 5 (M_ (Bg 4 Lo (A2 (J 0) (A2 (A3 AR (J 1) (A3 AR (J 2) (A5 (.int 0)))) (A2 (J 2) (A2 (J 3) (AD))))))) [.A1 (.lst (ws.map Cd)),.A1 (Cg (Bk c)),.A1 (AZ d),.A1 (.int (a:Int)),.C5 [AZ d],.un]=.ok (.BC [.A1 (.lst (ws.map Cd)),.A1 (Cg (Bk c)),.A1 (AZ d),.A1 (.int (a:Int)),.C5 [AZ d],.A1 (C7 d.1 (CL ws Bk a (d,c)))]):=by have b:=G1 d hd;have x:=oL d hd;generalize(Bk c).getD d.1 []=VW at b x;simp[DZ,b,x,eZ]
 have G3:∀x0 Ey Em Fd:D,QK [x0,Ey,Em,Fd]=(Y_ [.A1 x0,.A1 Ey,.A1 Em,.A1 Fd,.un,.un]).bind outD:=λ_ _ _ _=>rfl;rw[G3,Bi,EC,DG,BV,FH,EC,A9,BV,FH,EC,SD];refine Yp (λm ρ=>∃pre l,Eu (CL ws Bk a) W c pre l/\m=30-pre.length/\ρ=[.A1 (.lst (ws.map Cd)),.A1 (Cg (Bk c)),.A1 (AZ d),.A1 (.int (a:Int)),.C5 ((pre++[l]).map AZ),.A1 (C7 l.1 (CL ws Bk a (l,c)))]) (n:=30) ⟨[],d,⟨by simp,λe he=>by rw[List.mem_singleton.mp he];exact hd,λe he=>⟨0,by rw[List.mem_singleton.mp he];rfl⟩⟩,rfl,rfl⟩ (by decide) ?_;rintro m _ ⟨pre,l,r,rfl,rfl⟩;have AQ:=r.Kw l (by simp);have pl:pre.length<24:=by have:=Qy r.Am λx AH=>(IZ x (r.Kw x AH)).1;simp at this;lia
 have KZ:=aq l.1 (CL ws Bk a (l,c));have DS:=lg (CL ws Bk a (l,c));cases e:CL ws Bk a (l,c)with
 |drop=>rw[e]at KZ DS;refine⟨false,?_,(λz=>nomatch z),λ_=>⟨_,rfl,pre,l,r,(λx AH=>by rw[e]at AH;cases AH),by rw[e];rfl⟩⟩;simp[b6,KZ,DS,J7]
 |out o=>rw[e]at KZ DS;refine⟨false,?_,(λz=>nomatch z),λ_=>⟨_,rfl,pre,l,r,(λx AH=>by rw[e]at AH;cases AH),by rw[e];rfl⟩⟩;simp[b6,KZ,DS,J7]
 |to f=>
  rw[e]at KZ DS;have Bz:=aaU l.1 f;have QO:∀r:AF,BE (A3 (inD false) (A5 (AZ f)) (A5 (.lst ((pre++[l]).map AZ)))) r=.ok (!decide (f∈pre++[l])):=λr=>yj rfl rfl;have QO:=QO [];have bU:((f,c):B9)∈W.map (·.1):=eV g AQ (by unfold KR;rw[e]);refine⟨!decide (f∈pre++[l]),?_,λAv=>?_,λAv=>?_⟩
  .have QO:(inD false (AZ f) (.lst ((pre++[l]).map AZ))).bind NO=.ok (!decide (f∈pre++[l])):=QO;generalize(pre++[l]).map AZ=gl at QO;simp[b6,KZ,DS,J7,Bz,intD,QO]
  .have Av:f∉pre++[l]:=by simpa using Av
   have b:=G1 f bU;have x:=oL f bU;have B4:Eu (CL ws Bk a) W c (pre++[l]) f:=by
    refine⟨List.nodup_append.mpr ⟨r.Am,by simp,λx AH y Bf z=>by rw[List.mem_singleton.mp Bf]at z;exact Av (z▸AH)⟩,λx AH=>?_,λx AH=>?_⟩
    .rcases List.mem_append.mp AH with AH|AH
     .exact r.Kw x AH
     .rw[List.mem_singleton.mp AH];exact bU
    .rcases List.mem_append.mp AH with AH|AH
     .obtain⟨m,hm⟩:=r.QW x AH;refine⟨m+1,?_⟩;simp only[Dz,hm,O0,KR,e]
     .exact⟨0,by rw[List.mem_singleton.mp AH];rfl⟩
   refine⟨_,?_,_,rfl,30-(pre++[l]).length,by simp;lia,pre++[l],f,B4,rfl,rfl⟩;have lr:=xL ((pre++[l]).map AZ) (AZ f);have em:(pre++[l]++[f]).map AZ=(pre++[l]).map AZ++[AZ f]:=by simp
   have mZ:JW (.int 1)=.ok (.int (-1)):=rfl;rw[em];have JQ:((pre++[l]).map AZ).length<=100:=by simp;lia
   generalize(Bk c).getD f.1 []=VW at b x;generalize(pre++[l]).map AZ=gl at lr JQ;have so:=eZ f.1 (CL ws Bk a (f,c));generalize C7 f.1 (CL ws Bk a (f,c))=of at x so;simp[pS,pT,Bz,intD,show gl.length<1000000 by lia,DZ,mZ,lr,b,x,so]
  .have Av:f∈pre++[l]:=Decidable.byContradiction λz=>by rw[decide_eq_false z]at Av;cases Av
   exact⟨_,rfl,pre,l,r,λx AH=>by rw[e]at AH;cases AH;exact Av,by rw[e];rfl⟩
end
def Yt(I:AF->Prop)(S:D->Prop)(f:FQ):Prop:=(∃ρ,f=.BC ρ/\I ρ)\/∃d,f=.E6 d/\S d
theorem oX{α:Type}{set:D->AF->R AF}{body:Aq}(g:α->D)(I:Nat->AF->Prop)(S:D->Prop):∀(xs:List α)(j:Nat)(ρ:AF),(∀(i:Nat) a ρ,xs[i]?=some a->I (j+i) ρ->Ends ((set (g a) ρ).bind body) (Yt (I (j+i+1)) S))->I j ρ->Ends (IX set body (xs.map g) ρ) (Yt (I (j+xs.length)) S)
 |[],j,ρ,_,h=>⟨_,rfl,.inl ⟨ρ,rfl,h⟩⟩
 |a::xs,j,ρ,st,h=>by
  obtain⟨HF,e,hf⟩:=st 0 a ρ rfl h;rw[E3,IX];cases A6:set (g a) ρ with
  |bad=>rw[A6]at e;cases e
  |exc c=>rw[A6]at e;cases e
  |ok EQ=>
   rw[A6,BV]at e;rw[BV,e,BV];rcases hf with⟨EW,rfl,h2⟩|⟨d,rfl,hd⟩
   .have:=oX g I S xs (j+1) EW (λi b ρ A0 AC=>by
      have:=st (i+1) b ρ (by simpa using A0) (by rw[show j+(i+1)=j+1+i by lia];exact AC);rw[show j+(i+1)+1=j+1+i+1 by lia]at this;exact this) h2
    rw[show j+(a::xs).length=j+1+xs.length by simp;lia];exact this
   .exact⟨_,rfl,.inr ⟨d,rfl,hd⟩⟩
def u4{β α:Type}{mi:B6}{set:D->AF->R AF}{body:Aq}{ρ:AF}{k:FQ->R β}{T:β->Prop}(g:α->D)(xs:List α)(I:Nat->AF->Prop)(S:D->Prop)(AC:mi ρ=.ok (xs.map g))(h0:I 0 ρ)(st:∀(j:Nat) a ρ,xs[j]?=some a->I j ρ->Ends ((set (g a) ρ).bind body) (Yt (I (j+1)) S))(f1:∀d,S d->Ends (k (.E6 d)) T)(f2:∀BJ,I xs.length BJ->Ends (k (.BC BJ)) T):Ends ((E0 mi set body ρ).bind k) T:=by
 obtain⟨HF,e,h⟩:=oX (set:=set) (body:=body) g I S xs 0 ρ (λi a ρ=>by rw[Sz];exact st i a ρ) h0;rw[Sz]at h;rw[gP,AC,BV,e,BV];rcases h with⟨EW,rfl,h2⟩|⟨d,rfl,hd⟩
 .exact f2 EW h2
 .exact f1 d hd
def F9(k:DJ):D:=.tup ((EV k).map TS)
def ae0(h:Nat):F9 (0,(h:Int),0)=.tup [.str (BU "at"),.int (h:Int)]:=rfl
def qR:F9 (3,0,0)=.tup [.str (BU "ring")]:=rfl
def w_on{h:Nat}{o:On}(AM:J7 o=false):C7 h o=F9 (Mi h o):=by
 cases o with
 |drop=>rfl
 |out x=>rfl
 |to e=>cases AM
def xf(ds:List AW)(d:AW):inD true (AZ d) (.lst (ds.map AZ))=.ok (.Aa (decide (d∈ds))):=by have s:Oo (.lst (ds.map AZ))=some (ds.map AZ):=rfl;have o:okN 7 (AZ d)=true:=rfl;simp only[inD,s,kG,o,and_self,if_true,jU]
section
variable{cs:List Nat}{ws:List (AW×AW)}{Bk:Nat->List (List DK)}{n a c:Nat}{d0:AW}{W:Fn}{U:To}{P:Gz}
noncomputable def fj:Aq:=Cb (Gv (BE (A3 (Bj true) (A3 CJ (J 9) (A5 (.int 4))) (A5 (.int 0)))) (BE (A3 T_ (J 6) (A3 Ih (Bs CO (A2 (J 1) (AD))) (A5 (.int 1)))))) (AU (BN 6 (A3 Cj (A3 Cj (J 6) (A5 (.int 1))) (A3 CJ (A3 Dr (J 9) (A5 (.int 4))) (A3 Ih (A3 Ih (Bs CO (A2 (J 1) (AD))) (A5 (.int 1))) (J 6)))))
    (EB 7 (C1 (A2 (J 2) (AD))))) (Co)
def Wn:Aq:=Cb (BE (A3 (Bj false) (A3 AR (J 10) (A5 (.int 0))) (A5 (.str (BU "at"))))) (Hv (BS (IF (J 5) (BS (C1 (A2 (J 10) (AD))))))) (Co)
noncomputable def fl:Aq:=AU (BN 2 (EN LB (J 10) (Er (A5 (.int 1))) (FT)))
    (AU (GX 5 (DH (A2 (A5 (.str (BU "at"))) (A2 (A3 AR (J 2) (A5 (.int 0))) (AD)))))
    (AU (Cb (IE (BE (A3 (inD true) (J 2) (J 7)))) (GX 5 (DH (A2 (A5 (.str (BU "ring"))) (AD)))) (Co))
    (GX 7 (J 2))))
def fk:Aq:=BN 10 (Bg 4 Lo (A2 (J 0) (A2 (A3 AR (A3 AR (J 1) (J 6)) (A3 AR (J 2) (A5 (.int 0)))) (A2 (J 2) (A2 (J 3) (AD))))))
def Wm:Aq:=AU (BN 9 (Bg 2 EU (A2 (J 8) (A2 (A5 (.int 6)) (AD))))) (AU fj (AU fk (AU Wn fl)))
noncomputable def DQ(ws:List (AW×AW))(Bk:Nat->List (List DK))(n a:Nat)(d:AW)(Z:D)(L:List DJ)(c:Nat)(S:List AW)(s8 s9 Cx CH:Be):AF:=[.A1 (.lst (ws.map Cd)),.A1 (.lst (D7 n Bk)),.A1 (AZ d),.A1 (.int (a:Int)),.A1 Z,.C5 (L.map F9),.A1 (CZ c),.C5 (S.map AZ),s8,s9,Cx,CH]
def adb(d:AW)(Z:D)(L:List DJ)(S:List AW)(s8 Cx CH:Be)(y:Int)(AO:c<n):∃DM Iw,(DM=c/\Iw=S\/c<DM/\DM<n/\Iw=[d])/\fj (DQ ws Bk n a d Z L c S s8 (.A1 (.int y)) Cx CH)=.ok (.BC (DQ ws Bk n a d Z L DM Iw s8 (.A1 (.int y)) Cx CH)):=by
 have ln:Bs CO (A2 (J 1) (AD)) (DQ ws Bk n a d Z L c S s8 (.A1 (.int y)) Cx CH)=.ok (.int (n:Int)):=by have:=TY (a:=J 1) (ρ:=DQ ws Bk n a d Z L c S s8 (.A1 (.int y)) Cx CH) (xs:=D7 n Bk) rfl;rw[show(D7 n Bk).length=n by simp[D7]]at this;exact this
 have uC:Bj true (.int (y%4)) (.int 0)=.ok (.Aa (decide (y%4=0))):=by show R.ok (D.Aa (y%4==0))=_;by_cases h:y%4=0<;>simp[h]
 have tF:Gv (BE (A3 (Bj true) (A3 CJ (J 9) (A5 (.int 4))) (A5 (.int 0)))) (BE (A3 T_ (J 6) (A3 Ih (Bs CO (A2 (J 1) (AD))) (A5 (.int 1))))) (DQ ws Bk n a d Z L c S s8 (.A1 (.int y)) Cx CH)=.ok (decide (y%4=0)&&decide ((c:Int)<(n:Int)-1)):=by refine sD (JR (EZ (EZ rfl rfl (Ww (by decide))) rfl uC)) λ_=>JR (EZ rfl (EZ ln rfl (fF _ _)) ?_);exact zK _ _
 unfold fj;rw[M8 tF];by_cases BD:(decide (y%4=0)&&decide ((c:Int)<(n:Int)-1))=true
 .have AS:(c:Int)<(n:Int)-1:=by
    rw[Ga,decide_eq_true_iff,decide_eq_true_iff]at BD;exact BD.2
  have H9:=Xe (y/4) (b:=(n:Int)-1-c) (by lia);have H4:=Xq (y/4) (b:=(n:Int)-1-c) (by lia);obtain⟨r,AI⟩:=r_ H9;refine⟨c+1+r,[d],.inr ⟨by lia,by lia,rfl⟩,?_⟩;rw[if_pos BD];have NU:A3 Cj (A3 Cj (J 6) (A5 (.int 1))) (A3 CJ (A3 Dr (J 9) (A5 (.int 4))) (A3 Ih (A3 Ih (Bs CO (A2 (J 1) (AD))) (A5 (.int 1))) (J 6))) (DQ ws Bk n a d Z L c S s8 (.A1 (.int y)) Cx CH)=.ok (CZ (c+1+r)):=by
   refine EZ (EZ rfl rfl (i6 _ _)) (EZ (EZ rfl rfl (bW (by decide) (by decide))) (EZ (EZ ln rfl (fF _ _)) rfl (fF _ _)) (Ww (by lia))) ?_;rw[AI,i6];show R.ok (D.int ((c:Int)+1+(r:Int)))=R.ok (D.int ((c+1+r:Nat):Int))
   congr 2
  rw[EC,adq,NU];rfl
 .refine⟨c,S,.inl ⟨rfl,rfl⟩,?_⟩;rw[if_neg BD];rfl
structure Pv(N:B9->On)(W:Fn)(P:Gz)(d:AW)(L:List DJ)(c:Nat)(S:List AW):Prop where
 Kw:((d,c):B9)∈W.map (·.1)
 met:∀k∈L,k∈P.map (·.1)
 QW:∀e∈S,∃m,Dz N (e,c) m=some (d,c)
def Z4{N:B9->On}(mo:LF N W P){s:B9}(AN:s∈W.map (·.1)):(0,(s.1.1:Int),0)∈P.map (·.1):=by obtain⟨p,Ad,rfl⟩:=List.mem_map.mp AN;exact mo.at_ p Ad
def bq{N:B9->On}(mo:LF N W P){s:B9}(AN:s∈W.map (·.1))(h:J7 (N s)=false):Mi s.1.1 (N s)∈P.map (·.1):=by obtain⟨p,Ad,rfl⟩:=List.mem_map.mp AN;exact mo.FD p Ad h
def p_{N:B9->On}(mo:LF N W P){s:B9}(AN:s∈W.map (·.1)){m:Nat}(hm:1<=m)(h:Dz N s m=some s):(3,0,0)∈P.map (·.1):=by obtain⟨p,Ad,rfl⟩:=List.mem_map.mp AN;exact mo.Lq p Ad ⟨m,hm,h⟩
def ade(ok:Js cs ws Bk n a)(g:Good (CM cs cs.length) (CL ws Bk a) n d0 W U []){d:AW}(hd:((d,c):B9)∈W.map (·.1))(Z:D)(L:List DJ)(S:List AW)(s8 s9 Cx CH:Be):fk (DQ ws Bk n a d Z L c S s8 s9 Cx CH)=.ok (.BC (DQ ws Bk n a d Z L c S s8 s9 (.A1 (C7 d.1 (CL ws Bk a (d,c)))) CH)):=by obtain⟨p,Ad,BY⟩:=List.mem_map.mp hd;have IZ:=g.inr p Ad;rw[BY]at IZ;have h1:d.1<cs.length:=(P8.mp IZ.1).1;have x:=nf (s:=(d,c)) ok h1 IZ.2;have b:AR (Cg (Bk c)) (.int (d.1:Int))=.ok (Df ((Bk c).getD d.1 [])):=Ro (by have:=ok.Aa c IZ.2;lia);have CP:AR (.lst (D7 n Bk)) (CZ c)=.ok (Cg (Bk c)):=K2 (by have h:c<n:=IZ.2;simp[D7,h]);have DZ:AR (AZ d) (.int 0)=.ok (.int (d.1:Int)):=rfl;dsimp only at x;generalize(Bk c).getD d.1 []=VW at b x;simp[fk,DQ,CP,DZ,b,x]
def cO(d:AW)(Z:D)(L:List DJ)(q:D)(Ec:L.length<=1000)(ws:List (AW×AW))(Bk:Nat->List (List DK))(n a:Nat)(S:List AW)(s8:Be)(pb:Be×Be){c:Nat}:Hv (BS (IF (J 5) (BS (C1 (A2 (J 10) (AD)))))) (DQ ws Bk n a d Z L c S s8 pb.1 (.A1 q) pb.2)=.ok (.E6 (.lst (L.map F9++[q]))):=by
 have JQ:(L.map F9).length<=1000:=by simpa using Ec
 unfold DQ;generalize L.map F9=sT at JQ;simp(disch:=first|lia|(simp;done)|(simp;lia)) [lim,ES]
def tB(d:AW)(Z:D)(L:List DJ)(q:D)(Ec:L.length<=1000){ws:List (AW×AW)}{Bk:Nat->List (List DK)}{n a:Nat}{S:List AW}{s8 s9 CH:Be}{c:Nat}:Hv (BS (IF (J 5) (BS (C1 (A2 (DH (A2 (A5 (.str (BU "ring"))) (AD))) (AD)))))) (DQ ws Bk n a d Z L c S s8 s9 (.A1 q) CH)=.ok (.E6 (.lst (L.map F9++[F9 (3,0,0)]))):=by
 have JQ:(L.map F9).length<=1000:=by simpa using Ec
 unfold DQ;generalize L.map F9=sT at JQ;simp(disch:=first|lia|(simp;done)|(simp;lia)) [lim,ES,qR]
def ada{N:B9->On}(mo:LF N W P){d:AW}{L:List DJ}{S:List AW}(Ej:Pv N W P d L c S)(Ec:L.length<=1000)(hN:J7 (N (d,c))=false)(Z:D)(s8 s9 CH:Be):∃Ek:List DJ,(∀k∈Ek,k∈P.map (·.1))/\Ek.length<=L.length+1/\Wn (DQ ws Bk n a d Z L c S s8 s9 (.A1 (C7 d.1 (N (d,c)))) CH)=.ok (.E6 (.lst (Ek.map F9))):=by
 refine⟨L++[Mi d.1 (N (d,c))],λk AL=>?_,by simp,?_⟩
 .rcases List.mem_append.mp AL with AL|AL
  .exact Ej.met k AL
  .rw[List.mem_singleton.mp AL];exact bq mo Ej.Kw hN
 .have KZ:=aq d.1 (N (d,c));have DS:=lf (N (d,c));rw[hN]at DS;have Jw:BE (A3 (Bj false) (A3 AR (J 10) (A5 (.int 0))) (A5 (.str (BU "at")))) (DQ ws Bk n a d Z L c S s8 s9 (.A1 (C7 d.1 (N (d,c)))) CH)=.ok true:=JR (EZ (EZ rfl rfl KZ) rfl DS);unfold Wn;rw[M8 Jw,if_pos rfl];have adh:C7 d.1 (N (d,c))=F9 (Mi d.1 (N (d,c))):=w_on hN;rw[adh,Hz,Xr];exact cO _ _ _ _ Ec _ _ _ _ _ _ (s9,CH)
def adf{N:B9->On}(g:Good (CM cs cs.length) N n d0 W U [])(mo:LF N W P){d e:AW}{L:List DJ}{S:List AW}(Ej:Pv N W P d L c S)(Ec:L.length<=1000)(Jy:S.length<=1000)(hN:N (d,c)=.to e)(Z:D)(s8 s9 CH:Be):∃Ek:List DJ,Pv N W P e Ek c (S++[e])/\Ek.length<=L.length+2/\fl (DQ ws Bk n a d Z L c S s8 s9 (.A1 (C7 d.1 (.to e))) CH)=.ok (.BC (DQ ws Bk n a e Z Ek c (S++[e]) s8 s9 (.A1 (C7 d.1 (.to e))) CH)):=by
 have bk:((e,c):B9)∈W.map (·.1):=eV g Ej.Kw (by unfold KR;rw[hN]);have rc:∀x∈S++[e],∃m,Dz N (x,c) m=some (e,c):=λx AH=>by
  rcases List.mem_append.mp AH with AH|AH
  .obtain⟨m,hm⟩:=Ej.QW x AH;exact⟨m+1,by simp only[Dz,hm,O0,KR,hN]⟩
  .exact⟨0,by rw[List.mem_singleton.mp AH];rfl⟩
 have ma:=Z4 mo bk;refine⟨L++[(0,(e.1:Int),0)]++(if e∈S then[(3,0,0)]else[]),⟨bk,λk AL=>?_,rc⟩,by split<;>simp,?_⟩
 .rcases List.mem_append.mp AL with AL|AL
  .rcases List.mem_append.mp AL with AL|AL
   .exact Ej.met k AL
   .rw[List.mem_singleton.mp AL];exact ma
  .split at AL
   .rename_i he;rw[List.mem_singleton.mp AL];obtain⟨m,hm⟩:=Ej.QW e he;exact p_ mo bk (m:=m+1) (by lia) (by simp only[Dz,hm,O0,KR,hN])
   .cases AL
 .have t1:BN 2 (EN LB (J 10) (Er (A5 (.int 1))) (FT)) (DQ ws Bk n a d Z L c S s8 s9 (.A1 (C7 d.1 (.to e))) CH)=.ok (.BC (DQ ws Bk n a e Z L c S s8 s9 (.A1 (C7 d.1 (.to e))) CH)):=rfl;have D_:GX 5 (DH (A2 (A5 (.str (BU "at"))) (A2 (A3 AR (J 2) (A5 (.int 0))) (AD)))) (DQ ws Bk n a e Z L c S s8 s9 (.A1 (C7 d.1 (.to e))) CH)=.ok (.BC (DQ ws Bk n a e Z (L++[(0,(e.1:Int),0)]) c S s8 s9 (.A1 (C7 d.1 (.to e))) CH)):=by
   have DZ:AR (AZ e) (.int 0)=.ok (.int (e.1:Int)):=rfl;simp(disch:=first|lia|(simp;done)|(simp;lia)) [DQ,DZ,ae0]
  have dG:(L++[((0,(e.1:Int),0):DJ)]).length<=1001:=by simp;lia
  generalize L++[((0,(e.1:Int),0):DJ)]=MH at D_ dG;have t3:Cb (IE (BE (A3 (inD true) (J 2) (J 7)))) (GX 5 (DH (A2 (A5 (.str (BU "ring"))) (AD)))) (Co) (DQ ws Bk n a e Z MH c S s8 s9 (.A1 (C7 d.1 (.to e))) CH)=.ok (.BC (DQ ws Bk n a e Z (MH++(if e∈S then[(3,0,0)]else[])) c S s8 s9 (.A1 (C7 d.1 (.to e))) CH)):=by
   have cd:IE (BE (A3 (inD true) (J 2) (J 7))) (DQ ws Bk n a e Z MH c S s8 s9 (.A1 (C7 d.1 (.to e))) CH)=.ok (decide (e∈S)):=JR (EZ (x:=AZ e) (y:=.lst (S.map AZ)) rfl rfl (xf S e));rw[M8 cd];by_cases he:e∈S
   .rw[if_pos (by simpa using he),if_pos he];simp(disch:=first|lia|(simp;done)|(simp;lia)) [DQ,qR]
   .rw[if_neg (by simpa using he),if_neg he,LP];rfl
  have WY:∀C2,GX 7 (J 2) (DQ ws Bk n a e Z C2 c S s8 s9 (.A1 (C7 d.1 (.to e))) CH)=.ok (.BC (DQ ws Bk n a e Z C2 c (S++[e]) s8 s9 (.A1 (C7 d.1 (.to e))) CH)):=λC2=>by simp(disch:=first|lia|(simp;done)|(simp;lia)) [DQ]
  rw[fl,EC,t1,BV,FH,EC,D_,BV,FH,EC,t3,BV,FH,WY]
def ad_(ok:Js cs ws Bk n a)(g:Good (CM cs cs.length) (CL ws Bk a) n d0 W U [])(mo:LF (CL ws Bk a) W P){d:AW}{L:List DJ}{S:List AW}(Ej:Pv (CL ws Bk a) W P d L c S)(Ec:L.length<=1000)(Jy:S.length<=1000)(Z:D)(x:Int)(s9 Cx CH:Be) :
  Ends (Wm (DQ ws Bk n a d Z L c S (.A1 (.int x)) s9 Cx CH)) (Yt (λρ=>∃d' Ek DM Iw s8 s9 Cx CH,Pv (CL ws Bk a) W P d' Ek DM Iw/\Ek.length<=L.length+2/\Iw.length<=max 2 (S.length+1)/\ρ=DQ ws Bk n a d' Z Ek DM Iw s8 s9 Cx CH) λr=>∃Ek:List DJ,(∀k∈Ek,k∈P.map (·.1))/\Ek.length<=L.length+1/\r=.lst (Ek.map F9)):=by
 obtain⟨y,Cz⟩:=L2 x 6 (by decide);have Cz:EU [.int x,.int 6]=.ok (.v (.int y)):=Cz;have A9:BN 9 (Bg 2 EU (A2 (J 8) (A2 (A5 (.int 6)) (AD)))) (DQ ws Bk n a d Z L c S (.A1 (.int x)) s9 Cx CH)=.ok (.BC (DQ ws Bk n a d Z L c S (.A1 (.int x)) (.A1 (.int y)) Cx CH)):=Q2 (call2 rfl rfl Cz) rfl;obtain⟨p,Ad,BY⟩:=List.mem_map.mp Ej.Kw;have IZ:=g.inr p Ad;have up:=g.up p Ad;rw[BY]at IZ up;obtain⟨DM,Iw,v3,AG⟩:=adb (ws:=ws) (Bk:=Bk) (n:=n) (a:=a) d Z L S (.A1 (.int x)) Cx CH y IZ.2;have Wl:Pv (CL ws Bk a) W P d L DM Iw/\Iw.length<=max 1 S.length:=by
  rcases v3 with⟨rfl,rfl⟩|⟨h1,h2,rfl⟩
  .exact⟨Ej,by lia⟩
  .exact⟨⟨up DM (by show c<=DM;lia) h2,Ej.met,λe he=>⟨0,by rw[List.mem_singleton.mp he];rfl⟩⟩,by simp;lia⟩
 obtain⟨Wl,Zi⟩:=Wl;have B3:=ade ok g Wl.Kw Z L Iw (.A1 (.int x)) (.A1 (.int y)) Cx CH;rw[Wm,EC,A9,BV,FH,EC,AG,BV,FH,EC,B3,BV,FH,EC];by_cases hN:J7 (CL ws Bk a (d,DM))=false
 .obtain⟨Ek,m,l,CB⟩:=ada (ws:=ws) (Bk:=Bk) (n:=n) (a:=a) mo Wl Ec hN Z (.A1 (.int x)) (.A1 (.int y)) CH;rw[CB];exact⟨_,rfl,.inr ⟨_,rfl,Ek,m,l,rfl⟩⟩
 .obtain⟨e,he⟩:∃e,CL ws Bk a (d,DM)=.to e:=by
    cases q:CL ws Bk a (d,DM)with
    |drop=>rw[q]at hN;exact absurd rfl hN
    |out o=>rw[q]at hN;exact absurd rfl hN
    |to e=>exact⟨e,rfl⟩
  have KZ:=aq d.1 (.to e);have DS:=lf (.to e);have Jw:BE (A3 (Bj false) (A3 AR (J 10) (A5 (.int 0))) (A5 (.str (BU "at")))) (DQ ws Bk n a d Z L DM Iw (.A1 (.int x)) (.A1 (.int y)) (.A1 (C7 d.1 (.to e))) CH)=.ok false:=JR (EZ (EZ rfl rfl KZ) rfl DS);obtain⟨Ek,w,l,El⟩:=adf (ws:=ws) (Bk:=Bk) (a:=a) g mo Wl Ec (by lia) he Z (.A1 (.int x)) (.A1 (.int y)) CH;have CB:Wn (DQ ws Bk n a d Z L DM Iw (.A1 (.int x)) (.A1 (.int y)) (.A1 (C7 d.1 (.to e))) CH)=.ok (.BC (DQ ws Bk n a d Z L DM Iw (.A1 (.int x)) (.A1 (.int y)) (.A1 (C7 d.1 (.to e))) CH)):=by unfold Wn;rw[M8 Jw];rfl
  rw[he,CB,BV,FH,El];exact⟨_,rfl,.inl ⟨_,rfl,_,Ek,DM,_,_,_,_,_,w,l,by simp;lia,rfl⟩⟩
noncomputable def Wo:Aq:=AU (Md (Fj [BL 11,BL 10]) (Bg 4 QK (A2 (J 0) (A2 (A3 AR (J 1) (J 6)) (A2 (J 2) (A2 (J 3) (AD)))))))
    (AU (EB 5 (Q9 5 (BS (Dm 1 [] (F4 (J 11)) (BL 0) (F5) (DH (A2 (A5 (.str (BU "at"))) (A2 (A3 AR (J 0) (A5 (.int 0))) (AD))))))))
    (AU (Cb (BE (A3 (Bj true) (A3 AR (J 10) (A5 (.int 0))) (A5 (.str (BU "at"))))) (Hv (BS (IF (J 5) (BS (C1 (A2 (DH (A2 (A5 (.str (BU "ring"))) (AD))) (AD))))))) (Co))
    (Hv (BS (IF (J 5) (BS (C1 (A2 (J 10) (AD)))))))))
def adg(ok:Js cs ws Bk n a)(g:Good (CM cs cs.length) (CL ws Bk a) n d0 W U [])(mo:LF (CL ws Bk a) W P){d:AW}{L:List DJ}{S:List AW}(Ej:Pv (CL ws Bk a) W P d L c S)(Ec:L.length<=200)(Z:D)(s8 s9 Cx CH:Be) :
  ∃Ek:List DJ,(∀k∈Ek,k∈P.map (·.1))/\Ek.length<=300/\Wo (DQ ws Bk n a d Z L c S s8 s9 Cx CH)=.ok (.E6 (.lst (Ek.map F9))):=by
 obtain⟨p,Ad,BY⟩:=List.mem_map.mp Ej.Kw;have IZ:=g.inr p Ad;rw[BY]at IZ;have OJ:=OS ok.Ef.c cs.length;have h6:=ok.Ef.h6;obtain⟨pre,l,r,cn,CN⟩:=acH ok g Ej.Kw;have Se:(pre++[l]).length<=24:=by
  have:=Qy r.Am λx AH=>by obtain⟨p,Ad,BY⟩:=List.mem_map.mp (r.Kw x AH);have:=(g.inr p Ad).1;rw[BY]at this;exact this
  lia
 have db:=r.Kw;have QW:=r.QW;have nW:=r.Kw l (by simp);have CP:AR (.lst (D7 n Bk)) (CZ c)=.ok (Cg (Bk c)):=K2 (by have h:c<n:=IZ.2;simp[D7,h]);generalize pre++[l]=G at CN Se db QW cn;have DS:Md (Fj [BL 11,BL 10]) (Bg 4 QK (A2 (J 0) (A2 (A3 AR (J 1) (J 6)) (A2 (J 2) (A2 (J 3) (AD)))))) (DQ ws Bk n a d Z L c S s8 s9 Cx CH)=.ok (.BC (DQ ws Bk n a d Z L c S s8 s9 (.A1 (C7 l.1 (CL ws Bk a (l,c)))) (.A1 (.lst (G.map AZ))))):=by
  have:Bg 4 QK (A2 (J 0) (A2 (A3 AR (J 1) (J 6)) (A2 (J 2) (A2 (J 3) (AD))))) (DQ ws Bk n a d Z L c S s8 s9 Cx CH)=.ok (.tup [.lst (G.map AZ),C7 l.1 (CL ws Bk a (l,c))]):=by simp[DQ,CP,CN]
  rw[qK,this];rfl
 have Db:EB 5 (Q9 5 (BS (Dm 1 [] (F4 (J 11)) (BL 0) (F5) (DH (A2 (A5 (.str (BU "at"))) (A2 (A3 AR (J 0) (A5 (.int 0))) (AD))))))) (DQ ws Bk n a d Z L c S s8 s9 (.A1 (C7 l.1 (CL ws Bk a (l,c)))) (.A1 (.lst (G.map AZ))))=.ok (.BC (DQ ws Bk n a d Z (L++G.map λe=>(0,(e.1:Int),0)) c S s8 s9 (.A1 (C7 l.1 (CL ws Bk a (l,c)))) (.A1 (.lst (G.map AZ))))):=by
  have HV:Dm 1 [] (F4 (J 11)) (BL 0) (F5) (DH (A2 (A5 (.str (BU "at"))) (A2 (A3 AR (J 0) (A5 (.int 0))) (AD)))) (DQ ws Bk n a d Z L c S s8 s9 (.A1 (C7 l.1 (CL ws Bk a (l,c)))) (.A1 (.lst (G.map AZ))))=.ok (G.map λe=>F9 (0,(e.1:Int),0)):=by
   apply Ends.done;have Wj:∀r:R (List D),r=r.bind .ok:=λr=>by cases r<;>rfl
   rw[Wj (Dm _ _ _ _ _ _ _)];refine Tw AZ G (λe=>F9 (0,(e.1:Int),0)) rfl (by lia) (λe _=>rfl) ⟨_,rfl,rfl⟩
  have oM:ownAt 5 (DQ ws Bk n a d Z L c S s8 s9 (.A1 (C7 l.1 (CL ws Bk a (l,c)))) (.A1 (.lst (G.map AZ))))=.ok (L.map F9):=rfl;have ca:cM (L.map F9) (.lst (G.map λe=>F9 (0,(e.1:Int),0)))=.ok (L.map F9++G.map λe=>F9 (0,(e.1:Int),0)):=if_pos (by simp;lia);rw[qJ,aea,oM,BV,Qq,HV,BV,BV,ca,BV,if_pos (by simp[DQ])];unfold DQ;rw[Hz,IK];rfl
 have dG:(L++G.map λe=>((0,(e.1:Int),0):DJ)).length<=230:=by simp;lia
 have n0:∀k∈L++G.map λe=>((0,(e.1:Int),0):DJ),k∈P.map (·.1):=λk AL=>by
  rcases List.mem_append.mp AL with AL|AL
  .exact Ej.met k AL
  .obtain⟨e,he,rfl⟩:=List.mem_map.mp AL;exact Z4 mo (db e he)
 generalize(L++G.map λe=>((0,(e.1:Int),0):DJ))=MH at Db dG n0;have add:∀q:DJ,q∈P.map (·.1)->∀k∈MH++[q],k∈P.map (·.1):=λq AX k AL=>by
  rcases List.mem_append.mp AL with AL|AL
  .exact n0 k AL
  .rw[List.mem_singleton.mp AL];exact AX
 have KZ:=aq l.1 (CL ws Bk a (l,c));have rF:=lg (CL ws Bk a (l,c));have Jw:BE (A3 (Bj true) (A3 AR (J 10) (A5 (.int 0))) (A5 (.str (BU "at")))) (DQ ws Bk n a d Z MH c S s8 s9 (.A1 (C7 l.1 (CL ws Bk a (l,c)))) (.A1 (.lst (G.map AZ))))=.ok (J7 (CL ws Bk a (l,c))):=JR (EZ (EZ rfl rfl KZ) rfl rF);rw[Wo,EC,DS,BV,FH,EC,Db,BV,FH,EC,M8 Jw];cases e:CL ws Bk a (l,c)with
 |to f=>obtain⟨m,hm⟩:=QW f (cn f e);have Lq:=p_ mo (db f (cn f e)) (m:=m+1) (by lia) (by simp only[Dz,hm,O0,KR,e]);refine⟨MH++[(3,0,0)],add _ Lq,by simp;lia,?_⟩;rw[if_pos (show J7 (.to f)=true from rfl),Hz,Xr,tB _ _ _ _ (by lia)];rfl
 |drop=>have FD:=bq mo nW (by rw[e];rfl);rw[e]at FD;refine⟨MH++[Mi l.1 .drop],add _ FD,by simp;lia,?_⟩;rw[Hz,Xr];exact cO _ _ _ _ (by lia) _ _ _ _ _ _ (s9,.A1 (.lst (G.map AZ)))
 |out o=>have FD:=bq mo nW (by rw[e];rfl);rw[e]at FD;refine⟨MH++[Mi l.1 (.out o)],add _ FD,by simp;lia,?_⟩;rw[Hz,Xr];exact cO _ _ _ _ (by lia) _ _ _ _ _ _ (s9,.A1 (.lst (G.map AZ)))
def ae4(ok:Js cs ws Bk n a)(g:Good (CM cs cs.length) (CL ws Bk a) n d0 W U [])(mo:LF (CL ws Bk a) W P)(h0:((d0,0):B9)∈W.map (·.1))(zs:List Int)(Ar:zs.length<=63) :
  ∃L:List DJ,(∀k∈L,k∈P.map (·.1))/\L.length<=300/\P6 [.lst (ws.map Cd),.lst (D7 n Bk),AZ d0,.int (a:Int),.lst (zs.map D.int)]=.ok (.v (.lst (L.map F9))):=by
 suffices h:Ends (P6 [.lst (ws.map Cd),.lst (D7 n Bk),AZ d0,.int (a:Int),.lst (zs.map D.int)]) (λy=>∃L:List DJ,(∀k∈L,k∈P.map (·.1))/\L.length<=300/\y=.v (.lst (L.map F9)))by
  obtain⟨y,e,L,h1,h2,rfl⟩:=h;exact⟨L,h1,h2,e⟩
 have G3:∀x0 Ey Em Fd GL:D,P6 [x0,Ey,Em,Fd,GL]=(Ya [.A1 x0,.A1 Ey,.A1 Em,.A1 Fd,.A1 GL,.un,.un,.un,.un,.un,.un,.un]).bind outD:=λ_ _ _ _ _=>rfl
 have Bi:Ya=AU (EB 5 (C1 (A2 (DH (A2 (A5 (.str (BU "at"))) (A2 (A3 AR (J 2) (A5 (.int 0))) (AD)))) (AD))))
  (AU (BN 6 (A5 (.int 0)))
  (AU (EB 7 (C1 (A2 (J 2) (AD))))
  (AU (E0 (F4 (J 4)) (BL 8) Wm) Wo))):=rfl
 have aX:AU (EB 5 (C1 (A2 (DH (A2 (A5 (.str (BU "at"))) (A2 (A3 AR (J 2) (A5 (.int 0))) (AD)))) (AD))))
  (AU (BN 6 (A5 (.int 0)))
  (AU (EB 7 (C1 (A2 (J 2) (AD))))
  (AU (E0 (F4 (J 4)) (BL 8) Wm) Wo))) [.A1 (.lst (ws.map Cd)),.A1 (.lst (D7 n Bk)),.A1 (AZ d0),.A1 (.int (a:Int)),.A1 (.lst (zs.map D.int)),.un,.un,.un,.un,.un,.un,.un]=AU (E0 (F4 (J 4)) (BL 8) Wm) Wo (DQ ws Bk n a d0 (.lst (zs.map D.int)) [(0,(d0.1:Int),0)] 0 [d0] .un .un .un .un):=rfl
 rw[G3,Bi,aX,EC,SD]
 refine u4 D.int zs (λj ρ=>∃d L c S s8 s9 Cx CH,Pv (CL ws Bk a) W P d L c S/\L.length<=1+2*j/\S.length<=1+j/\ρ=DQ ws Bk n a d (.lst (zs.map D.int)) L c S s8 s9 Cx CH) (λr=>∃Ek:List DJ,(∀k∈Ek,k∈P.map (·.1))/\Ek.length<=300/\r=.lst (Ek.map F9)) rfl
  ⟨d0,[(0,(d0.1:Int),0)],0,[d0],.un,.un,.un,.un,⟨h0,λk AL=>by rw[List.mem_singleton.mp AL];exact Z4 mo h0,λe he=>⟨0,by rw[List.mem_singleton.mp he];rfl⟩⟩,by simp,by simp,rfl⟩ ?_ ?_ ?_
 .rintro j x _ By ⟨d,L,c,S,s8,s9,Cx,CH,Ej,Ec,Jy,rfl⟩;have agX:=(List.getElem?_eq_some_iff.mp By).1;have Ki:BL 8 (.int x) (DQ ws Bk n a d (.lst (zs.map D.int)) L c S s8 s9 Cx CH)=.ok (DQ ws Bk n a d (.lst (zs.map D.int)) L c S (.A1 (.int x)) s9 Cx CH):=rfl;rw[Ki,BV];refine(ad_ ok g mo Ej (by lia) (by lia) _ x s9 Cx CH).mono ?_;rintro f (⟨_,rfl,d',Ek,DM,Iw,s8,s9,Cx,CH,w,G6,Dl,rfl⟩|⟨_,rfl,Ek,m,l,rfl⟩)
  .exact .inl ⟨_,rfl,d',Ek,DM,Iw,s8,s9,Cx,CH,w,by lia,by lia,rfl⟩
  .exact .inr ⟨_,rfl,Ek,m,by lia,rfl⟩
 .rintro _ ⟨Ek,m,l,rfl⟩;exact⟨_,rfl,Ek,m,l,rfl⟩
 .rintro _ ⟨d,L,c,S,s8,s9,Cx,CH,Ej,Ec,Jy,rfl⟩;obtain⟨Ek,m,l,e⟩:=adg ok g mo Ej (by lia) (.lst (zs.map D.int)) s8 s9 Cx CH;rw[FH,e];exact⟨_,rfl,Ek,m,l,rfl⟩
end
def aaT{α:Type}(r:R α):r.bind .ok=r:=by cases r<;>rfl
def u3{α:Type}{mi:B6}{set:D->AF->R AF}{body:Aq}{ρ:AF}{T:FQ->Prop}(g:α->D)(xs:List α)(I:Nat->AF->Prop)(AC:mi ρ=.ok (xs.map g))(h0:I 0 ρ)(st:∀(j:Nat) a ρ,xs[j]?=some a->I j ρ->Ends ((set (g a) ρ).bind body) (Jn (I (j+1))))(fin:∀BJ,I xs.length BJ->T (.BC BJ)):Ends (E0 mi set body ρ) T:=by rw[<-aaT (E0 mi set body ρ)];exact Tx g xs I AC h0 st λBJ h=>by simpa using fin BJ h
theorem ou:∀cs:List Nat,∃z,Qj (CC cs)=some z
 |[]=>⟨[],rfl⟩
 |c::cs=>by obtain⟨z,Ar⟩:=ou cs;have:Qj (CC (c::cs))=(Qj (CC cs)).map ((c:Int)::·):=rfl;rw[this,Ar];exact⟨_,rfl⟩
def aaJ{k:DJ}(h:k∈Hq):okN 7 (DN k)=true:=by rcases MP h with g|g|g|g<;>rw[g]<;>rfl
def aaS{k:DJ}(h:k∈Hq):okN 7 (F9 k)=true:=by rcases MP h with g|g|g|g<;>rw[g]<;>rfl
def uD{k:DJ}(h:k∈Hq):Cv (DN k) (F9 k)=true:=by
 rcases MP h with g|g|g|g<;>rw[g]
 .show((BU "at"==BU "at")&&((k.2.1==k.2.1)&&true))=true;simp
 .show((BU "drop"==BU "drop")&&((k.2.1==k.2.1)&&true))=true;simp
 .show((BU "out"==BU "out")&&((k.2.1==k.2.1)&&((k.2.2==k.2.2)&&true)))=true;simp
 .rfl
def xh{T:List DJ}(CW:∀k∈T,k∈Hq){k:DJ}(AL:k∈T):inD true (F9 k) (.lst (T.map DN))=.ok (.Aa true):=by
 have o:(T.map DN).all (okN 7)=true:=by rw[Xy,Sw];exact λx AH=>aaJ (CW x AH)
 have a:((T.map DN).any λy=>Cv y (F9 k))=true:=by rw[PQ,Uo];exact⟨k,AL,uD (CW k AL)⟩
 have s:Oo (.lst (T.map DN))=some (T.map DN):=rfl;simp only[inD,s];rw[if_pos ⟨aaS (CW k AL),o⟩,if_pos trivial,a]
section
variable{ns:List Int}{cs:List Nat}{ws:List (AW×AW)}{os nw:List (List DK)}{row:List Nat}{O:List AW}
noncomputable def Dg(ns:List Int)(cs:List Nat)(ws:List (AW×AW))(os nw:List (List DK))(row:List Nat)(O:List AW)(s9 Cx CH HO Gm Es DO DP:Be):AF:=[.A1 (.Cc (ns.map D.int)),.A1 (.lst (CC cs)),.A1 (.lst (ws.map Cd)),.A1 (Cg os),.A1 (Cg nw),.A1 (.lst (O.map AZ)),.A1 (.lst (row.map CZ)),.A1 (.lst (D7 (row.length+1) (FF os nw row))),.A1 (Dd cs ws),s9,Cx,CH,HO,Gm,Es,DO,DP]
def eC(m:Ag):CR:=GG (BE (Bs Cm.CM (A2 (BS (Dm 1 [13] (F4 (Bg 5 P6 (A2 (J 2) (A2 (J 7) (A2 (J 11) (A2 (J 12) (A2 m (AD)))))))) (BL 0) (F5) (A3 (inD true) (J 0) (J 1)))) (AD))))
def mq{a:Nat}{d0:AW}{W:Fn}{U:To}{P:Gz}{T:List DJ}(ok:Js cs ws (FF os nw row) (row.length+1) a)(g:Good (CM cs cs.length) (CL ws (FF os nw row) a) (row.length+1) d0 W U [])(mo:LF (CL ws (FF os nw row) a) W P)(h0:((d0,0):B9)∈W.map (·.1))(S_:∀k,k∈T↔k∈P.map (·.1))(zs:List Int)(Ar:zs.length<=63)(m:Ag)(s9 Cx Es DO DP:Be)(hm:m (Dg ns cs ws os nw row O s9 Cx (.A1 (AZ d0)) (.A1 (.int (a:Int))) (.A1 (.lst (T.map DN))) Es DO DP)=.ok (.lst (zs.map D.int))):eC m (Dg ns cs ws os nw row O s9 Cx (.A1 (AZ d0)) (.A1 (.int (a:Int))) (.A1 (.lst (T.map DN))) Es DO DP)=.ok false:=by
 obtain⟨L,zP,afz,HX⟩:=ae4 ok g mo h0 zs Ar;have CW:∀k∈T,k∈Hq:=λk AL=>mo.PC.cd k ((S_ k).mp AL);have tM:Bg 5 P6 (A2 (J 2) (A2 (J 7) (A2 (J 11) (A2 (J 12) (A2 m (AD)))))) (Dg ns cs ws os nw row O s9 Cx (.A1 (AZ d0)) (.A1 (.int (a:Int))) (.A1 (.lst (T.map DN))) Es DO DP)=.ok (.lst (L.map F9)):=by have v2:J 2 (Dg ns cs ws os nw row O s9 Cx (.A1 (AZ d0)) (.A1 (.int (a:Int))) (.A1 (.lst (T.map DN))) Es DO DP)=.ok (.lst (ws.map Cd)):=rfl;have aeW:J 7 (Dg ns cs ws os nw row O s9 Cx (.A1 (AZ d0)) (.A1 (.int (a:Int))) (.A1 (.lst (T.map DN))) Es DO DP)=.ok (.lst (D7 (row.length+1) (FF os nw row))):=rfl;have v11:J 11 (Dg ns cs ws os nw row O s9 Cx (.A1 (AZ d0)) (.A1 (.int (a:Int))) (.A1 (.lst (T.map DN))) Es DO DP)=.ok (AZ d0):=rfl;have aeU:J 12 (Dg ns cs ws os nw row O s9 Cx (.A1 (AZ d0)) (.A1 (.int (a:Int))) (.A1 (.lst (T.map DN))) Es DO DP)=.ok (.int (a:Int)):=rfl;simp only[aeZ,Le,Nr,v2,aeW,v11,aeU,hm,BV,Hk,N3,if_true,HX];rfl
 have c:Dm 1 [13] (F4 (Bg 5 P6 (A2 (J 2) (A2 (J 7) (A2 (J 11) (A2 (J 12) (A2 m (AD)))))))) (BL 0) (F5) (A3 (inD true) (J 0) (J 1)) (Dg ns cs ws os nw row O s9 Cx (.A1 (AZ d0)) (.A1 (.int (a:Int))) (.A1 (.lst (T.map DN))) Es DO DP)=.ok (L.map λ_=>.Aa true):=by
  apply Ends.done;have Wj:∀r:R (List D),r=r.bind .ok:=λr=>by cases r<;>rfl
  rw[Wj (Dm _ _ _ _ _ _ _)];refine Tw F9 L (λ_=>.Aa true) ?_ (by lia) (λk AL=>?_) ⟨_,rfl,rfl⟩
  .unfold F4;rw[tM];rfl
  .exact EZ (x:=F9 k) (y:=.lst (T.map DN)) rfl rfl (xh CW ((S_ k).mpr (zP k AL)))
 have al:=VS (λ_:DJ=>true) L;have T8:L.all (λ_=>true)=true:=by simp
 rw[T8]at al;refine eG (c:=true) (JR ?_);rw[aD,Le,Qq,c,BV,BV,Nr,BV,BV];exact al
def W5(m:Ag)(n o:Ag):Ag:=Bg 7 Ts (A2 (J 8) (A2 (J 3) (A2 (J 4) (A2 (J 6) (A2 m (A2 n (A2 o (AD))))))))
def mr:Aq:=E0 (F4 (EN FG (J 14) (FT) (Er (A5 (.int 4))))) (BL 15) (Cb (eC (BS (C1 (A2 (J 15) (AD))))) (D0 (A5 (.Aa false))) (Co))
noncomputable def mu:Aq:=E0 (F4 (EN FG (EN FG (J 13) (Er (A3 CJ (A3 Dr (J 10) (A5 (.int 900))) (Bs CO (A2 (J 13) (AD))))) (FT)) (FT) (Er (A5 (.int 3))))) (BL 16) (Cb (BE (A3 (Fs true) (W5 (J 11) (J 12) (J 16)) (A5 .non))) (D0 (A5 (.Aa false))) (Co))
noncomputable def eD:Aq:=AU (BN 10 (Bg 2 EU (A2 (Bg 2 Ib (A2 (J 0) (A2 (A3 Cj (A5 (.int 2)) (J 9)) (AD)))) (A2 (A5 (.int 7)) (AD)))))
    (AU (BN 11 (A3 AR (J 5) (A3 CJ (J 10) (Bs CO (A2 (J 5) (AD))))))
    (AU (BN 12 (A3 CJ (A3 Dr (J 10) (A5 (.int 50))) (A5 (.int 16))))
    (AU (BN 13 (BS (FS 6 WC (A2 (J 8) (A2 (J 3) (A2 (J 4) (A2 (J 6) (A2 (J 11) (A2 (J 12) (AD))))))))))
    (AU (BN 14 (EN FG (J 0) (Er (A3 Cj (A5 (.int 16)) (J 9))) (FT)))
    (AU (Cb (eC (J 14)) (D0 (A5 (.Aa false))) (Co))
    (AU mr mu))))))
def zM(Ef:LG cs ws)(Fo:GZ cs os)(bn:GZ cs nw)(AI:row.length<=6)(J2:∀d∈O,d∈CM cs cs.length)(Rg:0<O.length)(AQ:ns.length<=63)(k:Nat)(AL:k<2)(Cx CH HO Gm Es DO DP:Be) :
  Ends (eD (Dg ns cs ws os nw row O (.A1 (.int (k:Int))) Cx CH HO Gm Es DO DP)) (Jn λρ=>∃s9 Cx CH HO Gm Es DO DP,ρ=Dg ns cs ws os nw row O s9 Cx CH HO Gm Es DO DP):=by
 obtain⟨x,ex⟩:=VZ ns (2+k);obtain⟨y,Cz⟩:=L2 x 7 (by decide);have Cz:EU [.int x,.int 7]=.ok (.v (.int y)):=Cz;have A9:BN 10 (Bg 2 EU (A2 (Bg 2 Ib (A2 (J 0) (A2 (A3 Cj (A5 (.int 2)) (J 9)) (AD)))) (A2 (A5 (.int 7)) (AD)))) (Dg ns cs ws os nw row O (.A1 (.int (k:Int))) Cx CH HO Gm Es DO DP)=.ok (.BC (Dg ns cs ws os nw row O (.A1 (.int (k:Int))) (.A1 (.int y)) CH HO Gm Es DO DP)):=by
  refine Q2 (call2 (call2 rfl (EZ rfl rfl (i6 _ _)) ?_) rfl Cz) rfl;have:((2:Int)+(k:Int))=((2+k:Nat):Int):=by lia
  rw[this];exact ex
 obtain⟨i,AC,G4⟩:=JV y Rg;have AG:BN 11 (A3 AR (J 5) (A3 CJ (J 10) (Bs CO (A2 (J 5) (AD))))) (Dg ns cs ws os nw row O (.A1 (.int (k:Int))) (.A1 (.int y)) CH HO Gm Es DO DP)=.ok (.BC (Dg ns cs ws os nw row O (.A1 (.int (k:Int))) (.A1 (.int y)) (.A1 (AZ O[i])) HO Gm Es DO DP)):=by
  have ln:Bs CO (A2 (J 5) (AD)) (Dg ns cs ws os nw row O (.A1 (.int (k:Int))) (.A1 (.int y)) CH HO Gm Es DO DP)=.ok (.int (O.length:Int)):=by have:=TY (a:=J 5) (ρ:=Dg ns cs ws os nw row O (.A1 (.int (k:Int))) (.A1 (.int y)) CH HO Gm Es DO DP) (xs:=O.map AZ) rfl;rw[Fw]at this;exact this
  refine Q2 (EZ rfl (EZ rfl ln (Ww (by lia))) ?_) rfl;rw[G4];exact K2 (by simp[AC])
 obtain⟨a,AB,Aw⟩:=JV (y/50) (n:=16) (by decide);have B3:BN 12 (A3 CJ (A3 Dr (J 10) (A5 (.int 50))) (A5 (.int 16))) (Dg ns cs ws os nw row O (.A1 (.int (k:Int))) (.A1 (.int y)) (.A1 (AZ O[i])) HO Gm Es DO DP)=.ok (.BC (Dg ns cs ws os nw row O (.A1 (.int (k:Int))) (.A1 (.int y)) (.A1 (AZ O[i])) (.A1 (.int (a:Int))) Gm Es DO DP)):=by refine Q2 (EZ (EZ rfl rfl (bW (by decide) (by decide))) rfl ?_) rfl;rw[<-Aw];exact Ww (by decide)
 have Vb:=J2 O[i] (N2 _);generalize O[i]=d0 at AG B3 Vb;obtain⟨W,U,P,g,h0,mo,em⟩:=nA (row:=row) Ef Fo bn AI AB Vb;have ok:=S7 (row:=row) Ef Fo bn AI AB;unfold ZD at em;have A6:=zW (ds:=[]) mo.PC em;have S_:∀k,k∈LT.LC (P.map (·.1))↔k∈P.map (·.1):=λk=>(LT.UT _).mem_iff;have Tl:(LT.LC (P.map (·.1))).length=P.length:=by rw[(LT.UT _).length_eq,Fw]
 have afQ:0<P.length:=by
  have:=Uj (Z4 mo h0)
  rwa [Fw]at this
 have agK:=mo.PC.few;generalize LT.LC (P.map (·.1))=T at A6 S_ Tl;have CB:BN 13 (BS (FS 6 WC (A2 (J 8) (A2 (J 3) (A2 (J 4) (A2 (J 6) (A2 (J 11) (A2 (J 12) (AD))))))))) (Dg ns cs ws os nw row O (.A1 (.int (k:Int))) (.A1 (.int y)) (.A1 (AZ d0)) (.A1 (.int (a:Int))) Gm Es DO DP)=.ok (.BC (Dg ns cs ws os nw row O (.A1 (.int (k:Int))) (.A1 (.int y)) (.A1 (AZ d0)) (.A1 (.int (a:Int))) (.A1 (.lst (T.map DN))) Es DO DP)):=by simp[Dg,A6]
 have El:BN 14 (EN FG (J 0) (Er (A3 Cj (A5 (.int 16)) (J 9))) (FT)) (Dg ns cs ws os nw row O (.A1 (.int (k:Int))) (.A1 (.int y)) (.A1 (AZ d0)) (.A1 (.int (a:Int))) (.A1 (.lst (T.map DN))) Es DO DP)=.ok (.BC (Dg ns cs ws os nw row O (.A1 (.int (k:Int))) (.A1 (.int y)) (.A1 (AZ d0)) (.A1 (.int (a:Int))) (.A1 (.lst (T.map DN))) (.A1 (.lst ((ns.drop (16+k)).map D.int))) DO DP)):=by
  have Bz:FG (.Cc (ns.map D.int)) (some ((16:Int)+(k:Int))) none=.ok (.lst ((ns.drop (16+k)).map D.int)):=by
   have:((16:Int)+(k:Int))=((16+k:Nat):Int):=by lia
   rw[this];simp only[FG,k5,hJ]
  simp[Dg,intD,Bz]
 have te:=mq (ns:=ns) (O:=O) ok g mo h0 S_ (ns.drop (16+k)) (by simp;lia) (J 14) (.A1 (.int (k:Int))) (.A1 (.int y)) (.A1 (.lst ((ns.drop (16+k)).map D.int))) DO DP rfl;rw[eD,EC,A9,BV,FH,EC,AG,BV,FH,EC,B3,BV,FH,EC,CB,BV,FH,EC,El,BV,FH,p1 te,EC];generalize ns.drop (16+k)=zs;have wg:F4 (EN FG (J 14) (FT) (Er (A5 (.int 4)))) (Dg ns cs ws os nw row O (.A1 (.int (k:Int))) (.A1 (.int y)) (.A1 (AZ d0)) (.A1 (.int (a:Int))) (.A1 (.lst (T.map DN))) (.A1 (.lst (zs.map D.int))) DO DP)=.ok ((zs.take 4).map D.int):=by
  have Bz:FG (.lst (zs.map D.int)) none (some (4:Int))=.ok (.lst ((zs.take 4).map D.int)):=by rw[show(4:Int)=((4:Nat):Int)from rfl];simp only[FG,bc,T0]
  simp[Dg,intD,Bz,XG]
 unfold mr;refine Tx D.int (zs.take 4) (λ_ ρ=>∃DO,ρ=Dg ns cs ws os nw row O (.A1 (.int (k:Int))) (.A1 (.int y)) (.A1 (AZ d0)) (.A1 (.int (a:Int))) (.A1 (.lst (T.map DN))) (.A1 (.lst (zs.map D.int))) DO DP) wg ⟨DO,rfl⟩ ?_ ?_
 .rintro j z _ By ⟨DO,rfl⟩;have Ki:BL 15 (.int z) (Dg ns cs ws os nw row O (.A1 (.int (k:Int))) (.A1 (.int y)) (.A1 (AZ d0)) (.A1 (.int (a:Int))) (.A1 (.lst (T.map DN))) (.A1 (.lst (zs.map D.int))) DO DP)=.ok (Dg ns cs ws os nw row O (.A1 (.int (k:Int))) (.A1 (.int y)) (.A1 (AZ d0)) (.A1 (.int (a:Int))) (.A1 (.lst (T.map DN))) (.A1 (.lst (zs.map D.int))) (.A1 (.int z)) DP):=rfl;have tf:=mq (ns:=ns) (O:=O) ok g mo h0 S_ [z] (by simp) (BS (C1 (A2 (J 15) (AD)))) (.A1 (.int (k:Int))) (.A1 (.int y)) (.A1 (.lst (zs.map D.int))) (.A1 (.int z)) DP rfl;rw[Ki,BV,M8 tf];exact⟨_,rfl,_,rfl,_,rfl⟩
 .rintro _ ⟨DO,rfl⟩;rw[FH];obtain⟨m,hm,OX⟩:=JV (y/900) (n:=T.length) (by lia);have Ah:F4 (EN FG (EN FG (J 13) (Er (A3 CJ (A3 Dr (J 10) (A5 (.int 900))) (Bs CO (A2 (J 13) (AD))))) (FT)) (FT) (Er (A5 (.int 3)))) (Dg ns cs ws os nw row O (.A1 (.int (k:Int))) (.A1 (.int y)) (.A1 (AZ d0)) (.A1 (.int (a:Int))) (.A1 (.lst (T.map DN))) (.A1 (.lst (zs.map D.int))) DO DP)=.ok (((T.drop m).take 3).map DN):=by
   have ln:Bs CO (A2 (J 13) (AD)) (Dg ns cs ws os nw row O (.A1 (.int (k:Int))) (.A1 (.int y)) (.A1 (AZ d0)) (.A1 (.int (a:Int))) (.A1 (.lst (T.map DN))) (.A1 (.lst (zs.map D.int))) DO DP)=.ok (.int (T.length:Int)):=by have:=TY (a:=J 13) (ρ:=Dg ns cs ws os nw row O (.A1 (.int (k:Int))) (.A1 (.int y)) (.A1 (AZ d0)) (.A1 (.int (a:Int))) (.A1 (.lst (T.map DN))) (.A1 (.lst (zs.map D.int))) DO DP) (xs:=T.map DN) rfl;rw[Fw]at this;exact this
   have zV:A3 CJ (A3 Dr (J 10) (A5 (.int 900))) (Bs CO (A2 (J 13) (AD))) (Dg ns cs ws os nw row O (.A1 (.int (k:Int))) (.A1 (.int y)) (.A1 (AZ d0)) (.A1 (.int (a:Int))) (.A1 (.lst (T.map DN))) (.A1 (.lst (zs.map D.int))) DO DP)=.ok (.int (m:Int)):=by refine EZ (EZ rfl rfl (bW (by decide) (by decide))) ln ?_;rw[<-OX];exact Ww (by lia)
   have s1:FG (.lst (T.map DN)) (some (m:Int)) none=.ok (.lst ((T.drop m).map DN)):=by simp only[FG,k5,hJ]
   have s2:FG (.lst ((T.drop m).map DN)) none (some (3:Int))=.ok (.lst (((T.drop m).take 3).map DN)):=by rw[show(3:Int)=((3:Nat):Int)from rfl];simp only[FG,bc,T0]
   have aeV:J 13 (Dg ns cs ws os nw row O (.A1 (.int (k:Int))) (.A1 (.int y)) (.A1 (AZ d0)) (.A1 (.int (a:Int))) (.A1 (.lst (T.map DN))) (.A1 (.lst (zs.map D.int))) DO DP)=.ok (.lst (T.map DN)):=rfl;unfold F4;simp only[gS,aeV,BV,gR,zV,gQ,intD,s1,qC,s2,XG]
  unfold mu;refine u3 DN ((T.drop m).take 3) (λ_ ρ=>∃DP,ρ=Dg ns cs ws os nw row O (.A1 (.int (k:Int))) (.A1 (.int y)) (.A1 (AZ d0)) (.A1 (.int (a:Int))) (.A1 (.lst (T.map DN))) (.A1 (.lst (zs.map D.int))) DO DP) Ah ⟨DP,rfl⟩ ?_ ?_
  .rintro j q _ By ⟨DP,rfl⟩;have aab:q∈T:=List.mem_of_mem_drop (List.mem_of_mem_take (JF By));have oD:=(S_ q).mp aab;have oF:=mo.PC.cd q oD;obtain⟨rF,Ar,KW⟩:=ac7 oF;obtain⟨v,kl⟩:=tr mo.PC oD;have ld:=nY em Ar KW (yN oF);rw[kl]at ld;have Ki:BL 16 (DN q) (Dg ns cs ws os nw row O (.A1 (.int (k:Int))) (.A1 (.int y)) (.A1 (AZ d0)) (.A1 (.int (a:Int))) (.A1 (.lst (T.map DN))) (.A1 (.lst (zs.map D.int))) DO DP)=.ok (Dg ns cs ws os nw row O (.A1 (.int (k:Int))) (.A1 (.int y)) (.A1 (AZ d0)) (.A1 (.int (a:Int))) (.A1 (.lst (T.map DN))) (.A1 (.lst (zs.map D.int))) DO (.A1 (DN q))):=rfl;have tg:BE (A3 (Fs true) (W5 (J 11) (J 12) (J 16)) (A5 .non)) (Dg ns cs ws os nw row O (.A1 (.int (k:Int))) (.A1 (.int y)) (.A1 (AZ d0)) (.A1 (.int (a:Int))) (.A1 (.lst (T.map DN))) (.A1 (.lst (zs.map D.int))) DO (.A1 (DN q)))=.ok false:=by
    refine JR (EZ (x:=.lst v) ?_ rfl rfl);simp[W5,Dg,ld]
   rw[Ki,BV,M8 tg];exact⟨_,rfl,_,rfl,_,rfl⟩
  .rintro _ ⟨DP,rfl⟩;exact⟨_,rfl,_,_,_,_,_,_,_,_,rfl⟩
end
def tU{ws:List (AW×AW)}{d:AW}(h:d∉ends ws):IS ws d=none:=by
 unfold IS;rw[Option.map_eq_none_iff,List.find?_eq_none];intro p Ad hd;have hd:p.1=d:=by simpa using hd
 unfold pairsOf at Ad;obtain⟨w,hw,Ar⟩:=List.mem_flatMap.mp Ad;have WU:∀x,x=w.1\/x=w.2->x∈ends ws:=λx AH=>List.mem_flatten.mpr ⟨[w.1,w.2],List.mem_map.mpr ⟨w,hw,rfl⟩,by simpa using AH⟩;simp only[PV,N1,or_false]at Ar;rcases Ar with rfl|rfl
 .exact h (hd▸WU _ (.inl rfl))
 .exact h (hd▸WU _ (.inr rfl))
def mx:Aq:=D0 (A3 (Fs true) (W5 (A3 AR (J 5) (A5 (.int 0))) (A5 (.int 3)) (DH (A2 (A5 (.str (BU "lost"))) (A2 (A5 (.int 0)) (AD))))) (A5 .non))
def mw:Aq:=E0 (Fh (A2 (A3 AR (BS (C1 (A2 (A5 (.int 2)) (A2 (A5 (.int 1)) (AD))))) (Bs Ls (A2 (A3 Od (Bs Q7 (A2 (J 1) (AD))) (A5 (.int 12))) (AD)))) (AD))) (BL 9) eD
def zN{ns:List Int}{cs:List Nat}{ws:List (AW×AW)}{os nw:List (List DK)}{row:List Nat}{O:List AW}(Ef:LG cs ws)(Fo:GZ cs os)(bn:GZ cs nw)(AI:row.length<=6)(J2:∀d∈O,d∈CM cs cs.length)(Rg:0<O.length)(s9 Cx CH HO Gm Es DO DP:Be):mx (Dg ns cs ws os nw row O s9 Cx CH HO Gm Es DO DP)=.ok (.E6 (.Aa true)):=by have Vb:=J2 O[0] (N2 _);obtain⟨W,U,P,g,h0,mo,em⟩:=nA (row:=row) Ef Fo bn AI (a:=3) (by decide) Vb;unfold ZD at em;have ld:=nY (gl:=.tup [.str (BU "lost"),.int 0]) (kk:=[.inl (.inr (BU "lost")),.inl (.inl 0)]) em (zs:=[0]) (by simp) rfl rfl;rw[ts mo.PC]at ld;have ld:Ts [Dd cs ws,Cg os,Cg nw,.lst (row.map CZ),AZ O[0],.int 3,.tup [.str (BU "lost"),.int 0]]=.ok (.v .non):=ld;have DZ:AR (.lst (O.map AZ)) (.int 0)=.ok (AZ O[0]):=K2 (k:=0) (by simp[Rg]);generalize O[0]=d0 at ld DZ;refine acF (EZ (x:=.non) ?_ rfl rfl);simp[W5,Dg,DZ,ld]
def xr(ns:List Int)(AQ:ns.length<=63):Rr [.Cc (ns.map D.int)]=.ok (.v (.Aa true)):=by
 obtain⟨cs,ws,os,nw,Ef,⟨d,hd,AS⟩,Fo,bn,Aw⟩:=sB ns;have h6:=Ef.h6;obtain⟨x,ex⟩:=VZ ns 1;have ex:Ib [.Cc (ns.map D.int),.int 1]=.ok (.v (.int x)):=ex;obtain⟨row,AI,CN⟩:=adH x cs.length h6;have U0:=zG Ef;have uE:=abZ (os:=os) (nw:=nw) (row:=row) (by rw[Fo.l];lia) (by rw[bn.l,Fo.l]) AI;have G4:=xi cs ws Ef;have J2:∀d∈outs cs ws,d∈CM cs cs.length:=λd hd=>(List.mem_filter.mp hd).1;have Rg:0<(outs cs ws).length:=Uj (List.mem_filter.mpr ⟨hd,by rw[tU AS];rfl⟩);generalize outs cs ws=O at U0 J2 Rg;obtain⟨zs,Ar⟩:=ou cs
 have Bi:YY=AU (Md (Fj [BL 1,BL 2,BL 3,BL 4]) (Bg 1 Tj (A2 (J 0) (AD))))
  (AU (BN 5 (BS (FS 2 Tq (A2 (J 1) (A2 (J 2) (AD))))))
  (AU (BN 6 (BS (FS 2 SQ (A2 (Bg 2 Ib (A2 (J 0) (A2 (A5 (.int 1)) (AD)))) (A2 (Bs CO (A2 (J 1) (AD))) (AD))))))
  (AU (BN 7 (BS (FS 3 Tr (A2 (J 3) (A2 (J 4) (A2 (J 6) (AD)))))))
  (AU (BN 8 (RN "Net" 2 Vf (A2 (J 1) (A2 (J 2) (AD)))))
  (AU mw mx))))):=rfl
 have G3:∀x0:D,Rr [x0]=(YY [.A1 x0,.un,.un,.un,.un,.un,.un,.un,.un,.un,.un,.un,.un,.un,.un,.un,.un]).bind outD:=λ_=>rfl;have AK:∀(b:Aq),AU (Md (Fj [BL 1,BL 2,BL 3,BL 4]) (Bg 1 Tj (A2 (J 0) (AD)))) b [.A1 (.Cc (ns.map D.int)),.un,.un,.un,.un,.un,.un,.un,.un,.un,.un,.un,.un,.un,.un,.un,.un]=b [.A1 (.Cc (ns.map D.int)),.A1 (.lst (CC cs)),.A1 (.lst (ws.map Cd)),.A1 (Cg os),.A1 (Cg nw),.un,.un,.un,.un,.un,.un,.un,.un,.un,.un,.un,.un]:=λb=>by rw[EC,qK,i_ rfl Aw];rfl
 have cL:∀(n:Nat)(f:List D->R CI)(m:B6)(ρ:AF)(ds A6:List D),m ρ=.ok ds->ds.length=n->f ds=.ok (.o A6)->BS (FS n f m) ρ=.ok (.lst A6):=λn f m ρ ds A6 h1 h2 h3=>by rw[Qq,qD,h1,BV,if_pos h2,h3];rfl
 have B4:∀(b:Aq),AU (BN 5 (BS (FS 2 Tq (A2 (J 1) (A2 (J 2) (AD)))))) b [.A1 (.Cc (ns.map D.int)),.A1 (.lst (CC cs)),.A1 (.lst (ws.map Cd)),.A1 (Cg os),.A1 (Cg nw),.un,.un,.un,.un,.un,.un,.un,.un,.un,.un,.un,.un]=b [.A1 (.Cc (ns.map D.int)),.A1 (.lst (CC cs)),.A1 (.lst (ws.map Cd)),.A1 (Cg os),.A1 (Cg nw),.A1 (.lst (O.map AZ)),.un,.un,.un,.un,.un,.un,.un,.un,.un,.un,.un]:=λb=>aR (Q2 (cL _ _ _ _ _ _ rfl rfl U0) rfl);have DV:∀(b:Aq),AU (BN 6 (BS (FS 2 SQ (A2 (Bg 2 Ib (A2 (J 0) (A2 (A5 (.int 1)) (AD)))) (A2 (Bs CO (A2 (J 1) (AD))) (AD)))))) b [.A1 (.Cc (ns.map D.int)),.A1 (.lst (CC cs)),.A1 (.lst (ws.map Cd)),.A1 (Cg os),.A1 (Cg nw),.A1 (.lst (O.map AZ)),.un,.un,.un,.un,.un,.un,.un,.un,.un,.un,.un]=b [.A1 (.Cc (ns.map D.int)),.A1 (.lst (CC cs)),.A1 (.lst (ws.map Cd)),.A1 (Cg os),.A1 (Cg nw),.A1 (.lst (O.map AZ)),.A1 (.lst (row.map CZ)),.un,.un,.un,.un,.un,.un,.un,.un,.un,.un]:=λb=>by
  refine aR (Q2 (cL _ _ _ _ [.int x,.int (cs.length:Int)] _ ?_ rfl CN) rfl);have ln:Bs CO (A2 (J 1) (AD)) [.A1 (.Cc (ns.map D.int)),.A1 (.lst (CC cs)),.A1 (.lst (ws.map Cd)),.A1 (Cg os),.A1 (Cg nw),.A1 (.lst (O.map AZ)),.un,.un,.un,.un,.un,.un,.un,.un,.un,.un,.un]=.ok (.int (cs.length:Int)):=by have:=TY (a:=J 1) (ρ:=[.A1 (.Cc (ns.map D.int)),.A1 (.lst (CC cs)),.A1 (.lst (ws.map Cd)),.A1 (Cg os),.A1 (Cg nw),.A1 (.lst (O.map AZ)),.un,.un,.un,.un,.un,.un,.un,.un,.un,.un,.un]) (xs:=CC cs) rfl;rw[show(CC cs).length=cs.length by simp[CC]]at this;exact this
  rw[Le,call2 rfl rfl ex,BV,Le,ln];rfl
 have PE:∀(b:Aq),AU (BN 7 (BS (FS 3 Tr (A2 (J 3) (A2 (J 4) (A2 (J 6) (AD))))))) b [.A1 (.Cc (ns.map D.int)),.A1 (.lst (CC cs)),.A1 (.lst (ws.map Cd)),.A1 (Cg os),.A1 (Cg nw),.A1 (.lst (O.map AZ)),.A1 (.lst (row.map CZ)),.un,.un,.un,.un,.un,.un,.un,.un,.un,.un]=b [.A1 (.Cc (ns.map D.int)),.A1 (.lst (CC cs)),.A1 (.lst (ws.map Cd)),.A1 (Cg os),.A1 (Cg nw),.A1 (.lst (O.map AZ)),.A1 (.lst (row.map CZ)),.A1 (.lst (D7 (row.length+1) (FF os nw row))),.un,.un,.un,.un,.un,.un,.un,.un,.un]:=λb=>aR (Q2 (cL _ _ _ _ _ _ rfl rfl uE) rfl);have PF:∀(b:Aq),AU (BN 8 (RN "Net" 2 Vf (A2 (J 1) (A2 (J 2) (AD))))) b [.A1 (.Cc (ns.map D.int)),.A1 (.lst (CC cs)),.A1 (.lst (ws.map Cd)),.A1 (Cg os),.A1 (Cg nw),.A1 (.lst (O.map AZ)),.A1 (.lst (row.map CZ)),.A1 (.lst (D7 (row.length+1) (FF os nw row))),.un,.un,.un,.un,.un,.un,.un,.un,.un]=b (Dg ns cs ws os nw row O .un .un .un .un .un .un .un .un):=λb=>by refine aR (Q2 (d:=Dd cs ws) ?_ rfl);simp[G4,Dd]
 have QX:∃r:Nat,r<=2/\Fh (A2 (A3 AR (BS (C1 (A2 (A5 (.int 2)) (A2 (A5 (.int 1)) (AD))))) (Bs Ls (A2 (A3 Od (Bs Q7 (A2 (J 1) (AD))) (A5 (.int 12))) (AD)))) (AD)) (Dg ns cs ws os nw row O .un .un .un .un .un .un .un .un)=.ok (G7 0 r):=by
  have UQ:Q7 [.lst (CC cs)]=.ok (.int zs.sum):=by simp only[Q7,Ar]
  have gt:Od (.int zs.sum) (.int 12)=.ok (.Aa (decide (12<zs.sum))):=rfl;have DZ:AR (.lst [.int 2,.int 1]) (.int 0)=.ok (.int 2):=rfl;have BZ:AR (.lst [.int 2,.int 1]) (.int 1)=.ok (.int 1):=rfl;by_cases h:12<zs.sum
  .refine⟨1,by decide,?_⟩;have t:Ls [.Aa (decide (12<zs.sum))]=.ok (.int 1):=by simp[Ls,h]
   simp[Dg,lim,UQ,gt,t,BZ];rfl
  .refine⟨2,by decide,?_⟩;have t:Ls [.Aa (decide (12<zs.sum))]=.ok (.int 0):=by simp[Ls,h]
   simp[Dg,lim,UQ,gt,t,DZ];rfl
 obtain⟨r,afo,QX⟩:=QX;apply Ends.done;rw[G3,Bi,AK,B4,DV,PE,PF,EC,SD];unfold mw;refine OY r (λ_ ρ=>∃s9 Cx CH HO Gm Es DO DP,ρ=Dg ns cs ws os nw row O s9 Cx CH HO Gm Es DO DP) QX ⟨.un,.un,.un,.un,.un,.un,.un,.un,rfl⟩ ?_ ?_
 .rintro j _ By ⟨s9,Cx,CH,HO,Gm,Es,DO,DP,rfl⟩;have Ki:BL 9 (.int (j:Int)) (Dg ns cs ws os nw row O s9 Cx CH HO Gm Es DO DP)=.ok (Dg ns cs ws os nw row O (.A1 (.int (j:Int))) Cx CH HO Gm Es DO DP):=rfl;rw[Ki,BV];exact zM Ef Fo bn AI J2 Rg AQ j (by lia) Cx CH HO Gm Es DO DP
 .rintro _ ⟨s9,Cx,CH,HO,Gm,Es,DO,DP,rfl⟩;rw[FH,zN Ef Fo bn AI J2 Rg];exact⟨_,rfl,rfl⟩
section
variable{P:Bu}{w:Bh}{K:AY}{mg:Str->Option A4}{base:BH}(T:i1 K mg)
include T
set_option maxHeartbeats 4000000
def Vz:EG P w K mg base "_law_cell_at" 2 1 Ib:=by
 have h:=En (P:=P) (w:=w) (mg:=mg) (base:=base) (k:=0) (m:=YZ) T.l7 abq;exact h λ_ _ _ _ _ _ _ AI _ _=>
 BB (EJ (r8 (A8 1) (FW T.FM (AE (A8 0) (Ac)))) (B_ (Dw (Bm (A8 0) (A8 1) Az))) (EP))
  (B_ (Dw (AV)))
def Ky:EG P w K mg base "_law_mixed" 2 1 EU:=by
 have h:=En (P:=P) (w:=w) (mg:=mg) (base:=base) (k:=0) (m:=c8) T.lC fC;exact h λ_ _ _ _ _ _ _ AI _ _=>
 BB (C_ 2 fC.Am (Bm (D5 (EI (AE (AV) (AE (AV) (AE (AV) (AE (AV) (AE (AV) (AE (AV) (AE (AV) (AE (AV) (Ac))))))))))) (E2 (A8 1) (AV)) Az))
  (BB (C_ 3 fC.Am (Bm (D5 (EI (AE (AV) (AE (AV) (AE (AV) (AE (AV) (AE (AV) (Ac)))))))) (E2 (A8 1) (AV)) Az))
  (B_ (Dw (GN (E2 (Ws (Ez (Ez (E2 (A8 0) (bE (AV) (AV))) (Ws (AV) (A8 1))) (AV)) (A8 2)) (A8 3)) (AV)))))
def y3:EG P w K mg base "_law_counts" 2 2 Tn:=by
 have h:=En (P:=P) (w:=w) (mg:=mg) (base:=base) (k:=1) (m:=c4) T.l8 UP;exact h λ_ _ _ _ _ _ _ AI _ _=>
 BB (C_ 2 UP.Am (D5 (EI (AE (AV) (AE (AV) (AE (AV) (AE (AV) (AE (AV) (AE (AV) (Ac))))))))))
  (BB (EJ (JA (A8 1)) (B_ (C_ 2 UP.Am (pz (D5 (EI (AE (AV) (Ac)))) (AV)))) (EP))
  (BB (EJ (II AI.units (E2 (A8 0) (AV)) (AV)) (BB (C_ 3 UP.Am (E2 (GN (A8 0) (AV)) (bE (AV) (AV))))
  (BB (C_ 4 UP.Am (Bm (A8 2) (E2 (A8 3) (AV)) Az))
  (B_ (UF (Jd 1 [4,3] (by rfl) (Ik T.HA (AE (Ez (AV) (E2 (A8 3) (AV))) (Ac))) (Jv 0 (hN:=of_decide_eq_true (by kernel_rfl))) (KA) (λ_ _ _ _ _ _ _=>Ez (AV) (E2 (E2 (GN (GN (A8 2) (AV)) (Bm (D5 (EI (AE (AV) (AE (AV) (AE (AV) (AE (AV) (AE (AV) (AE (AV) (Ac))))))))) (A8 0) Az)) (AV)) (A8 1)))))))) (EP))
  (BB (C_ 5 UP.Am (Ez (AV) (E2 (DR (Ky T) (AI.mono (by decide)) (AE (A8 0) (AE (AV) (Ac)))) (AV))))
  (B_ (UF (Jd 1 [0,2,5] (by rfl) (Ik T.HA (AE (A8 5) (Ac))) (Jv 0 (hN:=of_decide_eq_true (by kernel_rfl))) (KA) (λ_ _ _ _ _ _ _=>Ez (AV) (E2 (DR (Ky T) (AI.mono (by decide)) (AE (A8 1) (AE (Ez (AV) (A8 0)) (Ac)))) (Bm (A8 2) (SG (A8 3) (AV)) Az)))))))))
def nQ:EG P w K mg base "_law_doors" 1 1 Tp:=by
 have h:=En (P:=P) (w:=w) (mg:=mg) (base:=base) (k:=0) (m:=c5) T.l9 aM;exact h λ_ _ _ _ _ _ _ AI _ _=>
 BB (Ij 1 aM.Am (EI (Ac)))
  (BB (Hd GP (Ik T.HA (AE (FW T.FM (AE (A8 0) (Ac))) (Ac))) (Ex 2 aM.Am) (B_ (Ij 1 aM.Am (qv 1 (D5 (Jd 1 [2] (by rfl) (Ik T.HA (AE (Bm (A8 0) (A8 2) Az) (Ac))) (Jv 0 (hN:=of_decide_eq_true (by kernel_rfl))) (KA) (λ_ _ _ _ _ _ _=>FX (AE (A8 1) (AE (A8 0) (Ac))))))))))
  (B_ (UG 1)))
def yB:EG P w K mg base "_law_wires" 2 2 SR:=by
 have h:=En (P:=P) (w:=w) (mg:=mg) (base:=base) (k:=1) (m:=cE) T.lK KU;exact h λ_ _ _ _ _ _ _ AI _ _=>
 BB (Ij 2 KU.Am (Km (nQ T) (AI.mono (by decide)) (AE (A8 1) (Ac))))
  (BB (Ij 3 KU.Am (EI (Ac)))
  (BB (C_ 4 KU.Am (GN (E2 (GN (A8 0) (AV)) (bE (AV) (AV))) (AV)))
  (BB (C_ 5 KU.Am (Ez (AV) (E2 (DR (Ky T) (AI.mono (by decide)) (AE (A8 0) (AE (AV) (Ac)))) (AV))))
  (BB (EJ (II AI.units (E2 (A8 0) (AV)) (AV)) (BB (C_ 5 KU.Am (Ez (AV) (E2 (A8 4) (AV))))
  (B_ (C_ 4 KU.Am (GN (A8 4) (AV))))) (EP))
  (BB (C_ 6 KU.Am (AV))
  (BB (bI GP (UH (aej (FW T.FM (AE (A8 2) (Ac))) (Ez (A8 5) (AV)))) (BB (C_ 7 KU.Am (D5 (qU (EI (AE (DR (Ky T) (AI.mono (by decide)) (AE (A8 0) (AE (A8 6) (Ac)))) (AE (DR (Ky T) (AI.mono (by decide)) (AE (A8 0) (AE (Ez (A8 6) (AV)) (Ac)))) (Ac)))))))
  (BB (EJ (II AI.units (E2 (A8 0) (AV)) (AV)) (BB (C_ 7 KU.Am (D5 (qU (EI (AE (A8 4) (AE (GN (A8 4) (FW T.FM (AE (A8 2) (Ac)))) (Ac)))))))
  (B_ (C_ 4 KU.Am (aF (GN (GN (A8 4) (FW T.FM (AE (A8 2) (Ac)))) (SG (FW T.FM (AE (A8 2) (Ac))) (AV))))))) (EP))
  (BB (g4 8 KU.Am (fx 2 (aF (E2 (Bm (A8 7) (AV) Az) (FW T.FM (AE (A8 2) (Ac)))))))
  (BB (g4 9 KU.Am (fx 2 (aF (E2 (Bm (A8 7) (AV) Az) (FW T.FM (AE (A8 2) (Ac)))))))
  (BB (Nv 3 (FX (AE (A8 8) (AE (A8 9) (Ac)))))
  (B_ (C_ 6 KU.Am (Ez (A8 6) (AV))))))))))
  (B_ (UG 3))))))))
def y5:EG P w K mg base "_law_free_book" 2 1 SP:=by
 have h:=En (P:=P) (w:=w) (mg:=mg) (base:=base) (k:=0) (m:=c7) T.lB Mm;exact h λ_ _ _ _ _ _ _ AI _ _=>
 BB (Ij 2 Mm.Am (EI (Ac)))
  (BB (C_ 3 Mm.Am (E2 (A8 0) (AV)))
  (BB (C_ 0 Mm.Am (GN (A8 0) (AV)))
  (BB (C_ 4 Mm.Am (D5 (Uc (D5 (EI (AE (Hc) (Ac)))) (D5 (qx T.RU T.HA (AE (A8 1) (Ac)))))))
  (BB (Hd GP (Ik T.HA (AE (A8 3) (Ac))) (Ex 5 Mm.Am) (BB (C_ 6 Mm.Am (FJ))
  (BB (Hd GP (Ik T.HA (AE (AV) (Ac))) (Ex 7 Mm.Am) (BB (C_ 6 Mm.Am (Ez (A8 6) (Bm (FJ) (E2 (A8 0) (AV)) Az)))
  (B_ (C_ 0 Mm.Am (GN (A8 0) (AV))))))
  (BB (Nv 2 (FX (AE (A8 6) (AE (Bm (A8 4) (E2 (A8 0) (Ez (A8 1) (AV))) Az) (AE (Bm (A8 4) (E2 (GN (A8 0) (Ez (A8 1) (AV))) (Ez (A8 1) (AV))) Az) (Ac))))))
  (B_ (C_ 0 Mm.Am (GN (GN (A8 0) (Ez (A8 1) (AV))) (Ez (A8 1) (AV)))))))))
  (B_ (UG 2))))))
def y8:EG P w K mg base "_law_row" 3 2 P5:=by
 have h:=En (P:=P) (w:=w) (mg:=mg) (base:=base) (k:=1) (m:=cB) T.lG Nk;exact h λ_ _ _ _ _ _ _ AI _ _=>
 BB (C_ 3 Nk.Am (DR (Ky T) (AI.mono (by decide)) (AE (A8 0) (AE (A8 1) (Ac)))))
  (BB (C_ 4 Nk.Am (FJ))
  (BB (Hd GP (Ik T.HA (AE (AV) (Ac))) (Ex 5 Nk.Am) (BB (C_ 4 Nk.Am (Ez (A8 4) (Bm (D5 (EI (AE (FJ) (AE (FJ) (AE (FJ) (AE (FJ) (AE (FJ) (Ac)))))))) (E2 (A8 3) (AV)) Az)))
  (B_ (C_ 3 Nk.Am (GN (A8 3) (AV))))))
  (BB (C_ 6 Nk.Am (Hc))
  (BB (EJ (II AI.units (E2 (A8 3) (AV)) (AV)) (B_ (C_ 6 Nk.Am (E2 (GN (A8 3) (AV)) (A8 2)))) (EP))
  (BB (C_ 7 Nk.Am (E2 (GN (A8 3) (AV)) (A8 2)))
  (BB (EJ (II AI.units (E2 (GN (A8 3) (AV)) (AV)) (AV)) (B_ (C_ 7 Nk.Am (Hc))) (EP))
  (B_ (Dw (FX (AE (A8 4) (AE (A8 6) (AE (A8 7) (Ac)))))))))))))
def nP:EG P w K mg base "_law_books" 3 3 QJ:=by
 have h:=En (P:=P) (w:=w) (mg:=mg) (base:=base) (k:=2) (m:=c2) T.k4 Sh;exact h λ_ _ _ _ _ _ _ AI _ _=>
 BB (Ij 3 Sh.Am (EI (Ac)))
  (BB (Hd GP (Ik T.HA (AE (FW T.FM (AE (A8 1) (Ac))) (Ac))) (Ex 4 Sh.Am) (BB (C_ 5 Sh.Am (Ez (Ez (AV) (Ws (AV) (A8 4))) (A8 2)))
  (BB (EJ (Mb AI.units (A8 0) (D5 (EI (Ac)))) (B_ (C_ 5 Sh.Am (Bm (A8 0) (E2 (Ez (A8 4) (A8 2)) (FW T.FM (AE (A8 0) (Ac)))) Az))) (EP))
  (B_ (EJ (Jf (SI (Mb AI.units (A8 0) (D5 (EI (Ac)))) (SJ (II AI.units (E2 (A8 5) (AV)) (AV))))) (B_ (Nv 3 (D5 (Km (y5 T) (AI.mono (by decide)) (AE (E2 (GN (A8 5) (AV)) (bE (AV) (AV))) (AE (Bm (A8 1) (A8 4) Az) (Ac))))))) (BB (C_ 5 Sh.Am (Ez (A8 5) (Ws (AV) (A8 4))))
  (BB (C_ 6 Sh.Am (Bm (D5 (EI (AE (AV) (AE (AV) (AE (AV) (AE (AV) (AE (AV) (AE (AV) (AE (AV) (Ac)))))))))) (E2 (DR (Ky T) (AI.mono (by decide)) (AE (A8 5) (AE (AV) (Ac)))) (AV)) Az))
  (B_ (Nv 3 (D5 (Jd 1 [5,1,4,2] (by rfl) (Ik T.HA (AE (A8 6) (Ac))) (Jv 0 (hN:=of_decide_eq_true (by kernel_rfl))) (KA) (λ_ _ _ _ _ _ _=>DR (y8 T) (AI.mono (by decide)) (AE (A8 1) (AE (Ez (Ez (AV) (A8 4)) (Ws (AV) (A8 0))) (AE (Bm (A8 2) (A8 3) Az) (Ac))))))))))))))))
  (B_ (UG 3)))
def y2:EG P w K mg base "_law_both" 2 4 Tk:=by
 have h:=En (P:=P) (w:=w) (mg:=mg) (base:=base) (k:=3) (m:=c3) T.l6 aL;exact h λ_ _ _ _ _ _ _ AI _ _=>
 BB (C_ 2 aL.Am (D5 (Km (nP T) (AI.mono (by decide)) (AE (Ox (A8 0) (Je (AV)) (Je (AV))) (AE (A8 1) (AE (AV) (Ac)))))))
  (BB (Ij 3 aL.Am (Km (nP T) (AI.mono (by decide)) (AE (Ox (A8 0) (Je (AV)) (Je (AV))) (AE (A8 1) (AE (AV) (Ac))))))
  (BB (Hd GP (Ik T.HA (AE (FW T.FM (AE (A8 1) (Ac))) (Ac))) (Ex 4 aL.Am) (B_ (EJ (II AI.units (E2 (DR (Ky T) (AI.mono (by decide)) (AE (DR (Vz T) (AI.mono (by decide)) (AE (A8 0) (AE (AV) (Ac)))) (AE (A8 4) (Ac)))) (AV)) (AV)) (B_ (aef 3 (A8 4) (D5 (qw T.RU (AE (Bm (A8 2) (A8 4) Az) (Ac)))))) (EP))))
  (B_ (SH (FX (AE (A8 2) (AE (A8 3) (Ac))))))))
def y1:EG P w K mg base "_law_all" 1 5 Tj:=by
 have h:=En (P:=P) (w:=w) (mg:=mg) (base:=base) (k:=4) (m:=c0) T.jf UO;exact h λ_ _ _ _ _ _ _ AI _ _=>
 BB (C_ 1 UO.Am (DR (Vz T) (AI.mono (by decide)) (AE (A8 0) (AE (AV) (Ac)))))
  (BB (C_ 2 UO.Am (D5 (Km (y3 T) (AI.mono (by decide)) (AE (A8 1) (AE (px AI.units (E2 (DR (Ky T) (AI.mono (by decide)) (AE (DR (Vz T) (AI.mono (by decide)) (AE (A8 0) (AE (AV) (Ac)))) (AE (AV) (Ac)))) (AV)) (AV)) (Ac))))))
  (BB (C_ 3 UO.Am (D5 (Km (yB T) (AI.mono (by decide)) (AE (A8 1) (AE (A8 2) (Ac))))))
  (BB (g5 (DR (y2 T) (AI.mono (by decide)) (AE (A8 0) (AE (A8 2) (Ac)))) (SW rfl (Ic (Ex 4 UO.Am) (Ic (Ex 5 UO.Am) (SV)))))
  (B_ (Dw (FX (AE (A8 2) (AE (A8 3) (AE (A8 4) (AE (A8 5) (Ac)))))))))))
def nO:EG P w K mg base "_law_beyond" 2 1 Vk:=by
 have h:=En (P:=P) (w:=w) (mg:=mg) (base:=base) (k:=0) (m:=c1) T.jg fA;exact h λ_ _ _ _ _ _ _ AI _ _=>
 BB (Hd GP (Lf (A8 0)) (SW rfl (Ic (Ex 2 fA.Am) (Ic (Ex 3 fA.Am) (SV)))) (BB (EJ (II AI.units (A8 2) (A8 1)) (B_ (Dw (A8 3))) (EP))
  (B_ (EJ (II AI.units (A8 3) (A8 1)) (B_ (Dw (A8 2))) (EP)))))
  (B_ (Dw (Hc)))
def y6:EG P w K mg base "_law_outer" 2 2 Tq:=by
 have h:=En (P:=P) (w:=w) (mg:=mg) (base:=base) (k:=1) (m:=cA) T.lE abr;exact h λ_ _ _ _ _ _ _ AI _ _=>
 B_ (UF (Jd 1 [1] (by rfl) (Lf (D5 (Km (nQ T) (AI.mono (by decide)) (AE (A8 0) (Ac))))) (Jv 0 (hN:=of_decide_eq_true (by kernel_rfl))) (pw (λ_ _ _ _ _ _ _=>Oz (DR (nO T) (AI.mono (by decide)) (AE (A8 1) (AE (A8 0) (Ac)))) (Hc))) (λ_ _ _ _ _ _ _=>A8 0)))
def yA:EG P w K mg base "_law_some" 2 2 SQ:=by
 have h:=En (P:=P) (w:=w) (mg:=mg) (base:=base) (k:=1) (m:=cD) T.lI aO;exact h λ_ _ _ _ _ _ _ AI _ _=>
 BB (Ij 2 aO.Am (qx T.RU T.HA (AE (A8 1) (Ac))))
  (BB (Ij 3 aO.Am (EI (Ac)))
  (BB (Hd GP (Ik T.HA (AE (E2 (DR (Ky T) (AI.mono (by decide)) (AE (A8 0) (AE (AV) (Ac)))) (Ez (A8 1) (AV))) (Ac))) (Ex 4 aO.Am) (B_ (aed 3 (fx 2 (aF (E2 (DR (Ky T) (AI.mono (by decide)) (AE (A8 0) (AE (Ez (AV) (A8 4)) (Ac)))) (FW T.FM (AE (A8 2) (Ac)))))))))
  (B_ (UG 3))))
def y9:EG P w K mg base "_law_shelves" 3 1 Tr:=by
 have h:=En (P:=P) (w:=w) (mg:=mg) (base:=base) (k:=0) (m:=cC) T.lH fD;exact h λ_ _ _ _ _ _ _ AI _ _=>
 BB (Ij 3 fD.Am (EI (Ac)))
  (BB (Hd GP (Ik T.HA (AE (Ez (FW T.FM (AE (A8 2) (Ac))) (AV)) (Ac))) (Ex 4 fD.Am) (B_ (Nv 3 (D5 (Jd 1 [0,1,2,4] (by rfl) (Ik T.HA (AE (FW T.FM (AE (A8 0) (Ac))) (Ac))) (Jv 0 (hN:=of_decide_eq_true (by kernel_rfl))) (KA) (λ_ _ _ _ _ _ _=>Bm (Bm (D5 (EI (AE (A8 1) (AE (A8 2) (Ac))))) (q0 T.YX (AE (Wr AI.units (A8 0) (Ox (A8 3) (Ma) (Je (A8 4)))) (Ac))) Az) (A8 0) Az))))))
  (B_ (UG 3)))
def nN:EG P w K mg base "is_whole" 1 1 RQ:=by
 have h:=En (P:=P) (w:=w) (mg:=mg) (base:=base) (k:=0) (m:=ip) T.jc abo;exact h λ_ _ _ _ _ _ _ AI _ _=>
 B_ (Dw (Wq (Ub (acf _) T.RT T.YX (by kernel_rfl) (A8 0)) (Wt (afE (Ub (ace _) T.RT T.il (by kernel_rfl) (A8 0))))))
def ZN:EG P w K mg base "is_whole_within" 3 2 RR:=by
 have h:=En (P:=P) (w:=w) (mg:=mg) (base:=base) (k:=1) (m:=hk) T.jd abp;exact h λ_ _ _ _ _ _ _ AI _ _=>
 B_ (Dw (Wq (DR (nN T) (AI.mono (by decide)) (AE (A8 0) (Ac))) (Wt (af5 av av ao ao (A8 1) (A8 0) (A8 2)))))
def yb:EG P w K mg base "are_counts" 1 3 Th:=by
 have h:=En (P:=P) (w:=w) (mg:=mg) (base:=base) (k:=2) (m:=hb) T.k1 abi;exact h λ_ _ _ _ _ _ _ AI _ _=>
 BB (EJ (Jf (Qu (KY (JA (Ub (qu _) T.RT T.RU (by kernel_rfl) (A8 0)))) (Qv (KY (aeh av av ao ao (AV) (FW T.FM (AE (A8 0) (Ac))) (Ua T.TD)))))) (B_ (Dw (Nu))) (EP))
  (B_ (Dw (U_ AI T.RS (AE (D5 (Jd 1 [] (by rfl) (Lf (A8 0)) (Jv 0 (hN:=of_decide_eq_true (by kernel_rfl))) (KA) (λ_ _ _ _ _ _ _=>DR (ZN T) (AI.mono (by decide)) (AE (A8 0) (AE (AV) (AE (Ua T.TC) (Ac))))))) (Ac)))))
def nM:EG P w K mg base "is_pair" 1 1 Vj:=by
 have h:=En (P:=P) (w:=w) (mg:=mg) (base:=base) (k:=0) (m:=io) T.ja abm;exact h λ_ _ _ _ _ _ _ AI _ _=>
 B_ (Dw (Wq (Ub (ach _) T.RT T.Ye (by kernel_rfl) (A8 0)) (Wt (px AI.units (FW T.FM (AE (A8 0) (Ac))) (AV)))))
def nL:EG P w K mg base "is_door_among" 2 3 Vi:=by
 have h:=En (P:=P) (w:=w) (mg:=mg) (base:=base) (k:=2) (m:=hi) T.j_ abl;exact h λ_ _ _ _ _ _ _ AI _ _=>
 BB (EJ (Jf (Qu (KY (JA (DR (nM T) (AI.mono (by decide)) (AE (A8 1) (Ac))))) (Qv (KY (JA (DR (ZN T) (AI.mono (by decide)) (AE (Bm (A8 1) (AV) Az) (AE (AV) (AE (SG (FW T.FM (AE (A8 0) (Ac))) (AV)) (Ac)))))))))) (B_ (Dw (Nu))) (EP))
  (B_ (Dw (DR (ZN T) (AI.mono (by decide)) (AE (Bm (A8 1) (AV) Az) (AE (AV) (AE (SG (Bm (A8 0) (Bm (A8 1) (AV) Az) Az) (AV)) (Ac)))))))
def y0:EG P w K mg base "is_wire_among" 2 4 Zb:=by
 have h:=En (P:=P) (w:=w) (mg:=mg) (base:=base) (k:=3) (m:=iD) T.je pg;exact h λ_ _ _ _ _ _ _ AI _ _=>
 BB (EJ (KY (JA (DR (nM T) (AI.mono (by decide)) (AE (A8 1) (Ac))))) (B_ (Dw (Nu))) (EP))
  (BB (C_ 2 pg.Am (Wq (DR (nL T) (AI.mono (by decide)) (AE (A8 0) (AE (Bm (A8 1) (AV) Az) (Ac)))) (Wt (DR (nL T) (AI.mono (by decide)) (AE (A8 0) (AE (Bm (A8 1) (AV) Az) (Ac)))))))
  (B_ (Dw (Wq (A8 2) (Wt (afD AI.units (Bm (A8 1) (AV) Az) (Bm (A8 1) (AV) Az)))))))
def yc:EG P w K mg base "far_doors" 2 5 RP:=by
 have h:=En (P:=P) (w:=w) (mg:=mg) (base:=base) (k:=4) (m:=hc) T.k2 f9;exact h λ_ _ _ _ _ _ _ AI _ _=>
 BB (r5 2 f9.Am)
  (BB (Hd GP (rA (A8 1)) (Ex 3 f9.Am) (BB (EJ (KY (JA (DR (y0 T) (AI.mono (by decide)) (AE (A8 0) (AE (A8 3) (Ac)))))) (B_ (qz)) (EP))
  (BB (EJ (UH (Jf (Qu (r6 AI.units (Bm (A8 3) (AV) Az) (A8 2)) (Qv (r6 AI.units (Bm (A8 3) (AV) Az) (A8 2)))))) (B_ (qz)) (EP))
  (BB (r0 2 AI.units (Bm (A8 3) (AV) Az) (Bm (A8 3) (AV) Az))
  (B_ (r0 2 AI.units (Bm (A8 3) (AV) Az) (Bm (A8 3) (AV) Az)))))))
  (B_ (SH (A8 2))))
def yX:hs P w K mg base "Net" 2 6 Vf:=by
 have h:=afL (P:=P) (w:=w) (mg:=mg) (base:=base) (k:=5) (m:=Z6) T.ju acW;exact h λ_ _ _ _ _ _ _ AI _ _=>
 Wu (q4 (KY (JA (DR (yb T) (AI.mono (by decide)) (AE (A8 1) (Ac))))))
  (Wu (q4 (KY (JA (Ub (qu _) T.RT T.RU (by kernel_rfl) (A8 2)))))
  (Wu (bG T.Ql (FW T.FM (AE (A8 1) (Ac))))
  (Wu (bG T.Ql (q1 T.Ye (AE (A8 1) (Ac))))
  (Wu (bG T.Ql (q1 T.Ye (AE (A8 2) (Ac))))
  (afN (bG T.Ql (af3 (DR (yc T) (AI.mono (by decide)) (AE (KX T.Ql (A8 0)) (AE (KX T.Ql (A8 0)) (Ac)))))))))))
def nJ:Pr P w K mg base "Weaver" "behind" 1 1 NC:=by
 have h:=bF (P:=P) (w:=w) (mg:=mg) (base:=base) (k:=0) (m:=VU) T.jv pf;exact h λ_ _ _ _ _ _ _ AI _ _=>
 BB (C_ 2 pf.Am (fw AI.units (KX T.HK (A8 0)) (A8 1) (by intro _ _;rfl)))
  (BB (EJ (Jf (Qu (Mb AI.units (Bm (A8 2) (AV) Az) (FJ)) (Qv (II AI.units (Bm (A8 2) (AV) Az) (KX T.HK (A8 0)))))) (B_ (Dw (Hc))) (EP))
  (B_ (Dw (FX (AE (FX (AE (Bm (A8 2) (AV) Az) (AE (Bm (A8 2) (AV) Az) (Ac)))) (AE (Bm (A8 1) (AV) Az) (Ac)))))))
def y_:Pr P w K mg base "Weaver" "round_from" 1 2 Tg:=by
 have h:=bF (P:=P) (w:=w) (mg:=mg) (base:=base) (k:=1) (m:=YV) T.jz aK;exact h λ_ _ _ _ _ _ _ AI _ _=>
 BB (Ij 2 aK.Am (EI (AE (A8 1) (Ac))))
  (BB (C_ 3 aK.Am (bC (nJ T) (AI.mono (by decide)) (A8 0) (AE (A8 1) (Ac))))
  (BB (bI GP (UH (Jf (SI (aek (A8 3) (Hc)) (SJ (r9 AI.units (A8 3) (A8 2)))))) (BB (Nv 2 (A8 3))
  (B_ (C_ 3 aK.Am (bC (nJ T) (AI.mono (by decide)) (A8 0) (AE (A8 3) (Ac)))))))
  (B_ (r3 2 (Dw (ah (II AI.units (A8 3) (A8 1)) (A8 2) (D5 (EI (Ac)))))))))
def yZ:Pr P w K mg base "Weaver" "met" 0 3 ZZ:=by
 have h:=bF (P:=P) (w:=w) (mg:=mg) (base:=base) (k:=2) (m:=Z8) T.jy XD;exact h λ_ _ _ _ _ _ _ AI _ _=>
 BB (r5 1 XD.Am)
  (BB (Hd GP (aem (KX T.HK (A8 0))) (SW rfl (Ic (Ex 2 XD.Am) (Ic (Ex 3 XD.Am) (SV)))) (BB (g0 1 AI.units (q2 (FX (AE (FJ) (AE (Bm (Bm (A8 2) (AV) Az) (AV) Az) (Ac))))) (A8 3))
  (BB (EJ (Mb AI.units (Bm (fw AI.units (KX T.HK (A8 0)) (A8 2) (by intro _ _;rfl)) (AV) Az) (FJ)) (B_ (g0 1 AI.units (q2 (fw AI.units (KX T.HK (A8 0)) (A8 2) (by intro _ _;rfl))) (A8 3))) (EP))
  (BB (C_ 4 XD.Am (bC (y_ T) (AI.mono (by decide)) (A8 0) (AE (A8 2) (Ac))))
  (B_ (EJ (Mb AI.units (A8 4) (D5 (EI (Ac)))) (B_ (g0 1 AI.units (afM T.Yg) (D5 (Uc (Ox (A8 3) (Ma) (Je (bD (AV)))) (pz (D5 (EI (AE (Bm (A8 2) (AV) Az) (Ac)))) (FW T.FM (AE (A8 4) (Ac)))))))) (EP)))))))
  (B_ (SH (A8 1))))
def nK:YK P w K mg base "Weaver" "entered" 2 1 QI:=by
 have h:=q3 (P:=P) (w:=w) (mg:=mg) (base:=base) (k:=0) (m:=Z7) T.jw aJ;exact h λ_ _ _ _ _ _ _ AI _ _ _=>
 BB (EJ (UH (II AI.units (Bm (A8 1) (AV) Az) (KX T.HK (A8 0)))) (B_ (r4 (D5 (EI (Ac))))) (EP))
  (BB (C_ 3 aJ.Am (ah (Mb AI.units (A8 2) (D5 (EI (Ac)))) (Bm (A8 2) (bD (AV)) Az) (AV)))
  (BB (aeg (aee 4 1 [1,0] aJ.Am (by rfl) (aen T.HA (AE (A8 3) (AE (FW T.FM (AE (KX T.HK (A8 0)) (Ac))) (Ac)))) (Jv 0 (hN:=of_decide_eq_true (by kernel_rfl))) (pw (λ_ _ _ _ _ _ _=>aei AI.units (FX (AE (A8 1) (AE (A8 0) (Ac)))) (KX T.HK (A8 2)))) (λ_ _ _ _ _ _ _=>FX (AE (A8 1) (AE (A8 0) (Ac))))))
  (BB (Hd GP (Lf (A8 4)) (Ex 5 aJ.Am) (B_ (qy 0 T.HK AI.units (A8 5) (D5 (Uc (A8 2) (D5 (EI (AE (Bm (A8 5) (AV) Az) (Ac)))))))))
  (B_ (r4 (A8 4))))))
def xz:EG P w K mg base "is_pattern" 1 1 Za:=by
 have h:=En (P:=P) (w:=w) (mg:=mg) (base:=base) (k:=0) (m:=hj) T.jb abn;exact h λ_ _ _ _ _ _ _ AI _ _=>
 BB (EJ (Jf (Qu (KY (JA (Ub (acg _) T.RT T.cH (by kernel_rfl) (A8 0)))) (Qv (Mb AI.units (FW T.FM (AE (A8 0) (Ac))) (FW T.FM (AE (Ua T.Pi) (Ac))))))) (B_ (Dw (Nu))) (EP))
  (B_ (Dw (U_ AI T.RS (AE (D5 (Jd 1 [] (by rfl) (aeo (A8 0)) (Jv 0 (hN:=of_decide_eq_true (by kernel_rfl))) (KA) (λ_ _ _ _ _ _ _=>Wr AI.units (A8 0) (Ua T.TF)))) (Ac)))))
def xy:EG P w K mg base "is_address" 1 3 Z_:=by
 have h:=En (P:=P) (w:=w) (mg:=mg) (base:=base) (k:=2) (m:=hh) T.jZ abk;exact h λ_ _ _ _ _ _ _ AI _ _=>
 B_ (Dw (DR (ZN T) (AI.mono (by decide)) (AE (A8 0) (AE (AV) (AE (Ua T.TB) (Ac))))))
def xx:EG P w K mg base "fits" 2 4 Ti:=by
 have h:=En (P:=P) (w:=w) (mg:=mg) (base:=base) (k:=3) (m:=hg) T.k3 abj;exact h λ_ _ _ _ _ _ _ AI _ _=>
 BB (EJ (Jf (Qu (KY (JA (DR (xz T) (AI.mono (by decide)) (AE (A8 0) (Ac))))) (Qv (KY (JA (DR (xy T) (AI.mono (by decide)) (AE (A8 1) (Ac)))))))) (B_ (Dw (Nu))) (EP))
  (B_ (Dw (U_ AI T.RS (AE (D5 (Jd 2 [1] (by rfl) (aep T.iu (AE (A8 0) (AE (Ua T.Pi) (Ac)))) (tT 0 1 (hN:=of_decide_eq_true (by kernel_rfl))) (KA) (λ_ _ _ _ _ _ _=>Wr AI.units (A8 0) (FX (AE (FJ) (AE (afG T.cH (AE (E2 (GN (A8 2) (A8 1)) (AV)) (Ac))) (Ac))))))) (Ac)))))
def yG:EG P w K mg base "taken" 3 5 Zd:=by
 have h:=En (P:=P) (w:=w) (mg:=mg) (base:=base) (k:=4) (m:=cI) T.lS fE;exact h λ_ _ _ _ _ _ _ AI _ _=>
 BB (Hd GP (ael T.im (AE (A8 0) (Ac))) (SW rfl (Ic (Ex 3 fE.Am) (Ic (Ex 4 fE.Am) (SV)))) (B_ (EJ (Jf (SI (Jf (Qu (Oz (Bm (A8 4) (AV) Az) (Hc)) (Qv (II AI.units (Bm (A8 4) (AV) Az) (A8 1))))) (SJ (JA (DR (xx T) (AI.mono (by decide)) (AE (Bm (A8 4) (AV) Az) (AE (A8 2) (Ac)))))))) (B_ (Dw (A8 3))) (EP))))
  (B_ (Dw (Hc)))
def yW:Pr P w K mg base "Net" "beyond" 1 1 Ve:=by
 have h:=bF (P:=P) (w:=w) (mg:=mg) (base:=base) (k:=0) (m:=ha) T.jt acV;exact h λ_ _ _ _ _ _ _ AI _ _=>
 B_ (Dw (af6 AI.units (KX T.Ql (A8 0)) (A8 1)))
def yE:EG P w K mg base "onward" 4 6 P7:=by
 have h:=En (P:=P) (w:=w) (mg:=mg) (base:=base) (k:=5) (m:=TA) T.lP aP;exact h λ_ _ _ _ _ _ _ AI _ _=>
 BB (C_ 4 aP.Am (DR (yG T) (AI.mono (by decide)) (AE (A8 1) (AE (Bm (A8 2) (AV) Az) (AE (A8 3) (Ac))))))
  (BB (C_ 5 aP.Am (ah (Oz (A8 4) (Hc)) (Hc) (Bm (Bm (A8 1) (A8 4) Az) (AV) Az)))
  (BB (EJ (Oz (A8 5) (Hc)) (B_ (Dw (FX (AE (FJ) (AE (Bm (A8 2) (AV) Az) (Ac)))))) (EP))
  (BB (C_ 6 aP.Am (bC (yW T) (AI.mono (by decide)) (A8 0) (AE (FX (AE (Bm (A8 2) (AV) Az) (AE (A8 5) (Ac)))) (Ac))))
  (BB (EJ (Oz (A8 6) (Hc)) (B_ (Dw (FX (AE (FJ) (AE (Bm (A8 2) (AV) Az) (AE (A8 5) (Ac))))))) (EP))
  (B_ (Dw (FX (AE (FJ) (AE (Bm (A8 6) (AV) Az) (AE (Bm (A8 6) (AV) Az) (Ac)))))))))))
def ya:YK P w K mg base "Weaver" "weave" 1 7 Vh:=by
 have h:=q3 (P:=P) (w:=w) (mg:=mg) (base:=base) (k:=6) (m:=YW) T.k0 UN;exact h λ_ _ _ _ _ _ _ AI _ _ _=>
 BB (g4 2 UN.Am (fz 0 (nK T) (AI.mono (by decide)) (AE (A8 1) (AE (D5 (EI (Ac))) (Ac)))))
  (B_ (bI GP (Mb AI.units (A8 2) (D5 (EI (Ac)))) (BB (Ij 3 UN.Am (EI (Ac)))
  (BB (Hd GP (Lf (A8 2)) (Ex 4 UN.Am) (BB (C_ 5 UN.Am (fv (DR (yE T) (AI.mono (by decide)) (AE (KX T.HK (A8 0)) (AE (Bm (Bm (KX T.HK (A8 0)) (Bm (A8 4) (AV) Az) Az) (Bm (Bm (A8 4) (AV) Az) (AV) Az) Az) (AE (Bm (A8 4) (AV) Az) (AE (KX T.HK (A8 0)) (Ac))))))))
  (BB (qy 0 T.HK AI.units (A8 4) (A8 5))
  (B_ (EJ (II AI.units (Bm (A8 5) (AV) Az) (FJ)) (B_ (r1 (afI 3 (fz 0 (nK T) (AI.mono (by decide)) (AE (FX (AE (Bm (A8 5) (AV) Az) (AE (Bm (A8 5) (AV) Az) (Ac)))) (AE (af2 0 T.HK AI.units (A8 4) (by intro _ _;rfl)) (Ac))))))) (EP))))))
  (B_ (r3 3 (C_ 2 UN.Am (A8 3))))))))
def yY:ht P w K mg base "Weaver" 5 8 Vg:=by
 have h:=afK (P:=P) (w:=w) (mg:=mg) (base:=base) (k:=7) (m:=VV) T.jx acX;exact h λ_ _ _ _ _ _ _ AI _ _ _=>
 BB (bH T.HK (A8 1))
  (BB (bH T.HK (A8 2))
  (BB (bH T.HK (A8 4))
  (BB (bH T.HK (A8 5))
  (BB (r2 T.HK)
  (BB (r2 T.HK)
  (B_ (r1 (fz 0 (ya T) (AI.mono (by decide)) (AE (A8 3) (Ac))))))))))
def yD:EG P w K mg base "mixed" 3 1 Zc:=by
 have h:=En (P:=P) (w:=w) (mg:=mg) (base:=base) (k:=0) (m:=cF) T.lO abw;exact h λ_ _ _ _ _ _ _ AI _ _=>
 B_ (UF (Jd 1 [2,1,0] (by rfl) (Ik T.HA (AE (FW T.FM (AE (A8 0) (Ac))) (Ac))) (Jv 0 (hN:=of_decide_eq_true (by kernel_rfl))) (KA) (λ_ _ _ _ _ _ _=>D5 (qw T.RU (AE (ah (r7 AI.units (A8 0) (A8 1)) (Bm (A8 2) (A8 0) Az) (Bm (A8 3) (A8 0) Az)) (Ac))))))
def yF:EG P w K mg base "stages_of" 3 2 Wv:=by
 have h:=En (P:=P) (w:=w) (mg:=mg) (base:=base) (k:=1) (m:=cG) T.lR abx;exact h λ_ _ _ _ _ _ _ AI _ _=>
 B_ (UF (Jd 1 [0,1,2] (by rfl) (Ik T.HA (AE (Ez (FW T.FM (AE (A8 2) (Ac))) (AV)) (Ac))) (Jv 0 (hN:=of_decide_eq_true (by kernel_rfl))) (KA) (λ_ _ _ _ _ _ _=>D5 (Km (yD T) (AI.mono (by decide)) (AE (A8 1) (AE (A8 2) (AE (Ox (A8 3) (Ma) (Je (A8 0))) (Ac))))))))
def nT:EG P w K mg base "met_with_leadings" 6 10 ND:=by
 have h:=En (P:=P) (w:=w) (mg:=mg) (base:=base) (k:=9) (m:=Yd) T.lN abv;exact h λ_ _ _ _ _ _ _ AI _ _=>
 B_ (Dw (afC (yZ T) (AI.mono (by decide)) (afB (yY T) (AI.mono (by decide)) (AE (A8 0) (AE (D5 (Km (yF T) (AI.mono (by decide)) (AE (A8 1) (AE (A8 2) (AE (A8 3) (Ac)))))) (AE (A8 4) (AE (A8 5) (AE (Hc) (Ac)))))))))
def yC:EG P w K mg base "meets" 6 11 WC:=by
 have h:=En (P:=P) (w:=w) (mg:=mg) (base:=base) (k:=10) (m:=Yc) T.lM abu;exact h λ_ _ _ _ _ _ _ AI _ _=>
 B_ (UF (afO AI.hd T.iq (AE (DR (nT T) (AI.mono (by decide)) (AE (A8 0) (AE (A8 1) (AE (A8 2) (AE (A8 3) (AE (A8 4) (AE (A8 5) (Ac)))))))) (Ac))))
def nS:EG P w K mg base "leading" 7 11 Ts:=by
 have h:=En (P:=P) (w:=w) (mg:=mg) (base:=base) (k:=10) (m:=Yb) T.lL abt;exact h λ_ _ _ _ _ _ _ AI _ _=>
 BB (EJ (KY (JA (U_ AI T.RS (AE (D5 (Jd 1 [] (by rfl) (rA (afF (A8 6) (Je (AV)) (Ma))) (Jv 0 (hN:=of_decide_eq_true (by kernel_rfl))) (KA) (λ_ _ _ _ _ _ _=>DR (nN T) (AI.mono (by decide)) (AE (A8 0) (Ac))))) (Ac))))) (B_ (Dw (Hc))) (EP))
  (B_ (Dw (af7 AI.units (DR (nT T) (AI.mono (by decide)) (AE (A8 0) (AE (A8 1) (AE (A8 2) (AE (A8 3) (AE (A8 4) (AE (A8 5) (Ac)))))))) (A8 6))))
def y4:EG P w K mg base "_law_fits" 2 1 Vl:=by
 have h:=En (P:=P) (w:=w) (mg:=mg) (base:=base) (k:=0) (m:=c6) T.lA fB;exact h λ_ _ _ _ _ _ _ AI _ _=>
 BB (Hd GP (Ik T.HA (AE (AV) (Ac))) (Ex 2 fB.Am) (BB (C_ 3 fB.Am (E2 (GN (A8 1) (Bm (D5 (EI (AE (AV) (AE (AV) (AE (AV) (AE (AV) (Ac))))))) (A8 2) Az)) (AV)))
  (B_ (EJ (Jf (SI (Mb AI.units (Bm (A8 0) (A8 2) Az) (FJ)) (SJ (Mb AI.units (Bm (A8 0) (A8 2) Az) (Bm (FJ) (A8 3) Az))))) (B_ (Dw (Nu))) (EP)))))
  (B_ (Dw (Nu)))
def cX:EG P w K mg base "_law_next" 4 2 Lo:=by
 have h:=En (P:=P) (w:=w) (mg:=mg) (base:=base) (k:=1) (m:=c9) T.lD XE;exact h λ_ _ _ _ _ _ _ AI _ _=>
 BB (Hd GP (Lf (A8 1)) (SW rfl (Ic (Ex 4 XE.Am) (Ic (Ex 5 XE.Am) (Ic (Ex 6 XE.Am) (SV))))) (B_ (EJ (Jf (SI (JA (DR (y4 T) (AI.mono (by decide)) (AE (A8 4) (AE (A8 3) (Ac))))) (SJ (Jf (Qu (Oz (A8 5) (Hc)) (Qv (II AI.units (A8 5) (Bm (A8 2) (AV) Az)))))))) (BB (EJ (Oz (A8 6) (Hc)) (B_ (Dw (FX (AE (FJ) (AE (Bm (A8 2) (AV) Az) (Ac)))))) (EP))
  (BB (C_ 7 XE.Am (DR (nO T) (AI.mono (by decide)) (AE (A8 0) (AE (FX (AE (Bm (A8 2) (AV) Az) (AE (A8 6) (Ac)))) (Ac)))))
  (BB (EJ (Oz (A8 7) (Hc)) (B_ (Dw (FX (AE (FJ) (AE (Bm (A8 2) (AV) Az) (AE (A8 6) (Ac))))))) (EP))
  (B_ (Dw (af4 (FX (AE (FJ) (Ac))) (A8 7))))))) (EP))))
  (B_ (Dw (FX (AE (FJ) (AE (Bm (A8 2) (AV) Az) (Ac))))))
def y7:EG P w K mg base "_law_road" 4 3 QK:=by
 have h:=En (P:=P) (w:=w) (mg:=mg) (base:=base) (k:=2) (m:=Y_) T.lF aN;exact h λ_ _ _ _ _ _ _ AI _ _=>
 BB (Ij 4 aN.Am (EI (AE (A8 2) (Ac))))
  (BB (C_ 5 aN.Am (fv (DR (cX T) (AI.mono (by decide)) (AE (A8 0) (AE (Bm (A8 1) (Bm (A8 2) (AV) Az) Az) (AE (A8 2) (AE (A8 3) (Ac))))))))
  (BB (bI GP (UH (Jf (SI (II AI.units (Bm (A8 5) (AV) Az) (FJ)) (SJ (r9 AI.units (fy (A8 5) (Je (AV)) (Ma)) (A8 4)))))) (BB (Nv 4 (fy (A8 5) (Je (AV)) (Ma)))
  (B_ (C_ 5 aN.Am (fv (DR (cX T) (AI.mono (by decide)) (AE (A8 0) (AE (Bm (A8 1) (Bm (Bm (A8 4) (bD (AV)) Az) (AV) Az) Az) (AE (Bm (A8 4) (bD (AV)) Az) (AE (A8 3) (Ac)))))))))))
  (B_ (SH (FX (AE (A8 4) (AE (A8 5) (Ac))))))))
def nR:EG P w K mg base "_law_walked" 5 4 P6:=by
 have h:=En (P:=P) (w:=w) (mg:=mg) (base:=base) (k:=3) (m:=Ya) T.lJ LA;exact h λ_ _ _ _ _ _ _ AI _ _=>
 BB (Ij 5 LA.Am (EI (AE (FX (AE (FJ) (AE (Bm (A8 2) (AV) Az) (Ac)))) (Ac))))
  (BB (C_ 6 LA.Am (AV))
  (BB (Ij 7 LA.Am (EI (AE (A8 2) (Ac))))
  (BB (Hd GP (Lf (A8 4)) (Ex 8 LA.Am) (BB (C_ 9 LA.Am (DR (Ky T) (AI.mono (by decide)) (AE (A8 8) (AE (AV) (Ac)))))
  (BB (EJ (Jf (SI (II AI.units (E2 (A8 9) (AV)) (AV)) (SJ (r8 (A8 6) (SG (FW T.FM (AE (A8 1) (Ac))) (AV)))))) (BB (C_ 6 LA.Am (Ez (Ez (A8 6) (AV)) (E2 (GN (A8 9) (AV)) (SG (SG (FW T.FM (AE (A8 1) (Ac))) (AV)) (A8 6)))))
  (B_ (Ij 7 LA.Am (EI (AE (A8 2) (Ac)))))) (EP))
  (BB (C_ 10 LA.Am (DR (cX T) (AI.mono (by decide)) (AE (A8 0) (AE (Bm (Bm (A8 1) (A8 6) Az) (Bm (A8 2) (AV) Az) Az) (AE (A8 2) (AE (A8 3) (Ac)))))))
  (BB (EJ (Mb AI.units (Bm (A8 10) (AV) Az) (FJ)) (B_ (SH (D5 (Uc (A8 5) (D5 (EI (AE (A8 10) (Ac)))))))) (EP))
  (BB (C_ 2 LA.Am (fy (A8 10) (Je (AV)) (Ma)))
  (BB (Nv 5 (FX (AE (FJ) (AE (Bm (A8 2) (AV) Az) (Ac)))))
  (BB (EJ (UH (r7 AI.units (A8 2) (A8 7))) (B_ (Nv 5 (FX (AE (FJ) (Ac))))) (EP))
  (B_ (Nv 7 (A8 2)))))))))))
  (BB (g5 (DR (y7 T) (AI.mono (by decide)) (AE (A8 0) (AE (Bm (A8 1) (A8 6) Az) (AE (A8 2) (AE (A8 3) (Ac)))))) (SW rfl (Ic (Ex 11 LA.Am) (Ic (Ex 10 LA.Am) (SV)))))
  (BB (Ij 5 LA.Am (qv 5 (D5 (Jd 1 [] (by rfl) (Lf (A8 11)) (Jv 0 (hN:=of_decide_eq_true (by kernel_rfl))) (KA) (λ_ _ _ _ _ _ _=>FX (AE (FJ) (AE (Bm (A8 0) (AV) Az) (Ac))))))))
  (BB (EJ (II AI.units (Bm (A8 10) (AV) Az) (FJ)) (B_ (SH (D5 (Uc (A8 5) (D5 (EI (AE (FX (AE (FJ) (Ac))) (Ac)))))))) (EP))
  (B_ (SH (D5 (Uc (A8 5) (D5 (EI (AE (A8 10) (Ac))))))))))))))
def tZ(f:A7)(CA:A4)(A:CG)(outer:List Env)(s:AP)(H:AA)(E:DL)(AI:Dy 11 (A.deeper (Mw "law" (Bx Q0) s.heap.objs.size f CA)))(G0 H0:AA):Ju (Iy Gb P w K mg base ["_law_script","_law_counts_here","_law_wires_here","_law_old","_law_new","_law_outer_here","_law_some_here","_law_shelves_here","_law_net","_law_k","_law_number","_law_door","_law_address","_law_told","_law_cells","_law_cell","_law_thing"] "law" (Bx Q0) f CA A outer s H E).KP (Gk K G0 H0) (GU Q0) YY:=
 BB (g5 (DR (y1 T) (AI.mono (by decide)) (AE (A8 0) (Ac))) (SW rfl (Ic (Ex 1 Ig.Am) (Ic (Ex 2 Ig.Am) (Ic (Ex 3 Ig.Am) (Ic (Ex 4 Ig.Am) (SV)))))))
  (BB (C_ 5 Ig.Am (D5 (Km (y6 T) (AI.mono (by decide)) (AE (A8 1) (AE (A8 2) (Ac))))))
  (BB (C_ 6 Ig.Am (D5 (Km (yA T) (AI.mono (by decide)) (AE (DR (Vz T) (AI.mono (by decide)) (AE (A8 0) (AE (AV) (Ac)))) (AE (FW T.FM (AE (A8 1) (Ac))) (Ac))))))
  (BB (C_ 7 Ig.Am (D5 (Km (y9 T) (AI.mono (by decide)) (AE (A8 3) (AE (A8 4) (AE (A8 6) (Ac)))))))
  (BB (C_ 8 Ig.Am (afA (yX T) (AI.mono (by decide)) (AE (A8 1) (AE (A8 2) (Ac)))))
  (BB (Hd GP (Ik T.HA (AE (Bm (D5 (EI (AE (AV) (AE (AV) (Ac))))) (q0 T.YX (AE (af8 (afH AI T.ir (AE (A8 1) (Ac))) (AV)) (Ac))) Az) (Ac))) (Ex 9 Ig.Am) (BB (C_ 10 Ig.Am (DR (Ky T) (AI.mono (by decide)) (AE (DR (Vz T) (AI.mono (by decide)) (AE (A8 0) (AE (Ez (AV) (A8 9)) (Ac)))) (AE (AV) (Ac)))))
  (BB (C_ 11 Ig.Am (Bm (A8 5) (E2 (A8 10) (FW T.FM (AE (A8 5) (Ac)))) Az))
  (BB (C_ 12 Ig.Am (E2 (GN (A8 10) (AV)) (AV)))
  (BB (C_ 13 Ig.Am (D5 (Km (yC T) (AI.mono (by decide)) (AE (A8 8) (AE (A8 3) (AE (A8 4) (AE (A8 6) (AE (A8 11) (AE (A8 12) (Ac))))))))))
  (BB (C_ 14 Ig.Am (Ox (A8 0) (Je (Ez (AV) (A8 9))) (Ma)))
  (BB (EJ (KY (JA (U_ AI T.RS (AE (D5 (Jd 1 [13] (by rfl) (Lf (DR (nR T) (AI.mono (by decide)) (AE (A8 2) (AE (A8 7) (AE (A8 11) (AE (A8 12) (AE (A8 14) (Ac)))))))) (Jv 0 (hN:=of_decide_eq_true (by kernel_rfl))) (KA) (λ_ _ _ _ _ _ _=>Wr AI.units (A8 0) (A8 1)))) (Ac))))) (B_ (Dw (Nu))) (EP))
  (BB (Hd GP (Lf (Ox (A8 14) (Ma) (Je (AV)))) (Ex 15 Ig.Am) (B_ (EJ (KY (JA (U_ AI T.RS (AE (D5 (Jd 1 [13] (by rfl) (Lf (DR (nR T) (AI.mono (by decide)) (AE (A8 2) (AE (A8 7) (AE (A8 11) (AE (A8 12) (AE (D5 (EI (AE (A8 15) (Ac)))) (Ac)))))))) (Jv 0 (hN:=of_decide_eq_true (by kernel_rfl))) (KA) (λ_ _ _ _ _ _ _=>Wr AI.units (A8 0) (A8 1)))) (Ac))))) (B_ (Dw (Nu))) (EP))))
  (B_ (Hd GP (Lf (Ox (Ox (A8 13) (Je (E2 (GN (A8 10) (AV)) (FW T.FM (AE (A8 13) (Ac))))) (Ma)) (Ma) (Je (AV)))) (Ex 16 Ig.Am) (B_ (EJ (Oz (DR (nS T) (AI.mono (by decide)) (AE (A8 8) (AE (A8 3) (AE (A8 4) (AE (A8 6) (AE (A8 11) (AE (A8 12) (AE (A8 16) (Ac))))))))) (Hc)) (B_ (Dw (Nu))) (EP)))))))))))))
  (B_ (Dw (af9 (DR (nS T) (AI.mono (by decide)) (AE (A8 8) (AE (A8 3) (AE (A8 4) (AE (A8 6) (AE (Bm (A8 5) (AV) Az) (AE (AV) (AE (FX (AE (FJ) (AE (AV) (Ac)))) (Ac))))))))) (Hc)))))))))
end
end DW
namespace DW
open PySem PySem.Spec C2 Cm
def afJ{P:Bu}{w:Bh}{K:AY}{mg:Str->Option A4}{base:BH}{x:Str}{st:BW}{N Ap:List Str}{k:Nat}{m:Aq}{f:A7}{fd:GD}(fn:MD K x x st f fd)(S:D2 N Ap (Bx st))(h:∀(f:A7)(CA:A4)(A:CG)(outer:List PySem.Env)(s:AP)(H:AA)(E:DL),Dy k (A.deeper (Mw x (Bx st) s.heap.objs.size f CA))->∀G0 H0,Ju (Iy Gb P w K mg base N x (Bx st) f CA A outer s H E).KP (Gk K G0 H0) (GU st) m) :
  Gd P w K mg base Gb (k+1) f fd Ap (Mn K Ap.length (Dh N.length m)):=fn.ok S eb λCA A outer s H vs Q E AI AN=>by
 obtain⟨G,Av⟩:=cK AN;exact⟨_,(h f CA A outer s H E AI G H).1,Av⟩
structure EK(K:AY)(x:Str)(st:BW):Prop where
 ex:∃(f:A7)(Du an:Option A7)(Bz:Array (Option A4))(Fi D9 LO pm cd DB:A4),Fg K E4 x=some (some (.ref f))/\K.lookup f=some ⟨Fi,Du,.func (JI x x (Kn st) (GU st) (Bx st) .none D9 LO pm an cd DB),Bz⟩/\PS K cd x=true/\K3 K (.ref f)=true
def Eb{K:AY}{x:Str}{st:BW}{f:A7}{Du an:Option A7}{Bz:Array (Option A4)}{Fi D9 LO pm cd DB:A4}(a:Fg K E4 x=some (some (.ref f)))(l:K.lookup f=some ⟨Fi,Du,.func (JI x x (Kn st) (GU st) (Bx st) .none D9 LO pm an cd DB),Bz⟩)(c:PS K cd x=true)(k:K3 K (.ref f)=true):EK K x st:=⟨f,Du,an,Bz,Fi,D9,LO,pm,cd,DB,a,l,c,k⟩
def aeS{P:List A4->Prop}(h:P []):∀us:List A4,us.length=0->P us
 |[],_=>h
def SC{P:List A4->Prop}{n:Nat}(h:∀a us,us.length=n->P (a::us)):∀us:List A4,us.length=n+1->P us
 |a::us,e=>h a us (Nat.succ.inj e)
def gN{P:List A4->Prop}(h:∀a,P [a]):∀us:List A4,us.length=1->P us:=SC λa=>aeS (h a)
def UX{P:List A4->Prop}(h:∀a b,P [a,b]):∀us:List A4,us.length=2->P us:=SC λa=>gN (h a)
def aB{P:List A4->Prop}(h:∀a b c,P [a,b,c]):∀us:List A4,us.length=3->P us:=SC λa=>UX (h a)
def qA{P:List A4->Prop}(h:∀a b c d,P [a,b,c,d]):∀us:List A4,us.length=4->P us:=SC λa=>aB (h a)
def qB{P:List A4->Prop}(h:∀a b c d f,P [a,b,c,d,f]):∀us:List A4,us.length=5->P us:=SC λa=>qA (h a)
def gO{P:List A4->Prop}(h:∀a b c d f g,P [a,b,c,d,f,g]):∀us:List A4,us.length=6->P us:=SC λa=>qB (h a)
def aeT{P:List A4->Prop}(h:∀a b c d f g i,P [a,b,c,d,f,g,i]):∀us:List A4,us.length=7->P us:=SC λa=>gO (h a)
def Ea{K:AY}{h:BH}{mg:Str->Option A4}{x:Str}{st:BW}{Ap:List Str}(X:K.In h)(G:h.Ns E4 mg)(F:EK K x st)(b:∀(D9 doc pm:A4)(an:Option A7)(CA DB:A4)(us:List A4),us.length=Ap.length->T4 (JI x x (Kn st) (GU st) (Bx st) .none D9 doc pm an CA DB) ⟨us,[]⟩=pure (Ap.zip us):=by intro _ _ _ _ _ _;first|exact gN λ_=>rfl|exact UX λ_ _=>rfl|exact aB λ_ _ _=>rfl|exact qA λ_ _ _ _=>rfl|exact qB λ_ _ _ _ _=>rfl|exact gO λ_ _ _ _ _ _=>rfl|exact aeT λ_ _ _ _ _ _ _=>rfl):EE K mg x st Ap:=by obtain⟨f,Du,an,Bz,Fi,D9,LO,pm,cd,DB,a,l,c,k⟩:=F.ex;exact tn (st:=st) X G a l c k b
structure MJ(K:AY)(C:A7)(x qual:Str)(st:BW):Prop where
 ex:∃(f:A7)(Du an:Option A7)(Bz:Array (Option A4))(Fi D9 LO pm cd DB:A4),GQ K (.ref C) x=some (some (.ref f))/\K.lookup f=some ⟨Fi,Du,.func (JI x qual (Kn st) (GU st) (Bx st) .none D9 LO pm an cd DB),Bz⟩/\PS K cd qual=true/\K3 K (.ref f)=true/\V3 K (.ref f)=true
def QM{K:AY}{C:A7}{x qual:Str}{st:BW}{f:A7}{Du an:Option A7}{Bz:Array (Option A4)}{Fi D9 LO pm cd DB:A4}(a:GQ K (.ref C) x=some (some (.ref f)))(l:K.lookup f=some ⟨Fi,Du,.func (JI x qual (Kn st) (GU st) (Bx st) .none D9 LO pm an cd DB),Bz⟩)(c:PS K cd qual=true)(k:K3 K (.ref f)=true)(i:V3 K (.ref f)=true):MJ K C x qual st:=⟨f,Du,an,Bz,Fi,D9,LO,pm,cd,DB,a,l,c,k,i⟩
def Tt{K:AY}{Ai x qual:Str}{C:A7}{st:BW}{Ap:List Str}(n:Fg K E4 Ai=some (some (.ref C)))(g1:R0 K C Y3=true)(g2:Su K C=true)(g3:Us K C=true)(HZ:GQ K (.ref C) "__setattr__"=some (some (.builtin "object.__setattr__")))(F:MJ K C x qual st)(b:∀(D9 doc pm:A4)(an:Option A7)(CA DB:A4)(us:List A4),us.length=Ap.length->T4 (JI x qual (Kn st) (GU st) (Bx st) .none D9 doc pm an CA DB) ⟨us,[]⟩=pure (Ap.zip us)):OP K Ai x qual st Ap:=by obtain⟨f,Du,an,Bz,Fi,D9,LO,pm,cd,DB,a,l,c,k,i⟩:=F.ex;exact⟨⟨C,f,_,n,⟨g1,g2,g3,HZ⟩,⟨a,i,k⟩,Rf (st:=st) l c k,(Rf (st:=st) l c k).binds b⟩⟩
def n2{K:AY}{h:BH}{mg:Str->Option A4}{Ai qual:Str}{C:A7}{st:BW}{Ap:List Str}(X:K.In h)(G:h.Ns E4 mg)(n:Fg K E4 Ai=some (some (.ref C)))(mk:Uv K C=true)(Qm:K3 K (.ref C)=true)(F:MJ K C "__init__" qual st)(b:∀(D9 doc pm:A4)(an:Option A7)(CA DB:A4)(us:List A4),us.length=Ap.length->T4 (JI "__init__" qual (Kn st) (GU st) (Bx st) .none D9 doc pm an CA DB) ⟨us,[]⟩=pure (Ap.zip us)):InK K mg Ai qual st Ap:=by obtain⟨f,Du,an,Bz,Fi,D9,LO,pm,cd,DB,a,l,c,k,i⟩:=F.ex;exact⟨⟨C,f,_,n,⟨mk,a,i,Qm⟩,Rf (st:=st) l c k,O2 X G n,(Rf (st:=st) l c k).binds b⟩⟩
set_option maxHeartbeats 4000000 in
def aeL{K:AY}{h:BH}{mg:Str->Option A4}{KL:A7}{Hf:A7}{ad1:Tok}{ad2:Tok}{ad3:Tok}{iE:A7}{su:Option A7}{yw:Nat}{abf:Array (Option A4)}{ad4:Tok}{iF:A7}{sv:Option A7}{yx:Nat}{abg:Array (Option A4)}{ad5 ad6 ad7:Tok}{iG:A7}{sw:Option A7}{yy:Nat}{abh:Array (Option A4)}{ad8 ad9 acY acZ:Tok}(X:K.In h)(G:h.Ns E4 mg)(n_Net:Fg K E4 "Net"=some (some (.ref KL)))(g1_Net:R0 K KL Y3=true)(g2_Net:Su K KL=true)(g3_Net:Us K KL=true)(g4_Net:GQ K (.ref KL) "__setattr__"=some (some (.builtin "object.__setattr__")))(u_Net_many:GQ K (.ref KL) "many"=some none)(u_Net_counts:GQ K (.ref KL) "counts"=some none)(u_Net_joined:GQ K (.ref KL) "joined"=some none)(u_Net_far:GQ K (.ref KL) "far"=some none)(mk_Net:Uv K KL=true)(kc_Net:K3 K (.ref KL)=true)(n_Weaver:Fg K E4 "Weaver"=some (some (.ref Hf)))(g1_Weaver:R0 K Hf Y3=true)(g2_Weaver:Su K Hf=true)(g3_Weaver:Us K Hf=true)(g4_Weaver:GQ K (.ref Hf) "__setattr__"=some (some (.builtin "object.__setattr__")))(u_Weaver_net:GQ K (.ref Hf) "net"=some none)(u_Weaver_stages:GQ K (.ref Hf) "stages"=some none)(u_Weaver_address:GQ K (.ref Hf) "address"=some none)(u_Weaver_shunned:GQ K (.ref Hf) "shunned"=some none)(u_Weaver_woven:GQ K (.ref Hf) "woven"=some none)(u_Weaver_told:GQ K (.ref Hf) "told"=some none)(mk_Weaver:Uv K Hf=true)(kc_Weaver:K3 K (.ref Hf)=true)(h0:EK K "_law_cell_at" fa)(h1:EK K "_law_mixed" ek)(h2:EK K "_law_counts" fb)(h3:EK K "_law_doors" eh)(h4:EK K "_law_wires" ew)(h5:EK K "_law_free_book" ej)(h6:EK K "_law_row" er)(h7:EK K "_law_books" fZ)(h8:EK K "_law_both" f_)(h9:EK K "_law_all" fX)(h10:EK K "_law_beyond" fY)(h11:EK K "_law_outer" eo)(h12:EK K "_law_some" et)(h13:EK K "_law_shelves" es)(h14:EK K "is_whole" fU)(h15:EK K "is_whole_within" fV)(h16:EK K "are_counts" fN)(h17:EK K "is_pair" fS)(h18:EK K "is_door_among" fR)(h19:EK K "is_wire_among" fW)(h20:EK K "far_doors" fO)(h21:MJ K KL "__init__" "Net.__init__" fG)(h22:MJ K Hf "behind" "Weaver.behind" fH)(h23:MJ K Hf "round_from" "Weaver.round_from" fL)(h24:MJ K Hf "met" "Weaver.met" fK)(h25:MJ K Hf "entered" "Weaver.entered" fI)(h26:EK K "is_pattern" fT)(h27:EK K "is_address" fQ)(h28:EK K "fits" fP)(h29:EK K "taken" f8)(h30:MJ K KL "beyond" "Net.beyond" e7)(h31:EK K "onward" f6)(h32:MJ K Hf "weave" "Weaver.weave" fM)(h33:MJ K Hf "__init__" "Weaver.__init__" fJ)(h34:EK K "mixed" f5)(h35:EK K "stages_of" f7)(h36:EK K "met_with_leadings" f3)(h37:EK K "meets" ez)(h38:EK K "leading" ey)(h39:EK K "_law_fits" ei)(h40:EK K "_law_next" en)(h41:EK K "_law_road" ep)(h42:EK K "_law_walked" eu)(h43:EK K "law" Q0)(z_all:Fg K E4 "all"=some none)(z_bool:Fg K E4 "bool"=some none)(z_enumerate:Fg K E4 "enumerate"=some none)(z_int:Fg K E4 "int"=some none)(z_isinstance:Fg K E4 "isinstance"=some none)(z_len:Fg K E4 "len"=some none)(z_list:Fg K E4 "list"=some none)(z_range:Fg K E4 "range"=some none)(z_sorted:Fg K E4 "sorted"=some none)(z_str:Fg K E4 "str"=some none)(z_sum:Fg K E4 "sum"=some none)(z_tuple:Fg K E4 "tuple"=some none)(z_zip:Fg K E4 "zip"=some none)(z_GREATEST_ADDRESS:Fg K E4 "GREATEST_ADDRESS"=some (some (.int 15 ad1)))(z_MOST_DOORS:Fg K E4 "MOST_DOORS"=some (some (.int 4 ad2)))(z_MOST_HOUSES:Fg K E4 "MOST_HOUSES"=some (some (.int 6 ad3)))(z_RING:Fg K E4 "RING"=some (some (.ref iE)))(y_RING:K.lookup iE=some ⟨.type "tuple",su,.seq #[.str (BU "ring") ad4] yw,abf⟩)(z_SIGNS:Fg K E4 "SIGNS"=some (some (.ref iF)))(y_SIGNS:K.lookup iF=some ⟨.type "tuple",sv,.seq #[.str (BU "0") ad5,.str (BU "1") ad6,.str (BU "x") ad7] yx,abg⟩)(z_WORTHS:Fg K E4 "WORTHS"=some (some (.ref iG)))(y_WORTHS:K.lookup iG=some ⟨.type "tuple",sw,.seq #[.int 8 ad8,.int 4 ad9,.int 2 acY,.int 1 acZ] yy,abh⟩):i1 K mg where
 Ql:=⟨KL,n_Net,⟨g1_Net,g2_Net,g3_Net,g4_Net⟩,(Mu.2 ⟨u_Net_many,(Mu.2 ⟨u_Net_counts,(Mu.2 ⟨u_Net_joined,(Mu.2 ⟨u_Net_far,(λ_ h=>absurd h N1)⟩)⟩)⟩)⟩)⟩
 HK:=⟨Hf,n_Weaver,⟨g1_Weaver,g2_Weaver,g3_Weaver,g4_Weaver⟩,(Mu.2 ⟨u_Weaver_net,(Mu.2 ⟨u_Weaver_stages,(Mu.2 ⟨u_Weaver_address,(Mu.2 ⟨u_Weaver_shunned,(Mu.2 ⟨u_Weaver_woven,(Mu.2 ⟨u_Weaver_told,(λ_ h=>absurd h N1)⟩)⟩)⟩)⟩)⟩)⟩)⟩
 l7:=Ea X G h0
 lC:=Ea X G h1
 l8:=Ea X G h2
 l9:=Ea X G h3
 lK:=Ea X G h4
 lB:=Ea X G h5
 lG:=Ea X G h6
 k4:=Ea X G h7
 l6:=Ea X G h8
 jf:=Ea X G h9
 jg:=Ea X G h10
 lE:=Ea X G h11
 lI:=Ea X G h12
 lH:=Ea X G h13
 jc:=Ea X G h14
 jd:=Ea X G h15
 k1:=Ea X G h16
 ja:=Ea X G h17
 j_:=Ea X G h18
 je:=Ea X G h19
 k2:=Ea X G h20
 ju:=n2 X G n_Net mk_Net kc_Net h21 λ_ _ _ _ _ _=>aB λ_ _ _=>rfl
 jv:=Tt n_Weaver g1_Weaver g2_Weaver g3_Weaver g4_Weaver h22 λ_ _ _ _ _ _=>UX λ_ _=>rfl
 jz:=Tt n_Weaver g1_Weaver g2_Weaver g3_Weaver g4_Weaver h23 λ_ _ _ _ _ _=>UX λ_ _=>rfl
 jy:=Tt n_Weaver g1_Weaver g2_Weaver g3_Weaver g4_Weaver h24 λ_ _ _ _ _ _=>gN λ_=>rfl
 jw:=Tt n_Weaver g1_Weaver g2_Weaver g3_Weaver g4_Weaver h25 λ_ _ _ _ _ _=>aB λ_ _ _=>rfl
 jb:=Ea X G h26
 jZ:=Ea X G h27
 k3:=Ea X G h28
 lS:=Ea X G h29
 jt:=Tt n_Net g1_Net g2_Net g3_Net g4_Net h30 λ_ _ _ _ _ _=>UX λ_ _=>rfl
 lP:=Ea X G h31
 k0:=Tt n_Weaver g1_Weaver g2_Weaver g3_Weaver g4_Weaver h32 λ_ _ _ _ _ _=>UX λ_ _=>rfl
 jx:=n2 X G n_Weaver mk_Weaver kc_Weaver h33 λ_ _ _ _ _ _=>gO λ_ _ _ _ _ _=>rfl
 lO:=Ea X G h34
 lR:=Ea X G h35
 lN:=Ea X G h36
 lM:=Ea X G h37
 lL:=Ea X G h38
 lA:=Ea X G h39
 lD:=Ea X G h40
 lF:=Ea X G h41
 lJ:=Ea X G h42
 uL:=Ea X G h43
 RS:=K_ X G z_all
 il:=K_ X G z_bool
 im:=K_ X G z_enumerate
 YX:=K_ X G z_int
 RT:=K_ X G z_isinstance
 FM:=K_ X G z_len
 RU:=K_ X G z_list
 HA:=K_ X G z_range
 iq:=K_ X G z_sorted
 cH:=K_ X G z_str
 ir:=K_ X G z_sum
 Ye:=K_ X G z_tuple
 iu:=K_ X G z_zip
 TB:=⟨⟨_,_,O2 X G z_GREATEST_ADDRESS,(Sg _ _),λ_=>(S6 _)⟩⟩
 TC:=⟨⟨_,_,O2 X G z_MOST_DOORS,(Sg _ _),λ_=>(S6 _)⟩⟩
 TD:=⟨⟨_,_,O2 X G z_MOST_HOUSES,(Sg _ _),λ_=>(S6 _)⟩⟩
 Yg:=⟨⟨.ref iE,_,O2 X G z_RING,rfl,gJ y_RING (XT rfl) (.cons (aG _ _) .nil) λ_=>(.cons (Z0 _) .nil)⟩⟩
 TF:=⟨⟨.ref iF,_,O2 X G z_SIGNS,rfl,gJ y_SIGNS (XT rfl) (.cons (aG _ _) (.cons (aG _ _) (.cons (aG _ _) .nil))) λ_=>(.cons (Z0 _) (.cons (Z0 _) (.cons (Z0 _) .nil)))⟩⟩
 Pi:=⟨⟨.ref iG,_,O2 X G z_WORTHS,rfl,gJ y_WORTHS (XT rfl) (.cons (Sg _ _) (.cons (Sg _ _) (.cons (Sg _ _) (.cons (Sg _ _) .nil)))) λ_=>(.cons (S6 _) (.cons (S6 _) (.cons (S6 _) (.cons (S6 _) .nil))))⟩⟩
set_option maxHeartbeats 4000000 in
def all_mk{l:gq}{w:Bh}{K:AY}{h:BH}{mg:Str->Option A4}{GW:A7}(X:K.In h)(G:h.Ns E4 mg)(vE:mg "law"=some (.ref GW))(F:EK K "law" Q0)(T:i1 K mg) :
  ∃fd:GD,(∀(s:AP)(v:A4),BindsTo s fd ⟨[v],[]⟩ [("_law_script",v)])/\∀base:BH,K.In base->base.Ns E4 mg->Gd l.prog w K mg base Gb 12 GW fd ["_law_script"] (Mn K 1 Rr):=by
 obtain⟨f,Du,an,Bz,Fi,D9,LO,pm,cd,DB,a,lk,c,k⟩:=F.ex;have e:=vE.symm.trans (O2 X G a);cases e;exact⟨_,λs v=>.of_eq rfl,λbase _ _=>afJ (Rf (st:=Q0) lk c k) Ig (tZ T)⟩
def xt(K:AY)(H:AA)(a:A7)(ns:List Int)(AQ:ns.length<=63)(Jy:C4 K H a (ns.map V.int)):Mn K 1 Rr [.ref a] H (λv _=>v=.Aa true) (λ_ _ _=>False):=
 xq (K:=K) (mf:=Rr) (H:=H) (a:=a) (ns:=ns) Jy (xr ns AQ) (λ_ _ _=>False)
def ae2 {l:gq} {q:Bu} {loose:List Str} {TP:(Str->Option A4)->BH->Prop} {Pd:Bh->BH->Prop} {d:DefRec} {K:Params->AY} (AS:l.most=some 63) (WT:d.params.defaults=[])(dI:∀(w:Bh)(h:BH),Pd w h->(K w.params).In h)(F:∀(w:Bh)(mg:Str->Option A4)(GW:A7)(h:BH),(K w.params).In h->h.Ns E4 mg->mg d.name=some (.ref GW)->
    ∃fd:GD,(∀(s:AP)(u:A4),BindsTo s fd ⟨[u],[]⟩ [("_law_script",u)])/\∀base:BH,(K w.params).In base->base.Ns E4 mg->Gd l.prog w (K w.params) mg base Gb 12 GW fd ["_law_script"] (Mn (K w.params) 1 Rr)) :
  PySem.W.WalkO q loose TP Pd l.row.toRowW d [] (λf vs=>PySem.call f vs):=
 C2.ae3 (n:=63) (k:=12) (x:="_law_script") (CX:=λ_=>Gb) (sp:=λw=>Mn (K w.params) 1 Rr) AS (by decide) WT ⟨rfl,by decide,by decide⟩ dI F (λw H a ns AQ _ Jy=>xt (K w.params) H a ns AQ Jy) λ_ _ _ _ _ z=>z
end DW
end
namespace PySem.W.Fast
def tw16298980996284719012:=0
def tw8069806649824158201:=0
def tw1101532561835045315:=0
def tw14421191121080906420:=0
def tw2825678376080616805:=0
def tw14409320222186006752:=0
def tw14486977230292430152:=0
def tw9027553327924227867:=0
def tw5318722996900554054:=0
def tw7432682694971211810:=0
def tw2024912045165248528:=0
def tw9995379619265812675:=0
def tw5493943951227250346:=0
def tw491852060300987320:=0
def tw1342043597821475434:=0
def tw7888098064025454041:=0
def tw558215681175723288:=0
def tw2759980338707268805:=0
def tw18412911401781714711:=0
def tw5300009957209077217:=0
def tw932093478789353744:=0
def tw16311667590027638020:=0
def tw17934568086201616576:=0
def tw12919844625156802010:=0
def tw6657855565454759914:=0
def tw15448544589376051257:=0
def tw16660799343462730565:=0
def tw17943687552622320108:=0
def tw8899998207519963726:=0
def tw15304699633351140845:=0
def tw5952184852173738903:=0
def tw4528873567475932629:=0
def tw7166513283651829978:=0
def tw17385143231275847265:=0
def tw6367843975859125441:=0
def tw2804899595084404973:=0
def tw2374116837903606178:=0
def tw14927901702561534051:=0
def tw13667144203849733573:=0
def tw8051040777845316723:=0
def tw517099576436950259:=0
def tw9247074848488012656:=0
def tw4934161303301092595:=0
def tw3033647596694867867:=0
def tw16291773700307677204:=0
def tw6060534170392351036:=0
def tw2991880751126559571:=0
def tw4974042744857918896:=0
def tw17190117356267331293:=0
def tw18098545658900215738:=0
def tw15241380442311440825:=0
def tw1493309133902099405:=0
def tw12159602308938128300:=0
def tw9811445865319475100:=0
def tw13623255393001863204:=0
def tw9475293630574586509:=0
def tw13277289747181234218:=0
def tw7827130530222967009:=0
def tw5963456227951167546:=0
def tw10628549725846978475:=0
def tw619694653745730679:=0
def tw9408888411224184665:=0
def tw12111098135377297109:=0
def tw12522631105966480505:=0
def tw12882281370448859798:=0
def tw6471425562019747115:=0
def tw14481180439041340880:=0
def tw7919684482596390735:=0
def tw18249763835739846735:=0
def tw16940321020510271168:=0
def tw9539964486485742037:=0
def tw10266444331183628421:=0
def tw17871942446207656431:=0
def tw15157003140906916592:=0
def tw11592287141633326491:=0
def tw13819858050502450527:=0
def tw944306091985456716:=0
def tw933165179666283329:=0
def tw14858446514465542852:=0
def tw7762213614867798567:=0
def tw17767571851801558349:=0
def tw17404546358377633776:=0
def tw5296267235543439514:=0
def tw5374854976846791523:=0
def tw2581225910659812671:=0
def tw11893767505668643127:=0
def tw14597583194188925610:=0
def tw18147321200367954666:=0
def tw10294252328954143932:=0
end PySem.W.Fast
open PySem PySem.W PyProof.Rows
set_option maxRecDepth 100000 in
set_option maxHeartbeats 0 in
theorem PySem.Challenge.cw_nohalfway_k67_whole_any_weaving_met_holds : PySem.Challenge.rw_nohalfway_k67_whole_any_weaving_met.Holds := by
 w_on;o_law;k_head;(case hw=>w_witness2)
 k_fill
 refine DW.ae2 (l:=PySem.Challenge.rw_nohalfway_k67_whole_any_weaving_met) rfl rfl (λw h Y=>PySem.W.kIn_of Y) ?F
 case F=>
  intro w mg GW h MG G WX
  refine' DW.all_mk MG G WX ?h43 (DW.aeL MG G ?n_Net ?g1_Net ?g2_Net ?g3_Net ?g4_Net ?u_Net_many ?u_Net_counts ?u_Net_joined ?u_Net_far ?mk_Net ?kc_Net ?n_Weaver ?g1_Weaver ?g2_Weaver ?g3_Weaver ?g4_Weaver ?u_Weaver_net ?u_Weaver_stages ?u_Weaver_address ?u_Weaver_shunned ?u_Weaver_woven ?u_Weaver_told ?mk_Weaver ?kc_Weaver ?h0 ?h1 ?h2 ?h3 ?h4 ?h5 ?h6 ?h7 ?h8 ?h9 ?h10 ?h11 ?h12 ?h13 ?h14 ?h15 ?h16 ?h17 ?h18 ?h19 ?h20 ?h21 ?h22 ?h23 ?h24 ?h25 ?h26 ?h27 ?h28 ?h29 ?h30 ?h31 ?h32 ?h33 ?h34 ?h35 ?h36 ?h37 ?h38 ?h39 ?h40 ?h41 ?h42 ?h43 ?z_all ?z_bool ?z_enumerate ?z_int ?z_isinstance ?z_len ?z_list ?z_range ?z_sorted ?z_str ?z_sum ?z_tuple ?z_zip ?z_GREATEST_ADDRESS ?z_MOST_DOORS ?z_MOST_HOUSES ?z_RING ?y_RING ?z_SIGNS ?y_SIGNS ?z_WORTHS ?y_WORTHS)
  case n_Net|g1_Net|g2_Net|g3_Net|g4_Net|u_Net_many|u_Net_counts|u_Net_joined|u_Net_far|mk_Net|kc_Net|n_Weaver|g1_Weaver|g2_Weaver|g3_Weaver|g4_Weaver|u_Weaver_net|u_Weaver_stages|u_Weaver_address|u_Weaver_shunned|u_Weaver_woven|u_Weaver_told|mk_Weaver|kc_Weaver|z_all|z_bool|z_enumerate|z_int|z_isinstance|z_len|z_list|z_range|z_sorted|z_str|z_sum|z_tuple|z_zip|z_GREATEST_ADDRESS|z_MOST_DOORS|z_MOST_HOUSES|z_RING|y_RING|z_SIGNS|y_SIGNS|z_WORTHS|y_WORTHS=>k_is
  case h0|h1|h2|h3|h4|h5|h6|h7|h8|h9|h10|h11|h12|h13|h14|h15|h16|h17|h18|h19|h20|h26|h27|h28|h29|h31|h34|h35|h36|h37|h38|h39|h40|h41|h42|h43=>(refine' DW.Eb ?a ?l ?c ?k;case a|l|c|k=>k_is)
  case h21|h22|h23|h24|h25|h30|h32|h33=>(refine' DW.QM ?a ?l ?c ?k ?i;case a|l|c|k|i=>k_is)
