import PyProof.Rows.All
import PyProof.DictRoadsH
import Wide.All
import OpenK.AllK
import Wide.FinOn
import Lean
import PyProof.EqAt
import PyProof.EqKinds
import PyProof.TupleCall
import PyProof.NeKinds
import KE.KIsAll
import PyProof.ExcArgsOwn
import PySem.SetOps
import PyProof.TupleKey
import PyProof.SetKind
import PyProof.IsRules
import PyProof.Rows.SetFrom
import PyProof.Rows.SortShellK
import PyProof.DictKinds
import PyProof.FactsAll.tuple_2
import PyProof.SetRoads
import PyProof.AutoListH
import PyProof.SumAny
import PyProof.DictItems
import PyProof.DictItemsLoops
import PyProof.DictWalks
import PyProof.CollectWalk
import PyProof.Rows.SortWalk
import PyProof.ListStr
import PyProof.Rows.TupDisplay
import PyProof.Rows.SortKeyStr
import KE.RegKIsAll
import KE.RegKTryMore
import PySem.Challenge.RW_nohalfway_k39_throughout
set_option bootstrap.genMatcherCode false
set_option compiler.extract_closed false
open PySem.Str renaming ofString -> Aw, ofString -> Fw
open PySem renaming wpAny_bind -> AR, Value -> A8, wpAny_pure -> BM, Shared -> AQ, starEach -> BI, Addr -> A7, sizeLine -> CF, wpAny -> Al, Program -> C2, model -> BG, Expr -> AT, mainGlobals -> FE, Around -> CR, wpAny_callSpecial?_slot -> MW, World -> Bh, wpAny_newObj_type -> Jo, wpAny_call_entry -> J3, behindInMarks -> IE, attributeBase -> IF, wpAny_truthy_bool -> Kz, backTo -> DC, keywordEach -> H8, mem_of_lookup -> MX, foldedSetIterable -> Lg, wpAny_field -> HS, compareOp -> G6, eval -> BN, sysModules -> Hj, Heap -> BP, wpAny_seqItems -> Lf, wpAny_holding -> Kx, FuncData -> G5, cellsFrom -> HR, bootBuiltins -> Ku, Stmt -> Bb, wpAny_typeNameOfWhole_itemiter -> WG, Keyword -> Fg, wpAny_typeNameOfWhole_keyiter -> WI, cLine -> DX, backToKw -> H9, wpAny_dictEntries -> QH, wpAny_mono -> Jq, strIterType -> L4, wpAny_isInstance -> QK, wpAny_setField_rec -> Rt, assignEach -> L1, wpAny_passesOwn -> QF, wpAny_typeNameOf_keyiter -> WC, Scope -> E6, binaryOp -> J4, wpAny_Call_Name_kw -> Tb, wpAny_notOrdered_dict -> W7, wpAny_specialOf -> Rq, DictEntry -> L0, wpAny_dictEpoch -> Rs, entryOfKey -> MY, wpAny_rule -> MZ, swapsWith -> Lk, wpAny_setField -> Rz, firstArgMember -> S0, IsPair -> GW, NameKind -> KG, wpAny_attempt -> Ry, wpAny_isOneOf_itemiter -> dA, holding -> Jr, sizeLine_eq -> QM, sliceBounds -> QO, isSubtype_tuple_tuple -> dB, wpAny_forIn_list -> WM, wpAny_updateSeq_pair -> d5, wpAny_execs_nil -> WR, letOwnedTupleGo -> WX, getMethod -> Oq, wpAny_tupleItemsOf -> dZ, pyNext -> J5, relabel -> Ll, wpAny_fieldsOf -> Wc, wpAny_pyIter_list -> dP, wpAny_Call_method -> dR, wpAny_pyIter_slot -> dT, standAt -> M_, codeAny -> Ma, wpAny_onRaise -> WV, wpAny_letGo -> Tq, assign -> KH, rawInt -> KI, noFill_tuple_add -> dV, call_meetsIn -> WU, Builtin -> NT, codeAny_mono -> Wh, seqIndex? -> S4, wpAny_updateSeq -> dq, callWith -> QV, call_meets -> Tv, carriedByValue -> dt, newFunctionEnv -> dx, isSubtype_stop -> dy, storedH -> Ou, getItem -> Os, subscripted -> Wf, notedBy -> Ot, IsZip -> IV, KeyKind -> dd, bindArgs -> S2, valueAt -> QT, callerA -> QU, Within -> dg, IsPart -> NX, atKey -> KJ, CmpOp -> KL
open PySem.W renaming Frag -> A_, findIn -> Jn, fnOf -> J0, keepIn -> Kv, emptyDict -> NM, kia_one -> MR, nsIn -> Lj, instObj -> Ol, codeIn -> Oh, plainGet -> Rv, hasDictIn -> Ti, mg_of -> QS, plainOver -> WO, methodCall_KW -> dC, plainGet_of -> dY, isFn -> Ts, callWith_K -> da, lookIn -> Wb, methodObj -> dO, cellsFrom_some -> p7, takerIn -> dk, makesIn -> dm, OpenLaw -> dn, kitx_tuple -> pT, kitx_list -> pW, kitx_dict -> pX
open List renaming getElem?_eq_getElem -> Df, size_toArray -> E0, getElem?_map -> EL, mem_append_right -> Ft, mem_cons_of_mem -> Ff, mem_append_left -> Fu, map_cons -> EF, getElem?_cons_zero -> HQ, getD_eq_getElem?_getD -> IU, length_cons -> FU, getElem?_cons_succ -> ID, range -> Ds, getElem?_append_left -> Jm, length_map -> GU, replicate -> G4, find?_cons -> HP, length_append -> J2, mem_of_getElem? -> KD, length_nil -> Hk, getElem?_append_right -> NN, map_map -> H7, map_append -> Jp, getElem?_replicate -> Of, mem_cons_self -> MS, append_nil -> Le, all_eq_true -> MU, getElem_mem -> MV, zip_cons_cons -> Od, not_mem_nil -> NJ, any_eq_true -> NK, replicate_succ -> QB, getElem_of_mem -> QC, length_replicate -> Rw, getElem?_set_ne -> Rx, flatten_cons -> QI, length_singleton -> Td, any_cons -> NQ, all_cons -> NR, append_assoc -> Ru, map_nil -> NS, getElem?_range -> Te, mem_cons -> Oi, getElem?_set_self -> WD, length_pos_of_mem -> WF, any_map -> Og, take_add_one -> Tj, length_eraseIdx_of_lt -> dG, drop_eq_getElem_cons -> dI, length_take -> Tk, lookup_cons -> Tn, findSome?_cons -> WT, not_all_eq_any_not -> d7, take_of_length_le -> d9, lookup -> QN, eraseIdx_eq_take_drop_succ -> p2, range' -> QP, length_filter_le -> d3, eq_nil_of_length_eq_zero -> ow, filterMap_cons -> d6, of_mem_zip -> WY, nil_append -> WZ, lookup_append -> db, all_map -> Tt, getElem?_zip_eq_some -> pP, mem_of_find?_eq_some -> pQ, getElem?_set -> dS, eraseIdx_cons_succ -> pJ, map_take -> WW, length_drop -> dW, zipIdx_cons -> dN, drop_eq_nil_of_le -> p9, forIn_cons -> dp, getElem?_toArray -> pY, all_nil -> Wj
open PySem.Heap renaming get?_push_of_some -> Da, get?_push_size -> F4, lt_size -> D_, get?_update_self -> NO, SameBut -> Iz, size_push -> Kw, get?_update_other -> Th
open Nat renaming le_refl -> Ci, lt_of_lt_of_le -> Hi, ne_of_lt -> FD, le_trans -> FT, lt_irrefl -> KC, zero_le -> J1, lt_trans -> L3, ne_of_gt -> Li, add_assoc -> NP, le_of_ble_eq_true -> W8, le_add_right -> Tp, le_of_lt -> Tr, lt_succ_self -> dU, le_succ -> Wl, succ_mul -> dj
open Option.some renaming inj -> Eh, injEq -> WQ
open Bool renaming false_ne_true -> Fv, and_eq_true -> FV, false_eq_true -> Hh, eq_iff_iff -> GV, not_true -> QQ, and_true -> QR, true_and -> S1, not_false -> du, false_and -> dv, and_false -> dw, false_or -> de
open List.Nodup renaming length_le_of_subset -> Ld
open PySem.Value renaming ref -> Db, none -> GG, bool -> Oo, type -> QL, int -> Wd, str -> We
open PySem.Heap.SameBut renaming update -> Ky
open Or renaming inr -> Cr, inl -> Dq
open PySem.Builtin.SmallTypes renaming nextOf -> Oe, ownedTupleIsFree -> W6, ownedTupleHandOut -> p6
open PyProof.Rows renaming callWith_type1 -> QD, envOfC -> NL, IsTup -> WN, slot_tuple_getitem -> p1, kindOf -> Js, AllBare -> NY, Call_ -> pU, envOfC -> NW
open PySem.Builtin.Tuple renaming tupleHashOf -> QE, tupleExact -> WA, tupleItemsOf -> pM
open PySem.NameKind renaming free -> Iy
open Int renaming toNat_natCast -> MT, natCast_add -> QG, emod_lt_of_pos -> dc, emod_nonneg -> dr
open PySem.Builtin.Dict_items renaming ownsTuple -> Ta, pairFromOwner -> p0
open Array renaming getElem?_eq_getElem -> T_, getElem?_toList -> Rp, length_toList -> WS, forIn_toList -> d_, getElem?_eq_none -> pB
open PySem.F renaming slot_dict_itemiterator_next -> WH, plainAttrs_list -> Tg, slot_dict_keyiterator_next -> WJ, slot_tuple_iterator_next -> WL, args_tuple_add_2 -> dJ, entry_tuple_add -> dL, plainAttrs_dict -> dM, slot_tuple_add -> d8, args_dict_itemiterator_next_1 -> p3, slot_dict_get -> dD, entry_dict_itemiterator_next -> p4, args_dict_keyiterator_next_1 -> p5, slot_dict_itemiterator_iter -> ox, entry_dict_keyiterator_next -> oy, args_tuple_iterator_next_1 -> oz, entry_tuple_iterator_next -> pL, slot_zip_next -> W_, slot_list_append -> pD, type_list_append -> pE, slot_list_extend -> pF, type_list_extend -> pG, args_dict_get_2 -> pI, entry_dict_get -> p8
open Option renaming bind_some -> Oj, getD_some -> Tl, map_some -> Wa, isSome_map -> dQ, getD_none -> dX, isSome_some -> pS
open Function renaming comp_def -> QJ, comp -> df
open ForInStep renaming yield -> Om
open PySem.Builtin.List renaming listExtendWith -> WK, listTooLong -> WB, listSameRef -> pH, listItems -> pC
open False renaming elim -> KF
open PySem.Builtin.Slice renaming slicePlaces -> W9, sliceAdjust -> dH, sliceApplied -> pO
open True renaming intro -> L2
open PySem.Obj renaming mapSeq -> Lh, data_mapFields -> Tc, isFreed_of_fields -> dE
open PySem.Calls renaming callWith_builtin -> WE, spliced_cons -> Tf, spliced_nil -> WP, evalArgs_plain -> d4, Name_function_global -> pN
open List.cons renaming injEq -> Rr
open Ne renaming symm -> Hl
open PySem.Builtin.Range renaming rangeSize -> dK
open PySem.Builtin.Dict renaming showsAll -> dF
open PySem.Builtin.Str renaming strSliceIndices -> pK
open Prod renaming ext -> Op
open PySem.SeqAt renaming ne_of_list_tuple -> pA, RcNeAt -> Wi, EqAt -> Tw, RcAt -> Wg
open Sum renaming inl -> NU, inr -> NV
open PySem.Data renaming cell -> S3, fields -> Wk
open PySem.Txt renaming slice -> Tu
open List.Pairwise renaming nil -> pV
open PySem.Around renaming under -> dh
open PySem.Code renaming isFrame -> di
open PySem.PassesOwn renaming never -> pR
set_option Elab.async false
set_option linter.all false
set_option maxRecDepth 100000
noncomputable section
namespace LE
open PySem
section
variable{prog:C2}{w:Bh}{K:Type}[DecidableEq K]{knd:HeapKind prog w K}{A:CR}{E:A8->AQ->Prop}{s:AQ}
noncomputable def IK(knd:HeapKind prog w K)(h:BP)(d:A7)(xs:List (K×A7×A8)):Prop:=
 ∃o A5 BY,h.get? d=some o/\o.ExactDict/\o.data=.dict A5 BY/\A5.toList=xs.map (MY knd)/\(∀x∈xs,knd.is h x.1 x.2.1)/\(xs.map (·.1)).Nodup/\BY=A5.size
def IK.of{h:BP}{d:A7}{xs:List (K×A7×A8)}(x:IK knd h d xs):h.DictOfH knd d xs:=by obtain⟨o,A5,BY,A6,AA,B4,BJ,Es,D6,_⟩:=x;exact⟨o,A5,BY,A6,AA,B4,BJ,Es,D6⟩
def IK.new{d a:A7}{xs:List (K×A7×A8)}{k:K}{v:A8}{h:BP}(x:IK knd h d xs)(AF:knd.is h k a)(OR:∀(j:Nat)(p:A7×A8),xs[j]?≠some (k,p)) :
  IK knd (h.update d (Obj.mapDictKeys λx=>x.push { hash:=knd.hash k,key:=.ref a,val:=v })) d (Ou xs k a v):=by
 obtain⟨o,A5,BY,ho,AK,hd,he,Qd,AV,BB⟩:=x;rw[storedH_new (atKey_none_of_get OR)];have AJ:=Ky h d (Obj.mapDictKeys λx=>x.push { hash:=knd.hash k,key:=.ref a,val:=v });refine⟨_,_,BY+1,NO _ ho (Obj.isFreed_of_dict (Obj.data_mapDictKeys hd _)),Obj.ExactDict.mapDictKeys AK _,Obj.data_mapDictKeys hd _,by simp[he,MY],λx AI=>?_,?_,by simp[BB]⟩
 .rcases List.mem_append.mp AI with AI|AI
  .exact knd.keeps (Qd x AI) ho hd AJ
  .obtain rfl:x=(k,a,v):=by simpa using AI
   exact knd.keeps AF ho hd AJ
 .rw[Jp,List.nodup_append];refine⟨AV,by simp,λx AI y BO e=>?_⟩;obtain rfl:y=k:=by simpa using BO
  exact not_mem_keys_of_get OR (e▸AI)
def IK.old{d a:A7}{xs:List (K×A7×A8)}{k:K}{v:A8}{h:BP}{j:Nat}{p:A7×A8}(x:IK knd h d xs)(Bz:xs[j]?=some (k,p)) :
  IK knd (h.update d (Obj.mapDict λx=>x.modify j λe=>{ hash:=e.hash,key:=e.key,val:=v })) d (Ou xs k a v):=by
 obtain⟨o,A5,BY,ho,AK,hd,he,Qd,AV,BB⟩:=x;rw[storedH_old (atKey_of_get AV Bz)];have AJ:=Ky h d (Obj.mapDict λx=>x.modify j λe=>{ hash:=e.hash,key:=e.key,val:=v });refine⟨_,_,BY,NO _ ho (Obj.isFreed_of_dict (Obj.data_mapDict hd _)),Obj.ExactDict.mapDict AK _,Obj.data_mapDict hd _,?_,λx AI=>?_,by rw[keys_map_putAt];exact AV,by simp[BB]⟩
 .have:=modify_map_putAt (MY knd) (λe=>{ hash:=e.hash,key:=e.key,val:=v }) k v (λx y=>rfl) AV Bz;rw[<-he]at this;rw[<-this];cases A5;simp
 .obtain⟨y,BO,rfl⟩:=List.mem_map.mp AI;have:=knd.keeps (Qd y BO) ho hd AJ;unfold putAt
  split<;>exact this
def h8{d a:A7}{k:K}{xs:List (K×A7×A8)}{v:A8}{Q:Unit->AQ->Prop}(BR:knd.room A)(Kb:knd.is s.heap k a)(hm:IK knd s.heap d xs)(Dk:∀h',IK knd h' d (Ou xs k a v)->Iz d s.heap h'->Q () { s with heap:=h',toks:=s.toks+knd.draws k })(hsz:xs.length<=CF) :
  Al (BG prog w) A (dictSet d (.ref a) v) Q E s:=by
 obtain⟨o,A5,BY,ho,AK,hd,he,Qd,AV,BB⟩:=id hm;unfold dictSet;refine Kx (AR (knd.pyHash BR Kb ?_));unfold dictSetHashed;have AN:=size_of_entries he;refine Kx (AR (wpAny_dictFind_heap BR Kb ho hd he Qd AV (λOR=>AR (MZ (wpAny_updateDictKeys ho hd (Dk _ (hm.new Kb OR) (Ky ..)) (by lia) (by simp)))) λj p Bz=>AR (MZ (AR (wpAny_updateDict ho hd (wpAny_point (Dk _ (hm.old Bz) (Ky ..))) ?_)))))
 all_goals simp
 all_goals lia
theorem abq{d a:A7}{k:K}{xs:List (K×A7×A8)}{v:A8}{Q:Unit->AQ->Prop}(BR:knd.room A.in1)(Kb:knd.is s.heap k a)(hm:IK knd s.heap d xs)(Dk:∀h',IK knd h' d (Ou xs k a v)->Iz d s.heap h'->Q () { s with heap:=h',toks:=s.toks+knd.draws k })(hsz:xs.length<=CF) :
  Al (BG prog w) A (setItem (.ref d) (.ref a) v) Q E s:=by
 unfold setItem;refine Kx (AR (wpAny_sequenceKey hm.of.typeIs (by decide) (AR (MW hm.of.typeIs F.slot_dict_setitem (J3 F.slot_dict_setitem hm.of.typeIs F.entry_dict_setitem ?_ (by first|exact args_dict_setitem _ _ _|exact F.args_dict_setitem_3 _ _ _))))));refine AR (W7 hm.of.typeIs ?_);show Al _ _ (dictSet d (.ref a) v>>=λ_=>ret GG) _ _ _;refine AR (h8 BR Kb hm (λh' uv Fo=>BM ⟨GG,rfl,BM (Dk h' uv Fo)⟩) hsz)
theorem ab4{d a:A7}{k:K}{xs:List (K×A7×A8)}{v:A8}{Q:A8->AQ->Prop}(BR:knd.room A.in1)(Yb:(d==Hj)=false)(Kb:knd.is s.heap k a)(hm:IK knd s.heap d xs)(A6:∀p,KJ xs k=some p->Q p.2 { s with toks:=s.toks+knd.draws k })(AA:KJ xs k=none->∀h',IK knd h' d (Ou xs k a v)->Iz d s.heap h'->Q v { s with heap:=h',toks:=s.toks+knd.draws k })(hsz:xs.length<=CF) :
  Al (BG prog w) A (call (.builtin "dict.setdefault") [.ref d,.ref a,v]) Q E s:=by
 refine WU F.slot_dict_setdefault hm.of.typeIs F.entry_dict_setdefault (F.args_dict_setdefault_3 _ _ _) (S:=λA R s=>knd.room A.in1/\∃xs,knd.is s.heap k a/\IK knd s.heap d xs/\xs.length<=CF/\(∀p,KJ xs k=some p->R (.ok (.ret p.2)) { s with toks:=s.toks+knd.draws k })/\(KJ xs k=none->∀h',IK knd h' d (Ou xs k a v)->Iz d s.heap h'->R (.ok (.ret v)) { s with heap:=h',toks:=s.toks+knd.draws k })) (MeetsIn.of_wp λA R s⟨BR,xs,Kb,hm,hsz,A6,AA⟩=>?_) ⟨BR,xs,Kb,hm,hsz,A6,AA⟩;obtain⟨o,A5,BY,ho,AK,hd,he,Qd,AV,BB⟩:=id hm;unfold NT.«dict.setdefault» Builtin.Dict.keyAndDefault;refine AR (AR (W7 hm.of.typeIs ?_));show Al _ _ (pure _) _ _ _;refine BM ?_;show Al _ _ (if(d==Hj)=true then _ else _) _ _ _;rw[if_neg (by rw[Yb];exact Fv)];refine AR ?_;unfold dictSetDefault;refine Kx (AR (knd.pyHash BR Kb ?_));have AN:=size_of_entries he;refine AR (wpAny_dictFind_heap BR Kb ho hd he Qd AV (λOR=>AR (MZ (AR (wpAny_updateDictKeys ho hd (BM (BM ⟨_,rfl,AA (atKey_none_of_get OR) _ (hm.new Kb OR) (Ky ..)⟩)) (by lia) (by simp))))) λj p Bz=>?_);refine AR (QH ho hd ?_);have e:A5[j]?=some (MY knd (k,p)):=by rw[<-Rp,he,EL,Bz];rfl
 simp only[e];exact AR (MZ (BM (BM ⟨_,rfl,A6 p (atKey_of_get AV Bz)⟩)))
end
end LE
namespace C1
open PySem PySem.Spec PyProof.Rows
abbrev Key:=Sum Int Str
def RW:Key->A8->Bool
 |.inl k,v=>Value.isInt k v
 |.inr x,v=>Value.isStrOf x v
def wy(w:Bh):Key->Int
 |.inl k=>hashInt k
 |.inr x=>hashStr w x
def Lx:∀{k:Key}{v:A8},RW k v=true->(∃i t,k=NU i/\v=Wd i t)\/(∃x t,k=NV x/\v=We x t)
 |.inl i,v,h=>by obtain⟨t,e⟩:=Value.isInt_shape (k:=i) (v:=v) h;exact .inl ⟨i,t,rfl,e⟩
 |.inr x,v,h=>by obtain⟨t,e⟩:=Value.isStrOf_shape (x:=x) (v:=v) h;exact .inr ⟨x,t,rfl,e⟩
def wz(i:Int)(t:Tok):RW (.inl i) (.int i t)=true:=by simp[RW,Value.isInt]
def jE(x:Str)(t:Tok):RW (.inr x) (.str x t)=true:=by simp[RW,Value.isStrOf]
def x3(a b:Int):decide ((NU a:Key)=NU b)=(a==b):=by
 by_cases e:a=b
 .subst e;simp
 .have h:¬(NU a:Key)=NU b:=λq=>e (Sum.inl.inj q);rw[decide_eq_false h];exact(beq_eq_false_iff_ne.mpr e).symm
def wK(a b:Str):decide ((NV a:Key)=NV b)=decide (a=b):=by
 by_cases e:a=b
 .subst e;simp
 .have h:¬(NV a:Key)=NV b:=λq=>e (Sum.inr.inj q);rw[decide_eq_false h,decide_eq_false e]
def wI(a:Int)(b:Str):decide ((NU a:Key)=NV b)=false:=decide_eq_false (λq=>nomatch q)
def wJ(a:Str)(b:Int):decide ((NV a:Key)=NU b)=false:=decide_eq_false (λq=>nomatch q)
noncomputable def Gz(prog:C2)(w:Bh):dd prog w Key where
 is:=RW
 hash:=wy w
 inj:=λv a b AB A1=>by
  rcases Lx AB with⟨i,t,rfl,rfl⟩|⟨x,t,rfl,rfl⟩
  .rcases Lx A1 with⟨j,u,rfl,e⟩|⟨y,u,rfl,e⟩
   .injection e with A9 _;rw[A9]
   .exact nomatch e
  .rcases Lx A1 with⟨j,u,rfl,e⟩|⟨y,u,rfl,e⟩
   .exact nomatch e
   .injection e with A9 _;rw[A9]
 byValue:=λk v h=>by rcases Lx h with⟨i,t,rfl,rfl⟩|⟨x,t,rfl,rfl⟩<;>rfl
 pyHash:=λBc h=>by
  rcases Lx Bc with⟨i,t,rfl,rfl⟩|⟨x,t,rfl,rfl⟩
  .exact wpAny_pyHash_int h
  .exact wpAny_pyHash_str h
 eqBool:=λBR Bc h=>by
  rcases Lx BR with⟨i,t,rfl,rfl⟩|⟨x,t,rfl,rfl⟩
  .rcases Lx Bc with⟨j,u,rfl,rfl⟩|⟨y,u,rfl,rfl⟩
   .rw[x3]at h;exact wpAny_eqBool_int h
   .rw[wI]at h;exact SeqAt.EqAt.int_str i t y u _ _ _ _ h
  .rcases Lx Bc with⟨j,u,rfl,rfl⟩|⟨y,u,rfl,rfl⟩
   .rw[wJ]at h;exact SeqAt.EqAt.str_int x t j u _ _ _ _ h
   .rw[wK]at h;exact wpAny_eqBool_str h
 «strs»:=λk x t v h=>by
  rcases Lx h with⟨i,u,rfl,e⟩|⟨y,u,rfl,e⟩
  .exact nomatch e
  .injection e with A9 _;subst A9;cases v<;>rfl
def xS(prog:C2)(w:Bh)(i:Int)(t:Tok):(Gz prog w).is (.inl i) (.int i t)=true:=wz i t
def xT(prog:C2)(w:Bh)(x:Str)(t:Tok):(Gz prog w).is (.inr x) (.str x t)=true:=jE x t
section
open SeqAt
section
variable(prog:C2)(w:Bh)
abbrev JB:=Sum Key (List Key)
abbrev Bj:=List JB
def Qi(h:BP):JB->A8->Prop
 |.inl k,v=>RW k v=true
 |.inr ks,v=>∃b,v=.ref b/\IsTupleKey (Gz prog w) h ks b
inductive Hy(h:BP):Bj->List A8->Prop
 |nil:Hy h [] []
 |cons {k:JB} {v:A8} {ks:Bj} {vs:List A8}:Qi prog w h k v->Hy h ks vs->Hy h (k::ks) (v::vs)
def J9(h:BP)(ks:Bj)(a:A7):Prop:=∃o items n,h.get? a=some o/\o.cls=.type "tuple"/\o.data=.seq items n/\Hy prog w h ks items.toList
variable{prog w}
theorem Qi.inj{h:BP}{x y:JB}{v:A8}(AI:Qi prog w h x v)(BO:Qi prog w h y v):x=y:=by
 cases x with
 |inl a=>
  cases y with
  |inl b=>rw[(Gz prog w).inj _ _ _ AI BO]
  |inr b=>obtain⟨c,rfl,_⟩:=BO;have:=(Gz prog w).byValue _ _ AI;simp[dt]at this
 |inr a=>
  obtain⟨c,rfl,AI⟩:=AI;cases y with
  |inl b=>have:=(Gz prog w).byValue _ _ BO;simp[dt]at this
  |inr b=>obtain⟨d,e,BO⟩:=BO;cases e;rw[AI.inj BO]
theorem Hy.inj{h:BP}{x y:Bj}{vs:List A8}(AI:Hy prog w h x vs)(BO:Hy prog w h y vs):x=y:=by
 induction AI generalizing y with
 |nil=>cases BO;rfl
 |cons A6 _ CA=>
  cases BO with
  |cons AA Do=>rw[A6.inj AA,CA Do]
theorem Hy.keeps{h h':BP}{d:A7}{o:Obj}{A5 BY}(ho:h.get? d=some o)(hd:o.data=.dict A5 BY)(AJ:Iz d h h'):∀{x:Bj}{vs:List A8},Hy prog w h x vs->Hy prog w h' x vs
 |_,_,.nil=>.nil
 |_,_,.cons (k:=.inl _) A6 t=>.cons (k:=.inl _) A6 (Hy.keeps ho hd AJ t)
 |_,_,.cons (k:=.inr _) ⟨b,e,x⟩ t=>.cons (k:=.inr _) ⟨b,e,x.keeps ho hd AJ⟩ (Hy.keeps ho hd AJ t)
def J9.typeIs{s:AQ}{ks:Bj}{a:A7}(x:J9 prog w s.heap ks a):s.TypeIs (.ref a) "tuple":=let⟨o,_,_,ho,AK,_⟩:=x;⟨o,ho,AK⟩
theorem J9.inj{h:BP}{a:A7}{x y:Bj}(AI:J9 prog w h x a)(BO:J9 prog w h y a):x=y:=by obtain⟨o,i,n,A6,_,AA,B4⟩:=AI;obtain⟨o',agh,PY,Ig,_,Nf,PE⟩:=BO;rw[A6]at Ig;cases Ig;rw[AA]at Nf;cases Nf;exact B4.inj PE
theorem J9.keeps{h h':BP}{ks:Bj}{a d:A7}{o:Obj}{A5 BY}(x:J9 prog w h ks a)(ho:h.get? d=some o)(hd:o.data=.dict A5 BY)(AJ:Iz d h h'):J9 prog w h' ks a:=by
 obtain⟨o',items,n,F9,AK,Il,AD⟩:=x;have OQ:a≠d:=by rintro rfl;obtain rfl:o'=o:=Eh (F9.symm.trans ho);rw[hd]at Il;exact nomatch Il
 exact⟨o',items,n,(AJ.2 a OQ).trans F9,AK,Il,AD.keeps ho hd AJ⟩
def M5(prog:C2)(w:Bh):JB->Int
 |.inl k=>(Gz prog w).hash k
 |.inr ks=>tupleKeyHash (Gz prog w) ks
def R5:JB->Nat
 |.inl _=>1
 |.inr ks=>ks.length+1
variable{A:CR}{E:A8->AQ->Prop}{s:AQ}
theorem yV{ks:Bj}{a:A7}{Q:Int->AQ->Prop}(BR:A.units+8<DX)(AF:J9 prog w s.heap ks a)(h:Q (reduceHash (QE (ks.map (M5 prog w)))) { s with toks:=s.toks+((ks.map R5).sum+1) }) :
  Al (BG prog w) A (pyHash (.ref a)) Q E s:=by
 have Cw:=AF.typeIs;obtain⟨o,items,n,ho,_,hd,AD⟩:=AF;unfold pyHash
 first|unfold pyHashByItsType|skip
 first|refine AR (wpAny_cRoomFor_or (.inr (by lia)) ?_)|skip
 refine AR (Rq Cw F.slot_tuple_hash.lookup ?_);show Al _ _ (if(some (Value.builtin "tuple.__hash__")==some GG)=true then _ else _) Q E s;rw[if_neg (by rw[beq_builtin_none];exact Fv)];refine AR (Rq Cw F.slot_tuple_hash.lookup ?_);show Al _ _ (callSpecialIfBoundUnlessNone? (.ref a) "__hash__" _>>=_) Q E s;refine AR (wpAny_callSpecialIfBoundUnlessNone?_slot Cw F.slot_tuple_hash (J3 F.slot_tuple_hash Cw F.entry_tuple_hash ?_ (F.args_tuple_hash_1 _)));show Al _ _ (pM (.ref a)>>=_) _ _ s;refine AR (dZ ho hd ?_);refine AR ?_;rw[<-d_]
 refine WM _
  (λrest(b:Array Int) s'=>∃done left,ks=done++left/\Hy prog w s.heap left rest/\b.toList=done.map (M5 prog w)/\s'={ s with toks:=s.toks+(done.map R5).sum })
  _ ?_ ?_ _ _ ⟨[],ks,rfl,AD,rfl,rfl⟩
 .rintro x rest b s' ⟨done,left,rfl,AN,A1,rfl⟩;cases AN with
  | @cons k _ ks' _ A6 SX=>
    cases k with
    |inl k=>
     refine AR ((Gz prog w).pyHash A6 ?_)
     first
      |exact BM ⟨done++[.inl k],ks',by simp,SX,by simp[A1,M5],by simp[NP,R5]⟩
      |exact AR (BM (BM ⟨done++[.inl k],ks',by simp,SX,by simp[A1,M5],by simp[NP,R5]⟩))
    |inr Bf=>
     obtain⟨Pk,rfl,A6⟩:=A6;refine AR (wpAny_pyHash_tuple (knd:=Gz prog w) (ks:=Bf) (show A.units+1<DX by lia) A6 ?_)
     first
      |exact BM ⟨done++[.inr Bf],ks',by simp,SX,by simp[A1,M5],by simp[NP,R5]⟩
      |exact AR (BM (BM ⟨done++[.inr Bf],ks',by simp,SX,by simp[A1,M5],by simp[NP,R5]⟩))
 .rintro b s' ⟨done,left,rfl,AN,A1,rfl⟩;cases AN;rw[Le]at h;show Al _ _ (retInt (QE b.toList)) _ _ _;rw[A1];refine wpAny_ret_mkInt ?_;show Al _ _ (if(decide (-(2:Int)^63<=QE (done.map (M5 prog w)))&&decide (QE (done.map (M5 prog w))<2^63))=true then _ else _) Q E _;unfold reduceHash at h;by_cases B3:(decide (-(2:Int)^63<=QE (done.map (M5 prog w)))&&decide (QE (done.map (M5 prog w))<2^63))=true
  .rw[if_pos B3];rw[if_pos B3]at h;exact BM (by simpa[NP]using h)
  .rw[if_neg B3];rw[if_neg B3]at h;exact AR (MZ (BM (by simpa[NP]using h)))
def yf{x y:JB}{u v:A8}{Q:Bool->AQ->Prop}(BR:A.units+1<DX)(AI:Qi prog w s.heap x u)(BO:Qi prog w s.heap y v)(h:Q (decide (x=y)) s):Al (BG prog w) A (eqBool u v) Q E s:=by
 cases x with
 |inl a=>
  cases y with
  |inl b=>exact(Gz prog w).eqBool (a:=a) (b:=b) AI BO (by simpa using h)
  |inr b=>
   obtain⟨c,rfl,o,its,n,A6,AA,B4,_⟩:=BO;have hd:decide ((NU a:JB)=NV b)=false:=by simp
   rw[hd]at h;rcases Lx AI with⟨i,t,_,rfl⟩|⟨i,t,_,rfl⟩
   .exact EqAt.int_tuple i t ⟨o,A6,AA,n,B4⟩ (by lia) prog w E Q h
   .exact EqAt.str_tuple i t ⟨o,A6,AA,n,B4⟩ (by lia) prog w E Q h
 |inr a=>
  cases y with
  |inl b=>
   obtain⟨c,rfl,o,its,n,A6,AA,B4,_⟩:=AI;have hd:decide ((NV a:JB)=NU b)=false:=by simp
   rw[hd]at h;rcases Lx BO with⟨i,t,_,rfl⟩|⟨i,t,_,rfl⟩
   .exact EqAt.tuple_int i t ⟨o,A6,AA,n,B4⟩ (by lia) prog w E Q h
   .exact EqAt.tuple_str i t ⟨o,A6,AA,n,B4⟩ (by lia) prog w E Q h
  |inr b=>obtain⟨c,rfl,AI⟩:=AI;obtain⟨d,rfl,BO⟩:=BO;exact wpAny_eqBool_tuple (by lia) AI BO (by simpa using h)
def xC{x y:Bj}{a b:A7}{P:Fin->AQ->Prop}(BR:A.units+1<DX)(AI:J9 prog w s.heap x a)(BO:J9 prog w s.heap y b)(h:P (.done (.ret (.bool (decide (x=y))))) s) :
  Al (BG prog w) A (NT.«tuple.__eq__» ⟨[.ref a,.ref b],[]⟩) P E s:=by
 have tU:=BO.typeIs;obtain⟨k1,xs,na,v7,_,t9,uh⟩:=AI;obtain⟨ob,ys,nb,v8,_,Gq,ui⟩:=BO;show Al _ _ (isInstance (.ref b) (.type "tuple")>>=_) _ _ s;refine AR (QK tU dB ?_);simp only[QQ,Hh,if_false];refine AR (dZ v7 t9 ?_);refine AR (dZ v8 Gq ?_);refine AR ?_
 refine WM _
  (λrest r s'=>r.1=none/\s'=s/\∃TY RN Gl HO,rest=List.zip Gl HO/\Hy prog w s.heap TY Gl/\Hy prog w s.heap RN HO/\decide (TY=RN)=decide (x=y)/\(Gl.length==HO.length)=(xs.size==ys.size))
  _ ?_ ?_ _ _ ⟨rfl,rfl,x,y,xs.toList,ys.toList,rfl,uh,ui,rfl,by simp⟩
 .rintro⟨u,v⟩ rest r s' ⟨B3,rfl,TY,RN,Gl,HO,BB,aD,Y8,Xz,hlen⟩;cases aD with
  |nil=>simp at BB
  | @cons Cn GK oJ aev A6 uL=>
    cases Y8 with
    |nil=>simp at BB
    | @cons C3 N0 oM aey AA uM=>
      simp only[Od,Rr,Prod.mk.injEq]at BB;obtain⟨⟨rfl,rfl⟩,rfl⟩:=BB;refine AR (yf BR A6 AA ?_);by_cases AF:Cn=C3
      .subst AF;rw[decide_eq_true rfl];simp only[QQ,Hh,if_false];refine BM ⟨rfl,rfl,oJ,oM,aev,aey,rfl,uL,uM,?_,by simpa using hlen⟩;rw[<-Xz];by_cases iL:oJ=oM
       .simp[iL]
       .simp[iL]
      .rw[decide_eq_false AF];simp only[du,if_true];have hf:decide (x=y)=false:=by rw[<-Xz];simp[AF]
       rw[hf]at h;exact AR (BM (BM (BM h)))
 .rintro⟨AL,B7⟩ s' ⟨B3,rfl,TY,RN,Gl,HO,BB,aD,Y8,Xz,hlen⟩;simp only at B3;subst B3;refine BM ?_;have ud:(xs.size==ys.size)=decide (x=y):=by
   rw[<-Xz,<-hlen];cases aD with
   |nil=>
    cases Y8 with
    |nil=>simp
    |cons _ _=>simp
   |cons _ _=>
    cases Y8 with
    |nil=>simp
    |cons _ _=>simp at BB
  show P (.done (.ret (.bool (xs.size==ys.size)))) s';rw[ud];exact h
theorem xB{x y:Bj}{a b:A7}{Q:Bool->AQ->Prop}(BR:A.units+8<DX)(AI:J9 prog w s.heap x a)(BO:J9 prog w s.heap y b)(h:Q (decide (x=y)) s) :
  Al (BG prog w) A (eqBool (.ref a) (.ref b)) Q E s:=by
 unfold eqBool
 try with_reducible refine Kx ?_
 show Al _ _ (if(Db a==Db b)=true then _ else _) Q E s;by_cases VI:(Db a==Db b)=true
 .rw[if_pos VI];have e:a=b:=by have:=eq_of_beq VI;injection this
  subst e;obtain rfl:=AI.inj BO;exact AR (MZ (BM (by simpa using h)))
 .rw[if_neg VI]
  exact AR (wpAny_richCompare_same_room (op:=.Eq) AI.typeIs BO.typeIs F.slot_tuple_eq
   (J3 F.slot_tuple_eq AI.typeIs F.entry_tuple_eq (xC (show A.units+1+1<DX by lia) AI BO ⟨_,rfl,(λe=>nomatch e),Kz h⟩) (F.args_tuple_eq_2 _ _)) (by lia))
theorem yg{x:JB}{v:A8}{Q:Bool->AQ->Prop}{n:Nat}(AI:Qi prog w s.heap x v)(h:Q true s):Al (BG prog w) A (eqIsQuiet 7 v) Q E s:=by
 cases x with
 |inl a=>rw[eqIsQuiet_byValue _ ((Gz prog w).byValue _ _ AI)];exact BM h
 |inr a=>
  obtain⟨c,rfl,AF⟩:=AI;have Cw:=AF.typeIs;obtain⟨o,items,n,ho,_,hd,AD⟩:=AF;unfold eqIsQuiet;refine AR (Rq Cw F.slot_tuple_eq.lookup ?_);show Al _ _ (isInstance (.ref c) (.type "tuple")>>=_) _ _ s;refine AR (QK Cw dB ?_);simp only[QQ,Hh,if_false];refine AR (Lf ho hd ?_);refine AR ?_;show Al _ _ (forIn items _ _) _ _ s;rw[<-d_];refine WM _ (λrest r s'=>r.1=none/\s'=s/\∀v∈rest,dt v=true) _ ?_ ?_ _ _ ⟨rfl,rfl,AD.byValue⟩
  .rintro v rest r s' ⟨B3,rfl,PG⟩;rw[eqIsQuiet_byValue _ (PG v MS)];refine AR (BM ?_);simp only[QQ,Hh,if_false];exact BM ⟨rfl,rfl,λu Uh=>PG u (Ff _ Uh)⟩
  .rintro⟨AL,B7⟩ s' ⟨B3,rfl,_⟩;simp only at B3;subst B3;exact BM h
theorem yW{ks:Bj}{a:A7}{Q:Bool->AQ->Prop}(AF:J9 prog w s.heap ks a)(h:Q true s):Al (BG prog w) A (eqIsQuiet 8 (.ref a)) Q E s:=by
 have Cw:=AF.typeIs;obtain⟨o,items,n,ho,_,hd,AD⟩:=AF;unfold eqIsQuiet;refine AR (Rq Cw F.slot_tuple_eq.lookup ?_);show Al _ _ (isInstance (.ref a) (.type "tuple")>>=_) _ _ s;refine AR (QK Cw dB ?_);simp only[QQ,Hh,if_false];refine AR (Lf ho hd ?_);refine AR ?_;show Al _ _ (forIn items _ _) _ _ s;rw[<-d_];refine WM _ (λrest r s'=>r.1=none/\s'=s/\∃ks',Hy prog w s.heap ks' rest) _ ?_ ?_ _ _ ⟨rfl,rfl,ks,AD⟩
 .rintro v rest r s' ⟨B3,rfl,ks',AN⟩;cases AN with
  |cons A6 SX=>refine AR (yg (n:=0) A6 ?_);simp only[QQ,Hh,if_false];exact BM ⟨rfl,rfl,_,SX⟩
 .rintro⟨AL,B7⟩ s' ⟨B3,rfl,_⟩;simp only at B3;subst B3;exact BM h
end
noncomputable def K8(prog:C2)(w:Bh):HeapKind prog w Bj where
 is:=J9 prog w
 hash:=λks=>reduceHash (QE (ks.map (M5 prog w)))
 draws:=λks=>(ks.map R5).sum+1
 room:=λA=>A.units+8<DX
 inj:=λAI BO=>AI.inj BO
 keeps:=λx ho hd AJ=>x.keeps ho hd AJ
 pyHash:=λBR AF h=>yV BR AF h
 eqBool:=λBR AI BO h=>xB BR AI BO h
 quiet:=λAF h=>yW AF h
def nest_room{prog:C2}{w:Bh}{A:CR}(BR:A.units+16<DX):(K8 prog w).room A.in1:=show A.units+1+8<DX by lia
end
inductive V where
 |non|AO (b:Bool)|int (i:Int)|str (x:Str)|N3 (b:Array UInt8)|YQ (b:UInt64)|ref (a:A7)|ty (n:String)
 deriving DecidableEq
noncomputable def RelV:V->A8->Prop
 |.non,u=>u=GG
 |.AO b,u=>u=Oo b
 |.int i,u=>∃t,u=Wd i t
 |.str x,u=>∃t,u=We x t
 |.N3 b,u=>∃t,u=Value.bytes b t
 |.YQ b,u=>∃t,u=Value.float b t
 |.ref a,u=>u=Db a
 |.ty n,u=>u=QL n
abbrev Vals:List V->List A8->Prop:=Paired RelV
theorem Vals.length{xs:List V}{us:List A8}(r:Vals xs us):xs.length=us.length:=Paired.length r
theorem Vals.get:∀{xs:List V}{us:List A8}{i:Nat}{x:V},Vals xs us->xs[i]?=some x->∃u,us[i]?=some u/\RelV x u
 |_,_,_,_,.nil,e=>by simp at e
 |_,_,0,_,.cons r _,e=>by simp at e;subst e;exact⟨_,rfl,r⟩
 |_,_,i+1,x,.cons _ t,e=>by obtain⟨u,A6,AA⟩:=Vals.get (i:=i) (x:=x) t (by simpa using e);exact⟨u,by simpa using A6,AA⟩
theorem Vals.set{x:V}{u:A8}(r:RelV x u):∀{xs:List V}{us:List A8}(i:Nat),Vals xs us->Vals (xs.set i x) (us.set i u)
 |_,_,_,.nil=>.nil
 |_,_,0,.cons _ t=>.cons r t
 |_,_,i+1,.cons q t=>.cons q (Vals.set r i t)
theorem Vals.append:∀{xs ys:List V}{us ws:List A8},Vals xs us->Vals ys ws->Vals (xs++ys) (us++ws)
 |_,_,_,_,.nil,s=>s
 |_,_,_,_,.cons r t,s=>.cons r (Vals.append t s)
theorem Vals.take:∀{xs:List V}{us:List A8}(n:Nat),Vals xs us->Vals (xs.take n) (us.take n)
 |_,_,0,_=>.nil
 |_,_,_+1,.nil=>.nil
 |_,_,n+1,.cons r t=>.cons r (Vals.take n t)
theorem Vals.drop:∀{xs:List V}{us:List A8}(n:Nat),Vals xs us->Vals (xs.drop n) (us.drop n)
 |_,_,0,r=>r
 |_,_,_+1,.nil=>.nil
 |_,_,n+1,.cons _ t=>Vals.drop n t
def I3:Option V->Option A8->Prop
 |some v,some u=>RelV v u
 |none,none=>True
 |_,_=>False
def Gu{DW:Type}:List (DW×V)->List (DW×A8)->Prop:=Paired λ(p:DW×V)(q:DW×A8)=>p.1=q.1/\RelV p.2 q.2
def Dl:Key->V
 |.inl i=>.int i
 |.inr x=>.str x
inductive Du where
 |lst (xs:List V)
 |tup (xs:List V)
 |Bg (AX:List (Key×V))|Ai (AX:List (Bj×V))
 |set (S:Int->Bool) (n:Nat)
 |ins (C Ag:A7) (Ap:List (Str×V))
 |own (x:A7)
 |cT (Ap:List (Str×V))
 |met (f x:A7)
 |ax (lo AD:Int)
 |LQ (o:Obj) (u:Du)
 |RI (Aq:Array A8)
 |ext (TZ:BP->Prop)
abbrev AC:=A7->Option Du
def upd(H:AC)(a:A7)(o:Du):AC:=λb=>if b=a then some o else H b
def Dz{H:AC}{a:A7}{o:Du}:upd H a o a=some o:=by unfold upd;rw[if_pos rfl]
def DV{H:AC}{a b:A7}{o:Du}(h:b≠a):upd H a o b=H b:=by unfold upd;rw[if_neg h]
def bl{H:AC}{a b:A7}{o u:Du}(h:H a=some o)(h':H b=some u)(d:o≠u):a≠b:=by intro e;subst e;rw[h]at h';exact d (Eh h')
def K7{H:AC}{a b:A7}{o:Du}(h:H a=some o)(h':H b=none):a≠b:=by intro e;subst e;rw[h]at h';cases h'
def Mg(H:AC):JB->V->Prop
 |.inl k,v=>v=Dl k
 |.inr ks,v=>∃b,v=.ref b/\H b=some (.tup (ks.map Dl))
def KS(H:AC)(k:Bj)(a:A7):Prop:=∃vs,H a=some (.tup vs)/\Paired (Mg H) k vs
def Mg.mono{H H':AC}(Aj:∀b xs,H b=some (.tup xs)->H' b=some (.tup xs)):∀{k:JB}{v:V},Mg H k v->Mg H' k v
 |.inl _,_,h=>h
 |.inr _,_,⟨b,e,h⟩=>⟨b,e,Aj _ _ h⟩
theorem g6.mono{H H':AC}(Aj:∀b xs,H b=some (.tup xs)->H' b=some (.tup xs)):∀{k:Bj}{vs:List V},Paired (Mg H) k vs->Paired (Mg H') k vs
 |_,_,.nil=>.nil
 |_,_,.cons r t=>.cons (r.mono Aj) (g6.mono Aj t)
theorem KS.mono{H H':AC}{k:Bj}{a:A7}(h:KS H k a)(Aj:∀b xs,H b=some (.tup xs)->H' b=some (.tup xs)):KS H' k a:=
 let⟨vs,e,r⟩:=h;⟨vs,Aj _ _ e,g6.mono Aj r⟩
def qQ(K:A_)(k:Bj)(b:A7):Prop:=∃(x:Str)(o:Obj)(n:Nat)(t:Tok),k=[.inl (.inr x)]/\K.lookup b=some o/\o.cls=.type "tuple"/\o.data=.seq #[.str x t] n
def IN(K:A_)(H:AC)(k:Bj)(b:A7):Prop:=KS H k b\/qQ K k b
theorem IN.mono{K:A_}{H H':AC}{k:Bj}{a:A7}(h:IN K H k a)(Aj:∀b xs,H b=some (.tup xs)->H' b=some (.tup xs)):IN K H' k a:=h.elim (λh=>.inl (h.mono Aj)) .inr
section
variable(P:C2)(w:Bh)(K:A_)
noncomputable def FW(H:AC)(h:BP)(a:A7):Du->Prop
 |.lst xs=>xs.length<=CF/\∃(its:List A8)(n:Nat),Vals xs its/\h.get? a=some { cls:=.type "list",data:=.seq its.toArray n }
 |.tup xs=>xs.length<=CF/\∃its:List A8,Vals xs its/\IsTup h a its.toArray
 |.Bg AX=>AX.length<=CF/\(a==Hj)=false/\∃vs,Gu AX vs/\h.DictOf (Gz P w) a vs
 |.Ai AX=>AX.length<=CF/\(a==Hj)=false/\∃xs:List (Bj×A7×A8),
     Paired (λ(p:Bj×V)(q:Bj×A7×A8)=>p.1=q.1/\IN K H p.1 q.2.1/\RelV p.2 q.2.2) AX xs/\
     ∃o A5 BY,h.get? a=some o/\o.ExactDict/\o.data=.dict A5 BY/\A5.toList=xs.map (MY (K8 P w))/\(xs.map (·.1)).Nodup/\BY=A5.size
 |.set S n=>h.SetOf (intKind P w) a S n
 |.ins C Ag Ap=>H Ag=some (.own a)/\Ap.length<=1000/\Ag≠a/\h.get? a=some (Ol C Ag)/\
     ∃EJ,h.Ns1 Ag EJ/\(∀f,I3 (Ap.lookup f) (EJ f))/\dg EJ (Ap.map (·.1))
 |.own _=>∃o,h.get? a=some o
 |.cT Ap=>∃EJ,h.Ns1 a EJ/\∀f,I3 (Ap.lookup f) (EJ f)
 |.ax lo AD=>∃t u v,h.get? a=some { cls:=.type "range",data:=.fields #[.int lo t,.int AD u,.int 1 v] }
 |.LQ o u=>h.get? a=some o/\FW H h a u
 |.RI Aq=>h.get? a=some { cls:=.none,data:=.fields Aq }
 |.met f x=>h.get? a=some (dO (.ref f) (.ref x))
 |.ext TZ=>TZ h/\(∃o,h.get? a=some o)/\∀A6 AA:BP,TZ A6->(∀o,A6.get? a=some o->AA.get? a=some o)->TZ AA
def Ei(H:AC)(h:BP):Prop:=∀a o,H a=some o->FW P w K H h a o
end
section
variable{P:C2}{w:Bh}{K:A_}{H H':AC}{h h':BP}{a:A7}{o:Du}
theorem FW.lt(x:FW P w K H h a o):a<h.objs.size:=by
 cases o with
 |lst xs=>obtain⟨_,_,_,_,e⟩:=x;exact D_ e
 |tup xs=>obtain⟨_,_,_,p⟩:=x;exact p.lt
 |Bg AX=>obtain⟨_,_,_,_,o,_,_,e,_⟩:=x;exact D_ e
 |Ai AX=>obtain⟨_,_,_,_,o,_,_,e,_⟩:=x;exact D_ e
 |set S n=>obtain⟨o,_,_,_,e,_⟩:=x;exact D_ e
 |ins C Ag Ap=>obtain⟨_,_,_,e,_⟩:=x;exact D_ e
 |own y=>obtain⟨_,e⟩:=x;exact D_ e
 |cT Ap=>obtain⟨_,⟨_,_,_,e,_⟩,_⟩:=x;exact D_ e
 |ax lo AD=>obtain⟨_,_,_,e⟩:=x;exact D_ e
 |LQ ob u=>obtain⟨e,_⟩:=x;exact D_ e
 |RI Aq=>exact D_ (show h.get? a=some _ from x)
 |met f y=>exact D_ (show h.get? a=some _ from x)
 |ext TZ=>obtain⟨_,⟨_,e⟩,_⟩:=x;exact D_ e
theorem Paired.bb{α β:Type}{F G:α->β->Prop}:∀{kQ:List α}{l₂:List β},Paired F kQ l₂->(∀a b,F a b->G a b)->Paired G kQ l₂
 |_,_,.nil,_=>.nil
 |_,_,.cons r t,f=>.cons (f _ _ r) (Paired.bb t f)
def FW.Q4(x:FW P w K H h a o)(k:∀b u,(b=a\/H b=some (.own a))->h.get? b=some u->h'.get? b=some u)(ho:∀b,H b=some (.own a)->H' b=some (.own a))(Aj:∀b xs,H b=some (.tup xs)->H' b=some (.tup xs)):FW P w K H' h' a o:=by
 induction o with
 |lst xs=>obtain⟨z,its,n,r,e⟩:=x;exact⟨z,its,n,r,k _ _ (.inl rfl) e⟩
 |tup xs=>obtain⟨z,its,r,ob,e,c⟩:=x;exact⟨z,its,r,ob,k _ _ (.inl rfl) e,c⟩
 |Bg AX=>obtain⟨z,y,vs,r,ob,A5,BY,e,c⟩:=x;exact⟨z,y,vs,r,ob,A5,BY,k _ _ (.inl rfl) e,c⟩
 |Ai AX=>obtain⟨z,y,xs,r,ob,A5,BY,e,c⟩:=x;exact⟨z,y,xs,Paired.bb r λp q z=>⟨z.1,z.2.1.mono Aj,z.2.2⟩,ob,A5,BY,k _ _ (.inl rfl) e,c⟩
 |set S n=>obtain⟨ob,A5,BY,t,e,c⟩:=x;exact⟨ob,A5,BY,t,k _ _ (.inl rfl) e,c⟩
 |ins C Ag Ap=>obtain⟨d,z,ne,e,EJ,⟨EN,A5,BY,AM,c⟩,r⟩:=x;exact⟨ho _ d,z,ne,k _ _ (.inl rfl) e,EJ,⟨EN,A5,BY,k _ _ (.inr d) AM,c⟩,r⟩
 |own y=>obtain⟨ob,e⟩:=x;exact⟨ob,k _ _ (.inl rfl) e⟩
 |cT Ap=>obtain⟨EJ,⟨EN,A5,BY,e,c⟩,r⟩:=x;exact⟨EJ,⟨EN,A5,BY,k _ _ (.inl rfl) e,c⟩,r⟩
 |ax lo AD=>obtain⟨t,u,v,e⟩:=x;exact⟨t,u,v,k _ _ (.inl rfl) e⟩
 |LQ ob u CA=>obtain⟨e,q⟩:=x;exact⟨k _ _ (.inl rfl) e,CA q⟩
 |RI Aq=>have e:h.get? a=some { cls:=.none,data:=.fields Aq }:=x;show h'.get? a=some { cls:=.none,data:=.fields Aq };exact k a _ (.inl rfl) e
 |met f y=>have e:h.get? a=some (dO (.ref f) (.ref y)):=x;show h'.get? a=some (dO (.ref f) (.ref y));exact k a _ (.inl rfl) e
 |ext TZ=>obtain⟨p,⟨o,e⟩,st⟩:=x;exact⟨st _ _ p λo q=>k _ _ (.inl rfl) q,⟨o,k _ _ (.inl rfl) e⟩,st⟩
theorem Ei.lt(x:Ei P w K H h)(e:H a=some o):a<h.objs.size:=(x a o e).lt
def Ei.fresh(x:Ei P w K H h)(e:h.objs.size<=a):H a=none:=by
 cases q:H a with
 |none=>rfl
 |some u=>exact absurd (Hi (x.lt q) e) (KC _)
def Ei.kept(x:Ei P w K H h)(k:∀b u,h.get? b=some u->h'.get? b=some u):Ei P w K H h':=λa o e=>
 (x a o e).Q4 (λb u _ q=>k b u q) (λ_ q=>q) λ_ _ q=>q
def Ei.laid(x:Ei P w K H h)(k:∀b u,h.get? b=some u->h'.get? b=some u)(AZ:h.objs.size<=a)(new:FW P w K (upd H a o) h' a o):Ei P w K (upd H a o) h':=λb u e=>by
 have AV:=x.fresh AZ;by_cases A1:b=a
 .subst A1;rw[Dz]at e;cases e;exact new
 .rw[DV A1]at e;exact(x b u e).Q4 (λc v _ q=>k c v q) (λc q=>by rw[DV (K7 q AV)];exact q) λc xs q=>by rw[DV (K7 q AV)];exact q
end
def Eo(H:AC)(a:A7)(u:Du):Prop:=H a=some u\/∃o,H a=some (.LQ o u)
def Eo.ok{P:C2}{w:Bh}{K:A_}{H:AC}{h:BP}{a:A7}{u:Du}(r:Eo H a u)(x:Ei P w K H h):FW P w K H h a u:=by
 rcases r with r|⟨o,r⟩
 .exact x a u r
 .obtain⟨_,q⟩:=x a _ r;exact q
def U9:Option Du->Prop
 |some (.lst _)=>True
 |some (.Bg _)=>True
 |some (.Ai _)=>True
 |some (.set _ _)=>True
 |some (.ins _ _ _)=>True
 |some (.ext _)=>True
 |_=>False
section
variable{P:C2}{w:Bh}{K:A_}{H:AC}{h h':BP}{x e:A7}{o':Du}
def Ei.write(ok:Ei P w K H h)(K6:U9 (H x))(he:e=x\/H e=some (.own x))(k:∀b u,b≠e->h.get? b=some u->h'.get? b=some u)(TH:∃u,h'.get? e=some u)(new:FW P w K (upd H x o') h' x o'):Ei P w K (upd H x o') h':=λb u q=>by
 have jx:∀c y,H c=some (.own y)->c≠x:=λc y r z=>by subst z;rw[r]at K6;exact K6
 have yt:∀c xs,H c=some (.tup xs)->c≠x:=λc xs r z=>by subst z;rw[r]at K6;exact K6
 by_cases A1:b=x
 .subst A1;rw[Dz]at q;cases q;exact new
 .rw[DV A1]at q;by_cases Qc:b=e
  .have Gj:H b=some (.own x):=by
     rcases he with z|z
     .exact absurd (Qc.trans z) A1
     .rw[Qc];exact z
   rw[q]at Gj;cases Gj;obtain⟨v,Bc⟩:=TH;exact⟨v,by rw[Qc];exact Bc⟩
  .refine(ok b u q).Q4 (λc v AK r=>k c v ?_ r) (λc r=>by rw[DV (jx c b r)];exact r) λc xs r=>by rw[DV (yt c xs r)];exact r
   rcases AK with rfl|AK
   .exact Qc
   .rintro rfl;rcases he with z|z
    .exact jx c b AK z
    .rw[AK]at z;cases z;exact A1 rfl
end
structure GP(Ap ex:List A7)(H H':AC)(h h':BP):Prop where
 keep:∀b o,h.get? b=some o->H b=none->b∉Ap->b∉ex->h'.get? b=some o
 slot:∀b o,h.get? b=some o->H b=none->b∈Ap->b∉ex->∃CE,h'.get? b=some { o with slots:=CE }
 free:∀b o,h.get? b=some o->H b=none->b∉ex->H' b=none
 there:∀b o,h.get? b=some o->b∉ex->∃o',h'.get? b=some o'
 OJ:∀b xs,H b=some (.tup xs)->H' b=some (.tup xs)
 NB:∀b o u,H b=some (.LQ o u)->H' b=some (.LQ o u)
 OH:∀b Aq,H b=some (.RI Aq)->∃more,H' b=some (.RI (Aq++more))
section
variable{Ap ib ex afS:List A7}{H H1 Az:AC}{h A6 AA h':BP}{a x e:A7}{o:Du}
def GP.any(u:GP Ap ex H H1 h A6){b:A7}{ob:Obj}(q:h.get? b=some ob)(n:H b=none)(AI:b∉ex):∃CE,A6.get? b=some { ob with slots:=CE }:=by
 by_cases A1:b∈Ap
 .exact u.slot b ob q n A1 AI
 .exact⟨ob.slots,u.keep b ob q n A1 AI⟩
def GP.kept(k:∀b u,h.get? b=some u->h'.get? b=some u):GP Ap ex H H h h':=
 ⟨λb ob q _ _ _=>k b ob q,λb ob q _ _ _=>⟨ob.slots,k b ob q⟩,λ_ _ _ n _=>n,λb ob q _=>⟨ob,k b ob q⟩,λ_ _ q=>q,λ_ _ _ q=>q,λ_ Aq q=>⟨#[],by rw[q];simp⟩⟩
def GP.refl:GP Ap ex H H h h:=GP.kept λ_ _ q=>q
def GP.laid(k:∀b u,h.get? b=some u->h'.get? b=some u)(AZ:h.objs.size<=a)(AV:H a=none):GP Ap ex H (upd H a o) h h' where
 keep:=λb u q _ _ _=>k b u q
 slot:=λb u q _ _ _=>⟨u.slots,k b u q⟩
 free:=λb u q n _=>by rw[DV (FD (Hi (D_ q) AZ))];exact n
 there:=λb u q _=>⟨u,k b u q⟩
 OJ:=λb xs q=>by rw[DV (K7 q AV)];exact q
 NB:=λb u xs q=>by rw[DV (K7 q AV)];exact q
 OH:=λb Aq q=>⟨#[],by rw[DV (K7 q AV),q];simp⟩
def GP.write(K6:U9 (H x))(he:e=x\/H e=some (.own x))(k:∀b u,b≠e->h.get? b=some u->h'.get? b=some u)(TH:∃u,h'.get? e=some u):GP Ap ex H (upd H x o) h h':=by
 have AI:∀b,H b=none->b≠x:=λb n z=>by subst z;rw[n]at K6;exact K6
 have A1:∀b,H b=none->b≠e:=λb n z=>by
  subst z;rcases he with r|r
  .exact AI b n r
  .rw[n]at r;cases r
 have hm:∀b u,H b=some u->¬U9 (some u)->b≠x:=λb u q nm z=>by subst z;rw[q]at K6;exact nm K6
 refine⟨λb u q n _ _=>k b u (A1 b n) q,λb u q n _ _=>⟨u.slots,k b u (A1 b n) q⟩,λb u q n _=>by rw[DV (AI b n)];exact n,λb u q _=>?_,
  λb xs q=>by rw[DV (hm b _ q λz=>z)];exact q,λb u xs q=>by rw[DV (hm b _ q λz=>z)];exact q,λb Aq q=>⟨#[],by rw[DV (hm b _ q λz=>z),q];simp⟩⟩
 by_cases Qc:b=e
 .subst Qc;exact TH
 .exact⟨u,k b u Qc q⟩
end
def ZZ(h:BP)(H:AC):List A7:=(Ds h.objs.size).filter λa=>(H a).isSome
def Nv(h:BP)(H:AC):BP:=PySem.W.hideAll h (ZZ h H)
def uk(h:BP)(H:AC):(Nv h H).objs.size=h.objs.size:=PySem.W.hideAll_size _ _
def uj{h:BP}{H:AC}{b:A7}{o:Obj}(e:h.get? b=some o)(n:H b=none):(Nv h H).get? b=some o:=
 PySem.W.hideAll_get _ e λhm=>by have q:(H b).isSome=true:=(List.mem_filter.mp hm).2;rw[n]at q;simp at q
def y8{h:BP}{H:AC}{b:A7}{o:Obj}(e:(Nv h H).get? b=some o):h.get? b=some o/\H b=none:=by
 have Bp:h.get? b=some o:=PySem.W.of_hideAll (ZZ h H) e;refine⟨Bp,?_⟩;cases q:H b with
 |none=>rfl
 |some x=>have hm:b∈ZZ h H:=List.mem_filter.mpr ⟨List.mem_range.mpr (D_ Bp),by simp[q]⟩;have z:(Nv h H).get? b=none:=PySem.W.hideAll_none (ZZ h H) hm;rw[z]at e;cases e
def qo(g h:BP)(L:A7):List (A7×Obj):=(Ds h.objs.size).filterMap λa=>if a=L\/(g.get? a).isSome=true then none else(h.get? a).map λo=>(a,o)
def rest(g h:BP)(L d:A7):List (A7×Obj):=(qo g h L).filter λp=>decide (p.1≠d)
structure Mod(K:A_)(mg:Str->Option A8)(base:BP):Prop where
 Kf:K.In base
 glob:base.Ns FE mg
 blt:∃Gr,base.Ns builtinsNs Gr/\∀x:Str,x≠"__name__"->Gr x=Ku x
 nolimit:base.NoLimit
structure Ac where
 prog:C2
 w:Bh
 K:A_
 mg:Str->Option A8
 base:BP
 A:CR
 N:List Str
 GI:AQ
 U4:AC
 env:Env
 outer:List Env
 stack:List Env
 ex:List A7
 fn:Str->Bool
 calm:Bool
 BX:List (A7×Obj)
 xe:A8->AQ->Prop
def LP(l:List Env):List A7:=l.filterMap (·.frame)
abbrev Ac.Ap(X:Ac):List A7:=LP X.outer
def G_(sc:E6)(x:Str):Prop:=sc.names.lookup x=some .local\/sc.names.lookup x=some .cell\/sc.names.lookup x=some .free
def Loc(sc:E6)(x:Str):Prop:=sc.names.lookup x=some .local\/sc.names.lookup x=some .cell
noncomputable def Look(env:Env)(h:BP)(m:Str->Option A8)(x:Str)(u:A8):Prop:=
 (env.kindOf x=some .local/\m x=some u)\/((env.kindOf x=some .cell\/env.kindOf x=some .free)/\∃c,env.cells.lookup x=some c/\h.IsCell c (some u))
structure Ac.Ok(X:Ac):Prop where
 mod:Mod X.K X.mg X.base
 kind:X.env.scope.kind=.function
 glob:X.env.globals=FE
 blt:X.env.builtins=builtinsNs
 above:X.GI.heap.objs.size<=X.env.locals
 inj:∀x y c,X.env.cells.lookup x=some c->X.env.cells.lookup y=some c->x=y
 has:∀x,(X.env.kindOf x=some .cell\/X.env.kindOf x=some .free)->∃c,X.env.cells.lookup x=some c
 Tz:∀x c,X.fn x=true->X.env.cells.lookup x=some c->X.GI.heap.objs.size<=c
 hd:X.calm=true->X.A.handled=none
 frames:X.A.frames=some X.stack
 RE:X.stack=X.outer\/(X.stack=X.env::X.outer/\X.env.frame=some X.env.locals)
 gu:∀b∈X.ex,b≠X.env.locals/\∀x c,X.env.cells.lookup x=some c->c≠b
 bs:∀b o,X.base.get? b=some o->X.GI.heap.get? b=some o/\X.U4 b=none
 Pm:X.base.objs.size<=X.GI.heap.objs.size
 R6:∀b o,X.base.get? b=some o->b∉X.ex
 YM:∀b∈X.ex,b∉X.Ap
 LS:X.GI.heap.FunFrames X.base X.outer
 QZ:∀b∈X.Ap,X.U4 b=none
structure Inv(X:Ac)(pins:List (A7×Obj))(σ :List (Option V))(H:AC)(s:AQ):Prop where
 ok:X.Ok
 os:s.os=X.GI.os
 bare:NY s.gens
 base:GP X.Ap X.ex X.U4 H X.GI.heap s.heap
 loc:∃m,s.heap.Ns X.env.locals m/\∀(i:Nat)(x:Str)(v:V),X.N[i]?=some x-> σ[i]?=some (some v)->G_ X.env.scope x->∃u,RelV v u/\Look X.env s.heap m x u
 cell:∀x c,X.env.cells.lookup x=some c->∃v,s.heap.IsCell c v
 free:H X.env.locals=none
 N9:∀x c,X.env.cells.lookup x=some c->H c=none
 pin:∀p∈X.BX++pins,s.heap.get? p.1=some p.2/\H p.1=none/\p.1≠X.env.locals/\p.1∉X.Ap/\∀v,p.2.data≠.cell v
 Be:Ei X.prog X.w X.K H s.heap
 len: σ.length=X.N.length
section
variable{X:Ac}{pins:List (A7×Obj)}{σ :List (Option V)}{H H':AC}{s:AQ}{h':BP}
def Ac.Ok.ym(ok:X.Ok){b:A7}{o:Obj}(e:X.base.get? b=some o):b∉X.Ap:=λA1=>by have:=(ok.LS.mem A1).1;rw[e]at this;cases this
theorem Inv.bs(I:Inv X pins σ H s):∀b o,X.base.get? b=some o->s.heap.get? b=some o/\H b=none:=λb o e=>
 ⟨I.base.keep b o (I.ok.bs b o e).1 (I.ok.bs b o e).2 (I.ok.ym e) (I.ok.R6 b o e),I.base.free b o (I.ok.bs b o e).1 (I.ok.bs b o e).2 (I.ok.R6 b o e)⟩
def Inv.Fn(I:Inv X pins σ H s):∀b o,X.base.get? b=some o->s.heap.get? b=some o:=λb o e=>(I.bs b o e).1
theorem Inv.mod(I:Inv X pins σ H s):Mod X.K X.mg X.base:=I.ok.mod
def Inv.EQ(I:Inv X pins σ H s):X.K.In s.heap:=I.ok.mod.Kf.keeps I.Fn
theorem Inv.lt(I:Inv X pins σ H s):X.env.locals<s.heap.objs.size:=let⟨_,AV,_⟩:=I.loc;AV.lt
def Inv.Yc(I:Inv X pins σ H s):X.GI.heap.objs.size<=s.heap.objs.size:=FT I.ok.above (Tr I.lt)
def Inv.yo(I:Inv X pins σ H s){a:A7}(h:s.heap.objs.size<=a):a∉X.Ap:=λA1=>by obtain⟨_,o,ho,_⟩:=I.ok.LS.mem A1;exact absurd (Hi (D_ ho) (FT I.Yc h)) (KC _)
def Inv.Qt(I:Inv X pins σ H s):∀x c,X.env.cells.lookup x=some c->c≠X.env.locals:=λx c e z=>by obtain⟨v,o,ho,hd⟩:=I.cell x c e;obtain⟨m,⟨o',A5,BY,F9,Il,_⟩,_⟩:=I.loc;rw[z,F9]at ho;cases ho;rw[Il]at hd;cases hd
theorem Inv.LS(I:Inv X pins σ H s):s.heap.FunFrames X.base X.outer:=by
 have all:∀(l:List Env),(∀b∈LP l,b∈X.Ap)->X.GI.heap.FunFrames X.base l->s.heap.FunFrames X.base l:=by
  intro l;induction l with
  |nil=>intro _ _;trivial
  |cons env r CA=>intro AJ AN;obtain⟨AF,⟨L,o,hf,AV,ho,hd⟩,B3⟩:=AN;have HJ:L∈X.Ap:=AJ L (by unfold LP;rw[d6,hf];exact MS);obtain⟨CE,e⟩:=I.base.slot L o ho (I.ok.QZ L HJ) HJ λz=>I.ok.YM L z HJ;exact⟨AF,⟨L,_,hf,AV,e,hd⟩,CA (λb A1=>AJ b (by unfold LP;rw[d6,hf];exact Ff _ A1)) B3⟩
 exact all X.outer (λ_ A1=>A1) I.ok.LS
theorem Inv.stack(I:Inv X pins σ H s):s.heap.FunFrames X.base X.stack:=by
 rcases I.ok.RE with e|⟨e,hf⟩
 .rw[e];exact I.LS
 .rw[e];obtain⟨m,AV,_⟩:=I.loc;refine .cons (by rw[I.ok.kind];decide) hf AV ?_ I.LS;exact Heap.get?_none_of_le (FT I.ok.Pm I.ok.above)
def Inv.Z9(I:Inv X pins σ H s):∀b∈LP X.stack,b∈X.env.locals::X.Ap:=λb A1=>by
 rcases I.ok.RE with e|⟨e,hf⟩
 .rw[e]at A1;exact Ff _ A1
 .rw[e]at A1;unfold LP at A1;rw[d6,hf]at A1;exact A1
def Inv.nM(I:Inv X pins σ H s):∀b∈LP X.stack,H b=none:=λb A1=>by
 rcases List.mem_cons.mp (I.Z9 b A1)with e|A1
 .rw[e];exact I.free
 .obtain⟨_,o,ho,_⟩:=I.ok.LS.mem A1;exact I.base.free b o ho (I.ok.QZ b A1) λz=>I.ok.YM b z A1
def Inv.step{g':Array GenState}{t':Nat}{d':Drawn}{ch:List A7}(I:Inv X pins σ H s)(ND:∀b∈ch,(b∈X.ex\/X.GI.heap.objs.size<=b)/\b≠X.env.locals/\(∀x c,X.env.cells.lookup x=some c->c≠b)/\∀p∈X.BX++pins,p.1≠b)(keep:∀b o,b≠X.env.locals->b∉X.Ap->b∉ch->s.heap.get? b=some o->H b=none->h'.get? b=some o)(slot:∀b o,b≠X.env.locals->b∈X.Ap->b∉ch->s.heap.get? b=some o->H b=none->∃CE,h'.get? b=some { o with slots:=CE })(free:∀b o,b∉ch->s.heap.get? b=some o->H b=none->H' b=none)(there:∀b o,b∉ch->s.heap.get? b=some o->∃o',h'.get? b=some o')(OJ:∀b xs,H b=some (.tup xs)->H' b=some (.tup xs))(NB:∀b o u,H b=some (.LQ o u)->H' b=some (.LQ o u))(OH:∀b Aq,H b=some (.RI Aq)->∃more,H' b=some (.RI (Aq++more)))(ns:∀m,s.heap.Ns X.env.locals m->h'.Ns X.env.locals m)(Be:Ei X.prog X.w X.K H' h')(Ad:NY g') :
  Inv X pins σ H' { s with heap:=h',gens:=g',drawn:=d',toks:=t' }:=by
 have kf:∀b o,X.GI.heap.get? b=some o->b≠X.env.locals:=λb o e=>FD (Hi (D_ e) I.ok.above);have ZM:∀b o,X.GI.heap.get? b=some o->b∉X.ex->b∉ch:=λb o e AI A1=>by
  rcases(ND b A1).1 with z|z
  .exact AI z
  .exact absurd (Hi (D_ e) z) (KC _)
 have cellK:∀x c,X.env.cells.lookup x=some c->∀v,s.heap.IsCell c v->h'.IsCell c v:=λx c e v⟨o,ho,hd⟩=>by
  have Vu:c∉ch:=λz=>(ND c z).2.2.1 x c e rfl;by_cases AK:c∈X.Ap
  .obtain⟨CE,q⟩:=slot c o (I.Qt x c e) AK Vu ho (I.N9 x c e);exact⟨_,q,hd⟩
  .exact⟨o,keep c o (I.Qt x c e) AK Vu ho (I.N9 x c e),hd⟩
 refine⟨I.ok,I.os,Ad,⟨λb o e n A1 AI=>?_,λb o e n A1 AI=>?_,λb o e n AI=>?_,λb o e AI=>?_,λb xs e=>OJ b xs (I.base.OJ b xs e),λb o xs e=>NB b o xs (I.base.NB b o xs e),λb Aq e=>?_⟩,?_,λx c e=>?_,?_,λx c e=>?_,λp AZ=>?_,Be,I.len⟩
 .exact keep b o (kf b o e) A1 (ZM b o e AI) (I.base.keep b o e n A1 AI) (I.base.free b o e n AI)
 .obtain⟨CE,A9⟩:=I.base.slot b o e n A1 AI;obtain⟨abA,AM⟩:=slot b _ (kf b o e) A1 (ZM b o e AI) A9 (I.base.free b o e n AI);exact⟨abA,AM⟩
 .obtain⟨o',A9⟩:=I.base.there b o e AI;exact free b o' (ZM b o e AI) A9 (I.base.free b o e n AI)
 .obtain⟨o',A9⟩:=I.base.there b o e AI;exact there b o' (ZM b o e AI) A9
 .obtain⟨Ja,A9⟩:=I.base.OH b Aq e;obtain⟨Jb,AM⟩:=OH b _ A9;exact⟨Ja++Jb,by rw[AM,Array.append_assoc]⟩
 .obtain⟨m,AV,AN⟩:=I.loc;refine⟨m,ns m AV,λi x v A9 AM BD=>?_⟩;obtain⟨u,r,l⟩:=AN i x v A9 AM BD;refine⟨u,r,?_⟩;rcases l with l|⟨k,c,e,z⟩
  .exact .inl l
  .exact .inr ⟨k,c,e,cellK x c e _ z⟩
 .obtain⟨v,z⟩:=I.cell x c e;exact⟨v,cellK x c e v z⟩
 .obtain⟨m,⟨o,_,_,ho,_⟩,_⟩:=I.loc;exact free _ o (λz=>(ND _ z).2.1 rfl) ho I.free
 .obtain⟨v,o,ho,hd⟩:=I.cell x c e;exact free c o (λz=>(ND c z).2.2.1 x c e rfl) ho (I.N9 x c e)
 .obtain⟨e,n,ne,Km,d⟩:=I.pin p AZ;have Vu:p.1∉ch:=λz=>(ND p.1 z).2.2.2 p AZ rfl;exact⟨keep p.1 p.2 ne Km Vu e n,free p.1 p.2 Vu e n,ne,Km,d⟩
def Inv.un{t':Nat}(I:Inv X pins σ H s)(u:GP X.Ap [] H H' s.heap h')(Be:Ei X.prog X.w X.K H' h'):Inv X pins σ H' { s with heap:=h',toks:=t' }:=by
 obtain⟨m,⟨o,A5,BY,ho,r⟩,_⟩:=id I.loc;obtain⟨CE,HJ⟩:=u.any ho I.free (by simp);exact I.step (g':=s.gens) (d':=s.drawn) (ch:=[]) (λ_ z=>nomatch z) (λb o _ A1 _ e n=>u.keep b o e n A1 (by simp)) (λb o _ A1 _ e n=>u.slot b o e n A1 (by simp)) (λb o _ e n=>u.free b o e n (by simp)) (λb o _ e=>u.there b o e (by simp)) u.OJ u.NB u.OH (λEt hm=>by obtain⟨o',V3,en,F9,BS⟩:=hm;rw[ho]at F9;cases F9;exact⟨_,V3,en,HJ,BS⟩) Be I.bare
def Inv.call{g':Array GenState}{t':Nat}{d':Drawn}{ch:List A7}(I:Inv X pins σ H s)(u:GP (LP X.stack) ch H H' s.heap h')(Be:Ei X.prog X.w X.K H' h')(Ad:NY g')(ND:∀b∈ch,(b∈X.ex\/X.GI.heap.objs.size<=b)/\b≠X.env.locals/\(∀x c,X.env.cells.lookup x=some c->c≠b)/\∀p∈X.BX++pins,p.1≠b) :
  Inv X pins σ H' { s with heap:=h',gens:=g',drawn:=d',toks:=t' }:=by
 obtain⟨m,⟨o,A5,BY,ho,r⟩,_⟩:=id I.loc;obtain⟨CE,HJ⟩:=u.any ho I.free λz=>(ND _ z).2.1 rfl;exact I.step (ch:=ch) ND (λb o HJ A1 AK e n=>u.keep b o e n (λz=>(List.mem_cons.mp (I.Z9 b z)).elim HJ A1) AK) (λb o _ _ AK e n=>u.any e n AK) (λb o AK e n=>u.free b o e n AK) (λb o AK e=>u.there b o e AK) u.OJ u.NB u.OH (λEt hm=>by obtain⟨o',V3,en,F9,BS⟩:=hm;rw[ho]at F9;cases F9;exact⟨_,V3,en,HJ,BS⟩) Be Ad
def Inv.turned{t':Nat}{it:A7}(I:Inv X pins σ H s)(k:∀b o,b≠it->s.heap.get? b=some o->h'.get? b=some o)(AV:H it=none)(HJ:it≠X.env.locals)(A6:it∈X.ex\/X.GI.heap.objs.size<=it)(AA:∀x c,X.env.cells.lookup x=some c->c≠it)(B4:∀p∈X.BX++pins,p.1≠it):Inv X pins σ H { s with heap:=h',toks:=t' }:=by
 have PZ:∀b u,H b=some u->b≠it:=λb u e z=>by rw[z,AV]at e;cases e
 refine I.step (g':=s.gens) (d':=s.drawn) (ch:=[it]) (λb A1=>?_) (λb o _ _ AK e _=>k b o (λz=>AK (by simp[z])) e) (λb o _ _ AK e _=>⟨o.slots,k b o (λz=>AK (by simp[z])) e⟩) (λ_ _ _ _ n=>n)
  (λb o AK e=>⟨o,k b o (λz=>AK (by simp[z])) e⟩) (λ_ _ e=>e) (λ_ _ _ e=>e) (λb Aq e=>⟨#[],by rw[e];simp⟩) (λm hm=>?_) (λb u e=>?_) I.bare
 .have e:b=it:=by simpa using A1
  subst e;exact⟨A6,HJ,AA,B4⟩
 .obtain⟨o,A5,BY,ho,r⟩:=hm;exact⟨o,A5,BY,k _ o (Hl HJ) ho,r⟩
 .refine(I.Be b u e).Q4 (λc v AK q=>k c v ?_ q) (λ_ q=>q) λ_ _ q=>q;rcases AK with z|z
  .rw[z];exact PZ b u e
  .exact PZ c _ z
def Inv.tok(I:Inv X pins σ H s)(t:Nat):Inv X pins σ H { s with toks:=t }:=I.un (h':=s.heap) (t':=t) GP.refl I.Be
theorem Inv.kept{t':Nat}(I:Inv X pins σ H s)(k:∀b u,s.heap.get? b=some u->h'.get? b=some u):Inv X pins σ H { s with heap:=h',toks:=t' }:=I.un (GP.kept k) (I.Be.kept k)
theorem Inv.laid{a:A7}{o:Du}{t':Nat}(I:Inv X pins σ H s)(k:∀b u,s.heap.get? b=some u->h'.get? b=some u)(AZ:s.heap.objs.size<=a)(new:FW X.prog X.w X.K (upd H a o) h' a o) :
  Inv X pins σ (upd H a o) { s with heap:=h',toks:=t' }:=I.un (GP.laid k AZ (I.Be.fresh AZ)) (I.Be.laid k AZ new)
theorem Inv.write{x e:A7}{o:Du}{t':Nat}(I:Inv X pins σ H s)(K6:U9 (H x))(he:e=x\/H e=some (.own x))(k:∀b u,b≠e->s.heap.get? b=some u->h'.get? b=some u)(TH:∃u,h'.get? e=some u)(new:FW X.prog X.w X.K (upd H x o) h' x o):Inv X pins σ (upd H x o) { s with heap:=h',toks:=t' }:=I.un (GP.write K6 he k TH) (I.Be.write K6 he k TH new)
def Inv.kL{ju:List (A7×Obj)}(I:Inv X pins σ H s)(h:∀p∈ju,s.heap.get? p.1=some p.2/\H p.1=none/\p.1≠X.env.locals/\p.1∉X.Ap/\∀v,p.2.data≠.cell v):Inv X ju σ H s:=
 ⟨I.ok,I.os,I.bare,I.base,I.loc,I.cell,I.free,I.N9,λp AZ=>(List.mem_append.mp AZ).elim (λz=>I.pin p (Fu _ z)) (h p),I.Be,I.len⟩
def jv{N:List Str}(hN:N.Nodup){i j:Nat}{x:Str}(a:N[i]?=some x)(b:N[j]?=some x):i=j:=by obtain⟨A6,A9⟩:=List.getElem?_eq_some_iff.mp a;obtain⟨AA,AM⟩:=List.getElem?_eq_some_iff.mp b;exact(List.getElem_inj hN).mp (A9.trans AM.symm)
def nO{M:Model}{A:CR}{E:A8->AQ->Prop}{i:Nat}{x:Str}{v:V}{u:A8}{Q:Unit->AQ->Prop}(I:Inv X pins σ H s)(hN:X.N.Nodup)(AD:X.N[i]?=some x)(AI:Loc X.env.scope x)(r:RelV v u)(h:∀s',Inv X pins (σ.set i (some v)) H s'->(∃a,Iz a s.heap s'.heap/\(a=X.env.locals\/X.env.cells.lookup x=some a))->Q () s')(hf:X.fn x=true\/X.env.scope.names.lookup x=some .local:=by first|exact .inl rfl|exact .inr rfl|assumption):Al M A (storeName X.env x u) Q E s:=by
 obtain⟨m,AV,AN⟩:=id I.loc;have t6:(X.env.scope.kind==.class||(X.env.scope.kind==.module&&X.env.locals !=X.env.globals))=false:=by rw[I.ok.kind];rfl
 have ADσ :i< σ.length:=by rw[I.len];exact(List.getElem?_eq_some_iff.mp AD).1
 have Qt:=I.Qt;have tracked:∀{a:A7}{h':BP},(∃o,s.heap.get? a=some o/\H a=none)->Iz a s.heap h'->Ei X.prog X.w X.K H h':=λ{a h'} AB AJ b ob e=>by
  obtain⟨_,_,Y2⟩:=AB;refine(I.Be b ob e).Q4 (λc Fd AK q=>(AJ.2 c ?_).trans q) (λ_ q=>q) λ_ _ q=>q;rintro rfl;rcases AK with rfl|AK
  .rw[Y2]at e;cases e
  .rw[Y2]at AK;cases AK
 rcases AI with AF|AF
 .refine wpAny_storeName_local AF AV (λh' uy AJ=>?_) t6;obtain⟨y5,_,_,v6,_⟩:=id AV;refine h _ ⟨I.ok,I.os,I.bare,⟨λb o e n A1 AI=>?_,λb o e n A1 AI=>?_,I.base.free,λb o e AI=>?_,I.base.OJ,I.base.NB,I.base.OH⟩,⟨_,uy,λj y N0 A9 AM BD=>?_⟩,λy c e=>?_,I.free,I.N9,λp AZ=>?_,tracked ⟨y5,v6,I.free⟩ AJ,by simpa using I.len⟩ ⟨_,AJ,.inl rfl⟩
  .exact(AJ.2 b (FD (Hi (D_ e) I.ok.above))).trans (I.base.keep b o e n A1 AI)
  .obtain⟨CE,A9⟩:=I.base.slot b o e n A1 AI;exact⟨CE,(AJ.2 b (FD (Hi (D_ e) I.ok.above))).trans A9⟩
  .obtain⟨o',A9⟩:=I.base.there b o e AI;exact⟨o',(AJ.2 b (FD (Hi (D_ e) I.ok.above))).trans A9⟩
  .by_cases Bz:j=i
   .subst Bz;rw[AD]at A9;cases A9;rw[WD ADσ]at AM;cases AM;exact⟨u,r,.inl ⟨AF,by simp⟩⟩
   .rw[Rx (Hl Bz)]at AM;obtain⟨GK,BS,q⟩:=AN j y N0 A9 AM BD;refine⟨GK,BS,?_⟩;rcases q with⟨k,e⟩|⟨k,c,e,z⟩
    .refine .inl ⟨k,?_⟩;have:y≠x:=λe=>Bz (jv hN A9 (e▸AD));simp[this,e]
    .exact .inr ⟨k,c,e,z.sameBut AJ (Qt y c e)⟩
  .obtain⟨Fd,z⟩:=I.cell y c e;exact⟨Fd,z.sameBut AJ (Qt y c e)⟩
  .obtain⟨e,n,ne,Km,d⟩:=I.pin p AZ;exact⟨(AJ.2 p.1 ne).trans e,n,ne,Km,d⟩
 .have ai:X.fn x=true:=by
    rcases hf with z|z
    .exact z
    .rw[z]at AF;cases AF
  obtain⟨c,AK⟩:=I.ok.has x (.inl AF);obtain⟨Fd,z⟩:=I.cell x c AK;refine wpAny_storeName_cell I.ok.kind AF AK z (λh' LU AJ=>?_);obtain⟨I9,iI,uC⟩:=id z;refine h { s with heap:=h' } ⟨I.ok,I.os,I.bare,⟨λb o e n A1 AI=>?_,λb o e n A1 AI=>?_,I.base.free,λb o e AI=>?_,I.base.OJ,I.base.NB,I.base.OH⟩,⟨m,AV.sameBut AJ (Hl (Qt x c AK)),λj y N0 A9 AM BD=>?_⟩,λy Dp e=>?_,I.free,I.N9,λp AZ=>?_,tracked ⟨I9,iI,I.N9 x c AK⟩ AJ,by simpa using I.len⟩ ⟨c,AJ,.inr AK⟩
  .exact(AJ.2 b (FD (Hi (D_ e) (I.ok.Tz x c ai AK)))).trans (I.base.keep b o e n A1 AI)
  .obtain⟨CE,A9⟩:=I.base.slot b o e n A1 AI;exact⟨CE,(AJ.2 b (FD (Hi (D_ e) (I.ok.Tz x c ai AK)))).trans A9⟩
  .obtain⟨o',A9⟩:=I.base.there b o e AI;exact⟨o',(AJ.2 b (FD (Hi (D_ e) (I.ok.Tz x c ai AK)))).trans A9⟩
  .by_cases Bz:j=i
   .subst Bz;rw[AD]at A9;cases A9;rw[WD ADσ]at AM;cases AM;exact⟨u,r,.inr ⟨.inl AF,c,AK,LU⟩⟩
   .rw[Rx (Hl Bz)]at AM;obtain⟨GK,BS,q⟩:=AN j y N0 A9 AM BD;refine⟨GK,BS,?_⟩;rcases q with q|⟨k,Dp,e,G3⟩
    .exact .inl q
    .refine .inr ⟨k,Dp,e,G3.sameBut AJ ?_⟩;rintro rfl;exact Bz (jv hN A9 (I.ok.inj _ _ _ e AK▸AD))
  .by_cases iA:Dp=c
   .subst iA;exact⟨_,LU⟩
   .obtain⟨F3,Dh⟩:=I.cell y Dp e;exact⟨F3,Dh.sameBut AJ iA⟩
  .obtain⟨e,n,ne,Km,d⟩:=I.pin p AZ;refine⟨(AJ.2 p.1 ?_).trans e,n,ne,Km,d⟩;intro q;rw[q,iI]at e;have Gj:I9=p.2:=Eh e;exact d Fd (by rw[<-Gj];exact uC)
def nN{M:Model}{A:CR}{E:A8->AQ->Prop}{i:Nat}{x:Str}{v:V}{u:A8}{Q:Unit->AQ->Prop}(I:Inv X pins σ H s)(hN:X.N.Nodup)(AD:X.N[i]?=some x)(AI:Loc X.env.scope x)(r:RelV v u)(h:∀s',Inv X pins (σ.set i (some v)) H s'->Q () s')(hf:X.fn x=true\/X.env.scope.names.lookup x=some .local:=by first|exact .inl rfl|exact .inr rfl|assumption):Al M A (storeName X.env x u) Q E s:=
 nO I hN AD AI r (λs' Mc _=>h s' Mc) hf
def Inv.pz{s':AQ}{ch:List A7}(I:Inv X pins σ H s)(ho:s'.os=s.os)(u:GP (LP X.stack) ch H H' s.heap s'.heap)(Be:Ei X.prog X.w X.K H' s'.heap)(Ad:NY s'.gens)(ND:∀b∈ch,(b∈X.ex\/X.GI.heap.objs.size<=b)/\b≠X.env.locals/\(∀x c,X.env.cells.lookup x=some c->c≠b)/\∀p∈X.BX++pins,p.1≠b):Inv X pins σ H' s':=by obtain⟨h',g',d',t',o'⟩:=s';have e:o'=s.os:=ho;subst e;exact I.call (g':=g') (t':=t') (d':=d') u Be Ad ND
end
abbrev DP:=A8->Option A7->AC->Prop
abbrev St:=List (Option V)
abbrev Cc:=V->AC->Prop
abbrev TE:=St->AC->Cc->Prop
abbrev TT:=St->AC->(Bool->AC->Prop)->Prop
abbrev Ez:=St->AC->(List V->AC->Prop)->Prop
structure Ends where
 Ay:St->AC->Prop
 ES:Cc
 Fn:St->AC->Prop:=λ_ _=>False
 Dr:St->AC->Prop:=λ_ _=>False
abbrev FJ:=Ends->St->AC->Prop
def GL(X:Ac)(pins:List (A7×Obj))(σ :St)(Q:Cc)(u:A8)(s':AQ):Prop:=∃v H',Inv X pins σ H' s'/\RelV v u/\Q v H'
def XS(X:Ac)(pins:List (A7×Obj))(σ :St)(Q:Bool->AC->Prop)(b:Bool)(s':AQ):Prop:=∃H',Inv X pins σ H' s'/\Q b H'
def gX(X:Ac)(pins:List (A7×Obj))(σ :St)(Q:List V->AC->Prop)(us:List A8)(s':AQ):Prop:=∃vs H',Inv X pins σ H' s'/\Vals vs us/\Q vs H'
noncomputable def Qo(X:Ac)(pins:List (A7×Obj))(D:Ends)(f:Flow)(s':AQ):Prop:=
 match f with
 |.next=>∃ σ' H',Inv X pins σ' H' s'/\D.Ay σ' H'
 |.brk=>∃ σ' H',Inv X pins σ' H' s'/\D.Fn σ' H'
 |.cont=>∃ σ' H',Inv X pins σ' H' s'/\D.Dr σ' H'
 |.ret u=>∃v σ' H',Inv X pins σ' H' s'/\RelV v u/\D.ES v H'
def Ax(X:Ac)(e:AT)(t:TE):Prop:=
 ∀(pins:List (A7×Obj))(s:AQ)(σ :St)(H:AC)(Q:Cc),Inv X pins σ H s->t σ H Q->Al (BG X.prog X.w) X.A (BN e X.env) (GL X pins σ Q) X.xe s
noncomputable def FX(X:Ac)(e:AT)(t:TT):Prop:=
 ∀(pins:List (A7×Obj))(s:AQ)(σ :St)(H:AC)(Q:Bool->AC->Prop),Inv X pins σ H s->t σ H Q->Al (BG X.prog X.w) X.A (isTrue e X.env (BN e X.env)) (XS X pins σ Q) X.xe s
noncomputable def JD(X:Ac)(e:AT)(t:TT):Prop:=
 ∀(whole:Sem A8)(pins:List (A7×Obj))(s:AQ)(σ :St)(H:AC)(Q:Bool->AC->Prop),Inv X pins σ H s->t σ H Q->Al (BG X.prog X.w) X.A (isTrue e X.env whole) (XS X pins σ Q) X.xe s
def JD.pt{X:Ac}{e:AT}{t:TT}(h:JD X e t):FX X e t:=h _
noncomputable def GN(X:Ac)(A5:List AT)(t:Ez):Prop:=
 ∀(pos:Pos)(pins:List (A7×Obj))(s:AQ)(σ :St)(H:AC)(Q:List V->AC->Prop),Inv X pins σ H s->t σ H Q->Al (BG X.prog X.w) X.A (spliced (DC pos (BI A5 X.env))) (gX X pins σ Q) X.xe s
def DH(X:Ac)(st:Bb)(t:FJ):Prop:=
 ∀(pins:List (A7×Obj))(s:AQ)(σ :St)(H:AC)(D:Ends),Inv X pins σ H s->t D σ H->Al (BG X.prog X.w) X.A (exec st X.env) (Qo X pins D) X.xe s
def GO(X:Ac)(st:List Bb)(t:FJ):Prop:=
 ∀(pins:List (A7×Obj))(s:AQ)(σ :St)(H:AC)(D:Ends),Inv X pins σ H s->t D σ H->Al (BG X.prog X.w) X.A (execs st X.env) (Qo X pins D) X.xe s
def Bd{α:Type}{t:Sem α}{Q P3:α->AQ->Prop}{M:Model}{A:CR}{E:A8->AQ->Prop}{s:AQ}(h:Al M A t Q E s)(Dk:∀a s,Q a s->P3 a s):Al M A t P3 E s:=Jq h Dk λ_ _ x=>x
section
variable{X:Ac}
def bin{a b:AT}{CB tb:TE}(AB:Ax X a CB)(A1:Ax X b tb){pins:List (A7×Obj)}{s:AQ}{σ :St}{H:AC}{R:V->V->AC->Prop}(I:Inv X pins σ H s)(h:CB σ H λx H1=>tb σ H1 λy Az=>R x y Az){α:Type}{Q:α->AQ->Prop}{f:A8->A8->Sem α}(hf:∀v u s2 x y Az,Inv X pins σ Az s2->RelV x v->RelV y u->R x y Az->Al (BG X.prog X.w) X.A (f v u) Q X.xe s2) :
  Al (BG X.prog X.w) X.A (BN a X.env) (λv DB=>Al (BG X.prog X.w) X.A (BN b X.env) (λu Kt=>Al (BG X.prog X.w) X.A (f v u) Q X.xe Kt) X.xe DB) X.xe s:=by
 refine Bd (AB pins s σ H _ I h) λv s1⟨x,H1,As,AL,An⟩=>?_;refine Bd (A1 pins s1 σ H1 _ As An) λu s2⟨y,Az,Br,B7,BF⟩=>?_;exact hf v u s2 x y Az Br AL B7 BF
def Va(i:Nat):TE:=λσ H Q=>∃v,σ[i]?=some (some v)/\Q v H
def RH(v:V):TE:=λ_ H Q=>Q v H
def IA{i:Nat}{x:Str}{pos:Pos}(hN:X.N[i]?=some x)(Bc:G_ X.env.scope x)(hd:(x==("__debug__" :Str))=false:=by decide)(DQ:(x==("__classdict__" :Str))=false:=by decide):Ax X (.Name x pos) (Va i):=by
 intro pins s σ H Q I h;obtain⟨v,e,h⟩:=h;obtain⟨m,AV,AN⟩:=I.loc;obtain⟨u,r,l⟩:=AN i x v hN e Bc;have fin:GL X pins σ Q u s:=⟨v,H,I,r,h⟩;rcases l with⟨AF,hm⟩|⟨AF,c,AK,iB⟩
 .exact wpAny_Name (wpAny_loadName_local I.ok.kind AF AV hm fin) hd
 .rcases AF with AF|AF
  .exact wpAny_Name (wpAny_loadName_cell I.ok.kind AF AK iB fin) hd
  .exact wpAny_Name (wpAny_loadName_free I.ok.kind AF AK iB fin DQ) hd
def zt{i j pos}:Ax X (.Constant (.int i) j pos) (RH (.int i)):=λ_ _ _ H _ I h=>wpAny_Constant_int ⟨.int i,H,I.tok _,⟨_,rfl⟩,h⟩
def zi{b j pos}:Ax X (.Constant (.bool b) j pos) (RH (.AO b)):=λ_ _ _ H _ I h=>Constant_bool ⟨.AO b,H,I,rfl,h⟩
def z8{j pos}:Ax X (.Constant .none j pos) (RH .non):=λ_ _ _ H _ I h=>Constant_none ⟨.non,H,I,rfl,h⟩
def zB{x j pos}:Ax X (.Constant (.str x) j pos) (RH (.str x)):=λ_ _ _ H _ I h=>Calls.Constant_str ⟨.str x,H,I.tok _,⟨_,rfl⟩,h⟩
def EG(X:Ac)(x:Str):Prop:=X.env.kindOf x=some .globalImplicit
def bT{E:A8->AQ->Prop}{pins:List (A7×Obj)}{s:AQ}{σ :St}{H:AC}{x:Str}{u:A8}{pos:Pos}{Q:A8->AQ->Prop}(I:Inv X pins σ H s)(Ad:EG X x)(hm:X.mg x=some u)(h:Q u s)(hd:(x==("__debug__" :Str))=false:=by decide):Al (BG X.prog X.w) X.A (BN (.Name x pos) X.env) Q E s:=
 pN I.ok.kind Ad (Calls.loadGlobal_global (by rw[I.ok.glob];exact I.mod.glob.keeps I.Fn) hm h) hd
def OX{E:A8->AQ->Prop}{pins:List (A7×Obj)}{s:AQ}{σ :St}{H:AC}{x:Str}{u:A8}{pos:Pos}{Q:A8->AQ->Prop}(I:Inv X pins σ H s)(Ad:EG X x)(hm:X.mg x=none)(Bc:Ku x=some u)(h:Q u s)(AV:x≠"__name__":=by decide)(hd:(x==("__debug__" :Str))=false:=by decide):Al (BG X.prog X.w) X.A (BN (.Name x pos) X.env) Q E s:=by obtain⟨Gr,A6,AA⟩:=I.mod.blt;exact pN I.ok.kind Ad (Calls.loadGlobal_builtin (by rw[I.ok.glob];exact I.mod.glob.keeps I.Fn) hm (by rw[I.ok.blt];exact A6.keeps I.Fn) ((AA x AV).trans Bc) h) hd
def jn{x:Str}{v:V}{u:A8}{pos:Pos}(Ad:EG X x)(hm:X.mg x=some u)(r:RelV v u)(hd:(x==("__debug__" :Str))=false:=by decide):Ax X (.Name x pos) (RH v):=
 λ_ _ _ H _ I h=>bT I Ad hm ⟨v,H,I,r,h⟩ hd
def zj{x:Str}{v:V}{u:A8}{pos:Pos}(Ad:EG X x)(hm:X.mg x=none)(Bc:Ku x=some u)(r:RelV v u)(AV:x≠"__name__":=by decide)(hd:(x==("__debug__" :Str))=false:=by decide):Ax X (.Name x pos) (RH v):=
 λ_ _ _ H _ I h=>OX I Ad hm Bc ⟨v,H,I,r,h⟩ AV hd
variable{a b:AT}{CB tb:TE}{pos:Pos}
noncomputable def XR(X:Ac)(op:KL)(a b:AT)(t:TE):Prop:=
 ∀(pins:List (A7×Obj))(s:AQ)(σ :St)(H:AC)(Q:Cc),Inv X pins σ H s->t σ H Q->
  Al (BG X.prog X.w) X.A (BN a X.env) (λv DB=>Al (BG X.prog X.w) X.A (BN b X.env) (λu Kt=>Al (BG X.prog X.w) X.A (G6 op v u) (GL X pins σ Q) X.xe Kt) X.xe DB) X.xe s
def kl(b:AT){op:KL}(h:op≠.In)(AA:op≠.NotIn):IE op b=false:=by
 have A9:(op==CmpOp.In)=false:=by cases op<;>first|rfl|exact absurd rfl h
 have AM:(op==CmpOp.NotIn)=false:=by cases op<;>first|rfl|exact absurd rfl AA
 cases b<;>simp[IE,A9,AM]
def cv(t:TE):TT:=λσ H Q=>t σ H λx H1=>∃c,x=.AO c/\Q c H1
def zl{op:KL}{t:TE}(h:XR X op a b t)(A6:IE op b=false:=by first|exact kl _ (by decide) (by decide)|rfl):Ax X (.Compare a [op] [b] pos) t:=λpins s σ H Q I hw=>wpAny_Compare1 (h pins s σ H Q I hw) A6
def lX{op:KL}{t:TE}(h:XR X op a b t)(A6:IE op b=false:=by first|exact kl _ (by decide) (by decide)|rfl):FX X (.Compare a [op] [b] pos) (cv t):=by intro pins s σ H Q I hw;refine wpAny_isTrue_Compare1 (Bd (h pins s σ H _ I hw) λv s1 A6=>Bd A6 λu s2 AA=>Bd AA λc s3⟨x,H1,As,AL,An⟩=>?_) A6;obtain⟨d,rfl,q⟩:=An;cases AL;exact Kz ⟨H1,As,q⟩
def aaY{e:AT}{t:TE}(h:Ax X e t)(he:∀whole,isTrue e X.env whole=(do let v <-whole;M_ e.pos;Jr [v] (truthy v)):=by intro _;rfl):FX X e (cv t):=by intro pins s σ H Q I hw;refine isTrue_plain (Bd (h pins s σ H _ I hw) λv s1⟨x,H1,As,AL,An⟩=>?_) (he _);obtain⟨d,rfl,q⟩:=An;cases AL;exact Kz ⟨H1,As,q⟩
variable{Ew Ye:TT}{rest:List AT}
def n2(t u:TT):TT:=λσ H Q=>t σ H λc H1=>if c=true then u σ H1 Q else Q false H1
def oW(t u:TT):TT:=λσ H Q=>t σ H λc H1=>if c=true then Q true H1 else u σ H1 Q
def oU(t:TT):TT:=λσ H Q=>t σ H λc H1=>Q (!c) H1
def aaf(AB:FX X a Ew):JD X (.BoolOp .And [a] pos) Ew:=by
 intro RM pins s σ H Q I h;refine isTrue_and (Bd (AB pins s σ H Q I h) λc s1 e=>?_);cases c with
 |true=>exact isTrue_and_nil e
 |false=>exact e
def aah(AB:FX X a Ew):JD X (.BoolOp .Or [a] pos) Ew:=by
 intro RM pins s σ H Q I h;refine isTrue_or (Bd (AB pins s σ H Q I h) λc s1 e=>?_);cases c with
 |false=>exact isTrue_or_nil e
 |true=>exact e
def aae(AB:FX X a Ew)(A1:JD X (.BoolOp .And (b::rest) pos) Ye):JD X (.BoolOp .And (a::b::rest) pos) (n2 Ew Ye):=by
 intro RM pins s σ H Q I h;refine isTrue_and (Bd (AB pins s σ H _ I h) λc s1⟨H1,As,An⟩=>?_);cases c with
 |true=>exact A1 RM pins s1 σ H1 Q As An
 |false=>exact⟨H1,As,An⟩
def aag(AB:FX X a Ew)(A1:JD X (.BoolOp .Or (b::rest) pos) Ye):JD X (.BoolOp .Or (a::b::rest) pos) (oW Ew Ye):=by
 intro RM pins s σ H Q I h;refine isTrue_or (Bd (AB pins s σ H _ I h) λc s1⟨H1,As,An⟩=>?_);cases c with
 |true=>exact⟨H1,As,An⟩
 |false=>exact A1 RM pins s1 σ H1 Q As An
def aaX(AB:FX X a Ew):FX X (.UnaryOp .Not a pos) (oU Ew):=by intro pins s σ H Q I h;exact isTrue_not (AB pins s σ H (λc H1=>Q (!c) H1) I h)
def n3(CB tb:TE):TE:=λσ H Q=>CB σ H λx H1=>∃c,x=.AO c/\if c=true then tb σ H1 Q else Q (.AO false) H1
def oV(CB:TE):TE:=λσ H Q=>CB σ H λx H1=>∃c,x=.AO c/\Q (.AO (!c)) H1
def zA{op}{t:TE}(h:Ax X a t):Ax X (.BoolOp op [a] pos) t:=λpins s σ H Q I hw=>BoolOp_one (h pins s σ H Q I hw)
def zh(AB:Ax X a CB)(A1:Ax X (.BoolOp .And (b::rest) pos) tb):Ax X (.BoolOp .And (a::b::rest) pos) (n3 CB tb):=by
 intro pins s σ H Q I h;refine BoolOp_and (Bd (AB pins s σ H _ I h) λv s1⟨x,H1,As,AL,An⟩=>?_);obtain⟨c,rfl,An⟩:=An;cases AL;refine Kz ?_;cases c with
 |true=>exact A1 pins s1 σ H1 Q As An
 |false=>exact⟨.AO false,H1,As,rfl,An⟩
def z9(AB:Ax X a CB):Ax X (.UnaryOp .Not a pos) (oV CB):=by intro pins s σ H Q I h;refine UnaryOp_ (Bd (AB pins s σ H _ I h) λv s1⟨x,H1,As,AL,An⟩=>?_);obtain⟨c,rfl,An⟩:=An;cases AL;exact not_of (Kz ⟨.AO (!c),H1,As,rfl,An⟩)
def oR(t:TT)(CB tb:TE):TE:=λσ H Q=>t σ H λc H1=>if c=true then CB σ H1 Q else tb σ H1 Q
def zr{c:AT}(AK:FX X c Ew)(AB:Ax X a CB)(A1:Ax X b tb):Ax X (.IfExp c a b pos) (oR Ew CB tb):=by
 intro pins s σ H Q I h;refine wpAny_IfExp (Bd (AK pins s σ H _ I h) λd s1⟨H1,As,An⟩=>?_);cases d with
 |true=>exact AB pins s1 σ H1 Q As An
 |false=>exact A1 pins s1 σ H1 Q As An
end
noncomputable def C9(K:A_)(H:AC)(a:A7)(xs:List V):Prop:=
 Eo H a (.lst xs)\/
  ∃(o:Obj)(its:Array A8)(n:Nat),K.lookup a=some o/\o.cls=.type "list"/\o.dict=none/\o.data=.seq its n/\its.size<=CF/\Vals xs its.toList
noncomputable def CZ(K:A_)(H:AC)(a:A7)(xs:List V):Prop:=
 Eo H a (.tup xs)\/
  ∃(o:Obj)(its:Array A8)(n:Nat),K.lookup a=some o/\o.cls=.type "tuple"/\o.data=.seq its n/\its.size<=CF/\Vals xs its.toList
noncomputable def qe:A8->Option V
 |.none=>some .non
 |.bool b=>some (.AO b)
 |.int i _=>some (.int i)
 |.str x _=>some (.str x)
 |.bytes b _=>some (.N3 b)
 |.float b _=>some (.YQ b)
 |.ref a=>some (.ref a)
 |.type n=>some (.ty n)
 |_=>none
def RelV.abs{x:V}{u:A8}(r:RelV x u):qe u=some x:=by
 cases x with
 |non=>cases r;rfl
 |AO _=>cases r;rfl
 |int _=>obtain⟨t,rfl⟩:=r;rfl
 |str _=>obtain⟨t,rfl⟩:=r;rfl
 |N3 _=>obtain⟨t,rfl⟩:=r;rfl
 |YQ _=>obtain⟨t,rfl⟩:=r;rfl
 |ref _=>cases r;rfl
 |ty _=>cases r;rfl
def RelV.inj{x y:V}{u:A8}(r:RelV x u)(q:RelV y u):x=y:=Eh (r.abs.symm.trans q.abs)
theorem Vals.inj:∀{xs ys:List V}{us:List A8},Vals xs us->Vals ys us->xs=ys
 |_,_,_,.nil,.nil=>rfl
 |_,_,_,.cons r t,.cons BS t'=>by rw[r.inj BS,Vals.inj t t']
section
variable{X:Ac}{pins:List (A7×Obj)}{σ :St}{H:AC}{s:AQ}{a:A7}{xs ys:List V}
def C9.of{K:A_}(h:H a=some (.lst xs)):C9 K H a xs:=.inl (.inl h)
def CZ.of{K:A_}(h:H a=some (.tup xs)):CZ K H a xs:=.inl (.inl h)
def Inv.list(I:Inv X pins σ H s)(h:C9 X.K H a xs):∃its:List A8,Vals xs its/\PlainL s.heap a its.toArray/\xs.length<=CF:=by
 rcases h with h|⟨o,its,n,AF,AK,hd,AJ,BB,r⟩
 .obtain⟨z,its,n,r,e⟩:=h.ok I.Be;exact⟨its,r,⟨_,n,e,rfl,rfl,rfl⟩,z⟩
 .refine⟨its.toList,r,⟨o,n,I.EQ a o AF,AK,hd,by simpa using AJ⟩,?_⟩;have e:=r.length;simp only[WS]at e;lia
def Inv.tuple(I:Inv X pins σ H s)(h:CZ X.K H a xs):∃its:List A8,Vals xs its/\IsTup s.heap a its.toArray/\xs.length<=CF:=by
 rcases h with h|⟨o,its,n,AF,AK,AJ,BB,r⟩
 .obtain⟨z,its,r,p⟩:=h.ok I.Be;exact⟨its,r,p,z⟩
 .refine⟨its.toList,r,⟨o,I.EQ a o AF,AK,n,by simpa using AJ⟩,?_⟩;have e:=r.length;simp only[WS]at e;lia
def Inv.bV(I:Inv X pins σ H s)(h:C9 X.K H a xs)(h':C9 X.K H a ys):xs=ys:=by
 obtain⟨its,r,⟨o,n,e,_,_,d⟩,_⟩:=I.list h;obtain⟨its',BS,⟨o',PY,Bp,_,_,d'⟩,_⟩:=I.list h';rw[e]at Bp;cases Bp;rw[d]at d';injection d' with d1 _;have:its=its':=by simpa using congrArg Array.toList d1
 subst this;exact r.inj BS
def Inv.cD(I:Inv X pins σ H s)(h:CZ X.K H a xs)(h':CZ X.K H a ys):xs=ys:=by
 obtain⟨its,r,⟨o,e,_,n,d⟩,_⟩:=I.tuple h;obtain⟨its',BS,⟨o',Bp,_,PY,d'⟩,_⟩:=I.tuple h';rw[e]at Bp;cases Bp;rw[d]at d';injection d' with d1 _;have:its=its':=by simpa using congrArg Array.toList d1
 subst this;exact r.inj BS
end
abbrev Ac.N1(X:Ac)(E:A8->AQ->Prop):Ac:={ X with xe:=E }
abbrev Ac.Kp(X:Ac):Ac:=X.N1 λ_ _=>False
theorem Ac.Ok.N1{X:Ac}(ok:X.Ok)(E:A8->AQ->Prop):(X.N1 E).Ok:=
 ⟨ok.mod,ok.kind,ok.glob,ok.blt,ok.above,ok.inj,ok.has,ok.Tz,ok.hd,ok.frames,ok.RE,ok.gu,ok.bs,ok.Pm,ok.R6,ok.YM,ok.LS,ok.QZ⟩
def Ac.Ok.Q8{X:Ac}{E:A8->AQ->Prop}(ok:(X.N1 E).Ok):X.Ok:=
 ⟨ok.mod,ok.kind,ok.glob,ok.blt,ok.above,ok.inj,ok.has,ok.Tz,ok.hd,ok.frames,ok.RE,ok.gu,ok.bs,ok.Pm,ok.R6,ok.YM,ok.LS,ok.QZ⟩
section
variable{X:Ac}{pins:List (A7×Obj)}{σ :St}{H:AC}{s:AQ}{E:A8->AQ->Prop}
theorem Inv.N1(I:Inv X pins σ H s)(E:A8->AQ->Prop):Inv (X.N1 E) pins σ H s:=⟨I.ok.N1 E,I.os,I.bare,I.base,I.loc,I.cell,I.free,I.N9,I.pin,I.Be,I.len⟩
theorem Inv.Q8(I:Inv (X.N1 E) pins σ H s):Inv X pins σ H s:=⟨I.ok.Q8,I.os,I.bare,I.base,I.loc,I.cell,I.free,I.N9,I.pin,I.Be,I.len⟩
theorem Qo.Q8{D:Ends}{f:Flow}{s':AQ}(h:Qo (X.N1 E) pins D f s'):Qo X pins D f s':=by
 cases f with
 |next=>obtain⟨σ',H',I,q⟩:=h;exact⟨σ',H',I.Q8,q⟩
 |brk=>obtain⟨σ',H',I,q⟩:=h;exact⟨σ',H',I.Q8,q⟩
 |cont=>obtain⟨σ',H',I,q⟩:=h;exact⟨σ',H',I.Q8,q⟩
 |ret u=>obtain⟨v,σ',H',I,r,q⟩:=h;exact⟨v,σ',H',I.Q8,r,q⟩
theorem GO.Kp{st:List Bb}{t:FJ}(h:GO X.Kp st t):GO X st t:=λpins s σ H D I hw=>
 Jq (h pins s σ H D (I.N1 _) hw) (λ_ _ q=>q.Q8) λ_ _ z=>KF z
end
section
variable{X:Ac}{st:Bb}{rest:List Bb}{t u:FJ}{e:AT}{E5:TE}{pos:Pos}
def c5:FJ:=λD σ H=>D.Ay σ H
def c6(t u:FJ):FJ:=λD σ H=>t { D with Ay:=u D } σ H
def lW:GO X [] c5:=λ_ _ σ H _ I h=>WR ⟨σ,H,I,h⟩
def lV(A6:DH X st t)(AA:GO X rest u):GO X (st::rest) (c6 t u):=by
 intro pins s σ H D I h;refine wpAny_execs_cons (Bd (A6 pins s σ H { D with Ay:=u D } I h) λf s1 q=>?_);cases f with
 |next=>obtain⟨σ',H',Mc,q⟩:=q;exact AA pins s1 σ' H' D Mc q
 |ret v=>exact q
 |brk=>exact q
 |cont=>exact q
def bN(A6:DH X st t):GO X [st] t:=by
 intro pins s σ H D I h;refine wpAny_execs_cons (Bd (A6 pins s σ H D I h) λf s1 q=>?_);cases f with
 |next=>exact WR q
 |ret v=>exact q
 |brk=>exact q
 |cont=>exact q
def Inv.quiet{pins:List (A7×Obj)}{σ :St}{H:AC}{s:AQ}(I:Inv X pins σ H s):interactive X.env=false:=by simp[interactive,I.ok.kind]
def nT(E5:TE):FJ:=λD σ H=>E5 σ H λ_ H1=>D.Ay σ H1
def Yt(he:Ax X e E5)(AJ:Lk e none pos.line X.env=pure false:=by rfl):DH X (.Expr e pos) (nT E5):=by intro pins s σ H D I h;exact wpAny_Expr_any (Bd (he pins s σ H _ I h) λv s1⟨x,H1,As,AL,An⟩=>⟨σ,H1,As,An⟩) I.quiet AJ
def Yj(E5:TE):FJ:=λD σ H=>E5 σ H D.ES
def W0(he:Ax X e E5):DH X (.Return (some e) pos) (Yj E5):=by intro pins s σ H D I h;exact wpAny_Return_some (Bd (he pins s σ H _ I h) λv s1⟨x,H1,As,AL,An⟩=>⟨x,σ,H1,As,AL,An⟩)
def cy(c:TT)(t u:FJ):FJ:=λD σ H=>c σ H λb H1=>if b=true then t D σ H1 else u D σ H1
def lT{c:AT}{a b:List Bb}{GJ:TT}(AK:FX X c GJ)(AB:GO X a t)(A1:GO X b u):DH X (.If c a b pos) (cy GJ t u):=by
 intro pins s σ H D I h;refine wpAny_If (Bd (AK pins s σ H _ I h) λd s1⟨H1,As,An⟩=>?_);cases d with
 |true=>exact AB pins s1 σ H1 D As An
 |false=>exact A1 pins s1 σ H1 D As An
def oT:FJ:=λ_ _ _=>False
def lU:DH X st oT:=λ_ _ _ _ _ _ h=>h.elim
end
abbrev IQ:=V->St->AC->(St->AC->Prop)->Prop
abbrev Mf:=List V->St->AC->(St->AC->Prop)->Prop
noncomputable def Jx(X:Ac)(target:AT)(t:IQ):Prop:=
 ∀(pins:List (A7×Obj))(s:AQ)(σ :St)(H:AC)(v:V)(u:A8)(Q:St->AC->Prop),Inv X pins σ H s->RelV v u->t v σ H Q->
  Al (BG X.prog X.w) X.A (KH target X.env u) (λ_ s'=>∃ σ' H',Inv X pins σ' H' s'/\Q σ' H') X.xe s
noncomputable def UA(X:Ac)(Av:List AT)(t:Mf):Prop:=
 ∀(pins:List (A7×Obj))(s:AQ)(σ :St)(H:AC)(vs:List V)(us:List A8)(Q:St->AC->Prop),Inv X pins σ H s->Vals vs us->t vs σ H Q->
  Al (BG X.prog X.w) X.A (assignInOrder ((L1 Av X.env).map (·.2)) us) (λ_ s'=>∃ σ' H',Inv X pins σ' H' s'/\Q σ' H') X.xe s
abbrev eW:=V->V->V->AC->(AC->Prop)->Prop
noncomputable def gm(X:Ac)(t:eW):Prop:=
 ∀(pins:List (A7×Obj))(s:AQ)(σ :St)(H:AC)(o i v:V)(DA GB u:A8)(Q:AC->Prop),Inv X pins σ H s->RelV o DA->RelV i GB->RelV v u->t o i v H Q->
  Al (BG X.prog X.w) X.A (setItem DA GB u) (λ_ s'=>∃H',Inv X pins σ H' s'/\Q H') X.xe s
section
variable{X:Ac}{pos:Pos}
def Ie(i:Nat):IQ:=λv σ H Q=>Q (σ.set i (some v)) H
def Yn{i:Nat}{x:Str}(hN:X.N.Nodup)(AD:X.N[i]?=some x)(AI:Loc X.env.scope x)(hf:X.fn x=true\/X.env.scope.names.lookup x=some .local:=by first|exact .inl rfl|exact .inr rfl|assumption):Jx X (.Name x pos) (Ie i):=by intro pins s σ H v u Q I r h;exact wpAny_assign_Name (nN I hN AD AI r (λs' Mc=>⟨_,H,Mc,h⟩) hf)
def YU:Mf:=λvs σ H Q=>vs=[]/\Q σ H
def VC(t:IQ)(u:Mf):Mf:=λvs σ H Q=>∃v r,vs=v::r/\t v σ H λσ' H'=>u r σ' H' Q
def js:UA X [] YU:=by intro pins s σ H vs us Q I r h;obtain⟨e,h⟩:=h;subst e;cases r;exact assignInOrder_nil ⟨σ,H,I,h⟩
def bK{e:AT}{A5:List AT}{t:IQ}{u:Mf}(A6:Jx X e t)(AA:UA X A5 u)(AJ:(L1 (e::A5) X.env).map (·.2)=KH e X.env::(L1 A5 X.env).map (·.2):=by rfl):UA X (e::A5) (VC t u):=by
 intro pins s σ H vs us Q I r h;obtain⟨v,KY,A9,h⟩:=h;subst A9;cases r with
 |cons r Iu=>rw[AJ];refine assignInOrder_cons (Bd (A6 pins s σ H _ _ _ I r h) λ_ s1⟨σ1,H1,As,An⟩=>?_);exact AA pins s1 σ1 H1 _ _ Q As Iu An
def YV(K:A_)(n:Nat)(t:Mf):IQ:=λv σ H Q=>∃a xs,v=.ref a/\CZ K H a xs/\xs.length=n/\t xs σ H Q
def jr{A5:List AT}{k:Nat}{t:Mf}{n:Nat}(AK:X.calm=true)(h:UA X A5 t)(AV:(L1 A5 X.env).length=n:=by rfl)(OT:(L1 A5 X.env).findIdx? (·.1)=none:=by rfl):Jx X (.Tuple A5 k pos) (YV X.K n t):=by intro pins s σ H v u Q I r hw;obtain⟨a,xs,A9,AW,AN,hw⟩:=hw;subst A9;cases r;obtain⟨its,CL,Aj,BB⟩:=I.tuple AW;refine assign_Tuple_tuple (I.ok.hd AK) Aj (by simp[AV,<-AN,CL.length]) OT λh' AI=>?_;have As:Inv X pins σ H { s with heap:=h' }:=I.kept (t':=s.toks) λb o e=>AI b o (FD (D_ e)) e;exact h pins _ σ H xs _ Q As (by simpa using CL) hw
def tI(to ZB:TE)(t:eW):IQ:=λv σ H Q=>to σ H λo H1=>ZB σ H1 λi Az=>t o i v Az λD0=>Q σ D0
def zF {o i:AT} {to ZB:TE} {t:eW} (ho:Ax X o to) (AD:Ax X i ZB) (AJ:gm X t)(AB:∀v,KH (.Subscript o i pos) X.env v=(do
    let DA <-Jr [v] (BN o X.env)
    let GB <-Jr [v,DA] (BN i X.env)
    M_ pos
    Jr [v,DA,GB] (setItem DA GB v)
    release [v,DA,GB] []):=by intro _;rfl):Jx X (.Subscript o i pos) (tI to ZB t):=by
 intro pins s σ H v u Q I r h;rw[AB];refine AR (Kx (Bd (ho pins s σ H _ I h) λDA s1⟨x,H1,As,AL,An⟩=>?_));refine AR (Kx (Bd (AD pins s1 σ H1 _ As An) λGB s2⟨y,Az,Br,B7,BF⟩=>?_));refine AR (wpAny_standAt (AR (Kx (Bd (AJ pins s2 σ Az x y v DA GB u _ Br AL B7 r BF) λ_ s3⟨D0,Dg,EO⟩=>?_))));exact wpAny_release ⟨σ,D0,Dg,EO⟩
def MA(E5:TE)(g:IQ):FJ:=λD σ H=>E5 σ H λx H1=>g x σ H1 D.Ay
def lQ{B_ e:AT}{E5:TE}{g:IQ}(he:Ax X e E5)(Ad:Jx X B_ g)(AJ:swapsWithSole [B_] e pos.line X.env=pure false:=by rfl)(hw:swappedStores [B_] e X.env=pure none:=by rfl)(A6:(L1 [B_] X.env).map (·.2)=[KH B_ X.env]:=by rfl):DH X (.Assign [B_] e pos) (MA E5 g):=by intro pins s σ H D I h;refine wpAny_Assign_stores (Bd (he pins s σ H _ I h) λv s1⟨x,H1,As,AL,An⟩=>?_) AJ hw;rw[A6];exact Bd (Ad pins s1 σ H1 x v _ As AL An) λ_ s2 q=>q
def W1{i:Nat}{x:Str}{e:AT}{E5:TE}{pos':Pos}(hN:X.N.Nodup)(AD:X.N[i]?=some x)(AI:Loc X.env.scope x)(he:Ax X e E5)(AJ:Lk e (some (.Name x pos')) pos.line X.env=pure false:=by rfl)(hf:X.fn x=true\/X.env.scope.names.lookup x=some .local:=by first|exact .inl rfl|exact .inr rfl|assumption) :
  DH X (.Assign [.Name x pos'] e pos) (MA E5 (Ie i)):=by
 intro pins s σ H D I h;refine wpAny_Assign_Name (Bd (he pins s σ H _ I h) λv s1⟨y,H1,As,AL,An⟩=>?_) AJ;exact nN As hN AD AI AL (λs2 Br=>⟨_,H1,Br,An⟩) hf
end
section
variable{X:Ac}{pos:Pos}
noncomputable def oZ(c:TT)(tb:FJ):FJ:=λD σ H=>∃W:Nat->St->AC->Prop,(∃m,W m σ H)/\∀m σ H,W m σ H->
 c σ H λb H1=>if b=true then ∃N:St->AC->Prop,(∀ σ' H',N σ' H'->∃Et,Et<m/\W Et σ' H')/\tb { D with Ay:=N,Dr:=N,Fn:=D.Ay } σ H1 else D.Ay σ H1
def z6{c:AT}{body:List Bb}{GJ:TT}{tb:FJ}(AZ:PassesOwn (BG X.prog X.w) X.A X.env X.xe)(AK:FX X c GJ)(A1:GO X body tb):DH X (.While c body [] pos) (oZ GJ tb):=by
 intro pins s σ H D I h;obtain⟨W,⟨m0,OM⟩,turn⟩:=h;refine wpAny_While (codeAny_whileLoop (λn s'=>∃ σ' H',Inv X pins σ' H' s'/\W n σ' H') ?_ m0 ⟨σ,H,I,OM⟩);rintro n s1 ⟨σ1,H1,As,Fe⟩;refine QF AZ (Bd (AK pins s1 σ1 H1 _ As (turn n σ1 H1 Fe)) λb s2⟨Az,Br,BF⟩=>?_);cases b with
 |true=>
  obtain⟨N,hN,BF⟩:=BF;rw[if_pos rfl];refine QF AZ (Bd (A1 pins s2 σ1 Az _ Br BF) λf s3 EO=>?_);cases f with
  |next=>obtain⟨σ3,D0,Dg,M4⟩:=EO;obtain⟨Et,hm,JM⟩:=hN σ3 D0 M4;exact⟨Et,hm,σ3,D0,Dg,JM⟩
  |cont=>obtain⟨σ3,D0,Dg,M4⟩:=EO;obtain⟨Et,hm,JM⟩:=hN σ3 D0 M4;exact⟨Et,hm,σ3,D0,Dg,JM⟩
  |brk=>exact EO
  |ret v=>exact EO
 |false=>rw[if_neg Fv];exact WR ⟨σ1,Az,Br,BF⟩
end
structure It where
 go:Nat->AC->Prop
 IX:Nat->AC->V->AC->Prop
 stop:Nat->AC->Prop
def Jv(X:Ac)(pins:List (A7×Obj))(H:AC)(b:A7):Prop:=
 H b=none/\b≠X.env.locals/\b∉X.Ap/\(b∈X.ex\/X.GI.heap.objs.size<=b)/\(∀x c,X.env.cells.lookup x=some c->c≠b)/\∀p∈X.BX++pins,p.1≠b
def Inv.N8{X:Ac}{pins:List (A7×Obj)}{σ :St}{H H':AC}{s:AQ}{b:A7}(I:Inv X pins σ H s)(A1:s.heap.objs.size<=b)(AV:H' b=none):Jv X pins H' b:=by
 refine⟨AV,Li (Hi I.lt A1),I.yo A1,.inr (FT I.Yc A1),λx c e z=>?_,λp AZ z=>?_⟩
 .obtain⟨v,q⟩:=I.cell x c e;exact absurd (Hi q.lt (by rw[z];exact A1)) (KC _)
 .exact absurd (Hi (D_ (I.pin p AZ).1) (by rw[z];exact A1)) (KC _)
structure Turn(P:C2)(w:Bh)(K:A_)(B_:AT)(DD:It)(Ak:List A7)(it:A7)(H6:Nat->BP->Prop):Prop where
 mem:it∈Ak
 obj:∀i h,H6 i h->∀b∈Ak,∃o,h.get? b=some o/\∀v,o.data≠.cell v
 keep:∀i h h',H6 i h->(∀b∈Ak,∀o,h.get? b=some o->h'.get? b=some o)->H6 i h'
 item:∀(X:Ac),X.prog=P->X.w=w->X.K=K->X.calm=true->∀(i:Nat)(pins:List (A7×Obj))(s:AQ)(σ :St)(H:AC)(E:A8->AQ->Prop),Inv X pins σ H s->(∀b∈Ak,Jv X pins H b)->H6 i s.heap->DD.go i H->
  Al (BG P w) X.A (J5 (.ref it)) (λr s1=>∃u,r=some u/\
   Al (BG P w) X.A (WX B_ (.ref it) u) (λ_ s2=>∃x H',Inv X pins σ H' s2/\RelV x u/\DD.IX i H x H'/\H6 (i+1) s2.heap/\∀b∈Ak,H' b=none) E s1) E s
 done:∀(X:Ac),X.prog=P->X.w=w->X.K=K->X.calm=true->∀(i:Nat)(pins:List (A7×Obj))(s:AQ)(σ :St)(H:AC)(E:A8->AQ->Prop),Inv X pins σ H s->(∀b∈Ak,Jv X pins H b)->H6 i s.heap->DD.stop i H->
  Al (BG P w) X.A (J5 (.ref it)) (λr s1=>r=none/\Inv X pins σ H s1) E s
 self:∀(A:CR)(i:Nat)(s:AQ)(Q:A8->AQ->Prop)(E:A8->AQ->Prop),H6 i s.heap->Q (.ref it) s->Al (BG P w) A (pyIter (.ref it)) Q E s
abbrev TI:=St->AC->(It->AC->Prop)->Prop
noncomputable def gk(X:Ac)(pins:List (A7×Obj))(σ :St)(B_:AT)(R:It->AC->Prop)(YJ:A8)(s2:AQ):Prop:=
 ∃(it:A7)(Ak:List A7)(H6:Nat->BP->Prop)(DD:It)(H':AC),YJ=.ref it/\Inv X pins σ H' s2/\Turn X.prog X.w X.K B_ DD Ak it H6/\H6 0 s2.heap/\(∀b∈Ak,Jv X pins H' b)/\R DD H'
noncomputable def Fl(X:Ac)(B_ iter:AT)(Iw:TI):Prop:=
 ∀(pins:List (A7×Obj))(s:AQ)(σ :St)(H:AC)(R:It->AC->Prop),Inv X pins σ H s->Iw σ H R->
  Al (BG X.prog X.w) X.A (BN iter X.env) (λv s1=>Al (BG X.prog X.w) X.A (pyIter v) (gk X pins σ B_ R) X.xe s1) X.xe s
def VF{M:Model}{A:CR}{E:A8->AQ->Prop}{s:AQ}{B_:AT}{it:A7}{u:A8}{o:Obj}{n:String}{vs:Array A8}{Q:Unit->AQ->Prop}(ho:s.heap.get? it=some o)(AK:o.cls=.type n)(hd:o.data=.fields vs)(AV:["enumerate","zip","dict_itemiterator","dict_reverseitemiterator","odict_iterator","itertools.zip_longest","itertools.pairwise"].contains n=false)(Dk:Q () s):Al M A (WX B_ (.ref it) u) Q E s:=by
 unfold WX
 cases B_<;>first
  |exact BM Dk
  |(cases u<;>first
      |exact BM Dk
      |(refine AR (wpAny_load ho ?_)
        rw[AK,hd];show Al M A (if(["enumerate","zip","dict_itemiterator","dict_reverseitemiterator","odict_iterator","itertools.zip_longest","itertools.pairwise"].contains n&&vs[0]?==some (KI _))=true then _ else _) Q E s;rw[if_neg (by intro h;rw[AV,dv]at h;cases h)];exact BM Dk))
def eI(K:A_)(a:A7):It:=
 ⟨λi H=>∃xs x,C9 K H a xs/\xs[i]?=some x,λi H x H'=>H'=H/\∀xs,C9 K H a xs->xs[i]?=some x,λi H=>∃xs,C9 K H a xs/\xs.length<=i⟩
def eK(K:A_)(a:A7):It:=
 ⟨λi H=>∃xs x,CZ K H a xs/\xs[i]?=some x,λi H x H'=>H'=H/\∀xs,CZ K H a xs->xs[i]?=some x,λi H=>∃xs,CZ K H a xs/\xs.length<=i⟩
def U7(lo:Int)(n:Nat):It:=⟨λi _=>i<n,λi H x H'=>H'=H/\x=.int (lo+i),λi _=>n<=i⟩
def acC{P:C2}{w:Bh}{K:A_}{B_:AT}(a it:A7):Turn P w K B_ (eI K a) [it] it (λi h=>h.IsListIter it a i) where
 mem:=by simp
 obj:=λi h st b A1=>by
  have e:b=it:=by simpa using A1
  subst e;obtain⟨o,e,c,d⟩:=st;exact⟨o,e,λv z=>by rw[d]at z;cases z⟩
 keep:=λi h h' st k=>st.at λo e=>k it (by simp) o e
 item:=by intro X Ce hw Am AK i pins s σ H E I hf st Ad;subst Ce hw Am;obtain⟨xs,x,AW,AI⟩:=Ad;obtain⟨its,CL,p,BB⟩:=I.list AW;obtain⟨u,BR,FP⟩:=CL.get AI;obtain⟨f0,f1,f2,Em,f4,Gy⟩:=hf it (by simp);refine wpAny_pyNext_list_item st p.isList (x:=u) (by simpa using BR) λh' KA Ks=>?_;have As:Inv X pins σ H { s with heap:=h' }:=I.turned (t':=s.toks) (λb o A1 e=>(Ks.2 b A1).trans e) f0 f1 Em f4 Gy;obtain⟨o,e,c,d⟩:=id KA;exact⟨u,rfl,VF (s:={ s with heap:=h' }) e c d (by decide) ⟨x,H,As,FP,⟨rfl,λys BO=>by rw[I.bV BO AW];exact AI⟩,KA,λb A1=>(hf b A1).1⟩⟩
 done:=by intro X Ce hw Am AK i pins s σ H E I hf st Ad;subst Ce hw Am;obtain⟨xs,AW,AI⟩:=Ad;obtain⟨its,CL,p,BB⟩:=I.list AW;obtain⟨f0,f1,f2,Em,f4,Gy⟩:=hf it (by simp);have AN:=CL.length;exact wpAny_pyNext_list_end (I.ok.hd AK) st p.isList (by simp;lia) λh' BV=>⟨rfl,I.turned (t':=s.toks) (λb o A1 e=>BV b o A1 e) f0 f1 Em f4 Gy⟩
 self:=λ_ _ _ _ _ st h=>wpAny_pyIter_listiter st h
def acF{P:C2}{w:Bh}{K:A_}{B_:AT}(a it:A7):Turn P w K B_ (eK K a) [it] it (λi h=>h.IsTupleIter it a i) where
 mem:=by simp
 obj:=λi h st b A1=>by
  have e:b=it:=by simpa using A1
  subst e;obtain⟨o,e,c,d⟩:=st;exact⟨o,e,λv z=>by rw[d]at z;cases z⟩
 keep:=λi h h' st k=>st.at λo e=>k it (by simp) o e
 item:=by intro X Ce hw Am AK i pins s σ H E I hf st Ad;subst Ce hw Am;obtain⟨xs,x,AW,AI⟩:=Ad;obtain⟨its,CL,p,BB⟩:=I.tuple AW;obtain⟨u,BR,FP⟩:=CL.get AI;obtain⟨f0,f1,f2,Em,f4,Gy⟩:=hf it (by simp);refine wpAny_pyNext_tuple_item st (show s.heap.IsTuple a its.toArray from p) (x:=u) (by simpa using BR) λh' KA Ks=>?_;have As:Inv X pins σ H { s with heap:=h' }:=I.turned (t':=s.toks) (λb o A1 e=>(Ks.2 b A1).trans e) f0 f1 Em f4 Gy;obtain⟨o,e,c,d⟩:=id KA;exact⟨u,rfl,VF (s:={ s with heap:=h' }) e c d (by decide) ⟨x,H,As,FP,⟨rfl,λys BO=>by rw[I.cD BO AW];exact AI⟩,KA,λb A1=>(hf b A1).1⟩⟩
 done:=by intro X Ce hw Am AK i pins s σ H E I hf st Ad;subst Ce hw Am;obtain⟨xs,AW,AI⟩:=Ad;obtain⟨its,CL,p,BB⟩:=I.tuple AW;obtain⟨f0,f1,f2,Em,f4,Gy⟩:=hf it (by simp);have AN:=CL.length;exact wpAny_pyNext_tuple_end (I.ok.hd AK) st (show s.heap.IsTuple a its.toArray from p) (by simp;lia) λh' BV=>⟨rfl,I.turned (t':=s.toks) (λb o A1 e=>BV b o A1 e) f0 f1 Em f4 Gy⟩
 self:=λ_ _ _ _ _ st h=>wpAny_pyIter_tupleiter st h
def acD{P:C2}{w:Bh}{K:A_}{B_:AT}(it:A7)(lo:Int)(n:Nat):Turn P w K B_ (U7 lo n) [it] it (λi h=>IsRangeIter h it (lo+(i:Nat)*1) ((n:Int)-(i:Nat)) 1) where
 mem:=by simp
 obj:=λi h st b A1=>by
  have e:b=it:=by simpa using A1
  subst e;exact⟨_,st,λv z=>by have G3:Wk _=S3 v:=z;cases G3⟩
 keep:=λi h h' st k=>k it (by simp) _ st
 item:=by intro X Ce hw Am AK i pins s σ H E I hf st Ad;subst Ce hw Am;obtain⟨f0,f1,f2,Em,f4,Gy⟩:=hf it (by simp);have W:=Walks.range (prog:=X.prog) (w:=X.w) (I.ok.hd AK) it lo 1 n;refine W.item i s _ _ Ad st λv h' CV Bc KA Bf=>?_;obtain⟨t,rfl⟩:=Bc;have As:Inv X pins σ H { s with heap:=h',toks:=CV }:=I.turned (λb o A1 e=>Bf b o (by simpa using A1) e) f0 f1 Em f4 Gy;refine⟨_,rfl,VF (s:={ s with heap:=h',toks:=CV }) (n:="range_iterator") KA rfl rfl (by decide) ⟨.int (lo+i),H,As,⟨t,?_⟩,⟨rfl,rfl⟩,KA,λb A1=>(hf b A1).1⟩⟩;rw[Int.mul_one]
 done:=by intro X Ce hw Am AK i pins s σ H E I hf st Ad;subst Ce hw Am;obtain⟨f0,f1,f2,Em,f4,Gy⟩:=hf it (by simp);exact wpAny_pyNext_range_end (I.ok.hd AK) st (by have:n<=i:=Ad;lia) λh' BV=>⟨rfl,I.turned (t':=s.toks) (λb o A1 e=>BV b o A1 e) f0 f1 Em f4 Gy⟩
 self:=λ_ _ _ _ _ st h=>wpAny_pyIter_rangeiter st h
section
variable{X:Ac}{B_:AT}
def i0(K:A_)(ET:TE):TI:=λσ H R=>ET σ H λx H1=>∃a,x=.ref a/\(∃xs,C9 K H1 a xs)/\R (eI K a) H1
def i4(K:A_)(ET:TE):TI:=λσ H R=>ET σ H λx H1=>∃a,x=.ref a/\(∃xs,CZ K H1 a xs)/\R (eK K a) H1
def zJ{l:AT}{ET:TE}(AN:Ax X l ET):Fl X B_ l (i0 X.K ET):=by
 intro pins s σ H R I h;refine Bd (AN pins s σ H _ I h) λv s1⟨x,H1,As,AL,An⟩=>?_;obtain⟨a,e,⟨xs,AW⟩,q⟩:=An;subst e;cases AL;obtain⟨its,CL,p,BB⟩:=As.list AW;refine dP p.isList ?_;refine⟨s1.heap.objs.size,[s1.heap.objs.size],_,_,H1,rfl,As.kept (t':=s1.toks) λb o e=>Da _ e,acC a _,⟨_,F4 _ rfl,rfl,rfl⟩,λb A1=>?_,q⟩;have e:b=s1.heap.objs.size:=by simpa using A1
 subst e;exact As.N8 (Ci _) (As.Be.fresh (Ci _))
def zN{l:AT}{ET:TE}(AN:Ax X l ET):Fl X B_ l (i4 X.K ET):=by
 intro pins s σ H R I h;refine Bd (AN pins s σ H _ I h) λv s1⟨x,H1,As,AL,An⟩=>?_;obtain⟨a,e,⟨xs,AW⟩,q⟩:=An;subst e;cases AL;obtain⟨its,CL,p,BB⟩:=As.tuple AW;refine wpAny_pyIter_tuple (show s1.heap.IsTuple a its.toArray from p) ?_;refine⟨s1.heap.objs.size,[s1.heap.objs.size],_,_,H1,rfl,As.kept (t':=s1.toks) λb o e=>Da _ e,acF a _,⟨_,F4 _ rfl,rfl,rfl⟩,λb A1=>?_,q⟩;have e:b=s1.heap.objs.size:=by simpa using A1
 subst e;exact As.N8 (Ci _) (As.Be.fresh (Ci _))
def l6{pins:List (A7×Obj)}{σ :St}{H:AC}{s:AQ}{R:It->AC->Prop}{E:A8->AQ->Prop}{lo AD:Int}{t u v:Tok}{CV:Nat}(I:Inv X pins σ H s)(A6: -(2^62)<=lo)(AA:lo<2^62)(B4: -(2^62)<=AD)(BJ:AD<2^62)(q:R (U7 lo (AD-lo).toNat) H):Al (BG X.prog X.w) X.A (pyIter (.ref s.heap.objs.size)) (gk X pins σ B_ R) E { s with heap:=s.heap.push { cls:=.type "range",data:=.fields #[.int lo t,.int AD u,.int 1 v] },toks:=CV }:=by
 refine wpAny_pyIter_range (IsRange.new ..) (small_one A6 AA B4 BJ) ?_;have As:Inv X pins σ H { s with heap:=s.heap.push { cls:=.type "range",data:=.fields #[.int lo t,.int AD u,.int 1 v] },toks:=CV }:=I.kept λb o e=>Da _ e
 refine⟨(s.heap.push { cls:=.type "range",data:=.fields #[.int lo t,.int AD u,.int 1 v] }).objs.size,[(s.heap.push { cls:=.type "range",data:=.fields #[.int lo t,.int AD u,.int 1 v] }).objs.size],_,_,H,rfl,
  As.kept (t':=CV) λb o e=>Da _ e,acD _ lo (AD-lo).toNat,?_,λb A1=>?_,q⟩
 .have A9:lo+((0:Nat):Int)*1=lo:=by simp
  have AM:(((AD-lo).toNat:Nat):Int)-((0:Nat):Int)=dK lo AD 1:=by rw[rangeSize_one];split<;>lia
  show IsRangeIter _ _ (lo+((0:Nat):Int)*1) ((((AD-lo).toNat:Nat):Int)-((0:Nat):Int)) 1;rw[A9,AM];exact F4 _ rfl
 .have e:b=(s.heap.push { cls:=.type "range",data:=.fields #[.int lo t,.int AD u,.int 1 v] }).objs.size:=by simpa using A1
  subst e;exact As.N8 (Ci _) (As.Be.fresh (Ci _))
def i1(CB:Ez):TI:=λσ H R=>CB σ H λvs H1=>∃j:Int,vs=[.int j]/\-(2^62)<=j/\j<2^62/\R (U7 0 j.toNat) H1
def i2(CB:Ez):TI:=λσ H R=>CB σ H λvs H1=>∃i j:Int,vs=[.int i,.int j]/\(-(2^62)<=i/\i<2^62/\-(2^62)<=j/\j<2^62)/\R (U7 i (j-i).toNat) H1
def zK{a:AT}{CB:Ez}{p pos:Pos}(Ad:EG X "range")(hm:X.mg "range"=none)(AB:GN X [a] CB)(AJ:BI [a] X.env=[(false,BN a X.env)]:=by rfl):Fl X B_ (.Call (.Name "range" p) [a] [] pos) (i1 CB):=by
 intro pins s σ H R I h;refine Call_ (OX I Ad hm boot_range (QD (Bd (AB pos pins s σ H _ I h) λus s1⟨vs,H1,As,AL,An⟩=>?_) AJ rfl));obtain⟨j,e,An,BF,q⟩:=An;subst e;cases AL with
 |cons r Iu=>cases Iu;obtain⟨t,rfl⟩:=r;exact call_range_1 (l6 As (by lia) (by lia) An BF (by simpa using q))
def zL{a b:AT}{CB:Ez}{p pos:Pos}(Ad:EG X "range")(hm:X.mg "range"=none)(AB:GN X [a,b] CB)(AJ:BI [a,b] X.env=[(false,BN a X.env),(false,BN b X.env)]:=by rfl)(F_:BI [b] X.env=[(false,BN b X.env)]:=by rfl) :
  Fl X B_ (.Call (.Name "range" p) [a,b] [] pos) (i2 CB):=by
 intro pins s σ H R I h;refine Call_ (OX I Ad hm boot_range (QD (Bd (AB pos pins s σ H _ I h) λus s1⟨vs,H1,As,AL,An⟩=>?_) (by rw[AJ,F_]) (by rw[F_];rfl)));obtain⟨i,j,e,⟨An,BF,EO,RB⟩,q⟩:=An;subst e;cases AL with
 |cons r Iu=>
  cases Iu with
  |cons BS Iu=>cases Iu;obtain⟨t,rfl⟩:=r;obtain⟨t',rfl⟩:=BS;exact call_range_2 (l6 As An BF EO RB q)
noncomputable def oQ(Iw:TI)(g:IQ)(tb:FJ):FJ:=λD σ H=>Iw σ H λDD H1=>∃W:Nat->Nat->St->AC->Prop,(∃m,W 0 m σ H1)/\∀i m σ H,W i m σ H->
 (DD.stop i H/\D.Ay σ H)\/(DD.go i H/\∃N:St->AC->Prop,(∀ σ' H',N σ' H'->∃Et,Et<m/\W (i+1) Et σ' H')/\∀x H',DD.IX i H x H'->g x σ H' λσ2 Az=>tb { D with Ay:=N,Dr:=N,Fn:=D.Ay } σ2 Az)
def Vz(Ak:List A7)(h:BP):List (A7×Obj):=Ak.filterMap λb=>(h.get? b).map λo=>(b,o)
def ZJ{Ak:List A7}{h:BP}{b:A7}{o:Obj}(A1:b∈Ak)(e:h.get? b=some o):(b,o)∈Vz Ak h:=List.mem_filterMap.mpr ⟨b,A1,by rw[e];rfl⟩
def y9{Ak:List A7}{h:BP}{p:A7×Obj}(AZ:p∈Vz Ak h):p.1∈Ak/\h.get? p.1=some p.2:=by
 obtain⟨b,A1,e⟩:=List.mem_filterMap.mp AZ;cases q:h.get? b with
 |none=>rw[q]at e;cases e
 |some o=>rw[q]at e;have Bp:(b,o)=p:=Eh e;subst Bp;exact⟨A1,q⟩
def Inv.pinned{pins:List (A7×Obj)}{σ :St}{H:AC}{s:AQ}{Ak:List A7}(I:Inv X pins σ H s)(hf:∀b∈Ak,Jv X pins H b)(ho:∀b∈Ak,∃o,s.heap.get? b=some o/\∀v,o.data≠.cell v):Inv X (pins++Vz Ak s.heap) σ H s:=
 I.kL λp AZ=>(List.mem_append.mp AZ).elim (λz=>I.pin p (Ft _ z)) λz=>by obtain⟨A1,e⟩:=y9 z;obtain⟨f0,f1,f2,_⟩:=hf p.1 A1;obtain⟨o,Bp,d⟩:=ho p.1 A1;rw[e]at Bp;cases Bp;exact⟨e,f0,f1,f2,d⟩
def Inv.Za{pins pl:List (A7×Obj)}{σ :St}{H:AC}{s:AQ}(I:Inv X (pins++pl) σ H s):Inv X pins σ H s:=I.kL λp AZ=>I.pin p (Ft _ (Fu _ AZ))
def z5{iter:AT}{body:List Bb}{Iw:TI}{g:IQ}{tb:FJ}{pos:Pos}(AZ:PassesOwn (BG X.prog X.w) X.A X.env X.xe)(AK:X.calm=true)(AD:Fl X B_ iter Iw)(Ad:Jx X B_ g)(A1:GO X body tb)(AJ:∀x,Lg iter X.env x=pure x:=by intro _;rfl):DH X (.For B_ iter body [] pos) (oQ Iw g tb):=by
 intro pins s σ H D I h;refine wpAny_For (Bd (AD pins s σ H _ I h) λv s1 A6=>Bd A6 λYJ s2 AA=>?_) AJ;obtain⟨it,Ak,H6,DD,Az,e,Br,T,LA,f2,W,⟨m0,OM⟩,turn⟩:=AA;subst e;have stat:∀{H':AC},(∀b∈Ak,H' b=none)->∀b∈Ak,Jv X pins H' b:=λAV b A1=>⟨AV b A1,(f2 b A1).2⟩;refine codeAny_forLoop_any (λn s'=>∃i σ' H',Inv X pins σ' H' s'/\H6 i s'.heap/\(∀b∈Ak,H' b=none)/\W i n σ' H') ?_ m0 ⟨0,σ,Az,Br,LA,λb A1=>(f2 b A1).1,OM⟩;rintro n s3 ⟨i,σ3,D0,Dg,nK,ia,JM⟩;rcases turn i n σ3 D0 JM with⟨stop,qn⟩|⟨go,N,hN,step⟩
 .refine QF AZ (Bd (T.done X rfl rfl rfl AK i pins s3 σ3 D0 X.xe Dg (stat ia) nK stop) λr s4⟨B3,LI⟩=>?_);subst B3;exact WR ⟨σ3,D0,LI,qn⟩
 .refine QF AZ (Bd (T.item X rfl rfl rfl AK i pins s3 σ3 D0 X.xe Dg (stat ia) nK go) λr s4⟨u,B3,BJ⟩=>?_);subst B3;refine QF AZ (Bd BJ λ_ s5⟨x,J8,S5,O8,afR,TQ,YS⟩=>?_);have ph:=S5.pinned (stat YS) (T.obj _ _ TQ);refine QF AZ (Bd (Ad _ s5 σ3 J8 x u _ ph O8 (step x J8 afR)) λ_ DU⟨σ6,SH,U5,aam⟩=>?_);refine QF AZ (Bd (A1 _ DU σ6 SH _ U5 aam) λf DO P8=>?_);have again:∀{σ7:St}{GZ:AC},Inv X (pins++Vz Ak s5.heap) σ7 GZ DO->N σ7 GZ->∃m,m<n/\∃i σ' H',Inv X pins σ' H' DO/\H6 i DO.heap/\(∀b∈Ak,H' b=none)/\W i m σ' H':=λ{σ7 GZ} KN I8=>by
   obtain⟨Et,hm,ac2⟩:=hN σ7 GZ I8;refine⟨Et,hm,i+1,σ7,GZ,KN.Za,T.keep _ _ _ TQ λb A1 o e=>(KN.pin (b,o) (Ft _ (Ft _ (ZJ A1 e)))).1,λb A1=>?_,ac2⟩;obtain⟨o,e,d⟩:=T.obj _ _ TQ b A1;exact(KN.pin (b,o) (Ft _ (Ft _ (ZJ A1 e)))).2.1
  cases f with
  |next=>obtain⟨σ7,GZ,KN,I8⟩:=P8;exact again KN I8
  |cont=>obtain⟨σ7,GZ,KN,I8⟩:=P8;exact again KN I8
  |brk=>obtain⟨σ7,GZ,KN,P8⟩:=P8;exact⟨σ7,GZ,KN.Za,P8⟩
  |ret v=>obtain⟨adk,σ7,GZ,KN,Jl,P8⟩:=P8;exact⟨adk,σ7,GZ,KN.Za,Jl,P8⟩
end
abbrev Ed:=V->V->AC->Cc->Prop
noncomputable def E7(X:Ac)(f:A8->A8->Sem A8)(r:Ed):Prop:=
 ∀(pins:List (A7×Obj))(s:AQ)(σ :St)(H:AC)(x y:V)(v u:A8)(Q:Cc),Inv X pins σ H s->RelV x v->RelV y u->r x y H Q->
  Al (BG X.prog X.w) X.A (f v u) (GL X pins σ Q) X.xe s
noncomputable def XT(X:Ac)(f:A8->Sem A8)(r:V->AC->Cc->Prop):Prop:=
 ∀(pins:List (A7×Obj))(s:AQ)(σ :St)(H:AC)(x:V)(v:A8)(Q:Cc),Inv X pins σ H s->RelV x v->r x H Q->
  Al (BG X.prog X.w) X.A (f v) (GL X pins σ Q) X.xe s
noncomputable def Hv(X:Ac)(f:A8)(r:List V->AC->Cc->Prop):Prop:=
 ∀(pins:List (A7×Obj))(s:AQ)(σ :St)(H:AC)(xs:List V)(us:List A8)(Q:Cc),Inv X pins σ H s->Vals xs us->r xs H Q->
  Al (BG X.prog X.w) X.A (call f us) (GL X pins σ Q) X.xe s
noncomputable def qZ(X:Ac)(r:V->AC->(Bool->AC->Prop)->Prop):Prop:=
 ∀(pins:List (A7×Obj))(s:AQ)(σ :St)(H:AC)(x:V)(v:A8)(Q:Bool->AC->Prop),Inv X pins σ H s->RelV x v->r x H Q->
  Al (BG X.prog X.w) X.A (truthy v) (XS X pins σ Q) X.xe s
def VZ(r:Ed)(CB tb:TE):TE:=λσ H Q=>CB σ H λx H1=>tb σ H1 λy Az=>r x y Az Q
def oY(r:V->AC->Cc->Prop)(CB:TE):TE:=λσ H Q=>CB σ H λx H1=>r x H1 Q
def TK(C:Int->Int->Prop)(g:Int->Int->V):Ed:=λx y H Q=>∃i j,x=.int i/\y=.int j/\C i j/\Q (g i j) H
def Mt(g:Int->Int->V):Ed:=λx y H Q=>∃i j,x=.int i/\y=.int j/\Q (g i j) H
def l5(g:Int->V):V->AC->Cc->Prop:=λx H Q=>∃i,x=.int i/\Q (g i) H
section
variable{X:Ac}{a b c:AT}{CB tb GJ:TE}{pos:Pos}
def f5(AB:Ax X a CB)(A1:Ax X b tb){pins:List (A7×Obj)}{s:AQ}{σ :St}{H:AC}{R:V->V->AC->Prop}(I:Inv X pins σ H s)(h:CB σ H λx H1=>tb σ H1 λy Az=>R x y Az){Q:A8->AQ->Prop}{f:A8->A8->Sem A8}(hf:∀v u s2 x y Az,Inv X pins σ Az s2->RelV x v->RelV y u->R x y Az->Al (BG X.prog X.w) X.A (f v u) Q X.xe s2) :
  Al (BG X.prog X.w) X.A (BN a X.env) (λv DB=>Al (BG X.prog X.w) X.A (BN b X.env) (λu Kt=>Al (BG X.prog X.w) X.A (f v u) Q X.xe Kt) X.xe DB) X.xe s:=by
 refine Bd (AB pins s σ H _ I h) λv s1⟨x,H1,As,AL,An⟩=>?_;refine Bd (A1 pins s1 σ H1 _ As An) λu s2⟨y,Az,Br,B7,BF⟩=>?_;exact hf v u s2 x y Az Br AL B7 BF
def bJ{op:Operator}{r:Ed}(ho:E7 X (J4 op) r)(AB:Ax X a CB)(A1:Ax X b tb):Ax X (.BinOp a op b pos) (VZ r CB tb):=by intro pins s σ H Q I h;exact wpAny_BinOp (f5 AB A1 I h λv u s2 x y Az Br BQ Bx q=>ho pins s2 σ Az x y v u Q Br BQ Bx q)
def zD{op:UnaryOp}{r:V->AC->Cc->Prop}(ho:XT X (unaryOp op) r)(AB:Ax X a CB):Ax X (.UnaryOp op a pos) (oY r CB):=by intro pins s σ H Q I h;exact UnaryOp_ (Bd (AB pins s σ H _ I h) λv s1⟨x,H1,As,AL,An⟩=>ho pins s1 σ H1 x v Q As AL An)
def ZX{f:A8->A8->Sem A8}{C:Int->Int->Prop}{g:Int->Int->Int}(rule:∀(i j:Int)(t u:Tok)(s:AQ)(Q:A8->AQ->Prop)(E:A8->AQ->Prop),C i j->Q (.int (g i j) s.toks) { s with toks:=s.toks+1 }->Al (BG X.prog X.w) X.A (f (.int i t) (.int j u)) Q E s) :
  E7 X f (TK C λi j=>.int (g i j)):=by
 intro pins s σ H x y v u Q I BQ Bx h;obtain⟨i,j,rfl,rfl,AK,q⟩:=h;obtain⟨t,rfl⟩:=BQ;obtain⟨t',rfl⟩:=Bx;exact rule i j t t' s _ _ AK ⟨.int (g i j),H,I.tok _,⟨_,rfl⟩,q⟩
def k8{f:A8->A8->Sem A8}{g:Int->Int->Int}(rule:∀(i j:Int)(t u:Tok)(s:AQ)(Q:A8->AQ->Prop)(E:A8->AQ->Prop),Q (.int (g i j) s.toks) { s with toks:=s.toks+1 }->Al (BG X.prog X.w) X.A (f (.int i t) (.int j u)) Q E s) :
  E7 X f (Mt λi j=>.int (g i j)):=by
 intro pins s σ H x y v u Q I BQ Bx h;obtain⟨i,j,rfl,rfl,q⟩:=h;obtain⟨t,rfl⟩:=BQ;obtain⟨t',rfl⟩:=Bx;exact rule i j t t' s _ _ ⟨.int (g i j),H,I.tok _,⟨_,rfl⟩,q⟩
def bC{f:A8->A8->Sem A8}{g:Int->Int->Bool}(rule:∀(i j:Int)(t u:Tok)(s:AQ)(Q:A8->AQ->Prop)(E:A8->AQ->Prop),Q (.bool (g i j)) s->Al (BG X.prog X.w) X.A (f (.int i t) (.int j u)) Q E s) :
  E7 X f (Mt λi j=>.AO (g i j)):=by
 intro pins s σ H x y v u Q I BQ Bx h;obtain⟨i,j,rfl,rfl,q⟩:=h;obtain⟨t,rfl⟩:=BQ;obtain⟨t',rfl⟩:=Bx;exact rule i j t t' s _ _ ⟨.AO (g i j),H,I,rfl,q⟩
def Wn(i j:Int):Prop:=0<j/\j<1073741824
def Wo(i j:Int):Prop:=0<=j/\j<=1000000/\i.natAbs<2^64
def SF(i j:Int):Prop:=(-(2^64)<i/\i<2^64)\/(-(2^64)<j/\j<2^64)
def SF.ok{i j:Int}(h:SF i j):IntMulOk i j:=by
 rcases h with⟨A6,AA⟩|⟨A6,AA⟩
 .exact .of_left (intBits_le_64 A6 AA)
 .exact .of_right (intBits_le_64 A6 AA)
def yQ:E7 X (J4 .Add) (Mt λi j=>.int (i+j)):=k8 λ_ _ _ _ _ _ _ q=>add_int q
def yT:E7 X (J4 .Sub) (Mt λi j=>.int (i-j)):=k8 λ_ _ _ _ _ _ _ q=>sub_int q
def y1:E7 X (J4 .Mult) (TK SF λi j=>.int (i*j)):=ZX λ_ _ _ _ _ _ _ AK q=>mul_int q AK.ok
def xw:E7 X (J4 .FloorDiv) (TK Wn λi j=>.int (i/j)):=ZX λi j _ _ _ _ _ AK q=>by have A6:(0:Int)<j:=AK.1;have AA:j<1073741824:=AK.2;exact floordiv_int (by lia) (by rw[Int.fdiv_eq_ediv_of_nonneg i (by lia)];exact q) (.inl (PyProof.noPylong_small (by lia)))
def y0:E7 X (J4 .Mod) (TK (λ_ j=>0<j) λi j=>.int (i%j)):=ZX λi j _ _ _ _ _ AK q=>by have A6:(0:Int)<j:=AK;exact mod_int' (by lia) (by rw[Int.fmod_eq_emod_of_nonneg i (by lia)];exact q)
def y3:E7 X (J4 .Pow) (TK Wo λi j=>.int (i^j.toNat)):=ZX λ_ _ _ _ _ _ _ AK q=>pow_int_small AK.1 AK.2.1 AK.2.2 q
def acK{f:A8->Sem A8}{g:Int->Int}(rule:∀(i:Int)(t:Tok)(s:AQ)(Q:A8->AQ->Prop)(E:A8->AQ->Prop),Q (.int (g i) s.toks) { s with toks:=s.toks+1 }->Al (BG X.prog X.w) X.A (f (.int i t)) Q E s) :
  XT X f (l5 λi=>.int (g i)):=by
 intro pins s σ H x v Q I BQ h;obtain⟨i,rfl,q⟩:=h;obtain⟨t,rfl⟩:=BQ;exact rule i t s _ _ ⟨.int (g i),H,I.tok _,⟨_,rfl⟩,q⟩
def acL:XT X (unaryOp .USub) (l5 λi=>.int (-i)):=acK λ_ _ _ _ _ q=>neg_int q
end
noncomputable def nc:V->V->Bool
 |.non,.non=>true|.non,.int _=>true|.int _,.non=>true|.non,.AO _=>true|.AO _,.non=>true|.non,.str _=>true|.str _,.non=>true
 |.int _,.int _=>true|.AO _,.AO _=>true|.str _,.str _=>true|.N3 _,.N3 _=>true
 |.int _,.str _=>true|.str _,.int _=>true|.AO _,.str _=>true|.str _,.AO _=>true
 |_,_=>false
section
variable{X:Ac}{a b c:AT}{CB tb GJ:TE}{pos:Pos}
def iU{pins:List (A7×Obj)}{σ :St}{H:AC}{s:AQ}{Q:Cc}{k k':Bool}(I:Inv X pins σ H s)(q:Q (.AO k) H)(e:k=k'):GL X pins σ Q (.bool k') s:=by subst e;exact⟨.AO k,H,I,rfl,q⟩
def xz:E7 X (G6 .Lt) (Mt λi j=>.AO (decide (i<j))):=bC λ_ _ _ _ _ _ _ q=>lt_int q
def ZY:E7 X (G6 .LtE) (Mt λi j=>.AO (decide (i<=j))):=bC λ_ _ _ _ _ _ _ q=>le_int q
def xx:E7 X (G6 .Gt) (Mt λi j=>.AO (decide (j<i))):=bC λ_ _ _ _ _ _ _ q=>gt_int q
def xy:E7 X (G6 .Is) (λx y H Q=>y=.non/\Q (.AO (decide (x=.non))) H):=by
 intro pins s σ H x y v u Q I BQ Bx h;obtain⟨rfl,q⟩:=h;cases Bx;refine is_none_gen (iU I q ?_)
 cases x<;>first
  |(cases BQ;rfl)
  |(obtain⟨t,rfl⟩:=BQ;rfl)
def y2:E7 X (G6 .IsNot) (λx y H Q=>y=.non/\Q (.AO (!decide (x=.non))) H):=by
 intro pins s σ H x y v u Q I BQ Bx h;obtain⟨rfl,q⟩:=h;cases Bx;refine isnot_none_gen (iU I q ?_)
 cases x<;>first
  |(cases BQ;rfl)
  |(obtain⟨t,rfl⟩:=BQ;rfl)
def E7.or{f:A8->A8->Sem A8}{r BS:Ed}(h:E7 X f r)(h':E7 X f BS):E7 X f (λx y H Q=>r x y H Q\/BS x y H Q):=by
 intro pins s σ H x y v u Q I BQ Bx q;rcases q with q|q
 .exact h pins s σ H x y v u Q I BQ Bx q
 .exact h' pins s σ H x y v u Q I BQ Bx q
def P_(b:AT){op:KL}(h:op≠.In:=by decide)(AA:op≠.NotIn:=by decide):IE op b=false:=by
 have A9:(op==CmpOp.In)=false:=by cases op<;>first|rfl|exact absurd rfl h
 have AM:(op==CmpOp.NotIn)=false:=by cases op<;>first|rfl|exact absurd rfl AA
 cases b<;>simp[IE,A9,AM]
def zm{op:KL}{r:Ed}(ho:E7 X (G6 op) r)(AB:Ax X a CB)(A1:Ax X b tb)(hm:IE op b=false):Ax X (.Compare a [op] [b] pos) (VZ r CB tb):=by intro pins s σ H Q I h;exact wpAny_Compare1 (f5 AB A1 I h λv u s2 x y Az Br BQ Bx q=>ho pins s2 σ Az x y v u Q Br BQ Bx q) hm
def c8(t:TE):TT:=λσ H Q=>t σ H λx H'=>∃k,x=.AO k/\Q k H'
def aaW{op:KL}{r:Ed}(ho:E7 X (G6 op) r)(AB:Ax X a CB)(A1:Ax X b tb)(hm:IE op b=false):FX X (.Compare a [op] [b] pos) (c8 (VZ r CB tb)):=by
 intro pins s σ H Q I h;refine wpAny_isTrue_Compare1 (Bd (AB pins s σ H _ I h) λv s1⟨x,H1,As,AL,An⟩=>Bd (A1 pins s1 σ H1 _ As An) λu s2⟨y,Az,Br,B7,BF⟩=>
  Bd (ho pins s2 σ Az x y v u _ Br AL B7 BF) λc s3⟨z,D0,Dg,Dy,k,e,EO⟩=>?_) hm
 subst e;cases Dy;exact Kz ⟨D0,Dg,EO⟩
def cx(r BS:Ed)(CB tb GJ:TE):TE:=λσ H Q=>CB σ H λx H1=>tb σ H1 λy Az=>r x y Az λz D0=>∃k,z=.AO k/\
 (if k=true then GJ σ D0 λFd HA=>BS y Fd HA Q else Q (.AO false) D0)
def zk{op Jk:KL}{r BS:Ed}(ho:E7 X (G6 op) r)(F9:E7 X (G6 Jk) BS)(AB:Ax X a CB)(A1:Ax X b tb)(AK:Ax X c GJ)(hm:lastMarks [op,Jk] [b,c]=false:=by with_unfolding_all rfl):Ax X (.Compare a [op,Jk] [b,c] pos) (cx r BS CB tb GJ):=by
 intro pins s σ H Q I h;refine Compare_chain (Bd (AB pins s σ H _ I h) λv s1⟨x,H1,As,AL,An⟩=>chain_link (Bd (A1 pins s1 σ H1 _ As An) λu s2⟨y,Az,Br,B7,BF⟩=>
  Bd (ho pins s2 σ Az x y v u _ Br AL B7 BF) λd s3⟨z,D0,Dg,Dy,k,e,EO⟩=>?_)) hm
 subst e;cases Dy;refine Kz ?_;cases k with
 |false=>exact ite_ff ⟨.AO false,D0,Dg,rfl,EO⟩
 |true=>exact ite_tt (chain_last (Bd (AK pins s3 σ D0 _ Dg EO) λFd s4⟨G3,HA,LI,L7,RB⟩=>F9 pins s4 σ HA y G3 u Fd Q LI B7 L7 RB))
def aaV{op Jk:KL}{r BS:Ed}(ho:E7 X (G6 op) r)(F9:E7 X (G6 Jk) BS)(AB:Ax X a CB)(A1:Ax X b tb)(AK:Ax X c GJ)(hm:lastMarks [op,Jk] [b,c]=false:=by with_unfolding_all rfl):FX X (.Compare a [op,Jk] [b,c] pos) (c8 (cx r BS CB tb GJ)):=by
 intro pins s σ H Q I h;refine isTrue_chain (Bd (AB pins s σ H _ I h) λv s1⟨x,H1,As,AL,An⟩=>test_link (Bd (A1 pins s1 σ H1 _ As An) λu s2⟨y,Az,Br,B7,BF⟩=>
  Bd (ho pins s2 σ Az x y v u _ Br AL B7 BF) λd s3⟨z,D0,Dg,Dy,k,e,EO⟩=>?_)) hm
 subst e;cases Dy;refine Kz ?_;cases k with
 |false=>obtain⟨k',Bp,Gj⟩:=EO;cases Bp;exact ite_ff ⟨D0,Dg,Gj⟩
 |true=>refine ite_tt (test_last (Bd (AK pins s3 σ D0 _ Dg EO) λFd s4⟨G3,HA,LI,L7,RB⟩=>Bd (F9 pins s4 σ HA y G3 u Fd _ LI B7 L7 RB) λd' s5⟨Dh,J8,S5,O8,C3,AM,aal⟩=>?_));subst AM;cases O8;exact Kz ⟨J8,S5,aal⟩
noncomputable def q_(K:A_)(x:V)(H:AC)(k:Bool):Prop:=
 match x with
 |.non=>k=false
 |.AO b=>k=b
 |.int i=>k=(i !=0)
 |.str y=>y.length<=CF/\k=((y.length:Int) !=0)
 |.N3 y=>y.size<=CF/\k=((y.size:Int) !=0)
 |.ref p=>(∃xs,C9 K H p xs/\k=!xs.isEmpty)\/(∃xs,CZ K H p xs/\k=!xs.isEmpty)\/∃AX,H p=some (.Bg AX)/\k=!AX.isEmpty
 |_=>False
def vd{DW:Type}{AX:List (DW×V)}{vs:List (DW×A8)}(r:Gu AX vs):(!vs.isEmpty)=!AX.isEmpty:=by cases r<;>rfl
def jZ{xs:List V}{its:List A8}(r:Vals xs its):(!its.toArray.isEmpty)=!xs.isEmpty:=by cases r<;>simp
def Sh:(CF:Nat)<2^63:=by rw[QM];decide
def agU:qZ X (λx H Q=>∃k,q_ X.K x H k/\Q k H):=by
 intro pins s σ H x v Q I BQ h;obtain⟨k,e,q⟩:=h;have AN:=Sh;have AJ:CF=16777216:=QM;cases x with
 |non=>cases BQ;have Bp:k=false:=e;subst Bp;exact truthy_none ⟨H,I,q⟩
 |AO b=>cases BQ;have Bp:k=b:=e;subst Bp;exact Kz ⟨H,I,q⟩
 |int i=>obtain⟨t,rfl⟩:=BQ;have Bp:k=(i !=0):=e;subst Bp;exact PySem.P.truthy_int ⟨H,I,q⟩
 |str y=>obtain⟨t,rfl⟩:=BQ;obtain⟨BO,Bp⟩:y.length<=CF/\k=((y.length:Int) !=0):=e;subst Bp;exact PySem.P.truthy_str (by lia) ⟨H,I.tok _,q⟩
 |N3 y=>obtain⟨t,rfl⟩:=BQ;obtain⟨BO,Bp⟩:y.size<=CF/\k=((y.size:Int) !=0):=e;subst Bp;exact PySem.W.truthy_bytes (by lia) ⟨H,I.tok _,q⟩
 |ref p=>
  cases BQ;have Bp:(∃xs,C9 X.K H p xs/\k=!xs.isEmpty)\/(∃xs,CZ X.K H p xs/\k=!xs.isEmpty)\/∃AX,H p=some (.Bg AX)/\k=!AX.isEmpty:=e;rcases Bp with⟨xs,AI,Bp⟩|⟨xs,AI,Bp⟩|⟨AX,AI,Bp⟩
  .subst Bp;obtain⟨its,r,pl,BB⟩:=I.list AI;have hlen:=r.length;exact wpAny_truthy_list pl.isList (by simp only[E0];lia) ⟨H,I.tok _,by rw[jZ r];exact q⟩
  .subst Bp;obtain⟨its,r,pl,BB⟩:=I.tuple AI;have hlen:=r.length;exact truthy_tuple pl (by simp only[E0];lia) ⟨H,I.tok _,by rw[jZ r];exact q⟩
  .subst Bp;obtain⟨BB,Gg,vs,r,m⟩:AX.length<=CF/\(p==Hj)=false/\∃vs,Gu AX vs/\s.heap.DictOf (Gz X.prog X.w) p vs:=I.Be p _ AI;have hlen:AX.length=vs.length:=Paired.length r;exact wpAny_truthy_dict Gg m (by lia) ⟨H,I.tok _,by rw[vd r];exact q⟩
 |_=>exact(show False from e).elim
def yR:E7 X (J4 .Add) (λx y H Q=>∃i j,x=.str i/\y=.str j/\i.length+j.length<=CF/\Q (.str (i++j)) H):=by intro pins s σ H x y v u Q I BQ Bx h;obtain⟨i,j,rfl,rfl,BB,q⟩:=h;obtain⟨t,rfl⟩:=BQ;obtain⟨t',rfl⟩:=Bx;exact add_str (λt' CV=>⟨.str (i++j),H,I.tok _,⟨_,rfl⟩,q⟩) BB
def vals1{x:V}{us:List A8}(r:Vals [x] us):∃u,us=[u]/\RelV x u:=by
 cases r with
 |cons AL B7=>cases B7;exact⟨_,rfl,AL⟩
def vals2{x y:V}{us:List A8}(r:Vals [x,y] us):∃u Fd,us=[u,Fd]/\RelV x u/\RelV y Fd:=by
 cases r with
 |cons AL B7=>
  cases B7 with
  |cons Dy L7=>cases L7;exact⟨_,_,rfl,AL,Dy⟩
def rR:Hv X (.type "int") (λxs H Q=>(∃i,xs=[.int i]/\Q (.int i) H)\/∃k,xs=[.AO k]/\Q (.int (if k then 1 else 0)) H):=by
 intro pins s σ H xs us Q I r h;rcases h with⟨i,rfl,q⟩|⟨k,rfl,q⟩
 .obtain⟨u,rfl,t,rfl⟩:=vals1 r;exact call_int_int ⟨.int i,H,I,⟨_,rfl⟩,q⟩
 .obtain⟨u,rfl,AL⟩:=vals1 r;cases AL;exact call_int_bool ⟨.int (if k then 1 else 0),H,I.tok _,⟨_,rfl⟩,q⟩
def rY:Hv X (.type "str") (λxs H Q=>∃i,xs=[.int i]/\i.natAbs.log2<1920/\Q (.str (toString i)) H):=by intro pins s σ H xs us Q I r h;obtain⟨i,rfl,BB,q⟩:=h;obtain⟨u,rfl,t,rfl⟩:=vals1 r;exact PySem.P.str_of_int BB ⟨.str _,H,I.tok _,⟨_,rfl⟩,q⟩
noncomputable def gh(K:A_)(x:V)(H:AC)(n:Nat):Prop:=
 match x with
 |.str y=>y.length<=CF/\n=y.length
 |.N3 y=>y.size<=CF/\n=y.size
 |.ref p=>(∃xs,C9 K H p xs/\n=xs.length)\/∃xs,CZ K H p xs/\n=xs.length
 |_=>False
def rU:Hv X (.builtin "len") (λxs H Q=>∃x n,xs=[x]/\gh X.K x H n/\Q (.int n) H):=by
 intro pins s σ H xs us Q I r h;obtain⟨x,n,rfl,e,q⟩:=h;obtain⟨u,rfl,BQ⟩:=vals1 r;have AN:=Sh;have AJ:CF=16777216:=QM;cases x with
 |str y=>obtain⟨t,rfl⟩:=BQ;obtain⟨BO,Bp⟩:y.length<=CF/\n=y.length:=e;subst Bp;exact len_str (by lia) ⟨.int _,H,I.tok _,⟨_,rfl⟩,q⟩
 |N3 y=>obtain⟨t,rfl⟩:=BQ;obtain⟨BO,Bp⟩:y.size<=CF/\n=y.size:=e;subst Bp;exact PySem.W.len_bytes (by lia) ⟨.int _,H,I.tok _,⟨_,rfl⟩,q⟩
 |ref p=>
  cases BQ;have Bp:(∃xs,C9 X.K H p xs/\n=xs.length)\/∃xs,CZ X.K H p xs/\n=xs.length:=e;rcases Bp with⟨xs,AI,Bp⟩|⟨xs,AI,Bp⟩
  .subst Bp;obtain⟨its,BS,pl,BB⟩:=I.list AI;have hlen:=BS.length;exact Calls.call_len_list pl.isList (by simp only[E0];lia) ⟨.int xs.length,H,I.tok _,⟨_,by simp only[E0];rw[hlen]⟩,q⟩
  .subst Bp;obtain⟨its,BS,pl,BB⟩:=I.tuple AI;have hlen:=BS.length;exact len_tuple pl (by simp only[E0];lia) ⟨.int xs.length,H,I.tok _,⟨_,by simp only[E0];rw[hlen]⟩,q⟩
 |_=>exact(show False from e).elim
end
structure Ql(h:BP)(x Ag C:A7)(EJ:Str->Option A8):Prop where
 obj:h.get? x=some (Ol C Ag)
 ns:h.Ns1 Ag EJ
 ne:Ag≠x
def xu{h:BP}{Ag:A7}{EJ:Str->Option A8}(n:h.Ns1 Ag EJ):∃EN,h.get? Ag=some EN/\∀name,Wb name EN=some (EJ name):=by
 obtain⟨o,A5,BY,ho,hd,AF,_,hm⟩:=n;refine⟨o,ho,λname=>?_⟩;have e:=hm name;unfold nsFind findBy at e;rw[<-Array.find?_toList]at e;unfold Wb;rw[hd];dsimp only
 split
 .rename_i y q;rw[q]at e;exact congrArg some e
 .rename_i q;rw[q]at e;have a:A5.toList.any (·.refKey)=false:=by
   rw[List.any_eq_false];intro y BO;obtain⟨z,t,Kb⟩:=AF y (Array.mem_toList_iff.mp BO);simp[DictEntry.refKey,Kb]
  have Ph:¬A5.toList.any (·.refKey)=true:=by rw[a];exact Fv
  rw[if_neg Ph];exact congrArg some e
def Ql.look{h:BP}{x Ag C:A7}{EJ:Str->Option A8}(I:Ql h x Ag C EJ):∃EN,PySem.W.InstAt h x (Ol C Ag) C (some EN)/\∀name,Wb name EN=some (EJ name):=
 let⟨EN,ho,AN⟩:=xu I.ns
 ⟨EN,⟨I.obj,rfl,rfl,ho⟩,AN⟩
section
variable{prog:C2}{w:Bh}{A:CR}{E:A8->AQ->Prop}{s:AQ}{K:A_}{x Ag C f:A7}{EJ:Str->Option A8}{name:Str}{v:A8}
def get_map{expr:Bool}{Q:A8->AQ->Prop}(X:K.In s.heap)(I:Ql s.heap x Ag C EJ)(Ad:Rv K C name=true)(BE:Ti K C=true)(AB:Jn K (.ref C) name=some none)(Bc:EJ name=some v)(uK:PySem.W.handedIn v=true)(h:Q v { s with toks:=s.toks+1 }) :
  Al (BG prog w) A (getAttr (.ref x) name expr) Q E s:=by
 obtain⟨EN,DD,AN⟩:=I.look;exact PySem.W.get_value X DD (dY Ad).1 (PySem.W.findObj_own BE AB rfl (by rw[AN,Bc])) uK h
def tK{pl:Sem Bool}{Q:A8×List A8->AQ->Prop}(X:K.In s.heap)(I:Ql s.heap x Ag C EJ)(Ad:Rv K C name=true)(hf:Jn K (.ref C) name=some (some (.ref f)))(Aj:Ts K (.ref f)=true)(Bc:EJ name=none)(h:Q (.ref f,[.ref x]) s) :
  Al (BG prog w) A (Oq (.ref x) name pl) Q E s:=by
 obtain⟨EN,DD,AN⟩:=I.look;exact PySem.W.method_fn X DD (dY Ad).1 (dY Ad).2 hf (beq_iff_eq.mp Aj) (by show(Wb name EN).map (·.isSome)=some false;rw[AN,Bc];rfl) h
def abr{ns:List Str}{Q:Unit->AQ->Prop}(X:K.In s.heap)(I:Ql s.heap x Ag C EJ)(AJ:Jn K (.ref C) "__setattr__"=some (some (.builtin "object.__setattr__")))(AZ:WO K C=true)(Aj:dk K C name=some none)(BE:Ti K C=true)(hw:dg EJ ns)(hsz:ns.length<=CF)(h:∀h',Ql h' x Ag C (λy=>if y=name then some v else EJ y)->Iz Ag s.heap h'->Q () { s with heap:=h',toks:=s.toks+2 }) :
  Al (BG prog w) A (setAttr (.ref x) name v) Q E s:=by
 obtain⟨EN,DD,AN⟩:=I.look;refine PySem.W.set_plain X DD AJ (PySem.W.osa_open (s:={ s with toks:=s.toks+1 }) (r:=none) X DD AZ Aj λb=>?_);obtain⟨cd,AK,Il⟩:=PySem.W.any_some BE;have AI:s.heap.get? x=some ⟨.ref C,some Ag,.plain,#[]⟩:=I.obj;refine AR (BM (AR (AR (wpAny_loadPart AI (AR (PySem.W.Looks.here (s:={ s with toks:=s.toks+1 }) (PySem.W.looks_clsIn X AK) ?_))))));rw[Il];refine BM (a:=some Ag) (AR (BM (AR ?_)));refine wpAny_nsSet1 (s:={ s with toks:=s.toks+1 }) I.ns λh' Y4 F_=>?_;obtain⟨agF,aft,afq,v5,JW,t4⟩:=Y4.count (PySem.Within.cons name v hw);refine AR (wpAny_lookBehind v5 (by rw[JW];exact pastItsLine_dict (FT t4 (by rw[FU];lia))) ?_);exact BM (h _ ⟨(F_.2 _ (Hl I.ne)).trans I.obj,Y4,I.ne⟩ F_)
def xM {R:Result->AQ->Prop} {vs:List A8} {kw:List (Str×A8)} (X:K.In s.heap) (hm:dm K C=true)(AD:Jn K (.ref C) "__init__"=some (some (.ref f))) (hf:PySem.W.typeIn K (.ref f)=some (.type "function"))(h:Ma (BG prog w) (A.under (.builtin "type.__call__" ⟨.ref C::vs,kw⟩)) (.call (.ref f) ⟨.ref (s.heap.objs.size+1)::vs,kw⟩) (PySem.W.InitBack (s.heap.objs.size+1) R)
    { s with heap:=(s.heap.push NM).push (Ol C s.heap.objs.size) }) :
  Ma (BG prog w) A (.call (.ref C) ⟨vs,kw⟩) R s:=by
 obtain⟨BE,g,d,t,os⟩:=s;exact PySem.W.make_core (PySem.W.makes_of X hm) (PySem.W.looks_findIn X AD) (λself=>PySem.W.bind_fn X self hf) (.inl rfl) h
end
def H2(f:Str)(v:V):List (Str×V)->List (Str×V)
 |[]=>[(f,v)]
 |(g,x)::r=>if g=f then(g,v)::r else(g,x)::H2 f v r
theorem j2(f g:Str)(v:V):∀Ap:List (Str×V),(H2 f v Ap).lookup g=if g=f then some v else Ap.lookup g
 |[]=>by
  show QN g [(f,v)]=_;by_cases h:g=f
  .have A1:(g==f)=true:=beq_iff_eq.mpr h;simp only[QN,A1,if_pos h]
  .have A1:(g==f)=false:=beq_eq_false_iff_ne.mpr h;simp only[QN,A1,if_neg h]
 |(k,x)::r=>by
  have CA:=j2 f g v r;rw[show H2 f v ((k,x)::r)=(if k=f then(k,v)::r else(k,x)::H2 f v r)from rfl];by_cases AF:k=f
  .rw[if_pos AF];by_cases h:g=k
   .have A1:(g==k)=true:=beq_iff_eq.mpr h;simp only[QN,A1,if_pos (h.trans AF)]
   .have A1:(g==k)=false:=beq_eq_false_iff_ne.mpr h;simp only[QN,A1,if_neg (λe:g=f=>h (e.trans AF.symm))]
  .rw[if_neg AF];by_cases h:g=k
   .have A1:(g==k)=true:=beq_iff_eq.mpr h;simp only[QN,A1,if_neg (λe:g=f=>AF (h.symm.trans e))]
   .have A1:(g==k)=false:=beq_eq_false_iff_ne.mpr h;simp only[QN,A1];exact CA
theorem Zu(f:Str)(v:V):∀Ap:List (Str×V),f∈(H2 f v Ap).map (·.1)/\∀g,g∈Ap.map (·.1)->g∈(H2 f v Ap).map (·.1)
 |[]=>⟨by simp[H2],λg h=>by simp at h⟩
 |(k,x)::r=>by
  obtain⟨BZ,Bl⟩:=Zu f v r;rw[show H2 f v ((k,x)::r)=(if k=f then(k,v)::r else(k,x)::H2 f v r)from rfl];by_cases AF:k=f
  .rw[if_pos AF];subst AF;exact⟨by simp,λg h=>by simpa using h⟩
  .rw[if_neg AF];refine⟨?_,λg h=>?_⟩
   .rw[EF];exact Ff _ BZ
   .rw[EF]at h |-;rcases List.mem_cons.mp h with e|e
    .exact List.mem_cons.mpr (.inl e)
    .exact Ff _ (Bl g e)
theorem iw(f:Str)(v:V):∀Ap:List (Str×V),(H2 f v Ap).length<=Ap.length+1
 |[]=>by simp[H2]
 |(k,x)::r=>by
  have CA:=iw f v r;rw[show H2 f v ((k,x)::r)=(if k=f then(k,v)::r else(k,x)::H2 f v r)from rfl];by_cases AF:k=f
  .rw[if_pos AF,FU,FU];lia
  .rw[if_neg AF,FU,FU];lia
def I3.some_of{v:V}{o:Option A8}(r:I3 (some v) o):∃u,o=some u/\RelV v u:=by
 cases o with
 |none=>exact(show False from r).elim
 |some u=>exact⟨u,rfl,r⟩
def I3.none_of{o:Option A8}(r:I3 none o):o=none:=by
 cases o with
 |none=>rfl
 |some u=>exact(show False from r).elim
def tY{v:V}{u:A8}(r:RelV v u):PySem.W.handedIn u=true:=by
 cases v with
 |non=>cases(show u=GG from r);rfl
 |AO b=>cases(show u=Oo b from r);rfl
 |int i=>obtain⟨t,e⟩:=(show ∃t,u=Wd i t from r);cases e;rfl
 |str x=>obtain⟨t,e⟩:=(show ∃t,u=We x t from r);cases e;rfl
 |N3 b=>obtain⟨t,e⟩:=(show ∃t,u=Value.bytes b t from r);cases e;rfl
 |YQ b=>obtain⟨t,e⟩:=(show ∃t,u=Value.float b t from r);cases e;rfl
 |ref a=>cases(show u=Db a from r);rfl
 |ty n=>cases(show u=QL n from r);rfl
section
variable{P:C2}{w:Bh}{K:A_}{H H':AC}{h h':BP}{a C Ag:A7}{Ap ib:List (Str×V)}
def aK(Be:Ei P w K H h)(e:H a=some (.ins C Ag Ap)):∃EJ,Ql h a Ag C EJ/\(∀f,I3 (Ap.lookup f) (EJ f))/\dg EJ (Ap.map (·.1))/\Ap.length<=1000/\H Ag=some (.own a):=by obtain⟨d,z,ne,ob,EJ,n,r,q⟩:=(show FW P w K H h a (.ins C Ag Ap)from Be a _ e);exact⟨EJ,⟨ob,n,ne⟩,r,q,z,d⟩
end
structure J6(K:A_)(C:A7):Prop where
 zE:Rv K C Str.empty=true
 hd:Ti K C=true
 po:WO K C=true
 OC:Jn K (.ref C) "__setattr__"=some (some (.builtin "object.__setattr__"))
def J6.get{K:A_}{C:A7}(c:J6 K C)(f:Str):Rv K C f=true:=c.zE
def Qj(K:A_)(C:A7)(f:Str):Prop:=Jn K (.ref C) f=some none
def Qj.acn{K:A_}{C:A7}{f:Str}(n:Qj K C f):dk K C f=some none:=by unfold dk;rw[show Jn K (.ref C) f=some none from n];rfl
structure Meth(K:A_)(C:A7)(m:Str)(f:A7):Prop where
 at_:Jn K (.ref C) m=some (some (.ref f))
 fn:Ts K (.ref f)=true
 kp:Kv K (.ref f)=true
section
variable{X:Ac}{pins:List (A7×Obj)}{σ :St}{H:AC}{s:AQ}{a C Ag:A7}{Ap:List (Str×V)}{f:Str}{v:V}{A:CR}{E:A8->AQ->Prop}
def tL{b:Bool}{Q:A8->AQ->Prop}(I:Inv X pins σ H s)(e:H a=some (.ins C Ag Ap))(c:J6 X.K C)(n:Qj X.K C f)(l:Ap.lookup f=some v)(h:∀u s',Inv X pins σ H s'->RelV v u->Q u s'):Al (BG X.prog X.w) A (getAttr (.ref a) f b) Q E s:=by obtain⟨EJ,O,r,_,_,_⟩:=aK I.Be e;obtain⟨u,BR,FP⟩:=I3.some_of (v:=v) (o:=EJ f) (by rw[<-l];exact r f);exact get_map I.EQ O (c.get f) c.hd n BR (tY FP) (h u _ (I.tok _) FP)
def aW{m:Str}{g:A7}{pl:Sem Bool}{Q:A8×List A8->AQ->Prop}(I:Inv X pins σ H s)(e:H a=some (.ins C Ag Ap))(c:J6 X.K C)(k:Meth X.K C m g)(l:Ap.lookup m=none)(h:Q (.ref g,[.ref a]) s):Al (BG X.prog X.w) A (Oq (.ref a) m pl) Q E s:=by obtain⟨EJ,O,r,_,_,_⟩:=aK I.Be e;have AV:EJ m=none:=I3.none_of (by rw[<-l];exact r m);exact tK I.EQ O (c.get m) k.at_ k.fn AV h
def ab3{y:V}{u:A8}{Q:Unit->AQ->Prop}(I:Inv X pins σ H s)(e:H a=some (.ins C Ag Ap))(c:J6 X.K C)(n:Qj X.K C f)(AN:Ap.length<1000)(Bx:RelV y u)(h:∀s',Inv X pins σ (upd H a (.ins C Ag (H2 f y Ap))) s'->Q () s'):Al (BG X.prog X.w) A (setAttr (.ref a) f u) Q E s:=by
 obtain⟨EJ,O,r,Iw,_,ho⟩:=aK I.Be e;have BB:(Ap.map (·.1)).length<=CF:=by rw[GU,QM];lia
 refine abr I.EQ O c.OC c.po n.acn c.hd Iw BB λh' eT Ks=>h _ ?_;have hd:∃o,h'.get? Ag=some o:=let⟨o,_,_,Bp,_⟩:=eT.ns;⟨o,Bp⟩
 refine I.write (x:=a) (e:=Ag) (by rw[e];exact L2) (.inr ho) (λb q A1 z=>(Ks.2 b A1).trans z) hd ?_;refine⟨by rw[DV O.ne];exact ho,?_,O.ne,eT.obj,_,eT.ns,λg=>?_,λg Ad=>?_⟩
 .have:=iw f y Ap;lia
 .show I3 ((H2 f y Ap).lookup g) (if g=f then some u else EJ g);rw[j2];by_cases q:g=f
  .rw[if_pos q,if_pos q];exact Bx
  .rw[if_neg q,if_neg q];exact r g
 .by_cases q:g=f
  .rw[q];exact(Zu f y Ap).1
  .refine(Zu f y Ap).2 g (Iw g λz=>Ad ?_);show(if g=f then some u else EJ g)=none;rw[if_neg q];exact z
def Inv.made(I:Inv X pins σ H s):Inv X pins σ (upd (upd H s.heap.objs.size (.own (s.heap.objs.size+1))) (s.heap.objs.size+1) (.ins C s.heap.objs.size []))
  { s with heap:=(s.heap.push NM).push (Ol C s.heap.objs.size) }:=by
 have A9:(s.heap.push NM).get? s.heap.objs.size=some NM:=F4 s.heap rfl;have AM:((s.heap.push NM).push (Ol C s.heap.objs.size)).get? (s.heap.objs.size+1)=some (Ol C s.heap.objs.size):=by
  have:=F4 (s.heap.push NM) (o:=Ol C s.heap.objs.size) rfl
  rwa [Kw]at this
 have BD:(s.heap.push NM).Ns s.heap.objs.size (λ_=>none):=⟨NM,#[],_,A9,rfl,(λe he=>absurd he (by simp)),λ_=>rfl⟩;have As:=I.laid (a:=s.heap.objs.size) (o:=.own (s.heap.objs.size+1)) (h':=s.heap.push NM) (t':=s.toks) (λb u q=>Da _ q) (Ci _) ⟨_,A9⟩;refine As.laid (a:=s.heap.objs.size+1) (o:=.ins C s.heap.objs.size []) (t':=s.toks) (λb u q=>Da _ q) (Nat.le_of_eq (Kw _ _)) ?_;have ne:s.heap.objs.size≠s.heap.objs.size+1:=FD (dU _);refine⟨by rw[DV ne,Dz],J1 _,ne,AM,λ_=>none,(Heap.Ns1.of_empty BD).at λo q=>Da _ q,λ_=>L2,λy BO=>absurd rfl BO⟩
def q9{prog:C2}{w:Bh}{env:Env}{e:AT}{f:Str}{pos:Pos}{s:AQ}{Q:A8->AQ->Prop}(A1:IF e f env (BN e env)=BN e env)(h:Al (BG prog w) A (BN e env) (λo DB=>Al (BG prog w) A (getAttr o f true) Q E DB) E s):Al (BG prog w) A (BN (.Attribute e f pos) env) Q E s:=
 Attribute_any_ h (by rw[arm_eval_Attribute,A1])
end
def acf(K:A_)(CB:TE)(f:Str):TE:=λσ H Q=>CB σ H λx H1=>∃a C Ag Ap v,x=.ref a/\H1 a=some (.ins C Ag Ap)/\J6 K C/\Qj K C f/\Ap.lookup f=some v/\Q v H1
noncomputable def aaS(K:A_)(CB Jt:TE)(f:Str):FJ:=λD σ H=>Jt σ H λy H1=>CB σ H1 λx Az=>∃a C Ag Ap,x=.ref a/\Az a=some (.ins C Ag Ap)/\J6 K C/\Qj K C f/\Ap.length<1000/\
 D.Ay σ (upd Az a (.ins C Ag (H2 f y Ap)))
section
variable{X:Ac}{o e value:AT}{f:Str}{pos pos' Q7:Pos}{CB Jt:TE}
def bI(he:Ax X e CB)(A1:IF e f X.env (BN e X.env)=BN e X.env):Ax X (.Attribute e f pos) (acf X.K CB f):=by intro pins s σ H Q I h;refine q9 A1 (Bd (he pins s σ H _ I h) λu s1⟨x,H1,As,BQ,a,C,Ag,Ap,v,ex,B0,c,n,l,q⟩=>?_);subst ex;obtain rfl:u=Db a:=BQ;exact tL As B0 c n l λGK s2 Br FP=>⟨v,H1,Br,FP,q⟩
def bM(AB:Ax X o CB)(Bc:Ax X value Jt)(AJ:Lk value (some (.Attribute o f pos')) pos.line X.env=pure false):DH X (.Assign [.Attribute o f pos'] value pos) (aaS X.K CB Jt f):=by intro pins s σ H D I h;refine plainObj_wpAny_Assign_Attribute (Bd (Bc pins s σ H _ I h) λu s1⟨y,H1,As,Bx,q⟩=>Bd (AB pins s1 σ H1 _ As q) λDA s2⟨x,Az,Br,BQ,a,C,Ag,Ap,ex,B0,c,n,l,BF⟩=>?_) AJ;subst ex;obtain rfl:DA=Db a:=BQ;exact ab3 Br B0 c n l Bx λs3 Dg=>⟨σ,_,Dg,BF⟩
def agB {pl:Sem Bool} {m:Str} {apos:Pos} {args:List AT} {pins:List (A7×Obj)} {s:AQ} {σ :St} {H:AC} {Q:A8->AQ->Prop} {E5:TE} (he:Ax X e E5) (I:Inv X pins σ H s)(h:E5 σ H λx H1=>∃a C Ag Ap g,x=.ref a/\H1 a=some (.ins C Ag Ap)/\J6 X.K C/\Meth X.K C m g/\Ap.lookup m=none/\
    ∀s1,Inv X pins σ H1 s1->Al (BG X.prog X.w) X.A (QV pos (.ref g) [.ref a] (DC pos (BI args X.env)) (H9 pos (H8 [] X.env))) Q X.xe s1)
  (Aj:BN (.Call (.Attribute e m apos) args [] pos) X.env=(do
    let DA <-BN e X.env
    M_ apos.atName
    let(f,first) <-Jr [DA] (Oq DA m pl)
    QV pos f first (DC pos (BI args X.env)) (H9 pos (H8 [] X.env)))) :
  Al (BG X.prog X.w) X.A (BN (.Call (.Attribute e m apos) args [] pos) X.env) Q X.xe s:=by
 refine dC (pl:=pl) (Bd (he pins s σ H _ I h) λu s1⟨x,H1,As,BQ,a,C,Ag,Ap,g,ex,B0,c,k,l,q⟩=>?_) Aj;subst ex;obtain rfl:u=Db a:=BQ;exact aW As B0 c k l (q s1 As)
end
section
variable{X:Ac}{pins:List (A7×Obj)}{σ :St}{H:AC}{s:AQ}{A:CR}{E:A8->AQ->Prop}{Q:A8->AQ->Prop}{c:A8}{b:Bool}
end
structure Ch(k:Nat)(A:CR):Prop where
 hd:A.handled=none
 XP:A.depth+3*k+5<recursionLimit
 un:A.units+16*k+200<DX
def Ch.mono{j k:Nat}{A:CR}(r:Ch k A)(h:j<=k):Ch j A:=⟨r.hd,by have:=r.XP;lia,by have:=r.un;lia⟩
theorem Ch.deeper{k:Nat}{A:CR}(r:Ch (k+1) A)(env:Env):Ch k (A.deeper env):=
 ⟨r.hd,by have:=r.XP;show A.depth+1+3*k+5<_;lia,by have:=r.un;show A.units+3+16*k+200<_;lia⟩
def xL{A:CR}{C:A7}{us:List A8}{kw:List (Str×A8)}:(A.under (.builtin "type.__call__" ⟨.ref C::us,kw⟩)).depth=A.depth+1:=by
 first|rfl|simp[dh,Code.weight,Code.isCreation,Code.isGuard,Code.isCaller,Code.frames,di,guardIds]
def xN{A:CR}{C:A7}{us:List A8}{kw:List (Str×A8)}:(A.under (.builtin "type.__call__" ⟨.ref C::us,kw⟩)).units=A.units+1:=by
 first|rfl|simp[dh,Code.cUnits,Code.frames,di]
def Ch.make{k:Nat}{A:CR}(r:Ch (k+1) A)(C:A7)(us:List A8)(kw:List (Str×A8)):Ch k (A.under (.builtin "type.__call__" ⟨.ref C::us,kw⟩)):=
 ⟨r.hd,by have:=r.XP;rw[xL];lia,by have:=r.un;rw[xN];lia⟩
theorem Ch.depth{k:Nat}{A:CR}(r:Ch k A):A.depth<recursionLimit:=by have:=r.XP;lia
theorem Ch.units{k:Nat}{A:CR}(r:Ch k A):A.units+64<DX:=by have:=r.un;lia
def Yi:Ez:=λ_ H Q=>Q [] H
def n4(CB:TE)(Ef:Ez):Ez:=λσ H Q=>CB σ H λx H1=>Ef σ H1 λxs Az=>Q (x::xs) Az
section
variable{X:Ac}{e:AT}{A5:List AT}{E5:TE}{t:Ez}{pos:Pos}
def R9:GN X [] Yi:=λ_ _ _ _ H Q I h=>WP ⟨[],H,I,.nil,h⟩
def P7(AB:Ax X e E5)(B3:GN X A5 t)(AJ:BI (e::A5) X.env=(false,BN e X.env)::BI A5 X.env:=by rfl):GN X (e::A5) (n4 E5 t):=by intro pos pins s σ H Q I h;rw[AJ];show Al _ _ (spliced ((false,BN e X.env)::DC pos (BI A5 X.env))) _ _ s;refine Tf (Bd (AB pins s σ H _ I h) λu s1⟨x,H1,As,AL,An⟩=>?_);exact Bd (B3 pos pins s1 σ H1 _ As An) λus s2⟨xs,Az,Br,B7,BF⟩=>⟨x::xs,Az,Br,.cons AL B7,BF⟩
def oX(t:Ez):TE:=λσ H Q=>t σ H λxs H1=>xs.length<=CF/\∀p,H1 p=none->Q (.ref p) (upd H1 p (.tup xs))
def oS(t:Ez):TE:=λσ H Q=>t σ H λxs H1=>xs.length<=CF/\∀p,H1 p=none->Q (.ref p) (upd H1 p (.lst xs))
def zC{Ex}(h:GN X A5 t):Ax X (.Tuple A5 Ex pos) (oX t):=by intro pins s σ H Q I AW;refine wpAny_Tuple_spliced (Bd (h pos pins s σ H _ I AW) λus s1⟨xs,H1,As,r,z,q⟩=>⟨by rw[<-r.length];exact z,?_⟩);have hf:H1 s1.heap.objs.size=none:=As.Be.fresh (Ci _);refine⟨.ref s1.heap.objs.size,upd H1 s1.heap.objs.size (.tup xs),As.laid (t':=s1.toks) (λb u e=>Da _ e) (Ci _) ?_,rfl,q _ hf⟩;exact⟨z,us,r,⟨_,F4 _ rfl,rfl,_,rfl⟩⟩
def zw(h:GN X A5 t):Ax X (.List A5 pos) (oS t):=by intro pins s σ H Q I AW;refine wpAny_List_spliced (Bd (h pos pins s σ H _ I AW) λus s1⟨xs,H1,As,r,z,q⟩=>⟨by rw[<-r.length];exact z,?_⟩);have hf:H1 s1.heap.objs.size=none:=As.Be.fresh (Ci _);refine⟨.ref s1.heap.objs.size,upd H1 s1.heap.objs.size (.lst xs),As.laid (t':=s1.toks) (λb u e=>Da _ e) (Ci _) ?_,rfl,q _ hf⟩;exact⟨z,us,0,r,F4 _ rfl⟩
end
abbrev AY:=List V->AC->Cc->DP->Prop
abbrev LF:=List Env->AC->AQ->DP->A8->AQ->Prop
structure Qh(P:C2)(w:Bh)(K:A_)(mg:Str->Option A8)(base:BP)(A:CR)(outer:List Env)(s:AQ)(H:AC):Prop where
 frames:A.frames=some outer
 mod:Mod K mg base
 bs:∀b o,base.get? b=some o->s.heap.get? b=some o/\H b=none
 Pm:base.objs.size<=s.heap.objs.size
 LS:s.heap.FunFrames base outer
 QZ:∀b∈LP outer,H b=none
 Be:Ei P w K H s.heap
 bare:NY s.gens
noncomputable def ea(outer:List Env)(P:C2)(w:Bh)(K:A_)(H:AC)(s:AQ)(Q:Cc)(u:A8)(s':AQ):Prop:=
 ∃v H',s'.os=s.os/\NY s'.gens/\GP (LP outer) [] H H' s.heap s'.heap/\Ei P w K H' s'.heap/\RelV v u/\Q v H'
noncomputable def pZ(CX:LF)(outer:List Env)(P:C2)(w:Bh)(K:A_)(H:AC)(s:AQ)(Q:Cc)(E:DP)(r:Result)(s':AQ):Prop:=
 match r with
 |.ok (.ret u)=>ea outer P w K H s Q u s'
 |.ok _=>False
 |.error e=>CX outer H s E e s'
structure GX(P:C2)(w:Bh)(K:A_)(mg:Str->Option A8)(base:BP)(CX:LF)(k:Nat)(f:A7)(fd:G5)(Aq:List Str)(sp:AY):Prop where
 len:∀vs H Q E,sp vs H Q E->vs.length=Aq.length
 run:∀(A:CR)(outer:List Env)(s:AQ)(H:AC)(args:Args)(us:List A8)(vs:List V)(Q:Cc)(E:DP),Ch k A->Qh P w K mg base A outer s H->BindsTo s fd args (Aq.zip us)->Vals vs us->sp vs H Q E->
  Ma (BG P w) A (.call (.ref f) args) (pZ CX outer P w K H s Q E) s
def GX.imp{P:C2}{w:Bh}{K:A_}{mg:Str->Option A8}{base:BP}{CX:LF}{k:Nat}{f:A7}{fd:G5}{Aq:List Str}{sp nB:AY}(F:GX P w K mg base CX k f fd Aq sp)(h:∀vs H Q E,nB vs H Q E->sp vs H Q E):GX P w K mg base CX k f fd Aq nB:=
 ⟨λvs H Q E q=>F.len vs H Q E (h _ _ _ _ q),λA outer s H args us vs Q E B3 he A1 Bc AJ=>F.run A outer s H args us vs Q E B3 he A1 Bc (h _ _ _ _ AJ)⟩
def Qh.make{P:C2}{w:Bh}{K:A_}{mg:Str->Option A8}{base:BP}{A:CR}{outer:List Env}{s:AQ}{H:AC}(e:Qh P w K mg base A outer s H)(C:A7)(us:List A8)(kw:List (Str×A8)) :
  Qh P w K mg base (A.under (.builtin "type.__call__" ⟨.ref C::us,kw⟩)) outer s H:=⟨by first|exact e.frames|(simpa[dh,Code.envs,di,pushEnvs]using e.frames),e.mod,e.bs,e.Pm,e.LS,e.QZ,e.Be,e.bare⟩
section
variable{X:Ac}{pins:List (A7×Obj)}{σ :St}{H:AC}{s s':AQ}
def Inv.hJ(I:Inv X pins σ H s):Qh X.prog X.w X.K X.mg X.base X.A X.stack s H:=
 ⟨I.ok.frames,I.ok.mod,I.bs,FT I.ok.Pm I.Yc,I.stack,I.nM,I.Be,I.bare⟩
def Inv.after{Q:Cc}{u:A8}(I:Inv X pins σ H s)(h:ea X.stack X.prog X.w X.K H s Q u s'):GL X pins σ Q u s':=by obtain⟨v,H',os,bare,un,Be,r,q⟩:=h;obtain⟨BE,g,d,t,zX⟩:=s';obtain rfl:zX=s.os:=os;exact⟨v,H',I.call (h':=BE) (g':=g) (d':=d) (t':=t) (ch:=[]) un Be bare (λb z=>absurd z (by simp)),r,q⟩
end
def cw(sp:AY)(Gx:List V)(E:DP)(t:Ez):TE:=λσ H Q=>t σ H λvs H1=>sp (vs++Gx) H1 Q E
def VY(C:A7)(m:Str)(sp:AY)(Gx:List V)(E:DP)(CB:TE)(t:Ez):TE:=λσ H Q=>CB σ H λx H1=>∃a Ag Ap,x=.ref a/\H1 a=some (.ins C Ag Ap)/\Ap.lookup m=none/\
 t σ H1 λvs Az=>sp (x::(vs++Gx)) Az Q E
noncomputable def c4(C:A7)(sp:AY)(Gx:List V)(E:DP)(t:Ez):TE:=λσ H Q=>t σ H λvs H1=>∀x Ag,H1 x=none->H1 Ag=none->Ag≠x->
 sp (.ref x::(vs++Gx)) (upd (upd H1 Ag (.own x)) x (.ins C Ag [])) (λv Az=>v=.non/\Q (.ref x) Az) E
def Binds(K:A_)(fd:G5)(Aq:List Str)(ds:List A8):Prop:=
 ∀(s:AQ)(us:List A8),K.In s.heap->(us++ds).length=Aq.length->BindsTo s fd ⟨us,[]⟩ (Aq.zip (us++ds))
def Binds.all{K:A_}{fd:G5}{Aq:List Str}(h:∀us:List A8,us.length=Aq.length->S2 fd ⟨us,[]⟩=pure (Aq.zip us)):Binds K fd Aq []:=λs us _ AN=>by rw[Le]at AN |-;exact .of_eq (h us AN)
def Passes(CX:LF)(X:Ac)(E:DP):Prop:=∀(pins:List (A7×Obj))(σ :St)(H:AC)(s:AQ)(e:A8)(s':AQ),Inv X pins σ H s->CX X.stack H s E e s'->X.xe e s'
section
variable{X:Ac}{CX:LF}{k:Nat}{f C:A7}{fd:G5}{Aq:List Str}{sp:AY}{Gx:List V}{ds:List A8}{E:DP}{x m:Str}{p pos apos:Pos}{e o:AT}{A5:List AT}{CB:TE}{t:Ez}
def az{pins:List (A7×Obj)}{σ :St}{H:AC}{s:AQ}{Q:Cc}{us:List A8}{vs:List V}(F:GX X.prog X.w X.K X.mg X.base CX k f fd Aq sp)(B3:Ch k X.A)(A1:Binds X.K fd Aq ds)(hd:Vals Gx ds)(AI:Passes CX X E)(I:Inv X pins σ H s)(r:Vals vs us)(h:sp (vs++Gx) H Q E):Al (BG X.prog X.w) X.A (call (.ref f) us) (GL X pins σ Q) X.xe s:=by
 have B7:Vals (vs++Gx) (us++ds):=r.append hd;have AN:(us++ds).length=Aq.length:=by rw[<-B7.length];exact F.len _ _ _ _ h
 refine wpAny_call (Wh (F.run X.A X.stack s H ⟨us,[]⟩ (us++ds) (vs++Gx) Q E B3 I.hJ (A1 s us I.EQ AN) B7 h) λr s' AW=>?_);cases r with
 |error e=>exact AI pins σ H s e s' I AW
 |ok IS=>
  cases IS with
  |ret u=>exact I.after AW
  |next=>exact KF AW
  |brk=>exact KF AW
  |cont=>exact KF AW
def kH(F:GX X.prog X.w X.K X.mg X.base CX k f fd Aq sp)(B3:Ch k X.A)(Ad:EG X x)(hm:X.mg x=some (.ref f))(AF:Kv X.K (.ref f)=true)(A1:Binds X.K fd Aq ds)(hd:Vals Gx ds)(AI:Passes CX X E)(AB:GN X (e::A5) t)(Gq:(x==("__debug__" :Str))=false:=by decide)(he:BI (e::A5) X.env=(false,BN e X.env)::BI A5 X.env:=by rfl)(Dv:(DC pos (BI A5 X.env)).any (·.1)=false:=by rfl) :
  Ax X (.Call (.Name x p) (e::A5) [] pos) (cw sp Gx E t):=by
 intro pins s σ H Q I h;refine Tb (bT I Ad hm ?_ Gq);refine da (h₀:=X.base) I.ok.mod.Kf AF (Bd (AB pos pins s σ H _ I h) λus s1⟨vs,H1,As,r,q⟩=>⟨As.EQ,?_⟩) he Dv;exact az F B3 A1 hd AI As r q
def jp {pl:Sem Bool} (he:Ax X o CB) (c:J6 X.K C) (hm:Meth X.K C m f) (F:GX X.prog X.w X.K X.mg X.base CX k f fd Aq sp) (B3:Ch k X.A) (A1:Binds X.K fd Aq ds) (hd:Vals Gx ds) (AI:Passes CX X E) (AB:GN X (e::A5) t)(OT:BI (e::A5) X.env=(false,BN e X.env)::BI A5 X.env:=by rfl) (Dv:(DC pos (BI A5 X.env)).any (·.1)=false:=by rfl)(Aj:BN (.Call (.Attribute o m apos) (e::A5) [] pos) X.env=(do
    let DA <-BN o X.env
    M_ apos.atName
    let(f,first) <-Jr [DA] (Oq DA m pl)
    QV pos f first (DC pos (BI (e::A5) X.env)) (H9 pos (H8 [] X.env))):=by rfl) :
  Ax X (.Call (.Attribute o m apos) (e::A5) [] pos) (VY C m sp Gx E CB t):=by
 intro pins s σ H Q I h;refine dC (pl:=pl) (Bd (he pins s σ H _ I h) λu s1⟨x,H1,As,BQ,a,Ag,Ap,ex,B0,l,q⟩=>?_) Aj;subst ex;obtain rfl:u=Db a:=BQ;refine aW As B0 c hm l ?_;refine da (first:=[.ref a]) (h₀:=X.base) I.ok.mod.Kf hm.kp (Bd (AB pos pins s1 σ H1 _ As q) λus s2⟨vs,Az,Br,r,BF⟩=>⟨Br.EQ,?_⟩) OT Dv;exact az (us:=.ref a::us) (vs:=.ref a::vs) F B3 A1 hd AI Br (.cons rfl r) BF
def z7 {pl:Sem Bool} (he:Ax X o CB) (c:J6 X.K C) (hm:Meth X.K C m f) (F:GX X.prog X.w X.K X.mg X.base CX k f fd Aq sp) (B3:Ch k X.A) (A1:Binds X.K fd Aq ds) (hd:Vals Gx ds) (AI:Passes CX X E)(Aj:BN (.Call (.Attribute o m apos) [] [] pos) X.env=(do
    let DA <-BN o X.env
    M_ apos.atName
    let(f,first) <-Jr [DA] (Oq DA m pl)
    QV pos f first (DC pos (BI [] X.env)) (H9 pos (H8 [] X.env))):=by rfl) :
  Ax X (.Call (.Attribute o m apos) [] [] pos) (VY C m sp Gx E CB Yi):=by
 intro pins s σ H Q I h;refine dC (pl:=pl) (Bd (he pins s σ H _ I h) λu s1⟨x,H1,As,BQ,a,Ag,Ap,ex,B0,l,q⟩=>?_) Aj;subst ex;obtain rfl:u=Db a:=BQ;refine aW As B0 c hm l ?_;exact PySem.W.callWith_K0 (first:=[.ref a]) As.EQ hm.kp (az (us:=[.ref a]) (vs:=[.ref a]) F B3 A1 hd AI As (.cons rfl .nil) q)
structure U8(K:A_)(C f:A7):Prop where
 makes:dm K C=true
 init:Jn K (.ref C) "__init__"=some (some (.ref f))
 fn:Ts K (.ref f)=true
 kp:Kv K (.ref C)=true
def aaN{pins:List (A7×Obj)}{σ :St}{H:AC}{s:AQ}{Q:Cc}{us:List A8}{vs:List V}(M:U8 X.K C f)(F:GX X.prog X.w X.K X.mg X.base CX k f fd Aq sp)(B3:Ch (k+1) X.A)(A1:Binds X.K fd Aq ds)(hd:Vals Gx ds)(AI:Passes CX X E)(I:Inv X pins σ H s)(r:Vals vs us)(h:∀x Ag,H x=none->H Ag=none->Ag≠x->sp (.ref x::(vs++Gx)) (upd (upd H Ag (.own x)) x (.ins C Ag [])) (λv Az=>v=.non/\Q (.ref x) Az) E) :
  Al (BG X.prog X.w) X.A (call (.ref C) us) (GL X pins σ Q) X.xe s:=by
 have AW:=h (s.heap.objs.size+1) s.heap.objs.size (I.Be.fresh (Wl _)) (I.Be.fresh (Ci _)) (FD (dU _));have Br:=Inv.made (C:=C) I;have B7:Vals (V.ref (s.heap.objs.size+1)::(vs++Gx)) (Db (s.heap.objs.size+1)::(us++ds)):=.cons rfl (r.append hd);have AN:(Db (s.heap.objs.size+1)::us++ds).length=Aq.length:=by have e:=B7.length;rw[F.len _ _ _ _ AW]at e;exact e.symm
 refine wpAny_call (xM (f:=f) I.EQ M.makes M.init (beq_iff_eq.mp M.fn) (Wh (F.run _ X.stack _ _ ⟨Db (s.heap.objs.size+1)::us,[]⟩ (Db (s.heap.objs.size+1)::(us++ds)) _ _ E (B3.make C us [])
  (Br.hJ.make C us []) (A1 _ (Db (s.heap.objs.size+1)::us) Br.EQ AN) B7 AW) λr s' PH=>?_))
 cases r with
 |error e=>exact AI pins σ _ _ e s' Br PH
 |ok IS=>
  cases IS with
  |ret u=>obtain⟨v,H',Dg,CL,ev,EO⟩:=Br.after PH;subst ev;exact⟨CL,⟨V.ref (s.heap.objs.size+1),H',Dg,rfl,EO⟩⟩
  |next=>exact KF PH
  |brk=>exact KF PH
  |cont=>exact KF PH
def jo(M:U8 X.K C f)(F:GX X.prog X.w X.K X.mg X.base CX k f fd Aq sp)(B3:Ch (k+1) X.A)(Ad:EG X x)(hm:X.mg x=some (.ref C))(A1:Binds X.K fd Aq ds)(hd:Vals Gx ds)(AI:Passes CX X E)(AB:GN X (e::A5) t)(Gq:(x==("__debug__" :Str))=false:=by decide)(he:BI (e::A5) X.env=(false,BN e X.env)::BI A5 X.env:=by rfl)(Dv:(DC pos (BI A5 X.env)).any (·.1)=false:=by rfl) :
  Ax X (.Call (.Name x p) (e::A5) [] pos) (c4 C sp Gx E t):=by
 intro pins s σ H Q I h;refine Tb (bT I Ad hm ?_ Gq);refine da (h₀:=X.base) I.ok.mod.Kf M.kp (Bd (AB pos pins s σ H _ I h) λus s1⟨vs,H1,As,r,q⟩=>⟨As.EQ,?_⟩) he Dv;exact aaN M F B3 A1 hd AI As r q
end
noncomputable def JC(X:Ac)(jO:List Fg)(t:Ez):Prop:=
 ∀(pos:Pos)(pins:List (A7×Obj))(s:AQ)(σ :St)(H:AC)(Q:List V->AC->Prop),Inv X pins σ H s->t σ H Q->Al (BG X.prog X.w) X.A (evalAll ((H9 pos (H8 jO X.env)).map (·.2))) (gX X pins σ Q) X.xe s
section
variable{X:Ac}{CX:LF}{k:Nat}{f C:A7}{fd:G5}{Aq ks:List Str}{sp:AY}{E:DP}{x m:Str}{p pos apos agm:Pos}{e o:AT}{A5:List AT}{jO:List Fg}{E5 CB:TE}{t CV:Ez}{nm:Option Str}
variable{g:List A8->List A8->List A8}{afu:List V->List V->List V}
end
structure Cg(N P:List Str)(sc:E6):Prop where
 kind:sc.kind=.function
 co:sc.isCoroutine=false
 gen:sc.isGenerator=false
 Ct:N.Nodup
 pre:N.take P.length=P
 par:∀x∈P,sc.names.lookup x=some .local\/sc.names.lookup x=some .cell
 yn:∀y∈sc.names,y.2≠.free
theorem g0{Js:Str->Option KG}{x:Str}:∀{binds:List (Str×A8)}{m:Str->Option A8},(∀v,(x,v)∉binds)->bindL Js binds m x=m x
 |[],_,_=>rfl
 |(n,v)::r,m,h=>by
  unfold bindL;rw[g0 λw hw=>h w (Ff _ hw)]
  split
  .have:x≠n:=by rintro rfl;exact h v MS
   simp[this]
  .rfl
theorem fy{Js:Str->Option KG}{x:Str}:∀{binds:List (Str×A8)}{m:Str->Option A8},(∀v,(x,v)∉binds)->bindC Js binds m x=m x
 |[],_,_=>rfl
 |(n,v)::r,m,h=>by
  unfold bindC;rw[fy λw hw=>h w (Ff _ hw)]
  split
  .rfl
  .have:x≠n:=by rintro rfl;exact h v MS
   simp[this]
theorem fz{Js:Str->Option KG}{x:Str}{v:A8}:∀{P:List Str}{vs:List A8}{i:Nat}{m:Str->Option A8},P.Nodup->P[i]?=some x->vs[i]?=some v->Js x=some .local->
  bindL Js (P.zip vs) m x=some v
 |[],_,_,_,_,h,_,_=>by simp at h
 |_::_,[],_,_,_,_,h,_=>by simp at h
 |p::P,w::vs,0,m,Ct,A6,AA,AF=>by simp at A6 AA;subst A6;subst AA;show bindL Js ((p,w)::P.zip vs) m p=_;unfold bindL;rw[g0 λv Bc=>(List.nodup_cons.mp Ct).1 (WY Bc).1,if_pos AF];simp
 |p::P,w::vs,i+1,m,Ct,A6,AA,AF=>by show bindL Js ((p,w)::P.zip vs) m x=_;unfold bindL;exact fz (i:=i) (List.nodup_cons.mp Ct).2 (by simpa using A6) (by simpa using AA) AF
theorem fx{Js:Str->Option KG}{x:Str}{v:A8}:∀{P:List Str}{vs:List A8}{i:Nat}{m:Str->Option A8},P.Nodup->P[i]?=some x->vs[i]?=some v->Js x≠some .local->
  bindC Js (P.zip vs) m x=some v
 |[],_,_,_,_,h,_,_=>by simp at h
 |_::_,[],_,_,_,_,h,_=>by simp at h
 |p::P,w::vs,0,m,Ct,A6,AA,AF=>by simp at A6 AA;subst A6;subst AA;show bindC Js ((p,w)::P.zip vs) m p=_;unfold bindC;rw[fy λv Bc=>(List.nodup_cons.mp Ct).1 (WY Bc).1,if_neg AF];simp
 |p::P,w::vs,i+1,m,Ct,A6,AA,AF=>by show bindC Js ((p,w)::P.zip vs) m x=_;unfold bindC;exact fx (i:=i) (List.nodup_cons.mp Ct).2 (by simpa using A6) (by simpa using AA) AF
def start(N:List Str)(vs:List V):St:=vs.map some++G4 (N.length-vs.length) none
noncomputable def JR(CX:LF)(P:C2)(w:Bh)(K:A_)(mg:Str->Option A8)(base:BP)(N:List Str)(qual:Str)(scope:E6)(f:A7)(cd:A8)(A:CR)(outer:List Env)(s:AQ)(H:AC)(E:DP):Ac where
 prog:=P
 w:=w
 K:=K
 mg:=mg
 base:=base
 A:=A.deeper (NW qual scope s.heap.objs.size f cd)
 N:=N
 GI:=s
 U4:=H
 env:=NW qual scope s.heap.objs.size f cd
 outer:=outer
 stack:=NW qual scope s.heap.objs.size f cd::outer
 ex:=[]
 calm:=true
 fn:=λ_=>true
 BX:=[]
 xe:=λe s'=>Al (BG P w) (A.deeper (NW qual scope s.heap.objs.size f cd)) (leaving (NW qual scope s.heap.objs.size f cd) e) (λ_ VN=>CX outer H s E e VN) (λBp VN=>CX outer H s E Bp VN) s'
def fB{sc:E6}{n:Nat}{x:Str}(h:sc.names.lookup x=some .cell):∃c,(HR n sc.names []).lookup x=some c:=by have q:=p7 sc.names n [] (.inl h);exact Option.isSome_iff_exists.mp q
def vb{CX:LF}{P:C2}{w:Bh}{K:A_}{mg:Str->Option A8}{base:BP}{N Aq:List Str}{qual:Str}{scope:E6}{f:A7}{cd:A8}{A:CR}{outer:List Env}{s s1:AQ}{H:AC}{E:DP}{us:List A8}{vs:List V}(S:Cg N Aq scope)(hd:A.handled=none)(DN:Qh P w K mg base A outer s H)(AN:vs.length=Aq.length)(r:Vals vs us)(x:InCallC s s.heap.objs.size (bindL (NW qual scope s.heap.objs.size f cd).kindOf (Aq.zip us) λ_=>none) (HR (s.heap.objs.size+1) scope.names []) (bindC (NW qual scope s.heap.objs.size f cd).kindOf (Aq.zip us) λ_=>none) s1) :
  Inv (JR CX P w K mg base N qual scope f cd A outer s H E) [] (start N vs) H s1:=by
 have Dv:Aq.length<=N.length:=by have:=congrArg List.length S.pre;rw[Tk]at this;lia
 obtain⟨A6,CV,rfl,AF⟩:=x.done;have Vw:∀b:A7,b∉(JR CX P w K mg base N qual scope f cd A outer s H E).ex:=λb z=>absurd (show b∈([]:List A7)from z) (by simp)
 refine⟨⟨DN.mod,S.kind,rfl,rfl,Ci _,λy z c A6 AA=>?_,λy BO=>?_,λy c _ h=>?_,λ_=>hd,Around.frames_deeper DN.frames,.inr ⟨rfl,rfl⟩,λb z=>absurd z (Vw b),DN.bs,DN.Pm,λb _ _=>Vw b,λb z=>absurd z (Vw b),DN.LS,DN.QZ⟩,
  rfl,DN.bare,GP.kept AF,⟨_,x.toInCall.ns,λi y v A6 AA B4=>?_⟩,λy c h=>⟨_,x.cell y c h⟩,DN.Be.fresh (Ci _),λy c h=>?_,λp AZ=>absurd (show p∈([]:List (A7×Obj))from AZ) (by simp),DN.Be.kept AF,?_⟩
 .exact name_of_addr x.apart (MX A6) (MX AA)
 .have BO:scope.names.lookup y=some .cell\/scope.names.lookup y=some .free:=BO;rcases BO with BO|BO
  .exact fB BO
  .exact absurd rfl (S.yn _ (MX BO))
 .exact Tr (x.above y c (MX h))
 .have AD:i<vs.length:=by
    unfold start at AA;by_cases AD:i<vs.length
    .exact AD
    .rw[NN (by simpa using AD)]at AA;rw[Of]at AA
     split at AA<;>cases AA
  have AB:vs[i]?=some v:=by
   unfold start at AA;rw[Jm (by simpa using AD),EL]at AA;cases e:vs[i]? with
   |none=>rw[e]at AA;cases AA
   |some a=>rw[e]at AA;cases AA;rfl
  obtain⟨u,BR,CL⟩:=r.get AB;have AZ:Aq[i]?=some y:=by rw[<-S.pre,List.getElem?_take_of_lt (by lia)];exact A6
  have ke:Aq.Nodup:=by rw[<-S.pre];exact S.Ct.sublist (List.take_sublist _ _)
  refine⟨u,CL,?_⟩;rcases S.par y (KD AZ)with k|k
  .exact .inl ⟨k,fz ke AZ BR k⟩
  .obtain⟨c,e⟩:=fB (n:=s.heap.objs.size+1) k;refine .inr ⟨.inl k,c,e,?_⟩;have q:=x.cell y c e;rw[fx ke AZ BR (by show scope.names.lookup y≠_;rw[k];decide)]at q;exact q
 .exact DN.Be.fresh (Tr (x.above y c (MX h)))
 .unfold start;show _=N.length;rw[J2,GU,Rw];lia
def u0 {CX:LF} {P:C2} {w:Bh} {K:A_} {mg:Str->Option A8} {base:BP} {k:Nat} {f:A7} {name qual:Str} {params:Arguments} {body:List Bb} {scope:E6} {XK Dl doc pm CJ Dr I9:A8} {an EN:Option A7}{Mr:Array (Option A8)} {N Aq:List Str} {sp:AY} (lk:K.lookup f=some ⟨I9,EN,.func (J0 name qual params body scope XK Dl doc pm an CJ Dr),Mr⟩) (DQ:Oh K CJ qual=true) (S:Cg N Aq scope)(len:∀vs H Q E,sp vs H Q E->vs.length=Aq.length)(ab:∀(A:CR)(outer:List Env)(s:AQ)(H:AC)(vs:List V)(Q:Cc)(E:DP),Ch k (A.deeper (NW qual scope s.heap.objs.size f CJ))->sp vs H Q E->
    ∃t,GO (JR CX P w K mg base N qual scope f CJ A outer s H E) body t/\t { Ay:=λ_ H'=>Q .non H',ES:=Q } (start N vs) H) :
  GX P w K mg base CX (k+1) f (J0 name qual params body scope XK Dl doc pm an CJ Dr) Aq sp:=by
 refine⟨len,λA outer s H args us vs Q E B3 DN A1 r PI=>?_⟩;have AN:=len _ _ _ _ PI;have IM:K.In s.heap:=DN.mod.Kf.keeps λb o e=>(DN.bs b o e).1;have lim:s.heap.NoLimit:=DN.mod.nolimit.keeps λb o e=>(DN.bs b o e).1;have ur:∀y∈Aq.zip us,scope.names.lookup y.1=some .local\/(scope.names.lookup y.1=some .cell/\((HR (s.heap.objs.size+1) scope.names []).lookup y.1).isSome=true):=λ⟨n,v⟩ BO=>by
  rcases S.par n (WY BO).1 with q|q
  .exact .inl q
  .exact .inr ⟨q,p7 _ _ _ (.inl q)⟩
 refine codeAny_call_function B3.depth (IM _ _ lk) rfl S.co S.gen rfl (PySem.W.codeRec_of IM DQ) (A1 _ _ _ _ ?_);refine wpAny_newFunctionEnv_cells S.kind ur λenv he s1 x=>?_;subst he;refine⟨lim.keeps x.toInCall.keep,codeAny_func ?_⟩;obtain⟨t,Aj,AW⟩:=ab A outer s H vs Q E (B3.deeper _) PI;have I:Inv (JR CX P w K mg base N qual scope f CJ A outer s H E) [] (start N vs) H s1:=vb S B3.hd DN AN r x;refine Jq (Aj [] s1 (start N vs) H _ I AW) (λIS s' AJ=>?_) λe s' AJ=>AJ;have fin:∀{σ' :St}{H':AC}{v:V}{u:A8},Inv (JR CX P w K mg base N qual scope f CJ A outer s H E) [] σ' H' s'->RelV v u->Q v H'->ea outer P w K H s Q u s':=
  λ{σ' H' v u} DD CL q=>⟨v,H',DD.os,DD.bare,DD.base,DD.Be,CL,q⟩
 cases IS with
 |ret u=>obtain⟨v,σ',H',DD,CL,q⟩:=AJ;exact fin DD CL q
 |next=>obtain⟨σ',H',DD,q⟩:=AJ;exact fin (v:=V.non) (u:=GG) DD rfl q
 |brk=>obtain⟨_,_,_,q⟩:=AJ;exact KF q
 |cont=>obtain⟨_,_,_,q⟩:=AJ;exact KF q
section
variable{X:Ac}{x:Str}{p pos:Pos}{e:AT}{A5:List AT}{t:Ez}{id T:String}{r:List V->AC->Cc->Prop}
def Yf(r:List V->AC->Cc->Prop)(t:Ez):TE:=λσ H Q=>t σ H λvs H1=>r vs H1 Q
def kI(AK:Hv X (.builtin id) r)(Ad:EG X x)(hm:X.mg x=none)(Bc:Ku x=some (.builtin id))(AB:GN X (e::A5) t)(AV:x≠"__name__":=by decide)(Gq:(x==("__debug__" :Str))=false:=by decide)(he:BI (e::A5) X.env=(false,BN e X.env)::BI A5 X.env:=by rfl)(Dv:(DC pos (BI A5 X.env)).any (·.1)=false:=by rfl):Ax X (.Call (.Name x p) (e::A5) [] pos) (Yf r t):=by intro pins s σ H Q I h;refine Tb (OX I Ad hm Bc ?_ AV Gq);exact PyProof.Rows.callWith_builtin1 (Bd (AB pos pins s σ H _ I h) λus s1⟨vs,H1,As,AL,An⟩=>AK pins s1 σ H1 vs us Q As AL An) he Dv
def bH(AK:Hv X (.type T) r)(Ad:EG X x)(hm:X.mg x=none)(Bc:Ku x=some (.type T))(AB:GN X (e::A5) t)(AV:x≠"__name__":=by decide)(Gq:(x==("__debug__" :Str))=false:=by decide)(he:BI (e::A5) X.env=(false,BN e X.env)::BI A5 X.env:=by rfl)(Dv:(DC pos (BI A5 X.env)).any (·.1)=false:=by rfl):Ax X (.Call (.Name x p) (e::A5) [] pos) (Yf r t):=by intro pins s σ H Q I h;refine Tb (OX I Ad hm Bc ?_ AV Gq);exact QD (Bd (AB pos pins s σ H _ I h) λus s1⟨vs,H1,As,AL,An⟩=>AK pins s1 σ H1 vs us Q As AL An) he Dv
end
end C1
namespace E1
open PySem PyProof.Rows
section
open PySem.SeqAt
open PySem.AutoSeq1 (wpAny_loadPart')
open PySem.MeetsSeq PySem.MeetsSeq2 PySem.MeetsSeq3
end
section
variable{prog:C2}{w:Bh}{A:CR}{E:A8->AQ->Prop}{s:AQ}
def rd{t b:A7}{vs ws:List A8}{Q:A8->AQ->Prop}(Aj:IsTup s.heap t vs.toArray)(A1:IsTup s.heap b ws.toArray)(Bc:vs≠[])(A6:ws=[]->Q (.ref t) s)(AA:ws≠[]->Q (.ref s.heap.objs.size) { s with heap:=s.heap.push { cls:=.type "tuple",data:=.seq (vs++ws).toArray } })(hsz:vs.length+ws.length<=CF):Al (BG prog w) A (J4 .Add (.ref t) (.ref b)) Q E s:=by
 obtain⟨⟨cls,DI,data,CE⟩,ho,AK,n,hd⟩:=id Aj;obtain⟨⟨ri,XO,data2,Z8⟩,Qe,F1,Dx,hd2⟩:=id A1;simp only at AK hd F1 hd2;subst AK hd F1 hd2;have e:vs.toArray++ws.toArray=(vs++ws).toArray:=by simp
 by_cases hw:ws=[]
 .exact concat_meets ⟨_,ho,rfl⟩ ⟨_,Qe,rfl⟩ dV seq_tuple_add d8 dL (dJ _ _)
    (tuple_addW1 t b vs.toArray ws.toArray n Dx DI XO CE Z8 (by simpa using Bc) (by simp[hw])) ⟨ho,Qe,A6 hw⟩
 .refine concat_meets ⟨_,ho,rfl⟩ ⟨_,Qe,rfl⟩ dV seq_tuple_add d8 dL (dJ _ _)
    (tuple_addW2 t b vs.toArray ws.toArray n Dx DI XO CE Z8 (by simpa using Bc) (by simpa using hw) (by rw[E0,E0];exact hsz)) ⟨ho,Qe,?_⟩
  rw[e];exact AA hw
def Cf(n d:Nat):Option Int->Nat
 |none=>d
 |some v=>if v<0 then(v+(n:Int)).toNat else min v.toNat n
def zx(n d:Nat):Cf n d none=d:=rfl
def aaT(n d k:Nat):Cf n d (some (k:Int))=min k n:=by show(if(k:Int)<0 then((k:Int)+(n:Int)).toNat else min (k:Int).toNat n)=min k n;rw[if_neg (by lia),MT]
def cU(n d:Nat)(hd:d<=n)(o:Option Int):Cf n d o<=n:=by
 cases o with
 |none=>exact hd
 |some v=>
  show(if v<0 then(v+(n:Int)).toNat else min v.toNat n)<=n;by_cases Bc:v<0
  .rw[if_pos Bc];lia
  .rw[if_neg Bc];exact Nat.min_le_right _ _
def hb(v:Int)(n d:Nat):(if v<0 then max (v+(n:Int)) 0 else min v (n:Int))=((Cf n d (some v):Nat):Int):=by
 show(if v<0 then max (v+(n:Int)) 0 else min v (n:Int))=(((if v<0 then(v+(n:Int)).toNat else min v.toNat n):Nat):Int);by_cases Bc:v<0
 .simp only[if_pos Bc];lia
 .simp only[if_neg Bc];lia
def ql(lo AD:Option Int)(n:Nat):dH lo AD 1 (n:Int)=(((Cf n 0 lo:Nat):Int),((Cf n n AD:Nat):Int)):=by
 have A6:¬((1:Int)<0):=by lia
 unfold dH;simp only[A6,if_false];refine Op ?_ ?_
 .cases lo with
  |none=>rfl
  |some v=>exact hb v n 0
 .cases AD with
  |none=>rfl
  |some v=>exact hb v n n
def yy(i j:Nat):W9 (i:Int) (j:Int) 1=j-i:=by
 unfold W9;have A6:(1:Int)>0:=by lia
 simp only[A6,if_true,Int.ediv_one]
 split<;>lia
def o2{v:A8}{o:Option Int}{Q:Option Int->AQ->Prop}(p:NX v o)(h:Q o s):Al (BG prog w) A (Builtin.Slice.slicePartIndex v) Q E s:=by
 cases p with
 |none=>exact slicePart_none h
 |int i t=>exact slicePart_int h
def abF{CE:A7}{HM HN:A8}{lo AD:Option Int}{n:Nat}{Q:Int×Int×Nat->AQ->Prop}(AJ:s.heap.IsSliceOf CE HM HN .none)(pl:NX HM lo)(pu:NX HN AD)(h:Q (((Cf n 0 lo:Nat):Int),1,Cf n n AD-Cf n 0 lo) s):Al (BG prog w) A (pO (.ref CE) (pure (n:Int))) Q E s:=by obtain⟨os,RR,iC,Y0⟩:=id AJ;unfold pO Builtin.Slice.sliceFields;refine AR (AR (HS RR Y0 (x:=HM) rfl (AR (HS RR Y0 (x:=HN) rfl (AR (HS RR Y0 (x:=.none) rfl (BM ?_)))))));refine AR (slicePart_none ?_);show Al _ _ (if((1:Int)==0)=true then _ else _) _ _ s;rw[if_neg (by decide)];refine AR (o2 pl (AR (o2 pu (AR (BM ?_)))));show Al _ _ (match dH lo AD 1 (n:Int)with|(lo,AD)=>pure (lo,(1:Int),W9 lo AD 1)) _ _ s;rw[ql lo AD n];show Al _ _ (pure (((Cf n 0 lo:Nat):Int),(1:Int),W9 ((Cf n 0 lo:Nat):Int) ((Cf n n AD:Nat):Int) 1)) _ _ s;rw[yy];exact BM h
def zT(xs:Array A8)(i k:Nat):((Ds k).filterMap λ(m:Nat)=>xs[((i:Int)+(m:Int)*1).toNat]?).toArray=((xs.toList.drop i).take k).toArray:=by
 have e:(λ(m:Nat)=>xs[((i:Int)+(m:Int)*1).toNat]?)=λm=>xs[i+m]?:=by
  funext m
  have:((i:Int)+(m:Int)*1).toNat=i+m:=by lia
  rw[this]
 rw[e];have:=pick_run xs i k;rw[List.filterMap_map]at this;have AM:((λx=>xs[x]?)∘λx=>i+x)=λm=>xs[i+m]?:=rfl;rw[AM]at this;rw[this]
def tJ{t CE:A7}{items:Array A8}{HM HN:A8}{lo AD:Option Int}{Q:A8->AQ->Prop}(Aj:IsTup s.heap t items)(AJ:s.heap.IsSliceOf CE HM HN .none)(pl:NX HM lo)(pu:NX HN AD)(hw:¬(Cf items.size 0 lo=0/\Cf items.size items.size AD=items.size))(h:Q (.ref s.heap.objs.size) { s with heap:=s.heap.push { cls:=.type "tuple",data:=.seq ((items.toList.drop (Cf items.size 0 lo)).take (Cf items.size items.size AD-Cf items.size 0 lo)).toArray } })(hsz:items.size<=CF):Al (BG prog w) A (Os (.ref t) (.ref CE)) Q E s:=by
 have Y7:sizeOk (.seq ((items.toList.drop (Cf items.size 0 lo)).take (Cf items.size items.size AD-Cf items.size 0 lo)).toArray):=by show((items.toList.drop (Cf items.size 0 lo)).take (Cf items.size items.size AD-Cf items.size 0 lo)).toArray.size<=CF;rw[E0,Tk,dW,WS];lia
 have Bz:Cf items.size items.size AD<=items.size:=cU _ _ (Ci _) AD;obtain⟨os,RR,iC,Y0⟩:=id AJ;have tV:s.TypeIs (.ref CE) "slice":=⟨os,RR,iC⟩;unfold Os
 try with_reducible refine Kx ?_
 first|refine AR (BM ?_)|skip
 refine AR (wpAny_sequenceKey Aj.typeIs (by decide) ?_)
 refine AR (MW (name:=Fw "__getitem__") Aj.typeIs p1
  (J3 p1 Aj.typeIs entry_tuple_getitem ?_ (args_tuple_getitem _ _)))
 show Al _ _ (pM (.ref t)>>=_) _ _ s;refine AR (tupleItemsOf_ Aj ?_);refine AR (wpAny_typeOf tV ?_);rw[if_pos (by decide)];refine AR (abF AJ pl pu ?_);have OR:¬((((Cf items.size 0 lo:Nat):Int)==0&&(1:Int)==1&&(Cf items.size items.size AD-Cf items.size 0 lo)==items.size)=true):=by intro q;rw[FV,FV]at q;have An:((Cf items.size 0 lo:Nat):Int)=0:=eq_of_beq q.1.1;have BF:Cf items.size items.size AD-Cf items.size 0 lo=items.size:=eq_of_beq q.2;exact hw ⟨by lia,by lia⟩
 show Al _ _ (if(((Cf items.size 0 lo:Nat):Int)==0&&(1:Int)==1&&(Cf items.size items.size AD-Cf items.size 0 lo)==items.size)=true then _ else _) _ _ s;rw[if_neg OR,zT]
 first
  |exact AR (m:=WA _) (Jo (BM ⟨_,rfl,BM h⟩) Y7)
  |exact AR (m:=WA _) (Jo (AR (BM (BM ⟨_,rfl,BM h⟩))) Y7)
  |exact AR (AR (m:=WA _) (Jo (BM (BM ⟨_,rfl,BM h⟩)) Y7))
  |exact AR (AR (m:=WA _) (Jo (BM ⟨_,rfl,BM h⟩) Y7))
end
end E1
namespace C1
open PySem PySem.Spec PyProof.Rows
abbrev CD:=St->AC->(Option Int->AC->Prop)->Prop
noncomputable def UB(X:Ac)(e:Option AT)(t:CD):Prop:=
 ∀(pins:List (A7×Obj))(s:AQ)(σ :St)(H:AC)(Q:Option Int->AC->Prop),Inv X pins σ H s->t σ H Q->
  Al (BG X.prog X.w) X.A (evalPart e X.env) (λu s'=>∃o H',Inv X pins σ H' s'/\NX u o/\Q o H') X.xe s
def aci:CD:=λ_ H Q=>Q none H
def acj(t:TE):CD:=λσ H Q=>t σ H λx H1=>∃i,x=.int i/\Q (some i) H1
section
variable{X:Ac}{e:AT}{E5:TE}{lo AD:Option AT}{ET Yk:CD}{pos D3:Pos}
def z1:UB X none aci:=by intro pins s σ H Q I h;rw[evalPart_none];exact BM ⟨none,H,I,.none,h⟩
def z2(h:Ax X e E5):UB X (some e) (acj E5):=by intro pins s σ H Q I hw;rw[evalPart_some];refine Bd (h pins s σ H _ I hw) λu s1⟨x,H1,As,AL,An⟩=>?_;obtain⟨i,rfl,q⟩:=An;obtain⟨t,rfl⟩:=AL;exact⟨some i,H1,As,.int i t,q⟩
noncomputable def Pe(X:Ac)(r:V->Option Int->Option Int->AC->Cc->Prop):Prop:=
 ∀(pins:List (A7×Obj))(s:AQ)(σ :St)(H:AC)(x:V)(v HM HN:A8)(lo AD:Option Int)(CE:A7)(Q:Cc),Inv X pins σ H s->RelV x v->s.heap.IsSliceOf CE HM HN .none->NX HM lo->NX HN AD->r x lo AD H Q->
  ∃T id,typeLookup (.type T) "__getitem__"=pure (some (.builtin id))/\s.TypeIs v T/\Al (BG X.prog X.w) X.A (Os v (.ref CE)) (GL X pins σ Q) X.xe s
def Pe.or{r BS:V->Option Int->Option Int->AC->Cc->Prop}(h:Pe X r)(h':Pe X BS):Pe X (λx lo AD H Q=>r x lo AD H Q\/BS x lo AD H Q):=by
 intro pins s σ H x v HM HN lo AD CE Q I BQ AJ pl pu q;rcases q with q|q
 .exact h pins s σ H x v HM HN lo AD CE Q I BQ AJ pl pu q
 .exact h' pins s σ H x v HM HN lo AD CE Q I BQ AJ pl pu q
def c7(r:V->Option Int->Option Int->AC->Cc->Prop)(E5:TE)(ET Yk:CD):TE:=λσ H Q=>E5 σ H λx H1=>ET σ H1 λl Az=>Yk σ Az λu D0=>r x l u D0 Q
def jq{r:V->Option Int->Option Int->AC->Cc->Prop}(B3:Pe X r)(he:Ax X e E5)(AN:UB X lo ET)(BR:UB X AD Yk):Ax X (.Subscript e (.Slice lo AD none D3) pos) (c7 r E5 ET Yk):=by intro pins s σ H Q I h;refine Subscript_ (Bd (he pins s σ H _ I h) λv s1⟨x,H1,As,AL,An⟩=>?_);refine wpAny_Slice (Bd (AN pins s1 σ H1 _ As An) λHM s2⟨l,Az,Br,pl,BF⟩=>Bd (BR pins s2 σ Az _ Br BF) λHN s3⟨u,D0,Dg,pu,EO⟩=>?_);rw[evalPart_none];refine BM ?_;have LI:Inv X pins σ D0 { s3 with heap:=s3.heap.push { cls:=.type "slice",data:=.fields #[HM,HN,.none] } }:=Dg.kept (t':=s3.toks) λb ob q=>Da _ q;obtain⟨T,id,Cw,Aj,Ad⟩:=B3 pins { s3 with heap:=s3.heap.push { cls:=.type "slice",data:=.fields #[HM,HN,.none] } } σ D0 x v HM HN l u s3.heap.objs.size Q LI AL (Heap.IsSliceOf.new ..) pl pu EO;show Al (BG X.prog X.w) X.A (subscriptTail e (.Slice lo AD none D3) v (.ref s3.heap.objs.size)) (GL X pins σ Q) X.xe { s3 with heap:=s3.heap.push { cls:=.type "slice",data:=.fields #[HM,HN,.none] } };exact tail_any (ops:=[.ref s3.heap.objs.size,v]) Aj Cw Ad (by with_unfolding_all rfl)
def Pn(xs:List V)(lo AD:Option Int):List V:=(xs.drop (E1.Cf xs.length 0 lo)).take (E1.Cf xs.length xs.length AD-E1.Cf xs.length 0 lo)
def hl(xs:List V)(lo AD:Option Int):(Pn xs lo AD).length<=xs.length:=by unfold Pn;rw[Tk,dW];lia
noncomputable def l4(K:A_):V->Option Int->Option Int->AC->Cc->Prop:=λx lo AD H Q=>∃a xs,x=.ref a/\CZ K H a xs/\
 ¬(E1.Cf xs.length 0 lo=0/\E1.Cf xs.length xs.length AD=xs.length)/\∀p,H p=none->Q (.ref p) (upd H p (.tup (Pn xs lo AD)))
def abE:Pe X (l4 X.K):=by
 intro pins s σ H x v HM HN lo AD CE Q I BQ AJ pl pu h;obtain⟨a,xs,rfl,AI,hw,q⟩:=h;cases BQ;obtain⟨its,r,Aj,BB⟩:=I.tuple AI;have hlen:its.toArray.size=xs.length:=by rw[E0];exact r.length.symm
 refine⟨"tuple",_,PyProof.Rows.slot_tuple_getitem.lookup,Aj.typeIs,?_⟩;refine E1.tJ Aj AJ pl pu (by rw[hlen];exact hw) ?_ (by rw[hlen];exact BB);rw[hlen];refine⟨.ref s.heap.objs.size,_,I.laid (t':=s.toks) (o:=.tup (Pn xs lo AD)) (λb ob q=>Da _ q) (Ci _) ?_,rfl,q _ (I.Be.fresh (Ci _))⟩;exact⟨FT (hl xs lo AD) BB,_,(r.drop (E1.Cf xs.length 0 lo)).take (E1.Cf xs.length xs.length AD-E1.Cf xs.length 0 lo),IsTup.new _ _⟩
noncomputable def lc(K:A_):Ed:=λx y H Q=>∃a b xs ys,x=.ref a/\y=.ref b/\CZ K H a xs/\CZ K H b ys/\xs≠[]/\xs.length+ys.length<=CF/\
 (ys=[]->Q (.ref a) H)/\(ys≠[]->∀p,H p=none->Q (.ref p) (upd H p (.tup (xs++ys))))
def Vals.bo{xs:List V}{us:List A8}(r:Vals xs us):us=[]↔xs=[]:=by
 cases r with
 |nil=>simp
 |cons _ _=>simp
def yS:E7 X (J4 .Add) (lc X.K):=by intro pins s σ H x y v u Q I BQ Bx h;obtain⟨a,b,xs,ys,rfl,rfl,AB,A1,AI,BB,An,BF⟩:=h;cases BQ;cases Bx;obtain⟨its,AL,EB,_⟩:=I.tuple AB;obtain⟨Ht,B7,D3,_⟩:=I.tuple A1;refine E1.rd EB D3 (λz=>AI (AL.bo.mp z)) (λz=>⟨.ref a,H,I,rfl,An (B7.bo.mp z)⟩) (λz=>?_) (by rw[<-AL.length,<-B7.length];exact BB);refine⟨.ref s.heap.objs.size,_,I.laid (t':=s.toks) (o:=.tup (xs++ys)) (λb ob q=>Da _ q) (Ci _) ?_,rfl,BF (λw=>z (B7.bo.mpr w)) _ (I.Be.fresh (Ci _))⟩;exact⟨by rw[J2];exact BB,_,AL.append B7,IsTup.new _ _⟩
end
def IH(n:Nat)(i:Int):Option Nat:=if 0<=i then(if i<n then some i.toNat else none)else if-(n:Int)<=i then some (i+n).toNat else none
def Fy{α:Type}(xs:List α)(i:Int):Option α:=(IH xs.length i).bind λj=>xs[j]?
def jj{n:Nat}{i:Int}{j:Nat}(h:IH n i=some j):S4 i n=some j/\j<n/\-(n:Int)<=i/\i<n:=by
 unfold IH at h;by_cases h0:0<=i
 .rw[if_pos h0]at h;by_cases A6:i<n
  .rw[if_pos A6]at h;have e:i.toNat=j:=Eh h;exact⟨by rw[seqIndex_of h0 A6,e],by lia,by lia,A6⟩
  .rw[if_neg A6]at h;cases h
 .rw[if_neg h0]at h;by_cases A6: -(n:Int)<=i
  .rw[if_pos A6]at h;have e:(i+n).toNat=j:=Eh h;exact⟨by rw[seqIndex_neg (by lia) A6,e],by lia,A6,by lia⟩
  .rw[if_neg A6]at h;cases h
def e8{α:Type}{xs:List α}{i:Int}{v:α}(h:Fy xs i=some v):∃j,S4 i xs.length=some j/\xs[j]?=some v/\j<xs.length/\-(xs.length:Int)<=i/\i<xs.length:=by
 unfold Fy at h;cases e:IH xs.length i with
 |none=>rw[e]at h;cases h
 |some j=>rw[e]at h;obtain⟨A6,AA,B4,BJ⟩:=jj e;exact⟨j,A6,h,AA,B4,BJ⟩
def eV(b:AT):Prop:=∀o i,Wf b false o i=operate [o,i] (Os o i)
noncomputable def Nj(X:Ac)(r:Ed):Prop:=
 ∀(value slice:AT)(pins:List (A7×Obj))(s:AQ)(σ :St)(H:AC)(x y:V)(v u:A8)(Q:Cc),Inv X pins σ H s->RelV x v->RelV y u->r x y H Q->
  Wf slice false v u=operate [v,u] (Os v u)->Al (BG X.prog X.w) X.A (subscriptTail value slice v u) (GL X pins σ Q) X.xe s
noncomputable def qU(X:Ac)(id:String)(r:V->List V->AC->Cc->Prop):Prop:=
 ∀(pins:List (A7×Obj))(s:AQ)(σ :St)(H:AC)(x:V)(xs:List V)(v:A8)(us:List A8)(Q:Cc),Inv X pins σ H s->RelV x v->Vals xs us->r x xs H Q->
  Al (BG X.prog X.w) X.A (call (.builtin id) (v::us)) (GL X pins σ Q) X.xe s
section
variable{X:Ac}{a b:AT}{CB tb:TE}{pos:Pos}
def Nj.or{r BS:Ed}(h:Nj X r)(h':Nj X BS):Nj X (λx y H Q=>r x y H Q\/BS x y H Q):=by
 intro value slice pins s σ H x y v u Q I BQ Bx q AJ;rcases q with q|q
 .exact h value slice pins s σ H x y v u Q I BQ Bx q AJ
 .exact h' value slice pins s σ H x y v u Q I BQ Bx q AJ
def zu{r:Ed}(B3:Nj X r)(AB:Ax X a CB)(A1:Ax X b tb)(AJ:eV b):Ax X (.Subscript a b pos) (VZ r CB tb):=by intro pins s σ H Q I h;exact Subscript_ (f5 AB A1 I h λv u s2 x y Az Br BQ Bx q=>B3 a b pins s2 σ Az x y v u Q Br BQ Bx q (AJ _ _))
def lh(K:A_):Ed:=λx y H Q=>∃p xs i v,x=.ref p/\y=.int i/\C9 K H p xs/\Fy xs i=some v/\Q v H
def l0(K:A_):Ed:=λx y H Q=>∃p xs i v,x=.ref p/\y=.int i/\CZ K H p xs/\Fy xs i=some v/\Q v H
def li:Ed:=λx y H Q=>∃z i c,x=.str z/\y=.int i/\z.length<=CF/\Fy z.cps.toList i=some c/\Q (.str ⟨#[c]⟩) H
def wg:Nj X (lh X.K):=by
 intro value slice pins s σ H x y v u Q I BQ Bx h AJ;obtain⟨p,xs,i,z,rfl,rfl,AW,he,q⟩:=h;cases BQ;obtain⟨t,rfl⟩:=Bx;obtain⟨its,r,pl,BB⟩:=I.list AW;obtain⟨j,A6,AA,B4,BJ,Es⟩:=e8 he;obtain⟨w,HH,Kr⟩:=r.get AA;have AN:=r.length;have AV:=Sh;have fin:GL X pins σ Q w s:=⟨z,H,I,Kr,q⟩;by_cases h0:0<=i
 .have Bz:i.toNat=j:=by
    rw[seqIndex_of h0 Es]at A6;exact Eh A6
  exact item_listR pl.isList h0 (by lia) (by rw[Bz];simpa using HH) fin AJ
 .have Bz:(i+(its.toArray.size:Int)).toNat=j:=by
    rw[seqIndex_neg (by lia) BJ]at A6;rw[E0,<-AN];exact Eh A6
  exact subscriptTail_builtinR (x:=w) pl.isList.typeIs slot_list_getitem.lookup
   (wpAny_getItem_list_neg (Q:=λr s'=>r=w/\GL X pins σ Q r s') pl.isList (by lia) (by rw[E0]<;>lia) (by lia) (by rw[Bz];simpa using HH) ⟨rfl,fin⟩) AJ
def wk:Nj X (l0 X.K):=by
 intro value slice pins s σ H x y v u Q I BQ Bx h AJ;obtain⟨p,xs,i,z,rfl,rfl,AW,he,q⟩:=h;cases BQ;obtain⟨t,rfl⟩:=Bx;obtain⟨its,r,pl,BB⟩:=I.tuple AW;obtain⟨j,A6,AA,B4,BJ,Es⟩:=e8 he;obtain⟨w,HH,Kr⟩:=r.get AA;have AN:=r.length;have AV:=Sh;have fin:GL X pins σ Q w s:=⟨z,H,I,Kr,q⟩
 exact subscriptTail_builtinR (x:=w) pl.typeIs slot_tuple_getitem.lookup
  (getItem_tuple (j:=j) (Q:=λr s'=>r=w/\GL X pins σ Q r s') pl (by lia) (by lia) (by rw[E0,<-AN];exact A6) (by simpa using HH) ⟨rfl,fin⟩) AJ
def Zn:Nj X li:=by
 intro value slice pins s σ H x y v u Q I BQ Bx h AJ;obtain⟨z,i,c,rfl,rfl,BB,he,q⟩:=h;obtain⟨t,rfl⟩:=BQ;obtain⟨t',rfl⟩:=Bx;obtain⟨j,A6,AA,B4,BJ,Es⟩:=e8 he;have AN:z.cps.toList.length=z.length:=by simp[Str.length]
 rw[AN]at A6 BJ Es;have AV:=Sh;exact tail_any (typeIs_str s z t) slot_str_getitem.lookup (getItem_str (c:=c) (by have A9:decide (i< -(2^63:Int))=false:=decide_eq_false (by lia);have AM:decide (i≥2^63)=false:=decide_eq_false (by lia);rw[A9,AM,Bool.or_false]) (by rw[A6];simpa using AA) ⟨.str ⟨#[c]⟩,H,I.tok _,⟨_,rfl⟩,q⟩) AJ
def lg(K:A_):Ed:=λx y H Q=>lh K x y H Q\/l0 K x y H Q\/li x y H Q
def wi:Nj X (lg X.K):=wg.or (wk.or Zn)
def xO(its:List A8)(n j:Nat)(u:A8):Lh (·.setIfInBounds j u) { cls:=.type "list",data:=.seq its.toArray n }={ cls:=.type "list",data:=.seq (its.set j u).toArray n }:=by simp[Lh]
theorem Inv.lst{pins:List (A7×Obj)}{σ :St}{H:AC}{s:AQ}{p:A7}{xs:List V}(I:Inv X pins σ H s)(h:H p=some (.lst xs)) :
  ∃(its:List A8)(n:Nat),Vals xs its/\s.heap.get? p=some { cls:=.type "list",data:=.seq its.toArray n }/\xs.length<=CF:=by
 obtain⟨z,its,n,r,e⟩:=I.Be p _ h;exact⟨its,n,r,e,z⟩
def Inv.xF{pins:List (A7×Obj)}{σ :St}{H:AC}{s:AQ}{p:A7}{xs ys:List V}{its its':List A8}{n PY:Nat}{f:Obj->Obj}(I:Inv X pins σ H s)(h:H p=some (.lst xs))(ho:s.heap.get? p=some { cls:=.type "list",data:=.seq its.toArray n })(hf:f { cls:=.type "list",data:=.seq its.toArray n }={ cls:=.type "list",data:=.seq its'.toArray PY })(r:Vals ys its')(BB:ys.length<=CF)(t:Nat) :
  Inv X pins σ (upd H p (.lst ys)) { s with heap:=s.heap.update p f,toks:=t }:=by
 have e:(s.heap.update p f).get? p=some { cls:=.type "list",data:=.seq its'.toArray PY }:=by rw[NO f ho (by rw[hf]<;>rfl),hf]
 refine I.write (x:=p) (e:=p) (by rw[h];trivial) (.inl rfl) (λb u A1 q=>(Th _ _ (Hl A1)).trans q) ⟨_,e⟩ ?_;exact⟨BB,its',PY,r,e⟩
def aa6:V->V->V->AC->(AC->Prop)->Prop:=λo i v H Q=>∃p xs k j,o=.ref p/\i=.int k/\H p=some (.lst xs)/\IH xs.length k=some j/\Q (upd H p (.lst (xs.set j v)))
def set_list:gm X aa6:=by
 intro pins s σ H o i v DA GB u Q I JG Mw CL h;obtain⟨p,xs,k,j,rfl,rfl,AZ,Bz,q⟩:=h;cases JG;obtain⟨t,rfl⟩:=Mw;obtain⟨its,n,r,ho,BB⟩:=I.lst AZ;obtain⟨A6,AA,B4,BJ⟩:=jj Bz;have AN:=r.length;have AV:=Sh;have Mc:Inv X pins σ (upd H p (.lst (xs.set j v))) { s with heap:=s.heap.update p (Lh (·.setIfInBounds j u)) }:=
  I.xF AZ ho (xO its n j u) (r.set CL j) (by rw[List.length_set];exact BB) s.toks
 by_cases h0:0<=k
 .have AF:k.toNat=j:=by
    rw[seqIndex_of h0 BJ]at A6;exact Eh A6
  exact PySem.W.ki_setAt ho h0 (by lia) (by rw[E0,<-AN];exact BJ) (by rw[AF];exact⟨_,Mc,q⟩)
 .have AF:(k+(its.toArray.size:Int)).toNat=j:=by
    rw[seqIndex_neg (by lia) B4]at A6;rw[E0,<-AN];exact Eh A6
  exact PySem.W.ki_setBack ho (by lia) (by rw[E0,<-AN];exact B4) (by lia) (by rw[AF];exact⟨_,Mc,q⟩)
def abH(lo AD:Option Int)(n:Nat):(QO lo AD none n).1=((E1.Cf n 0 lo:Nat):Int)/\(QO lo AD none n).2.1=((E1.Cf n n AD:Nat):Int)/\(QO lo AD none n).2.2=1:=by
 refine⟨?_,?_,rfl⟩
 .cases lo with
  |none=>simp[QO,E1.Cf]
  |some i=>
   simp only[QO,E1.Cf,dX,show(1:Int)>0 by decide,if_true];by_cases h:i<0
   .simp only[h,if_true]<;>lia
   .simp only[h,if_false]<;>lia
 .cases AD with
  |none=>simp[QO,E1.Cf]
  |some i=>
   simp only[QO,E1.Cf,dX,show(1:Int)>0 by decide,if_true];by_cases h:i<0
   .simp only[h,if_true]<;>lia
   .simp only[h,if_false]<;>lia
def abG(its:List A8)(lo AD:Option Int):slicePick its.toArray lo AD none=((its.drop (E1.Cf its.length 0 lo)).take (E1.Cf its.length its.length AD-E1.Cf its.length 0 lo)).toArray:=by obtain⟨A6,AA,B4⟩:=abH lo AD its.toArray.size;unfold slicePick;rw[A6,AA,B4];simp only[sliceRange_one,pick_run,E0]<;>rfl
def l2(K:A_):V->Option Int->Option Int->AC->Cc->Prop:=λx lo AD H Q=>∃a xs,x=.ref a/\C9 K H a xs/\∀p,H p=none->Q (.ref p) (upd H p (.lst (Pn xs lo AD)))
def abC:Pe X (l2 X.K):=by intro pins s σ H x v HM HN lo AD CE Q I BQ AJ pl pu h;obtain⟨a,xs,rfl,AI,q⟩:=h;cases BQ;obtain⟨its,r,Aj,BB⟩:=I.list AI;have hlen:=r.length;refine⟨"list",_,slot_list_getitem.lookup,Aj.isList.typeIs,?_⟩;refine wpAny_getItem_list_slice Aj.isList AJ pl pu .none (by simp) ?_ (by rw[E0]<;>lia);rw[abG,<-hlen];refine⟨.ref s.heap.objs.size,_,I.laid (t':=s.toks) (o:=.lst (Pn xs lo AD)) (λb ob q=>Da _ q) (Ci _) ?_,rfl,q _ (I.Be.fresh (Ci _))⟩;exact⟨FT (hl xs lo AD) BB,_,0,(r.drop (E1.Cf xs.length 0 lo)).take (E1.Cf xs.length xs.length AD-E1.Cf xs.length 0 lo),F4 _ rfl⟩
def Hv.or{f:A8}{r BS:List V->AC->Cc->Prop}(h:Hv X f r)(h':Hv X f BS):Hv X f (λxs H Q=>r xs H Q\/BS xs H Q):=by
 intro pins s σ H xs us Q I rs q;rcases q with q|q
 .exact h pins s σ H xs us Q I rs q
 .exact h' pins s σ H xs us Q I rs q
def rX:Hv X (.type "list") (λxs H Q=>∃p ys,xs=[.ref p]/\(C9 X.K H p ys\/CZ X.K H p ys)/\∀l,H l=none->Q (.ref l) (upd H l (.lst ys))):=by
 intro pins s σ H xs us Q I r h;obtain⟨p,ys,rfl,AW,q⟩:=h;obtain⟨u,rfl,BQ⟩:=vals1 r;cases BQ
 have fin:∀(its:List A8),Vals ys its->ys.length<=CF->∀(h':BP)(Dp:Nat),(∀b o',s.heap.get? b=some o'->h'.get? b=some o')->
   h'.get? s.heap.objs.size=some { cls:=.type "list",dict:=none,data:=.seq its.toArray Dp,slots:= #[] }->GL X pins σ Q (.ref s.heap.objs.size) { s with heap:=h' }:=λits BS BB h' Dp kp e=>
  ⟨.ref s.heap.objs.size,_,I.laid (t':=s.toks) kp (Ci _) (show FW X.prog X.w X.K _ h' _ (.lst ys)from⟨BB,its,Dp,BS,e⟩),rfl,q _ (I.Be.fresh (Ci _))⟩
 rcases AW with AW|AW
 .obtain⟨its,BS,pl,BB⟩:=I.list AW;have hlen:=BS.length;obtain⟨o,ho,AK,n,hd⟩:=pl.isList;exact call_list_seq p (.inl rfl) ho AK hd (λh' Dp kp e=>fin its BS BB h' Dp kp e) (by simp only[E0]<;>lia)
 .obtain⟨its,BS,pl,BB⟩:=I.tuple AW;have hlen:=BS.length;obtain⟨o,ho,AK,n,hd⟩:=pl;exact call_list_seq p (.inr rfl) ho AK hd (λh' Dp kp e=>fin its BS BB h' Dp kp e) (by simp only[E0]<;>lia)
def rZ:Hv X (.type "tuple") (λxs H Q=>∃p ys,xs=[.ref p]/\((C9 X.K H p ys/\∀l,H l=none->Q (.ref l) (upd H l (.tup ys)))\/(CZ X.K H p ys/\Q (.ref p) H))):=by
 intro pins s σ H xs us Q I r h;obtain⟨p,ys,rfl,h⟩:=h;obtain⟨u,rfl,BQ⟩:=vals1 r;cases BQ;rcases h with⟨AW,q⟩|⟨AW,q⟩
 .obtain⟨its,BS,pl,BB⟩:=I.list AW;have hlen:=BS.length;refine call_tuple_list pl.isList (λh' kp=>?_) (by simp only[E0]<;>lia);have As:Inv X pins σ H { s with heap:=h' }:=I.kept (t':=s.toks) kp;have Br:Inv X pins σ (upd H h'.objs.size (.tup ys)) { s with heap:=h'.push { cls:=.type "tuple",data:=.seq its.toArray } }:=
   As.laid (t':=s.toks) (λb o e=>Da _ e) (Ci _) (show FW X.prog X.w X.K _ _ _ (.tup ys)from⟨BB,its,BS,IsTup.new _ _⟩)
  exact⟨.ref h'.objs.size,_,Br,rfl,q _ (As.Be.fresh (Ci _))⟩
 .obtain⟨its,BS,pl,BB⟩:=I.tuple AW;exact call_tuple_same pl ⟨.ref p,H,I,rfl,q⟩
noncomputable def ov(K:A_)(T:String)(x:V)(H:AC):Prop:=match x with
 |.str _=>T="str"
 |.int _=>T="int"
 |.ref p=>(T="list"/\∃xs,C9 K H p xs)\/(T="tuple"/\∃o,K.lookup p=some o/\o.cls=.type "tuple"/\o.dict=none)\/
     (T="dict"/\((∃AX,H p=some (.Bg AX))\/∃AX,H p=some (.Ai AX)))\/(T="set"/\∃S n,H p=some (.set S n))
 |_=>False
def acJ{pins:List (A7×Obj)}{σ :St}{H:AC}{s:AQ}{T:String}{x:V}{v:A8}(I:Inv X pins σ H s)(r:RelV x v)(ty:ov X.K T x H) :
  s.TypeIs v T/\∀a,v=.ref a->∃ob,s.heap.get? a=some ob/\ob.dict=none:=by
 cases x with
 |str z=>obtain⟨t,rfl⟩:=r;cases(show T="str" from ty);exact⟨typeIs_str s z t,λ_ e=>nomatch e⟩
 |int i=>obtain⟨t,rfl⟩:=r;cases(show T="int" from ty);exact⟨typeIs_int s i t,λ_ e=>nomatch e⟩
 |ref p=>
  cases r;rcases ty with⟨rfl,xs,AW⟩|⟨rfl,o,AF,AK,hd⟩|⟨rfl,AF⟩|⟨rfl,S,n,AF⟩
  .obtain⟨its,_,pl,_⟩:=I.list AW;refine⟨pl.isList.typeIs,λa e=>?_⟩;cases e;obtain⟨o,n,e,c,hd,_⟩:=pl;exact⟨o,e,hd⟩
  .refine⟨⟨o,I.EQ p o AF,AK⟩,λa e=>?_⟩;cases e;exact⟨o,I.EQ _ o AF,hd⟩
  .have z:∃o,s.heap.get? p=some o/\o.ExactDict:=by
     rcases AF with⟨AX,AF⟩|⟨AX,AF⟩
     .obtain⟨_,_,_,_,o,_,_,e,ex,_⟩:=I.Be p _ AF;exact⟨o,e,ex⟩
     .obtain⟨_,_,_,_,o,_,_,e,ex,_⟩:=I.Be p _ AF;exact⟨o,e,ex⟩
   obtain⟨o,e,ex⟩:=z;refine⟨⟨o,e,ex.1⟩,λa AM=>?_⟩;cases AM;exact⟨o,e,ex.2.1⟩
  .obtain⟨o,_,_,_,e,ex,_⟩:=I.Be p _ AF;refine⟨⟨o,e,ex.1⟩,λa AM=>?_⟩;cases AM;exact⟨o,e,ex.2.1⟩
 |_=>exact KF ty
def aca(K:A_)(T:String)(r:V->List V->AC->Cc->Prop)(to:TE)(t:Ez):TE:=λσ H Q=>to σ H λx H1=>ov K T x H1/\t σ H1 λxs Az=>r x xs Az Q
variable{o e:AT}{A5:List AT}{to:TE}{t:Ez}{name:Str}{apos Bs:Pos}{T id:String}{r:V->List V->AC->Cc->Prop}
def Vy (zb:PlainAttrs T) (slot:Slot T name id) (uJ:typeOf (.builtin id)=pure (.type "method_descriptor")) (hm:qU X id r) (ho:Ax X o to) (AB:GN X (e::A5) t)(MQ:IF o name X.env (BN o X.env)=BN o X.env:=by rfl)(Lp:((DC Bs (BI (e::A5) X.env)).all (λx=>!x.1)&&(H9 Bs (H8 [] X.env)).all (λx=>x.1.isSome)
    &&decide ((e::A5).length+([]:List Fg).length+(if([]:List Fg).isEmpty then 0 else 1)<30))=true:=by rfl)
  (Lq:(apos.endLine==Bs.line)=true:=by rfl) (AJ:BI (e::A5) X.env=(false,BN e X.env)::BI A5 X.env:=by rfl) (Ls:(DC Bs (BI A5 X.env)).any (·.1)=false:=by rfl) :
  Ax X (.Call (.Attribute o name apos) (e::A5) [] Bs) (aca X.K T r to t):=by
 intro pins s σ H Q I h;refine wpAny_Call_method_late MQ Lp Lq rfl (Bd (ho pins s σ H _ I h) λv s1⟨x,H1,As,AL,ty,An⟩=>?_);obtain⟨A6,AA⟩:=acJ As AL ty;refine⟨T,id,zb,slot,uJ,A6,AA,?_⟩;have Hr:=AB Bs pins s1 σ H1 _ As An;rw[AJ]at Hr |-;refine WE (by show(false||(DC Bs (BI A5 X.env)).any (·.1))=false;rw[Ls]<;>rfl) (d4 ?_);exact Bd Hr λus s2⟨vs,Az,Br,B7,BF⟩=>hm pins s2 σ Az x vs v us Q Br AL B7 BF
end
noncomputable def eR(X:Ac)(id:String)(r:V->List V->AC->Cc->Prop):Prop:=
 ∀(pins:List (A7×Obj))(s:AQ)(σ :St)(H:AC)(x:V)(xs:List V)(v:A8)(us:List A8)(Q:Cc),Inv X pins σ H s->RelV x v->Vals xs us->r x xs H Q->
  Al (BG X.prog X.w) X.A (call (.builtin id) (v::us)) (GL X pins σ Q) X.xe s
def Vals.one:∀{x:V}{us:List A8},Vals [x] us->∃u,us=[u]/\RelV x u
 |_,_,.cons r .nil=>⟨_,rfl,r⟩
theorem Vals.eraseIdx:∀{xs:List V}{us:List A8}(i:Nat),Vals xs us->Vals (xs.eraseIdx i) (us.eraseIdx i)
 |_,_,_,.nil=>.nil
 |_,_,0,.cons _ t=>t
 |_,_,i+1,.cons r t=>.cons r (Vals.eraseIdx i t)
theorem Vals.rep{xs:List V}{us:List A8}(h:Vals xs us):∀k:Nat,Vals (G4 k xs).flatten (G4 k us).flatten
 |0=>.nil
 |k+1=>by rw[QB,QB,QI,QI];exact Vals.append h (Vals.rep h k)
theorem iv{α:Type}:∀(l:List α)(i:Nat),(l.eraseIdx i).length<=l.length
 |[],_=>Ci _
 |_::_,0=>Wl _
 |_::r,i+1=>Nat.succ_le_succ (iv r i)
theorem foldl_rep(its:List A8):∀(k:Nat)(acc:List A8),
  List.foldl (λEx FC=>Ex++FC) acc.toArray (G4 k its.toArray)=(acc++(G4 k its).flatten).toArray
 |0,acc=>by simp
 |k+1,acc=>by
  have e:acc.toArray++its.toArray=(acc++its).toArray:=by simp
  have AM:(acc++its)++(G4 k its).flatten=acc++(G4 (k+1) its).flatten:=by rw[QB,QI,Ru]
  rw[<-AM,<-foldl_rep its k (acc++its),<-e,QB,List.foldl_cons]
section
variable{X:Ac}{pins:List (A7×Obj)}{σ :St}{H:AC}{s:AQ}{l b:A7}{xs ys zs:List V}
def Inv.bX{its its':List A8}{n:Nat}{f:Array A8->Array A8}{t':Nat}(I:Inv X pins σ H s)(Ih:H l=some (.lst xs))(e:s.heap.get? l=some { cls:=.type "list",data:=.seq its.toArray n })(hf:f its.toArray=its'.toArray)(Bc:Vals ys its')(BB:ys.length<=CF) :
  Inv X pins σ (upd H l (.lst ys)) { s with heap:=s.heap.update l (Lh f),toks:=t' }:=by
 have q:=PySem.IsL.update e f;rw[hf]at q;refine I.write (x:=l) (e:=l) (by rw[Ih];exact trivial) (.inl rfl) (λPk u A1 BR=>(Th s.heap (Lh f) (Hl A1)).trans BR) ⟨_,q⟩ ?_;exact⟨BB,its',_,Bc,q⟩
def Inv.bW{its:List A8}{t':Nat}(I:Inv X pins σ H s)(Bc:Vals ys its)(BB:ys.length<=CF) :
  Inv X pins σ (upd H s.heap.objs.size (.lst ys)) { s with heap:=s.heap.push { cls:=.type "list",data:=.seq its.toArray },toks:=t' }:=
 I.laid (λ_ _ q=>Da _ q) (Ci _) ⟨BB,its,0,Bc,F4 _ rfl⟩
theorem Inv.fresh(I:Inv X pins σ H s):H s.heap.objs.size=none:=I.Be.fresh (Ci _)
def Inv.RZ(I:Inv X pins σ H s)(Ih:H l=some (.lst xs)):xs.length<=CF/\∃(its:List A8)(n:Nat),Vals xs its/\xs.length=its.length/\s.heap.get? l=some { cls:=.type "list",data:=.seq its.toArray n }:=by obtain⟨z,its,n,r,e⟩:=I.Be l _ Ih;exact⟨z,its,n,r,r.length,e⟩
def jw{n:Nat}(h:n<=CF):WB n=false:=by unfold WB;exact decide_eq_false (by lia)
end
section
variable{X:Ac}
def aao:V->List V->AC->Cc->Prop:=λx vs H Q=>∃l xs y,x=.ref l/\vs=[y]/\H l=some (.lst xs)/\xs.length<CF/\Q .non (upd H l (.lst (xs++[y])))
theorem bi:eR X "list.append" aao:=by intro pins s σ H x vs v us Q I BQ CL h;obtain⟨l,xs,y,rfl,rfl,Ih,BB,q⟩:=h;cases BQ;obtain⟨u,rfl,FP⟩:=CL.one;obtain⟨z,its,n,r,AN,e⟩:=I.RZ Ih;refine Tv F.slot_list_append ⟨_,e,rfl⟩ F.entry_list_append (F.args_list_append_2 _ _) (PySem.list_append l its.toArray n u (by rw[E0];lia)) ⟨e,?_⟩;refine⟨.non,_,I.bX (its':=its++[u]) Ih e (by simp) (r.append (.cons FP .nil)) ?_,rfl,q⟩;rw[J2,Td];lia
def aap:V->List V->AC->Cc->Prop:=λx vs H Q=>∃l b xs zs,x=.ref l/\vs=[.ref b]/\H l=some (.lst xs)/\H b=some (.lst zs)/\xs.length+zs.length<=CF/\Q .non (upd H l (.lst (xs++zs)))
theorem ka:eR X "list.extend" aap:=by
 intro pins s σ H x vs v us Q I BQ CL h;obtain⟨l,b,xs,zs,rfl,rfl,Ih,aX,BB,q⟩:=h;cases BQ;obtain⟨u,rfl,FP⟩:=CL.one;cases FP;obtain⟨z,its,n,r,AN,e⟩:=I.RZ Ih;obtain⟨Dh,Ht,Dx,B7,Kc,AM⟩:=I.RZ aX;have hsz:its.toArray.size+Ht.toArray.size<=CF:=by rw[E0,E0];lia
 have a3:¬(!its.toArray.isEmpty&&WB (its.toArray.size+Ht.toArray.size))=true:=by rw[jw hsz,dw];exact Fv
 refine Tv F.slot_list_extend ⟨_,e,rfl⟩ F.entry_list_extend (F.args_list_extend_2 _ _)
  (AutoSeq1.list_extend_list_list_0 l its.toArray n b Ht.toArray Dx a3 (by rw[E0];lia) (by lia)) ⟨e,AM,?_⟩
 refine⟨.non,_,I.bX (its':=its++Ht) Ih e (by simp) (r.append B7) ?_,rfl,q⟩;rw[J2];lia
def aas:V->List V->AC->Cc->Prop:=λx vs H Q=>∃l xs i k y,x=.ref l/\vs=[.int i]/\H l=some (.lst xs)/\-(2^63)<=i/\i<2^63/\S4 i xs.length=some k/\xs[k]?=some y/\Q y (upd H l (.lst (xs.eraseIdx k)))
theorem x8:eR X "list.pop" aas:=by
 intro pins s σ H x vs v us Q I BQ CL h;obtain⟨l,xs,i,k,y,rfl,rfl,Ih,A6,AA,AF,BO,q⟩:=h;cases BQ;obtain⟨u,rfl,FP⟩:=CL.one;obtain⟨t,rfl⟩:=FP;obtain⟨z,its,n,r,AN,e⟩:=I.RZ Ih;obtain⟨w,hw,Kr⟩:=r.get BO
 refine Tv F.slot_list_pop ⟨_,e,rfl⟩ F.entry_list_pop (F.args_list_pop_2 _ _)
  (MeetsSeq.list_pop_at l its.toArray n i t k w (fitsIndex_both A6 AA) (by rw[E0,<-AN];exact AF) (by rw[<-Rp];exact hw) (by rw[E0];lia)) ⟨e,?_⟩
 refine⟨y,_,I.bX (its':=its.eraseIdx k) Ih e ?_ (r.eraseIdx k) ?_,Kr,q⟩
 .show its.toArray.eraseIdxIfInBounds k=(its.eraseIdx k).toArray;rw[List.eraseIdxIfInBounds_toArray]
 .have:=iv xs k;lia
def lb:Ed:=λx y H Q=>∃l b xs zs,x=.ref l/\y=.ref b/\H l=some (.lst xs)/\H b=some (.lst zs)/\xs.length+zs.length<=CF/\∀p,H p=none->Q (.ref p) (upd H p (.lst (xs++zs)))
def bD:E7 X (J4 .Add) lb:=by
 intro pins s σ H x y v u Q I BQ Bx h;obtain⟨l,b,xs,zs,rfl,rfl,Ih,aX,BB,q⟩:=h;cases BQ;cases Bx;obtain⟨z,its,n,r,AN,e⟩:=I.RZ Ih;obtain⟨Dh,Ht,Dx,B7,Kc,AM⟩:=I.RZ aX;refine PySem.P.add_list e AM ?_ (by rw[E0,E0];lia);have B0:its.toArray++Ht.toArray=(its++Ht).toArray:=by simp
 rw[B0];exact⟨.ref _,_,I.bW (t':=s.toks) (r.append B7) (by rw[J2];lia),rfl,q _ I.fresh⟩
def l1:Ed:=λx y H Q=>∃l k xs,x=.ref l/\y=.int k/\H l=some (.lst xs)/\-(2^63)<=k/\k<2^63/\xs.length*k.toNat<=CF/\
 ∀p,H p=none->Q (.ref p) (upd H p (.lst (G4 k.toNat xs).flatten))
def len_rep{α:Type}(xs:List α)(k:Nat):(G4 k xs).flatten.length=k*xs.length:=by
 induction k with
 |zero=>simp
 |succ k CA=>rw[QB,QI,J2,CA,dj,Nat.add_comm]
theorem y4:E7 X (J4 .Mult) l1:=by
 intro pins s σ H x y v u Q I BQ Bx h;obtain⟨l,k,xs,rfl,rfl,Ih,A6,AA,BB,q⟩:=h;cases BQ;obtain⟨t,rfl⟩:=Bx;obtain⟨z,its,n,r,AN,e⟩:=I.RZ Ih;have hlen:its.toArray.size*k.toNat<=CF:=by rw[E0,<-AN];exact BB
 have t5:¬its.toArray.size*k.toNat>(2^63-1)/8:=by
  have:(CF:Nat)<=(2^63-1)/8:=by decide
  lia
 have ue:¬(!Builtin.List.listFitsIndex k)=true:=by rw[fitsIndex_both A6 AA];exact Fv
 have a3:¬WB (its.toArray.size*k.toNat)=true:=by rw[jw hlen];exact Fv
 have v4:List.foldl (λEx FC=>Ex++FC) #[] (G4 (if its.toArray.isEmpty=true then 0 else k.toNat) its.toArray)=(G4 k.toNat its).flatten.toArray:=by
  have f0:∀m:Nat,List.foldl (λEx FC=>Ex++FC) #[] (G4 m its.toArray)=(G4 m its).flatten.toArray:=λm=>by have:=foldl_rep its m [];rw[WZ]at this;exact this
  rw[f0];cases its with
  |nil=>simp
  |cons a BS=>rw[if_neg (by simp)]
 refine wpAny_binaryOp_repeat_ref (T:="list") (U:="int") (by decide) ⟨_,e,rfl⟩ (λs'=>typeIs_int s' k t) noFill_list_mul F.fills_int_mul F.slot_int_rmul repeat_list F.slot_int_index.lookup
  (Tv F.slot_int_rmul (typeIs_int s k t) F.entry_int_rmul (F.args_int_rmul_2 _ _) (int___rmul___int_list k t l its.toArray n)
    ⟨e,rfl,⟨_,e,rfl⟩,Tv F.slot_list_mul ⟨_,e,rfl⟩ F.entry_list_mul (F.args_list_mul_2 _ _) (AutoListH.list___mul___list_int_3 l its.toArray n k t ue t5 a3) ⟨e,?_⟩⟩)
 rw[v4];exact⟨.ref _,_,I.bW (t':=s.toks) (r.rep k.toNat) (by rw[len_rep,Nat.mul_comm];exact BB),rfl,q _ I.fresh⟩
end
section
variable{prog:C2}{w:Bh}{A:CR}{E:A8->AQ->Prop}{s:AQ}
end
section
variable{X:Ac}
end
section
variable{DW:Type}[DecidableEq DW]
def FQ(AX:List (DW×V))(k:DW):Option V:=(AX.find? λD2=>decide (D2.1=k)).map (·.2)
def putK(AX:List (DW×V))(k:DW)(v:V):List (DW×V):=
 if(AX.any λD2=>decide (D2.1=k))=true then AX.map (λD2=>if D2.1=k then(D2.1,v)else D2)else AX++[(k,v)]
def br{p:DW×V}{r:List (DW×V)}{k:DW}(e:p.1=k):FQ (p::r) k=some p.2:=by simp[FQ,HP,e]
def cS{p:DW×V}{r:List (DW×V)}{k:DW}(e:¬p.1=k):FQ (p::r) k=FQ r k:=by simp[FQ,HP,e]
theorem cR(k:DW):∀AX:List (DW×V),(AX.any λD2=>decide (D2.1=k))=(FQ AX k).isSome
 |[]=>rfl
 |p::r=>by
  rw[NQ];by_cases e:p.1=k
  .simp only[br e,decide_eq_true e,Bool.true_or,pS]
  .rw[cS e,decide_eq_false e,de];exact cR k r
def bU(AX:List (DW×V))(k:DW)(v:V):(putK AX k v).length<=AX.length+1:=by
 unfold putK
 split
 .rw[GU];lia
 .rw[J2,FU,Hk];lia
def bO{AX:List (DW×V)}{k:DW}(v:V)(h:FQ AX k=none):putK AX k v=AX++[(k,v)]:=by unfold putK;rw[cR,h];exact if_neg (by decide)
def I3.Uo{o:Option V}{u:Option A8}(r:I3 o u):o.isSome=u.isSome:=by
 cases o with
 |none=>cases u with
  |none=>rfl
  |some _=>exact(show False from r).elim
 |some _=>cases u with
  |none=>exact(show False from r).elim
  |some _=>rfl
theorem I3.getD{o:Option V}{u:Option A8}{d:V}{d':A8}(r:I3 o u)(He:RelV d d'):RelV (o.getD d) (u.getD d'):=by
 cases o with
 |none=>cases u with
  |none=>exact He
  |some _=>exact(show False from r).elim
 |some _=>cases u with
  |none=>exact(show False from r).elim
  |some _=>exact r
def Gu.val{AX:List (DW×V)}{vs:List (DW×A8)}(r:Gu AX vs)(k:DW):I3 (FQ AX k) (QT vs k):=by
 unfold Gu at r;induction r with
 |nil=>exact L2
 | @cons p q Aq Ms h t CA=>
   obtain⟨A6,AA⟩:=h;by_cases e:p.1=k
   .have Bp:q.1=k:=A6.symm.trans e;have b:QT (q::Ms) k=some q.2:=by simp[QT,HP,Bp]
    rw[br e,b];exact AA
   .have Bp:¬q.1=k:=λz=>e (A6.trans z);have b:QT (q::Ms) k=QT Ms k:=by simp[QT,HP,Bp]
    rw[cS e,b];exact CA
theorem Gu.any{AX:List (DW×V)}{vs:List (DW×A8)}(r:Gu AX vs)(k:DW):(AX.any λD2=>decide (D2.1=k))=vs.any λD2=>decide (D2.1=k):=by
 unfold Gu at r;induction r with
 |nil=>rfl
 |cons h t CA=>rw[NQ,NQ,CA,h.1]
def Gu.au{AX:List (DW×V)}{vs:List (DW×A8)}(r:Gu AX vs)(k:DW){y:V}{u:A8}(Bx:RelV y u) :
  Gu (AX.map λD2=>if D2.1=k then(D2.1,y)else D2) (vs.map λD2=>if D2.1=k then(D2.1,u)else D2):=by
 unfold Gu at r |-;induction r with
 |nil=>exact .nil
 | @cons p q Aq Ms h t CA=>
   rw[EF,EF];refine .cons ?_ CA;obtain⟨A6,AA⟩:=h;by_cases e:p.1=k
   .rw[if_pos e,if_pos (A6.symm.trans e)];exact⟨A6,Bx⟩
   .rw[if_neg e,if_neg (λz=>e (A6.trans z))];exact⟨A6,AA⟩
def Gu.put{AX:List (DW×V)}{vs:List (DW×A8)}(r:Gu AX vs)(k:DW){y:V}{u:A8}(Bx:RelV y u):Gu (putK AX k y) (stored vs k u):=by
 unfold putK stored;rw[r.any k];by_cases e:(vs.any λD2=>decide (D2.1=k))=true
 .rw[if_pos e,if_pos e];exact r.au k Bx
 .rw[if_neg e,if_neg e];exact Paired.snoc r ⟨rfl,Bx⟩
theorem Gu.length{AX:List (DW×V)}{vs:List (DW×A8)}(r:Gu AX vs):AX.length=vs.length:=Paired.length r
end
def RV{P:C2}{w:Bh}{k:Key}{u:A8}(r:RelV (Dl k) u):(Gz P w).is k u=true:=by
 cases k with
 |inl i=>obtain⟨t,e⟩:=(show ∃t,u=Wd i t from r);subst e;exact xS P w i t
 |inr x=>obtain⟨t,e⟩:=(show ∃t,u=We x t from r);subst e;exact xT P w x t
theorem ji{P:C2}{w:Bh}:∀{ks:List Key}{us:List A8},Vals (ks.map Dl) us->ItemsAre (Gz P w) ks us
 |[],_,r=>by rw[NS]at r;cases r;exact .nil
 |k::ks,_,r=>by
  rw[EF]at r;cases r with
  |cons h t=>exact .cons (RV h) (ji t)
abbrev KT(K:A_)(H:AC):List (Bj×V)->List (Bj×A7×A8)->Prop:=Paired λp q=>p.1=q.1/\IN K H p.1 q.2.1/\RelV p.2 q.2.2
def KT.val{K:A_}{H:AC}{AX:List (Bj×V)}{xs:List (Bj×A7×A8)}(r:KT K H AX xs)(k:Bj):I3 (FQ AX k) ((KJ xs k).map (·.2)):=by
 induction r with
 |nil=>exact L2
 | @cons p q Aq Ms h t CA=>
   obtain⟨A6,_,AA⟩:=h;by_cases e:p.1=k
   .have Bp:q.1=k:=A6.symm.trans e;have b:KJ (q::Ms) k=some q.2:=by simp[KJ,HP,Bp]
    rw[br e,b];exact AA
   .have Bp:¬q.1=k:=λz=>e (A6.trans z);have b:KJ (q::Ms) k=KJ Ms k:=by simp[KJ,HP,Bp]
    rw[cS e,b];exact CA
def KT.au{K:A_}{H:AC}{AX:List (Bj×V)}{xs:List (Bj×A7×A8)}(r:KT K H AX xs)(k:Bj){y:V}{u:A8}(Bx:RelV y u) :
  KT K H (AX.map λD2=>if D2.1=k then(D2.1,y)else D2) (xs.map (putAt k u)):=by
 induction r with
 |nil=>exact .nil
 | @cons p q Aq Ms h t CA=>
   rw[EF,EF];refine .cons ?_ CA;obtain⟨A6,AA,B4⟩:=h;unfold putAt;by_cases e:p.1=k
   .rw[if_pos e,if_pos (A6.symm.trans e)];exact⟨A6,AA,Bx⟩
   .rw[if_neg e,if_neg (λz=>e (A6.trans z))];exact⟨A6,AA,B4⟩
def KT.put{K:A_}{H:AC}{AX:List (Bj×V)}{xs:List (Bj×A7×A8)}(r:KT K H AX xs)(k:Bj){b:A7}{y:V}{u:A8}(A1:IN K H k b)(Bx:RelV y u) :
  KT K H (putK AX k y) (Ou xs k b u):=by
 have e:(AX.any λD2=>decide (D2.1=k))=(KJ xs k).isSome:=by rw[cR,(r.val k).Uo,dQ]
 unfold putK Ou;rw[e];by_cases q:(KJ xs k).isSome=true
 .rw[if_pos q,if_pos q];exact r.au k Bx
 .rw[if_neg q,if_neg q];exact Paired.snoc r ⟨rfl,A1,Bx⟩
def KT.keeps{K:A_}{H H':AC}{AX:List (Bj×V)}{xs:List (Bj×A7×A8)}(r:KT K H AX xs)(Aj:∀b ys,H b=some (.tup ys)->H' b=some (.tup ys)):KT K H' AX xs:=
 Paired.bb r λ_ _ z=>⟨z.1,z.2.1.mono Aj,z.2.2⟩
section
variable{P:C2}{w:Bh}{K:A_}{H:AC}{h:BP}{a:A7}
def lC{u:Du}(ok:Ei P w K H h)(e:Eo H a u):FW P w K H h a u:=e.ok ok
def Qw{AX:List (Key×V)}(ok:Ei P w K H h)(e:Eo H a (.Bg AX)):AX.length<=CF/\(a==Hj)=false/\∃vs,Gu AX vs/\h.DictOf (Gz P w) a vs:=
 show FW P w K H h a (.Bg AX)from lC ok e
def rI{AX:List (Key×V)}(ok:Ei P w K H h)(e:H a=some (.Bg AX)):AX.length<=CF/\(a==Hj)=false/\∃vs,Gu AX vs/\h.DictOf (Gz P w) a vs:=Qw ok (.inl e)
def x2{ks:List Key}(ok:Ei P w K H h)(e:H a=some (.tup (ks.map Dl))):IsTupleKey (Gz P w) h ks a:=by obtain⟨_,its,r,o,A6,AA,n,B4⟩:=(show FW P w K H h a (.tup (ks.map Dl))from ok a _ e);exact⟨o,its.toArray,n,A6,AA,B4,by simpa using ji r⟩
theorem bp(ok:Ei P w K H h):∀{ks:Bj}{vs:List V}{us:List A8},Paired (Mg H) ks vs->Vals vs us->Hy P w h ks us
 |_,_,_,.nil,.nil=>.nil
 |.inl _::_,_,_,.cons e t,.cons r q=>.cons (k:=.inl _) (RV (P:=P) (w:=w) (by rw[<-show _=Dl _ from e];exact r)) (bp ok t q)
 |.inr _::_,_,_,.cons ⟨b,e,z⟩ t,.cons r q=>.cons (k:=.inr _) ⟨b,by subst e;exact r,x2 ok z⟩ (bp ok t q)
def Se{ks:Bj}(ok:Ei P w K H h)(e:KS H ks a):(K8 P w).is h ks a:=by obtain⟨vs,e,p⟩:=e;obtain⟨_,its,r,o,A6,AA,n,B4⟩:=(show FW P w K H h a (.tup vs)from ok a _ e);exact⟨o,its.toArray,n,A6,AA,B4,by simpa using bp ok p r⟩
def Zt{ks:Bj}(ok:Ei P w K H h)(Kf:K.In h)(e:IN K H ks a):(K8 P w).is h ks a:=by
 rcases e with e|⟨x,o,n,t,rfl,AF,AK,hd⟩
 .exact Se ok e
 .exact⟨o,_,n,Kf a o AF,AK,hd,by simpa using Hy.cons (k:=.inl (.inr x)) (jE x t) .nil⟩
def T4{AX:List (Bj×V)}(ok:Ei P w K H h)(Kf:K.In h)(e:Eo H a (.Ai AX)):AX.length<=CF/\(a==Hj)=false/\
  ∃xs,KT K H AX xs/\LE.IK (K8 P w) h a xs:=by
 obtain⟨z,y,xs,r,o,A5,BY,A6,AA,B4,BJ,Es⟩:=(show FW P w K H h a (.Ai AX)from lC ok e);refine⟨z,y,xs,r,o,A5,BY,A6,AA,B4,BJ,λx AI=>?_,Es⟩;have all:∀{l:List (Bj×V)}{m:List (Bj×A7×A8)},KT K H l m->∀x∈m,(K8 P w).is h x.1 x.2.1:=by
  intro l m q;induction q with
  |nil=>intro x AI;exact nomatch AI
  | @cons p q Aq Ms AW t CA=>
    intro x AI;rcases List.mem_cons.mp AI with e|AI
    .subst e;exact Zt ok Kf (by rw[<-AW.1];exact AW.2.1)
    .exact CA x AI
 exact all r x AI
def T3{AX:List (Bj×V)}(ok:Ei P w K H h)(Kf:K.In h)(e:Eo H a (.Ai AX)):AX.length<=CF/\(a==Hj)=false/\
  ∃xs,KT K H AX xs/\h.DictOfH (K8 P w) a xs:=
 let⟨z,y,xs,r,d⟩:=T4 ok Kf e;⟨z,y,xs,r,d.of⟩
end
def IY(H:AC)(a:A7)(y:V)(r:Option V):Prop:=
 (∃AX k,Eo H a (.Bg AX)/\y=Dl k/\r=FQ AX k)\/∃AX k b,Eo H a (.Ai AX)/\y=.ref b/\KS H k b/\r=FQ AX k
noncomputable def Ov(H:AC)(a:A7)(y v:V)(H':AC):Prop:=
 (∃AX k,H a=some (.Bg AX)/\y=Dl k/\AX.length<CF/\H'=upd H a (.Bg (putK AX k v)))\/
 ∃AX k b,H a=some (.Ai AX)/\y=.ref b/\KS H k b/\AX.length<CF/\H'=upd H a (.Ai (putK AX k v))
def IY.t{H:AC}{a b:A7}{AX:List (Bj×V)}{k:Bj}(e:H a=some (.Ai AX))(BV:KS H k b):IY H a (.ref b) (FQ AX k):=.inr ⟨AX,k,b,.inl e,rfl,BV,rfl⟩
def Ov.t{H:AC}{a b:A7}{AX:List (Bj×V)}{k:Bj}{v:V}(e:H a=some (.Ai AX))(BV:KS H k b)(AN:AX.length<CF) :
  Ov H a (.ref b) v (upd H a (.Ai (putK AX k v))):=.inr ⟨AX,k,b,e,rfl,BV,AN,rfl⟩
section
variable{X:Ac}{pins:List (A7×Obj)}{σ :St}{H:AC}{s:AQ}{a:A7}{y v:V}{u r:A8}{o:Option V}{A:CR}{E:A8->AQ->Prop}
def Inv.big(I:Inv X pins σ H s):Hj<s.heap.objs.size:=by have h:FE<s.heap.objs.size:=(I.mod.glob.keeps I.Fn).lt;exact L3 (by decide) h
def r6{Q:A8->AQ->Prop}(BR:A.units+16<DX)(I:Inv X pins σ H s)(g:IY H a y (some v))(Bx:RelV y u)(h:∀Fd s',Inv X pins σ H s'->RelV v Fd->Q Fd s') :
  Al (BG X.prog X.w) A (Os (.ref a) u) Q E s:=by
 rcases g with⟨AX,k,e,DY,l⟩|⟨AX,k,b,e,DY,BV,l⟩
 .subst DY;obtain⟨z,hd,vs,rel,DI⟩:=Qw I.Be e;obtain⟨Fd,hw,Kr⟩:=I3.some_of (v:=v) (o:=QT vs k) (by rw[l];exact rel.val k);exact wpAny_getItem_of (RV Bx) DI.mapOf hw (h Fd _ (I.tok _) Kr)
 .subst DY;cases(show u=Db b from Bx);obtain⟨z,hd,xs,rel,DI⟩:=T3 I.Be I.EQ e;obtain⟨Fd,hw,Kr⟩:=I3.some_of (v:=v) (o:=(KJ xs k).map (·.2)) (by rw[l];exact rel.val k);obtain⟨p,AZ,uF⟩:=Option.map_eq_some_iff.mp hw;refine wpAny_getItem_heap (nest_room BR) (Se I.Be BV) DI AZ ?_;rw[uF];exact h Fd _ (I.tok _) Kr
def r7{Q:A8->AQ->Prop}(BR:A.units+16<DX)(I:Inv X pins σ H s)(g:IY H a y o)(Bx:RelV y u)(h:∀s',Inv X pins σ H s'->Q (.bool o.isSome) s') :
  Al (BG X.prog X.w) A (G6 .In u (.ref a)) Q E s:=by
 rcases g with⟨AX,k,e,DY,l⟩|⟨AX,k,b,e,DY,BV,l⟩
 .subst DY;obtain⟨z,hd,vs,rel,DI⟩:=Qw I.Be e;refine wpAny_in_of (RV Bx) hd DI.mapOf ?_;rw[<-(rel.val k).Uo,<-l];exact h _ (I.tok _)
 .subst DY;cases(show u=Db b from Bx);obtain⟨z,hd,xs,rel,DI⟩:=T3 I.Be I.EQ e;refine wpAny_in_heap (nest_room BR) (Se I.Be BV) hd DI ?_;have q:=(rel.val k).Uo;rw[dQ]at q;rw[<-q,<-l];exact h _ (I.tok _)
def r8{Q:A8->AQ->Prop}(BR:A.units+16<DX)(I:Inv X pins σ H s)(g:IY H a y o)(Bx:RelV y u)(h:∀s',Inv X pins σ H s'->Q (.bool (!o.isSome)) s') :
  Al (BG X.prog X.w) A (G6 .NotIn u (.ref a)) Q E s:=by
 rcases g with⟨AX,k,e,DY,l⟩|⟨AX,k,b,e,DY,BV,l⟩
 .subst DY;obtain⟨z,hd,vs,rel,DI⟩:=Qw I.Be e;refine wpAny_notIn_of (RV Bx) hd DI.mapOf ?_;rw[<-(rel.val k).Uo,<-l];exact h _ (I.tok _)
 .subst DY;cases(show u=Db b from Bx);obtain⟨z,hd,xs,rel,DI⟩:=T3 I.Be I.EQ e;refine wpAny_notIn_heap (nest_room BR) (Se I.Be BV) hd DI ?_;have q:=(rel.val k).Uo;rw[dQ]at q;rw[<-q,<-l];exact h _ (I.tok _)
def XM{h':BP}{t':Nat}{ob:Du}(I:Inv X pins σ H s)(K6:U9 (H a))(AJ:Iz a s.heap h')(he:∃q,h'.get? a=some q)(new:FW X.prog X.w X.K (upd H a ob) h' a ob) :
  Inv X pins σ (upd H a ob) { s with heap:=h',toks:=t' }:=
 I.write (x:=a) (e:=a) K6 (.inl rfl) (λb q A1 z=>(AJ.2 b A1).trans z) he new
def rH{P:C2}{w:Bh}{K:A_}{H':AC}{h':BP}{AX:List (Key×V)}{vs:List (Key×A8)}(z:AX.length<=CF)(hd:(a==Hj)=false)(rel:Gu AX vs)(DI:h'.DictOf (Gz P w) a vs) :
  FW P w K H' h' a (.Bg AX):=⟨z,hd,vs,rel,DI⟩
def rA{H':AC}{Q:Unit->AQ->Prop}(BR:A.units+16<DX)(I:Inv X pins σ H s)(g:Ov H a y v H')(Bx:RelV y u)(CL:RelV v r)(h:∀s',Inv X pins σ H' s'->Q () s') :
  Al (BG X.prog X.w) A (setItem (.ref a) u r) Q E s:=by
 rcases g with⟨AX,k,e,DY,l,fO⟩|⟨AX,k,b,e,DY,BV,l,fO⟩
 .subst DY fO;obtain⟨z,hd,vs,rel,DI⟩:=rI I.Be e;have BB:vs.length<=CF:=by rw[<-rel.length];exact z
  have AN:(putK AX k v).length<=CF:=by have:=bU AX k v;lia
  refine wpAny_setItem_pairs (hsz:=BB) (RV Bx) DI λh' Po AJ=>h _ ?_;have he:∃q,h'.get? a=some q:=let⟨q,_,_,AW,_⟩:=Po;⟨q,AW⟩
  exact XM I (by rw[e];exact L2) AJ he (rH AN hd (rel.put k CL) Po)
 .subst DY fO;cases(show u=Db b from Bx);obtain⟨z,hd,xs,rel,DI⟩:=T4 I.Be I.EQ (.inl e);have BB:xs.length<=CF:=by rw[<-Paired.length rel];exact z
  have AN:(putK AX k v).length<=CF:=by have:=bU AX k v;lia
  refine LE.abq (hsz:=BB) (nest_room BR) (Se I.Be BV) DI λh' Po AJ=>h _ ?_;obtain⟨q,A5,BY,AW,AA,B4,BJ,_,Es⟩:=Po;refine XM I (by rw[e];exact L2) AJ ⟨q,AW⟩ ⟨AN,hd,_,(rel.put k (.inl BV) CL).keeps λc ys ec=>?_,q,A5,BY,AW,AA,B4,BJ,Es⟩;rw[DV (bl ec e (λz=>nomatch z))];exact ec
end
section
variable{X:Ac}{pins:List (A7×Obj)}{σ :St}{H:AC}{s:AQ}{a:A7}{AX:List (Key×V)}{k:Key}{u:A8}{A:CR}{E:A8->AQ->Prop}
end
def Wt(i:AT):Prop:=∀DA GB,Wf i false DA GB=operate [DA,GB] (Os DA GB)
def acV{prog:C2}{w:Bh}{A:CR}{E:A8->AQ->Prop}{s:AQ}{env:Env}{value slice:AT}{pos:Pos}{T id:String}{Q:A8->AQ->Prop}(AN:typeLookup (.type T) "__getitem__"=pure (some (.builtin id)))(AJ:Wt slice)(h:Al (BG prog w) A (BN value env) (λo DB=>Al (BG prog w) A (BN slice env) (λi Kt=>Kt.TypeIs o T/\Al (BG prog w) A (Os o i) Q E Kt) E DB) E s) :
  Al (BG prog w) A (BN (.Subscript value slice pos) env) Q E s:=by
 refine Subscript_ (Jq h (λo DB JX=>Jq JX (λi Kt Lv=>?_) λ_ _ x=>x) λ_ _ x=>x);obtain⟨Cw,Lv⟩:=Lv;unfold subscriptTail;refine AR ?_;rw[getitemInPython_of_ne Cw.not_modules];refine AR (Rq Cw AN ?_);have fin:Al (BG prog w) A (Wf slice false o i) (λr Q5=>Al (BG prog w) A (letTemporaryGo value o r>>=λ_=>pure r) Q E Q5) E Kt:=by rw[AJ o i];exact wpAny_operating (Jq Lv (λr Q5 NE=>AR (wpAny_letTemporaryGo (BM NE))) λ_ _ x=>x)
 first
  |exact BM (AR fin)
  |exact AR (BM (AR fin))
  |exact AR fin
def rG{X:Ac}{pins:List (A7×Obj)}{σ :St}{H:AC}{s:AQ}{a:A7}{y:V}{o:Option V}(I:Inv X pins σ H s)(g:IY H a y o):s.TypeIs (.ref a) "dict":=by
 rcases g with⟨AX,k,e,_,_⟩|⟨AX,k,b,e,_,_,_⟩
 .obtain⟨_,_,vs,_,DI⟩:=Qw I.Be e;exact DI.typeIs
 .obtain⟨_,_,xs,_,DI⟩:=T3 I.Be I.EQ e;exact DI.typeIs
def n5(F2 ty:TE):TE:=λσ H Q=>F2 σ H λx H1=>ty σ H1 λy Az=>∃a v,x=.ref a/\IY Az a y (some v)/\Q v Az
def n7(ty F2:TE):TE:=λσ H Q=>ty σ H λy H1=>F2 σ H1 λx Az=>∃a o,x=.ref a/\IY Az a y o/\Q (.AO o.isSome) Az
def n8(ty F2:TE):TE:=λσ H Q=>ty σ H λy H1=>F2 σ H1 λx Az=>∃a o,x=.ref a/\IY Az a y o/\Q (.AO (!o.isSome)) Az
def aaR(F2 ty Jt:TE):FJ:=λD σ H=>Jt σ H λv H1=>F2 σ H1 λx Az=>ty σ Az λy D0=>∃a HA,x=.ref a/\Ov D0 a y v HA/\D.Ay σ HA
section
variable{X:Ac}{o i e value:AT}{pos pos' Q7:Pos}{F2 ty Jt:TE}
def kJ(BR:X.A.units+16<DX)(ho:Ax X o F2)(AD:Ax X i ty)(AJ:Wt i):Ax X (.Subscript o i pos) (n5 F2 ty):=by intro pins s σ H Q I h;refine acV PySem.F.slot_dict_getitem.lookup AJ (Bd (ho pins s σ H _ I h) λu s1⟨x,H1,As,BQ,An⟩=>Bd (AD pins s1 σ H1 _ As An) λGB s2⟨y,Az,Br,Bx,a,v,ex,g,BF⟩=>?_);subst ex;obtain rfl:u=Db a:=BQ;exact⟨rG Br g,r6 BR Br g Bx λFd s3 Dg Kr=>⟨v,Az,Dg,Kr,BF⟩⟩
def kG(BR:X.A.units+16<DX)(AD:Ax X i ty)(ho:Ax X o F2):XR X .In i o (n7 ty F2):=by intro pins s σ H Q I h;refine Bd (AD pins s σ H _ I h) λGB s1⟨y,H1,As,Bx,An⟩=>Bd (ho pins s1 σ H1 _ As An) λu s2⟨x,Az,Br,BQ,a,DA,ex,g,BF⟩=>?_;subst ex;obtain rfl:u=Db a:=BQ;exact r7 BR Br g Bx λs3 Dg=>⟨.AO DA.isSome,Az,Dg,rfl,BF⟩
def zf(BR:X.A.units+16<DX)(AD:Ax X i ty)(ho:Ax X o F2):XR X .NotIn i o (n8 ty F2):=by intro pins s σ H Q I h;refine Bd (AD pins s σ H _ I h) λGB s1⟨y,H1,As,Bx,An⟩=>Bd (ho pins s1 σ H1 _ As An) λu s2⟨x,Az,Br,BQ,a,DA,ex,g,BF⟩=>?_;subst ex;obtain rfl:u=Db a:=BQ;exact r8 BR Br g Bx λs3 Dg=>⟨.AO (!DA.isSome),Az,Dg,rfl,BF⟩
def lS(BR:X.A.units+16<DX)(ho:Ax X o F2)(AD:Ax X i ty)(Bc:Ax X value Jt)(AJ:Lk value (some (.Subscript o i pos')) pos.line X.env=pure false) :
  DH X (.Assign [.Subscript o i pos'] value pos) (aaR F2 ty Jt):=by
 intro pins s σ H D I h;refine wpAny_Assign_Subscript (Bd (Bc pins s σ H _ I h) λr s1⟨v,H1,As,CL,An⟩=>Bd (ho pins s1 σ H1 _ As An) λu s2⟨x,Az,Br,BQ,BF⟩=>Bd (AD pins s2 σ Az _ Br BF) λGB s3⟨y,D0,Dg,Bx,a,HA,ex,g,EO⟩=>?_) AJ;subst ex;obtain rfl:u=Db a:=BQ;exact rA BR Dg g Bx CL λs4 LI=>⟨σ,HA,LI,EO⟩
end
def h9{P:C2}{w:Bh}{K:A_}{H:AC}(h:BP)(A1:Hj<h.objs.size):FW P w K H (h.push { cls:=.type "dict",data:=.dict #[] }) h.objs.size (.Ai []):=
 ⟨J1 _,beq_eq_false_iff_ne.mpr (Hl (FD A1)),[],.nil,_,#[],0,F4 _ rfl,⟨rfl,rfl,rfl⟩,rfl,rfl,List.nodup_nil,rfl⟩
def acd:TE:=λ_ H Q=>∀p,H p=none->Q (.ref p) (upd H p (.Ai []))
section
variable{X:Ac}{pos:Pos}
def kK:Ax X (.Dict [] [] pos) acd:=λpins s σ H Q I h=>
 wpAny_Dict_empty ⟨.ref s.heap.objs.size,_,I.laid (a:=s.heap.objs.size) (o:=.Ai []) (t':=s.toks) (λ_ _ q=>Da _ q) (Ci _) (h9 s.heap I.big),rfl,h _ (I.Be.fresh (Ci _))⟩
end
structure qS(X:Ac)(o:AT)(m:Str)(apos:Pos)(e:AT)(Bs:Pos):Prop where
 base:IF o m X.env (BN o X.env)=BN o X.env
 few:((DC Bs (BI [e] X.env)).all (λx=>!x.1)&&(H9 Bs (H8 [] X.env)).all (λx=>x.1.isSome)
  &&decide (([e]:List AT).length+([]:List Fg).length+(if([]:List Fg).isEmpty then 0 else 1)<30))=true
 line:(apos.endLine==Bs.line)=true
 trees:DC Bs (BI [e] X.env)=[(false,BN e X.env)]
structure M2(X:Ac)(o:AT)(m:Str)(apos:Pos)(e f:AT)(Bs:Pos):Prop where
 base:IF o m X.env (BN o X.env)=BN o X.env
 few:((DC Bs (BI [e,f] X.env)).all (λx=>!x.1)&&(H9 Bs (H8 [] X.env)).all (λx=>x.1.isSome)
  &&decide (([e,f]:List AT).length+([]:List Fg).length+(if([]:List Fg).isEmpty then 0 else 1)<30))=true
 line:(apos.endLine==Bs.line)=true
 trees:DC Bs (BI [e,f] X.env)=[(false,BN e X.env),(false,BN f X.env)]
def eE(H:AC)(a:A7):Prop:=(∃AX,Eo H a (.Bg AX))\/∃AX,Eo H a (.Ai AX)
def Zm{X:Ac}{pins:List (A7×Obj)}{σ :St}{H:AC}{s:AQ}{a:A7}(I:Inv X pins σ H s)(d:eE H a) :
  s.TypeIs (.ref a) "dict"/\(∀b,Db a=.ref b->∃ob,s.heap.get? b=some ob/\ob.dict=none)/\(a==Hj)=false:=by
 rcases d with⟨AX,e⟩|⟨AX,e⟩
 .obtain⟨_,hd,vs,_,DI⟩:=Qw I.Be e;refine⟨DI.typeIs,λb q=>?_,hd⟩;cases q;obtain⟨ob,_,_,A6,AA,_⟩:=DI;exact⟨ob,A6,AA.2.1⟩
 .obtain⟨_,hd,xs,_,DI⟩:=T3 I.Be I.EQ e;refine⟨DI.typeIs,λb q=>?_,hd⟩;cases q;obtain⟨ob,_,_,A6,AA,_⟩:=DI;exact⟨ob,A6,AA.2.1⟩
section
variable{X:Ac}{pins:List (A7×Obj)}{σ :St}{H:AC}{s:AQ}{a:A7}{y d:V}{u r:A8}{o:Option V}{A:CR}{E:A8->AQ->Prop}
def r5{Q:A8->AQ->Prop}(BR:A.units+16<DX)(I:Inv X pins σ H s)(g:IY H a y o)(Bx:RelV y u)(h:∀Fd s',Inv X pins σ H s'->RelV (o.getD .non) Fd->Q Fd s') :
  Al (BG X.prog X.w) A (call (.builtin "dict.get") [.ref a,u]) Q E s:=by
 rcases g with⟨AX,k,e,DY,l⟩|⟨AX,k,b,e,DY,BV,l⟩
 .subst DY;obtain⟨z,hd,vs,rel,DI⟩:=Qw I.Be e;refine WU dD DI.typeIs p8 (pI _ _) (meets_dict_get (Gz X.prog X.w) a (RV Bx) hd) ⟨_,DI.mapOf,h _ _ (I.tok _) ?_⟩;rw[l];exact(rel.val k).getD rfl
 .subst DY;cases(show u=Db b from Bx);obtain⟨z,hd,xs,rel,DI⟩:=T3 I.Be I.EQ e;refine WU dD DI.typeIs p8 (pI _ _) (meetsH_dict_get (K8 X.prog X.w) a b hd) ⟨nest_room BR,k,xs,Se I.Be BV,DI,h _ _ (I.tok _) ?_⟩;rw[l];exact(rel.val k).getD rfl
end
def n6(F2 ty:TE):TE:=λσ H Q=>F2 σ H λx H1=>∃a,x=.ref a/\eE H1 a/\ty σ H1 λy Az=>∃o,IY Az a y o/\Q (o.getD .non) Az
section
variable{X:Ac}{o e f:AT}{apos Bs:Pos}{F2 ty Vf:TE}
def zp(BR:X.A.units+16<DX)(ho:Ax X o F2)(he:Ax X e ty)(m:qS X o "get" apos e Bs):Ax X (.Call (.Attribute o "get" apos) [e] [] Bs) (n6 F2 ty):=by intro pins s σ H Q I h;refine dR m.base m.few m.line dM dD PySem.F.type_dict_get (Bd (ho pins s σ H _ I h) λu s1⟨x,H1,As,BQ,a,ex,d,An⟩=>?_);subst ex;obtain rfl:u=Db a:=BQ;obtain⟨t1,Do,_⟩:=Zm As d;refine⟨t1,Do,?_⟩;rw[m.trees];refine WE rfl (d4 (Tf (Bd (he pins s1 σ H1 _ As An) λGB s2⟨y,Az,Br,Bx,DA,g,BF⟩=>WP ?_)));exact r5 BR Br g Bx λFd s3 Dg Kr=>⟨_,Az,Dg,Kr,BF⟩
end
section
variable{X:Ac}{pins:List (A7×Obj)}{σ :St}{H:AC}{s:AQ}{a:A7}{AX:List (Key×V)}{A:CR}{E:A8->AQ->Prop}
end
section
variable{X:Ac}{pins:List (A7×Obj)}{σ :St}{H:AC}{s:AQ}{a:A7}{y:V}{u:A8}{A:CR}{E:A8->AQ->Prop}
end
end C1
namespace gY
open PySem PySem.W PySem.Calls PyProof.Rows
def v_{P:Params}{h:BP}:∀(ns:List Int)(vs:List A8),WellAll P h vs (ns.map WData.int)->IntsAre vs ns:=by
 intro ns;induction ns with
 |nil=>intro vs w;rw[NS]at w;cases w;exact .nil
 |cons n ns CA=>
  intro vs w;rw[EF]at w;cases w with
  |cons a b=>cases a;exact .cons _ _ (CA _ b)
def abi{l:OpenLaw}{n:Nat}(AV:l.most=some n){P:Params}{h:BP}{args:List WData}{vals:List A8}(Y5:l.row.toRowW.claim.pre args=true)(aC:WellAll P h vals args) :
  ∃a vs ns,vals=[Db a]/\args=[WData.list (ns.map WData.int)]/\h.get? a=some { cls:=.type "list",data:=.seq vs.toArray }/\IntsAre vs ns/\ns.length<=n:=by
 have Gh:WShape.hasAll [] args [.list .int]=true:=(pre_splitW Y5).1;have AK:l.pre.holds [] { args:=args }=true:=(pre_splitW Y5).2;obtain⟨d,r,rfl,A6,AA⟩:=hasAllW_cons Gh;obtain rfl:=hasAllW_nil AA;obtain⟨xs,rfl,B4⟩:=hasW_list A6;obtain⟨ns,rfl⟩:=items_int B4;have hlen:ns.length<=n:=by
  unfold OpenLaw.pre at AK;have BJ:(WTm.not (.lt (.lit (.int (n:Int))) (.len (.arg 0)))).holds [] { args:=[.list (ns.map .int)] }=true:=by have BJ:=(holds_andW AK).1;rw[AV]at BJ;exact BJ
  have Es:=condW_of BJ (w_not (w_lt w_lit (w_len_list (w_arg rfl))));rw[GU]at Es;refine Nat.le_of_not_lt λq=>?_;have Gj:(n:Int)<((ns.length:Nat):Int):=by lia
  first
   |(rw[decide_eq_true Gj]at Es;exact absurd Es (by decide))
   |(simp at Es;lia)
 cases aC with
 |cons Fe F3=>
  cases F3;cases Fe with
  |list ho PG=>exact⟨_,_,ns,rfl,rfl,ho,v_ ns _ PG,hlen⟩
def z3(l:OpenLaw)(args:List WData):l.row.toRowW.claim.post args (.bool true) args=true:=
 postW_of (r:=l.row.toRowW) (X:=(true==true))
  (show WShape.has [] (.bool true) .bool=true by first|rfl|decide|simp[WShape.has,WShape.arms,WShape.armsAll])
  (show(WTm.eq .res (.lit (.bool true))).value [] { args:=args,res:=some (.bool true),after:=args }=some (.bool (true==true))from w_eq_bool (w_res rfl) w_lit) rfl
def q8 {l:OpenLaw} {n:Nat} {q:C2} {loose:List Str} {S7:(Str->Option A8)->BP->Prop} {Pg:Bh->BP->Prop} {d:DefRec}(AV:l.most=some n) (Ub:d.params.defaults=[])(call:∀(w:Bh)(GI DB:AQ)(mg Gr:Str->Option A8)(GA:A7)(o:Obj)(pm cd doc:A8)(a:A7)(vs:List A8)(ns:List Int),
    Ground q loose [] S7 w GI mg Gr DB.heap->Pg w DB.heap->
    DB.heap.get? GA=some o->o.data=.func (docDef d.name d.params d.body d.scope pm cd doc)->DB.heap.CodeRec cd d.name->mg d.name=some (.ref GA)->
    DB.heap.get? a=some { cls:=.type "list",data:=.seq vs.toArray }->IntsAre vs ns->ns.length<=n->DB.gens= #[]->
    Ma (BG l.prog w) QU (.call (.ref GA) ⟨[.ref a],[]⟩) (λr s'=>r=.ok (.ret (.bool true))/\OldK DB.heap s'.heap/\s'.os=DB.os/\NY s'.gens) DB) :
  WalkO q loose S7 Pg l.row.toRowW d [] (λf vs=>PySem.call f vs):=by
 intro w GI DB mg Gr G Y GA o pm cd doc XK Dl ho hd DQ ij Ue Ad args vals as Y5 agc agf aC agd;obtain rfl:XK=.none:=Dflts.none ij Ub;obtain rfl:Dl=.none:=Dflts.noKw ij;obtain⟨a,vs,ns,rfl,rfl,a6,hints,hlen⟩:=abi AV Y5 aC;refine enter_call (Wh (call w GI DB mg Gr GA o pm cd doc a vs ns G Y ho (fd_plain hd) DQ Ue a6 hints hlen Ad) λr s' AW=>?_);obtain⟨rfl,AA,B4,BJ⟩:=AW;exact⟨.inl ⟨.bool true,.bool true,[],rfl,λ_=>rfl,.bool true,z3 l _,λ_=>⟨pV,λ_ hm=>(nomatch hm)⟩⟩,AA,B4,BJ⟩
section
variable{prog:C2}{w:Bh}{A:CR}{E:A8->AQ->Prop}{s:AQ}{K:Frag}
end
end gY
namespace C1
open PySem PySem.Spec PyProof.Rows
theorem oC:∀{vs:List A8}{ns:List Int},IntsAre vs ns->Vals (ns.map V.int) vs
 |_,_,.nil=>.nil
 |_,_,.cons n t h=>.cons ⟨t,rfl⟩ (oC h)
def eU(H:AC):Prop:=∀b,H b=none\/∃o xs,H b=some (.LQ o (.lst xs))
def xm{P:C2}{w:Bh}{K:A_}{mg Gr:Str->Option A8}{CX:LF}{k:Nat}{GA a:A7}{fd:G5}{x:Str}{sp:AY}{DB:AQ}{vs:List A8}{ns:List Int}(IM:K.In DB.heap)(iG:DB.heap.Ns FE mg)(A1:DB.heap.Ns builtinsNs Gr)(UZ:∀x:Str,x≠"__name__"->Gr x=Ku x)(uu:DB.heap.NoLimit)(Ad:DB.gens= #[])(AB:DB.heap.get? a=some { cls:=.type "list",data:=.seq vs.toArray })(AD:IntsAre vs ns)(AN:ns.length<=CF)(B3:Ch k QU)(F:∀base:BP,K.In base->base.Ns FE mg->GX P w K mg base CX k GA fd [x] sp)(sz:∀(s:AQ)(u:A8),BindsTo s fd ⟨[u],[]⟩ [(x,u)])(PI:∀H:AC,eU H->C9 K H a (ns.map V.int)->sp [.ref a] H (λv _=>v=.AO true) λ_ _ _=>False)(aY:∀H e s',CX [] H DB (λ_ _ _=>False) e s'->False) :
  Ma (BG P w) QU (.call (.ref GA) ⟨[.ref a],[]⟩) (λr s'=>r=.ok (.ret (.bool true))/\OldK DB.heap s'.heap/\s'.os=DB.os/\NY s'.gens) DB:=by
 have CL:=oC AD;have xq:=AD.length
 have core:∀H:AC,eU H->C9 K H a (ns.map V.int)->Ei P w K H DB.heap->(∀b,H b≠none->b=a)->(H a≠none->K.lookup a=none)->
   Ma (BG P w) QU (.call (.ref GA) ⟨[.ref a],[]⟩) (λr s'=>r=.ok (.ret (.bool true))/\OldK DB.heap s'.heap/\s'.os=DB.os/\NY s'.gens) DB:=by
  intro H Gf Gg Be Hr Am;have fv:∀{b:A7}{o:Obj},DB.heap.get? b=some o->H b=none->(Nv DB.heap H).get? b=some o:=λe n=>uj e n;have Vw:∀{b:A7}{o:Obj}{A5:Array L0}{BY:Nat},DB.heap.get? b=some o->o.data=.dict A5 BY->H b=none:=λ{b o A5 BY} e d=>by
   cases q:H b with
   |none=>rfl
   |some u=>have Bp:b=a:=Hr b (by rw[q];simp);subst Bp;rw[AB]at e;cases e;have d':Data.seq vs.toArray _=Data.dict A5 BY:=d;cases d'
  have ZQ:∀{b:A7}{m:Str->Option A8},DB.heap.Ns b m->(Nv DB.heap H).Ns b m:=λ{b m}⟨o,A5,BY,e,d,r⟩=>⟨o,A5,BY,fv e (Vw e d),d,r⟩;have ik:K.In (Nv DB.heap H):=λb o e=>fv (IM b o e) (by
   cases q:H b with
   |none=>rfl
   |some u=>have Bp:b=a:=Hr b (by rw[q];simp);subst Bp;rw[Am (by rw[q];simp)]at e;cases e)
  have YY:Mod K mg (Nv DB.heap H):=⟨ik,ZQ iG,⟨Gr,ZQ A1,UZ⟩,let⟨ZI,A6,AA⟩:=uu;⟨ZI,ZQ A6,AA⟩⟩;have DN:Qh P w K mg (Nv DB.heap H) QU [] DB H:=⟨rfl,YY,λb o e=>y8 e,Nat.le_of_eq (uk _ _),trivial,λb A1=>absurd (show b∈([]:List A7)from A1) (by simp),Be,.of_eq Ad⟩;refine Wh ((F _ ik (ZQ iG)).run QU [] DB H ⟨[.ref a],[]⟩ [.ref a] [.ref a] _ _ B3 DN (sz DB (.ref a)) (.cons rfl .nil) (PI H Gf Gg)) λr s' h=>?_;cases r with
  |error e=>exact(aY H e s' h).elim
  |ok IS=>
   cases IS with
   |next=>exact KF h
   |brk=>exact KF h
   |cont=>exact KF h
   |ret u=>
    obtain⟨v,H',os,bare,un,uD,BS,q⟩:=h;have Gj:v=.AO true:=q;subst Gj;obtain rfl:u=Oo true:=BS;refine⟨rfl,OldK.of_keep λb o e=>?_,os,bare⟩;cases q:H b with
    |none=>exact un.keep b o e q (by intro z;exact absurd (show b∈([]:List A7)from z) (by simp)) (by simp)
    |some u=>
     rcases Gf b with z|⟨ob,xs,z⟩
     .rw[q]at z;cases z
     .have Dh:=un.NB b ob _ z;obtain⟨A9,_⟩:=Be b _ z;obtain⟨AM,_⟩:=uD b _ Dh;rw[e]at A9;cases A9;exact AM
 cases AF:K.lookup a with
 |some o=>have e:=IM a o AF;rw[AB]at e;cases e;refine core (λ_=>none) (λ_=>.inl rfl) (.inr ⟨_,vs.toArray,_,AF,rfl,rfl,rfl,by rw[E0,xq];exact AN,by simpa using CL⟩) (λb u z=>by have G3:(none:Option Du)=some u:=z;cases G3) (λb z=>absurd rfl z) λz=>absurd rfl z
 |none=>
  refine core (λb=>if b=a then some (.LQ { cls:=.type "list",data:=.seq vs.toArray } (.lst (ns.map V.int)))else none) (λb=>?_) (.inl (.inr ⟨{ cls:=.type "list",data:=.seq vs.toArray },if_pos rfl⟩)) (λb u z=>?_) (λb z=>?_) λ_=>AF
  .by_cases A1:b=a
   .exact .inr ⟨_,_,if_pos A1⟩
   .exact .inl (if_neg A1)
  .by_cases A1:b=a
   .have G3:=(if_pos A1).symm.trans z;cases G3;subst A1;exact⟨AB,by rw[GU];exact AN,vs,_,CL,AB⟩
   .have G3:=(if_neg A1).symm.trans z;cases G3
  .by_cases A1:b=a
   .exact A1
   .exact absurd (if_neg A1) z
def adX {l:dn} {n k:Nat} {q:C2} {loose:List Str} {S7:(Str->Option A8)->BP->Prop} {Pg:Bh->BP->Prop} {d:DefRec} {K:Params->A_} {CX:Bh->LF} {sp:Bh->AY} {x:Str}(AV:l.most=some n) (Y4:n<=CF) (Ub:d.params.defaults=[]) (B3:Ch k QU)(a_:∀(w:Bh)(h:BP),Pg w h->(K w.params).In h)(F:∀(w:Bh)(mg:Str->Option A8)(GA:A7)(h:BP),(K w.params).In h->h.Ns FE mg->mg d.name=some (.ref GA)->
    ∃fd:G5,(∀(s:AQ)(u:A8),BindsTo s fd ⟨[u],[]⟩ [(x,u)])/\
     ∀base:BP,(K w.params).In base->base.Ns FE mg->GX l.prog w (K w.params) mg base (CX w) k GA fd [x] (sp w))
  (PI:∀(w:Bh)(H:AC)(a:A7)(ns:List Int),ns.length<=n->eU H->C9 (K w.params) H a (ns.map V.int)->sp w [.ref a] H (λv _=>v=.AO true) λ_ _ _=>False)
  (aY:∀(w:Bh)(H:AC)(s:AQ)(e:A8)(s':AQ),CX w [] H s (λ_ _ _=>False) e s'->False) :
  PySem.W.WalkO q loose S7 Pg l.row.toRowW d [] (λf vs=>PySem.call f vs):=by
 refine gY.q8 AV Ub λw GI DB mg Gr GA o pm cd doc a vs ns G Y ho hd DQ Ue a6 hints hlen Ad=>?_;have IM:=a_ w _ Y;obtain⟨fd,A1,Hs⟩:=F w mg GA _ IM G.T.g Ue;exact xm IM G.T.g G.T.b G.T.builtins G.T.nolimit Ad a6 hints (FT hlen Y4) B3 Hs A1 (λH Gf Gg=>PI w H a ns hlen Gf Gg) λH e s'=>aY w H DB e s'
def inClass(s:Bb)(j:Nat):Bb:=match s with
 |.ClassDef _ _ _ body _ _ _ _ _ _ _=>body.getD j (.Pass ⟨0,0,0,0⟩)
 |_=>.Pass ⟨0,0,0,0⟩
def KX(s:Bb):Arguments:=match s with
 |.FunctionDef _ a _ _ _ _ _ _ _ _=>a
 |_=>{ posonlyargs:=[],args:=[],vararg:=none,kwonlyargs:=[],kw_defaults:=[],kwarg:=none,defaults:=[] }
def GR(s:Bb):List Bb:=match s with
 |.FunctionDef _ _ b _ _ _ _ _ _ _=>b
 |_=>[]
def Bv(s:Bb):E6:=match s with
 |.FunctionDef _ _ _ _ _ _ sc _ _ _=>sc
 |_=>{ kind:=.function,names:=[],isGenerator:=false,isCoroutine:=false }
abbrev Gs:LF:=λ_ _ _ _ _ _=>False
abbrev eb:DP:=λ_ _ _=>False
def RA{X:Ac}:Passes Gs X eb:=λ_ _ _ _ _ _ _ h=>h.elim
structure Mb(K:A_)(x qual:Str)(st:Bb)(f:A7)(fd:G5):Prop where
 ex:∃(I9:A8)(EN:Option A7)(Dl doc pm:A8)(an:Option A7)(CJ Dr:A8)(Mr:Array (Option A8)),
  fd=J0 x qual (KX st) (GR st) (Bv st) .none Dl doc pm an CJ Dr/\K.lookup f=some ⟨I9,EN,.func fd,Mr⟩/\Oh K CJ qual=true
 kp:Kv K (.ref f)=true
section
variable{P:C2}{w:Bh}{K:A_}{mg:Str->Option A8}{base:BP}
def Mb.ok {x qual:Str} {st:Bb} {f:A7} {fd:G5} {N Aq:List Str} {k:Nat} {sp:AY} (F:Mb K x qual st f fd) (S:Cg N Aq (Bv st)) (len:∀vs H Q E,sp vs H Q E->vs.length=Aq.length)(ab:∀(CJ:A8)(A:CR)(outer:List Env)(s:AQ)(H:AC)(vs:List V)(Q:Cc)(E:DP),Ch k (A.deeper (NW qual (Bv st) s.heap.objs.size f CJ))->sp vs H Q E->
    ∃t,GO (JR Gs P w K mg base N qual (Bv st) f CJ A outer s H E).Kp (GR st) t/\t { Ay:=λ_ H'=>Q .non H',ES:=Q } (start N vs) H):GX P w K mg base Gs (k+1) f fd Aq sp:=by
 obtain⟨I9,EN,Dl,doc,pm,an,CJ,Dr,Mr,rfl,lk,DQ⟩:=F.ex;refine u0 lk DQ S len λA outer s H vs Q E B3 PI=>?_;obtain⟨t,h,q⟩:=ab CJ A outer s H vs Q E B3 PI;exact⟨t,h.Kp,q⟩
def Mb.binds{x qual:Str}{st:Bb}{f:A7}{fd:G5}{Aq:List Str}(F:Mb K x qual st f fd)(h:∀(Dl doc pm:A8)(an:Option A7)(CJ Dr:A8)(us:List A8),us.length=Aq.length->S2 (J0 x qual (KX st) (GR st) (Bv st) .none Dl doc pm an CJ Dr) ⟨us,[]⟩=pure (Aq.zip us)):Binds K fd Aq []:=by obtain⟨I9,EN,Dl,doc,pm,an,CJ,Dr,Mr,rfl,lk,DQ⟩:=F.ex;exact .all (h Dl doc pm an CJ Dr)
def Q_{x qual:Str}{st:Bb}{f:A7}{I9:A8}{EN an:Option A7}{Mr:Array (Option A8)}{Dl doc pm CJ Dr:A8}(l:K.lookup f=some ⟨I9,EN,.func (J0 x qual (KX st) (GR st) (Bv st) .none Dl doc pm an CJ Dr),Mr⟩)(c:Oh K CJ qual=true)(k:Kv K (.ref f)=true):Mb K x qual st f (J0 x qual (KX st) (GR st) (Bv st) .none Dl doc pm an CJ Dr):=⟨⟨I9,EN,Dl,doc,pm,an,CJ,Dr,Mr,rfl,l,c⟩,k⟩
end
section
variable{X:Ac}
def W2(i:Nat){x:Str}{pos:Pos}(hN:X.N[i]?=some x:=by rfl)(Bc:G_ X.env.scope x:=by first|exact Dq rfl|exact Cr (Dq rfl)|exact Cr (Cr rfl))(hd:(x==("__debug__" :Str))=false:=by decide)(DQ:(x==("__classdict__" :Str))=false:=by decide):Ax X (.Name x pos) (Va i):=IA hN Bc hd DQ
end
def gq(H H':AC):Prop:=∀b o,H b=some o->H' b=some o
def gq.seq{K:A_}{H H':AC}{a:A7}{xs:List V}(e:gq H H')(h:C9 K H a xs):C9 K H' a xs:=by
 rcases h with(h|⟨o,h⟩)|h
 .exact .inl (.inl (e _ _ h))
 .exact .inl (.inr ⟨o,e _ _ h⟩)
 .exact .inr h
section
variable{X:Ac}
end
section
variable{DW:Type}[DecidableEq DW]
end
def HG(env:Env):List (Str×KG)->List (Str×A7)->List (Str×A7)
 |[],cs=>cs
 |(x,k)::r,cs=>HG env r (if k==.free then(x,(env.cells.lookup x).getD 0)::cs else cs)
theorem hh{env:Env}:∀(names:List (Str×KG))(cs:List (Str×A7)),(∀p∈names,p.2=.free->∃c,env.cells.lookup p.1=some c)->
 (forIn (m:=Sem) names cs λ(x:Str×KG) cs=>if(x.2==Iy)=true then do
   let a <-cellOf env x.1
   pure (Om ((x.1,a)::cs))else pure (Om cs))=pure (HG env names cs)
 |[],cs,_=>rfl
 |(x,k)::r,cs,h=>by
  rw[dp];have CA:=hh (env:=env) r;by_cases AF:k=.free
  .subst AF;obtain⟨c,AK⟩:=h (x,.free) MS rfl;have A9:cellOf env x=pure c:=by unfold cellOf;rw[AK]
   simp only[beq_self_eq_true,if_true,HG,A9,AK,Tl,pure_bind];exact CA _ λp AZ=>h p (Ff _ AZ)
  .have A1:(k==Iy)=false:=by simpa using AF
   simp only[A1,Hh,if_false,HG,pure_bind];exact CA _ λp AZ=>h p (Ff _ AZ)
def hg{env:Env}{scope:E6}(h:∀p∈scope.names,p.2=.free->∃c,env.cells.lookup p.1=some c):closureFor scope env=pure (HG env scope.names []):=by
 have e:=hh (env:=env) scope.names [] h;unfold closureFor
 refine Eq.trans (b:=(forIn (m:=Sem) scope.names [] λ(x:Str×KG) cs=>if(x.2==Iy)=true then do
   let a <-cellOf env x.1
   pure (Om ((x.1,a)::cs))else pure (Om cs))>>=pure) rfl ?_
 rw[e];rfl
theorem hc{env:Env}{x:Str}:∀(names:List (Str×KG))(cs:List (Str×A7)),(∀p∈names,p.2=.free->∃c,env.cells.lookup p.1=some c)->
  (HG env names cs).lookup x=if(x,Iy)∈names then env.cells.lookup x else cs.lookup x
 |[],cs,_=>by simp[HG]
 |(y,k)::r,cs,h=>by
  rw[HG,hc r _ λp AZ=>h p (Ff _ AZ)];by_cases hm:(x,Iy)∈r
  .rw[if_pos hm,if_pos (Ff _ hm)]
  .rw[if_neg hm];by_cases AF:k=.free
   .subst AF;obtain⟨c,AK⟩:=h (y,.free) MS rfl;by_cases AI:x=y
    .subst AI;rw[if_pos MS];simp[Tn,AK]
    .have nm:¬(x,Iy)∈(y,Iy)::r:=λz=>by
       rcases List.mem_cons.mp z with e|e
       .exact AI (by injection e)
       .exact hm e
     rw[if_neg nm];have A1:(x==y)=false:=by simpa using AI
     simp[Tn,A1]
   .have A1:(k==Iy)=false:=by simpa using AF
    have nm:¬(x,Iy)∈(y,k)::r:=λz=>by
     rcases List.mem_cons.mp z with e|e
     .exact AF (by injection e with _ AM;exact AM.symm)
     .exact hm e
    rw[if_neg nm];simp[A1]
def rj {prog:C2} {w:Bh} {A:CR} {R:Result->AQ->Prop} {s:AQ} {elt target iter:AT} {ifs:List AT} {scope:E6} {pos:Pos} {it acc:A8} {env:Env} (I:Nat->AQ->Prop)(turn:∀n s,I n s->Al (BG prog w) A (J5 it) (λr DB=>match r with
    |none=>R (.ok .next) DB
    |some v=>Al (BG prog w) A (WX target it v) (λ_ n0=>Al (BG prog w) A (KH target env v) (λ_ Kt=>
       Al (BG prog w) A (forIn ifs true λc r=>if r=true then do let ok <-isTrue c env (BN c env);pure (Om ok)else pure (Om r)) (λok Q5=>
        if ok=true then Al (BG prog w) A (BN elt env) (λx Yd=>
         Al (BG prog w) A (call (.builtin "list.append") [acc,x]) (λ_ n1=>∃m,m<n/\I m n1) (Ot (BG prog w) A env λe s'=>R (.error e) s') Yd) (Ot (BG prog w) A env λe s'=>R (.error e) s') Q5
        else ∃m,m<n/\I m Q5) (Ot (BG prog w) A env λe s'=>R (.error e) s') Kt) (Ot (BG prog w) A env λe s'=>R (.error e) s') n0) (Ot (BG prog w) A env λe s'=>R (.error e) s') DB) (Ot (BG prog w) A env λe s'=>R (.error e) s') s)
  (n:Nat) (h:I n s):Ma (BG prog w) A (.compLoop (.ListComp elt [⟨target,iter,ifs,0⟩] scope pos) 0 it acc env) R s:=by
 refine codeAny_loop rfl I (λn s Ii=>?_) n h;show Al _ A ((compTurn (.ListComp elt [⟨target,iter,ifs,0⟩] scope pos) 0 it acc env).onRaise (λx=>do noteFrame x env;theTreesLotGoes x)) _ _ s;refine wpAny_noted ?_;rw[compTurn_list];refine AR (wpAny_standAt (AR (Jq (turn n s Ii) (λr DB JX=>?_) λ_ _ h'=>h')));cases r with
 |none=>exact BM JX
 |some v=>
  refine AR (Jq JX (λ_ n0 uQ=>?_) λ_ _ h'=>h');refine AR (Jq uQ (λ_ Kt Lv=>AR (Jq Lv (λok Q5 NE=>?_) λ_ _ h'=>h')) λ_ _ h'=>h');cases ok with
  |false=>exact BM ⟨rfl,NE⟩
  |true=>exact AR (AR (Jq NE (λx Yd Ui=>AR (Jq Ui (λ_ n1 Ha=>BM (BM ⟨rfl,Ha⟩)) λ_ _ h'=>h')) λ_ _ h'=>h'))
abbrev FZ(X:Ac)(scope:E6)(N:List Str)(cl:List (Str×A7))(C:A7)(s:AQ)(H:AC)(Ak:List A7):Ac where
 prog:=X.prog
 w:=X.w
 K:=X.K
 mg:=X.mg
 base:=X.base
 A:=X.A
 N:=N
 GI:=s
 U4:=H
 env:=compEnvC scope cl C X.env
 outer:=X.stack
 stack:=X.stack
 ex:=Ak
 calm:=X.calm
 fn:=λx=>scope.names.lookup x==some .cell
 BX:=[]
 xe:=λ_ _=>False
def N2(nl:Nat)(caps:List Nat)(σ :St):St:=G4 nl none++caps.map λj=> σ.getD j none
def YF:Option KG->Bool
 |some .cell=>true
 |some .free=>true
 |_=>false
structure ME(sc:E6)(Mh:List Str)(scope:E6)(N:List Str)(nl:Nat)(caps:List Nat):Prop where
 kind:scope.kind=.function
 uniq:∀x∈scope.names,scope.names.lookup x.1=some x.2
 free:∀x∈scope.names,x.2=.free->YF (sc.names.lookup x.1)=true
 len:N.length=nl+caps.length
 ra:∀k j,caps[k]?=some j->∃x,Mh[j]?=some x/\N[nl+k]?=some x/\scope.names.lookup x=some .free/\YF (sc.names.lookup x)=true
noncomputable def Qu(sc:E6)(Mh:List Str)(scope:E6)(N:List Str)(nl:Nat)(caps:List Nat):Bool:=
 (scope.kind==.function)&&scope.names.all (λx=>scope.names.lookup x.1==some x.2&&(x.2 !=.free||YF (sc.names.lookup x.1)))&&
 (N.length==nl+caps.length)&&(caps.zipIdx.all λjm=>match Mh[jm.1]? with
   |none=>false
   |some x=>N[nl+jm.2]?==some x&&scope.names.lookup x==some .free&&YF (sc.names.lookup x))
def ME.of{sc:E6}{Mh:List Str}{scope:E6}{N:List Str}{nl:Nat}{caps:List Nat}(h:Qu sc Mh scope N nl caps=true):ME sc Mh scope N nl caps:=by
 unfold Qu at h;rw[FV,FV,FV]at h;obtain⟨⟨⟨A6,AA⟩,B4⟩,BJ⟩:=h;rw[MU]at AA BJ;refine⟨eq_of_beq A6,λx AI=>?_,λx AI e=>?_,eq_of_beq B4,λk j e=>?_⟩
 .have:=AA x AI;rw[FV]at this;exact eq_of_beq this.1
 .have:=AA x AI;rw[FV]at this;have q:=this.2;rw[e]at q;simpa using q
 .have m:(j,k)∈caps.zipIdx:=by
    rw[List.mem_zipIdx_iff_getElem?];exact e
  have q:=BJ _ m;dsimp only at q
  split at q
  .cases q
  .rename_i x ex;rw[FV,FV]at q;exact⟨x,ex,eq_of_beq q.1.1,eq_of_beq q.1.2,q.2⟩
def ME.locs{sc:E6}{Mh:List Str}{scope:E6}{N:List Str}{nl:Nat}{caps:List Nat}(S:ME sc Mh scope N nl caps):∀x∈scope.names,x.2=.local->scope.names.lookup x.1=some .local:=λx AI e=>e▸S.uniq x AI
theorem fC:∀(ns:List (Str×KG))(n:Nat)(a b:List (Str×A7)),HR n ns (a++b)=HR n ns a++b
 |[],_,_,_=>rfl
 |(x,k)::r,n,a,b=>by
  unfold HR
  split
  .exact fC r (n+1) ((x,n)::a) b
  .exact fC r n a b
theorem XI{x:Str}{c:A7}:∀(ns:List (Str×KG))(n:Nat)(a:List (Str×A7)),(x,c)∈HR n ns a->(x,NameKind.cell)∈ns\/(x,c)∈a
 |[],_,_,h=>.inr h
 |(y,k)::r,n,a,h=>by
  unfold HR at h
  split at h
  .rename_i AF;rcases XI r _ _ h with z|z
   .exact .inl (Ff _ z)
   .rcases List.mem_cons.mp z with e|z
    .injection e with A9 AM;subst A9;rw[eq_of_beq AF];exact .inl MS
    .exact .inr z
  .rcases XI r _ _ h with z|z
   .exact .inl (Ff _ z)
   .exact .inr z
def y_{M:Model}{A:CR}{E:A8->AQ->Prop}{s:AQ}{scope:E6}{globals:A7}{cl:List (Str×A7)}{qual:Str}{env:Env}{Q:Env->AQ->Prop}(Dk:Q { scope:=scope,locals:=s.heap.objs.size,globals:=globals,cells:=HR (s.heap.objs.size+1) scope.names cl,qual:=qual,func:=none,code:=env.code,frame:=env.frame,builtins:=env.builtins } { s with heap:=pushCells (s.heap.push { cls:=.type "dict",data:=.dict #[] }) scope.names }) :
  Al M A (dx scope globals cl [] qual none .none (some env)) Q E s:=by
 simp only[dx,pS,if_true];refine AR (wpAny_alloc ?_);refine AR (wpAny_layCells _ (λname kind cells=>by cases uq:kind==NameKind.cell<;>simp[uq]) _ _ _ _ ?_);rw[show({ s with heap:=s.heap.push { cls:=.type "dict",data:=.dict #[] } }:AQ).heap.objs.size=s.heap.objs.size+1 from Kw ..];exact AR (BM (BM Dk))
def ar{scope:E6}{env:Env}{x:Str}{k:KG}(h:(Ll scope env).names.lookup x=some k):(x,k)∈scope.names\/(k=.cell/\(x,Iy)∈scope.names):=by
 have m:=MX h;obtain⟨⟨y,q⟩,BO,e⟩:=List.mem_map.mp m;dsimp only at e
 split at e
 .rename_i AK;injection e with A9 AM;subst A9;have hf:q=.free:=by
   rw[FV,FV]at AK;exact eq_of_beq AK.1.1
  subst hf;exact .inr ⟨AM.symm,BO⟩
 .injection e with A9 AM;subst A9;subst AM;exact .inl BO
noncomputable def Yg(Iw:TI)(g:IQ)(GJ:TT)(E5:TE)(nl:Nat)(caps:List Nat):TE:=λσ H Q=>
 Iw σ H λDD H1=>∀acc,H1 acc=none->∃W:Nat->Nat->St->AC->Prop,(∃m,W 0 m (N2 nl caps σ) (upd H1 acc (.lst [])))/\
  ∀i m σ' H',W i m σ' H'->(DD.stop i H'/\Q (.ref acc) H')\/
   (DD.go i H'/\∀x Az,DD.IX i H' x Az->g x σ' Az λσ2 D0=>GJ σ2 D0 λb HA=>
      if b=true then E5 σ2 HA λy J8=>∃ys,J8 acc=some (.lst ys)/\ys.length<CF/\∃Et,Et<m/\W (i+1) Et σ2 (upd J8 acc (.lst (ys++[y])))
      else ∃Et,Et<m/\W (i+1) Et σ2 HA)
section
variable{X:Ac}{elt target iter:AT}{ifs:List AT}{scope:E6}{pos:Pos}{N:List Str}{nl:Nat}{caps:List Nat}{Iw:TI}{g:IQ}{GJ:TT}{E5:TE}
noncomputable def P2(X:Ac)(ifs:List AT)(t:TT):Prop:=
 ∀(pins:List (A7×Obj))(s:AQ)(σ :St)(H:AC)(Q:Bool->AC->Prop),Inv X pins σ H s->t σ H Q->
  Al (BG X.prog X.w) X.A (forIn ifs true λc r=>if r=true then do let ok <-isTrue c X.env (BN c X.env);pure (Om ok)else pure (Om r)) (XS X pins σ Q) X.xe s
def ack:TT:=λ_ H Q=>Q true H
def aaZ:P2 X [] ack:=λ_ _ _ H _ I h=>wpAny_tests_nil ⟨H,I,h⟩
def aa_{c:AT}{t:TT}(h:FX X c t):P2 X [c] t:=λpins s σ H Q I hw=>wpAny_tests_one (h pins s σ H Q I hw)
def va{pins:List (A7×Obj)}{σ :St}{H:AC}{s s4:AQ}{cl:List (Str×A7)}{Ak:List A7}(S:ME X.env.scope X.N scope N nl caps)(I:Inv X pins σ H s)(Cn:∀x c,cl.lookup x=some c->X.env.cells.lookup x=some c\/(scope.names.lookup x=some .cell/\s.heap.objs.size<c/\s4.heap.IsCell c none))(C3:∀x,(x,Iy)∈scope.names->cl.lookup x=X.env.cells.lookup x)(Fp:∀x,scope.names.lookup x=some .cell->∃c,cl.lookup x=some c/\s.heap.objs.size<c)(OW:∀x y c,cl.lookup x=some c->cl.lookup y=some c->x=y)(hf:∀b∈Ak,Jv X pins H b)(H_:∀b∈Ak,b<s.heap.objs.size)(RR:s4.os=s.os)(Ad:s4.gens=s.gens)(AV:∃m,s4.heap.Ns s.heap.objs.size m)(AF:∀b o,s.heap.get? b=some o->s4.heap.get? b=some o) :
  Inv (FZ X scope N cl s.heap.objs.size s H Ak) [] (N2 nl caps σ) H s4:=by
 refine⟨⟨I.ok.mod,?_,I.ok.glob,I.ok.blt,Ci _,OW,λx AI=>?_,λx c z e=>?_,I.ok.hd,I.ok.frames,.inl rfl,λb A1=>⟨FD (H_ b A1),λx c e=>(Cn x c e).elim (λe=>(hf b A1).2.2.2.2.1 x c e) λe=>Li (L3 (H_ b A1) e.2.1)⟩,I.bs,FT I.ok.Pm I.Yc,λb o e A1=>?_,λb A1 AJ=>?_,I.stack,I.nM⟩,
  RR,?_,GP.kept AF,?_,λx c e=>?_,I.Be.fresh (Ci _),λx c e=>(Cn x c e).elim (I.N9 x c) λe=>I.Be.fresh (Tr e.2.1),λp AZ=>absurd (show p∈([]:List (A7×Obj))from AZ) (by simp),I.Be.kept AF,?_⟩
 .show(Ll scope X.env).kind=.function;exact S.kind
 .have AI:(Ll scope X.env).names.lookup x=some .cell\/(Ll scope X.env).names.lookup x=some .free:=AI;have hm:(x,Iy)∈scope.names\/scope.names.lookup x=some .cell:=by
   rcases AI with h|h
   .rcases ar h with m|⟨_,m⟩
    .exact .inr (S.uniq _ m)
    .exact .inl m
   .rcases ar h with m|⟨e,_⟩
    .exact .inl m
    .cases e
  rcases hm with hm|hm
  rotate_left
  .obtain⟨c,e,_⟩:=Fp x hm;exact⟨c,e⟩
  have AW:=S.free _ hm rfl;have AK:∃c,X.env.cells.lookup x=some c:=by
   apply I.ok.has x;show X.env.scope.names.lookup x=some .cell\/X.env.scope.names.lookup x=some .free;cases e:X.env.scope.names.lookup x with
   |none=>rw[e]at AW;cases AW
   |some k=>
    rw[e]at AW
    cases k<;>first
     |exact .inl rfl
     |exact .inr rfl
     |cases AW
  obtain⟨c,e⟩:=AK;exact⟨c,by show cl.lookup x=some c;rw[C3 x hm];exact e⟩
 .obtain⟨Dp,Bp,q⟩:=Fp x (eq_of_beq z);rw[show cl.lookup x=some c from e]at Bp;cases Bp;exact Tr q
 .rcases(hf b A1).2.2.2.1 with z|z
  .exact I.ok.R6 b o e z
  .exact absurd (Hi (D_ (I.ok.bs b o e).1) z) (KC _)
 .rcases List.mem_cons.mp (I.Z9 b AJ)with z|z
  .exact(hf b A1).2.1 z
  .exact(hf b A1).2.2.1 z
 .rw[Ad];exact I.bare
 .obtain⟨m,AV⟩:=AV;refine⟨m,AV,λi x v A6 AA B4=>?_⟩;have hN:N[i]?=some x:=A6;unfold N2 at AA;by_cases AD:i<nl
  .rw[Jm (by simpa using AD),Of,if_pos AD]at AA;cases AA
  .rw[NN (by simpa using AD),Rw,EL]at AA;cases e:caps[i-nl]? with
   |none=>rw[e]at AA;cases AA
   |some j=>
    rw[e]at AA;have AA: σ.getD j none=some v:=Eh AA;obtain⟨y,A9,AM,Pq,El⟩:=S.ra _ _ e;have BD:(y,Iy)∈scope.names:=MX Pq;have Cp:G_ X.env.scope y:=by
     cases q:X.env.scope.names.lookup y with
     |none=>rw[q]at El;cases El
     |some k=>
      rw[q]at El
      cases k<;>first
       |exact .inr (.inl q)
       |exact .inr (.inr q)
       |cases El
    have F0:nl+(i-nl)=i:=by lia
    rw[F0,hN]at AM;cases AM;have AJ: σ[j]?=some (some v):=by
     rw[IU]at AA;cases q: σ[j]? with
     |none=>rw[q]at AA;cases AA
     |some o=>rw[q]at AA;exact congrArg some AA
    obtain⟨m0,_,AN⟩:=I.loc;obtain⟨u,r,l⟩:=AN j x v A9 AJ Cp;refine⟨u,r,.inr ⟨?_,?_⟩⟩
    .show(Ll scope X.env).names.lookup x=some .cell\/(Ll scope X.env).names.lookup x=some .free;rcases B4 with B4|B4|B4
     .have B4:(Ll scope X.env).names.lookup x=some .local:=B4;rcases ar B4 with z|⟨z,_⟩
      .have Dh:scope.names.lookup x=some .local:=S.locs _ z rfl;rw[Dh]at Pq;cases Pq
      .cases z
     .exact .inl B4
     .exact .inr B4
    .have AW:X.env.scope.names.lookup x≠some .local:=λz=>by rw[z]at El;cases El
     rcases l with⟨z,_⟩|⟨_,c,DZ,Dh⟩
     .exact absurd z AW
     .refine⟨c,?_,Dh.keeps AF⟩;show cl.lookup x=some c;rw[C3 x BD];exact DZ
 .rcases Cn x c e with e|e
  .obtain⟨v,z⟩:=I.cell x c e;exact⟨v,z.keeps AF⟩
  .exact⟨_,e.2.2⟩
 .show(N2 nl caps σ).length=N.length;unfold N2;rw[J2,Rw,GU,S.len]
def vc{pins:List (A7×Obj)}{σ σ' :St}{H H':AC}{s s':AQ}{cl:List (Str×A7)}{Ak:List A7}{h':BP}(I:Inv X pins σ H s)(hf:∀b∈Ak,Jv X pins H b)(DD:Inv (FZ X scope N cl s.heap.objs.size s H Ak) [] σ' H' s')(AJ:Iz s.heap.objs.size s'.heap h'):Inv X pins σ H' { s' with heap:=h' }:=by
 have ne:∀b o,s.heap.get? b=some o->b≠s.heap.objs.size:=λb o e=>FD (D_ e);have u:GP (LP X.stack) Ak H H' s.heap s'.heap:=DD.base;have fr:H' s.heap.objs.size=none:=DD.free;refine I.pz (ch:=Ak) (s':={ s' with heap:=h' }) DD.os ⟨λb o e n A1 AI=>(AJ.2 b (ne b o e)).trans (u.keep b o e n A1 AI),λb o e n A1 AI=>?_,u.free,λb o e AI=>?_,u.OJ,u.NB,u.OH⟩ (λb o e=>?_) DD.bare λb A1=>?_
 .obtain⟨CE,q⟩:=u.slot b o e n A1 AI;exact⟨CE,(AJ.2 b (ne b o e)).trans q⟩
 .obtain⟨o',q⟩:=u.there b o e AI;exact⟨o',(AJ.2 b (ne b o e)).trans q⟩
 .refine(DD.Be b o e).Q4 (λc v AK q=>(AJ.2 c ?_).trans q) (λ_ q=>q) λ_ _ q=>q;rintro rfl;rcases AK with z|z
  .rw[<-z,fr]at e;cases e
  .rw[fr]at z;cases z
 .obtain⟨_,f1,_,Em,f4,Gy⟩:=hf b A1;exact⟨Em,f1,f4,Gy⟩
def hi {pins:List (A7×Obj)} {σ :St} {s2:AQ} {Az:AC} {it:A7} {Ak:List A7} {H6:Nat->BP->Prop} {DD:It} {E:A8->AQ->Prop} {Q:AC->Prop} {W:Nat->Nat->St->AC->Prop} {m0:Nat}(S:ME X.env.scope X.N scope N nl caps) (AK:X.calm=true) (Br:Inv X pins σ Az s2) (T:Turn X.prog X.w X.K target DD Ak it H6) (LA:H6 0 s2.heap) (f2:∀b∈Ak,Jv X pins Az b)(Ad:∀cl C s H Ak,Jx (FZ X scope N cl C s H Ak) target g) (Aj:∀cl C s H Ak,P2 (FZ X scope N cl C s H Ak) ifs GJ) (he:∀cl C s H Ak,Ax (FZ X scope N cl C s H Ak) elt E5)(OM:W 0 m0 (N2 nl caps σ) (upd Az s2.heap.objs.size (.lst [])))(turn:∀i m σ' H',W i m σ' H'->(DD.stop i H'/\Q H')\/
    (DD.go i H'/\∀x D0,DD.IX i H' x D0->g x σ' D0 λσ2 HA=>GJ σ2 HA λb J8=>
       if b=true then E5 σ2 J8 λy SH=>∃ys,SH s2.heap.objs.size=some (.lst ys)/\ys.length<CF/\∃Et,Et<m/\W (i+1) Et σ2 (upd SH s2.heap.objs.size (.lst (ys++[y])))
       else ∃Et,Et<m/\W (i+1) Et σ2 J8))
  (UC:A8->A7->Result->AQ->Prop)
  (tR:∀(C:A7) s' H',(∃m,s'.heap.Ns C m)->Jv X pins H' C->(∀h',Iz C s'.heap h'->Inv X pins σ H' { s' with heap:=h' })->Q H'->UC (.ref s2.heap.objs.size) C (.ok .next) s') :
  Al (BG X.prog X.w) X.A (newList []) (λacc Q5=>Al (BG X.prog X.w) X.A (dx scope X.env.globals (HG X.env scope.names []) [] X.env.qual none .none (some X.env)) (λha Yd=>
   Ma (BG X.prog X.w) X.A (.compStart (.ListComp elt [⟨target,iter,ifs,0⟩] scope pos) 0 (.ref it) acc { ha with scope:=Ll scope X.env }) (UC acc ha.locals) Yd) E Q5) E s2:=by
 have Y2:∀p∈scope.names,p.2=.free->∃c,X.env.cells.lookup p.1=some c:=λp AZ e=>by
  have q:=S.free p AZ e;apply Br.ok.has p.1;show X.env.scope.names.lookup p.1=some .cell\/X.env.scope.names.lookup p.1=some .free;cases AM:X.env.scope.names.lookup p.1 with
  |none=>rw[AM]at q;cases q
  |some k=>
   rw[AM]at q
   cases k<;>first
    |exact .inl rfl
    |exact .inr rfl
    |cases q
 have TG:∀x,(HG X.env scope.names []).lookup x=if(x,Iy)∈scope.names then X.env.cells.lookup x else none:=λx=>hc scope.names [] Y2
 have i8:Az s2.heap.objs.size=none:=Br.Be.fresh (Ci _);refine Jo (y_ ?_);dsimp only;have Dg:Inv X pins σ (upd Az s2.heap.objs.size (.lst [])) { s2 with heap:=s2.heap.push { cls:=.type "list",dict:=none,data:=.seq ([]:List A8).toArray } }:=Br.bW (its:=[]) (ys:=[]) (t':=s2.toks) .nil (J1 _);generalize a8:({ s2 with heap:=s2.heap.push { cls:=.type "list",dict:=none,data:=.seq ([]:List A8).toArray } }:AQ)=s3 at Dg;have ak:s2.heap.push { cls:=.type "list",dict:=none,data:=.seq ([]:List A8).toArray }=s3.heap:=by rw[<-a8]
 rw[ak];have k5:∀b o,s2.heap.get? b=some o->s3.heap.get? b=some o:=λb o e=>by rw[<-ak];exact Da _ e
 have ab9:s3.heap.objs.size=s2.heap.objs.size+1:=by rw[<-ak,Kw]
 have kc:=fC scope.names (s3.heap.objs.size+1) [] (HG X.env scope.names []);have ok:=cellsFrom_ok scope.names (s3.heap.push { cls:=.type "dict",data:=.dict #[] }) (s3.heap.objs.size+1) [] ⟨λ_ _ hm=>(nomatch hm),pV⟩ (by rw[Kw];exact Ci _);have iH:=(Heap.Ns.new s3.heap (.type "dict")).keeps (pushCells_keeps scope.names _);have YK:∀b o,s3.heap.get? b=some o->(pushCells (s3.heap.push { cls:=.type "dict",data:=.dict #[] }) scope.names).get? b=some o:=λb o e=>pushCells_keeps _ _ b o (Da _ e);rw[Kw]at ok;rw[WZ]at kc;rw[kc];generalize pushCells (s3.heap.push { cls:=.type "dict",data:=.dict #[] }) scope.names=JX at iH YK ok |-;have old:∀x c,X.env.cells.lookup x=some c->c<s3.heap.objs.size:=λx c e=>by obtain⟨v,z⟩:=Dg.cell x c e;exact z.lt
 have Sb:∀x c,(HR (s3.heap.objs.size+1) scope.names []++HG X.env scope.names []).lookup x=some c->((x,c)∈HR (s3.heap.objs.size+1) scope.names []/\scope.names.lookup x=some .cell/\s3.heap.objs.size<c/\JX.IsCell c none)\/X.env.cells.lookup x=some c:=λx c e=>by
  rw[db]at e;cases A9:(HR (s3.heap.objs.size+1) scope.names []).lookup x with
  |some Dp=>
   rw[A9]at e;have e:Dp=c:=Eh e;subst e;have m:=MX A9;rcases XI _ _ _ m with z|z
   .exact .inl ⟨m,S.uniq _ z,(ok.empty _ _ m).2,(ok.empty _ _ m).1⟩
   .cases z
  |none=>
   rw[A9]at e;have e:(HG X.env scope.names []).lookup x=some c:=e;rw[TG]at e
   split at e
   .exact .inr e
   .cases e
 have C3:∀x,(x,Iy)∈scope.names->(HR (s3.heap.objs.size+1) scope.names []++HG X.env scope.names []).lookup x=X.env.cells.lookup x:=λx AI=>by
  rw[db];cases A9:(HR (s3.heap.objs.size+1) scope.names []).lookup x with
  |some Dp=>
   rcases XI _ _ _ (MX A9)with z|z
   .have An:=S.uniq _ z;have BF:=S.uniq _ AI;dsimp only at An BF;rw[An]at BF;cases BF
   .cases z
  |none=>show(HG X.env scope.names []).lookup x=_;rw[TG,if_pos AI]
 have Fp:∀x,scope.names.lookup x=some .cell->∃c,(HR (s3.heap.objs.size+1) scope.names []++HG X.env scope.names []).lookup x=some c/\s3.heap.objs.size<c:=λx AI=>by obtain⟨c,e⟩:=fB (n:=s3.heap.objs.size+1) AI;exact⟨c,by rw[db,e];rfl,(ok.empty _ _ (MX e)).2⟩
 have OW:∀x y c,(HR (s3.heap.objs.size+1) scope.names []++HG X.env scope.names []).lookup x=some c->(HR (s3.heap.objs.size+1) scope.names []++HG X.env scope.names []).lookup y=some c->x=y:=λx y c A6 AA=>by
  rcases Sb x c A6 with DZ|DZ<;>rcases Sb y c AA with Dh|Dh
  .exact name_of_addr ok.apart DZ.1 Dh.1
  .exact absurd (old y c Dh) (Nat.not_lt_of_gt DZ.2.2.1)
  .exact absurd (old x c DZ) (Nat.not_lt_of_gt Dh.2.2.1)
  .exact Dg.ok.inj x y c DZ Dh
 have Cn:∀x c,(HR (s3.heap.objs.size+1) scope.names []++HG X.env scope.names []).lookup x=some c->X.env.cells.lookup x=some c\/(scope.names.lookup x=some .cell/\s3.heap.objs.size<c/\JX.IsCell c none):=λx c e=>(Sb x c e).elim (λz=>.inr z.2) .inl;generalize HR (s3.heap.objs.size+1) scope.names []++HG X.env scope.names []=cl at Sb Cn C3 Fp OW |-;have iF:∀b∈Ak,b<s2.heap.objs.size:=λb A1=>by obtain⟨o,e,_⟩:=T.obj 0 _ LA b A1;exact D_ e
 have Em:∀b∈Ak,Jv X pins (upd Az s2.heap.objs.size (.lst [])) b:=λb A1=>by obtain⟨XX,a1⟩:=f2 b A1;exact⟨by rw[DV (FD (iF b A1))];exact XX,a1⟩
 have a5:∀b∈Ak,b<s3.heap.objs.size:=λb A1=>by rw[ab9];exact Nat.lt_succ_of_lt (iF b A1)
 have loop:∀s4:AQ,s4={ s3 with heap:=JX }->
   Ma (BG X.prog X.w) X.A (.compLoop (.ListComp elt [⟨target,iter,ifs,0⟩] scope pos) 0 (.ref it) (.ref s2.heap.objs.size) (compEnvC scope cl s3.heap.objs.size X.env))
    (UC (.ref s2.heap.objs.size) s3.heap.objs.size) s4:=by
  intro s4 SZ;have LI:Inv (FZ X scope N cl s3.heap.objs.size s3 (upd Az s2.heap.objs.size (.lst [])) Ak) [] (N2 nl caps σ) (upd Az s2.heap.objs.size (.lst [])) s4:=
   va S Dg (by rw[SZ];exact Cn) C3 Fp OW Em a5 (by rw[SZ]) (by rw[SZ]) ⟨_,by rw[SZ];exact iH⟩ (by rw[SZ];exact YK)
  have aav:H6 0 s4.heap:=T.keep 0 _ _ LA λb A1 o e=>by rw[SZ];exact YK b o (k5 b o e)
  generalize Ik:FZ X scope N cl s3.heap.objs.size s3 (upd Az s2.heap.objs.size (.lst [])) Ak=B at LI;have stat:∀{H':AC},(∀b∈Ak,H' b=none)->∀b∈Ak,Jv B [] H' b:=λ{H'} AV b A1=>by
   subst Ik;obtain⟨XX,a1,a2,JQ,Nq,Qr⟩:=Em b A1;refine⟨AV b A1,FD (a5 b A1),λz=>?_,.inl A1,λx c e=>?_,λp AZ=>absurd (show p∈([]:List (A7×Obj))from AZ) (by simp)⟩
   .rcases List.mem_cons.mp (Dg.Z9 b z)with q|q
    .exact a1 q
    .exact a2 q
   .rcases Cn x c e with e|e
    .exact Nq x c e
    .exact Li (L3 (a5 b A1) e.2.1)
  have uf:Jx B target g:=by subst Ik;exact Ad _ _ _ _ _
  have uI:P2 B ifs GJ:=by subst Ik;exact Aj _ _ _ _ _
  have t_:Ax B elt E5:=by subst Ik;exact he _ _ _ _ _
  have Uy:B.prog=X.prog:=by subst Ik;rfl
  have HH:B.w=X.w:=by subst Ik;rfl
  have Qx:B.K=X.K:=by subst Ik;rfl
  have qw:B.A=X.A:=by subst Ik;rfl
  have fN:B.env=compEnvC scope cl s3.heap.objs.size X.env:=by subst Ik;rfl
  have hC:B.calm=true:=by subst Ik;exact AK
  have su:B.xe=λ_ _=>False:=by subst Ik;rfl
  rw[<-Uy,<-HH,<-qw,<-fN];refine rj (λn s'=>∃i σ' H',Inv B [] σ' H' s'/\H6 i s'.heap/\(∀b∈Ak,H' b=none)/\W i n σ' H') ?_ m0 ⟨0,_,_,LI,aav,λb A1=>(Em b A1).1,OM⟩;rintro n s5 ⟨i,σ5,J8,S5,TQ,YS,ac1⟩;have away:∀{α:Type}{t:Sem α}{gn:α->AQ->Prop}{pa:A8->AQ->Prop}{OC:AQ},Al (BG B.prog B.w) B.A t gn B.xe OC->Al (BG B.prog B.w) B.A t gn pa OC:=λh=>Jq h (λ_ _ q=>q) λe s' z=>by rw[su]at z;cases z
  rcases turn i n σ5 J8 ac1 with⟨stop,q⟩|⟨go,step⟩
  .have d:=T.done B Uy HH Qx hC i [] s5 σ5 J8 (Ot (BG B.prog B.w) B.A B.env λe s'=>UC (.ref s2.heap.objs.size) s3.heap.objs.size (.error e) s') S5 (stat YS) TQ stop;rw[<-Uy,<-HH]at d;refine Bd d λr DU⟨B3,U5⟩=>?_;subst B3;refine tR _ DU J8 ?_ (Dg.N8 (Ci _) ?_) (λh' Fo=>?_) q
   .obtain⟨m,AV,_⟩:=U5.loc;rw[fN]at AV;exact⟨m,AV⟩
   .have z:=U5.free;rw[fN]at z;exact z
   .subst Ik;exact vc Dg Em U5 Fo
  .have d:=T.item B Uy HH Qx hC i [] s5 σ5 J8 (Ot (BG B.prog B.w) B.A B.env λe s'=>UC (.ref s2.heap.objs.size) s3.heap.objs.size (.error e) s') S5 (stat YS) TQ go;rw[<-Uy,<-HH]at d;refine Bd d λr DU⟨u,B3,D6⟩=>?_;subst B3;refine Bd D6 λ_ DO⟨x,GZ,KN,Jl,aex,cq,tC⟩=>?_;have pi:=KN.pinned (stat tC) (T.obj _ _ cq);refine away (Bd (uf _ DO σ5 GZ x u _ pi Jl (step x GZ aex)) λ_ s8⟨σ8,eB,pk,aan⟩=>?_);refine away (Bd (uI _ s8 σ8 eB _ pk aan) λb s9⟨pc,gf,lZ⟩=>?_);have again:∀{σa:St}{SI:AC}{OC:AQ},Inv B ([]++Vz Ak DO.heap) σa SI OC->(∃Et,Et<n/\W (i+1) Et σa SI)->∃m,m<n/\∃i σ' H',Inv B [] σ' H' OC/\H6 i OC.heap/\(∀b∈Ak,H' b=none)/\W i m σ' H':=λ{σa SI OC} eC⟨Et,hm,adV⟩=>by
    refine⟨Et,hm,i+1,σa,SI,eC.Za,T.keep _ _ _ cq λb A1 o e=>(eC.pin (b,o) (Ft _ (Ft _ (ZJ A1 e)))).1,λb A1=>?_,adV⟩;obtain⟨o,e,d⟩:=T.obj _ _ cq b A1;exact(eC.pin (b,o) (Ft _ (Ft _ (ZJ A1 e)))).2.1
   cases b with
   |false=>exact again gf lZ
   |true=>show Al _ _ (BN elt B.env) _ _ s9;refine away (Bd (t_ _ s9 σ8 pc _ gf lZ) λcz E4⟨y,gd,pf,Bx,ys,AB,BB,aak⟩=>?_);refine away (Bd (bi _ E4 σ8 gd (.ref s2.heap.objs.size) [y] (.ref s2.heap.objs.size) [cz] (λ_ ge=>ge=upd gd s2.heap.objs.size (.lst (ys++[y]))) pf rfl (.cons Bx .nil) ⟨_,ys,y,rfl,rfl,AB,BB,rfl⟩) λ_ CM⟨z,ge,pg,_,qt⟩=>?_);subst qt;exact again pg aak
 exact codeAny_compStart_list (loop _ (by rw[<-a8])) (T.self X.A 0 _ _ _ (T.keep 0 _ _ LA λb A1 o e=>YK b o (k5 b o e)) (loop _ (by rw[<-a8])))
def iE{pins:List (A7×Obj)}{σ :St}{s:AQ}{H:AC}(S:ME X.env.scope X.N scope N nl caps)(I:Inv X pins σ H s):∀p∈scope.names,p.2=.free->∃c,X.env.cells.lookup p.1=some c:=λp AZ e=>by
 have q:=S.free p AZ e;apply I.ok.has p.1;show X.env.scope.names.lookup p.1=some .cell\/X.env.scope.names.lookup p.1=some .free;cases AM:X.env.scope.names.lookup p.1 with
 |none=>rw[AM]at q;cases q
 |some k=>
  rw[AM]at q
  cases k<;>first
   |exact .inl rfl
   |exact .inr rfl
   |cases q
def zn(S:ME X.env.scope X.N scope N nl caps)(AK:X.calm=true)(AD:Fl X target iter Iw)(Ad:∀cl C s H Ak,Jx (FZ X scope N cl C s H Ak) target g)(Aj:∀cl C s H Ak,P2 (FZ X scope N cl C s H Ak) ifs GJ)(he:∀cl C s H Ak,Ax (FZ X scope N cl C s H Ak) elt E5)(AJ:∀x,Lg iter X.env x=pure x:=by intro _;rfl):Ax X (.ListComp elt [⟨target,iter,ifs,0⟩] scope pos) (Yg Iw g GJ E5 nl caps):=by intro pins s σ H Q I h;rw[eval_ListComp];refine wpAny_comprehension_free (use:=none) rfl AJ (hg (iE S I)) S.kind S.locs ?_;refine Bd (AD pins s σ H _ I h) λv s1 A6=>Bd A6 λYJ s2 AA=>?_;obtain⟨it,Ak,H6,DD,Az,e,Br,T,LA,f2,k⟩:=AA;subst e;obtain⟨W,⟨m0,OM⟩,turn⟩:=k s2.heap.objs.size (Br.Be.fresh (Ci _));refine hi (Q:=λH'=>Q (.ref s2.heap.objs.size) H') S AK Br T LA f2 Ad Aj he OM turn (λacc C=>compPost (BG X.prog X.w) X.A X.xe none (GL X pins σ Q) acc C) ?_;intro C s' H' AV _ Ii q;obtain⟨m,AV⟩:=AV;exact⟨m,AV,λh' Fo=>⟨.ref s2.heap.objs.size,H',Ii h' Fo,rfl,q⟩⟩
def lR{i:Nat}{y:Str}{py nF:Pos}(S:ME X.env.scope X.N scope N nl caps)(AK:X.calm=true)(hN:X.N.Nodup)(BO:X.N[i]?=some y)(AN:X.env.kindOf y=some .local)(AD:Fl X target iter Iw)(Ad:∀cl C s H Ak,Jx (FZ X scope N cl C s H Ak) target g)(Aj:∀cl C s H Ak,P2 (FZ X scope N cl C s H Ak) ifs GJ)(he:∀cl C s H Ak,Ax (FZ X scope N cl C s H Ak) elt E5)(OU:Lk (.ListComp elt [⟨target,iter,ifs,0⟩] scope pos) (some (.Name y py)) nF.line X.env=pure true:=by rfl)(AJ:∀x,Lg iter X.env x=pure x:=by intro _;rfl):DH X (.Assign [.Name y py] (.ListComp elt [⟨target,iter,ifs,0⟩] scope pos) nF) (MA (Yg Iw g GJ E5 nl caps) (Ie i)):=by
 intro pins s σ H CY I h;rw[exec_Assign_Name_used _ _ _ _ OU];refine AR (wpAny_standAt (AR ?_));show Al _ X.A (do let _ <-comprehension (.ListComp elt [⟨target,iter,ifs,0⟩] scope pos) scope X.env _ (newList []) false (BN iter X.env) (some (KH (.Name y py) X.env))) _ _ s;refine AR (Jq (wpAny_comprehension_free (use:=some (KH (.Name y py) X.env)) (Q:=λ_ s'=>Qo X pins CY .next s') rfl AJ (hg (iE S I)) S.kind S.locs ?_) (λ_ s' AW=>BM (BM AW)) λ_ _ e=>e);refine Bd (AD pins s σ H _ I h) λv s1 A6=>Bd A6 λYJ s2 AA=>?_;obtain⟨it,Ak,H6,DD,Az,e,Br,T,LA,f2,k⟩:=AA;subst e;obtain⟨W,⟨m0,OM⟩,turn⟩:=k s2.heap.objs.size (Br.Be.fresh (Ci _));refine hi (Q:=λH'=>CY.Ay (σ.set i (some (.ref s2.heap.objs.size))) H') S AK Br T LA f2 Ad Aj he OM turn (λacc C=>compPost (BG X.prog X.w) X.A X.xe (some (KH (.Name y py) X.env)) (λ_ s'=>Qo X pins CY .next s') acc C) ?_;intro C s' H' AV Gp Ii q;obtain⟨m,AV⟩:=AV;show Al _ X.A (KH (.Name y py) X.env (.ref s2.heap.objs.size)) _ _ s';have Mc:Inv X pins σ H' s':=Ii s'.heap (Heap.SameBut.refl _ _);refine wpAny_assign_Name (nO (v:=.ref s2.heap.objs.size) Mc hN BO (.inl AN) (show RelV (V.ref _) _ from rfl) (λVN pe uH=>?_) (.inr AN));obtain⟨a,uG,AB⟩:=uH;obtain⟨NZ,BU,E3,FF,HW,X8⟩:=Gp;have x9:C≠a:=by
  rcases AB with z|z
  .rw[z];exact BU
  .exact λw=>HW y a z w.symm
 refine⟨m,AV.sameBut uG x9,λh' Fo=>?_⟩;exact⟨_,H',pe.turned (t':=VN.toks) (it:=C) (λb o A1 e=>(Fo.2 b A1).trans e) NZ BU FF HW X8,q⟩
end
section
variable{X:Ac}{pins:List (A7×Obj)}{σ :St}{H H':AC}{s s':AQ}{a:A7}{C XX:A8}{B:BP}
end
section
variable{X:Ac}{x:Str}{np Bs pos afm:Pos}{C:A7}{afj:List A8}{B newId agj:String}{m:Str}{j:Nat}
end
abbrev ss(a:A7)(C:A8):Du:=.ext λh=>∃ob,h.get? a=some ob/\ob.cls=C
section
variable{X:Ac}{pins:List (A7×Obj)}{σ :St}{H H':AC}{s s':AQ}{a:A7}{C XX:A8}{B:BP}{agX:BP}
end
section
variable{X:Ac}{k:Nat}{f C:A7}{fd:G5}{Aq:List Str}{sp:AY}{E:DP}{x:Str}{p pos:Pos}{e:AT}{A5:List AT}{t:Ez}
end
section
variable{X:Ac}{pins:List (A7×Obj)}{σ :St}{H H':AC}{s s':AQ}{a:A7}
end
section
variable{X:Ac}{i:Nat}{x n:Str}{W:A7}{e:AT}{E5:TE}{E:DP}{pw:Bb}{acW:List Bb}{Av:FJ}{zg np AZ pos:Pos}
end
end C1
namespace CT
open PySem C1
inductive D where
 |non|AO (b:Bool)|int (i:Int)|str (x:Str)
 |tup (xs:List D)|lst (xs:List D)|Co (xs:List D)
 |Bg (ks:List Key) (xs:List D)|Ai (ks:List Bj) (xs:List D)
 |ins (c:Str) (ns:List Str) (xs:List D)
 |PD (c:Str)
 |EM (xs:List D)
def Sub(G H:AC):Prop:=∀b o,G b=some o->H b=some o
def Sub.refl(G:AC):Sub G G:=λ_ _ e=>e
def Sub.trans{G H I:AC}(a:Sub G H)(b:Sub H I):Sub G I:=λc o e=>b c o (a c o e)
def Sub.gone{G H:AC}(a:Sub G H){b:A7}(h:H b=none):G b=none:=by
 cases e:G b with
 |none=>rfl
 |some o=>rw[a b o e]at h;cases h
theorem Sub.upd{G:AC}{a:A7}{o:Du}(h:G a=none):Sub G (upd G a o):=λb u e=>by rw[DV (K7 e h)];exact e
def Sub.Zb{G H:AC}{a:A7}{o:Du}(s:Sub G H)(h:G a=none):Sub G (C1.upd H a o):=λb u e=>by rw[DV (K7 e h)];exact s b u e
def Sub.both{G H:AC}{a:A7}{o:Du}(s:Sub G H):Sub (C1.upd G a o) (C1.upd H a o):=λb u e=>by
 by_cases A1:b=a
 .subst A1;rw[Dz]at e |-;exact e
 .rw[DV A1]at e |-;exact s b u e
theorem Sub.at{G H:AC}{a:A7}{o:Du}(s:Sub G H)(h:H a=some o):Sub (C1.upd G a o) H:=λb u e=>by
 by_cases A1:b=a
 .subst A1;rw[Dz]at e;rw[h];exact e
 .rw[DV A1]at e;exact s b u e
def Hz(H:AC)(b:A7):Prop:=H b≠none/\∀xs,H b≠some (.tup xs)
structure C6(G H G' H':AC):Prop where
 g:Sub G G'
 h:Sub H H'
 n:∀b,Hz H b->G' b=G b
def Sub.some{G H:AC}(s:Sub G H){b:A7}(h:G b≠none):H b≠none:=λz=>h (s.gone z)
def Sub.Jh{G H:AC}(s:Sub G H){b:A7}(h:Hz G b):Hz H b:=by
 cases e:G b with
 |none=>exact absurd e h.1
 |some o=>exact⟨s.some h.1,λxs z=>h.2 xs (e.trans ((s b o e).symm.trans z))⟩
def Hz.of{H:AC}{b:A7}{o:Du}(e:H b=some o)(n:∀xs,o≠.tup xs):Hz H b:=⟨by rw[e];exact(λz=>nomatch z),λxs z=>n xs (Eh (e.symm.trans z))⟩
theorem C6.refl(G H:AC):C6 G H G H:=⟨Sub.refl _,Sub.refl _,λ_ _=>rfl⟩
theorem C6.trans{G H Af H1 Cz Az:AC}(a:C6 G H Af H1)(b:C6 Af H1 Cz Az):C6 G H Cz Az:=⟨a.g.trans b.g,a.h.trans b.h,λc AK=>(b.n c (a.h.Jh AK)).trans (a.n c AK)⟩
def C6.lay{G H:AC}{p:A7}{o:Du}(s:Sub G H)(AZ:H p=none):C6 G H (C1.upd G p o) (C1.upd H p o):=⟨Sub.upd (s.gone AZ),Sub.upd AZ,λb A1=>by rw[DV];intro e;subst e;exact A1.1 AZ⟩
def C6.lay0{G H:AC}{p:A7}{o:Du}(AZ:H p=none):C6 G H G (C1.upd H p o):=⟨Sub.refl _,Sub.upd AZ,λ_ _=>rfl⟩
def C6.put{G H G' H':AC}{p:A7}{o:Du}(u:C6 G H G' H')(AZ:H p=none)(Ad:G' p=none):C6 G H (C1.upd G' p o) H':=⟨u.g.trans (Sub.upd Ad),u.h,λb A1=>by
 rw[DV]
 .exact u.n b A1
 .intro e;subst e;exact A1.1 AZ⟩
def Eo.mono{G H:AC}(s:Sub G H){a:A7}{u:Du}(r:Eo G a u):Eo H a u:=by
 rcases r with r|⟨o,r⟩
 .exact .inl (s _ _ r)
 .exact .inr ⟨o,s _ _ r⟩
theorem C9.mono{K:A_}{G H:AC}(s:Sub G H){a:A7}{xs:List V}(r:C9 K G a xs):C9 K H a xs:=by
 rcases r with r|r
 .exact .inl (Eo.mono s r)
 .exact .inr r
theorem CZ.mono{K:A_}{G H:AC}(s:Sub G H){a:A7}{xs:List V}(r:CZ K G a xs):CZ K H a xs:=by
 rcases r with r|r
 .exact .inl (Eo.mono s r)
 .exact .inr r
def Fx(K:A_)(c:Str)(C:A7):Prop:=Lj K FE c=some (some (.ref C))
mutual
noncomputable def At(K:A_)(G:AC):D->V->Prop
 |.non,v=>v=.non
 |.AO b,v=>v=.AO b
 |.int i,v=>v=.int i
 |.str x,v=>v=.str x
 |.tup ds,v=>∃a xs,v=.ref a/\G a=some (.tup xs)/\Aa K G ds xs
 |.EM ds,v=>∃a xs,v=.ref a/\CZ K G a xs/\Aa K G ds xs
 |.lst ds,v=>∃a xs,v=.ref a/\G a=some (.lst xs)/\Aa K G ds xs
 |.Co ds,v=>∃a xs,v=.ref a/\C9 K G a xs/\Aa K G ds xs
 |.Bg ks ds,v=>∃a xs,v=.ref a/\G a=some (.Bg xs)/\xs.map (·.1)=ks/\Aa K G ds (xs.map (·.2))
 |.Ai ks ds,v=>∃a xs,v=.ref a/\G a=some (.Ai xs)/\xs.map (·.1)=ks/\Aa K G ds (xs.map (·.2))
 |.ins c ns ds,v=>∃a Ag xs,v=.ref a/\(∃C,Fx K c C/\G a=some (.ins C Ag xs))/\xs.map (·.1)=ns/\Aa K G ds (xs.map (·.2))
 |.PD c,v=>∃(a:A7)(xs:List V),v=.ref a/\(∃C,Fx K c C/\G a=some (ss a (.ref C)))/\xs=[]
noncomputable def Aa(K:A_)(G:AC):List D->List V->Prop
 |[],vs=>vs=[]
 |d::ds,vs=>∃v r,vs=v::r/\At K G d v/\Aa K G ds r
end
mutual
theorem At.mono{K:A_}{G H:AC}(s:Sub G H):∀{d:D}{v:V},At K G d v->At K H d v
 |.non,_,h=>by simpa only[At]using h
 |.AO _,_,h=>by simpa only[At]using h
 |.int _,_,h=>by simpa only[At]using h
 |.str _,_,h=>by simpa only[At]using h
 |.tup _,_,h=>by simp only[At]at h |-;obtain⟨a,xs,e,q,r⟩:=h;exact⟨a,xs,e,s _ _ q,Aa.mono s r⟩
 |.EM _,_,h=>by simp only[At]at h |-;obtain⟨a,xs,e,q,r⟩:=h;exact⟨a,xs,e,CZ.mono s q,Aa.mono s r⟩
 |.lst _,_,h=>by simp only[At]at h |-;obtain⟨a,xs,e,q,r⟩:=h;exact⟨a,xs,e,s _ _ q,Aa.mono s r⟩
 |.Co _,_,h=>by simp only[At]at h |-;obtain⟨a,xs,e,q,r⟩:=h;exact⟨a,xs,e,C9.mono s q,Aa.mono s r⟩
 |.Bg _ _,_,h=>by simp only[At]at h |-;obtain⟨a,xs,e,q,k,r⟩:=h;exact⟨a,xs,e,s _ _ q,k,Aa.mono s r⟩
 |.Ai _ _,_,h=>by simp only[At]at h |-;obtain⟨a,xs,e,q,k,r⟩:=h;exact⟨a,xs,e,s _ _ q,k,Aa.mono s r⟩
 |.ins _ _ _,_,h=>by simp only[At]at h |-;obtain⟨a,Ag,xs,e,⟨C,BU,q⟩,k,r⟩:=h;exact⟨a,Ag,xs,e,⟨C,BU,s _ _ q⟩,k,Aa.mono s r⟩
 |.PD _,_,h=>by simp only[At]at h |-;obtain⟨a,xs,e,⟨C,BU,q⟩,r⟩:=h;exact⟨a,xs,e,⟨C,BU,s _ _ q⟩,r⟩
theorem Aa.mono{K:A_}{G H:AC}(s:Sub G H):∀{ds:List D}{vs:List V},Aa K G ds vs->Aa K H ds vs
 |[],_,h=>by simpa only[Aa]using h
 |_::_,_,h=>by simp only[Aa]at h |-;obtain⟨v,r,e,q,t⟩:=h;exact⟨v,r,e,At.mono s q,Aa.mono s t⟩
end
section
variable{K:A_}{G:AC}
def Aa.nil:Aa K G [] []:=by simp only[Aa]
def Aa.cons{d:D}{ds:List D}{v:V}{vs:List V}(h:At K G d v)(t:Aa K G ds vs):Aa K G (d::ds) (v::vs):=by simp only[Aa];exact⟨v,vs,rfl,h,t⟩
theorem Aa.length:∀{ds:List D}{vs:List V},Aa K G ds vs->ds.length=vs.length
 |[],_,h=>by simp only[Aa]at h;subst h;rfl
 |_::_,_,h=>by simp only[Aa]at h;obtain⟨v,r,rfl,_,t⟩:=h;simp[Aa.length t]
theorem Aa.get:∀{ds:List D}{vs:List V}{i:Nat}{d:D},Aa K G ds vs->ds[i]?=some d->∃v,vs[i]?=some v/\At K G d v
 |[],_,_,_,_,e=>by simp at e
 |_::_,_,0,_,h,e=>by simp only[Aa]at h;obtain⟨v,r,rfl,q,t⟩:=h;simp at e;subst e;exact⟨v,by simp,q⟩
 |_::_,_,i+1,d,h,e=>by simp only[Aa]at h;obtain⟨v,r,rfl,q,t⟩:=h;obtain⟨u,A6,AA⟩:=Aa.get (i:=i) (d:=d) t (by simpa using e);exact⟨u,by simpa using A6,AA⟩
def Aa.VE{ds:List D}{vs:List V}{i:Nat}{v:V}(h:Aa K G ds vs)(e:vs[i]?=some v):∃d,ds[i]?=some d/\At K G d v:=by
 have AD:i<ds.length:=by rw[h.length];exact(List.getElem?_eq_some_iff.mp e).1
 obtain⟨u,A6,AA⟩:=h.get (Df AD);rw[e]at A6;cases A6;exact⟨_,Df AD,AA⟩
theorem Aa.append:∀{ds A5:List D}{vs ws:List V},Aa K G ds vs->Aa K G A5 ws->Aa K G (ds++A5) (vs++ws)
 |[],_,_,_,h,t=>by simp only[Aa]at h;subst h;exact t
 |_::_,_,_,_,h,t=>by simp only[Aa]at h;obtain⟨v,r,rfl,q,s⟩:=h;exact .cons q (Aa.append s t)
theorem Aa.take:∀(n:Nat){ds:List D}{vs:List V},Aa K G ds vs->Aa K G (ds.take n) (vs.take n)
 |0,_,_,_=>by simpa using Aa.nil
 |_+1,[],_,h=>by simp only[Aa]at h;subst h;simpa using Aa.nil
 |n+1,_::_,_,h=>by simp only[Aa]at h;obtain⟨v,r,rfl,q,t⟩:=h;exact .cons q (Aa.take n t)
theorem Aa.drop:∀(n:Nat){ds:List D}{vs:List V},Aa K G ds vs->Aa K G (ds.drop n) (vs.drop n)
 |0,_,_,h=>by simpa using h
 |_+1,[],_,h=>by simp only[Aa]at h;subst h;simpa using Aa.nil
 |n+1,_::_,_,h=>by simp only[Aa]at h;obtain⟨v,r,rfl,q,t⟩:=h;simpa using Aa.drop n t
def Aa.snoc{ds:List D}{vs:List V}{d:D}{v:V}(h:Aa K G ds vs)(q:At K G d v):Aa K G (ds++[d]) (vs++[v]):=h.append (.cons q .nil)
end
inductive R(α:Type) where
 |ok (a:α)|exc (c:Str)|bad
namespace R
def bind{α β:Type}:R α->(α->R β)->R β
 |.ok a,k=>k a
 |.exc c,_=>.exc c
 |.bad,_=>.bad
def map{α β:Type}(f:α->β)(r:R α):R β:=r.bind λa=>.ok (f a)
def EV{α β:Type}(a:α)(k:α->R β):(R.ok a).bind k=k a:=rfl
end R
def rb{α β:Type}{P:R α->Prop}{Jw:R β->Prop}{r:R α}{k:α->R β}(h:Jw (r.bind k))(f:∀a,r=.ok a->Jw (k a)->P (.ok a))(A1:Jw .bad->P .bad:=by exact id)(AI:∀c,Jw (.exc c)->P (.exc c):=by exact λ_=>id):P r:=by
 cases r with
 |ok a=>exact f a rfl h
 |exc c=>exact AI c h
 |bad=>exact A1 h
inductive T where
 |J (d:D)|lst (Av:List T)|Bg (ks:List Key) (Av:List T)|Ai (ks:List Bj) (Av:List T)|ins (c:Str) (ns:List Str) (Av:List T)
mutual
noncomputable def toD:T->D
 |.J d=>d
 |.lst Av=>.lst (MB Av)
 |.Bg ks Av=>.Bg ks (MB Av)
 |.Ai ks Av=>.Ai ks (MB Av)
 |.ins c ns Av=>.ins c ns (MB Av)
noncomputable def MB:List T->List D
 |[]=>[]
 |t::Av=>toD t::MB Av
end
mutual
noncomputable def Ak(H:AC):T->V->List A7
 |.J _,_=>[]
 |.lst Av,v=>match v with
  |.ref a=>match H a with
   |some (.lst xs)=>a::E8 H Av xs
   |_=>[]
  |_=>[]
 |.Bg _ Av,v=>match v with
  |.ref a=>match H a with
   |some (.Bg xs)=>a::E8 H Av (xs.map (·.2))
   |_=>[]
  |_=>[]
 |.Ai _ Av,v=>match v with
  |.ref a=>match H a with
   |some (.Ai xs)=>a::E8 H Av (xs.map (·.2))
   |_=>[]
  |_=>[]
 |.ins _ _ Av,v=>match v with
  |.ref a=>match H a with
   |some (.ins _ _ xs)=>a::E8 H Av (xs.map (·.2))
   |_=>[]
  |_=>[]
noncomputable def E8(H:AC):List T->List V->List A7
 |[],_=>[]
 |t::Av,vs=>match vs with
  |v::r=>Ak H t v++E8 H Av r
  |[]=>[]
end
mutual
noncomputable def Cb(K:A_)(G H:AC):T->V->Prop
 |.J d,v=>At K G d v
 |.lst Av,v=>∃a xs,v=.ref a/\H a=some (.lst xs)/\Bt K G H Av xs
 |.Bg ks Av,v=>∃a xs,v=.ref a/\H a=some (.Bg xs)/\xs.map (·.1)=ks/\Bt K G H Av (xs.map (·.2))
 |.Ai ks Av,v=>∃a xs,v=.ref a/\H a=some (.Ai xs)/\xs.map (·.1)=ks/\Bt K G H Av (xs.map (·.2))
 |.ins c ns Av,v=>∃a Ag xs,v=.ref a/\(∃C,Fx K c C/\H a=some (.ins C Ag xs))/\xs.map (·.1)=ns/\Bt K G H Av (xs.map (·.2))
noncomputable def Bt(K:A_)(G H:AC):List T->List V->Prop
 |[],vs=>vs=[]
 |t::Av,vs=>∃v r,vs=v::r/\Cb K G H t v/\Bt K G H Av r
end
section
variable{K:A_}{G G' H H' P:AC}
def QY{a:A7}{xs:List V}{Av:List T}(q:H a=some (.lst xs)):Ak H (.lst Av) (.ref a)=a::E8 H Av xs:=by simp only[Ak,q]
def TC{a:A7}{xs:List (Key×V)}{ks:List Key}{Av:List T}(q:H a=some (.Bg xs)):Ak H (.Bg ks Av) (.ref a)=a::E8 H Av (xs.map (·.2)):=by simp only[Ak,q]
def MO{a:A7}{xs:List (Bj×V)}{ks:List Bj}{Av:List T}(q:H a=some (.Ai xs)):Ak H (.Ai ks Av) (.ref a)=a::E8 H Av (xs.map (·.2)):=by simp only[Ak,q]
def LO{a C:A7}{Ag}{xs:List (Str×V)}{c:Str}{ns:List Str}{Av:List T}(q:H a=some (.ins C Ag xs)):Ak H (.ins c ns Av) (.ref a)=a::E8 H Av (xs.map (·.2)):=by simp only[Ak,q]
def HZ{t:T}{Av:List T}{v:V}{r:List V}:E8 H (t::Av) (v::r)=Ak H t v++E8 H Av r:=by simp only[E8]
def TB{vs:List V}:E8 H [] vs=[]:=by simp only[E8]
mutual
theorem Cb.mono(BK:Sub G G'):∀{t:T}{v:V},Cb K G H t v->Cb K G' H t v
 |.J _,_,h=>by simp only[Cb]at h |-;exact h.mono BK
 |.lst _,_,h=>by simp only[Cb]at h |-;obtain⟨a,xs,e,q,r⟩:=h;exact⟨a,xs,e,q,Bt.mono BK r⟩
 |.Bg _ _,_,h=>by simp only[Cb]at h |-;obtain⟨a,xs,e,q,n,r⟩:=h;exact⟨a,xs,e,q,n,Bt.mono BK r⟩
 |.Ai _ _,_,h=>by simp only[Cb]at h |-;obtain⟨a,xs,e,q,n,r⟩:=h;exact⟨a,xs,e,q,n,Bt.mono BK r⟩
 |.ins _ _ _,_,h=>by simp only[Cb]at h |-;obtain⟨a,Ag,xs,e,q,n,r⟩:=h;exact⟨a,Ag,xs,e,q,n,Bt.mono BK r⟩
theorem Bt.mono(BK:Sub G G'):∀{Av:List T}{vs:List V},Bt K G H Av vs->Bt K G' H Av vs
 |[],_,h=>by simpa only[Bt]using h
 |_::_,_,h=>by simp only[Bt]at h |-;obtain⟨v,r,e,q,t⟩:=h;exact⟨v,r,e,Cb.mono BK q,Bt.mono BK t⟩
end
mutual
theorem Cb.keep:∀{t:T}{v:V},(∀b∈Ak H t v,H' b=H b)->Cb K G H t v->Cb K G H' t v/\Ak H' t v=Ak H t v
 |.J _,_,_,h=>by simp only[Cb]at h;exact⟨by simp only[Cb];exact h,by simp only[Ak]⟩
 |.lst _,_,k,h=>by simp only[Cb]at h;obtain⟨a,xs,rfl,q,r⟩:=h;rw[QY q]at k;have M8:H' a=some (.lst xs):=(k a (by simp)).trans q;obtain⟨AL,B7⟩:=Bt.keep (λb A1=>k b (Ff _ A1)) r;exact⟨by simp only[Cb];exact⟨a,xs,rfl,M8,AL⟩,by rw[QY M8,QY q,B7]⟩
 |.Bg _ _,_,k,h=>by simp only[Cb]at h;obtain⟨a,xs,rfl,q,n,r⟩:=h;rw[TC q]at k;have M8:H' a=some (.Bg xs):=(k a (by simp)).trans q;obtain⟨AL,B7⟩:=Bt.keep (λb A1=>k b (Ff _ A1)) r;exact⟨by simp only[Cb];exact⟨a,xs,rfl,M8,n,AL⟩,by rw[TC M8,TC q,B7]⟩
 |.Ai _ _,_,k,h=>by simp only[Cb]at h;obtain⟨a,xs,rfl,q,n,r⟩:=h;rw[MO q]at k;have M8:H' a=some (.Ai xs):=(k a (by simp)).trans q;obtain⟨AL,B7⟩:=Bt.keep (λb A1=>k b (Ff _ A1)) r;exact⟨by simp only[Cb];exact⟨a,xs,rfl,M8,n,AL⟩,by rw[MO M8,MO q,B7]⟩
 |.ins _ _ _,_,k,h=>by simp only[Cb]at h;obtain⟨a,Ag,xs,rfl,⟨C,BU,q⟩,n,r⟩:=h;rw[LO q]at k;have M8:H' a=some (.ins C Ag xs):=(k a (by simp)).trans q;obtain⟨AL,B7⟩:=Bt.keep (λb A1=>k b (Ff _ A1)) r;exact⟨by simp only[Cb];exact⟨a,Ag,xs,rfl,⟨C,BU,M8⟩,n,AL⟩,by rw[LO M8,LO q,B7]⟩
theorem Bt.keep:∀{Av:List T}{vs:List V},(∀b∈E8 H Av vs,H' b=H b)->Bt K G H Av vs->Bt K G H' Av vs/\E8 H' Av vs=E8 H Av vs
 |[],_,_,h=>⟨by simpa only[Bt]using h,by simp only[E8]⟩
 |_::_,_,k,h=>by simp only[Bt]at h;obtain⟨v,r,rfl,q,t⟩:=h;rw[HZ]at k;obtain⟨An,BF⟩:=Cb.keep (λb A1=>k b (Fu _ A1)) q;obtain⟨t1,Do⟩:=Bt.keep (λb A1=>k b (Ft _ A1)) t;exact⟨by simp only[Bt];exact⟨v,r,rfl,An,t1⟩,by rw[HZ,HZ,BF,Do]⟩
end
mutual
theorem Cb.some:∀{t:T}{v:V},Cb K G H t v->∀b∈Ak H t v,H b≠none
 |.J _,_,_=>by intro b A1;simp[Ak]at A1
 |.lst _,_,h=>by
  simp only[Cb]at h;obtain⟨a,xs,rfl,q,r⟩:=h;rw[QY q];intro b A1;rcases List.mem_cons.mp A1 with rfl|A1
  .rw[q];exact λz=>nomatch z
  .exact Bt.some r b A1
 |.Bg _ _,_,h=>by
  simp only[Cb]at h;obtain⟨a,xs,rfl,q,n,r⟩:=h;rw[TC q];intro b A1;rcases List.mem_cons.mp A1 with rfl|A1
  .rw[q];exact λz=>nomatch z
  .exact Bt.some r b A1
 |.Ai _ _,_,h=>by
  simp only[Cb]at h;obtain⟨a,xs,rfl,q,n,r⟩:=h;rw[MO q];intro b A1;rcases List.mem_cons.mp A1 with rfl|A1
  .rw[q];exact λz=>nomatch z
  .exact Bt.some r b A1
 |.ins _ _ _,_,h=>by
  simp only[Cb]at h;obtain⟨a,Ag,xs,rfl,⟨C,BU,q⟩,n,r⟩:=h;rw[LO q];intro b A1;rcases List.mem_cons.mp A1 with rfl|A1
  .rw[q];exact λz=>nomatch z
  .exact Bt.some r b A1
theorem Bt.some:∀{Av:List T}{vs:List V},Bt K G H Av vs->∀b∈E8 H Av vs,H b≠none
 |[],_,_=>by intro b A1;simp[E8]at A1
 |_::_,_,h=>by
  simp only[Bt]at h;obtain⟨v,r,rfl,q,t⟩:=h;rw[HZ];intro b A1;rcases List.mem_append.mp A1 with A1|A1
  .exact Cb.some q b A1
  .exact Bt.some t b A1
end
mutual
theorem Cb.Jh:∀{t:T}{v:V},Cb K G H t v->∀b∈Ak H t v,Hz H b
 |.J _,_,_=>by intro b A1;simp[Ak]at A1
 |.lst _,_,h=>by
  simp only[Cb]at h;obtain⟨a,xs,rfl,q,r⟩:=h;rw[QY q];intro b A1;rcases List.mem_cons.mp A1 with rfl|A1
  .exact .of q λ_ z=>nomatch z
  .exact Bt.Jh r b A1
 |.Bg _ _,_,h=>by
  simp only[Cb]at h;obtain⟨a,xs,rfl,q,n,r⟩:=h;rw[TC q];intro b A1;rcases List.mem_cons.mp A1 with rfl|A1
  .exact .of q λ_ z=>nomatch z
  .exact Bt.Jh r b A1
 |.Ai _ _,_,h=>by
  simp only[Cb]at h;obtain⟨a,xs,rfl,q,n,r⟩:=h;rw[MO q];intro b A1;rcases List.mem_cons.mp A1 with rfl|A1
  .exact .of q λ_ z=>nomatch z
  .exact Bt.Jh r b A1
 |.ins _ _ _,_,h=>by
  simp only[Cb]at h;obtain⟨a,Ag,xs,rfl,⟨C,BU,q⟩,n,r⟩:=h;rw[LO q];intro b A1;rcases List.mem_cons.mp A1 with rfl|A1
  .exact .of q λ_ z=>nomatch z
  .exact Bt.Jh r b A1
theorem Bt.Jh:∀{Av:List T}{vs:List V},Bt K G H Av vs->∀b∈E8 H Av vs,Hz H b
 |[],_,_=>by intro b A1;simp[E8]at A1
 |_::_,_,h=>by
  simp only[Bt]at h;obtain⟨v,r,rfl,q,t⟩:=h;rw[HZ];intro b A1;rcases List.mem_append.mp A1 with A1|A1
  .exact Cb.Jh q b A1
  .exact Bt.Jh t b A1
end
mutual
theorem Cb.view(BK:Sub G P):∀{t:T}{v:V},(∀a∈Ak H t v,P a=H a)->Cb K G H t v->At K P (toD t) v
 |.J _,_,_,h=>by simp only[Cb,toD]at h |-;exact h.mono BK
 |.lst _,_,k,h=>by simp only[Cb]at h;obtain⟨a,xs,rfl,q,r⟩:=h;rw[QY q]at k;simp only[toD,At];exact⟨a,xs,rfl,by rw[k a (by simp)];exact q,Bt.view BK (λb A1=>k b (Ff _ A1)) r⟩
 |.Bg _ _,_,k,h=>by simp only[Cb]at h;obtain⟨a,xs,rfl,q,n,r⟩:=h;rw[TC q]at k;simp only[toD,At];exact⟨a,xs,rfl,by rw[k a (by simp)];exact q,n,Bt.view BK (λb A1=>k b (Ff _ A1)) r⟩
 |.Ai _ _,_,k,h=>by simp only[Cb]at h;obtain⟨a,xs,rfl,q,n,r⟩:=h;rw[MO q]at k;simp only[toD,At];exact⟨a,xs,rfl,by rw[k a (by simp)];exact q,n,Bt.view BK (λb A1=>k b (Ff _ A1)) r⟩
 |.ins _ _ _,_,k,h=>by simp only[Cb]at h;obtain⟨a,Ag,xs,rfl,⟨C,BU,q⟩,n,r⟩:=h;rw[LO q]at k;simp only[toD,At];exact⟨a,Ag,xs,rfl,⟨C,BU,by rw[k a (by simp)];exact q⟩,n,Bt.view BK (λb A1=>k b (Ff _ A1)) r⟩
theorem Bt.view(BK:Sub G P):∀{Av:List T}{vs:List V},(∀a∈E8 H Av vs,P a=H a)->Bt K G H Av vs->Aa K P (MB Av) vs
 |[],_,_,h=>by simp only[Bt,MB,Aa]at h |-;exact h
 |_::_,_,k,h=>by simp only[Bt]at h;obtain⟨v,r,rfl,q,t⟩:=h;rw[HZ]at k;simp only[MB,Aa];exact⟨v,r,rfl,Cb.view BK (λb A1=>k b (Fu _ A1)) q,Bt.view BK (λb A1=>k b (Ft _ A1)) t⟩
end
end
inductive KP where
 |lst (ds:List D)|Ai (ks:List Bj) (ds:List D)|ins (c:Str) (ns:List Str) (ds:List D)
noncomputable def Nm(K:A_)(G:AC):KP->Du->Prop
 |.lst ds,ho=>∃xs,ho=.lst xs/\Aa K G ds xs
 |.Ai ks ds,ho=>∃xs,ho=.Ai xs/\xs.map (·.1)=ks/\Aa K G ds (xs.map (·.2))
 |.ins c ns ds,ho=>∃C Ag xs,Fx K c C/\ho=.ins C Ag xs/\xs.map (·.1)=ns/\Aa K G ds (xs.map (·.2))
theorem Nm.mono{K:A_}{G H:AC}(s:Sub G H):∀{o:KP}{ho:Du},Nm K G o ho->Nm K H o ho
 |.lst _,_,⟨xs,e,q⟩=>⟨xs,e,q.mono s⟩
 |.Ai _ _,_,⟨xs,e,k,q⟩=>⟨xs,e,k,q.mono s⟩
 |.ins _ _ _,_,⟨C,Ag,xs,c,e,k,q⟩=>⟨C,Ag,xs,c,e,k,q.mono s⟩
def O3:KP->D
 |.lst ds=>.lst ds
 |.Ai ks ds=>.Ai ks ds
 |.ins c ns ds=>.ins c ns ds
def Nm.at{K:A_}{G:AC}{o:KP}{ho:Du}{a:A7}(h:Nm K G o ho)(e:G a=some ho):At K G (O3 o) (.ref a):=by
 cases o with
 |lst ds=>obtain⟨xs,rfl,q⟩:=h;simp only[O3,At];exact⟨a,xs,rfl,e,q⟩
 |Ai ks ds=>obtain⟨xs,rfl,k,q⟩:=h;simp only[O3,At];exact⟨a,xs,rfl,e,k,q⟩
 |ins c ns ds=>obtain⟨C,Ag,xs,BU,rfl,k,q⟩:=h;simp only[O3,At];exact⟨a,Ag,xs,rfl,⟨C,BU,e⟩,k,q⟩
inductive Bi where
 |un|J (d:D)|ob (o:KP)|Ef (t:T)|BX (k:Nat) (t:T)
abbrev Bi.Bw(ds:List D):Bi:=.ob (.lst ds)
abbrev AG:=List Bi
structure B9 where
 K:A_
 G0:AC
 H0:AC
 EX:Str->AC->Prop
 pin:Nat->Option V
def Iq:Nat->Option V:=λ_=>none
structure FS(F:B9)(G H:AC):Prop where
 sub:Sub G H
 EP:Sub F.G0 G
 BE:Sub F.H0 H
 new:∀b,Hz F.H0 b->G b=F.G0 b
structure MH(F:B9)(G H:AC)(t:T)(v:V):Prop where
 at_:Cb F.K G H t v
 Ct:(Ak H t v).Nodup
 own:∀b∈Ak H t v,G b=none/\F.H0 b=none
noncomputable def IP(F:B9)(G H:AC)(o:Option V):Bi->Prop
 |.un=>True
 |.J d=>∃v,o=some v/\At F.K G d v
 |.ob ob=>∃a ho,o=some (.ref a)/\H a=some ho/\G a=none/\F.H0 a=none/\Nm F.K G ob ho
 |.Ef t=>∃v,o=some v/\MH F G H t v
 |.BX k t=>∃v,o=some v/\MH F G H t v/\F.pin k=some v
def Ey(H:AC):Bi->Option V->A7->Prop
 |.un,_,_=>False
 |.J _,_,_=>False
 |.ob _,o,a=>o=some (.ref a)
 |.Ef t,o,a=>∃v,o=some v/\a∈Ak H t v
 |.BX _ t,o,a=>∃v,o=some v/\a∈Ak H t v
structure Rel(F:B9)(G H:AC)(σ :St)(ρ:AG):Prop where
 kp:FS F G H
 len: σ.length=ρ.length
 CE:∀(i:Nat)(s:Bi),ρ[i]?=some s->∃o,σ[i]?=some o/\IP F G H o s
 N5:∀(i j:Nat)(a:A7)(s s':Bi)(o o':Option V),ρ[i]?=some s->ρ[j]?=some s'-> σ[i]?=some o-> σ[j]?=some o'->Ey H s o a->Ey H s' o' a->i=j
def Ca(H:AC)(σ :St)(ρ:AG)(a:A7):Prop:=∃(i:Nat)(s:Bi)(o:Option V),ρ[i]?=some s/\ σ[i]?=some o/\Ey H s o a
def ny{α:Type}{l:List α}{i:Nat}{x:α}(e:l[i]?=some x):l.set i x=l:=by
 apply List.ext_getElem?;intro j;rw[dS];by_cases h:i=j
 .subst h;rw[if_pos rfl,if_pos (List.getElem?_eq_some_iff.mp e).1];exact e.symm
 .simp[h]
section
variable{F:B9}{G G' H H':AC}{σ :St}{ρ:AG}
theorem Ca.ob{a:A7}{i:Nat}{o:KP}(A9:ρ[i]?=some (.ob o))(AM: σ[i]?=some (some (.ref a))):Ca H σ ρ a:=⟨i,_,_,A9,AM,rfl⟩
theorem IP.keep{o:Option V}{s:Bi}(h:IP F G H o s)(BK:Sub G G')(k:∀a,Ey H s o a->H' a=H a/\G' a=none):IP F G' H' o s/\(∀a,Ey H' s o a->Ey H s o a):=by
 cases s with
 |un=>exact⟨trivial,λ_ z=>z⟩
 |J d=>obtain⟨v,AM,a⟩:=h;exact⟨⟨v,AM,a.mono BK⟩,λ_ z=>z⟩
 |ob ds=>obtain⟨a,xs,AM,A6,AA,B4,BJ⟩:=h;exact⟨⟨a,xs,AM,by rw[(k a AM).1];exact A6,(k a AM).2,B4,BJ.mono BK⟩,λ_ z=>z⟩
 |Ef t=>
  obtain⟨v,AM,An,BF,EO⟩:=h;obtain⟨Fe,F3⟩:=An.keep λb A1=>(k b ⟨v,AM,A1⟩).1;refine⟨⟨v,AM,⟨Fe.mono BK,by rw[F3];exact BF,λb A1=>?_⟩⟩,λa z=>?_⟩
  .rw[F3]at A1;exact⟨(k b ⟨v,AM,A1⟩).2,(EO b A1).2⟩
  .obtain⟨u,BD,A1⟩:=z;rw[AM]at BD;cases BD;rw[F3]at A1;exact⟨v,AM,A1⟩
 |BX n t=>
  obtain⟨v,AM,⟨An,BF,EO⟩,AZ⟩:=h;obtain⟨Fe,F3⟩:=An.keep λb A1=>(k b ⟨v,AM,A1⟩).1;refine⟨⟨v,AM,⟨Fe.mono BK,by rw[F3];exact BF,λb A1=>?_⟩,AZ⟩,λa z=>?_⟩
  .rw[F3]at A1;exact⟨(k b ⟨v,AM,A1⟩).2,(EO b A1).2⟩
  .obtain⟨u,BD,A1⟩:=z;rw[AM]at BD;cases BD;rw[F3]at A1;exact⟨v,AM,A1⟩
def IP.foot{o:Option V}{s:Bi}(h:IP F G H o s){a:A7}(f:Ey H s o a):H a≠none/\G a=none/\F.H0 a=none:=by
 cases s with
 |un=>cases f
 |J d=>cases f
 |ob ds=>obtain⟨b,xs,AM,A6,AA,B4,BJ⟩:=h;have f:o=some (.ref a):=f;rw[AM]at f;cases f;exact⟨by rw[A6];exact(λz=>nomatch z),AA,B4⟩
 |Ef t=>obtain⟨v,AM,An,BF,EO⟩:=h;obtain⟨u,BD,A1⟩:=f;rw[AM]at BD;cases BD;exact⟨An.some a A1,EO a A1⟩
 |BX n t=>obtain⟨v,AM,⟨An,BF,EO⟩,_⟩:=h;obtain⟨u,BD,A1⟩:=f;rw[AM]at BD;cases BD;exact⟨An.some a A1,EO a A1⟩
def IP.V9{o:Option V}{s:Bi}{a:A7}(h:IP F G H o s)(f:Ey H s o a):Hz H a:=by
 cases s with
 |un=>cases f
 |J _=>cases f
 |ob ob=>
  obtain⟨b,ho,AM,A6,_,_,BJ⟩:=h;have BD:o=some (.ref a):=f;rw[AM]at BD;cases BD;cases ob with
  |lst _=>obtain⟨xs,rfl,_⟩:=BJ;exact .of A6 λ_ z=>nomatch z
  |Ai _ _=>obtain⟨xs,rfl,_⟩:=BJ;exact .of A6 λ_ z=>nomatch z
  |ins _ _ _=>obtain⟨C,Ag,xs,_,rfl,_⟩:=BJ;exact .of A6 λ_ z=>nomatch z
 |Ef t=>obtain⟨v,AM,An,BF,EO⟩:=h;obtain⟨u,BD,A1⟩:=f;rw[AM]at BD;cases BD;exact An.Jh a A1
 |BX n t=>obtain⟨v,AM,⟨An,BF,EO⟩,_⟩:=h;obtain⟨u,BD,A1⟩:=f;rw[AM]at BD;cases BD;exact An.Jh a A1
theorem Rel.V9(r:Rel F G H σ ρ){a:A7}(h:Ca H σ ρ a):Hz H a:=by obtain⟨i,s,o,A9,AM,f⟩:=h;obtain⟨o',BD,q⟩:=r.CE i s A9;rw[AM]at BD;cases BD;exact q.V9 f
theorem Rel.foot(r:Rel F G H σ ρ){a:A7}(h:Ca H σ ρ a):H a≠none/\G a=none/\F.H0 a=none:=by obtain⟨i,s,o,A9,AM,f⟩:=h;obtain⟨o',BD,q⟩:=r.CE i s A9;rw[AM]at BD;cases BD;exact q.foot f
def Rel.over{F':B9}(r:Rel F G H σ ρ)(Am:F'.K=F.K)(kp:FS F' G' H')(BK:Sub G G')(k:∀a,Ca H σ ρ a->H' a=H a/\G' a=none/\F'.H0 a=none)(Ce:F'.pin=F.pin:=by rfl):Rel F' G' H' σ ρ:=by
 have one:∀(i:Nat)(s:Bi),ρ[i]?=some s->∃o,σ[i]?=some o/\IP F' G' H' o s/\(∀a,Ey H' s o a->Ey H s o a):=λi s e=>by
  obtain⟨o,A9,q⟩:=r.CE i s e;obtain⟨An,BF⟩:=q.keep BK λa f=>⟨(k a ⟨i,s,o,e,A9,f⟩).1,(k a ⟨i,s,o,e,A9,f⟩).2.1⟩;refine⟨o,A9,?_,BF⟩;cases s with
  |un=>trivial
  |J d=>obtain⟨v,AM,a⟩:=An;exact⟨v,AM,by rw[Am];exact a⟩
  |ob ds=>obtain⟨a,xs,AM,A6,AA,B4,BJ⟩:=An;exact⟨a,xs,AM,A6,AA,(k a ⟨i,_,o,e,A9,AM⟩).2.2,by rw[Am];exact BJ⟩
  |Ef t=>obtain⟨v,AM,Fe,F3,JM⟩:=An;exact⟨v,AM,by rw[Am];exact Fe,F3,λb A1=>⟨(JM b A1).1,(k b ⟨i,_,o,e,A9,BF b ⟨v,AM,A1⟩⟩).2.2⟩⟩
  |BX n t=>obtain⟨v,AM,⟨Fe,F3,JM⟩,Vk⟩:=An;exact⟨v,AM,⟨by rw[Am];exact Fe,F3,λb A1=>⟨(JM b A1).1,(k b ⟨i,_,o,e,A9,BF b ⟨v,AM,A1⟩⟩).2.2⟩⟩,by rw[Ce];exact Vk⟩
 refine⟨kp,r.len,λi s e=>let⟨o,A9,q,_⟩:=one i s e;⟨o,A9,q⟩,λi j a s s' o o' A9 AM BD Cp f1 f2=>?_⟩;obtain⟨u,DZ,_,Dh⟩:=one i s A9;rw[BD]at DZ;cases DZ;obtain⟨u,Pv,_,RO⟩:=one j s' AM;rw[Cp]at Pv;cases Pv;exact r.N5 i j a s s' o o' A9 AM BD Cp (Dh a f1) (RO a f2)
def Rel.grow(r:Rel F G H σ ρ)(BK:Sub G G')(sh:Sub G' H')(BE:Sub H H')(nw:∀b,Hz H b->G' b=G b):Rel F G' H' σ ρ:=by
 refine r.over rfl ⟨sh,r.kp.EP.trans BK,r.kp.BE.trans BE,λb A1=>?_⟩ BK λa AB=>?_
 .rw[nw b (r.kp.BE.Jh A1)];exact r.kp.new b A1
 .obtain⟨A6,AA,B4⟩:=r.foot AB;refine⟨?_,(nw a (r.V9 AB)).trans AA,B4⟩;cases e:H a with
  |none=>exact absurd e A6
  |some o=>exact BE a o e
def Rel.lay(r:Rel F G H σ ρ){p:A7}{o:Du}(AZ:H p=none):Rel F (upd G p o) (upd H p o) σ ρ:=by have tO:G p=none:=r.kp.sub.gone AZ;refine r.grow (Sub.upd tO) (Sub.both r.kp.sub) (Sub.upd AZ) λb A1=>?_;rw[DV];intro e;subst e;exact A1.1 AZ
def Rel.lay0(r:Rel F G H σ ρ){p:A7}{o:Du}(AZ:H p=none):Rel F G (upd H p o) σ ρ:=
 r.grow (Sub.refl _) (Sub.Zb r.kp.sub (r.kp.sub.gone AZ)) (Sub.upd AZ) λ_ _=>rfl
def Rel.take(r:Rel F G H σ ρ){p:A7}{o:Du}(AZ:H p=some o)(Ad:G p=none)(h0:F.H0 p=none)(no:¬Ca H σ ρ p):Rel F (upd G p o) H σ ρ:=by
 refine r.over rfl ⟨Sub.at r.kp.sub AZ,r.kp.EP.trans (Sub.upd Ad),r.kp.BE,λb A1=>?_⟩ (Sub.upd Ad) λa AB=>?_
 .rw[DV]
  .exact r.kp.new b A1
  .intro e;subst e;exact A1.1 h0
 .obtain⟨A6,AA,B4⟩:=r.foot AB;exact⟨rfl,by rw[DV (λz=>no (by rw[<-z];exact AB))];exact AA,B4⟩
theorem Rel.J(r:Rel F G H σ ρ){i:Nat}{d:D}(e:ρ[i]?=some (.J d)):∃v,σ[i]?=some (some v)/\At F.K G d v:=by obtain⟨o,A9,v,rfl,a⟩:=r.CE i _ e;exact⟨v,A9,a⟩
def Rel.obj(r:Rel F G H σ ρ){i:Nat}{o:KP}(e:ρ[i]?=some (.ob o)):∃a ho,σ[i]?=some (some (.ref a))/\H a=some ho/\G a=none/\F.H0 a=none/\Nm F.K G o ho:=by obtain⟨v,A9,a,ho,rfl,A6,AA,B4,BJ⟩:=r.CE i _ e;exact⟨a,ho,A9,A6,AA,B4,BJ⟩
def Rel.own{G H:AC}{σ :St}{ρ:AG}(r:Rel F G H σ ρ){i:Nat}{ds:List D}(e:ρ[i]?=some (.Bw ds)):∃a xs,σ[i]?=some (some (.ref a))/\H a=some (.lst xs)/\G a=none/\F.H0 a=none/\Aa F.K G ds xs:=by obtain⟨a,ho,A9,A6,AA,B4,xs,rfl,BJ⟩:=r.obj e;exact⟨a,xs,A9,A6,AA,B4,BJ⟩
def get_set{α:Type}{l:List α}{i j:Nat}{x y:α}(e:(l.set i x)[j]?=some y):(i=j/\y=x)\/(i≠j/\l[j]?=some y):=by
 rw[dS]at e;by_cases h:i=j
 .rw[if_pos h]at e
  split at e
  .cases e;exact .inl ⟨h,rfl⟩
  .cases e
 .rw[if_neg h]at e;exact .inr ⟨h,e⟩
def Rel.Z5(r:Rel F G H σ ρ){i:Nat}{s:Bi}{o:Option V}(AD:i<ρ.length)(q:IP F G H o s)(no:∀a,Ey H s o a->∀(j:Nat)(s':Bi)(o':Option V),j≠i->ρ[j]?=some s'-> σ[j]?=some o'->¬Ey H s' o' a):Rel F G H (σ.set i o) (ρ.set i s):=by
 have AJ:i< σ.length:=by rw[r.len];exact AD
 refine⟨r.kp,by simp[r.len],λj s e=>?_,λj k b s1 s2 D8 DG A9 AM BD Cp f1 f2=>?_⟩
 .rcases get_set e with⟨rfl,rfl⟩|⟨ne,e⟩
  .exact⟨o,by simp[AJ],q⟩
  .rw[Rx ne];exact r.CE j s e
 .rcases get_set A9 with⟨BZ,DZ⟩|⟨DT,Ix⟩
  .subst BZ DZ;rw[WD AJ]at BD;cases BD;rcases get_set AM with⟨Bl,Dh⟩|⟨Dx,LD⟩
   .exact Bl
   .rw[Rx Dx]at Cp;exact absurd f2 (no b f1 k s2 DG (Hl Dx) LD Cp)
  .rw[Rx DT]at BD;rcases get_set AM with⟨Bl,Dh⟩|⟨Dx,LD⟩
   .subst Bl Dh;rw[WD AJ]at Cp;cases Cp;exact absurd f1 (no b f2 j s1 D8 (Hl DT) Ix BD)
   .rw[Rx Dx]at Cp;exact r.N5 j k b s1 s2 D8 DG Ix LD BD Cp f1 f2
theorem Rel.set(r:Rel F G H σ ρ){i:Nat}{d:D}{v:V}(AD:i<ρ.length)(a:At F.K G d v):Rel F G H (σ.set i (some v)) (ρ.set i (.J d)):=
 r.Z5 AD ⟨v,rfl,a⟩ λ_ f=>f.elim
def Rel.setB(r:Rel F G H σ ρ){i:Nat}{ob:KP}{a:A7}{ho:Du}(AD:i<ρ.length)(AB:H a=some ho)(Ad:G a=none)(h0:F.H0 a=none)(q:Nm F.K G ob ho)(no:∀(j:Nat)(s:Bi)(o:Option V),j≠i->ρ[j]?=some s-> σ[j]?=some o->¬Ey H s o a):Rel F G H (σ.set i (some (.ref a))) (ρ.set i (.ob ob)):=
 r.Z5 AD ⟨a,ho,rfl,AB,Ad,h0,q⟩ λb f=>by have f:some (V.ref a)=some (.ref b):=f;cases f;exact no
def Rel.abo(r:Rel F G H σ ρ){i:Nat}{ds:List D}{a:A7}{xs:List V}(AD:i<ρ.length)(AB:H a=some (.lst xs))(Ad:G a=none)(h0:F.H0 a=none)(q:Aa F.K G ds xs)(no:∀(j:Nat)(s:Bi)(o:Option V),j≠i->ρ[j]?=some s-> σ[j]?=some o->¬Ey H s o a):Rel F G H (σ.set i (some (.ref a))) (ρ.set i (.Bw ds)):=r.setB AD AB Ad h0 ⟨xs,rfl,q⟩ no
def Rel.bj(r:Rel F G H σ ρ){i:Nat}{s s':Bi}{o:Option V}{a:A7}{ho:Du}(e:ρ[i]?=some s)(B0: σ[i]?=some o)(GA:Ey H s o a)(q:IP F G (upd H a ho) o s')(f:∀b,Ey (upd H a ho) s' o b->Ey H s o b\/¬Ca H σ ρ b) :
  Rel F G (upd H a ho) σ (ρ.set i s'):=by
 have AD:i<ρ.length:=(List.getElem?_eq_some_iff.mp e).1;obtain⟨A6,AA,B4⟩:=r.foot ⟨i,s,o,e,B0,GA⟩;have Kq:∀(j:Nat)(t:Bi),i≠j->ρ[j]?=some t->∃u,σ[j]?=some u/\IP F G (upd H a ho) u t/\(∀b,Ey (upd H a ho) t u b->Ey H t u b):=λj t ne z=>by obtain⟨u,DZ,Dh⟩:=r.CE j t z;have na:¬Ey H t u a:=λw=>ne (r.N5 i j a s t o u e z B0 DZ GA w);obtain⟨An,BF⟩:=Dh.keep (H':=upd H a ho) (Sub.refl G) λb K_=>⟨DV λw=>na (w▸K_),(Dh.foot K_).2.1⟩;exact⟨u,DZ,An,BF⟩
 refine⟨⟨Sub.Zb r.kp.sub AA,r.kp.EP,λc u z=>?_,r.kp.new⟩,by simp[r.len],λj t z=>?_,λj k c s1 s2 D8 DG BD Cp El N7 f1 f2=>?_⟩
 .rw[DV (K7 z B4)];exact r.kp.BE c u z
 .rcases get_set z with⟨rfl,rfl⟩|⟨ne,z⟩
  .exact⟨o,B0,q⟩
  .obtain⟨u,DZ,Dh,_⟩:=Kq j t ne z;exact⟨u,DZ,Dh⟩
 .rcases get_set BD with⟨BZ,DZ⟩|⟨DT,Hg⟩
  .subst BZ DZ;rw[B0]at El;cases El;rcases get_set Cp with⟨Bl,Dh⟩|⟨Dx,LC⟩
   .exact Bl
   .obtain⟨u,Ix,_,LD⟩:=Kq k s2 Dx LC;rw[N7]at Ix;cases Ix;have g2:=LD c f2;rcases f c f1 with g1|g1
    .exact r.N5 i k c s s2 o DG e LC B0 N7 g1 g2
    .exact absurd ⟨k,s2,DG,LC,N7,g2⟩ g1
  .obtain⟨u,Ix,_,LD⟩:=Kq j s1 DT Hg;rw[El]at Ix;cases Ix;have g1:=LD c f1;rcases get_set Cp with⟨Bl,Dh⟩|⟨Dx,LC⟩
   .subst Bl Dh;rw[B0]at N7;cases N7;rcases f c f2 with g2|g2
    .exact r.N5 j i c s1 s D8 o Hg e El B0 g1 g2
    .exact absurd ⟨j,s1,D8,Hg,El,g1⟩ g2
   .obtain⟨u,VL,_,afQ⟩:=Kq k s2 Dx LC;rw[N7]at VL;cases VL;exact r.N5 j k c s1 s2 D8 DG Hg LC El N7 g1 (afQ c f2)
def Rel.SN(r:Rel F G H σ ρ){i:Nat}{o o':KP}{a:A7}{ho:Du}(e:ρ[i]?=some (.ob o))(B0: σ[i]?=some (some (.ref a)))(q:Nm F.K G o' ho) :
  Rel F G (upd H a ho) σ (ρ.set i (.ob o')):=by
 obtain⟨b,age,A9,A6,AA,B4,BJ⟩:=r.obj e;rw[B0]at A9;have BV:b=a:=by cases A9;rfl
 subst BV;exact r.bj e B0 rfl ⟨b,ho,rfl,Dz,AA,B4,q⟩ λc f=>.inl f
def Rel.mut(r:Rel F G H σ ρ){i:Nat}{ds ds':List D}{a:A7}{ys:List V}(e:ρ[i]?=some (.Bw ds))(B0: σ[i]?=some (some (.ref a)))(q:Aa F.K G ds' ys) :
  Rel F G (upd H a (.lst ys)) σ (ρ.set i (.Bw ds')):=r.SN e B0 ⟨ys,rfl,q⟩
def Rel.LQ(r:Rel F G H σ ρ){i:Nat}{o:KP}(e:ρ[i]?=some (.ob o)):∃G',Rel F G' H σ (ρ.set i (.J (O3 o)))/\Sub G G':=by
 have AD:i<ρ.length:=(List.getElem?_eq_some_iff.mp e).1;obtain⟨a,ho,A9,A6,AA,B4,BJ⟩:=r.obj e;have un:Rel F G H σ (ρ.set i .un):=by have z:=r.Z5 (s:=.un) (o:=some (.ref a)) AD trivial λ_ f=>f.elim;rw[CT.ny A9]at z;exact z
 have no:¬Ca H σ (ρ.set i .un) a:=λ⟨j,s,u,Ix,LD,VL⟩=>by
  rcases get_set Ix with⟨_,z⟩|⟨ne,Ix⟩
  .subst z;exact VL
  .exact ne (r.N5 i j a _ s _ u e Ix A9 LD rfl VL)
 have B7:=un.take A6 AA B4 no;have Dy:=B7.Z5 (i:=i) (s:=.J (O3 o)) (o:=some (.ref a)) (by simpa using AD) ⟨.ref a,rfl,(BJ.mono (Sub.upd AA)).at Dz⟩ λ_ f=>f.elim;rw[CT.ny A9,List.set_set]at Dy;exact⟨upd G a ho,Dy,Sub.upd AA⟩
end
abbrev Ab:=AG->R D
abbrev CN:=AG->R Bool
abbrev Au:=AG->R (List D)
inductive Fk where
 |Ay (ρ:AG)|ES (d:D)|JG (ds:List D)|Fn (ρ:AG)|Dr (ρ:AG)|L8 (t:T)|rs (d:D) (ρ:AG)
abbrev Ao:=AG->R Fk
def NF(F:B9)(c:Str):Prop:=∀G' H',FS F G' H'->F.EX c H'
def J_(F:B9)(G H:AC)(σ :St)(ρ:AG)(Q:Cc):R D->Prop
 |.ok d=>∀v H' G',Rel F G' H' σ ρ->C6 G H G' H'->At F.K G' d v->Q v H'
 |.exc c=>NF F c
 |.bad=>False
def Sc(F:B9)(G H:AC)(σ :St)(ρ:AG)(Q:Bool->AC->Prop):R Bool->Prop
 |.ok b=>∀H' G',Rel F G' H' σ ρ->C6 G H G' H'->Q b H'
 |.exc c=>NF F c
 |.bad=>False
def wo(F:B9)(G H:AC)(σ :St)(ρ:AG)(Q:List V->AC->Prop):R (List D)->Prop
 |.ok ds=>∀vs H' G',Rel F G' H' σ ρ->C6 G H G' H'->Aa F.K G' ds vs->Q vs H'
 |.exc c=>NF F c
 |.bad=>False
noncomputable def wv(F:B9)(G H:AC)(σ :St)(ρ:AG)(Q:Cc):R (List D)->Prop
 |.ok ds=>∀a xs H' G',Rel F G' H' σ ρ->C6 G H G' H'->H a=none->H' a=some (.lst xs)->G' a=none->Aa F.K G' ds xs->Q (.ref a) H'
 |.exc c=>NF F c
 |.bad=>False
noncomputable def HL(F:B9)(G:AC)(CY:Ends):R Fk->Prop
 |.ok (.Ay BL)=>∀ σ' G' H',Rel F G' H' σ' BL->Sub G G'->CY.Ay σ' H'
 |.ok (.Fn BL)=>∀ σ' G' H',Rel F G' H' σ' BL->Sub G G'->CY.Fn σ' H'
 |.ok (.Dr BL)=>∀ σ' G' H',Rel F G' H' σ' BL->Sub G G'->CY.Dr σ' H'
 |.ok (.ES d)=>∀v G' H',FS F G' H'->At F.K G' d v->CY.ES v H'
 |.ok (.JG ds)=>∀a xs G' H',FS F G' H'->G' a=none->F.H0 a=none->H' a=some (.lst xs)->Aa F.K G' ds xs->CY.ES (.ref a) H'
 |.ok (.L8 t)=>∀v G' H',FS F G' H'->MH F G' H' t v->CY.ES v H'
 |.ok (.rs d BL)=>∀v σ' G' H',Rel F G' H' σ' BL->At F.K G' d v->CY.ES v H'
 |.exc c=>NF F c
 |.bad=>False
def Cv(F:B9)(m:Ab):TE:=λσ H Q=>∃G ρ,Rel F G H σ ρ/\J_ F G H σ ρ Q (m ρ)
def H5(F:B9)(m:CN):TT:=λσ H Q=>∃G ρ,Rel F G H σ ρ/\Sc F G H σ ρ Q (m ρ)
def Ew(F:B9)(m:Au):Ez:=λσ H Q=>∃G ρ,Rel F G H σ ρ/\wo F G H σ ρ Q (m ρ)
def Hf(F:B9)(m:Au):TE:=λσ H Q=>∃G ρ,Rel F G H σ ρ/\wv F G H σ ρ Q (m ρ)
def Fj(F:B9)(m:Ao):FJ:=λCY σ H=>∃G ρ,Rel F G H σ ρ/\HL F G CY (m ρ)
section
variable{F:B9}{G Af H H1:AC}{σ :St}{ρ:AG}
def J_.mono{Q:Cc}(s:C6 G H Af H1):∀{r:R D},J_ F G H σ ρ Q r->J_ F Af H1 σ ρ Q r
 |.ok _,h=>λv H' G' r BK a=>h v H' G' r (s.trans BK) a
 |.exc _,h=>h
 |.bad,h=>h
def Sc.mono{Q:Bool->AC->Prop}(s:C6 G H Af H1):∀{r:R Bool},Sc F G H σ ρ Q r->Sc F Af H1 σ ρ Q r
 |.ok _,h=>λH' G' r BK=>h H' G' r (s.trans BK)
 |.exc _,h=>h
 |.bad,h=>h
def HL.mono{CY:Ends}(s:Sub G Af):∀{r:R Fk},HL F G CY r->HL F Af CY r
 |.ok (.Ay _),h=>λσ' G' H' r BK=>h σ' G' H' r (s.trans BK)
 |.ok (.Fn _),h=>λσ' G' H' r BK=>h σ' G' H' r (s.trans BK)
 |.ok (.Dr _),h=>λσ' G' H' r BK=>h σ' G' H' r (s.trans BK)
 |.ok (.ES _),h=>h
 |.ok (.JG _),h=>h
 |.ok (.L8 _),h=>h
 |.ok (.rs _ _),h=>h
 |.exc _,h=>h
 |.bad,h=>h
end
abbrev Ec(t' t:TE):Prop:=∀ σ H Q,t' σ H Q->t σ H Q
abbrev Oz(t' t:TT):Prop:=∀ σ H Q,t' σ H Q->t σ H Q
abbrev eD(t' t:Ez):Prop:=∀ σ H Q,t' σ H Q->t σ H Q
abbrev IL(t' t:FJ):Prop:=∀CY σ H,t' CY σ H->t CY σ H
def A0(i:Nat):Ab:=λρ=>match ρ[i]? with
 |some (.J d)=>.ok d
 |_=>.bad
def A4(d:D):Ab:=λ_=>.ok d
section
variable{F:B9}
def vS(i:Nat):Ec (Cv F (A0 i)) (Va i):=by
 rintro σ H Q ⟨G,ρ,r,h⟩;unfold A0 at h;cases e:ρ[i]? with
 |none=>rw[e]at h;cases h
 |some s=>
  rw[e]at h;cases s with
  |un=>cases h
  |ob _=>cases h
  |Ef _=>cases h
  |BX _ _=>cases h
  |J d=>obtain⟨v,A9,a⟩:=r.J e;exact⟨v,A9,h v H G r (C6.refl _ _) a⟩
def Uk{d:D}{v:V}(a:∀G,At F.K G d v):Ec (Cv F (A4 d)) (RH v):=by rintro σ H Q ⟨G,ρ,r,h⟩;exact h v H G r (C6.refl _ _) (a G)
def A3(f:D->D->R D)(a b:Ab):Ab:=λρ=>(a ρ).bind λx=>(b ρ).bind λy=>f x y
def HU(F:B9)(r:Ed)(f:D->D->R D):Prop:=∀ σ ρ G H x y Ag Gc Q,Rel F G H σ ρ->At F.K G Ag x->At F.K G Gc y->J_ F G H σ ρ Q (f Ag Gc)->r x y H Q
def YB{r:Ed}{f:D->D->R D}{ma Gr:Ab}(ho:HU F r f):Ec (Cv F (A3 f ma Gr)) (VZ r (Cv F ma) (Cv F Gr)):=by rintro σ H Q ⟨G,ρ,r,h⟩;unfold A3 at h;refine⟨G,ρ,r,?_⟩;refine rb h λAg B0 h x H1 Af AL s1 Bu=>?_;refine⟨Af,ρ,AL,?_⟩;refine rb h λGc BV h y Az Cz B7 s2 Cs=>?_;exact ho σ ρ Cz Az x y Ag Gc Q B7 (Bu.mono s2.g) Cs (h.mono (s1.trans s2))
def Cj(f:D->R D)(a:Ab):Ab:=λρ=>(a ρ).bind f
def g9(F:B9)(r:V->AC->Cc->Prop)(f:D->R D):Prop:=∀ σ ρ G H x Ag Q,Rel F G H σ ρ->At F.K G Ag x->J_ F G H σ ρ Q (f Ag)->r x H Q
def vR{r:V->AC->Cc->Prop}{f:D->R D}{ma:Ab}(ho:g9 F r f):Ec (Cv F (Cj f ma)) (oY r (Cv F ma)):=by rintro σ H Q ⟨G,ρ,r,h⟩;unfold Cj at h;refine⟨G,ρ,r,?_⟩;refine rb h λAg B0 h x H1 Af AL s1 Bu=>?_;exact ho σ ρ Af H1 x Ag Q AL Bu (h.mono s1)
def AE:Au:=λ_=>.ok []
def A2(a:Ab)(r:Au):Au:=λρ=>(a ρ).bind λx=>(r ρ).bind λxs=>.ok (x::xs)
def vx:eD (Ew F AE) Yi:=by rintro σ H Q ⟨G,ρ,r,h⟩;exact h [] H G r (C6.refl _ _) .nil
def u3{ma:Ab}{ZL:Au}:eD (Ew F (A2 ma ZL)) (n4 (Cv F ma) (Ew F ZL)):=by rintro σ H Q ⟨G,ρ,r,h⟩;unfold A2 at h;refine⟨G,ρ,r,?_⟩;refine rb h λAg B0 h x H1 Af AL s1 Bu=>?_;refine⟨Af,ρ,AL,?_⟩;refine rb h λGc BV h y Az Cz B7 s2 Cs=>?_;exact h (x::y) Az Cz B7 (s1.trans s2) (.cons (Bu.mono s2.g) Cs)
def CP(m:Au):Ab:=λρ=>(m ρ).bind λxs=>if xs.length<=1000000 then .ok (.tup xs)else .bad
def vP{m:Au}:Ec (Cv F (CP m)) (oX (Ew F m)):=by
 rintro σ H Q ⟨G,ρ,r,h⟩;unfold CP at h;refine⟨G,ρ,r,?_⟩;refine rb h λds B0 h vs H1 Af AL s1 a=>?_;by_cases AN:ds.length<=1000000
 .rw[if_pos AN]at h;refine⟨by rw[<-a.length];exact FT AN (by decide),λp AZ=>?_⟩;refine h (.ref p) _ _ (AL.lay AZ) (s1.trans (C6.lay AL.kp.sub AZ)) ?_;simp only[At];exact⟨p,vs,rfl,Dz,a.mono (Sub.upd (AL.kp.sub.gone AZ))⟩
 .rw[if_neg AN]at h;cases h
theorem Ca.some{G H:AC}{σ :St}{ρ:AG}(r:Rel F G H σ ρ){a:A7}(h:Ca H σ ρ a):∃xs,H a=some xs:=by
 cases e:H a with
 |none=>exact absurd e (r.foot h).1
 |some o=>exact⟨o,rfl⟩
def Ca.back{G H H':AC}{σ :St}{ρ:AG}(r:Rel F G H σ ρ)(s:Sub H H'){a:A7}(h:Ca H' σ ρ a):Ca H σ ρ a:=by
 obtain⟨i,CE,o,A9,AM,f⟩:=h;refine⟨i,CE,o,A9,AM,?_⟩;obtain⟨o',BD,q⟩:=r.CE i CE A9;rw[AM]at BD;cases BD;exact(q.keep (G':=G) (H':=H') (Sub.refl _) λb K_=>⟨by
  cases e:H b with
  |none=>exact absurd e (q.foot K_).1
  |some u=>exact s b u e,(q.foot K_).2.1⟩).2 a f
def Ca.fresh{G H H':AC}{σ :St}{ρ:AG}(r:Rel F G H σ ρ)(s:Sub H H'){a:A7}(n:H a=none):¬Ca H' σ ρ a:=λh=>(r.foot (h.back r s)).1 n
def lim(xs:List D):R (List D):=if xs.length<=1000000 then .ok xs else .bad
def C4(m:Au):Au:=λρ=>(m ρ).bind lim
def vq{m:Au}:Ec (Hf F (C4 m)) (oS (Ew F m)):=by
 rintro σ H Q ⟨G,ρ,r,h⟩;unfold C4 lim at h;refine⟨G,ρ,r,?_⟩;refine rb h λds B0 h vs H1 Af AL s1 a=>?_;by_cases AN:ds.length<=1000000
 .rw[if_pos AN]at h;refine⟨by rw[<-a.length];exact FT AN (by decide),λp AZ=>?_⟩;exact h p vs _ Af (AL.lay0 AZ) (s1.trans (C6.lay0 AZ)) (s1.h.gone AZ) Dz (AL.kp.sub.gone AZ) a
 .rw[if_neg AN]at h;cases h
def BH(m:Au):Ab:=λρ=>(m ρ).bind λxs=>.ok (.lst xs)
def ub{m:Au}:Ec (Cv F (BH m)) (Hf F m):=by rintro σ H Q ⟨G,ρ,r,h⟩;unfold BH at h;refine⟨G,ρ,r,?_⟩;refine rb h λds B0 h a xs H' G' BS s' AV AB Ad q=>?_;refine h (.ref a) H' _ (BS.take AB Ad (r.kp.BE.gone AV) (Ca.fresh r s'.h AV)) (s'.put AV Ad) ?_;simp only[At];exact⟨a,xs,rfl,Dz,q.mono (Sub.upd Ad)⟩
def Mj:D->R Bool
 |.AO b=>.ok b
 |_=>.bad
def Ah(m:Ab):CN:=λρ=>(m ρ).bind Mj
def YA{m:Ab}:Oz (H5 F (Ah m)) (cv (Cv F m)):=by
 rintro σ H Q ⟨G,ρ,r,h⟩;unfold Ah at h;refine⟨G,ρ,r,?_⟩;refine rb h λd B0 h x H1 Af AL s1 Bu=>?_
 cases d<;>first
  |(cases h)
  |(simp only[At]at Bu;exact⟨_,Bu,h H1 Af AL s1⟩)
def iS{m:Ab}:Oz (H5 F (Ah m)) (c8 (Cv F m)):=YA
def Eu(a b:CN):CN:=λρ=>(a ρ).bind λc=>if c=true then b ρ else .ok false
def GD(a b:CN):CN:=λρ=>(a ρ).bind λc=>if c=true then .ok true else b ρ
def Gi(a:CN):CN:=λρ=>(a ρ).bind λc=>.ok (!c)
def uS{a b:CN}:Oz (H5 F (Eu a b)) (n2 (H5 F a) (H5 F b)):=by
 rintro σ H Q ⟨G,ρ,r,h⟩;unfold Eu at h;refine⟨G,ρ,r,?_⟩;refine rb h λc B0 h H1 Af AL s1=>?_;cases c with
 |true=>exact⟨Af,ρ,AL,Sc.mono s1 h⟩
 |false=>exact h H1 Af AL s1
def w1{a b:CN}:Oz (H5 F (GD a b)) (oW (H5 F a) (H5 F b)):=by
 rintro σ H Q ⟨G,ρ,r,h⟩;unfold GD at h;refine⟨G,ρ,r,?_⟩;refine rb h λc B0 h H1 Af AL s1=>?_;cases c with
 |true=>exact h H1 Af AL s1
 |false=>exact⟨Af,ρ,AL,Sc.mono s1 h⟩
def vy{a:CN}:Oz (H5 F (Gi a)) (oU (H5 F a)):=by
 rintro σ H Q ⟨G,ρ,r,h⟩;unfold Gi at h;refine⟨G,ρ,r,?_⟩;cases B0:a ρ with
 |bad=>rw[B0]at h;cases h
 |exc c=>rw[B0]at h;exact h
 |ok c=>rw[B0,R.EV]at h;exact h
def OY(a b:Ab):Ab:=λρ=>(a ρ).bind λx=>(Mj x).bind λc=>if c=true then b ρ else .ok (.AO false)
def YL(a:Ab):Ab:=λρ=>(a ρ).bind λx=>(Mj x).bind λc=>.ok (.AO (!c))
def uT{a b:Ab}:Ec (Cv F (OY a b)) (n3 (Cv F a) (Cv F b)):=by
 rintro σ H Q ⟨G,ρ,r,h⟩;unfold OY at h;refine⟨G,ρ,r,?_⟩;refine rb h λd B0 h x H1 Af AL s1 Bu=>?_;cases d with
 |AO c=>
  simp only[At]at Bu;refine⟨c,Bu,?_⟩;cases c with
  |true=>exact⟨Af,ρ,AL,J_.mono s1 h⟩
  |false=>exact h _ H1 Af AL s1 (by simp only[At])
 |_=>cases h
def vz{a:Ab}:Ec (Cv F (YL a)) (oV (Cv F a)):=by
 rintro σ H Q ⟨G,ρ,r,h⟩;unfold YL at h;refine⟨G,ρ,r,?_⟩;refine rb h λd B0 h x H1 Af AL s1 Bu=>?_;cases d with
 |AO c=>simp only[At]at Bu;exact⟨c,Bu,h _ H1 Af AL s1 (by simp only[At])⟩
 |_=>cases h
def Ki(c:CN)(a b:Ab):Ab:=λρ=>(c ρ).bind λk=>if k=true then a ρ else b ρ
def vk{c:CN}{a b:Ab}:Ec (Cv F (Ki c a b)) (oR (H5 F c) (Cv F a) (Cv F b)):=by
 rintro σ H Q ⟨G,ρ,r,h⟩;unfold Ki at h;refine⟨G,ρ,r,?_⟩;refine rb h λk B0 h H1 Af AL s1=>?_;cases k with
 |true=>exact⟨Af,ρ,AL,J_.mono s1 h⟩
 |false=>exact⟨Af,ρ,AL,J_.mono s1 h⟩
def CK:Ao:=λρ=>.ok (.Ay ρ)
def AP(a b:Ao):Ao:=λρ=>(a ρ).bind λf=>match f with
 |.Ay BL=>b BL
 |f=>.ok f
def vw:IL (Fj F CK) c5:=by rintro CY σ H ⟨G,ρ,r,h⟩;exact h σ G H r (Sub.refl _)
def w7{a b:Ao}:IL (Fj F (AP a b)) (c6 (Fj F a) (Fj F b)):=by
 rintro CY σ H ⟨G,ρ,r,h⟩;unfold AP at h;refine⟨G,ρ,r,?_⟩;refine rb h λf B0 h=>?_;cases f with
 |Ay BL=>exact λσ' G' H' BS s'=>⟨G',BL,BS,HL.mono s' h⟩
 |ES d=>exact h
 |JG d=>exact h
 |Fn d=>exact h
 |Dr d=>exact h
 |L8 d=>exact h
 |rs d _=>exact h
def CC(a:Ab):Ao:=λρ=>(a ρ).bind λd=>.ok (.ES d)
def w4{a:Ab}:IL (Fj F (CC a)) (Yj (Cv F a)):=by
 rintro CY σ H ⟨G,ρ,r,h⟩;unfold CC at h;refine⟨G,ρ,r,?_⟩;cases B0:a ρ with
 |bad=>rw[B0]at h;cases h
 |exc c=>rw[B0]at h;exact h
 |ok d=>rw[B0,R.EV]at h;exact λv H' G' BS s' a=>h v G' H' BS.kp a
def GT(a:Au):Ao:=λρ=>(a ρ).bind λd=>.ok (.JG d)
def w5{a:Au}:IL (Fj F (GT a)) (Yj (Hf F a)):=by
 rintro CY σ H ⟨G,ρ,r,h⟩;unfold GT at h;refine⟨G,ρ,r,?_⟩;cases B0:a ρ with
 |bad=>rw[B0]at h;cases h
 |exc c=>rw[B0]at h;exact h
 |ok d=>rw[B0,R.EV]at h;exact λa xs H' G' BS s' A6 AA B4 BJ=>h a xs G' H' BS.kp B4 (r.kp.BE.gone A6) AA BJ
def Je(i:Nat):Au:=λρ=>match ρ[i]? with
 |some (.ob (.lst d))=>.ok d
 |_=>.bad
def w6(i:Nat):IL (Fj F (GT (Je i))) (Yj (Va i)):=by
 rintro CY σ H ⟨G,ρ,r,h⟩;unfold GT Je at h;cases e:ρ[i]? with
 |none=>rw[e]at h;cases h
 |some s=>
  rw[e]at h;cases s with
  |un=>cases h
  |J _=>cases h
  |Ef _=>cases h
  |BX _ _=>cases h
  |ob o=>
   cases o with
   |lst ds=>obtain⟨a,xs,A9,A6,AA,B4,BJ⟩:=r.own e;exact⟨.ref a,A9,h a xs G H r.kp AA B4 A6 BJ⟩
   |Ai _ _=>cases h
   |ins _ _ _=>cases h
def C8(c:CN)(a b:Ao):Ao:=λρ=>(c ρ).bind λk=>if k=true then a ρ else b ρ
def vl{c:CN}{a b:Ao}:IL (Fj F (C8 c a b)) (cy (H5 F c) (Fj F a) (Fj F b)):=by
 rintro CY σ H ⟨G,ρ,r,h⟩;unfold C8 at h;refine⟨G,ρ,r,?_⟩;refine rb h λk B0 h H1 Af AL s1=>?_;cases k with
 |true=>exact⟨Af,ρ,AL,HL.mono s1.g h⟩
 |false=>exact⟨Af,ρ,AL,HL.mono s1.g h⟩
def BC(i:Nat)(d:D)(ρ:AG):R AG:=if i<ρ.length then .ok (ρ.set i (.J d))else .bad
def B5(i:Nat)(a:Ab):Ao:=λρ=>(a ρ).bind λd=>(BC i d ρ).bind λBL=>.ok (.Ay BL)
def vJ{i:Nat}{a:Ab}:IL (Fj F (B5 i a)) (MA (Cv F a) (Ie i)):=by
 rintro CY σ H ⟨G,ρ,r,h⟩;unfold B5 BC at h;refine⟨G,ρ,r,?_⟩;refine rb h λd B0 h v H1 Af AL s1 B8=>?_;by_cases AD:i<ρ.length
 .rw[if_pos AD]at h;exact h _ Af H1 (AL.set AD B8) s1.g
 .rw[if_neg AD]at h;cases h
def E_(i:Nat)(a:Au):Ao:=λρ=>(a ρ).bind λds=>if i<ρ.length then .ok (.Ay (ρ.set i (.Bw ds)))else .bad
def aG{i:Nat}{a:Au}:IL (Fj F (E_ i a)) (MA (Hf F a) (Ie i)):=by
 rintro CY σ H ⟨G,ρ,r,h⟩;unfold E_ at h;refine⟨G,ρ,r,?_⟩;refine rb h λds B0 h b xs H1 Af AL s1 A6 AA B4 BJ=>?_;by_cases AD:i<ρ.length
 .rw[if_pos AD]at h;exact h _ Af H1 (AL.abo AD AA B4 (r.kp.BE.gone A6) BJ λj A5 o _ A9 AM f=>Ca.fresh r s1.h A6 ⟨j,A5,o,A9,AM,f⟩) s1.g
 .rw[if_neg AD]at h;cases h
def Ka(i:Nat)(ρ:AG):AG:=match ρ[i]? with
 |some (.ob o)=>ρ.set i (.J (O3 o))
 |_=>ρ
theorem Rel.Ka{G H:AC}{σ :St}{ρ:AG}(r:Rel F G H σ ρ)(i:Nat):∃G',Rel F G' H σ (CT.Ka i ρ)/\Sub G G':=by
 unfold CT.Ka;cases e:ρ[i]? with
 |none=>exact⟨G,r,Sub.refl _⟩
 |some s=>
  cases s with
  |un=>exact⟨G,r,Sub.refl _⟩
  |J _=>exact⟨G,r,Sub.refl _⟩
  |Ef _=>exact⟨G,r,Sub.refl _⟩
  |BX _ _=>exact⟨G,r,Sub.refl _⟩
  |ob o=>exact r.LQ e
def OZ(i:Nat)(m:Ao):Ao:=λρ=>m (Ka i ρ)
def uB{i:Nat}{m:Ao}:IL (Fj F (OZ i m)) (Fj F m):=by rintro CY σ H ⟨G,ρ,r,h⟩;obtain⟨Af,AL,s1⟩:=r.Ka i;exact⟨Af,_,AL,HL.mono s1 h⟩
def H3:D->Bool
 |.non=>true|.AO _=>true|.int _=>true|.str _=>true
 |_=>false
def At.nc{K:A_}{G G':AC}{d:D}{v:V}(h:H3 d=true)(a:At K G d v):At K G' d v:=by
 cases d<;>first
  |(simp only[At]at a |-;exact a)
  |(cases h)
def NA:Bi->Bi
 |.ob o=>.J (O3 o)
 |.Ef t=>.J (toD t)
 |.BX _ t=>.J (toD t)
 |s=>s
def EI(ρ:AG):AG:=ρ.map NA
open Classical in
noncomputable def Hq(σ :St)(ρ:AG)(G H:AC):AC:=λb=>if Ca H σ ρ b then H b else G b
def VD{G H:AC}{σ :St}{ρ:AG}(r:Rel F G H σ ρ):Sub G (Hq σ ρ G H):=λb o e=>by
 unfold Hq
 split
 .exact r.kp.sub b o e
 .exact e
def Nd{G H:AC}{σ :St}{ρ:AG}{b:A7}(h:Ca H σ ρ b):Hq σ ρ G H b=H b:=by unfold Hq;rw[if_pos h]
def tE{H:AC}{ρ:AG}{i:Nat}{s:Bi}(e:(EI ρ)[i]?=some s)(o:Option V)(a:A7):¬Ey H s o a:=by
 unfold EI at e;rw[EL]at e;cases AM:ρ[i]? with
 |none=>rw[AM]at e;cases e
 |some t=>rw[AM]at e;have A5:NA t=s:=Eh e;subst A5;cases t<;>exact λz=>z
def Rel.plus{G H:AC}{σ :St}{ρ:AG}(r:Rel F G H σ ρ):Rel F (Hq σ ρ G H) H σ (EI ρ):=by
 have BK:=VD r;refine⟨⟨λb o e=>?_,r.kp.EP.trans BK,r.kp.BE,λb A1=>?_⟩,by simp[EI,r.len],λi s e=>?_,λi j a s s' o o' A9 _ _ _ f _=>absurd f (tE A9 o a)⟩
 .unfold Hq at e
  split at e
  .exact e
  .exact r.kp.sub b o e
 .unfold Hq
  split
  .rename_i z;exact absurd (r.foot z).2.2 A1.1
  .exact r.kp.new b A1
 .unfold EI at e;rw[EL]at e;cases A9:ρ[i]? with
  |none=>rw[A9]at e;cases e
  |some t=>
   rw[A9]at e;have A5:NA t=s:=Eh e;obtain⟨o,AM,q⟩:=r.CE i t A9;refine⟨o,AM,?_⟩;subst A5;cases t with
   |un=>trivial
   |J d=>obtain⟨v,BD,a⟩:=q;exact⟨v,BD,a.mono BK⟩
   |ob ds=>obtain⟨a,ho,BD,A6,AA,B4,BJ⟩:=q;subst BD;exact⟨.ref a,rfl,(BJ.mono BK).at (by rw[Nd (.ob A9 AM)];exact A6)⟩
   |Ef t=>obtain⟨v,BD,q⟩:=q;exact⟨v,BD,q.at_.view BK λa AB=>Nd ⟨i,_,o,A9,AM,v,BD,AB⟩⟩
   |BX n t=>obtain⟨v,BD,q,_⟩:=q;exact⟨v,BD,q.at_.view BK λa AB=>Nd ⟨i,_,o,A9,AM,v,BD,AB⟩⟩
def Rel.back{G H G' H':AC}{σ :St}{ρ:AG}(r:Rel F G H σ ρ)(BS:Rel F G' H' σ (EI ρ))(s:Sub (Hq σ ρ G H) G'):Rel F G H' σ ρ:=
 r.over rfl ⟨(VD r).trans (s.trans BS.kp.sub),r.kp.EP,BS.kp.BE,r.kp.new⟩ (Sub.refl _) λa AB=>by
   obtain⟨A6,AA,B4⟩:=r.foot AB;refine⟨?_,AA,B4⟩;cases e:H a with
   |none=>exact absurd e A6
   |some o=>exact BS.kp.sub _ _ (s _ _ (by rw[Nd AB];exact e))
def ZW(d:D):R D:=if H3 d=true then .ok d else .bad
def Ly(m:Ab):Ab:=λρ=>(m (EI ρ)).bind ZW
def uU{m:Ab}:Ec (Cv F (Ly m)) (Cv F m):=by
 rintro σ H Q ⟨G,ρ,r,h⟩;refine⟨Hq σ ρ G H,EI ρ,r.plus,?_⟩;unfold Ly ZW at h;refine rb h λd B0 h v H' G' BS s' a=>?_;by_cases hd:H3 d=true
 .rw[if_pos hd]at h;exact h v H' G (r.back BS s'.g) ⟨Sub.refl _,s'.h,λ_ _=>rfl⟩ (a.nc hd)
 .rw[if_neg hd]at h;cases h
def GC(m:CN):CN:=λρ=>m (EI ρ)
def uZ{m:CN}:Oz (H5 F (GC m)) (H5 F m):=by
 rintro σ H Q ⟨G,ρ,r,h⟩;refine⟨Hq σ ρ G H,EI ρ,r.plus,?_⟩;unfold GC at h;cases B0:m (EI ρ)with
 |bad=>rw[B0]at h;cases h
 |exc c=>rw[B0]at h;exact h
 |ok d=>rw[B0]at h;exact λH' G' BS s'=>h H' G (r.back BS s'.g) ⟨Sub.refl _,s'.h,λ_ _=>rfl⟩
end
section
variable{F:B9}
def Hn(G H:AC):AC:=λb=>match H b with
 |some (.tup xs)=>some (.tup xs)
 |_=>G b
def e5{G H:AC}{b:A7}{xs:List V}(e:H b=some (.tup xs)):Hn G H b=some (.tup xs):=by unfold Hn;rw[e]
def gM{G H:AC}{b:A7}(h:Hz H b):Hn G H b=G b:=by
 unfold Hn
 split
 .rename_i xs e;exact absurd e (h.2 xs)
 .rfl
def Xc{G H:AC}(s:Sub G H):Sub G (Hn G H):=λb o e=>by
 unfold Hn
 split
 .rename_i xs z;rw[s b o e]at z;rw[z]
 .exact e
def qp{G H:AC}(s:Sub G H):Sub (Hn G H) H:=λb o e=>by
 unfold Hn at e
 split at e
 .rename_i xs z;rw[z];exact e
 .exact s b o e
theorem Rel.Hn{G H:AC}{σ :C1.St}{ρ:AG}(r:Rel F G H σ ρ):Rel F (Hn G H) H σ ρ:=r.grow (Xc r.kp.sub) (qp r.kp.sub) (Sub.refl _) λb h=>gM h
theorem C6.Hn{G H:AC}(s:Sub G H):C6 G H (Hn G H) H:=⟨Xc s,Sub.refl _,λb h=>gM h⟩
structure LJ(K:A_)(DD:It)(ds:List D)(G:AC):Prop where
 go:∀(i:Nat)(H:AC),Sub G H->i<ds.length->DD.go i H
 IX:∀(i:Nat)(H:AC)(x:V)(H':AC),Sub G H->i<ds.length->DD.IX i H x H'->∃d,ds[i]?=some d/\
  ((H'=H/\∀Af,Sub G Af->(∀b ys,H b=some (.tup ys)->Af b=some (.tup ys))->At K Af d x)\/∃p xs A5,H p=none/\H'=upd H p (.tup xs)/\x=.ref p/\d=.tup A5/\∀Af,Sub G Af->(∀b ys,H b=some (.tup ys)->Af b=some (.tup ys))->Aa K Af A5 xs)
 stop:∀(H:AC),Sub G H->DD.stop ds.length H
def wt(F:B9)(G H:AC)(σ :St)(ρ:AG)(Q:It->AC->Prop):R (List D)->Prop
 |.ok ds=>∀DD H' G',Rel F G' H' σ ρ->C6 G H G' H'->LJ F.K DD ds G'->Q DD H'
 |.exc c=>NF F c
 |.bad=>False
def KB(F:B9)(m:Au):TI:=λσ H Q=>∃G ρ,Rel F G H σ ρ/\wt F G H σ ρ Q (m ρ)
abbrev Md(t' t:TI):Prop:=∀ σ H Q,t' σ H Q->t σ H Q
def LJ.turn{DD:It}{ds:List D}{G Af H H':AC}{σ :St}{ρ:AG}{i:Nat}{x:V}(t:LJ F.K DD ds G)(r:Rel F Af H σ ρ)(s:Sub G Af)(AD:i<ds.length)(y:DD.IX i H x H') :
  ∃d G',ds[i]?=some d/\Rel F G' H' σ ρ/\C6 Af H G' H'/\At F.K G' d x:=by
 obtain⟨d,e,h⟩:=t.IX i H x H' (s.trans r.kp.sub) AD y;rcases h with⟨rfl,a⟩|⟨p,xs,A5,AZ,rfl,rfl,rfl,a⟩
 .exact⟨d,_,e,r.Hn,C6.Hn r.kp.sub,a _ (s.trans (Xc r.kp.sub)) λ_ _ e=>e5 e⟩
 .have B7:=r.Hn;refine⟨_,_,e,B7.lay AZ,(C6.Hn r.kp.sub).trans (C6.lay B7.kp.sub AZ),?_⟩;simp only[At];exact⟨p,xs,rfl,Dz,(a _ (s.trans (Xc r.kp.sub)) λ_ _ e=>e5 e).mono (Sub.upd (B7.kp.sub.gone AZ))⟩
def Oy(F:B9)(g:IQ)(set:D->AG->R AG):Prop:=∀ σ ρ G H v d Q BL,Rel F G H σ ρ->At F.K G d v->set d ρ=.ok BL->(∀ σ',Rel F G H σ' BL->Q σ' H)->g v σ H Q
def YW(i:Nat):Oy F (Ie i) (BC i):=by
 intro σ ρ G H v d Q BL r a e h;unfold BC at e;by_cases AD:i<ρ.length
 .rw[if_pos AD]at e;cases e;exact h _ (r.set AD a)
 .rw[if_neg AD]at e;cases e
def IB:List (D->AG->R AG)->List D->AG->R AG
 |[],[],ρ=>.ok ρ
 |f::Ap,d::ds,ρ=>(f d ρ).bind λBL=>IB Ap ds BL
 |_,_,_=>.bad
def U3(F:B9)(g:Mf)(set:List D->AG->R AG):Prop:=∀ σ ρ G H vs ds Q BL,Rel F G H σ ρ->Aa F.K G ds vs->set ds ρ=.ok BL->(∀ σ',Rel F G H σ' BL->Q σ' H)->g vs σ H Q
def ie:U3 F YU (IB []):=by
 intro σ ρ G H vs ds Q BL r a e h;cases ds with
 |nil=>simp only[Aa]at a;cases e;exact⟨a,h σ r⟩
 |cons d ds=>cases e
def aU{g:IQ}{MP:Mf}{f:D->AG->R AG}{Ap:List (D->AG->R AG)}(A6:Oy F g f)(AA:U3 F MP (IB Ap)):U3 F (VC g MP) (IB (f::Ap)):=by
 intro σ ρ G H vs ds Q BL r a e h;cases ds with
 |nil=>cases e
 |cons d ds=>
  simp only[Aa]at a;obtain⟨v,KY,rfl,B8,MK⟩:=a;simp only[IB]at e;cases A9:f d ρ with
  |bad=>rw[A9]at e;cases e
  |exc c=>rw[A9]at e;cases e
  |ok EU=>rw[A9,R.EV]at e;refine⟨v,KY,rfl,A6 σ ρ G H v d _ EU r B8 A9 λσ1 AL=>?_⟩;exact AA σ1 EU G H KY ds Q BL AL MK e h
def FB(Ap:List (D->AG->R AG)):D->AG->R AG
 |.tup ds,ρ=>IB Ap ds ρ
 |_,_=>.bad
theorem nt:∀{Ap:List (D->AG->R AG)}{ds:List D}{ρ BL:AG},IB Ap ds ρ=.ok BL->ds.length=Ap.length
 |[],[],_,_,_=>rfl
 |[],_::_,_,_,e=>by cases e
 |_::_,[],_,_,e=>by cases e
 |f::Ap,d::ds,ρ,BL,e=>by
  simp only[IB]at e;cases A9:f d ρ with
  |bad=>rw[A9]at e;cases e
  |exc c=>rw[A9]at e;cases e
  |ok EU=>rw[A9,R.EV]at e;simp[nt e]
def ig{MP:Mf}{Ap:List (D->AG->R AG)}{n:Nat}(AV:n=Ap.length)(h:U3 F MP (IB Ap)):Oy F (YV F.K n MP) (FB Ap):=by
 intro σ ρ G H v d Q BL r a e k;cases d with
 |tup ds=>simp only[At]at a;obtain⟨p,xs,rfl,AW,al⟩:=a;refine⟨p,xs,rfl,CZ.of (r.kp.sub _ _ AW),?_,h σ ρ G H xs ds Q BL r al e k⟩;rw[<-al.length,AV];exact nt e
 |_=>cases e
noncomputable def JT(set:D->AG->R AG)(body:Ao):List D->AG->R Fk
 |[],ρ=>.ok (.Ay ρ)
 |d::ds,ρ=>(set d ρ).bind λEU=>(body EU).bind λf=>match f with
  |.Ay En=>JT set body ds En
  |.Dr En=>JT set body ds En
  |.Fn En=>.ok (.Ay En)
  |f=>.ok f
def EC(mi:Au)(set:D->AG->R AG)(body:Ao):Ao:=λρ=>(mi ρ).bind λds=>JT set body ds ρ
def uA{mi:Au}{set:D->AG->R AG}{body:Ao}{g:IQ}(Ad:Oy F g set)(AI:∀d ρ c,set d ρ≠.exc c):IL (Fj F (EC mi set body)) (oQ (KB F mi) g (Fj F body)):=by
 rintro CY σ H ⟨G,ρ,r,h⟩;unfold EC at h;refine⟨G,ρ,r,?_⟩;refine rb h λds B0 h DD H1 Af AL s1 it=>?_;refine⟨λi m σ2 Az=>m=ds.length-i/\i<=ds.length/\∃Cz En,Rel F Cz Az σ2 En/\Sub Af Cz/\HL F Cz CY (JT set body (ds.drop i) En),⟨ds.length,by simp,J1 _,Af,ρ,AL,Sub.refl _,HL.mono s1.g (by simpa using h)⟩,?_⟩;rintro i m σ2 Az ⟨rfl,AD,Cz,En,B7,s2,C3⟩;by_cases H_:i<ds.length
 .refine .inr ⟨it.go i Az (s2.trans B7.kp.sub) H_,λσ3 D0=>∃GY Zl,Rel F GY D0 σ3 Zl/\Sub Af GY/\HL F GY CY (JT set body (ds.drop (i+1)) Zl),λσ3 D0⟨GY,Zl,Dy,s3,Fp⟩=>⟨ds.length-(i+1),by lia,rfl,H_,GY,Zl,Dy,s3,Fp⟩,λx D0 y=>?_⟩;obtain⟨d,GY,BD,Dy,s3,JQ⟩:=it.turn B7 s2 H_ y;have EY:ds.drop i=d::ds.drop (i+1):=by
   rw[dI H_];have:=Df H_;rw[BD]at this;rw[Eh this]
  rw[EY]at C3;simp only[JT]at C3;cases Cp:set d En with
  |bad=>rw[Cp]at C3;cases C3
  |exc c=>exact absurd Cp (AI d En c)
  |ok JN=>
   rw[Cp,R.EV]at C3;refine Ad σ2 En GY D0 x d _ JN Dy JQ Cp λσ5 O8=>⟨GY,JN,O8,?_⟩;have VO:Sub Cz GY:=s3.g;refine rb C3 λf N7 C3=>?_;cases f with
   |Ay Nx=>exact λσ7 MF GZ Jl DO=>⟨MF,Nx,Jl,s2.trans (VO.trans DO),HL.mono (VO.trans DO) C3⟩
   |Dr Nx=>exact λσ7 MF GZ Jl DO=>⟨MF,Nx,Jl,s2.trans (VO.trans DO),HL.mono (VO.trans DO) C3⟩
   |Fn Nx=>exact λσ7 MF GZ Jl DO=>C3 σ7 MF GZ Jl (VO.trans DO)
   |ES d=>exact C3
   |JG ds=>exact C3
   |L8 t=>exact C3
   |rs t _=>exact C3
 .have e:ds.drop i=[]:=p9 (by lia);rw[e]at C3;have F0:i=ds.length:=by lia
  subst F0;exact .inl ⟨it.stop Az (s2.trans B7.kp.sub),C3 σ2 Cz Az B7 (Sub.refl _)⟩
def Z7(i:Nat):∀d ρ c,BC i d ρ≠.exc c:=λd ρ c=>by
 unfold BC
 split<;>exact λz=>nomatch z
theorem nu:∀{Ap:List (D->AG->R AG)},(∀f∈Ap,∀d ρ c,f d ρ≠.exc c)->∀ds ρ c,IB Ap ds ρ≠.exc c
 |[],_,[],_,_,e=>nomatch e
 |[],_,_::_,_,_,e=>nomatch e
 |_::_,_,[],_,_,e=>nomatch e
 |f::Ap,h,d::ds,ρ,c,e=>by
  simp only[IB]at e;cases A9:f d ρ with
  |bad=>rw[A9]at e;cases e
  |exc c=>exact h f (by simp) d ρ c A9
  |ok EU=>rw[A9,R.EV]at e;exact nu (λg Ad=>h g (by simp[Ad])) ds EU c e
def nx{Ap:List (D->AG->R AG)}(h:∀f∈Ap,∀d ρ c,f d ρ≠.exc c):∀d ρ c,FB Ap d ρ≠.exc c:=λd ρ c e=>by
 cases d<;>first
  |(exact nu h _ _ _ e)
  |(cases e)
def je{K:A_}{G:AC}{a:A7}{xs:List V}{ds:List D}(h:C9 K G a xs)(q:Aa K G ds xs):LJ K (eI K a) ds G where
 go:=λi H s AD=>by obtain⟨v,e,_⟩:=q.get (Df AD);exact⟨xs,v,C9.mono s h,e⟩
 IX:=λi H x H' s AD y=>by obtain⟨rfl,y⟩:=y;obtain⟨d,e,a⟩:=q.VE (y xs (C9.mono s h));exact⟨d,e,.inl ⟨rfl,λ_ s1 _=>a.mono s1⟩⟩
 stop:=λH s=>⟨xs,C9.mono s h,by rw[<-q.length];exact Ci _⟩
def jh{K:A_}{G:AC}{a:A7}{xs:List V}{ds:List D}(h:CZ K G a xs)(q:Aa K G ds xs):LJ K (eK K a) ds G where
 go:=λi H s AD=>by obtain⟨v,e,_⟩:=q.get (Df AD);exact⟨xs,v,CZ.mono s h,e⟩
 IX:=λi H x H' s AD y=>by obtain⟨rfl,y⟩:=y;obtain⟨d,e,a⟩:=q.VE (y xs (CZ.mono s h));exact⟨d,e,.inl ⟨rfl,λ_ s1 _=>a.mono s1⟩⟩
 stop:=λH s=>⟨xs,CZ.mono s h,by rw[<-q.length];exact Ci _⟩
def G1(lo:Int)(n:Nat):List D:=(Ds n).map λ(i:Nat)=>.int (lo+(i:Int))
def jf{K:A_}{G:AC}(lo:Int)(n:Nat):LJ K (U7 lo n) (G1 lo n) G where
 go:=λi H s AD=>by
  have h:i<n:=by simpa[G1]using AD
  exact h
 IX:=λi H x H' s AD y=>by
  have h:i<n:=by simpa[G1]using AD
  obtain⟨A9,AM⟩:=y;refine⟨.int (lo+(i:Int)),?_,.inl ⟨A9,λ_ _ _=>?_⟩⟩
  .unfold G1;rw[EL,Te h];rfl
  .simp only[At];exact AM
 stop:=λH s=>by
  have h:n<=(G1 lo n).length:=by simp[G1]
  exact h
def cb:D->R (List D)
 |.lst ds=>.ok ds
 |.Co ds=>.ok ds
 |_=>.bad
def ac7:D->R (List D)
 |.tup ds=>.ok ds
 |.EM ds=>.ok ds
 |_=>.bad
def ER(m:Ab):Au:=λρ=>(m ρ).bind cb
def vo{m:Ab}:Md (KB F (ER m)) (i0 F.K (Cv F m)):=by
 rintro σ H Q ⟨G,ρ,r,h⟩;unfold ER at h;refine⟨G,ρ,r,?_⟩;refine rb h λd B0 h v H1 Af AL s1 a=>?_;cases d with
 |lst ds=>simp only[At]at a;obtain⟨p,xs,e,AW,al⟩:=a;exact⟨p,e,⟨xs,C9.of (AL.kp.sub _ _ AW)⟩,h _ H1 Af AL s1 (je (C9.of AW) al)⟩
 |Co ds=>simp only[At]at a;obtain⟨p,xs,e,AW,al⟩:=a;exact⟨p,e,⟨xs,C9.mono AL.kp.sub AW⟩,h _ H1 Af AL s1 (je AW al)⟩
 |_=>cases h
def Xw(m:Ab):Au:=λρ=>(m ρ).bind ac7
def vQ{m:Ab}:Md (KB F (Xw m)) (i4 F.K (Cv F m)):=by
 rintro σ H Q ⟨G,ρ,r,h⟩;unfold Xw at h;refine⟨G,ρ,r,?_⟩;refine rb h λd B0 h v H1 Af AL s1 a=>?_;cases d with
 |tup ds=>simp only[At]at a;obtain⟨p,xs,e,AW,al⟩:=a;exact⟨p,e,⟨xs,CZ.of (AL.kp.sub _ _ AW)⟩,h _ H1 Af AL s1 (jh (CZ.of AW) al)⟩
 |EM ds=>simp only[At]at a;obtain⟨p,xs,e,AW,al⟩:=a;exact⟨p,e,⟨xs,CZ.mono AL.kp.sub AW⟩,h _ H1 Af AL s1 (jh AW al)⟩
 |_=>cases h
def W4:List D->R (List D)
 |[.int j]=>if-(2^62)<=j/\j<2^62 then .ok (G1 0 j.toNat)else .bad
 |_=>.bad
def W5:List D->R (List D)
 |[.int i,.int j]=>if-(2^62)<=i/\i<2^62/\-(2^62)<=j/\j<2^62 then .ok (G1 i (j-i).toNat)else .bad
 |_=>.bad
def Aa.ints1{K:A_}{G:AC}{j:Int}{vs:List V}(a:Aa K G [.int j] vs):vs=[.int j]:=by simp only[Aa,At]at a;obtain⟨v,r,rfl,rfl,rfl⟩:=a;rfl
def Aa.ints2{K:A_}{G:AC}{i j:Int}{vs:List V}(a:Aa K G [.int i,.int j] vs):vs=[.int i,.int j]:=by simp only[Aa,At]at a;obtain⟨v,r,rfl,rfl,v,r,rfl,rfl,rfl⟩:=a;rfl
def Fs(m:Au):Au:=λρ=>(m ρ).bind W4
def Oa(m:Au):Au:=λρ=>(m ρ).bind W5
def w2{m:Au}:Md (KB F (Fs m)) (i1 (Ew F m)):=by
 rintro σ H Q ⟨G,ρ,r,h⟩;unfold Fs at h;refine⟨G,ρ,r,?_⟩;refine rb h λds B0 h vs H1 Af AL s1 a=>?_;unfold W4 at h
 split at h
 .rename_i j
  split at h
  .rename_i Bz;exact⟨j,a.ints1,Bz.1,Bz.2,h _ H1 Af AL s1 (jf 0 j.toNat)⟩
  .exact h.elim
 .exact h.elim
def w3{m:Au}:Md (KB F (Oa m)) (i2 (Ew F m)):=by
 rintro σ H Q ⟨G,ρ,r,h⟩;unfold Oa at h;refine⟨G,ρ,r,?_⟩;refine rb h λds B0 h vs H1 Af AL s1 a=>?_;unfold W5 at h
 split at h
 .rename_i i j
  split at h
  .rename_i Bz;exact⟨i,j,a.ints2,Bz,h _ H1 Af AL s1 (jf i (j-i).toNat)⟩
  .exact h.elim
 .exact h.elim
inductive CG where
 |v (d:D)|o (ds:List D)|t (t:T)
noncomputable def wp(F:B9)(Q:Cc):R CG->Prop
 |.ok (.v d)=>∀v G' H',FS F G' H'->At F.K G' d v->Q v H'
 |.ok (.o ds)=>∀a xs G' H',FS F G' H'->G' a=none->F.H0 a=none->H' a=some (.lst xs)->Aa F.K G' ds xs->Q (.ref a) H'
 |.ok (.t t)=>∀v G' H',FS F G' H'->MH F G' H' t v->Q v H'
 |.exc c=>NF F c
 |.bad=>False
def TO(K:A_)(n:Nat)(xe:DP->Str->AC->Prop)(Ba:List D->R CG):AY:=λvs H Q E=>∃G ds,Sub G H/\Aa K G ds vs/\ds.length=n/\wp ⟨K,G,H,xe E,Iq⟩ Q (Ba ds)
def cn{K:A_}{n:Nat}{xe:DP->Str->AC->Prop}{Ba:List D->R CG}:∀vs H Q E,TO K n xe Ba vs H Q E->vs.length=n:=λvs H Q E h=>by obtain⟨G,ds,_,a,l,_⟩:=h;rw[<-a.length];exact l
def outD:Fk->R CG
 |.Ay _=>.ok (.v .non)
 |.ES d=>.ok (.v d)
 |.JG ds=>.ok (.o ds)
 |.L8 t=>.ok (.t t)
 |_=>.bad
def Im(N:Nat)(ds:List D):AG:=ds.map .J++G4 (N-ds.length) .un
def DS(N:Nat)(m:Ao)(ds:List D):R CG:=(m (Im N ds)).bind outD
def Mx(N:Nat)(vs:List V):St:=vs.map some++G4 (N-vs.length) none
def lF{K:A_}{G H:AC}{EX:Str->AC->Prop}{N:Nat}{ds:List D}{vs:List V}(s:Sub G H)(a:Aa K G ds vs):Rel ⟨K,G,H,EX,Iq⟩ G H (Mx N vs) (Im N ds):=by
 have AN:=a.length;refine⟨⟨s,Sub.refl _,Sub.refl _,λ_ _=>rfl⟩,by simp[Mx,Im,AN],λi t e=>?_,λi j b A5 V3 o o' A9 AM _ _ f _=>?_⟩
 .unfold Im at e;unfold Mx;by_cases AD:i<ds.length
  .rw[Jm (by simpa using AD),EL,Df AD]at e;obtain⟨v,A9,B8⟩:=a.get (Df AD);rw[Jm (by rw[GU,<-AN];exact AD),EL,A9];have R3:Bi.J ds[i]=t:=Eh e;subst R3;exact⟨some v,rfl,v,rfl,B8⟩
  .rw[NN (by simpa using AD),Of]at e;rw[NN (by rw[GU,<-AN];lia),Of,GU,<-AN];rw[GU]at e
   split at e
   .rename_i BE;rw[if_pos BE];cases e;exact⟨none,rfl,trivial⟩
   .cases e
 .exfalso;unfold Im at A9;by_cases AD:i<ds.length
  .rw[Jm (by simpa using AD),EL,Df AD]at A9;cases A9;exact f
  .rw[NN (by simpa using AD),Of]at A9
   split at A9
   .cases A9;exact f
   .cases A9
def f6{K:A_}{xe:DP->Str->AC->Prop}{n N:Nat}{m:Ao}{vs:List V}{H:AC}{Q:Cc}{E:DP}(h:TO K n xe (DS N m) vs H Q E) :
  ∃G,Fj ⟨K,G,H,xe E,Iq⟩ m { Ay:=λ_ H'=>Q .non H',ES:=Q } (Mx N vs) H:=by
 obtain⟨G,ds,s,a,l,k⟩:=h;refine⟨G,G,Im N ds,lF s a,?_⟩;unfold DS at k;refine rb k λf e k=>?_;cases f with
 |Ay ρ=>exact λσ' G' H' r _=>k .non G' H' r.kp (by simp only[At])
 |ES d=>exact k
 |JG ds=>exact k
 |L8 t=>exact k
 |rs t _=>cases k
 |Fn ρ=>cases k
 |Dr ρ=>cases k
def FS.of{G H G' H':AC}{σ :St}{ρ:AG}{EX:Str->AC->Prop}(r:Rel F G H σ ρ)(k:FS ⟨F.K,G,H,EX,Iq⟩ G' H'):Rel F G' H' σ ρ:=r.grow k.EP k.sub k.BE λb A1=>k.new b A1
def OA:CG->R D
 |.v d=>.ok d
 |.o ds=>.ok (.lst ds)
 |.t t=>.ok (toD t)
def ay:CG->R (List D)
 |.o ds=>.ok ds
 |_=>.bad
def NC(A:List A7)(G H:AC):AC:=λb=>if b∈A then H b else G b
def Rel.c9{G H G0 H0:AC}{σ :St}{ρ:AG}(r:Rel F G H σ ρ){F':B9}{t:T}{v:V}(Am:F'.K=F.K)(q:MH F' G H t v)(u:C6 G0 H0 G H)(n:∀b∈Ak H t v,H0 b=none/\F.H0 b=none/\¬Ca H σ ρ b) :
  Rel F (NC (Ak H t v) G H) H σ ρ/\C6 G0 H0 (NC (Ak H t v) G H) H/\At F.K (NC (Ak H t v) G H) (toD t) v:=by
 have BK:Sub G (NC (Ak H t v) G H):=λb o e=>by
  unfold NC;by_cases A1:b∈Ak H t v
  .rw[(q.own b A1).1]at e;cases e
  .rw[if_neg A1];exact e
 refine⟨r.over rfl ⟨λb o e=>?_,r.kp.EP.trans BK,r.kp.BE,λb A1=>?_⟩ BK λa AB=>?_,⟨u.g.trans BK,u.h,λb A1=>?_⟩,?_⟩
 .unfold NC at e
  split at e
  .exact e
  .exact r.kp.sub b o e
 .unfold NC;rw[if_neg (λz=>A1.1 (n b z).2.1)];exact r.kp.new b A1
 .obtain⟨A6,AA,B4⟩:=r.foot AB;refine⟨rfl,?_,B4⟩;unfold NC;rw[if_neg (λz=>(n a z).2.2 AB)];exact AA
 .unfold NC;rw[if_neg (λz=>A1.1 (n b z).1)];exact u.n b A1
 .rw[<-Am];exact q.at_.view BK λa AB=>by unfold NC;rw[if_pos AB]
def Bo(n:Nat)(Ba:List D->R CG)(m:Au):Ab:=λρ=>(m ρ).bind λds=>if ds.length=n then(Ba ds).bind OA else .bad
def FM(n:Nat)(Ba:List D->R CG)(m:Au):Au:=λρ=>(m ρ).bind λds=>if ds.length=n then(Ba ds).bind ay else .bad
def u_{n:Nat}{Ba:List D->R CG}{m:Au}{xe:DP->Str->AC->Prop}{E:DP}(AI:F.EX=xe E):Ec (Cv F (Bo n Ba m)) (cw (TO F.K n xe Ba) [] E (Ew F m)):=by
 rintro σ H Q ⟨G,ρ,r,h⟩;unfold Bo at h;refine⟨G,ρ,r,?_⟩;refine rb h λds B0 h vs H1 Af AL s1 a=>?_;by_cases AV:ds.length=n
 .rw[if_pos AV]at h;rw[Le];refine⟨Af,ds,AL.kp.sub,a,AV,?_⟩;cases e:Ba ds with
  |bad=>rw[e]at h;cases h
  |exc c=>rw[e]at h;intro G' H' k;have z:=h G' H' (FS.of AL k).kp;rw[AI]at z;exact z
  |ok t=>
   rw[e,R.EV]at h;cases t with
   |v d=>exact λv G' H' k B8=>h v H' G' (FS.of AL k) (s1.trans ⟨k.EP,k.BE,k.new⟩) B8
   |o A5=>intro p xs G' H' k A6 AA B4 BJ;have AA:H1 p=none:=AA;have BS:=FS.of AL k;have no:¬Ca H' σ ρ p:=Ca.fresh AL k.BE AA;refine h (.ref p) H' _ (BS.take B4 A6 (AL.kp.BE.gone AA) no) ((s1.trans ⟨k.EP,k.BE,k.new⟩).put (s1.h.gone AA) A6) ?_;simp only[At];exact⟨p,xs,rfl,Dz,BJ.mono (Sub.upd A6)⟩
   |t t=>intro v G' H' k q;obtain⟨a1,a2,JQ⟩:=(FS.of AL k).c9 (F':=⟨F.K,Af,H1,xe E,Iq⟩) rfl q (s1.trans ⟨k.EP,k.BE,k.new⟩) λb A1=>⟨s1.h.gone (q.own b A1).2,AL.kp.BE.gone (q.own b A1).2,Ca.fresh AL k.BE (q.own b A1).2⟩;exact h v H' _ a1 a2 JQ
 .rw[if_neg AV]at h;cases h
def ua{n:Nat}{Ba:List D->R CG}{m:Au}{xe:DP->Str->AC->Prop}{E:DP}(AI:F.EX=xe E):Ec (Hf F (FM n Ba m)) (cw (TO F.K n xe Ba) [] E (Ew F m)):=by
 rintro σ H Q ⟨G,ρ,r,h⟩;unfold FM at h;refine⟨G,ρ,r,?_⟩;refine rb h λds B0 h vs H1 Af AL s1 a=>?_;by_cases AV:ds.length=n
 .rw[if_pos AV]at h;rw[Le];refine⟨Af,ds,AL.kp.sub,a,AV,?_⟩;cases e:Ba ds with
  |bad=>rw[e]at h;cases h
  |exc c=>rw[e]at h;intro G' H' k;have z:=h G' H' (FS.of AL k).kp;rw[AI]at z;exact z
  |ok t=>
   rw[e,R.EV]at h;cases t with
   |v d=>cases h
   |t t=>cases h
   |o A5=>intro p xs G' H' k A6 AA B4 BJ;have AA:H1 p=none:=AA;have BS:=FS.of AL k;exact h p xs H' G' BS (s1.trans ⟨k.EP,k.BE,k.new⟩) (s1.h.gone AA) B4 A6 BJ
 .rw[if_neg AV]at h;cases h
end
end CT
namespace CT
open PySem PySem.Spec C1
def HF:Bi->Bi
 |.J d=>.J d
 |_=>.un
def Mn(nl:Nat)(caps:List Nat)(ρ:AG):AG:=G4 nl .un++caps.map λj=>HF (ρ.getD j .un)
noncomputable def Hp(set:D->AG->R AG)(tst:CN)(elt:Ab):List D->AG->List D->R (List D)
 |[],_,ws=>.ok ws
 |d::ds,ρ,ws=>(set d ρ).bind λEU=>(tst EU).bind λb=>if b=true then(elt EU).bind λy=>if ws.length<1000000 then Hp set tst elt ds EU (ws++[y])else .bad else Hp set tst elt ds EU ws
def Hd{α:Type}:R α->R α
 |.exc _=>.bad
 |r=>r
def DE(nl:Nat)(caps:List Nat)(mi:Au)(set:D->AG->R AG)(tst:CN)(elt:Ab):Au:=λρ=>(mi ρ).bind λds=>Hd (Hp set tst elt ds (Mn nl caps ρ) [])
def Ge(K:A_)(G H:AC):B9:=⟨K,G,H,λ_ _=>False,Iq⟩
def c3(K:A_)(m:CN):TT:=λσ H Q=>∃G0 H0,H5 (Ge K G0 H0) m σ H Q
def c2(K:A_)(m:Ab):TE:=λσ H Q=>∃G0 H0,Cv (Ge K G0 H0) m σ H Q
def lO:Bi->Bool
 |.un=>true|.J _=>true
 |_=>false
def lP{H:AC}{s:Bi}(h:lO s=true)(o:Option V)(a:A7):¬Ey H s o a:=by
 cases s<;>first
  |exact λz=>z
  |cases h
def Qk(ρ:AG):Prop:=∀(i:Nat)(s:Bi),ρ[i]?=some s->lO s=true
def kk(nl:Nat)(caps:List Nat)(ρ:AG):Qk (Mn nl caps ρ):=λi s A9=>by
 unfold Mn at A9;by_cases AD:i<nl
 .rw[Jm (by simpa using AD),Of,if_pos AD]at A9;cases A9;rfl
 .rw[NN (by simpa using AD),Rw,EL]at A9;cases JS:caps[i-nl]? with
  |none=>rw[JS]at A9;cases A9
  |some j=>rw[JS]at A9;have A5:HF (ρ.getD j .un)=s:=Eh A9;subst A5;cases AJ:ρ.getD j .un<;>rfl
def Keeps(set:D->AG->R AG):Prop:=∀d ρ BL,set d ρ=.ok BL->Qk ρ->Qk BL
def Z6(i:Nat):Keeps (BC i):=λd ρ BL e n j ds z=>by
 unfold BC at e
 split at e
 .cases e;rcases get_set z with⟨_,z⟩|⟨_,z⟩
  .subst z;rfl
  .exact n j ds z
 .cases e
theorem nr:∀{Ap:List (D->AG->R AG)},(∀f∈Ap,Keeps f)->∀ds ρ BL,IB Ap ds ρ=.ok BL->Qk ρ->Qk BL
 |[],_,[],_,_,e,n=>by cases e;exact n
 |[],_,_::_,_,_,e,_=>by cases e
 |_::_,_,[],_,_,e,_=>by cases e
 |f::Ap,h,d::ds,ρ,BL,e,n=>by
  simp only[IB]at e;cases A9:f d ρ with
  |bad=>rw[A9]at e;cases e
  |exc c=>rw[A9]at e;cases e
  |ok EU=>rw[A9,R.EV]at e;exact nr (λg Ad=>h g (by simp[Ad])) ds EU BL e (h f (by simp) d ρ EU A9 n)
def nv{Ap:List (D->AG->R AG)}(h:∀f∈Ap,Keeps f):Keeps (FB Ap):=λd ρ BL e n=>by
 cases d<;>first
  |(exact nr h _ _ _ e n)
  |(cases e)
section
variable{F:B9}
def aaD{G H:AC}{σ :St}{ρ:AG}(r:Rel F G H σ ρ){acc:A7}(AB:H acc=none)(nl:Nat)(caps:List Nat) :
  Rel (Ge F.K G H) G (upd H acc (.lst [])) (N2 nl caps σ) (Mn nl caps ρ):=by
 refine⟨⟨Sub.Zb r.kp.sub (r.kp.sub.gone AB),Sub.refl _,Sub.upd AB,λ_ _=>rfl⟩,by simp[N2,Mn],λi s e=>?_,λi j b s s' o o' A9 _ _ _ f _=>?_⟩
 .unfold Mn at e;unfold N2;by_cases AD:i<nl
  .rw[Jm (by simpa using AD),Of,if_pos AD]at e;rw[Jm (by simpa using AD),Of,if_pos AD];cases e;exact⟨none,rfl,trivial⟩
  .rw[NN (by simpa using AD),Rw,EL]at e;rw[NN (by simpa using AD),Rw,EL];cases JS:caps[i-nl]? with
   |none=>rw[JS]at e;cases e
   |some j=>
    rw[JS]at e;refine⟨σ.getD j none,rfl,?_⟩;have A5:HF (ρ.getD j .un)=s:=Eh e;subst A5;cases CU:ρ[j]? with
    |none=>
     have eg:ρ.getD j .un=.un:=by rw[IU,CU];rfl
     rw[eg];exact trivial
    |some t=>
     have eg:ρ.getD j .un=t:=by rw[IU,CU];rfl
     rw[eg];obtain⟨o,A9,q⟩:=r.CE j t CU;cases t with
     |un=>exact trivial
     |ob ds=>exact trivial
     |Ef t=>exact trivial
     |BX _ t=>exact trivial
     |J d=>obtain⟨v,AM,a⟩:=q;refine⟨v,?_,a⟩;rw[IU,A9,AM];rfl
 .exact absurd f (lP (kk nl caps ρ i s A9) o b)
def u2{nl:Nat}{caps:List Nat}{mi:Au}{set:D->AG->R AG}{tst:CN}{elt:Ab}{g:IQ}(Ad:∀G H,Oy (Ge F.K G H) g set)(AI:∀d ρ c,set d ρ≠.exc c)(AF:Keeps set) :
  Ec (Hf F (DE nl caps mi set tst elt)) (Yg (KB F mi) g (c3 F.K tst) (c2 F.K elt) nl caps):=by
 rintro σ H Q ⟨G,ρ,r,h⟩;unfold DE at h;refine⟨G,ρ,r,?_⟩;refine rb h λds B0 h DD H1 Af AL OK it acc AB=>?_;cases CU:Hp set tst elt ds (Mn nl caps ρ) []with
 |bad=>rw[CU]at h;cases h
 |exc c=>rw[CU]at h;cases h
 |ok res=>
  rw[CU]at h
  refine⟨λi m σ2 Az=>m=ds.length-i/\i<=ds.length/\∃Cz En ys ws,Rel (Ge F.K Af H1) Cz Az σ2 En/\Qk En/\Az acc=some (.lst ys)/\Cz acc=none/\Aa F.K Cz ws ys/\Hp set tst elt (ds.drop i) En ws=.ok res,
   ⟨ds.length,by simp,J1 _,Af,_,[],[],aaD AL AB nl caps,kk _ _ _,Dz,AL.kp.sub.gone AB,.nil,by simpa using CU⟩,?_⟩
  rintro i m σ2 Az ⟨rfl,AD,Cz,En,ys,ws,B7,Dx,A6,AA,B4,BJ⟩;have BK:Sub Af Cz:=B7.kp.EP;by_cases H_:i<ds.length
  .refine .inr ⟨it.go i Az (BK.trans B7.kp.sub) H_,λx D0 y=>?_⟩;obtain⟨d,GY,BD,Dy,My,JQ⟩:=LJ.turn (F:=Ge F.K Af H1) it B7 BK H_ y;have EY:ds.drop i=d::ds.drop (i+1):=by
    rw[dI H_];have:=Df H_;rw[BD]at this;rw[Eh this]
   rw[EY]at BJ;simp only[Hp]at BJ;cases Cp:set d En with
   |bad=>rw[Cp]at BJ;cases BJ
   |exc c=>exact absurd Cp (AI d En c)
   |ok JN=>
    rw[Cp,R.EV]at BJ;refine Ad Af H1 σ2 En GY D0 x d _ JN Dy JQ Cp λσ5 O8=>⟨Af,H1,GY,JN,O8,?_⟩;have SO:Qk JN:=AF d En JN Cp Dx;have gC:D0 acc=some (.lst ys):=My.h _ _ A6;have g3:GY acc=none:=by rw[My.n acc (.of A6 λ_ z=>nomatch z)];exact AA
    cases El:tst JN with
    |bad=>rw[El]at BJ;cases BJ
    |exc c=>rw[El]at BJ;cases BJ
    |ok b=>
     rw[El,R.EV]at BJ;intro SH Wp la cF;have dz:SH acc=some (.lst ys):=cF.h _ _ gC;have YT:Wp acc=none:=by rw[cF.n acc (.of gC λ_ z=>nomatch z)];exact g3
     have SA:Aa F.K Wp ws ys:=(B4.mono My.g).mono cF.g;cases b with
     |false=>rw[if_neg Fv]at BJ;rw[if_neg Fv];exact⟨_,by lia,rfl,H_,Wp,JN,ys,ws,la,SO,dz,YT,SA,BJ⟩
     |true=>
      rw[if_pos rfl]at BJ;rw[if_pos rfl];refine⟨Af,H1,Wp,JN,la,?_⟩;cases fM:elt JN with
      |bad=>rw[fM]at BJ;cases BJ
      |exc c=>rw[fM]at BJ;cases BJ
      |ok y=>
       rw[fM,R.EV]at BJ;intro cz eB eA TJ u8 eY;have qf:eB acc=some (.lst ys):=u8.h _ _ dz;have ic:eA acc=none:=by rw[u8.n acc (.of dz λ_ z=>nomatch z)];exact YT
       by_cases AN:ws.length<1000000
       .rw[if_pos AN]at BJ;have gJ:Aa F.K eA ws ys:=SA.mono u8.g;refine⟨ys,qf,by rw[<-gJ.length];exact L3 AN (by decide),_,by lia,rfl,H_,eA,JN,ys++[cz],ws++[y],?_,SO,Dz,ic,gJ.snoc eY,BJ⟩;have Sb:(Ge F.K Af H1).H0 acc=none:=AB;refine⟨⟨Sub.Zb TJ.kp.sub ic,TJ.kp.EP,λc o z=>?_,TJ.kp.new⟩,TJ.len,λj t z=>?_,λj k b s s' o o' Ix _ _ _ f _=>absurd f (lP (SO j s Ix) o b)⟩
        .rw[DV (K7 z Sb)];exact TJ.kp.BE c o z
        .obtain⟨o,DZ,Dh⟩:=TJ.CE j t z;refine⟨o,DZ,?_⟩;cases t with
         |un=>exact trivial
         |J d=>exact Dh
         |ob A5=>exact absurd (SO j _ z) (λw=>nomatch w)
         |Ef A5=>exact absurd (SO j _ z) (λw=>nomatch w)
         |BX _ A5=>exact absurd (SO j _ z) (λw=>nomatch w)
       .rw[if_neg AN]at BJ;cases BJ
  .have e:ds.drop i=[]:=p9 (by lia);rw[e]at BJ;simp only[Hp]at BJ;cases BJ;have F0:i=ds.length:=by lia
   subst F0;refine .inl ⟨it.stop Az (BK.trans B7.kp.sub),?_⟩;have k:FS ⟨F.K,Af,H1,λ_ _=>False,Iq⟩ Cz Az:=B7.kp;exact h acc ys Az Cz (FS.of AL k) (OK.trans ⟨k.EP,k.BE,k.new⟩) (OK.h.gone AB) A6 AA B4
end
mutual
noncomputable def Cq:D->D->Bool
 |.non,.non=>true
 |.AO a,.AO b=>a==b
 |.AO a,.int b=>(if a then 1 else 0)==b
 |.int a,.AO b=>a==(if b then 1 else 0)
 |.int a,.int b=>a==b
 |.str a,.str b=>a==b
 |.tup xs,.tup ys=>Ea xs ys
 |.tup xs,.EM ys=>Ea xs ys
 |.EM xs,.tup ys=>Ea xs ys
 |.EM xs,.EM ys=>Ea xs ys
 |.lst xs,.lst ys=>Ea xs ys
 |.lst xs,.Co ys=>Ea xs ys
 |.Co xs,.lst ys=>Ea xs ys
 |.Co xs,.Co ys=>Ea xs ys
 |_,_=>false
noncomputable def Ea:List D->List D->Bool
 |[],[]=>true
 |x::xs,y::ys=>Cq x y&&Ea xs ys
 |_,_=>false
end
noncomputable def okN:Nat->D->Bool
 |_,.non=>true
 |_,.AO _=>true
 |_,.int _=>true
 |_,.str _=>true
 |n+1,.tup xs=>xs.all (okN n)
 |n+1,.EM xs=>xs.all (okN n)
 |n+1,.lst xs=>xs.all (okN n)
 |n+1,.Co xs=>xs.all (okN n)
 |_,_=>false
inductive KQ(s:AQ)(P:D->A8->Prop):D->A8->Prop where
 |non:KQ s P .non .none
 |AO (b:Bool):KQ s P (.AO b) (.bool b)
 |int (i:Int) (t:Tok):KQ s P (.int i) (.int i t)
 |str (x:Str) (t:Tok):KQ s P (.str x) (.str x t)
 |tup (a:A7) (ds:List D) (its:List A8) (h:s.heap.IsTuple a its.toArray) (l:ds.length=its.length) (p:∀(i:Nat) d u,ds[i]?=some d->its[i]?=some u->P d u):KQ s P (.tup ds) (.ref a)
 |EM (a:A7) (ds:List D) (its:List A8) (h:s.heap.IsTuple a its.toArray) (l:ds.length=its.length) (p:∀(i:Nat) d u,ds[i]?=some d->its[i]?=some u->P d u):KQ s P (.EM ds) (.ref a)
 |lst (a:A7) (ds:List D) (its:List A8) (h:s.heap.IsList a its.toArray) (l:ds.length=its.length) (p:∀(i:Nat) d u,ds[i]?=some d->its[i]?=some u->P d u):KQ s P (.lst ds) (.ref a)
 |Co (a:A7) (ds:List D) (its:List A8) (h:s.heap.IsList a its.toArray) (l:ds.length=its.length) (p:∀(i:Nat) d u,ds[i]?=some d->its[i]?=some u->P d u):KQ s P (.Co ds) (.ref a)
def Ml(K:A_)(G:AC)(d:D)(u:A8):Prop:=∃x,At K G d x/\RelV x u
section
variable{X:Ac}{pins:List (A7×Obj)}{σ :St}{H G:AC}{s:AQ}
def Sa{K:A_}{ds:List D}{xs:List V}{its:List A8}(q:Aa K G ds xs)(r:Vals xs its):∀(i:Nat) d u,ds[i]?=some d->its[i]?=some u->Ml K G d u:=λi d u A9 AM=>by obtain⟨v,BD,a⟩:=q.get A9;obtain⟨GK,Cp,CL⟩:=r.get BD;rw[AM]at Cp;cases Cp;exact⟨v,a,CL⟩
def Q0(I:Inv X pins σ H s)(BK:Sub G H){d:D}{u:A8}{n:Nat}(ok:okN n d=true)(h:Ml X.K G d u):KQ s (Ml X.K G) d u:=by
 obtain⟨x,a,r⟩:=h;cases d with
 |non=>simp only[At]at a;subst a;cases r;exact .non
 |AO b=>simp only[At]at a;subst a;cases r;exact .AO b
 |int i=>simp only[At]at a;subst a;obtain⟨t,rfl⟩:=r;exact .int i t
 |str i=>simp only[At]at a;subst a;obtain⟨t,rfl⟩:=r;exact .str i t
 |tup ds=>simp only[At]at a;obtain⟨p,xs,rfl,AW,al⟩:=a;cases r;obtain⟨its,CL,Aj,_⟩:=I.tuple (CZ.of (BK _ _ AW));exact .tup p ds its Aj (al.length.trans CL.length) (Sa al CL)
 |lst ds=>simp only[At]at a;obtain⟨p,xs,rfl,AW,al⟩:=a;cases r;obtain⟨its,CL,Aj,_⟩:=I.list (C9.of (BK _ _ AW));exact .lst p ds its Aj.isList (al.length.trans CL.length) (Sa al CL)
 |Co ds=>simp only[At]at a;obtain⟨p,xs,rfl,AW,al⟩:=a;cases r;obtain⟨its,CL,Aj,_⟩:=I.list (C9.mono BK AW);exact .Co p ds its Aj.isList (al.length.trans CL.length) (Sa al CL)
 |Bg ks xs=>cases n<;>cases ok
 |Ai ks xs=>cases n<;>cases ok
 |ins C ns xs=>cases n<;>cases ok
 |PD C=>cases n<;>cases ok
 |EM ds=>simp only[At]at a;obtain⟨p,xs,rfl,AW,al⟩:=a;cases r;obtain⟨its,CL,Aj,_⟩:=I.tuple (CZ.mono BK AW);exact .EM p ds its Aj (al.length.trans CL.length) (Sa al CL)
theorem ep:∀{xs ys:List D},xs.length≠ys.length->Ea xs ys=false
 |[],[],h=>absurd rfl h
 |[],_::_,_=>by simp only[Ea]
 |_::_,[],_=>by simp only[Ea]
 |x::xs,y::ys,h=>by simp only[Ea];rw[ep (λe=>h (by simp[e])),dw]
def Lw(xs ys:List D)(j:Nat):Bool:=match xs[j]?,ys[j]? with
 |some x,some y=>Cq x y
 |_,_=>true
def q1(f:Nat->Bool)(n:Nat):(Ds (n+1)).all f=(f 0&&(Ds n).all λj=>f (j+1)):=by rw[List.range_succ_eq_map,NR,Tt];rfl
theorem er:∀{xs ys:List D},xs.length=ys.length->(Ds xs.length).all (Lw xs ys)=Ea xs ys
 |[],[],_=>by simp[Ea]
 |[],_::_,h=>by simp at h
 |_::_,[],h=>by simp at h
 |x::xs,y::ys,h=>by
  rw[FU,q1];have e:(λj=>Lw (x::xs) (y::ys) (j+1))=Lw xs ys:=by
   funext j
   simp[Lw]
  rw[e,er (by simpa using h)];simp only[Ea];rfl
def in1_units(A:CR):A.in1.units=A.units+1:=rfl
def nd{A:CR}{P:D->A8->Prop}{d1 C_:D}{u v:A8}(A6:KQ s P d1 u)(AA:KQ s P C_ v)(D8:H3 d1=true)(DG:H3 C_=true) :
  Tw A s u v (Cq d1 C_)/\Wg A s u v (Cq d1 C_)/\Wi A s u v (!Cq d1 C_):=by
 cases A6<;>cases AA<;>first
  |(cases D8;done)
  |(cases DG;done)
  |(simp only[Cq,QQ,du];refine⟨?_,?_,?_⟩<;>with_reducible first|exact .same _|exact .none_none|exact .none_bool _|exact .none_int _ _|exact .none_str _ _|exact .bool_none _|exact .bool_bool _ _|exact .bool_int _ _ _|exact .bool_str _ _ _|exact .int_none _ _|exact .int_bool _ _ _|exact .int_int _ _ _ _|exact .int_str _ _ _ _|exact .str_none _ _|exact .str_bool _ _ _|exact .str_int _ _ _ _|exact .str_str _ _ _ _)
def kX{A:CR}{P:D->A8->Prop}{d1 C_:D}{u v:A8}(BR:A.units<DX)(A6:KQ s P d1 u)(AA:KQ s P C_ v)(o:H3 d1=true/\H3 C_=false\/H3 d1=false/\H3 C_=true) :
  Tw A s u v (Cq d1 C_)/\Wg A s u v (Cq d1 C_)/\Wi A s u v (!Cq d1 C_):=by
 cases A6<;>cases AA<;>first
  |(rcases o with⟨DZ,Dh⟩|⟨DZ,Dh⟩<;>first|(cases DZ;done)|(cases Dh;done))
  |(simp only[Cq,du];refine⟨?_,?_,?_⟩<;>with_reducible first|exact .none_tuple ‹_› BR|exact .none_list ‹_› BR|exact .bool_tuple _ ‹_› BR|exact .bool_list _ ‹_› BR|exact .int_tuple _ _ ‹_› BR|exact .int_list _ _ ‹_› BR|exact .str_tuple _ _ ‹_› BR|exact .str_list _ _ ‹_› BR|exact .tuple_none ‹_› BR|exact .list_none ‹_› BR|exact .tuple_bool _ ‹_› BR|exact .list_bool _ ‹_› BR|exact .tuple_int _ _ ‹_› BR|exact .list_int _ _ ‹_› BR|exact .tuple_str _ _ ‹_› BR|exact .list_str _ _ ‹_› BR)
theorem hL:∀{xs ys:List D},xs.length=ys.length->(∀(i:Nat) x y,xs[i]?=some x->ys[i]?=some y->Cq x y=true)->Ea xs ys=true
 |[],[],_,_=>by simp only[Ea]
 |[],_::_,h,_=>by simp at h
 |_::_,[],h,_=>by simp at h
 |x::xs,y::ys,h,k=>by simp only[Ea];rw[k 0 x y rfl rfl,hL (by simpa using h) λi a b A9 AM=>k (i+1) a b (by simpa using A9) (by simpa using AM)];rfl
def ng{K:A_}{d1 C_:D}{x:V}(D8:H3 d1=true)(a1:At K G d1 x)(a2:At K G C_ x):Cq d1 C_=true:=by
 cases d1 with
 |non=>simp only[At]at a1;subst a1;cases C_<;>simp only[At]at a2<;>first|(simp only[Cq];done)|(cases a2;done)|(obtain⟨a,xs,e,_⟩:=a2;cases e;done)|(obtain⟨a,Ag,xs,e,_⟩:=a2;cases e;done)
 |AO b=>simp only[At]at a1;subst a1;cases C_<;>simp only[At]at a2<;>first|(cases a2;simp only[Cq,beq_self_eq_true];done)|(cases a2;done)|(obtain⟨a,xs,e,_⟩:=a2;cases e;done)|(obtain⟨a,Ag,xs,e,_⟩:=a2;cases e;done)
 |int b=>simp only[At]at a1;subst a1;cases C_<;>simp only[At]at a2<;>first|(cases a2;simp only[Cq,beq_self_eq_true];done)|(cases a2;done)|(obtain⟨a,xs,e,_⟩:=a2;cases e;done)|(obtain⟨a,Ag,xs,e,_⟩:=a2;cases e;done)
 |str b=>simp only[At]at a1;subst a1;cases C_<;>simp only[At]at a2<;>first|(cases a2;simp only[Cq,beq_self_eq_true];done)|(cases a2;done)|(obtain⟨a,xs,e,_⟩:=a2;cases e;done)|(obtain⟨a,Ag,xs,e,_⟩:=a2;cases e;done)
 |_=>cases D8
def hK{d1 C_:D}(DG:H3 C_=true)(D8:H3 d1=false){K:A_}{x:V}(a1:At K G d1 x)(a2:At K G C_ x):False:=by
 cases C_<;>first
  |(cases DG;done)
  |(simp only[At]at a2;subst a2
    cases d1<;>first
     |(cases D8;done)
     |(simp only[At]at a1;obtain⟨a,xs,e,_⟩:=a1;cases e;done)
     |(simp only[At]at a1;obtain⟨a,Ag,xs,e,_⟩:=a1;cases e;done))
inductive HV(K:A_)(G:AC):D->A7->Bool->List D->List V->Prop where
 |tup {a ds xs} (h:CZ K G a xs) (q:Aa K G ds xs):HV K G (.tup ds) a true ds xs
 |EM {a ds xs} (h:CZ K G a xs) (q:Aa K G ds xs):HV K G (.EM ds) a true ds xs
 |lst {a ds xs} (h:G a=some (.lst xs)) (q:Aa K G ds xs):HV K G (.lst ds) a false ds xs
 |Co {a ds xs} (h:C9 K G a xs) (q:Aa K G ds xs):HV K G (.Co ds) a false ds xs
def TP{K:A_}{n:Nat}{d:D}{x:V}(o:okN n d=true)(ns:H3 d=false)(a:At K G d x):∃p b ds xs,x=.ref p/\HV K G d p b ds xs/\∃m,n=m+1/\ds.all (okN m)=true:=by
 cases d with
 |tup ds=>
  simp only[At]at a;obtain⟨p,xs,e,h,q⟩:=a;cases n with
  |zero=>cases o
  |succ m=>exact⟨p,_,ds,xs,e,.tup (CZ.of h) q,m,rfl,o⟩
 |lst ds=>
  simp only[At]at a;obtain⟨p,xs,e,h,q⟩:=a;cases n with
  |zero=>cases o
  |succ m=>exact⟨p,_,ds,xs,e,.lst h q,m,rfl,o⟩
 |Co ds=>
  simp only[At]at a;obtain⟨p,xs,e,h,q⟩:=a;cases n with
  |zero=>cases o
  |succ m=>exact⟨p,_,ds,xs,e,.Co h q,m,rfl,o⟩
 |Bg _ _=>cases n<;>cases o
 |Ai _ _=>cases n<;>cases o
 |ins _ _ _=>cases n<;>cases o
 |PD _=>cases n<;>cases o
 |EM ds=>
  simp only[At]at a;obtain⟨p,xs,e,h,q⟩:=a;cases n with
  |zero=>cases o
  |succ m=>exact⟨p,_,ds,xs,e,.EM h q,m,rfl,o⟩
 |_=>cases ns
def HV.Ic{K:A_}{d:D}{p:A7}{b:Bool}{ds:List D}{xs:List V}(h:HV K G d p b ds xs):Aa K G ds xs:=by cases h<;>assumption
def HV.eq{K:A_}{d1 C_:D}{EB D3:A7}{GQ G9:Bool}{Gb Gw:List D}{QA Nw:List V}(A6:HV K G d1 EB GQ Gb QA)(AA:HV K G C_ D3 G9 Gw Nw):Cq d1 C_=(GQ==G9&&Ea Gb Gw):=by cases A6<;>cases AA<;>simp[Cq]
theorem HV.heap(I:Inv X pins σ H s)(BK:Sub G H){d:D}{p:A7}{b:Bool}{ds:List D}{xs:List V}(h:HV X.K G d p b ds xs) :
  ∃its:List A8,Vals xs its/\(b=true->s.heap.IsTuple p its.toArray)/\(b=false->s.heap.IsList p its.toArray):=by
 cases h with
 |tup h q=>obtain⟨its,CL,Aj,_⟩:=I.tuple (CZ.mono BK h);exact⟨its,CL,λ_=>Aj,λz=>by cases z⟩
 |EM h q=>obtain⟨its,CL,Aj,_⟩:=I.tuple (CZ.mono BK h);exact⟨its,CL,λ_=>Aj,λz=>by cases z⟩
 |lst h q=>obtain⟨its,CL,Aj,_⟩:=I.list (C9.of (BK _ _ h));exact⟨its,CL,(λz=>by cases z),λ_=>Aj.isList⟩
 |Co h q=>obtain⟨its,CL,Aj,_⟩:=I.list (C9.mono BK h);exact⟨its,CL,(λz=>by cases z),λ_=>Aj.isList⟩
def HV.same(I:Inv X pins σ H s)(BK:Sub G H){d1 C_:D}{p:A7}{GQ G9:Bool}{Gb Gw:List D}{QA Nw:List V}(A6:HV X.K G d1 p GQ Gb QA)(AA:HV X.K G C_ p G9 Gw Nw):GQ=G9/\QA=Nw:=by
 obtain⟨PM,AL,t1,Hb⟩:=A6.heap I BK;obtain⟨Ht,B7,Do,E9⟩:=AA.heap I BK;cases GQ with
 |true=>
  cases G9 with
  |false=>exact absurd rfl (pA (E9 rfl) (t1 rfl))
  |true=>
   refine⟨rfl,?_⟩;cases A6<;>cases AA<;>
   exact I.cD (CZ.mono BK (by assumption)) (CZ.mono BK (by assumption))
 |false=>
  cases G9 with
  |true=>exact absurd rfl (pA (Hb rfl) (Do rfl))
  |false=>
   refine⟨rfl,?_⟩;have g1:C9 X.K H p QA:=by
    cases A6 with
    |lst h q=>exact C9.of (BK _ _ h)
    |Co h q=>exact C9.mono BK h
   have g2:C9 X.K H p Nw:=by
    cases AA with
    |lst h q=>exact C9.of (BK _ _ h)
    |Co h q=>exact C9.mono BK h
   exact I.bV g1 g2
def SB{f:D->Bool}{ds:List D}(h:ds.all f=true){i:Nat}{d:D}(e:ds[i]?=some d):f d=true:=List.all_eq_true.mp h d (KD e)
def q7(I:Inv X pins σ H s)(BK:Sub G H):∀(n:Nat){d1 C_:D}{x:V},okN n d1=true->okN n C_=true->At X.K G d1 x->At X.K G C_ x->Cq d1 C_=true:=by
 intro n;induction n with
 |zero=>intro d1 C_ x D8 DG a1 a2;exact ng (by cases d1<;>first|rfl|(cases D8)) a1 a2
 |succ n CA=>
  intro d1 C_ x D8 DG a1 a2;cases s1:H3 d1 with
  |true=>exact ng s1 a1 a2
  |false=>
   cases s2:H3 C_ with
   |true=>exact(hK s2 s1 a1 a2).elim
   |false=>
    obtain⟨EB,GQ,Gb,QA,A9,An,Ja,hD,Cn⟩:=TP D8 s1 a1;obtain⟨D3,G9,Gw,Nw,AM,BF,Jb,hE,C3⟩:=TP DG s2 a2;subst A9;cases AM;have:n=Ja:=by lia
    subst this;have:n=Jb:=by lia
    subst this;obtain⟨BV,ex⟩:=An.same I BK BF;subst BV;subst ex;rw[An.eq BF,beq_self_eq_true,S1];refine hL (An.Ic.length.trans BF.Ic.length.symm) λi a b B0 BV=>?_;obtain⟨v,ev,B8⟩:=An.Ic.get B0;obtain⟨N0,V4,bv⟩:=BF.Ic.get BV;rw[ev]at V4;cases V4;exact CA (SB Cn B0) (SB C3 BV) B8 bv
def eo(I:Inv X pins σ H s)(BK:Sub G H):∀(n:Nat){d1 C_:D}{u v:A8}{A:CR},okN n d1=true->okN n C_=true->Ml X.K G d1 u->Ml X.K G C_ v->A.units+n<DX->
  Tw A s u v (Cq d1 C_)/\Wg A s u v (Cq d1 C_)/\Wi A s u v (!Cq d1 C_):=by
 intro n;induction n with
 |zero=>
  intro d1 C_ u v A D8 DG a1 a2 BR;refine nd (Q0 I BK D8 a1) (Q0 I BK DG a2) ?_ ?_
  .cases d1<;>first|rfl|(cases D8)
  .cases C_<;>first|rfl|(cases DG)
 |succ n CA=>
  intro d1 C_ u v A D8 DG a1 a2 BR;have LW:A.units<DX:=by lia
  cases s1:H3 d1 with
  |true=>
   cases s2:H3 C_ with
   |true=>exact nd (Q0 I BK D8 a1) (Q0 I BK DG a2) s1 s2
   |false=>exact kX LW (Q0 I BK D8 a1) (Q0 I BK DG a2) (.inl ⟨s1,s2⟩)
  |false=>
   cases s2:H3 C_ with
   |true=>exact kX LW (Q0 I BK D8 a1) (Q0 I BK DG a2) (.inr ⟨s1,s2⟩)
   |false=>
    obtain⟨Ex,HD,aaO⟩:=a1;obtain⟨FC,at2,aaP⟩:=a2;obtain⟨EB,GQ,Gb,QA,A9,An,Ja,hD,Cn⟩:=TP D8 s1 HD;obtain⟨D3,G9,Gw,Nw,AM,BF,Jb,hE,C3⟩:=TP DG s2 at2;subst A9;subst AM;cases aaO;cases aaP;have:n=Ja:=by lia
    subst this;have:n=Jb:=by lia
    subst this;obtain⟨PM,AL,t1,Hb⟩:=An.heap I BK;obtain⟨Ht,B7,Do,E9⟩:=BF.heap I BK;have Sg:Gb.length=PM.length:=An.Ic.length.trans AL.length;have Uv:Gw.length=Ht.length:=BF.Ic.length.trans B7.length;have item:∀j(A6:j<PM.toArray.size)(AA:j<Ht.toArray.size),Tw A.in1 s PM.toArray[j] Ht.toArray[j] (Lw Gb Gw j):=λj A6 AA=>by
     have JZ:j<Gb.length:=by rw[Sg];simpa using A6
     have Uq:j<Gw.length:=by rw[Uv];simpa using AA
     have g1:Ml X.K G Gb[j] PM.toArray[j]:=Sa An.Ic AL j _ _ (Df JZ) (by simp at A6;simp[A6]);have g2:Ml X.K G Gw[j] Ht.toArray[j]:=Sa BF.Ic B7 j _ _ (Df Uq) (by simp at AA;simp[AA]);have:=(CA (A:=A.in1) (SB Cn (Df JZ)) (SB C3 (Df Uq)) g1 g2 (by rw[in1_units];lia)).1;unfold Lw;rw[Df JZ,Df Uq];exact this
    have whole:Wg A s (.ref EB) (.ref D3) (Cq d1 C_)/\Wi A s (.ref EB) (.ref D3) (!Cq d1 C_):=by
     rw[An.eq BF];cases GQ with
     |true=>
      cases G9 with
      |false=>exact⟨SeqAt.RcAt.tuple_list (t1 rfl) (E9 rfl) LW,SeqAt.RcNeAt.tuple_list (t1 rfl) (E9 rfl) LW⟩
      |true=>
       have BU:=SeqAt.RcAt.tuples (e:=Lw Gb Gw) (t1 rfl) (Do rfl) LW item;have E3:=SeqAt.RcNeAt.tuples (e:=Lw Gb Gw) (t1 rfl) (Do rfl) LW item;have eq:((Ds (min PM.toArray.size Ht.toArray.size)).all (Lw Gb Gw)&&PM.toArray.size==Ht.toArray.size)=(true==true&&Ea Gb Gw):=by
        rw[E0,E0,<-Sg,<-Uv,beq_self_eq_true,S1];by_cases AN:Gb.length=Gw.length
        .rw[<-AN,Nat.min_self,er AN,beq_self_eq_true,QR]
        .rw[ep AN];have:(Gb.length==Gw.length)=false:=by simpa using AN
         rw[this,dw]
       rw[eq]at BU;refine⟨BU,?_⟩
       first
        |(rw[eq]at E3;exact E3)
        |exact E3
     |false=>
      cases G9 with
      |true=>exact⟨SeqAt.RcAt.list_tuple (Hb rfl) (Do rfl) LW,SeqAt.RcNeAt.list_tuple (Hb rfl) (Do rfl) LW⟩
      |false=>
       rw[beq_self_eq_true,S1];by_cases AN:Gb.length=Gw.length
       .have BU:=SeqAt.RcAt.lists (e:=Lw Gb Gw) (Hb rfl) (E9 rfl) (by rw[E0,E0,<-Sg,<-Uv];exact AN) LW item;have E3:=SeqAt.RcNeAt.lists (e:=Lw Gb Gw) (Hb rfl) (E9 rfl) (by rw[E0,E0,<-Sg,<-Uv];exact AN) LW item;rw[E0,<-Sg,er AN]at BU E3;exact⟨BU,E3⟩
       .have BB:(PM.toArray.size !=Ht.toArray.size)=true:=by
          rw[E0,E0,<-Sg,<-Uv];simpa using AN
        rw[ep AN];exact⟨SeqAt.RcAt.lists_lengths (Hb rfl) (E9 rfl) BB LW,SeqAt.RcNeAt.lists_lengths (Hb rfl) (E9 rfl) BB LW⟩
    refine⟨?_,whole⟩;by_cases AZ:EB=D3
    .subst AZ;rw[q7 I BK (n+1) D8 DG HD at2];exact SeqAt.EqAt.same _
    .exact SeqAt.EqAt.of_refs AZ whole.1
end
def notStar:AT->Bool
 |.Starred .. =>false
 |_=>true
def aay(e:AT)(A5:List AT)(env:Env)(h:notStar e=true):BI (e::A5) env=(false,BN e env)::BI A5 env:=by cases e<;>first|rfl|(cases h)
def Pa:AT->Bool
 |.ListComp .. =>false
 |.SetComp .. =>false
 |.DictComp .. =>false
 |_=>true
def M9(e:AT)(t:Option AT)(l:Nat)(env:Env)(h:Pa e=true):Lk e t l env=pure false:=by cases e<;>first|rfl|(cases h)
def yp:AT->Bool
 |.Slice .. =>false
 |_=>true
def Cm{b:AT}(h:yp b=true:=by rfl):eV b:=λo i=>by cases b<;>first|rfl|(cases h)
section
variable{X:Ac}{F:B9}{e a b c:AT}{A5:List AT}{pos:Pos}
def Ax.imp{t t':TE}(h:Ax X e t)(i:Ec t' t):Ax X e t':=λpins s σ H Q I hw=>h pins s σ H Q I (i σ H Q hw)
def FX.imp{t t':TT}(h:FX X e t)(i:Oz t' t):FX X e t':=λpins s σ H Q I hw=>h pins s σ H Q I (i σ H Q hw)
def JD.imp{t t':TT}(h:JD X e t)(i:Oz t' t):JD X e t':=λRM pins s σ H Q I hw=>h RM pins s σ H Q I (i σ H Q hw)
def GN.imp{t t':Ez}(h:GN X A5 t)(i:eD t' t):GN X A5 t':=λp pins s σ H Q I hw=>h p pins s σ H Q I (i σ H Q hw)
def DH.imp{st:Bb}{t t':FJ}(h:DH X st t)(i:IL t' t):DH X st t':=λpins s σ H CY I hw=>h pins s σ H CY I (i CY σ H hw)
def GO.imp{st:List Bb}{t t':FJ}(h:GO X st t)(i:IL t' t):GO X st t':=λpins s σ H CY I hw=>h pins s σ H CY I (i CY σ H hw)
def Fl.imp{B_:AT}{t t':TI}(h:Fl X B_ e t)(i:Md t' t):Fl X B_ e t':=λpins s σ H Q I hw=>h pins s σ H Q I (i σ H Q hw)
abbrev J7(X:Ac)(F:B9)(e:AT)(m:Ab):Prop:=Ax X e (Cv F m)
abbrev ga(X:Ac)(F:B9)(e:AT)(m:Au):Prop:=Ax X e (Hf F m)
abbrev gr(X:Ac)(F:B9)(e:AT)(m:CN):Prop:=FX X e (H5 F m)
abbrev gW(X:Ac)(F:B9)(A5:List AT)(m:Au):Prop:=GN X A5 (Ew F m)
abbrev gp(X:Ac)(F:B9)(st:Bb)(m:Ao):Prop:=DH X st (Fj F m)
abbrev pj(X:Ac)(F:B9)(st:List Bb)(m:Ao):Prop:=GO X st (Fj F m)
abbrev U6(X:Ac)(F:B9)(B_ e:AT)(m:Au):Prop:=Fl X B_ e (KB F m)
def qy{x:Str}{v:V}{u:A8}{d:D}(hm:X.mg x=some u)(r:RelV v u)(at':∀G,At F.K G d v)(Ad:EG X x:=by rfl)(hd:(x==("__debug__" :Str))=false:=by decide):J7 X F (.Name x pos) (A4 d):=
 Ax.imp (jn Ad hm r hd) (Uk at')
variable{st:Bb}{RF:List Bb}
def Pr{op:Operator}{r:Ed}{f:D->D->R D}{m n:Ab}(ho:E7 X (J4 op) r)(hf:HU F r f)(AB:J7 X F a m)(A1:J7 X F b n):J7 X F (.BinOp a op b pos) (A3 f m n):=Ax.imp (bJ ho AB A1) (YB hf)
def Wy{op:KL}{r:Ed}{f:D->D->R D}{m n:Ab}(ho:E7 X (G6 op) r)(hf:HU F r f)(AB:J7 X F a m)(A1:J7 X F b n)(hm:IE op b=false):J7 X F (.Compare a [op] [b] pos) (A3 f m n):=Ax.imp (zm ho AB A1 hm) (YB hf)
def Q6{op:KL}{r:Ed}{f:D->D->R D}{m n:Ab}(ho:E7 X (G6 op) r)(hf:HU F r f)(AB:J7 X F a m)(A1:J7 X F b n)(hm:IE op b=false):gr X F (.Compare a [op] [b] pos) (Ah (A3 f m n)):=
 FX.imp (aaW ho AB A1 hm) λσ H Q h=>by obtain⟨G,ρ,r,k⟩:=iS (F:=F) (m:=A3 f m n) σ H Q h;exact YB hf σ H _ ⟨G,ρ,r,k⟩
def qz{op:UnaryOp}{r:V->AC->Cc->Prop}{f:D->R D}{m:Ab}(ho:XT X (unaryOp op) r)(hf:g9 F r f)(AB:J7 X F a m):J7 X F (.UnaryOp op a pos) (Cj f m):=Ax.imp (zD ho AB) (vR hf)
def LX(f:Int->Int->R D):D->D->R D
 |.int i,.int j=>f i j
 |_,_=>.bad
def ZU{g:Int->Int->V}{f:Int->Int->D}(h:∀i j G,At F.K G (f i j) (g i j)):HU F (Mt g) (LX λi j=>.ok (f i j)):=by
 intro σ ρ G H x y Ag Gc Q r Bu Cs k;unfold LX at k
 split at k
 .rename_i i j;simp only[At]at Bu Cs;exact⟨i,j,Bu,Cs,k _ H G r (C6.refl _ _) (h i j G)⟩
 .exact k.elim
def SU{C:Int->Int->Prop}[∀i j,Decidable (C i j)]{g:Int->Int->V}{f:Int->Int->D}(h:∀i j G,At F.K G (f i j) (g i j)):HU F (TK C g) (LX λi j=>if C i j then .ok (f i j)else .bad):=by
 intro σ ρ G H x y Ag Gc Q r Bu Cs k;unfold LX at k
 split at k
 .rename_i i j;simp only[At]at Bu Cs;dsimp only at k
  split at k
  .rename_i AK;exact⟨i,j,Bu,Cs,AK,k _ H G r (C6.refl _ _) (h i j G)⟩
  .exact k.elim
 .exact k.elim
instance(i j:Int):Decidable (Wn i j):=by unfold Wn;infer_instance
instance(i j:Int):Decidable (Wo i j):=by unfold Wo;infer_instance
instance(i j:Int):Decidable (SF i j):=by unfold SF;infer_instance
def RG:=LX λi j=>.ok (.int (i-j))
def M3:=LX λi j=>if SF i j then .ok (.int (i*j))else .bad
def Di:=LX λi j=>if Wn i j then .ok (.int (i/j))else .bad
def Ck:=LX λi j=>if 0<j then .ok (.int (i%j))else .bad
def O6:=LX λi j=>if Wo i j then .ok (.int (i^j.toNat))else .bad
def R_:=LX λi j=>.ok (.AO (decide (i<j)))
def Sf:=LX λi j=>.ok (.AO (decide (i<=j)))
def YX:=LX λi j=>.ok (.AO (decide (j<i)))
variable{m n:Ab}
def Jg:D->R D
 |.int i=>.ok (.int (-i))
 |_=>.bad
noncomputable def DL:D->D->R D
 |.int i,.int j=>.ok (.int (i+j))
 |.str x,.str y=>if x.length+y.length<=1000000 then .ok (.str (x++y))else .bad
 |.lst xs,.lst ys=>if xs.length+ys.length<=1000000 then .ok (.lst (xs++ys))else .bad
 |_,_=>.bad
def yB:HU F (λx y H Q=>Mt (λi j=>.int (i+j)) x y H Q\/(∃i j,x=.str i/\y=.str j/\i.length+j.length<=CF/\Q (.str (i++j)) H)\/lb x y H Q) DL:=by
 intro σ ρ G H x y Ag Gc Q r Bu Cs k;unfold DL at k
 split at k
 .rename_i i j;simp only[At]at Bu Cs;exact .inl ⟨i,j,Bu,Cs,k _ H G r (C6.refl _ _) (by simp only[At])⟩
 .rename_i i j;simp only[At]at Bu Cs
  split at k
  .rename_i AN;exact .inr (.inl ⟨i,j,Bu,Cs,FT AN (by decide),k _ H G r (C6.refl _ _) (by simp only[At])⟩)
  .exact k.elim
 .rename_i ds A5;simp only[At]at Bu Cs
  split at k
  .rename_i AN;obtain⟨p,xs,A9,A6,An⟩:=Bu;obtain⟨D3,ys,AM,AA,BF⟩:=Cs;refine .inr (.inr ⟨p,D3,xs,ys,A9,AM,r.kp.sub _ _ A6,r.kp.sub _ _ AA,by rw[<-An.length,<-BF.length];exact FT AN (by decide),λl AV=>?_⟩);refine k (.ref l) _ _ (r.lay AV) (C6.lay r.kp.sub AV) ?_;simp only[At];exact⟨l,xs++ys,rfl,Dz,(An.append BF).mono (Sub.upd (r.kp.sub.gone AV))⟩
  .exact k.elim
 .exact k.elim
def Ar(b:Bool)(x y:D):R D:=if okN 8 x=true/\okN 8 y=true then .ok (.AO (if b then Cq x y else !Cq x y))else .bad
def bP(F:B9)(b:Bool):Ed:=λx y H Q=>∃G d1 C_,Sub G H/\At F.K G d1 x/\At F.K G C_ y/\okN 8 d1=true/\okN 8 C_=true/\Q (.AO (if b then Cq d1 C_ else !Cq d1 C_)) H
def k9(Am:F.K=X.K)(BR:X.A.units+64<DX):E7 X (G6 .Eq) (bP F true):=by intro pins s σ H x y v u Q I BQ Bx h;obtain⟨G,d1,C_,BK,a1,a2,D8,DG,q⟩:=h;rw[Am]at a1 a2;exact(eo I BK 8 (A:=X.A) D8 DG ⟨x,a1,BQ⟩ ⟨y,a2,Bx⟩ (by lia)).2.1 X.prog X.w X.xe _ ⟨.AO _,H,I,rfl,q⟩
def kB(Am:F.K=X.K)(BR:X.A.units+64<DX):E7 X (G6 .NotEq) (bP F false):=by intro pins s σ H x y v u Q I BQ Bx h;obtain⟨G,d1,C_,BK,a1,a2,D8,DG,q⟩:=h;rw[Am]at a1 a2;exact(eo I BK 8 (A:=X.A) D8 DG ⟨x,a1,BQ⟩ ⟨y,a2,Bx⟩ (by lia)).2.2 X.prog X.w X.xe _ ⟨.AO _,H,I,rfl,q⟩
def ZS(b:Bool):HU F (bP F b) (Ar b):=by
 intro σ ρ G H x y Ag Gc Q r Bu Cs k;unfold Ar at k
 split at k
 .rename_i ho;exact⟨G,Ag,Gc,r.kp.sub,Bu,Cs,ho.1,ho.2,k _ H G r (C6.refl _ _) (by simp only[At])⟩
 .exact k.elim
end
section
variable{X:Ac}{F:B9}{e a b c:AT}{A5:List AT}{pos:Pos}{m n:Ab}
theorem hM:∀{ds ds':List D},ds.length=ds'.length->(∀(i:Nat) x y,ds[i]?=some x->ds'[i]?=some y->∀z,Cq x z=Cq y z)->∀A5,Ea ds A5=Ea ds' A5
 |[],[],_,_,_=>rfl
 |[],_::_,h,_,_=>by simp at h
 |_::_,[],h,_,_=>by simp at h
 |x::xs,y::ys,h,k,[]=>by simp only[Ea]
 |x::xs,y::ys,h,k,e::A5=>by simp only[Ea];rw[k 0 x y rfl rfl e,hM (by simpa using h) (λi a b A9 AM=>k (i+1) a b (by simpa using A9) (by simpa using AM)) A5]
def nf{K:A_}{G:AC}{d d':D}{x:V}(o:H3 d=true)(a1:At K G d x)(a2:At K G d' x):d=d':=by
 cases d with
 |non=>simp only[At]at a1;subst a1;cases d'<;>simp only[At]at a2<;>first|rfl|(cases a2;done)|(obtain⟨a,xs,e,_⟩:=a2;cases e;done)|(obtain⟨a,Ag,xs,e,_⟩:=a2;cases e;done)
 |AO b=>simp only[At]at a1;subst a1;cases d'<;>simp only[At]at a2<;>first|(cases a2;rfl)|(cases a2;done)|(obtain⟨a,xs,e,_⟩:=a2;cases e;done)|(obtain⟨a,Ag,xs,e,_⟩:=a2;cases e;done)
 |int b=>simp only[At]at a1;subst a1;cases d'<;>simp only[At]at a2<;>first|(cases a2;rfl)|(cases a2;done)|(obtain⟨a,xs,e,_⟩:=a2;cases e;done)|(obtain⟨a,Ag,xs,e,_⟩:=a2;cases e;done)
 |str b=>simp only[At]at a1;subst a1;cases d'<;>simp only[At]at a2<;>first|(cases a2;rfl)|(cases a2;done)|(obtain⟨a,xs,e,_⟩:=a2;cases e;done)|(obtain⟨a,Ag,xs,e,_⟩:=a2;cases e;done)
 |_=>cases o
def HV.val{K:A_}{G:AC}{d:D}{p:A7}{b:Bool}{ds:List D}{xs:List V}(h:HV K G d p b ds xs)(e:D):Cq d e=match e with
  |.tup A5=>b&&Ea ds A5
  |.EM A5=>b&&Ea ds A5
  |.lst A5=>!b&&Ea ds A5
  |.Co A5=>!b&&Ea ds A5
  |_=>false:=by
 cases h<;>cases e<;>simp[Cq]
section
variable{pins:List (A7×Obj)}{σ :St}{H G:AC}{s:AQ}
def q6(I:Inv X pins σ H s)(BK:Sub G H):∀(n:Nat){d d':D}{x:V},okN n d=true->okN n d'=true->At X.K G d x->At X.K G d' x->∀e,Cq d e=Cq d' e:=by
 intro n;induction n with
 |zero=>intro d d' x D8 DG a1 a2 e;rw[nf (by cases d<;>first|rfl|(cases D8)) a1 a2]
 |succ n CA=>
  intro d d' x D8 DG a1 a2 e;cases s1:H3 d with
  |true=>rw[nf s1 a1 a2]
  |false=>
   cases s2:H3 d' with
   |true=>exact(hK s2 s1 a1 a2).elim
   |false=>
    obtain⟨EB,GQ,Gb,QA,A9,An,Ja,hD,Cn⟩:=TP D8 s1 a1;obtain⟨D3,G9,Gw,Nw,AM,BF,Jb,hE,C3⟩:=TP DG s2 a2;subst A9;cases AM;have:n=Ja:=by lia
    subst this;have:n=Jb:=by lia
    subst this;obtain⟨BV,ex⟩:=An.same I BK BF;subst BV;subst ex;have el:∀A5,Ea Gb A5=Ea Gw A5:=hM (An.Ic.length.trans BF.Ic.length.symm) λi a b B0 BV z=>by obtain⟨v,ev,B8⟩:=An.Ic.get B0;obtain⟨N0,V4,bv⟩:=BF.Ic.get BV;rw[ev]at V4;cases V4;exact CA (SB Cn B0) (SB C3 BV) B8 bv z
    rw[An.val,BF.val];cases e<;>first|rfl|(simp only[el])
open Classical in
noncomputable def Pj(K:A_)(G:AC)(d:D)(u:A8):Bool:=if h:∃d',okN 7 d'=true/\Ml K G d' u then Cq (Classical.choose h) d else false
def gN(I:Inv X pins σ H s)(BK:Sub G H){d d1:D}{u:A8}(o:okN 7 d=true)(h:Ml X.K G d u):Pj X.K G d1 u=Cq d d1:=by have AI:∃d',okN 7 d'=true/\Ml X.K G d' u:=⟨d,o,h⟩;unfold Pj;rw[dif_pos AI];obtain⟨o',h'⟩:=Classical.choose_spec AI;obtain⟨x,a,r⟩:=h;obtain⟨TY,Ph,BS⟩:=h';have:TY=x:=BS.inj r;subst this;exact q6 I BK 7 o' o Ph a d1
theorem e6(I:Inv X pins σ H s)(BK:Sub G H){d1:D}:∀{ds:List D}{xs:List V}{its:List A8},Aa X.K G ds xs->Vals xs its->ds.all (okN 7)=true->its.any (Pj X.K G d1)=ds.any λy=>Cq y d1
 |[],_,_,q,r,_=>by simp only[Aa]at q;subst q;cases r;rfl
 |d::ds,_,_,q,r,o=>by
  simp only[Aa]at q;obtain⟨v,KY,rfl,B8,MK⟩:=q;cases r with
  |cons AL B7=>rw[NR,FV]at o;rw[NQ,NQ,gN I BK o.1 ⟨v,B8,AL⟩,e6 I BK MK B7 o.2]
theorem bc(I:Inv X pins σ H s)(BK:Sub G H){d1:D}{x:V}{v:A8}{A:CR}(BR:A.units+8<DX)(D8:okN 7 d1=true)(a1:At X.K G d1 x)(BQ:RelV x v):∀{ds:List D}{xs:List V}{its:List A8},Aa X.K G ds xs->Vals xs its->ds.all (okN 7)=true->
  ∀u∈its,Tw A s u v (Pj X.K G d1 u)
 |[],_,_,q,r,_=>by simp only[Aa]at q;subst q;cases r;exact λu BR=>nomatch BR
 |d::ds,_,_,q,r,o=>by
  simp only[Aa]at q;obtain⟨w,wr,rfl,B8,MK⟩:=q;cases r with
  |cons AL B7=>
   rw[NR,FV]at o;intro GK hm;rcases List.mem_cons.mp hm with e|hm
   .subst e;rw[gN I BK o.1 ⟨w,B8,AL⟩];exact(eo I BK 7 (A:=A) o.1 D8 ⟨w,B8,AL⟩ ⟨x,a1,BQ⟩ (by lia)).1
   .exact bc I BK BR D8 a1 BQ MK B7 o.2 GK hm
end
def Pz:D->Option (List D)
 |.tup ys=>some ys
 |.EM ys=>some ys
 |.lst ys=>some ys
 |.Co ys=>some ys
 |_=>none
def inD(b:Bool)(x y:D):R D:=match Pz y with
 |some ys=>if okN 7 x=true/\ys.all (okN 7)=true then .ok (.AO (if b then ys.any (λy=>Cq y x)else !ys.any λy=>Cq y x))else .bad
 |none=>.bad
noncomputable def ao(F:B9)(b:Bool):Ed:=λx y H Q=>∃G d1 C_ p ds xs k,Sub G H/\At F.K G d1 x/\y=.ref p/\HV F.K G C_ p k ds xs/\okN 7 d1=true/\ds.all (okN 7)=true/\Q (.AO (if b then ds.any (λy=>Cq y d1)else !ds.any λy=>Cq y d1)) H
def kA(Am:F.K=X.K)(BR:X.A.units+64<DX):E7 X (G6 .In) (ao F true):=by
 intro pins s σ H x y v u Q I BQ Bx h;obtain⟨G,d1,C_,p,ds,xs,k,BK,a1,rfl,H4,D8,DG,q⟩:=h;rw[Am]at a1 H4;cases Bx;obtain⟨its,AL,t1,Hb⟩:=H4.heap I BK;have q:Q (.AO (ds.any λy=>Cq y d1)) H:=q;rw[<-e6 I BK H4.Ic AL DG]at q;have hm:=bc I BK (A:=X.A.in1) (d1:=d1) (by rw[in1_units];lia) D8 a1 BQ H4.Ic AL DG;cases k with
 |true=>exact SeqAt.in_tupleAt (Pj X.K G d1) (t1 rfl) (λw hw=>hm w (by simpa using hw)) ⟨.AO _,H,I,rfl,by simpa using q⟩
 |false=>exact SeqAt.in_listAt (Pj X.K G d1) (Hb rfl) (λw hw=>hm w (by simpa using hw)) ⟨.AO _,H,I,rfl,by simpa using q⟩
def kC(Am:F.K=X.K)(BR:X.A.units+64<DX):E7 X (G6 .NotIn) (ao F false):=by
 intro pins s σ H x y v u Q I BQ Bx h;obtain⟨G,d1,C_,p,ds,xs,k,BK,a1,rfl,H4,D8,DG,q⟩:=h;rw[Am]at a1 H4;cases Bx;obtain⟨its,AL,t1,Hb⟩:=H4.heap I BK;have q:Q (.AO (!ds.any λy=>Cq y d1)) H:=q;rw[<-e6 I BK H4.Ic AL DG]at q;have hm:=bc I BK (A:=X.A.in1) (d1:=d1) (by rw[in1_units];lia) D8 a1 BQ H4.Ic AL DG;cases k with
 |true=>exact SeqAt.notIn_tupleAt (Pj X.K G d1) (t1 rfl) (λw hw=>hm w (by simpa using hw)) ⟨.AO _,H,I,rfl,by simpa using q⟩
 |false=>exact SeqAt.notIn_listAt (Pj X.K G d1) (Hb rfl) (λw hw=>hm w (by simpa using hw)) ⟨.AO _,H,I,rfl,by simpa using q⟩
def abO{K:A_}{G:AC}{d:D}{x:V}{ds:List D}(e:Pz d=some ds)(a:At K G d x):∃p xs k,x=.ref p/\HV K G d p k ds xs:=by
 cases d<;>first
  |(cases e;done)
  |(cases e
    simp only[At]at a;obtain⟨p,xs,e,h,q⟩:=a
    first
     |exact⟨p,xs,_,e,.tup (CZ.of h) q⟩
     |exact⟨p,xs,_,e,.EM h q⟩
     |exact⟨p,xs,_,e,.lst h q⟩
     |exact⟨p,xs,_,e,.Co h q⟩)
def ZT(b:Bool):HU F (ao F b) (inD b):=by
 intro σ ρ G H x y Ag Gc Q r Bu Cs k;unfold inD at k;cases e:Pz Gc with
 |none=>rw[e]at k;cases k
 |some ys=>
  rw[e]at k;dsimp only at k
  split at k
  .rename_i ho;obtain⟨p,xs,Bf,DY,H4⟩:=abO e Cs;exact⟨G,Ag,Gc,p,ys,xs,Bf,r.kp.sub,Bu,DY,H4,ho.1,ho.2,k _ H G r (C6.refl _ _) (by simp only[At])⟩
  .exact k.elim
def JY:D->Bool
 |.non=>true
 |_=>false
def Fa(b:Bool):D->D->R D
 |x,.non=>.ok (.AO (if b then JY x else !JY x))
 |_,_=>.bad
def j_{K:A_}{G:AC}{d:D}{x:V}(a:At K G d x):JY d=decide (x=.non):=by
 cases d<;>simp only[At]at a<;>first
  |(subst a;simp[JY];done)
  |(obtain⟨p,xs,e,_⟩:=a;subst e;simp[JY];done)
  |(obtain⟨p,Ag,xs,e,_⟩:=a;subst e;simp[JY];done)
def PP(f g:D->D->R D)(a b c:Ab):Ab:=λρ=>(a ρ).bind λx=>(b ρ).bind λy=>(f x y).bind λz=>(Mj z).bind λk=>if k=true then(c ρ).bind λw=>g y w else .ok (.AO false)
def jS{r BS:Ed}{f g:D->D->R D}{l:Ab}(hf:HU F r f)(Ad:HU F BS g):Ec (Cv F (PP f g m n l)) (cx r BS (Cv F m) (Cv F n) (Cv F l)):=by
 rintro σ H Q ⟨G,ρ,W3,h⟩;unfold PP at h;refine⟨G,ρ,W3,?_⟩;refine rb h λAg B0 h x H1 Af AL s1 Bu=>?_;refine⟨Af,ρ,AL,?_⟩;refine rb h λGc BV h y Az Cz B7 s2 Cs=>?_;refine hf σ ρ Cz Az x y Ag Gc _ B7 (Bu.mono s2.g) Cs ?_;refine rb h λqr DJ h z D0 GY Dy s3 Mk=>?_;cases qr with
 |AO k=>
  simp only[At]at Mk;refine⟨k,Mk,?_⟩;have h:J_ F G H σ ρ Q (if k=true then(l ρ).bind λw=>g Gc w else .ok (.AO false)):=h;cases k with
  |false=>rw[if_neg Fv]at h |-;exact h _ D0 GY Dy (s1.trans (s2.trans s3)) (by simp only[At])
  |true=>rw[if_pos rfl]at h |-;refine⟨GY,ρ,Dy,?_⟩;refine rb h λqq ec h w HA U1 L7 s4 Nr=>?_;exact Ad σ ρ U1 HA y w Gc qq Q L7 ((Cs.mono s3.g).mono s4.g) Nr (h.mono (s1.trans (s2.trans (s3.trans s4))))
 |_=>cases h
def ZV:HU F (Mt λi j=>.AO (decide (i<=j))) Sf:=ZU λ_ _ _=>by simp only[At]
end
section
variable{X:Ac}{F:B9}{e a b c:AT}{A5:List AT}{pos p:Pos}{m n:Ab}{ma:Au}
def Bm(f:List D->R D)(m:Au):Ab:=λρ=>(m ρ).bind f
def Ni(F:B9)(r:List V->AC->Cc->Prop)(f:List D->R D):Prop:=∀ σ ρ G H xs ds Q,Rel F G H σ ρ->Aa F.K G ds xs->J_ F G H σ ρ Q (f ds)->r xs H Q
def jR{r:List V->AC->Cc->Prop}{f:List D->R D}(hf:Ni F r f):Ec (Cv F (Bm f ma)) (Yf r (Ew F ma)):=by rintro σ H Q ⟨G,ρ,W3,h⟩;unfold Bm at h;refine⟨G,ρ,W3,?_⟩;refine rb h λds B0 h vs H1 Af AL s1 a=>?_;exact hf σ ρ Af H1 vs ds Q AL a (h.mono s1)
def fP{x:Str}{id:String}{r:List V->AC->Cc->Prop}{f:List D->R D}(AK:Hv X (.builtin id) r)(hf:Ni F r f)(hm:X.mg x=none)(Bc:Ku x=some (.builtin id))(AB:gW X F (e::A5) ma)(Ad:EG X x:=by rfl)(AV:x≠"__name__":=by decide)(Gq:(x==("__debug__" :Str))=false:=by decide)(he:BI (e::A5) X.env=(false,BN e X.env)::BI A5 X.env:=by rfl)(Dv:(DC pos (BI A5 X.env)).any (·.1)=false:=by rfl):J7 X F (.Call (.Name x p) (e::A5) [] pos) (Bm f ma):=
 Ax.imp (kI AK Ad hm Bc AB AV Gq he Dv) (jR hf)
def fQ{x:Str}{T:String}{r:List V->AC->Cc->Prop}{f:List D->R D}(AK:Hv X (.type T) r)(hf:Ni F r f)(hm:X.mg x=none)(Bc:Ku x=some (.type T))(AB:gW X F (e::A5) ma)(Ad:EG X x:=by rfl)(AV:x≠"__name__":=by decide)(Gq:(x==("__debug__" :Str))=false:=by decide)(he:BI (e::A5) X.env=(false,BN e X.env)::BI A5 X.env:=by rfl)(Dv:(DC pos (BI A5 X.env)).any (·.1)=false:=by rfl):J7 X F (.Call (.Name x p) (e::A5) [] pos) (Bm f ma):=
 Ax.imp (bH AK Ad hm Bc AB AV Gq he Dv) (jR hf)
noncomputable def CS:List D->R D
 |[.str x]=>if x.length<=1000000 then .ok (.int x.length)else .bad
 |[.lst xs]=>.ok (.int xs.length)
 |[.Co xs]=>.ok (.int xs.length)
 |[.tup xs]=>.ok (.int xs.length)
 |[.EM xs]=>.ok (.int xs.length)
 |_=>.bad
def Aa.one{K:A_}{G:AC}{d:D}{vs:List V}(a:Aa K G [d] vs):∃v,vs=[v]/\At K G d v:=by simp only[Aa]at a;obtain⟨v,r,rfl,h,rfl⟩:=a;exact⟨v,rfl,h⟩
def Aa.two{K:A_}{G:AC}{d e:D}{vs:List V}(a:Aa K G [d,e] vs):∃v w,vs=[v,w]/\At K G d v/\At K G e w:=by simp only[Aa]at a;obtain⟨v,r,rfl,h,w,BS,rfl,h',rfl⟩:=a;exact⟨v,w,rfl,h,h'⟩
def yH(Am:F.K=X.K):Ni F (λxs H Q=>∃x n,xs=[x]/\gh X.K x H n/\Q (.int n) H) CS:=by
 intro σ ρ G H xs ds Q r al k;unfold CS at k
 split at k
 .rename_i x;obtain⟨v,rfl,B8⟩:=al.one;simp only[At]at B8;subst B8
  split at k
  .rename_i AN;exact⟨_,x.length,rfl,⟨FT AN (by decide),rfl⟩,k _ H G r (C6.refl _ _) (by simp only[At])⟩
  .exact k.elim
 .rename_i ys;obtain⟨v,rfl,B8⟩:=al.one;simp only[At]at B8;obtain⟨q,xs,rfl,h,al⟩:=B8;rw[al.length]at k;exact⟨_,xs.length,rfl,.inl ⟨xs,C9.of (r.kp.sub _ _ h),rfl⟩,k _ H G r (C6.refl _ _) (by simp only[At])⟩
 .rename_i ys;obtain⟨v,rfl,B8⟩:=al.one;simp only[At]at B8;obtain⟨q,xs,rfl,h,al⟩:=B8;rw[al.length]at k;rw[Am]at h;exact⟨_,xs.length,rfl,.inl ⟨xs,C9.mono r.kp.sub h,rfl⟩,k _ H G r (C6.refl _ _) (by simp only[At])⟩
 .rename_i ys;obtain⟨v,rfl,B8⟩:=al.one;simp only[At]at B8;obtain⟨q,xs,rfl,h,al⟩:=B8;rw[al.length]at k;exact⟨_,xs.length,rfl,.inr ⟨xs,CZ.of (r.kp.sub _ _ h),rfl⟩,k _ H G r (C6.refl _ _) (by simp only[At])⟩
 .rename_i ys;obtain⟨v,rfl,B8⟩:=al.one;simp only[At]at B8;obtain⟨q,xs,rfl,h,al⟩:=B8;rw[al.length]at k;rw[Am]at h;exact⟨_,xs.length,rfl,.inr ⟨xs,CZ.mono r.kp.sub h,rfl⟩,k _ H G r (C6.refl _ _) (by simp only[At])⟩
 .exact k.elim
noncomputable def Vg:D->Option String
 |.non=>some "NoneType"
 |.AO _=>some "bool"
 |.int _=>some "int"
 |.str _=>some "str"
 |.lst _=>some "list"
 |.Co _=>some "list"
 |.tup _=>some "tuple"
 |.EM _=>some "tuple"
 |.Bg _ _=>some "dict"
 |.Ai _ _=>some "dict"
 |_=>none
def cr(T U:String):Bool:=T==U||(T=="bool"&&U=="int")
def K3(U:String)(d:D):R D:=match Vg d with
 |some T=>.ok (.AO (cr T U))
 |none=>.bad
def Qp(K:A_)(U:String):Prop:=∀T,T="NoneType"\/T="bool"\/T="int"\/T="str"\/T="list"\/T="tuple"\/T="dict"->PySem.W.kitOne K (.type T) (.type U)=some (cr T U)
def acu(K:A_):Qp K "int":=λT h=>by rcases h with rfl|rfl|rfl|rfl|rfl|rfl|rfl<;>kernel_rfl
def acs(K:A_):Qp K "bool":=λT h=>by rcases h with rfl|rfl|rfl|rfl|rfl|rfl|rfl<;>kernel_rfl
def ac4(K:A_):Qp K "str":=λT h=>by rcases h with rfl|rfl|rfl|rfl|rfl|rfl|rfl<;>kernel_rfl
def ac3(K:A_):Qp K "list":=λT h=>by rcases h with rfl|rfl|rfl|rfl|rfl|rfl|rfl<;>kernel_rfl
def ac5(K:A_):Qp K "tuple":=λT h=>by rcases h with rfl|rfl|rfl|rfl|rfl|rfl|rfl<;>kernel_rfl
def vf{pins:List (A7×Obj)}{σ :St}{H G:AC}{s:AQ}{Q:A8->AQ->Prop}{E:A8->AQ->Prop}{d:D}{x:V}{u:A8}{T U:String}{k:Bool}(I:Inv X pins σ H s)(BK:Sub G H)(at':At X.K G d x)(BQ:RelV x u)(e:Vg d=some T)(tt:PySem.W.kitOne X.K (.type T) (.type U)=some k)(h:∀CV,Q (.bool k) { s with toks:=CV }):Al (BG X.prog X.w) X.A (call (.builtin "isinstance") [u,.type U]) Q E s:=by
 cases d with
 |non=>cases e;simp only[At]at at';subst at';cases BQ;exact MR PySem.W.kitx_none I.EQ L2 tt (λz=>nomatch z) h
 |AO b=>cases e;simp only[At]at at';subst at';cases BQ;exact MR PySem.W.kitx_bool I.EQ L2 tt (λz=>nomatch z) h
 |int b=>cases e;simp only[At]at at';subst at';obtain⟨t,rfl⟩:=BQ;exact MR PySem.W.kitx_int I.EQ L2 tt (λz=>nomatch z) h
 |str b=>cases e;simp only[At]at at';subst at';obtain⟨t,rfl⟩:=BQ;exact MR PySem.W.kitx_str I.EQ L2 tt (λz=>nomatch z) h
 |lst ds=>cases e;simp only[At]at at';obtain⟨q,xs,rfl,AW,_⟩:=at';cases BQ;obtain⟨its,_,⟨o,n,A9,AM,_⟩,_⟩:=I.list (C9.of (BK _ _ AW));exact MR pW I.EQ ⟨o,A9,AM⟩ tt (λz=>nomatch z) h
 |Co ds=>cases e;simp only[At]at at';obtain⟨q,xs,rfl,AW,_⟩:=at';cases BQ;obtain⟨its,_,⟨o,n,A9,AM,_⟩,_⟩:=I.list (C9.mono BK AW);exact MR pW I.EQ ⟨o,A9,AM⟩ tt (λz=>nomatch z) h
 |tup ds=>cases e;simp only[At]at at';obtain⟨q,xs,rfl,AW,_⟩:=at';cases BQ;obtain⟨its,_,⟨o,A9,AM,_⟩,_⟩:=I.tuple (CZ.of (BK _ _ AW));exact MR pT I.EQ ⟨o,A9,AM⟩ tt (λz=>nomatch z) h
 |EM ds=>cases e;simp only[At]at at';obtain⟨q,xs,rfl,AW,_⟩:=at';cases BQ;obtain⟨its,_,⟨o,A9,AM,_⟩,_⟩:=I.tuple (CZ.mono BK AW);exact MR pT I.EQ ⟨o,A9,AM⟩ tt (λz=>nomatch z) h
 |Bg ks ds=>cases e;simp only[At]at at';obtain⟨q,xs,rfl,AW,_⟩:=at';cases BQ;obtain⟨_,_,vs,_,o,A5,BY,A6,AA,_⟩:=(show FW X.prog X.w X.K H s.heap q (.Bg xs)from I.Be q _ (BK _ _ AW));exact MR pX I.EQ ⟨o,A6,AA.1⟩ tt (λz=>nomatch z) h
 |Ai ks ds=>cases e;simp only[At]at at';obtain⟨q,xs,rfl,AW,_⟩:=at';cases BQ;obtain⟨_,_,zs,_,o,A5,BY,A6,AA,_⟩:=(show FW X.prog X.w X.K H s.heap q (.Ai xs)from I.Be q _ (BK _ _ AW));exact MR pX I.EQ ⟨o,A6,AA.1⟩ tt (λz=>nomatch z) h
 |ins C ns ds=>cases e
 |PD C=>cases e
def acI{d:D}{T:String}(e:Vg d=some T):T="NoneType"\/T="bool"\/T="int"\/T="str"\/T="list"\/T="tuple"\/T="dict":=by cases d<;>cases e<;>simp
def aaq(F:B9)(U:String):List V->AC->Cc->Prop:=λxs H Q=>∃G d x T,Sub G H/\xs=[x,.ty U]/\At F.K G d x/\Vg d=some T/\Q (.AO (cr T U)) H
def rT{U:String}(Am:F.K=X.K)(tt:Qp X.K U):Hv X (.builtin "isinstance") (aaq F U):=by intro pins s σ H xs us Q I r h;obtain⟨G,d,x,T,BK,rfl,a,e,q⟩:=h;obtain⟨u,Fd,rfl,BQ,FP⟩:=vals2 r;obtain rfl:Fd=QL U:=FP;rw[Am]at a;exact vf I BK a BQ e (tt T (acI e)) λCV=>⟨.AO _,H,I.tok CV,rfl,q⟩
noncomputable def AH:D->D->R D
 |.lst xs,.int i=>match Fy xs i with|some d=>.ok d|none=>.bad
 |.Co xs,.int i=>match Fy xs i with|some d=>.ok d|none=>.bad
 |.tup xs,.int i=>match Fy xs i with|some d=>.ok d|none=>.bad
 |.EM xs,.int i=>match Fy xs i with|some d=>.ok d|none=>.bad
 |.str x,.int i=>if x.length<=1000000 then match Fy x.cps.toList i with|some c=>.ok (.str ⟨#[c]⟩)|none=>.bad else .bad
 |_,_=>.bad
def Xg{K:A_}{G:AC}{ds:List D}{xs:List V}{i:Int}{d:D}(q:Aa K G ds xs)(e:Fy ds i=some d):∃v,Fy xs i=some v/\At K G d v:=by
 unfold Fy at e |-;rw[q.length]at e;cases JS:IH xs.length i with
 |none=>rw[JS]at e;cases e
 |some j=>rw[JS]at e;obtain⟨v,A9,a⟩:=q.get e;exact⟨v,A9,a⟩
def yG(Am:F.K=X.K):HU F (lg X.K) AH:=by
 intro σ ρ G H x y Ag Gc Q r Bu Cs k;unfold AH at k
 split at k
 .rename_i ds i;simp only[At]at Bu Cs;obtain⟨p,xs,e,h,q⟩:=Bu
  split at k
  .rename_i d EY;obtain⟨v,ev,B8⟩:=Xg q EY;exact .inl ⟨p,xs,i,v,e,Cs,C9.of (r.kp.sub _ _ h),ev,k _ H G r (C6.refl _ _) B8⟩
  .exact k.elim
 .rename_i ds i;simp only[At]at Bu Cs;obtain⟨p,xs,e,h,q⟩:=Bu
  split at k
  .rename_i d EY;obtain⟨v,ev,B8⟩:=Xg q EY;have h':=h;rw[Am]at h';exact .inl ⟨p,xs,i,v,e,Cs,C9.mono r.kp.sub h',ev,k _ H G r (C6.refl _ _) B8⟩
  .exact k.elim
 .rename_i ds i;simp only[At]at Bu Cs;obtain⟨p,xs,e,h,q⟩:=Bu
  split at k
  .rename_i d EY;obtain⟨v,ev,B8⟩:=Xg q EY;exact .inr (.inl ⟨p,xs,i,v,e,Cs,CZ.of (r.kp.sub _ _ h),ev,k _ H G r (C6.refl _ _) B8⟩)
  .exact k.elim
 .rename_i ds i;simp only[At]at Bu Cs;obtain⟨p,xs,e,h,q⟩:=Bu
  split at k
  .rename_i d EY;obtain⟨v,ev,B8⟩:=Xg q EY;have h':=h;rw[Am]at h';exact .inr (.inl ⟨p,xs,i,v,e,Cs,CZ.mono r.kp.sub h',ev,k _ H G r (C6.refl _ _) B8⟩)
  .exact k.elim
 .rename_i z i;simp only[At]at Bu Cs
  split at k
  .rename_i AN
   split at k
   .rename_i c ec;exact .inr (.inr ⟨z,i,c,Bu,Cs,FT AN (by decide),ec,k _ H G r (C6.refl _ _) (by simp only[At])⟩)
   .exact k.elim
  .exact k.elim
 .exact k.elim
end
section
variable{X:Ac}{F:B9}{e a b c:AT}{A5:List AT}{pos p:Pos}{m n:Ab}{ma:Au}
def Fz{α:Type}(xs:List α)(lo AD:Option Int):List α:=(xs.drop (E1.Cf xs.length 0 lo)).take (E1.Cf xs.length xs.length AD-E1.Cf xs.length 0 lo)
def Qv(x:Str)(lo AD:Option Int):Str:=⟨(Fz x.cps.toList lo AD).toArray⟩
def ab1(lo AD:Option Int)(n:Nat):pK lo AD 1 n=(Ds (E1.Cf n n AD-E1.Cf n 0 lo)).map (E1.Cf n 0 lo+·):=by
 rw[<-sliceRange_one];unfold pK;simp only[show(1:Int)>0 by decide,if_true]
 congr 1
 .cases lo with
  |none=>rfl
  |some i=>
   show max 0 (min (if i<0 then i+(n:Int)else i) (n:Int))=((if i<0 then(i+(n:Int)).toNat else min i.toNat n:Nat):Int)
   split<;>lia
 .cases AD with
  |none=>rfl
  |some i=>
   show max 0 (min (if i<0 then i+(n:Int)else i) (n:Int))=((if i<0 then(i+(n:Int)).toNat else min i.toNat n:Nat):Int)
   split<;>lia
def cU(n:Nat)(v:Option Int){d:Nat}(hd:d<=n):E1.Cf n d v<=n:=by
 cases v with
 |none=>exact hd
 |some i=>
  show(if i<0 then(i+(n:Int)).toNat else min i.toNat n)<=n
  split<;>lia
def abI(x:Str)(lo AD:Option Int):Tu x lo AD=Qv x lo AD:=by
 have AN:x.cps.toList.length=x.length:=by simp[Str.length]
 unfold Tu Qv Fz;rw[ab1,AN]
 split
 .rename_i h;have h:E1.Cf x.length x.length AD-E1.Cf x.length 0 lo=x.length:=by simpa using h
  have A6:=cU x.length AD (Ci _);have AA:E1.Cf x.length 0 lo=0\/x.length=0:=by lia
  have e:(x.cps.toList.drop (E1.Cf x.length 0 lo)).take (E1.Cf x.length x.length AD-E1.Cf x.length 0 lo)=x.cps.toList:=by
   rw[h];rcases AA with z|z
   .rw[z,List.drop_zero,d9 (by lia)]
   .have DN:x.cps.toList=[]:=List.length_eq_zero_iff.mp (by lia);rw[DN];simp
  rw[e]
 .rw[pick_run]
def l3:V->Option Int->Option Int->AC->Cc->Prop:=λx lo AD H Q=>∃z,x=.str z/\z.length<=CF/\Q (.str (Qv z lo AD)) H
def kF{v:A8}{o:Option Int}(h:NX v o):∃l:Option (Int×Tok),v=partValue l/\l.map (·.1)=o:=by
 cases h with
 |none=>exact⟨none,rfl,rfl⟩
 |int i t=>exact⟨some (i,t),rfl,rfl⟩
theorem abD:Pe X l3:=by
 intro pins s σ H x v HM HN lo AD CE Q I BQ AJ pl pu h;obtain⟨z,rfl,BB,q⟩:=h;obtain⟨t,rfl⟩:=BQ;obtain⟨l,rfl,el⟩:=kF pl;obtain⟨u,rfl,MM⟩:=kF pu;refine⟨"str",_,F.slot_str_getitem.lookup,typeIs_str s z t,wpAny_getItem_str_slice (l:=l) (u:=u) (st:=none) ?_ rfl ?_⟩
 .obtain⟨o,A6,AA,B4⟩:=AJ;exact⟨o,A6,AA,B4⟩
 .have e:Tu z lo AD=Qv z lo AD:=abI z lo AD;have fin:∀t' k,GL X pins σ Q (.str (Tu z lo AD) t') { s with toks:=k }:=λt' k=>⟨.str (Qv z lo AD),H,I.tok k,⟨t',by rw[e]⟩,q⟩;unfold Tu at fin;subst el MM;exact post_val_or_str ⟨FT (Txt.slice_le z _ _) BB,fin⟩
abbrev Me:=AG->R (Option Int)
def Jd:Me:=λ_=>.ok none
def intD:D->R (Option Int)
 |.int i=>.ok (some i)
 |_=>.bad
def FN(m:Ab):Me:=λρ=>(m ρ).bind intD
def ww(F:B9)(G H:AC)(σ :St)(ρ:AG)(Q:Option Int->AC->Prop):R (Option Int)->Prop
 |.ok o=>∀H' G',Rel F G' H' σ ρ->C6 G H G' H'->Q o H'
 |.exc c=>NF F c
 |.bad=>False
def V_(F:B9)(m:Me):CD:=λσ H Q=>∃G ρ,Rel F G H σ ρ/\ww F G H σ ρ Q (m ρ)
def Fh(f:D->Option Int->Option Int->R D)(m:Ab)(lo AD:Me):Ab:=λρ=>(m ρ).bind λd=>(lo ρ).bind λl=>(AD ρ).bind λh=>f d l h
def JJ(d:D)(l h:Option Int):R D:=match d with
 |.lst xs=>.ok (.lst (Fz xs l h))
 |.Co xs=>.ok (.lst (Fz xs l h))
 |.str x=>if x.length<=1000000 then .ok (.str (Qv x l h))else .bad
 |_=>.bad
def Aa.cut{K:A_}{G:AC}{ds:List D}{xs:List V}(q:Aa K G ds xs)(l h:Option Int):Aa K G (Fz ds l h) (Pn xs l h):=by unfold Fz Pn;rw[q.length];exact(q.drop _).take _
def vL(Am:F.K=X.K){lo AD:Me}:Ec (Cv F (Fh JJ m lo AD)) (c7 (λx lo AD H Q=>l2 X.K x lo AD H Q\/l3 x lo AD H Q) (Cv F m) (V_ F lo) (V_ F AD)):=by
 rintro σ H Q ⟨G,ρ,r,h⟩;unfold Fh at h;refine⟨G,ρ,r,?_⟩;refine rb h λd B0 h x H1 Af AL s1 Bu=>?_;refine⟨Af,ρ,AL,?_⟩;refine rb h λl el h Az Cz B7 s2=>?_;refine⟨Cz,ρ,B7,?_⟩;refine rb h λu Ps h D0 GY Dy s3=>?_;have up:=s1.trans (s2.trans s3);have Nt:=(Bu.mono s2.g).mono s3.g;cases d with
 |lst ds=>simp only[At]at Nt;obtain⟨q,xs,rfl,AW,al⟩:=Nt;refine .inl ⟨q,xs,rfl,C9.of (Dy.kp.sub _ _ AW),λE9 AV=>?_⟩;refine h (.ref E9) _ _ (Dy.lay AV) (up.trans (C6.lay Dy.kp.sub AV)) ?_;simp only[At];exact⟨E9,_,rfl,Dz,(al.cut l u).mono (Sub.upd (Dy.kp.sub.gone AV))⟩
 |Co ds=>simp only[At]at Nt;obtain⟨q,xs,rfl,AW,al⟩:=Nt;have PH:=AW;rw[Am]at PH;refine .inl ⟨q,xs,rfl,C9.mono Dy.kp.sub PH,λE9 AV=>?_⟩;refine h (.ref E9) _ _ (Dy.lay AV) (up.trans (C6.lay Dy.kp.sub AV)) ?_;simp only[At];exact⟨E9,_,rfl,Dz,(al.cut l u).mono (Sub.upd (Dy.kp.sub.gone AV))⟩
 |str z=>
  simp only[At]at Nt;have h:J_ F G H σ ρ Q (if z.length<=1000000 then .ok (.str (Qv z l u))else .bad):=h
  split at h
  .rename_i BB;exact .inr ⟨z,Nt,FT BB (by decide),h _ D0 GY Dy up (by simp only[At])⟩
  .exact h.elim
 |_=>cases h
def TR:List D->R D
 |[.int i]=>if i.natAbs.log2<1920 then .ok (.str (toString i))else .bad
 |_=>.bad
def yL:Ni F (λxs H Q=>∃i,xs=[.int i]/\i.natAbs.log2<1920/\Q (.str (toString i)) H) TR:=by
 intro σ ρ G H xs ds Q r al k;unfold TR at k
 split at k
 .rename_i i
  split at k
  .rename_i AN;exact⟨i,al.ints1,AN,k _ H G r (C6.refl _ _) (by simp only[At])⟩
  .exact k.elim
 .exact k.elim
def rS:Hv X (.type "int") (λxs H Q=>(∃i,xs=[.int i]/\Q (.int i) H)\/∃x i,xs=[.str x]/\x.length<=640/\intText? x=some i/\Q (.int i) H):=by
 intro pins s σ H xs us Q I r h;rcases h with⟨i,rfl,q⟩|⟨x,i,rfl,AN,AD,q⟩
 .obtain⟨u,rfl,t,rfl⟩:=vals1 r;exact call_int_int ⟨.int i,H,I,⟨_,rfl⟩,q⟩
 .obtain⟨u,rfl,t,rfl⟩:=vals1 r;exact PySem.W.KIN.call_text AD AN ⟨.int i,H,I.tok _,⟨_,rfl⟩,q⟩
end
end CT
namespace C1
open PySem PySem.Spec
section
variable{prog:C2}{w:Bh}{A:CR}{E:A8->AQ->Prop}{s:AQ}
def yd{it t:A7}{i:Nat}{items:Array A8}{x:A8}{Q:A8->AQ->Prop}(hit:s.heap.IsTupleIter it t i)(Aj:s.heap.IsTuple t items)(AI:items[i]?=some x)(Dk:∀h',h'.IsTupleIter it t (i+1)->Iz it s.heap h'->Q x { s with heap:=h' }):Al (BG prog w) A (Oe (.ref it)) Q E s:=by
 obtain⟨o,ho,AK,hd⟩:=id hit;obtain⟨ol,a7,_,nl,ae⟩:=Aj;unfold Oe
 refine AR (MW (name:=Fw "__next__") hit.typeIs WL
  (J3 WL hit.typeIs pL ?_ (oz _)))
 show Al _ _ (field (.ref it) 0>>=_) _ _ s;refine AR (HS ho hd (x:=.ref t) rfl ?_);show Al _ _ (if(Db t==GG)=true then _ else _) _ _ s;rw[if_neg (show¬((Db t==GG)=true)from Fv)];show Al _ _ (field (.ref it) 1>>=_) _ _ s;refine AR (HS ho hd (x:=.int i 0) rfl ?_);show Al _ _ (seqItems? (.ref t)>>=_) _ _ s;refine AR (Lf a7 ae ?_);simp only[MT,AI];refine AR (Rz ho hd (by simp) (BM ⟨x,rfl,BM (Dk _ ?_ (Ky ..))⟩));exact⟨_,NO _ ho (dE (Tc hd _)),(Obj.cls_mapFields ..).trans AK,by
  rw[Tc hd];simp[KI]⟩
def yb{it t:A7}{i:Nat}{items:Array A8}{Q:A8->AQ->Prop}(BE:A.handled=none)(hit:s.heap.IsTupleIter it t i)(Aj:s.heap.IsTuple t items)(AI:items[i]?=none)(K2:∀h' e,Heap.ExtBut it s.heap h'->(∃o,h'.get? e=some o/\o.cls=.type "StopIteration")->E (.ref e) { s with heap:=h' }):Al (BG prog w) A (Oe (.ref it)) Q E s:=by
 obtain⟨o,ho,AK,hd⟩:=id hit;obtain⟨ol,a7,_,nl,ae⟩:=Aj;unfold Oe
 refine AR (MW (name:=Fw "__next__") hit.typeIs WL
  (J3 WL hit.typeIs pL ?_ (oz _)))
 show Al _ _ (field (.ref it) 0>>=_) _ _ s;refine AR (HS ho hd (x:=.ref t) rfl ?_);show Al _ _ (if(Db t==GG)=true then _ else _) _ _ s;rw[if_neg (show¬((Db t==GG)=true)from Fv)];show Al _ _ (field (.ref it) 1>>=_) _ _ s;refine AR (HS ho hd (x:=.int i 0) rfl ?_);show Al _ _ (seqItems? (.ref t)>>=_) _ _ s;refine AR (Lf a7 ae ?_);simp only[MT,AI];refine AR (MZ (AR (Rz ho hd (by simp) ?_)));show Al _ _ (newExc (.type "StopIteration") []>>=_) _ _ _;refine AR ?_;simp only[newExc,newTuple];refine AR (Jo ?_ (by size_fits));refine AR (m:=S0 _ _) (wpAny_of_eq (a:=GG) (by first|rfl|(simp only[S0];rfl)) ?_);refine Jo ?_ (by size_fits);simp only[raiseNew];refine AR (wpAny_handled ?_)
 first|rw[show A.in1.handled=none from BE]|rw[BE]
 refine AR (BM (wpAny_throw ?_));exact K2 _ _ (((Ky ..).extBut.push _).push _) ⟨_,F4 _ rfl,rfl⟩
def h7(BE:A.handled=none)(it l:A7)(OQ:l≠it)(items:Array A8) :
  Draws prog w A it [it,l] items.size (λi v=>items[i]?=some v) (λi h=>h.IsTupleIter it l i/\h.IsTuple l items) where
 live:=λ_ _ st=>let⟨o,ho,_⟩:=st.1;⟨o,ho⟩
 frame:=λ_ _ _ st AF=>⟨st.1.at λo e=>AF it (by simp) o e,st.2.at λo e=>AF l (by simp) o e⟩
 item:=λi s Q E AD st Dk=>by refine yd st.1 st.2 (x:=items[i]) (by simp[AD]) λh' SW Fo=>?_;exact Dk _ h' s.toks (by simp[AD]) ⟨SW,st.2.extBut Fo.extBut OQ⟩ Fo
 done:=λs Q E st K2=>yb BE st.1 st.2 (by simp) K2
structure S9(z TI CD BZ Bl:A7)(f1 f2:List A7):Prop where
 TIz:TI≠z
 TOz:CD≠z
 TITO:TI≠CD
 TIi1:TI≠BZ
 TIi2:TI≠Bl
 TOi1:CD≠BZ
 TOi2:CD≠Bl
 i1z:BZ≠z
 i2z:Bl≠z
 i12:BZ≠Bl
 et:z∉f1
 gv:CD∉f1
 sy:Bl∉f1
 fR:z∉f2
 eu:CD∉f2
 gx:BZ∉f2
def LR{Ak:List A7}{n:Nat}{P:Nat->A8->Prop}{St:Nat->BP->Prop}{it b:A7}{h h':BP}{i:Nat}(D:Draws prog w A it Ak n P St)(st:St i h)(AJ:Iz b h h')(A1:b∉Ak):St i h':=
 D.frame i h h' st λc AK o e=>AJ.extBut c o (λz=>A1 (z▸AK)) e
def af1 {z TI CD BZ Bl:A7} {f1 f2:List A7} {DT Dx i:Nat} {Ia I0:Nat->A8->Prop} {JE JF:Nat->BP->Prop} {a b:A8} {Q:A8->AQ->Prop} (Hw:Draws prog w A BZ f1 DT Ia JE) (HT:Draws prog w A Bl f2 Dx I0 JF) (ap:S9 z TI CD BZ Bl f1 f2)(BB:IV s.heap z TI CD .none) (IT:GW s.heap TI (.ref BZ) (.ref Bl)) (Ij:GW s.heap CD a b) (A6:JE i s.heap) (AA:JF i s.heap) (Hb:i<DT) (E9:i<Dx)(Dk:∀x y h' CV,Ia i x->I0 i y->IV h' z TI CD (KI s.heap.objs.size)->GW h' CD x y->JE (i+1) h'->JF (i+1) h'->GW h' s.heap.objs.size x y->h'.objs.size=s.heap.objs.size+1->
    (∀c o,c≠z->c≠CD->c≠BZ->c≠Bl->s.heap.get? c=some o->h'.get? c=some o)->Q (.ref s.heap.objs.size) { s with heap:=h',toks:=CV }) :
  Al (BG prog w) A (NT.«zip.__next__» ⟨[.ref z],[]⟩) (λfin s'=>∃v,fin=.done (.ret v)/\Q v s') E s:=by
 show Al _ _ (field (.ref z) 2>>=_) _ _ _;refine AR (HS BB rfl (x:=.bool false) rfl ?_);show Al _ _ (field (.ref z) 3>>=_) _ _ _;refine AR (HS BB rfl (x:=.ref TI) rfl ?_);refine AR (Lf IT rfl ?_);show Al _ _ (W6 (.ref z)>>=_) _ _ _;refine AR ?_;unfold W6;refine AR (HS BB rfl (x:=.none) rfl (BM ?_));simp only[if_true];refine AR (MZ ?_);refine AR (HS BB rfl (x:=.ref CD) rfl ?_);refine AR (Rt BB (by simp) λJX PL Lu=>?_);replace PL:IV JX z TI CD .ellipsis:=PL;refine AR ?_;simp only[dN,List.zipIdx_nil,dp,List.forIn_nil];refine AR (AR (WV ?_));show Al _ _ (Oe (.ref BZ)>>=_) _ _ _;refine AR (Hw.item i _ _ _ Hb (LR Hw A6 Lu ap.et) λx Lv o3 AI nP Kd=>BM ?_);have VG:GW Lv CD a b:=Kd.extBut _ _ ap.TOi1 (Lu.extBut _ _ ap.TOz Ij);refine AR (Lf VG rfl ?_);refine AR (d5 VG λNE Y_ LV=>?_);replace Y_:GW NE CD x b:=Y_;refine AR (Tq (BM ?_));refine AR (AR (WV ?_));show Al _ _ (Oe (.ref Bl)>>=_) _ _ _;have aat:JF i NE:=LR HT (LR HT (LR HT AA Lu ap.fR) Kd ap.gx) LV ap.eu;refine AR (HT.item i _ _ _ E9 aat λy Ui afw BO acU PJ=>BM ?_);have iq:GW Ui CD x b:=PJ.extBut _ _ ap.TOi2 Y_;refine AR (Lf iq rfl ?_);refine AR (d5 iq λHa Ya PK=>?_);replace Ya:GW Ha CD x y:=Ya;refine AR (Tq (BM (BM ?_)));refine AR (Lf Ya rfl ?_);refine AR (wpAny_newTuple ?_);have hsz:Ha.objs.size=s.heap.objs.size:=by rw[PK.1,PJ.1,LV.1,Kd.1,Lu.1]
 have iQ:IV Ha z TI CD .ellipsis:=PK.extBut _ _ ap.TOz.symm (PJ.extBut _ _ ap.i2z.symm (LV.extBut _ _ ap.TOz.symm (Kd.extBut _ _ ap.i1z.symm PL)));have ut:∀c o,c≠z->c≠CD->c≠BZ->c≠Bl->s.heap.get? c=some o->Ha.get? c=some o:=λc o BU E3 FF HW e=>
  PK.extBut _ _ E3 (PJ.extBut _ _ HW (LV.extBut _ _ E3 (Kd.extBut _ _ FF (Lu.extBut _ _ BU e))))
 have abQ:JE (i+1) Ha:=LR Hw (LR Hw (LR Hw nP LV ap.gv) PJ ap.sy) PK ap.gv;have aau:JF (i+1) Ha:=LR HT acU PK ap.eu;have iN:z<Ha.objs.size:=D_ iQ;show Al _ _ (p6 (.ref z) (.ref Ha.objs.size)>>=_) _ _ _;refine AR ?_;unfold p6;have uP:IV (Ha.push { cls:=.type "tuple",data:=.seq #[x,y] }) z TI CD .ellipsis:=Da _ iQ;refine AR (Rt uP (by simp) λuR aF a9=>?_);replace aF:IV uR z TI CD (KI Ha.objs.size):=aF;refine Rt aF (by simp) λUj Y9 aA=>?_;replace Y9:IV Uj z TI CD (KI Ha.objs.size):=Y9;have up:∀c o,c≠z->Ha.get? c=some o->Uj.get? c=some o:=λc o BU e=>aA.extBut _ _ BU (a9.extBut _ _ BU (Da _ e));have i6:GW Uj Ha.objs.size x y:=aA.extBut _ _ (Li iN) (a9.extBut _ _ (Li iN) (F4 _ rfl));have iM:Uj.objs.size=Ha.objs.size+1:=by rw[aA.1,a9.1,Kw]
 rw[hsz]at Y9 i6 iM;refine BM ⟨_,rfl,?_⟩;show Q (.ref Ha.objs.size) _;rw[hsz];exact Dk x y Uj _ AI BO Y9 (up _ _ ap.TOz Ya) (Hw.frame _ _ _ abQ λc AK o e=>up c o (λq=>ap.et (q▸AK)) e) (HT.frame _ _ _ aau λc AK o e=>up c o (λq=>ap.fR (q▸AK)) e) i6 iM λc o BU E3 FF HW e=>up c o BU (ut c o BU E3 FF HW e)
def af0{z TI CD BZ Bl:A7}{f1 f2:List A7}{DT Dx i:Nat}{Ia I0:Nat->A8->Prop}{JE JF:Nat->BP->Prop}{a b:A8}{Q:Fin->AQ->Prop}(Hw:Draws prog w A BZ f1 DT Ia JE)(HT:Draws prog w A Bl f2 Dx I0 JF)(ap:S9 z TI CD BZ Bl f1 f2)(BB:IV s.heap z TI CD .none)(IT:GW s.heap TI (.ref BZ) (.ref Bl))(Ij:GW s.heap CD a b)(A6:JE i s.heap)(AA:JF i s.heap)(ag:i=DT\/(i<DT/\i=Dx))(K2:∀h' e CV,(∀c o,c≠z->c≠CD->c≠BZ->c≠Bl->s.heap.get? c=some o->h'.get? c=some o)->(∃o,h'.get? e=some o/\o.cls=.type "StopIteration")->E (.ref e) { s with heap:=h',toks:=CV }) :
  Al (BG prog w) A (NT.«zip.__next__» ⟨[.ref z],[]⟩) Q E s:=by
 show Al _ _ (field (.ref z) 2>>=_) _ _ _;refine AR (HS BB rfl (x:=.bool false) rfl ?_);show Al _ _ (field (.ref z) 3>>=_) _ _ _;refine AR (HS BB rfl (x:=.ref TI) rfl ?_);refine AR (Lf IT rfl ?_);show Al _ _ (W6 (.ref z)>>=_) _ _ _;refine AR ?_;unfold W6;refine AR (HS BB rfl (x:=.none) rfl (BM ?_));simp only[if_true];refine AR (MZ ?_);refine AR (HS BB rfl (x:=.ref CD) rfl ?_);refine AR (Rt BB (by simp) λJX PL Lu=>?_);replace PL:IV JX z TI CD .ellipsis:=PL;refine AR ?_;simp only[dN,List.zipIdx_nil,dp,List.forIn_nil];refine AR (AR (WV ?_));show Al _ _ (Oe (.ref BZ)>>=_) _ _ _;have nJ:JE i JX:=LR Hw A6 Lu ap.et;rcases ag with A9|⟨Hb,AM⟩
 .subst A9;refine AR (Hw.done _ _ _ nJ λLv e Kd he=>?_);obtain⟨b2,R4,U_⟩:=he;have iO:IV Lv z TI CD .ellipsis:=Kd _ _ ap.i1z.symm PL;have ah:e≠z:=λx=>by subst x;rw[iO]at R4;cases R4;simp at U_
  refine Rt iO (by simp) λNE _ LV=>K2 NE e s.toks (λc o BU _ FF _ x=>LV.extBut _ _ BU (Kd _ _ FF (Lu.extBut _ _ BU x))) ⟨b2,LV.extBut _ _ ah R4,U_⟩
 .subst AM;refine AR (Hw.item _ _ _ _ Hb nJ λx Lv o3 AI nP Kd=>BM ?_);have VG:GW Lv CD a b:=Kd.extBut _ _ ap.TOi1 (Lu.extBut _ _ ap.TOz Ij);refine AR (Lf VG rfl ?_);refine AR (d5 VG λNE Y_ LV=>?_);refine AR (Tq (BM ?_));refine AR (AR (WV ?_));show Al _ _ (Oe (.ref Bl)>>=_) _ _ _;refine AR (HT.done _ _ _ (LR HT (LR HT (LR HT AA Lu ap.fR) Kd ap.gx) LV ap.eu) λUi e PJ he=>?_);obtain⟨b2,R4,U_⟩:=he;have iP:IV Ui z TI CD .ellipsis:=PJ _ _ ap.i2z.symm (LV.extBut _ _ ap.TOz.symm (Kd.extBut _ _ ap.i1z.symm PL));have ah:e≠z:=λx=>by subst x;rw[iP]at R4;cases R4;simp at U_
  refine Rt iP (by simp) λHa _ PK=>K2 Ha e o3 (λc o BU E3 FF HW x=>PK.extBut _ _ BU (PJ _ _ HW (LV.extBut _ _ E3 (Kd.extBut _ _ FF (Lu.extBut _ _ BU x))))) ⟨b2,PK.extBut _ _ ah R4,U_⟩
theorem aaj {z TI CD BZ Bl:A7} {f1 f2:List A7} {DT Dx i:Nat} {Ia I0:Nat->A8->Prop} {JE JF:Nat->BP->Prop} {a b:A8} {Q:Option A8->AQ->Prop} (Hw:Draws prog w A.in1 BZ f1 DT Ia JE) (HT:Draws prog w A.in1 Bl f2 Dx I0 JF) (ap:S9 z TI CD BZ Bl f1 f2)(BB:IV s.heap z TI CD .none) (IT:GW s.heap TI (.ref BZ) (.ref Bl)) (Ij:GW s.heap CD a b) (A6:JE i s.heap) (AA:JF i s.heap) (Hb:i<DT) (E9:i<Dx)(Dk:∀x y h' CV,Ia i x->I0 i y->IV h' z TI CD (KI s.heap.objs.size)->GW h' CD x y->JE (i+1) h'->JF (i+1) h'->GW h' s.heap.objs.size x y->h'.objs.size=s.heap.objs.size+1->
    (∀c o,c≠z->c≠CD->c≠BZ->c≠Bl->s.heap.get? c=some o->h'.get? c=some o)->Q (some (.ref s.heap.objs.size)) { s with heap:=h',toks:=CV }) :
  Al (BG prog w) A (J5 (.ref z)) Q E s:=by
 have Cw:s.TypeIs (.ref z) "zip":=⟨_,BB,rfl⟩;unfold J5
 exact AR (Ry (MW (name:=Fw "__next__") Cw W_
  (J3 W_ Cw F.entry_zip_next
    (af1 Hw HT ap BB IT Ij A6 AA Hb E9 λx y h' CV a1 a2 JQ Nq Qr SA qc eY qd=>BM (Dk x y h' CV a1 a2 JQ Nq Qr SA qc eY qd)) (F.args_zip_next_1 _))))
theorem aai{z TI CD BZ Bl:A7}{f1 f2:List A7}{DT Dx i:Nat}{Ia I0:Nat->A8->Prop}{JE JF:Nat->BP->Prop}{a b:A8}{Q:Option A8->AQ->Prop}(Hw:Draws prog w A.in1 BZ f1 DT Ia JE)(HT:Draws prog w A.in1 Bl f2 Dx I0 JF)(ap:S9 z TI CD BZ Bl f1 f2)(BB:IV s.heap z TI CD .none)(IT:GW s.heap TI (.ref BZ) (.ref Bl))(Ij:GW s.heap CD a b)(A6:JE i s.heap)(AA:JF i s.heap)(ag:i=DT\/(i<DT/\i=Dx))(Dk:∀h' CV,(∀c o,c≠z->c≠CD->c≠BZ->c≠Bl->s.heap.get? c=some o->h'.get? c=some o)->Q none { s with heap:=h',toks:=CV }):Al (BG prog w) A (J5 (.ref z)) Q E s:=by
 have Cw:s.TypeIs (.ref z) "zip":=⟨_,BB,rfl⟩;unfold J5
 refine AR (Ry (MW (name:=Fw "__next__") Cw W_
  (J3 W_ Cw F.entry_zip_next (af0 Hw HT ap BB IT Ij A6 AA ag λh' e CV AF he=>?_) (F.args_zip_next_1 _))))
 obtain⟨o,ho,AK⟩:=he;refine AR (QK (T:="StopIteration") (b:=true) ⟨o,ho,AK⟩ dy ?_);exact BM (Dk _ _ AF)
end
def Inv.Ve{X:Ac}{pins:List (A7×Obj)}{σ :St}{H:AC}{s:AQ}{h':BP}{t':Nat}{ch:List A7}(I:Inv X pins σ H s)(k:∀b o,b∉ch->s.heap.get? b=some o->h'.get? b=some o)(hf:∀b∈ch,Jv X pins H b):Inv X pins σ H { s with heap:=h',toks:=t' }:=by
 have PZ:∀b u,H b=some u->b∉ch:=λb u e z=>by rw[(hf b z).1]at e;cases e
 refine I.step (g':=s.gens) (d':=s.drawn) (ch:=ch) (λb A1=>?_) (λb o _ _ AK e _=>k b o AK e) (λb o _ _ AK e _=>⟨o.slots,k b o AK e⟩) (λ_ _ _ _ n=>n)
  (λb o AK e=>⟨o,k b o AK e⟩) (λ_ _ e=>e) (λ_ _ _ e=>e) (λb Aq e=>⟨#[],by rw[e];simp⟩) (λm hm=>?_) (λb u e=>?_) I.bare
 .obtain⟨_,f1,_,Em,f4,Gy⟩:=hf b A1;exact⟨Em,f1,f4,Gy⟩
 .obtain⟨o,A5,BY,ho,r⟩:=hm;exact⟨o,A5,BY,k _ o (λz=>(hf _ z).2.1 rfl) ho,r⟩
 .refine(I.Be b u e).Q4 (λc v AK q=>k c v ?_ q) (λ_ q=>q) λ_ _ q=>q;rcases AK with z|z
  .rw[z];exact PZ b u e
  .exact PZ c _ z
def Inv.cE{X:Ac}{pins:List (A7×Obj)}{σ :St}{H:AC}{s:AQ}{h':BP}{t':Nat}{ch:List A7}{T:A7}{xs:List V}{its:List A8}(I:Inv X pins σ H s)(k:∀b o,b∉ch->s.heap.get? b=some o->h'.get? b=some o)(hf:∀b∈ch,Jv X pins H b)(Cw:s.heap.objs.size<=T)(Aj:WN h' T its.toArray)(CL:Vals xs its)(BB:xs.length<=CF):Inv X pins σ (upd H T (.tup xs)) { s with heap:=h',toks:=t' }:=by
 have PZ:∀b u,H b=some u->b∉ch:=λb u e z=>by rw[(hf b z).1]at e;cases e
 have AV:H T=none:=I.Be.fresh Cw;have neT:∀b o,s.heap.get? b=some o->b≠T:=λb o e=>FD (Hi (D_ e) Cw)
 refine I.step (g':=s.gens) (d':=s.drawn) (ch:=ch) (λb A1=>?_) (λb o _ _ AK e _=>k b o AK e) (λb o _ _ AK e _=>⟨o.slots,k b o AK e⟩) (λb o _ e n=>by rw[DV (neT b o e)];exact n)
  (λb o AK e=>⟨o,k b o AK e⟩) (λb ys e=>by rw[DV (K7 e AV)];exact e) (λb _ _ e=>by rw[DV (K7 e AV)];exact e) (λb Aq e=>⟨#[],by rw[DV (K7 e AV),e];simp⟩) (λm hm=>?_) (λb u e=>?_) I.bare
 .obtain⟨_,f1,_,Em,f4,Gy⟩:=hf b A1;exact⟨Em,f1,f4,Gy⟩
 .obtain⟨o,A5,BY,ho,r⟩:=hm;exact⟨o,A5,BY,k _ o (λz=>(hf _ z).2.1 rfl) ho,r⟩
 .by_cases A1:b=T
  .subst A1;rw[Dz]at e;cases e;exact⟨BB,its,CL,Aj⟩
  .rw[DV A1]at e;refine(I.Be b u e).Q4 (λc v AK q=>k c v ?_ q) (λc q=>by rw[DV (K7 q AV)];exact q) λc ys q=>by rw[DV (K7 q AV)];exact q
   rcases AK with z|z
   .rw[z];exact PZ b u e
   .exact PZ c _ z
def eJ(x:Str):It:=⟨λi _=>i<x.cps.size,λi H v H'=>H'=H/\∃c,x.cps[i]?=some c/\v=.str ⟨#[c]⟩,λi _=>i=x.cps.size⟩
def oG{prog:C2}{w:Bh}{A:CR}(BE:A.handled=none)(I:A7)(x:Str)(t:Tok):Walks prog w A I [I] [I] x.cps.size (SignAt x) (λi h=>h.IsStrIter I (L4 x) x t i):=by
 unfold L4;cases AB:x.cps.all (· <128)
 .rw[if_neg Fv];exact Walks.strWide BE I x t
 .rw[if_pos rfl];exact Walks.strAscii BE I x t
def h6{prog:C2}{w:Bh}{A:CR}(BE:A.handled=none)(I:A7)(x:Str)(t:Tok):Draws prog w A I [I] x.cps.size (λi v=>∃c u,x.cps[i]?=some c/\v=.str ⟨#[c]⟩ u) (λi h=>h.IsStrIter I (L4 x) x t i):=by
 unfold L4;cases AB:x.cps.all (· <128)
 .rw[if_neg Fv];exact Draws.strWide BE I x t
 .rw[if_pos rfl];exact Draws.strAscii BE I x t
def ab0(x:Str):["enumerate","zip","dict_itemiterator","dict_reverseitemiterator","odict_iterator","itertools.zip_longest","itertools.pairwise"].contains (L4 x)=false:=by
 unfold L4
 split<;>decide
def acE{P:C2}{w:Bh}{K:A_}{B_:AT}(it:A7)(x:Str)(t:Tok):Turn P w K B_ (eJ x) [it] it (λi h=>h.IsStrIter it (L4 x) x t i) where
 mem:=by simp
 obj:=λi h st b A1=>by
  have e:b=it:=by simpa using A1
  subst e;obtain⟨o,e,c,d⟩:=st;exact⟨o,e,λv z=>by rw[d]at z;cases z⟩
 keep:=λi h h' st k=>by obtain⟨o,e,r⟩:=st;exact⟨o,k it (by simp) o e,r⟩
 item:=by intro X Ce hw Am AK i pins s σ H E I hf st Ad;subst Ce hw Am;have W:=oG (prog:=X.prog) (w:=X.w) (A:=X.A) (I.ok.hd AK) it x t;refine W.item i s _ _ Ad st λv h' CV Bc KA Bf=>?_;obtain⟨c,u,LU,rfl⟩:=Bc;have As:Inv X pins σ H { s with heap:=h',toks:=CV }:=I.Ve (ch:=[it]) Bf hf;obtain⟨o,e,BU,d1⟩:=id KA;exact⟨_,rfl,VF (s:={ s with heap:=h',toks:=CV }) e BU d1 (ab0 x) ⟨.str ⟨#[c]⟩,H,As,⟨u,rfl⟩,⟨rfl,c,LU,rfl⟩,KA,λb A1=>(hf b A1).1⟩⟩
 done:=by intro X Ce hw Am AK i pins s σ H E I hf st Ad;subst Ce hw Am;have W:=oG (prog:=X.prog) (w:=X.w) (A:=X.A) (I.ok.hd AK) it x t;have AD:i=x.cps.size:=Ad;subst AD;exact W.done s _ _ st λh' CV Bf=>⟨rfl,I.Ve (ch:=[it]) Bf hf⟩
 self:=λA i s Q E st h=>by
  unfold L4 at st;cases AB:x.cps.all (· <128)
  .rw[AB,if_neg Fv]at st;exact wpAny_pyIter_striter_wide st h
  .rw[AB,if_pos rfl]at st;exact wpAny_pyIter_striter_ascii st h
section
variable{X:Ac}{B_:AT}
def i3(ET:TE):TI:=λσ H R=>ET σ H λv H1=>∃x,v=.str x/\R (eJ x) H1
def zM{l:AT}{ET:TE}(AN:Ax X l ET):Fl X B_ l (i3 ET):=by
 intro pins s σ H R I h;refine Bd (AN pins s σ H _ I h) λv s1⟨y,H1,As,AL,An⟩=>?_;obtain⟨x,e,q⟩:=An;subst e;obtain⟨t,rfl⟩:=AL;refine wpAny_pyIter_strU ?_;refine⟨s1.heap.objs.size,[s1.heap.objs.size],_,_,H1,rfl,As.kept (t':=s1.toks) λb o e=>Da _ e,acE _ x t,⟨_,F4 _ rfl,rfl,rfl⟩,λb A1=>?_,q⟩;have e:b=s1.heap.objs.size:=by simpa using A1
 subst e;exact As.N8 (Ci _) (As.Be.fresh (Ci _))
end
noncomputable def eF(K:A_)(l:A7):It:=⟨λi H=>∃xs x,C9 K H l xs/\xs[i]?=some x,λi H v H'=>∃p x,H p=none/\H'=upd H p (.tup [.int (i:Int),x])/\v=.ref p/\∀xs,C9 K H l xs->xs[i]?=some x,λi H=>∃xs,C9 K H l xs/\xs.length=i⟩
def ac9{P:C2}{w:Bh}{K:A_}{elts:List AT}{Bf:Nat}{pos:Pos}(e it l:A7)(iD:e≠it) :
  Turn P w K (.Tuple elts Bf pos) (eF K l) [e,it] e (λi h=>(∃old,IsEnum h e it i old)/\h.IsListIter it l i) where
 mem:=by simp
 obj:=λi h st b A1=>by
  obtain⟨⟨old,he⟩,o,A9,c,d⟩:=st;rcases List.mem_cons.mp A1 with z|z
  .subst z;exact⟨_,he,λv z=>by have G3:Wk _=S3 v:=z;cases G3⟩
  .have z:b=it:=by simpa using z
   subst z;exact⟨o,A9,λv z=>by rw[d]at z;cases z⟩
 keep:=λi h h' st k=>by obtain⟨⟨old,he⟩,hit⟩:=st;exact⟨⟨old,k e (by simp) _ he⟩,hit.at λo x=>k it (by simp) o x⟩
 item:=by
  intro X Ce hw Am AK i pins s σ H E I hf st Ad;subst Ce hw Am;obtain⟨xs,x,AW,AI⟩:=Ad;obtain⟨its,CL,pl,BB⟩:=I.list AW;obtain⟨⟨old,he⟩,hit⟩:=st;have HJ:=pl.isList;have hle:l≠e:=λz=>by subst z;obtain⟨o,ho,JV,_⟩:=HJ;rw[he]at ho;cases ho;have JV:QL "enumerate"=QL "list":=JV;injection JV with JV;exact absurd JV (by decide)
  have a0:l≠it:=λz=>by subst z;obtain⟨o,ho,JV,_⟩:=HJ;obtain⟨o',F9,Nh,_⟩:=hit;rw[F9]at ho;cases ho;rw[JV]at Nh;injection Nh with Nh;exact absurd Nh (by decide)
  have W:=WalksT.enumerate (prog:=X.prog) (w:=X.w) (A:=X.A) (I.ok.hd AK) e it l iD hle a0 its.toArray;have hlen:=CL.length;have SV:i<xs.length:=(List.getElem?_eq_some_iff.mp AI).1;refine W.item i s _ _ (by rw[E0,<-hlen];exact SV) ⟨⟨old,he⟩,hit,HJ⟩ λT vals h' CV Ce Cw tW YY AF=>?_;obtain⟨t,u,BR,rfl⟩:=Ce;obtain⟨GK,Uh,FP⟩:=CL.get AI;have MM:GK=u:=by rw[pY]at BR;rw[Uh]at BR;exact Eh BR
  subst MM;refine⟨_,rfl,?_⟩;refine W.go elts Bf pos i T { s with heap:=h',toks:=CV } _ _ YY λAA LA OO=>?_;have ir:T∉[e,it]:=W.apart i T h' YY;have keep:∀b o,b∉[e,it]->s.heap.get? b=some o->AA.get? b=some o:=λb o A1 q=>OO b o A1 (AF b o A1 q);have Ug:WN AA T (#[.int i t,GK]:Array A8):=by obtain⟨o,ho,r⟩:=tW;exact⟨o,OO T o ir ho,r⟩
  have AV:H T=none:=I.Be.fresh Cw;have Br:Inv X pins σ (upd H T (.tup [.int (i:Int),x])) { s with heap:=AA,toks:=CV }:=I.cE (its:=[.int i t,GK]) (ch:=[e,it]) keep hf Cw Ug (.cons ⟨t,rfl⟩ (.cons FP .nil)) (by show 2<=CF;decide);refine⟨.ref T,upd H T (.tup [.int (i:Int),x]),Br,rfl,⟨T,x,AV,rfl,rfl,λys BO=>by rw[I.bV BO AW];exact AI⟩,⟨LA.1,LA.2.1⟩,λb A1=>?_⟩;have nb:b≠T:=λz=>ir (z▸A1);rw[DV nb];exact(hf b A1).1
 done:=by
  intro X Ce hw Am AK i pins s σ H E I hf st Ad;subst Ce hw Am;obtain⟨xs,AW,AI⟩:=Ad;obtain⟨its,CL,pl,BB⟩:=I.list AW;obtain⟨⟨old,he⟩,hit⟩:=st;have HJ:=pl.isList;have hle:l≠e:=λz=>by subst z;obtain⟨o,ho,JV,_⟩:=HJ;rw[he]at ho;cases ho;have JV:QL "enumerate"=QL "list":=JV;injection JV with JV;exact absurd JV (by decide)
  have a0:l≠it:=λz=>by subst z;obtain⟨o,ho,JV,_⟩:=HJ;obtain⟨o',F9,Nh,_⟩:=hit;rw[F9]at ho;cases ho;rw[JV]at Nh;injection Nh with Nh;exact absurd Nh (by decide)
  have W:=WalksT.enumerate (prog:=X.prog) (w:=X.w) (A:=X.A) (I.ok.hd AK) e it l iD hle a0 its.toArray;have F0:i=its.toArray.size:=by rw[E0,<-CL.length];exact AI.symm
  subst F0;exact W.done s _ _ ⟨⟨old,he⟩,hit,HJ⟩ λh' CV Bf=>⟨rfl,I.Ve (ch:=[e,it]) Bf hf⟩
 self:=λA i s Q E st h=>by obtain⟨⟨old,he⟩,_⟩:=st;exact wpAny_pyIter_enum he h
section
variable{X:Ac}{elts:List AT}{Bf:Nat}{Q7:Pos}
def hx(K:A_)(CB:Ez):TI:=λσ H R=>CB σ H λvs H1=>∃l,vs=[.ref l]/\(∃xs,C9 K H1 l xs)/\R (eF K l) H1
def zG{a:AT}{CB:Ez}{p pos:Pos}(Ad:EG X "enumerate")(hm:X.mg "enumerate"=none)(AB:GN X [a] CB)(AJ:BI [a] X.env=[(false,BN a X.env)]:=by rfl):Fl X (.Tuple elts Bf Q7) (.Call (.Name "enumerate" p) [a] [] pos) (hx X.K CB):=by
 have A1:Ku "enumerate"=some (.type "enumerate"):=by kernel_rfl
 intro pins s σ H R I h;refine pU (OX I Ad hm A1 (QD (Bd (AB pos pins s σ H _ I h) λus s1⟨vs,H1,As,AL,An⟩=>?_) AJ rfl));obtain⟨l,e,⟨xs,AW⟩,q⟩:=An;subst e;obtain⟨u,rfl,FP⟩:=vals1 AL;cases FP;obtain⟨its,CL,pl,BB⟩:=As.list AW;refine call_enumerate_list pl.isList λh' he hit hsz AF=>?_;have Br:Inv X pins σ H1 { s1 with heap:=h' }:=As.kept (t':=s1.toks) AF;refine wpAny_pyIter_enum he ?_;refine⟨s1.heap.objs.size+1,[s1.heap.objs.size+1,s1.heap.objs.size],_,_,H1,rfl,Br,ac9 _ _ l (Nat.succ_ne_self _),⟨⟨_,he⟩,hit⟩,λb A1=>?_,q⟩;have A1:b=s1.heap.objs.size+1\/b=s1.heap.objs.size:=by simpa using A1
 rcases A1 with z|z
 .subst z;exact As.N8 (Wl _) (As.Be.fresh (Wl _))
 .subst z;exact As.N8 (Ci _) (As.Be.fresh (Ci _))
end
abbrev Zh(h:BP)(x:Str)(t:Tok):BP:=h.push { cls:=.type (L4 x),data:=.fields #[.str x t,.int 0 0] }
abbrev Zi(h:BP)(x:Str)(t:Tok)(l:A7):BP:=(Zh h x t).push { cls:=.type "tuple_iterator",data:=.fields #[.ref l,.int 0 0] }
abbrev Zj(h:BP)(x:Str)(t:Tok)(l:A7):BP:=(Zi h x t l).push { cls:=.type "tuple",data:=.seq #[.ref h.objs.size,.ref (Zh h x t).objs.size] }
abbrev Zk(h:BP)(x:Str)(t:Tok)(l:A7):BP:=(Zj h x t l).push { cls:=.type "tuple",data:=.seq #[.none,.none] }
abbrev RQ(h:BP)(x:Str)(t:Tok)(l:A7):BP:=(Zk h x t l).push { cls:=.type "zip",data:=.fields #[.none,.bool false,.bool false,.ref (Zi h x t l).objs.size,.ref (Zj h x t l).objs.size] }
set_option maxHeartbeats 4000000 in
def xP(x:Str)(t:Tok)(E9:A7)(ys:Array A8) :
  Meets (NT.«zip.__new__» ⟨[.type "zip",.str x t,.ref E9],[]⟩) (λ_ R s=>s.heap.IsTuple E9 ys/\R (.ok (.ret (.ref (Zk s.heap x t E9).objs.size))) { s with heap:=RQ s.heap x t E9 }):=
 .of_wp λprog w A R s h=>by
   obtain⟨AZ,g,d,CV,os⟩:=s;obtain⟨Kc,h⟩:=h;have agg:=sub_zip;have tQ:Heap.IsTuple (Shared.heap ⟨AZ.push { cls:=.type (L4 x),data:=.fields #[.str x t,.int 0 0] },g,d,CV,os⟩) E9 ys:=Heap.IsTuple.push Kc _
   wp_walk using wpAny_pyIter_strU,wpAny_pyIter_tuple tQ
   exact⟨_,rfl,h⟩
theorem r_ {prog:C2} {w:Bh} {A:CR} {E:A8->AQ->Prop} {s:AQ} {x:Str} {t:Tok} {E9:A7} {ys:Array A8} {Q:A8->AQ->Prop} (Kc:s.heap.IsTuple E9 ys)(h:∀h',IV h' (s.heap.objs.size+4) (s.heap.objs.size+2) (s.heap.objs.size+3) .none->GW h' (s.heap.objs.size+2) (.ref s.heap.objs.size) (.ref (s.heap.objs.size+1))->
    GW h' (s.heap.objs.size+3) .none .none->h'.IsStrIter s.heap.objs.size (L4 x) x t 0->h'.IsTupleIter (s.heap.objs.size+1) E9 0->h'.objs.size=s.heap.objs.size+5->
    (∀c o,s.heap.get? c=some o->h'.get? c=some o)->Q (.ref (s.heap.objs.size+4)) { s with heap:=h' }) :
  Al (BG prog w) A (call (.type "zip") [.str x t,.ref E9]) Q E s:=by
 refine callType_new F.called_zip (by decide) (F.typeCall_zip_2 _ _) (F.newCall_zip_2 _ _) (λobj=>F.args_object_init_3 obj _ _) F.entry_zip_new (xP x t E9 ys) ⟨Kc,?_⟩;have DZ:(Zh s.heap x t).objs.size=s.heap.objs.size+1:=Kw ..;have Dh:(Zi s.heap x t E9).objs.size=s.heap.objs.size+2:=by rw[Kw,DZ]
 have Pv:(Zj s.heap x t E9).objs.size=s.heap.objs.size+3:=by rw[Kw,Dh]
 have RO:(Zk s.heap x t E9).objs.size=s.heap.objs.size+4:=by rw[Kw,Pv]
 have d2:(RQ s.heap x t E9).objs.size=s.heap.objs.size+5:=by rw[Kw,RO]
 have VB:(RQ s.heap x t E9).get? (Zk s.heap x t E9).objs.size=some _:=F4 _ rfl;have g4:(RQ s.heap x t E9).get? (Zj s.heap x t E9).objs.size=some _:=Da _ (F4 _ rfl);have g3:(RQ s.heap x t E9).get? (Zi s.heap x t E9).objs.size=some _:=Da _ (Da _ (F4 _ rfl));have g2:(RQ s.heap x t E9).get? (Zh s.heap x t).objs.size=some _:=Da _ (Da _ (Da _ (F4 _ rfl)));have g1:(RQ s.heap x t E9).get? s.heap.objs.size=some _:=Da _ (Da _ (Da _ (Da _ (F4 _ rfl))));show _/\_;rw[Dh,Pv,RO]at VB;rw[DZ,Dh]at g3;rw[Pv]at g4;rw[DZ]at g2;rw[RO];exact⟨⟨_,VB,rfl⟩,h _ VB g3 g4 ⟨_,g1,rfl,rfl⟩ ⟨_,g2,rfl,rfl⟩ d2 λc o x=>
  Da _ (Da _ (Da _ (Da _ (Da _ x))))⟩
noncomputable def eL(K:A_)(x:Str)(l:A7):It:=⟨λi H=>i<x.cps.size/\∃ys y,CZ K H l ys/\ys[i]?=some y,
 λi H v H'=>∃p c y,x.cps[i]?=some c/\H p=none/\H'=upd H p (.tup [.str ⟨#[c]⟩,y])/\v=.ref p/\∀ys,CZ K H l ys->ys[i]?=some y,
 λi H=>∃ys,CZ K H l ys/\i=min x.cps.size ys.length⟩
structure gB(z TI CD BZ Bl:A7):Prop where
 TIz:TI≠z
 TOz:CD≠z
 TITO:TI≠CD
 TIi1:TI≠BZ
 TIi2:TI≠Bl
 TOi1:CD≠BZ
 TOi2:CD≠Bl
 i1z:BZ≠z
 i2z:Bl≠z
 i12:BZ≠Bl
def acG{P:C2}{w:Bh}{K:A_}{elts:List AT}{Bf:Nat}{pos:Pos}(x:Str)(t:Tok)(l z TI CD BZ Bl:A7)(ap:gB z TI CD BZ Bl) :
  Turn P w K (.Tuple elts Bf pos) (eL K x l) [z,TI,CD,BZ,Bl] z (λi h=>IV h z TI CD .none/\GW h TI (.ref BZ) (.ref Bl)/\(∃a b,GW h CD a b)/\h.IsStrIter BZ (L4 x) x t i/\h.IsTupleIter Bl l i) where
 mem:=by simp
 obj:=λi h st b A1=>by
  obtain⟨BB,IT,⟨a,Pk,Ij⟩,⟨D8,A9,BU,d1⟩,DG,AM,E3,C_⟩:=st;have A1:b=z\/b=TI\/b=CD\/b=BZ\/b=Bl:=by simpa using A1
  rcases A1 with q|q|q|q|q<;>subst q
  .exact⟨_,BB,λv z=>by have G3:Wk _=S3 v:=z;cases G3⟩
  .exact⟨_,IT,λv z=>by have G3:Data.seq _ _=S3 v:=z;cases G3⟩
  .exact⟨_,Ij,λv z=>by have G3:Data.seq _ _=S3 v:=z;cases G3⟩
  .exact⟨D8,A9,λv z=>by rw[d1]at z;cases z⟩
  .exact⟨DG,AM,λv z=>by rw[C_]at z;cases z⟩
 keep:=λi h h' st k=>by obtain⟨BB,IT,⟨a,Pk,Ij⟩,⟨D8,A9,AL⟩,DG,AM,B7⟩:=st;exact⟨k z (by simp) _ BB,k TI (by simp) _ IT,⟨a,Pk,k CD (by simp) _ Ij⟩,⟨D8,k BZ (by simp) _ A9,AL⟩,DG,k Bl (by simp) _ AM,B7⟩
 item:=by
  intro X Ce hw Am AK i pins s σ H E I hf st Ad;subst Ce hw Am;obtain⟨AD,ys,y,AW,BO⟩:=Ad;obtain⟨its,CL,Aj,uN⟩:=I.tuple AW;obtain⟨BB,IT,⟨a,Pk,Ij⟩,Y6,F_⟩:=st;have nl:∀b∈[z,TI,CD,BZ,Bl],l≠b:=λb A1 q=>by
   subst q;rcases AW with(h|⟨o,h⟩)|⟨o,v9,n,h,_⟩
   .rw[(hf l A1).1]at h;cases h
   .rw[(hf l A1).1]at h;cases h
   .have A6:=I.ok.mod.Kf l o h;rcases(hf l A1).2.2.2.1 with q|q
    .exact I.ok.R6 l o A6 q
    .exact absurd (Hi (D_ (I.ok.bs l o A6).1) q) (KC _)
  have BE:X.A.in1.handled=none:=I.ok.hd AK;have Hw:=h6 (prog:=X.prog) (w:=X.w) (A:=X.A.in1) BE BZ x t;have HT:=h7 (prog:=X.prog) (w:=X.w) (A:=X.A.in1) BE Bl l (nl Bl (by simp)) its.toArray;have hlen:=CL.length;have SV:i<ys.length:=(List.getElem?_eq_some_iff.mp BO).1
  have Mk:S9 z TI CD BZ Bl [BZ] [Bl,l]:=⟨ap.TIz,ap.TOz,ap.TITO,ap.TIi1,ap.TIi2,ap.TOi1,ap.TOi2,ap.i1z,ap.i2z,ap.i12,by simpa using ap.i1z.symm,by simpa using ap.TOi1,by simpa using ap.i12.symm,
   by simp only[Oi,NJ,or_false,not_or];exact⟨ap.i2z.symm,(nl z (by simp)).symm⟩,by simp only[Oi,NJ,or_false,not_or];exact⟨ap.TOi2,(nl CD (by simp)).symm⟩,by simp only[Oi,NJ,or_false,not_or];exact⟨ap.i12,(nl BZ (by simp)).symm⟩⟩
  refine aaj Hw HT Mk BB IT Ij Y6 ⟨F_,Aj⟩ AD (by rw[E0,<-hlen];exact SV) λOK MC h' CV EB D3 a1 a2 JQ Nq Qr SA AF=>?_;obtain⟨c,t1,t7,rfl⟩:=EB;obtain⟨GK,Uh,FP⟩:=CL.get BO;have MM:GK=MC:=by rw[pY]at D3;rw[Uh]at D3;exact Eh D3
  subst MM;refine⟨_,rfl,?_⟩;refine wpAny_letOwnedTupleGo_zip a1 λAA aE SY=>?_;have ac_:∀b∈[z,TI,CD,BZ,Bl],b<s.heap.objs.size:=λb A1=>by
   have A1:b=z\/b=TI\/b=CD\/b=BZ\/b=Bl:=by simpa using A1
   obtain⟨D8,A9,_⟩:=Y6;obtain⟨DG,AM,_⟩:=F_;rcases A1 with q|q|q|q|q<;>subst q
   .exact D_ BB
   .exact D_ IT
   .exact D_ Ij
   .exact D_ A9
   .exact D_ AM
  have kb:∀b∈[z,TI,CD,BZ,Bl],b≠s.heap.objs.size:=λb A1=>FD (ac_ b A1);have keep:∀b o,b∉[z,CD,BZ,Bl]->s.heap.get? b=some o->AA.get? b=some o:=λb o A1 q=>by have A1:¬(b=z\/b=CD\/b=BZ\/b=Bl):=λw=>A1 (by simpa using w);exact SY.extBut b o (λw=>A1 (.inl w)) (AF b o (λw=>A1 (.inl w)) (λw=>A1 (.inr (.inl w))) (λw=>A1 (.inr (.inr (.inl w)))) (λw=>A1 (.inr (.inr (.inr w)))) q)
  have Ug:WN AA s.heap.objs.size ([.str ⟨#[c]⟩ t1,GK]:List A8).toArray:=⟨_,SY.extBut _ _ (kb z (by simp)).symm Qr,rfl,_,rfl⟩;have AV:H s.heap.objs.size=none:=I.Be.fresh (Ci _);have Br:Inv X pins σ (upd H s.heap.objs.size (.tup [.str ⟨#[c]⟩,y])) { s with heap:=AA,toks:=CV }:=I.cE (its:=[.str ⟨#[c]⟩ t1,GK]) (ch:=[z,CD,BZ,Bl]) keep (λb A1=>hf b (by
   have A1:b=z\/b=CD\/b=BZ\/b=Bl:=by simpa using A1
   rcases A1 with q|q|q|q<;>simp[q])) (Ci _) Ug (.cons ⟨t1,rfl⟩ (.cons FP .nil)) (by show 2<=CF;decide)
  refine⟨.ref s.heap.objs.size,_,Br,rfl,⟨s.heap.objs.size,c,y,t7,AV,rfl,rfl,λzs uO=>by rw[I.cD uO AW];exact BO⟩,?_,λb A1=>?_⟩
  .refine⟨aE,SY.extBut _ _ ap.TIz (AF _ _ ap.TIz ap.TITO ap.TIi1 ap.TIi2 IT),⟨_,_,SY.extBut _ _ ap.TOz a2⟩,?_,?_⟩
   .obtain⟨D8,A9,AL⟩:=JQ;exact⟨D8,SY.extBut _ _ ap.i1z A9,AL⟩
   .obtain⟨⟨DG,AM,B7⟩,_⟩:=Nq;exact⟨DG,SY.extBut _ _ ap.i2z AM,B7⟩
  .rw[DV (kb b A1)];exact(hf b A1).1
 done:=by
  intro X Ce hw Am AK i pins s σ H E I hf st Ad;subst Ce hw Am;obtain⟨ys,AW,AD⟩:=Ad;obtain⟨its,CL,Aj,uN⟩:=I.tuple AW;obtain⟨BB,IT,⟨a,Pk,Ij⟩,Y6,F_⟩:=st;have nl:∀b∈[z,TI,CD,BZ,Bl],l≠b:=λb A1 q=>by
   subst q;rcases AW with(h|⟨o,h⟩)|⟨o,v9,n,h,_⟩
   .rw[(hf l A1).1]at h;cases h
   .rw[(hf l A1).1]at h;cases h
   .have A6:=I.ok.mod.Kf l o h;rcases(hf l A1).2.2.2.1 with q|q
    .exact I.ok.R6 l o A6 q
    .exact absurd (Hi (D_ (I.ok.bs l o A6).1) q) (KC _)
  have BE:X.A.in1.handled=none:=I.ok.hd AK;have Hw:=h6 (prog:=X.prog) (w:=X.w) (A:=X.A.in1) BE BZ x t;have HT:=h7 (prog:=X.prog) (w:=X.w) (A:=X.A.in1) BE Bl l (nl Bl (by simp)) its.toArray;have hlen:=CL.length
  have Mk:S9 z TI CD BZ Bl [BZ] [Bl,l]:=⟨ap.TIz,ap.TOz,ap.TITO,ap.TIi1,ap.TIi2,ap.TOi1,ap.TOi2,ap.i1z,ap.i2z,ap.i12,by simpa using ap.i1z.symm,by simpa using ap.TOi1,by simpa using ap.i12.symm,
   by simp only[Oi,NJ,or_false,not_or];exact⟨ap.i2z.symm,(nl z (by simp)).symm⟩,by simp only[Oi,NJ,or_false,not_or];exact⟨ap.TOi2,(nl CD (by simp)).symm⟩,by simp only[Oi,NJ,or_false,not_or];exact⟨ap.i12,(nl BZ (by simp)).symm⟩⟩
  refine aai Hw HT Mk BB IT Ij Y6 ⟨F_,Aj⟩ ?_ λh' CV Bf=>⟨rfl,I.Ve (ch:=[z,CD,BZ,Bl]) (λb o A1 q=>?_) λb A1=>hf b ?_⟩
  .have A5:its.toArray.size=its.length:=by simp
   rw[A5,<-hlen];lia
  .have A1:¬(b=z\/b=CD\/b=BZ\/b=Bl):=λw=>A1 (by simpa using w);exact Bf b o (λw=>A1 (.inl w)) (λw=>A1 (.inr (.inl w))) (λw=>A1 (.inr (.inr (.inl w)))) (λw=>A1 (.inr (.inr (.inr w)))) q
  .have A1:b=z\/b=CD\/b=BZ\/b=Bl:=by simpa using A1
   rcases A1 with q|q|q|q<;>simp[q]
 self:=λA i s Q E st h=>wpAny_pyIter_zip st.1 h
section
variable{X:Ac}{elts:List AT}{Bf:Nat}{Q7:Pos}
def af2(n:Nat):gB (n+4) (n+2) (n+3) n (n+1):=
 ⟨(show n+2≠n+4 from FD (show(n+2:Nat)<n+4 by lia)),
  (show n+3≠n+4 from FD (show(n+3:Nat)<n+4 by lia)),
  (show n+2≠n+3 from FD (show(n+2:Nat)<n+3 by lia)),
  (show n+2≠n from Li (show(n:Nat)<n+2 by lia)),
  (show n+2≠n+1 from Li (show(n+1:Nat)<n+2 by lia)),
  (show n+3≠n from Li (show(n:Nat)<n+3 by lia)),
  (show n+3≠n+1 from Li (show(n+1:Nat)<n+3 by lia)),
  (show n≠n+4 from FD (show(n:Nat)<n+4 by lia)),
  (show n+1≠n+4 from FD (show(n+1:Nat)<n+4 by lia)),
  (show n≠n+1 from FD (show(n:Nat)<n+1 by lia))⟩
def i5(K:A_)(CB:Ez):TI:=λσ H R=>CB σ H λvs H1=>∃x l,vs=[.str x,.ref l]/\(∃ys,CZ K H1 l ys)/\R (eL K x l) H1
def zO{a b:AT}{CB:Ez}{p pos:Pos}(Ad:EG X "zip")(hm:X.mg "zip"=none)(AB:GN X [a,b] CB)(AJ:BI [a,b] X.env=[(false,BN a X.env),(false,BN b X.env)]:=by rfl)(F_:BI [b] X.env=[(false,BN b X.env)]:=by rfl) :
  Fl X (.Tuple elts Bf Q7) (.Call (.Name "zip" p) [a,b] [] pos) (i5 X.K CB):=by
 have A1:Ku "zip"=some (.type "zip"):=by kernel_rfl
 intro pins s σ H R I h;refine pU (OX I Ad hm A1 (QD (Bd (AB pos pins s σ H _ I h) λus s1⟨vs,H1,As,AL,An⟩=>?_) (by rw[AJ,F_]) (by rw[F_];rfl)));obtain⟨x,l,e,⟨ys,AW⟩,q⟩:=An;subst e;obtain⟨u,MC,rfl,⟨t,rfl⟩,FP⟩:=vals2 AL;cases FP;obtain⟨its,CL,Aj,BB⟩:=As.tuple AW;refine r_ (show s1.heap.IsTuple l its.toArray from Aj) λh' a1 a2 JQ Nq Qr SA AF=>?_;have Br:Inv X pins σ H1 { s1 with heap:=h' }:=As.kept (t':=s1.toks) AF;refine wpAny_pyIter_zip a1 ?_;refine⟨s1.heap.objs.size+4,[s1.heap.objs.size+4,s1.heap.objs.size+2,s1.heap.objs.size+3,s1.heap.objs.size,s1.heap.objs.size+1],_,_,H1,rfl,Br,acG x t l _ _ _ _ _ (af2 s1.heap.objs.size),⟨a1,a2,⟨_,_,JQ⟩,Nq,Qr⟩,λb A1=>?_,q⟩;have A1:s1.heap.objs.size<=b:=by
  have A1:b=s1.heap.objs.size+4\/b=s1.heap.objs.size+2\/b=s1.heap.objs.size+3\/b=s1.heap.objs.size\/b=s1.heap.objs.size+1:=by simpa using A1
  rcases A1 with q|q|q|q|q
  .rw[q];exact Tp _ _
  .rw[q];exact Tp _ _
  .rw[q];exact Tp _ _
  .rw[q];exact Ci _
  .rw[q];exact Tp _ _
 exact As.N8 A1 (As.Be.fresh A1)
end
end C1
namespace CT
open PySem PySem.Spec C1
section
variable{X:Ac}{F:B9}{e a b c B_ iter elt:AT}{A5:List AT}{pos p:Pos}{m n:Ab}{ma:Au}
def G2(c:Nat):D:=.str ⟨#[c]⟩
def cf:D->R (List D)
 |.str x=>.ok (x.cps.toList.map G2)
 |_=>.bad
def vD{K:A_}{G:AC}(x:Str):LJ K (eJ x) (x.cps.toList.map G2) G where
 go:=λi H s AD=>by
  have h:i<x.cps.size:=by simpa using AD
  exact h
 IX:=λi H v H' s AD y=>by obtain⟨e,c,AK,rfl⟩:=y;refine⟨G2 c,?_,.inl ⟨e,λ_ _ _=>by unfold G2;simp only[At]⟩⟩;rw[EL,Rp,AK];rfl
 stop:=λH s=>by
  have h:(x.cps.toList.map G2).length=x.cps.size:=by simp
  exact h
def UU(m:Ab):Au:=λρ=>(m ρ).bind cf
def vN:Md (KB F (UU m)) (i3 (Cv F m)):=by
 rintro σ H Q ⟨G,ρ,r,h⟩;unfold UU at h;refine⟨G,ρ,r,?_⟩;refine rb h λd B0 h v H1 Af AL s1 a=>?_;cases d with
 |str x=>simp only[At]at a;exact⟨x,a,h _ H1 Af AL s1 (vD x)⟩
 |_=>cases h
def Pu(ds:List D):List D:=ds.zipIdx.map λp=>.tup [.int (p.2:Int),p.1]
def sl{ds:List D}{i:Nat}{d:D}(e:ds[i]?=some d):(Pu ds)[i]?=some (.tup [.int (i:Int),d]):=by unfold Pu;rw[EL,List.getElem?_zipIdx,e];simp
def T6:List D->R (List D)
 |[.lst ds]=>.ok (Pu ds)
 |[.Co ds]=>.ok (Pu ds)
 |_=>.bad
def jc{K:A_}{G:AC}{l:A7}{ds:List D}{xs:List V}(h:C9 K G l xs)(q:Aa K G ds xs):LJ K (eF K l) (Pu ds) G where
 go:=λi H s AD=>by
  have AD:i<ds.length:=by simpa[Pu]using AD
  obtain⟨v,e,_⟩:=q.get (Df AD);exact⟨xs,v,C9.mono s h,e⟩
 IX:=λi H v H' s AD y=>by obtain⟨p,x,AZ,rfl,rfl,y⟩:=y;have ex:=y xs (C9.mono s h);obtain⟨d,e,a⟩:=q.VE ex;exact⟨_,sl e,.inr ⟨p,_,_,AZ,rfl,rfl,rfl,λAf s1 _=>.cons (by simp only[At]) (.cons (a.mono s1) .nil)⟩⟩
 stop:=λH s=>⟨xs,C9.mono s h,by simp[Pu,q.length]⟩
def UT(m:Au):Au:=λρ=>(m ρ).bind T6
def u9(Am:F.K=X.K):Md (KB F (UT ma)) (hx X.K (Ew F ma)):=by
 rintro σ H Q ⟨G,ρ,r,h⟩;unfold UT at h;refine⟨G,ρ,r,?_⟩;refine rb h λds B0 h vs H1 Af AL s1 al=>?_;unfold T6 at h
 split at h
 .rename_i ds;obtain⟨v,rfl,a⟩:=al.one;simp only[At]at a;obtain⟨q,xs,rfl,AW,FY⟩:=a;have H4:C9 X.K Af q xs:=C9.of AW;rw[<-Am]at H4;refine⟨q,rfl,⟨xs,by rw[<-Am];exact C9.mono AL.kp.sub H4⟩,?_⟩;rw[<-Am];exact h _ H1 Af AL s1 (jc H4 FY)
 .rename_i ds;obtain⟨v,rfl,a⟩:=al.one;simp only[At]at a;obtain⟨q,xs,rfl,AW,FY⟩:=a;refine⟨q,rfl,⟨xs,by rw[<-Am];exact C9.mono AL.kp.sub AW⟩,?_⟩;rw[<-Am];exact h _ H1 Af AL s1 (jc AW FY)
 .exact h.elim
def RP(xs:List Nat)(ys:List D):List D:=(xs.zip ys).map λp=>.tup [G2 p.1,p.2]
def oO:List D->R (List D)
 |[.str x,.EM ys]=>.ok (RP x.cps.toList ys)
 |_=>.bad
def vE{K:A_}{G:AC}{x:Str}{l:A7}{ds:List D}{xs:List V}(h:CZ K G l xs)(q:Aa K G ds xs):LJ K (eL K x l) (RP x.cps.toList ds) G where
 go:=λi H s AD=>by
  have AD:i<min x.cps.size ds.length:=by simpa[RP]using AD
  have A6:i<ds.length:=by lia
  obtain⟨v,e,_⟩:=q.get (Df A6);exact⟨by lia,xs,v,CZ.mono s h,e⟩
 IX:=λi H v H' s AD y=>by
  obtain⟨p,c,RN,AK,AZ,rfl,rfl,y⟩:=y;have ex:=y xs (CZ.mono s h);obtain⟨d,e,a⟩:=q.VE ex;refine⟨.tup [G2 c,d],?_,.inr ⟨p,_,_,AZ,rfl,rfl,rfl,λAf s1 _=>.cons (by unfold G2;simp only[At]) (.cons (a.mono s1) .nil)⟩⟩;unfold RP;rw[EL];have QW:(x.cps.toList.zip ds)[i]?=some (c,d):=by rw[pP];exact⟨by rw[Rp];exact AK,e⟩
  rw[QW];rfl
 stop:=λH s=>⟨xs,CZ.mono s h,by simp[RP,q.length]⟩
def Xx(m:Au):Au:=λρ=>(m ρ).bind oO
def vU(Am:F.K=X.K):Md (KB F (Xx ma)) (i5 X.K (Ew F ma)):=by
 rintro σ H Q ⟨G,ρ,r,h⟩;unfold Xx at h;refine⟨G,ρ,r,?_⟩;refine rb h λds B0 h vs H1 Af AL s1 al=>?_;unfold oO at h
 split at h
 .rename_i x ys;obtain⟨v,w,rfl,B8,Nr⟩:=al.two;simp only[At]at B8 Nr;subst B8;obtain⟨q,xs,rfl,AW,FY⟩:=Nr;refine⟨x,q,rfl,⟨xs,by rw[<-Am];exact CZ.mono AL.kp.sub AW⟩,?_⟩;rw[<-Am];exact h _ H1 Af AL s1 (vE AW FY)
 .exact h.elim
structure GM(X:Ac)(B_:AT)(set:D->AG->R AG):Prop where
 ex:∃g,Jx X B_ g/\∀F:B9,F.K=X.K->Oy F g set
 Hd:∀d ρ c,set d ρ≠.exc c
 keeps:Keeps set
def xY(i:Nat){x:Str}(hN:X.N.Nodup)(AD:X.N[i]?=some x:=by rfl)(AI:Loc X.env.scope x:=by first|exact Dq rfl|exact Cr rfl)(hf:X.fn x=true\/X.env.scope.names.lookup x=some .local:=by first|exact .inl rfl|exact .inr rfl):GM X (.Name x pos) (BC i):=
 ⟨⟨Ie i,Yn hN AD AI hf,λ_ _=>YW i⟩,Z7 i,Z6 i⟩
structure Wq(X:Ac)(aco:List AT)(Ap:List (D->AG->R AG)):Prop where
 ex:∃g,UA X aco g/\∀F:B9,F.K=X.K->U3 F g (IB Ap)
 Hd:∀f∈Ap,∀d ρ c,f d ρ≠.exc c
 keeps:∀f∈Ap,Keeps f
def yU:Wq X [] []:=⟨⟨YU,js,λ_ _=>ie⟩,(λ_ h=>nomatch h),(λ_ h=>nomatch h)⟩
def xA{f:D->AG->R AG}{Ap:List (D->AG->R AG)}(h:GM X e f)(t:Wq X A5 Ap)(AJ:(L1 (e::A5) X.env).map (·.2)=KH e X.env::(L1 A5 X.env).map (·.2):=by rfl):Wq X (e::A5) (f::Ap):=by obtain⟨⟨g,A6,AA⟩,B4,BJ⟩:=h;obtain⟨⟨MP,t1,Do⟩,t3,cu⟩:=t;exact⟨⟨VC g MP,bK A6 t1 AJ,λF Hs=>aU (AA F Hs) (Do F Hs)⟩,λk AF=>by rcases List.mem_cons.mp AF with rfl|AF;exact B4;exact t3 k AF,λk AF=>by rcases List.mem_cons.mp AF with rfl|AF;exact BJ;exact cu k AF⟩
def yX{k:Nat}{Ap:List (D->AG->R AG)}(AK:X.calm=true)(h:Wq X A5 Ap)(AV:(L1 A5 X.env).length=Ap.length:=by rfl)(OT:(L1 A5 X.env).findIdx? (·.1)=none:=by rfl):GM X (.Tuple A5 k pos) (FB Ap):=by obtain⟨⟨MP,t1,Do⟩,t3,cu⟩:=h;exact⟨⟨YV X.K Ap.length MP,jr AK t1 AV OT,λF Hs=>by rw[<-Hs];exact ig rfl (Do F Hs)⟩,nx t3,nv cu⟩
abbrev UP(X:Ac)(scope:E6)(N:List Str)(e:AT)(m:Ab):Prop:=∀cl C s H Ak G0 H0,J7 (FZ X scope N cl C s H Ak) (Ge X.K G0 H0) e m
abbrev Ln(X:Ac)(scope:E6)(N:List Str)(ifs:List AT)(m:CN):Prop:=∀cl C s H Ak G0 H0,P2 (FZ X scope N cl C s H Ak) ifs (H5 (Ge X.K G0 H0) m)
abbrev UQ(X:Ac)(scope:E6)(N:List Str)(B_:AT)(set:D->AG->R AG):Prop:=∃g,(∀cl C s H Ak,Jx (FZ X scope N cl C s H Ak) B_ g)/\(∀G0 H0,Oy (Ge X.K G0 H0) g set)
def g5{scope:E6}{N:List Str}{g:IQ}{set:D->AG->R AG}(h:∀cl C s H Ak,Jx (FZ X scope N cl C s H Ak) B_ g)(k:∀F:B9,F.K=X.K->Oy F g set):UQ X scope N B_ set:=⟨g,h,λG0 H0=>k (Ge X.K G0 H0) rfl⟩
def Ee:CN:=λ_=>.ok true
def pn{scope:E6}{N:List Str}:Ln X scope N [] Ee:=λcl C s H Ak G0 H0 pins s' σ H' Q I h=>by obtain⟨G,ρ,r,k⟩:=h;exact aaZ pins s' σ H' Q I (k H' G r (C6.refl _ _))
def qO{scope:E6}{N:List Str}{mt:CN}(h:∀cl C s H Ak G0 H0,gr (FZ X scope N cl C s H Ak) (Ge X.K G0 H0) c mt):Ln X scope N [c] mt:=λcl C s H Ak G0 H0=>aa_ (h cl C s H Ak G0 H0)
def fF{scope:E6}{N:List Str}{ifs:List AT}{nl:Nat}{caps:List Nat}{mi:Au}{set:D->AG->R AG}{mt:CN}{Ev:Ab}(Am:F.K=X.K)(AD:U6 X F B_ iter mi)(Ad:UQ X scope N B_ set)(Aj:Ln X scope N ifs mt)(he:UP X scope N elt Ev)(AI:∀d ρ c,set d ρ≠.exc c)(AF:Keeps set){Q:TE->Prop}(k:∀g,(∀cl C s H Ak,Jx (FZ X scope N cl C s H Ak) B_ g)->(∀cl C s H Ak,P2 (FZ X scope N cl C s H Ak) ifs (c3 X.K mt))->(∀cl C s H Ak,Ax (FZ X scope N cl C s H Ak) elt (c2 X.K Ev))->Ec (Hf F (DE nl caps mi set mt Ev)) (Yg (KB F mi) g (c3 X.K mt) (c2 X.K Ev) nl caps)->Q (Hf F (DE nl caps mi set mt Ev))):Q (Hf F (DE nl caps mi set mt Ev)):=by
 obtain⟨g,g1,g2⟩:=Ad;refine k g g1 (λcl C s H Ak pins s' σ H' P3 I h=>?_) (λcl C s H Ak pins s' σ H' P3 I h=>?_) ?_
 .obtain⟨G0,H0,h⟩:=h;exact Aj cl C s H Ak G0 H0 pins s' σ H' P3 I h
 .obtain⟨G0,H0,h⟩:=h;exact he cl C s H Ak G0 H0 pins s' σ H' P3 I h
 .have z:=u2 (F:=F) (nl:=nl) (caps:=caps) (mi:=mi) (tst:=mt) (elt:=Ev) (g:=g) (set:=set) (λG0 H0=>by rw[Am];exact g2 G0 H0) AI AF;rw[Am]at z;exact z
def y6{scope:E6}{N:List Str}{ifs:List AT}{nl:Nat}{caps:List Nat}{mi:Au}{set:D->AG->R AG}{mt:CN}{Ev:Ab}(S:ME X.env.scope X.N scope N nl caps)(AD:U6 X F B_ iter mi)(Ad:UQ X scope N B_ set)(AI:∀d ρ c,set d ρ≠.exc c)(AF:Keeps set)(Aj:Ln X scope N ifs mt)(he:UP X scope N elt Ev)(AK:X.calm=true:=by rfl)(Am:F.K=X.K:=by rfl)(AJ:∀x,Lg iter X.env x=pure x:=by intro _;rfl):ga X F (.ListComp elt [⟨B_,iter,ifs,0⟩] scope pos) (DE nl caps mi set mt Ev):=
 fF (nl:=nl) (caps:=caps) (Q:=λt=>Ax X (.ListComp elt [⟨B_,iter,ifs,0⟩] scope pos) t) Am AD Ad Aj he AI AF λg g1 t1 A9 imp=>Ax.imp (zn S AK AD g1 t1 A9 AJ) imp
def zz(i:Nat){y:Str}{py:Pos}{scope:E6}{N:List Str}{ifs:List AT}{nl:Nat}{caps:List Nat}{mi:Au}{set:D->AG->R AG}{mt:CN}{Ev:Ab}{Bs:Pos}(hN:X.N.Nodup)(S:ME X.env.scope X.N scope N nl caps)(AD:U6 X F B_ iter mi)(Ad:UQ X scope N B_ set)(AI:∀d ρ c,set d ρ≠.exc c)(AF:Keeps set)(Aj:Ln X scope N ifs mt)(he:UP X scope N elt Ev)(BO:X.N[i]?=some y:=by rfl)(AN:X.env.kindOf y=some .local:=by rfl)(OU:Lk (.ListComp elt [⟨B_,iter,ifs,0⟩] scope Bs) (some (.Name y py)) pos.line X.env=pure true:=by rfl)(AK:X.calm=true:=by rfl)(Am:F.K=X.K:=by rfl)(AJ:∀x,Lg iter X.env x=pure x:=by intro _;rfl) :
  gp X F (.Assign [.Name y py] (.ListComp elt [⟨B_,iter,ifs,0⟩] scope Bs) pos) (E_ i (DE nl caps mi set mt Ev)):=by
 refine DH.imp (t:=MA (Hf F (DE nl caps mi set mt Ev)) (Ie i)) ?_ aG;refine fF (nl:=nl) (caps:=caps) (Q:=λt=>DH X (.Assign [.Name y py] (.ListComp elt [⟨B_,iter,ifs,0⟩] scope Bs) pos) (MA t (Ie i))) Am AD Ad Aj he AI AF λg g1 t1 A9 imp=>?_;exact DH.imp (lR S AK hN BO AN AD g1 t1 A9 OU AJ) λCY σ H h=>imp σ H _ h
end
section
variable{X:Ac}{F:B9}{e a b c:AT}{A5:List AT}{pos p:Pos}{m n:Ab}{ma:Au}
def Pl:List D->Option (List Bool)
 |[]=>some []
 |.AO b::r=>(Pl r).map (b::·)
 |_::_=>none
theorem f7{K:A_}{G:AC}:∀{ds:List D}{xs:List V}{bs:List Bool},Aa K G ds xs->Pl ds=some bs->xs=bs.map V.AO
 |[],_,_,q,e=>by simp only[Aa]at q;subst q;cases e;rfl
 |d::ds,_,bs,q,e=>by
  simp only[Aa]at q;obtain⟨v,r,rfl,a,MK⟩:=q;cases d with
  |AO b=>
   simp only[At]at a;subst a;simp only[Pl]at e;cases A9:Pl ds with
   |none=>rw[A9]at e;cases e
   |some cs=>rw[A9]at e;have BV:b::cs=bs:=Eh e;subst BV;rw[f7 MK A9];rfl
  |_=>cases e
theorem bt:∀{bs:List Bool}{us:List A8},Vals (bs.map V.AO) us->us=bs.map Oo
 |[],_,r=>by cases r;rfl
 |b::bs,_,r=>by
  cases r with
  |cons AL B7=>cases AL;rw[bt B7];rfl
def qP(AK:X.calm=true)(TG:X.A.handled=none):Hv X (.builtin "all") (λxs H Q=>∃(p:A7)(bs:List Bool),xs=[.ref p]/\C9 X.K H p (bs.map V.AO)/\Q (.AO (bs.all id)) H):=by
 intro pins s σ H xs us Q I r h;obtain⟨p,bs,rfl,AW,q⟩:=h;obtain⟨u,rfl,FP⟩:=vals1 r;cases FP;obtain⟨its,CL,pl,BB⟩:=I.list AW;have F0:=bt CL;refine call_all_walk (dP pl.isList ?_);have OQ:p≠s.heap.objs.size:=by obtain⟨o,ho,_⟩:=pl.isList;exact FD (D_ ho)
 refine⟨s.heap.objs.size,_,_,_,_,_,λi=>(bs[i]?).getD true,rfl,Walks.list (prog:=X.prog) (w:=X.w) (A:=X.A.in1) TG s.heap.objs.size p OQ its.toArray,⟨⟨_,F4 _ rfl,rfl,rfl⟩,pl.isList.push _⟩,?_,λh' CV Bf=>?_⟩
 .intro i v s' P3 p_ Ce Qb;rw[F0]at Ce;have Ce:(bs.map Oo)[i]?=some v:=by simpa using Ce
  rw[EL]at Ce;cases BV:bs[i]? with
  |none=>rw[BV]at Ce;cases Ce
  |some b=>rw[BV]at Ce;have ev:Oo b=v:=Eh Ce;subst ev;dsimp only at Qb;rw[BV]at Qb;exact Kz Qb
 .have PG:(Ds its.toArray.size).all (λi=>(bs[i]?).getD true)=bs.all id:=by
    have AN:its.toArray.size=bs.length:=by rw[F0];simp
    rw[AN,GV,MU,MU];constructor
    .intro BE x AI;obtain⟨i,AD,rfl⟩:=List.mem_iff_getElem.mp AI;have:=BE i (List.mem_range.mpr AD);rw[Df AD]at this;exact this
    .intro BE i AD;have AD:=List.mem_range.mp AD;rw[Df AD];exact BE _ (MV AD)
  rw[PG];exact⟨.AO _,H,I.kept (t':=CV) λb o AM=>Bf b o (by
   intro z;have z:b=s.heap.objs.size:=by simpa using z
   exact absurd (D_ AM) (by rw[z];exact KC _)) (Da _ AM),rfl,q⟩
def rQ(AK:X.calm=true)(TG:X.A.handled=none):Hv X (.builtin "any") (λxs H Q=>∃(p:A7)(bs:List Bool),xs=[.ref p]/\C9 X.K H p (bs.map V.AO)/\Q (.AO (bs.any id)) H):=by
 intro pins s σ H xs us Q I r h;obtain⟨p,bs,rfl,AW,q⟩:=h;obtain⟨u,rfl,FP⟩:=vals1 r;cases FP;obtain⟨its,CL,pl,BB⟩:=I.list AW;have F0:=bt CL;refine call_any_walk (dP pl.isList ?_);have OQ:p≠s.heap.objs.size:=by obtain⟨o,ho,_⟩:=pl.isList;exact FD (D_ ho)
 refine⟨s.heap.objs.size,_,_,_,_,_,λi=>(bs[i]?).getD false,rfl,Walks.list (prog:=X.prog) (w:=X.w) (A:=X.A.in1) TG s.heap.objs.size p OQ its.toArray,⟨⟨_,F4 _ rfl,rfl,rfl⟩,pl.isList.push _⟩,?_,λh' CV Bf=>?_⟩
 .intro i v s' P3 p_ Ce Qb;rw[F0]at Ce;have Ce:(bs.map Oo)[i]?=some v:=by simpa using Ce
  rw[EL]at Ce;cases BV:bs[i]? with
  |none=>rw[BV]at Ce;cases Ce
  |some b=>rw[BV]at Ce;have ev:Oo b=v:=Eh Ce;subst ev;dsimp only at Qb;rw[BV]at Qb;exact Kz Qb
 .have PG:(Ds its.toArray.size).any (λi=>(bs[i]?).getD false)=bs.any id:=by
    have AN:its.toArray.size=bs.length:=by rw[F0];simp
    rw[AN,GV,NK,NK];constructor
    .rintro⟨i,AD,BE⟩;have AD:=List.mem_range.mp AD;rw[Df AD]at BE;exact⟨_,MV AD,BE⟩
    .rintro⟨x,AI,BE⟩;obtain⟨i,AD,rfl⟩:=List.mem_iff_getElem.mp AI;refine⟨i,List.mem_range.mpr AD,?_⟩;rw[Df AD];exact BE
  rw[PG];exact⟨.AO _,H,I.kept (t':=CV) λb o AM=>Bf b o (by
   intro z;have z:b=s.heap.objs.size:=by simpa using z
   exact absurd (D_ AM) (by rw[z];exact KC _)) (Da _ AM),rfl,q⟩
def CO:List D->R D
 |[.lst ds]=>match Pl ds with|some bs=>.ok (.AO (bs.all id))|none=>.bad
 |_=>.bad
def MJ:List D->R D
 |[.lst ds]=>match Pl ds with|some bs=>.ok (.AO (bs.any id))|none=>.bad
 |_=>.bad
def yC:Ni F (λxs H Q=>∃(p:A7)(bs:List Bool),xs=[.ref p]/\C9 X.K H p (bs.map V.AO)/\Q (.AO (bs.all id)) H) CO:=by
 intro σ ρ G H xs ds Q r al k;unfold CO at k
 split at k
 .rename_i ds
  split at k
  .rename_i bs BV;obtain⟨v,rfl,B8⟩:=al.one;simp only[At]at B8;obtain⟨q,xs,rfl,AW,FY⟩:=B8;have:=f7 FY BV;subst this;exact⟨q,bs,rfl,C9.of (r.kp.sub _ _ AW),k _ H G r (C6.refl _ _) (by simp only[At])⟩
  .exact k.elim
 .exact k.elim
def yD:Ni F (λxs H Q=>∃(p:A7)(bs:List Bool),xs=[.ref p]/\C9 X.K H p (bs.map V.AO)/\Q (.AO (bs.any id)) H) MJ:=by
 intro σ ρ G H xs ds Q r al k;unfold MJ at k
 split at k
 .rename_i ds
  split at k
  .rename_i bs BV;obtain⟨v,rfl,B8⟩:=al.one;simp only[At]at B8;obtain⟨q,xs,rfl,AW,FY⟩:=B8;have:=f7 FY BV;subst this;exact⟨q,bs,rfl,C9.of (r.kp.sub _ _ AW),k _ H G r (C6.refl _ _) (by simp only[At])⟩
  .exact k.elim
 .exact k.elim
end
section
variable{X:Ac}{F:B9}{e a b c:AT}{A5:List AT}{pos p:Pos}{m n:Ab}{ma:Au}
def ownAt(i:Nat)(ρ:AG):R (List D):=match ρ[i]? with
 |some (.ob (.lst ds))=>.ok ds
 |_=>.bad
def II(i:Nat)(m:Ab):Ao:=λρ=>(ownAt i ρ).bind λds=>(m ρ).bind λd=>if ds.length<1000000 then .ok (.Ay (ρ.set i (.Bw (ds++[d]))))else .bad
end
abbrev OE(K:A_)(n:Nat)(Ba:List D->R CG):AY:=TO K n (λ_ _ _=>False) Ba
structure E2(P:C2)(w:Bh)(K:A_)(mg:Str->Option A8)(base:BP)(x:Str)(n k:Nat)(Ba:List D->R CG):Prop where
 ex:∃(f:A7)(fd:G5)(Aq:List Str),Aq.length=n/\GX P w K mg base Gs k f fd Aq (OE K n Ba)/\mg x=some (.ref f)/\Kv K (.ref f)=true/\Binds K fd Aq []
section
variable{X:Ac}{F:B9}{e:AT}{A5:List AT}{pos p:Pos}{ma:Au}{x:Str}{n k:Nat}{Ba:List D->R CG}
end
structure Dt(K:A_)(mg:Str->Option A8)(x:Str)(st:Bb)(Aq:List Str):Prop where
 ex:∃(f:A7)(fd:G5),Mb K x x st f fd/\mg x=some (.ref f)/\Binds K fd Aq []
def r9{P:C2}{w:Bh}{K:A_}{mg:Str->Option A8}{base:BP}{x:Str}{st:Bb}{N Aq:List Str}{k:Nat}{m:Ao}(d:Dt K mg x st Aq)(S:Cg N Aq (Bv st))(h:∀(f:A7)(CJ:A8)(A:CR)(outer:List Env)(s:AQ)(H:AC)(E:DP),Ch k (A.deeper (NL x (Bv st) s.heap.objs.size f CJ))->∀G0 H0,pj (JR Gs P w K mg base N x (Bv st) f CJ A outer s H E).Kp (Ge K G0 H0) (GR st) m) :
  E2 P w K mg base x Aq.length (k+1) (DS N.length m):=by
 obtain⟨f,fd,fn,hm,A1⟩:=d.ex;refine⟨f,fd,Aq,rfl,fn.ok S cn λCJ A outer s H vs Q E B3 AJ=>?_,hm,fn.kp,A1⟩;obtain⟨G,Aj⟩:=f6 AJ;exact⟨_,h f CJ A outer s H E B3 G H,Aj⟩
def tr{K:A_}{h:BP}{mg:Str->Option A8}{x:Str}{st:Bb}{Aq:List Str}{f:A7}{I9:A8}{EN an:Option A7}{Mr:Array (Option A8)}{Dl doc pm CJ Dr:A8}(X:K.In h)(G:h.Ns FE mg)(a:Lj K FE x=some (some (.ref f)))(l:K.lookup f=some ⟨I9,EN,.func (J0 x x (KX st) (GR st) (Bv st) .none Dl doc pm an CJ Dr),Mr⟩)(c:Oh K CJ x=true)(k:Kv K (.ref f)=true)(b:∀(Dl doc pm:A8)(an:Option A7)(CJ Dr:A8)(us:List A8),us.length=Aq.length->S2 (J0 x x (KX st) (GR st) (Bv st) .none Dl doc pm an CJ Dr) ⟨us,[]⟩=pure (Aq.zip us)):Dt K mg x st Aq:=
 ⟨f,_,Q_ (st:=st) l c k,QS X G a,(Q_ (st:=st) l c k).binds b⟩
def xn{K:A_}{Ba:List D->R CG}{H:AC}{a:A7}{ns:List Int}(Gg:C9 K H a (ns.map V.int))(h:Ba [.Co (ns.map .int)]=.ok (.v (.AO true)))(E:DP):OE K 1 Ba [.ref a] H (λv _=>v=.AO true) E:=by
 refine⟨H,[.Co (ns.map .int)],Sub.refl _,.cons ?_ .nil,rfl,?_⟩
 .simp only[At];refine⟨a,_,rfl,Gg,?_⟩;induction ns with
  |nil=>exact .nil
  |cons n r CA=>exact .cons (by simp only[At]) (YC r)
 .rw[h];intro v G' H' _ B8;simp only[At]at B8;exact B8
where
 YC {K:A_} {H:AC}:∀r:List Int,Aa K H (r.map .int) (r.map V.int)
  |[]=>.nil
  |n::r=>.cons (by simp only[At]) (YC r)
section
variable{X:Ac}{F:B9}{e a b c B_ iter elt:AT}{A5:List AT}{pos p:Pos}{m n:Ab}{ma:Au}{scope:E6}{N:List Str}
structure Qf(X:Ac)(scope:E6)(N:List Str)(B_:AT)(set:D->AG->R AG):Prop where
 g:UQ X scope N B_ set
 Ay:∀d ρ c,set d ρ≠.exc c
 kp:Keeps set
def qI(i:Nat){x:Str}(hN:N.Nodup:=by decide+kernel)(AD:N[i]?=some x:=by rfl)(AN:(Ll scope X.env).names.lookup x=some .local:=by rfl):Qf X scope N (.Name x pos) (BC i):=
 ⟨g5 (g:=Ie i) (λcl C s H Ak=>Yn (X:=FZ X scope N cl C s H Ak) hN AD (.inl AN) (.inr AN)) λF _=>YW i,Z7 i,Z6 i⟩
def qJ(i j:Nat){x y:Str}{Cm py:Pos}{k:Nat}(AK:X.calm=true:=by rfl)(hN:N.Nodup:=by decide+kernel)(AD:N[i]?=some x:=by rfl)(Bz:N[j]?=some y:=by rfl)(AN:(Ll scope X.env).names.lookup x=some .local:=by rfl)(hm:(Ll scope X.env).names.lookup y=some .local:=by rfl) :
  Qf X scope N (.Tuple [.Name x Cm,.Name y py] k pos) (FB [BC i,BC j]):=by
 refine⟨g5 (g:=YV X.K 2 (VC (Ie i) (VC (Ie j) YU))) (λcl C s H Ak=>?_) (λF Hs=>?_),nx ?_,nv ?_⟩
 .exact jr (X:=FZ X scope N cl C s H Ak) AK (bK (Yn (X:=FZ X scope N cl C s H Ak) hN AD (.inl AN) (.inr AN)) (bK (Yn (X:=FZ X scope N cl C s H Ak) hN Bz (.inl hm) (.inr hm)) js rfl) rfl) rfl rfl
 .rw[<-Hs];exact ig rfl (aU (YW i) (aU (YW j) ie))
 .intro f hf;rcases List.mem_cons.mp hf with rfl|hf
  .exact Z7 i
  .rw[List.mem_singleton.mp hf];exact Z7 j
 .intro f hf;rcases List.mem_cons.mp hf with rfl|hf
  .exact Z6 i
  .rw[List.mem_singleton.mp hf];exact Z6 j
def y7(nl:Nat)(caps:List Nat){ifs:List AT}{mi:Au}{set:D->AG->R AG}{mt:CN}{Ev:Ab}(S:Qu X.env.scope X.N scope N nl caps=true)(AD:U6 X F B_ iter mi)(Ad:Qf X scope N B_ set)(Aj:Ln X scope N ifs mt)(he:UP X scope N elt Ev)(AK:X.calm=true:=by rfl)(Am:F.K=X.K:=by rfl)(AJ:∀x,Lg iter X.env x=pure x:=by intro _;rfl):ga X F (.ListComp elt [⟨B_,iter,ifs,0⟩] scope pos) (DE nl caps mi set mt Ev):=
 y6 (.of S) AD Ad.g Ad.Ay Ad.kp Aj he AK Am AJ
def aa0(i:Nat)(nl:Nat)(caps:List Nat){y:Str}{py:Pos}{ifs:List AT}{mi:Au}{set:D->AG->R AG}{mt:CN}{Ev:Ab}{Bs:Pos}(hN:X.N.Nodup)(S:Qu X.env.scope X.N scope N nl caps=true)(AD:U6 X F B_ iter mi)(Ad:Qf X scope N B_ set)(Aj:Ln X scope N ifs mt)(he:UP X scope N elt Ev)(BO:X.N[i]?=some y:=by rfl)(AN:X.env.kindOf y=some .local:=by rfl)(OU:Lk (.ListComp elt [⟨B_,iter,ifs,0⟩] scope Bs) (some (.Name y py)) pos.line X.env=pure true:=by rfl)(AK:X.calm=true:=by rfl)(Am:F.K=X.K:=by rfl)(AJ:∀x,Lg iter X.env x=pure x:=by intro _;rfl) :
  gp X F (.Assign [.Name y py] (.ListComp elt [⟨B_,iter,ifs,0⟩] scope Bs) pos) (E_ i (DE nl caps mi set mt Ev)):=
 zz i hN (.of S) AD Ad.g Ad.Ay Ad.kp Aj he BO AN OU AK Am AJ
def Oc(i:Nat)(a:Au):Ao:=λρ=>((E_ i a) ρ).bind λf=>match f with
 |.Ay BL=>.ok (.Ay (Ka i BL))
 |f=>.ok f
end
def cC{K:A_}{c:A7}{DI:Option A7}{its:Array A8}{n:Nat}{CE:Array (Option A8)}{xs:List V}{ds:List D}(l:K.lookup c=some ⟨.type "tuple",DI,.seq its n,CE⟩)(BB:its.size<=CF)(v:Vals xs its.toList)(a:∀G,Aa K G ds xs) :
  ∀G,At K G (.EM ds) (.ref c):=λG=>by
 simp only[At];exact⟨c,xs,rfl,.inr ⟨_,its,n,l,rfl,rfl,BB,v⟩,a G⟩
def VM(i:Int)(t:Tok):RelV (.int i) (.int i t):=⟨t,rfl⟩
def Z0(x:Str)(t:Tok):RelV (.str x) (.str x t):=⟨t,rfl⟩
def UF{K:A_}{G:AC}(i:Int):At K G (.int i) (.int i):=by simp only[At]
def XY{K:A_}{G:AC}(i:Str):At K G (.str i) (.str i):=by simp only[At]
structure B2(X:Ac)(F:B9)(e:AT)(m:Ab):Prop where
 o:Ax X e (Cv F m)
structure KU(X:Ac)(F:B9)(e:AT)(m:Au):Prop where
 o:Ax X e (Hf F m)
structure Fm(X:Ac)(F:B9)(e:AT)(m:CN):Prop where
 o:FX X e (H5 F m)
structure Qq(X:Ac)(F:B9)(e:AT)(m:CN):Prop where
 o:JD X e (H5 F m)
structure G8(X:Ac)(F:B9)(A5:List AT)(m:Au):Prop where
 o:GN X A5 (Ew F m)
structure Er(X:Ac)(F:B9)(st:Bb)(m:Ao):Prop where
 o:DH X st (Fj F m)
structure Jy(X:Ac)(F:B9)(st:List Bb)(m:Ao):Prop where
 o:GO X st (Fj F m)
structure KV(X:Ac)(F:B9)(B_ e:AT)(m:Au):Prop where
 o:Fl X B_ e (KB F m)
structure S8(X:Ac)(F:B9)(e:Option AT)(m:Me):Prop where
 o:UB X e (V_ F m)
section
variable{X:Ac}{F:B9}{e a b c B_ iter elt:AT}{A5:List AT}{pos p:Pos}{m n:Ab}{ma:Au}{st:Bb}{RF:List Bb}
def ae_(i:Nat){x:Str}(hN:X.N[i]?=some x:=by rfl)(Bc:G_ X.env.scope x:=by first|exact Dq rfl|exact Cr (Dq rfl)|exact Cr (Cr rfl))(hd:(x==("__debug__" :Str))=false:=by decide)(DQ:(x==("__classdict__" :Str))=false:=by decide):B2 X F (.Name x pos) (A0 i):=⟨Ax.imp (IA hN Bc hd DQ) (vS i)⟩
def adH{i:Int}{j}:B2 X F (.Constant (.int i) j pos) (A4 (.int i)):=⟨Ax.imp zt (Uk λ_=>by simp only[At])⟩
def adu{i:Bool}{j}:B2 X F (.Constant (.bool i) j pos) (A4 (.AO i)):=⟨Ax.imp zi (Uk λ_=>by simp only[At])⟩
def ad2{i:Str}{j}:B2 X F (.Constant (.str i) j pos) (A4 (.str i)):=⟨Ax.imp zB (Uk λ_=>by simp only[At])⟩
def adS{j}:B2 X F (.Constant .none j pos) (A4 .non):=⟨Ax.imp z8 (Uk λ_=>by simp only[At])⟩
def adm:G8 X F [] AE:=⟨GN.imp R9 vx⟩
def adl{m:Ab}{r:Au}(h:B2 X F e m)(t:G8 X F A5 r)(AJ:notStar e=true:=by rfl):G8 X F (e::A5) (A2 m r):=⟨have h:=h.1;have t:=t.1;GN.imp (P7 h t (aay e A5 X.env AJ)) u3⟩
def aeY{k}{m:Au}(h:G8 X F A5 m):B2 X F (.Tuple A5 k pos) (CP m):=⟨have h:=h.1;Ax.imp (zC h) vP⟩
def aes{m:Au}(h:G8 X F A5 m):KU X F (.List A5 pos) (C4 m):=⟨have h:=h.1;Ax.imp (zw h) vq⟩
def adE{m:Au}(h:KU X F e m):B2 X F e (BH m):=⟨have h:=h.1;Ax.imp h ub⟩
def adv{m:Ab}(h:B2 X F e m):B2 X F e (Ly m):=⟨have h:=h.1;Ax.imp h uU⟩
def ae2{m:CN}(h:Fm X F e m):Fm X F e (GC m):=⟨have h:=h.1;FX.imp h uZ⟩
def afB{m:Ab}(h:B2 X F e m)(he:∀whole,isTrue e X.env whole=(do let v <-whole;M_ e.pos;Jr [v] (truthy v)):=by intro _;rfl):Fm X F e (Ah m):=⟨have h:=h.1;FX.imp (aaY h he) YA⟩
def afE{m:CN}(h:Fm X F a m):Qq X F (.BoolOp .And [a] pos) m:=⟨have h:=h.1;aaf h⟩
def afK{m:CN}(h:Fm X F a m):Qq X F (.BoolOp .Or [a] pos) m:=⟨have h:=h.1;aah h⟩
def afD{m n:CN}(h:Fm X F a m)(k:Qq X F (.BoolOp .And (b::A5) pos) n):Qq X F (.BoolOp .And (a::b::A5) pos) (Eu m n):=⟨have h:=h.1;have k:=k.1;JD.imp (aae h k) uS⟩
def afJ{m n:CN}(h:Fm X F a m)(k:Qq X F (.BoolOp .Or (b::A5) pos) n):Qq X F (.BoolOp .Or (a::b::A5) pos) (GD m n):=⟨have h:=h.1;have k:=k.1;JD.imp (aag h k) w1⟩
def afC{m:CN}(h:Qq X F e m):Fm X F e m:=⟨have h:=h.1;JD.pt h⟩
def af8{m:CN}(h:Fm X F a m):Fm X F (.UnaryOp .Not a pos) (Gi m):=⟨have h:=h.1;FX.imp (aaX h) vy⟩
def acw{op}{m:Ab}(h:B2 X F a m):B2 X F (.BoolOp op [a] pos) m:=⟨have h:=h.1;zA h⟩
def ads{m n:Ab}(h:B2 X F a m)(k:B2 X F (.BoolOp .And (b::A5) pos) n):B2 X F (.BoolOp .And (a::b::A5) pos) (OY m n):=⟨have h:=h.1;have k:=k.1;Ax.imp (zh h k) uT⟩
def adT{m:Ab}(h:B2 X F a m):B2 X F (.UnaryOp .Not a pos) (YL m):=⟨have h:=h.1;Ax.imp (z9 h) vz⟩
def adF{k:CN}{m n:Ab}(h:Fm X F c k)(AB:B2 X F a m)(A1:B2 X F b n):B2 X F (.IfExp c a b pos) (Ki k m n):=⟨have h:=h.1;have AB:=AB.1;have A1:=A1.1;Ax.imp (zr h AB A1) vk⟩
def aeL:Jy X F [] CK:=⟨GO.imp lW vw⟩
def aeD{m n:Ao}(h:Er X F st m)(k:Jy X F RF n):Jy X F (st::RF) (AP m n):=⟨have h:=h.1;have k:=k.1;GO.imp (lV h k) w7⟩
def aeM{m:Ao}(h:Er X F st m):Jy X F [st] m:=⟨have h:=h.1;bN h⟩
def aeO{m:Ab}(h:B2 X F e m):Er X F (.Return (some e) pos) (CC m):=⟨have h:=h.1;DH.imp (W0 h) w4⟩
def aeP{m:Au}(h:KU X F e m):Er X F (.Return (some e) pos) (GT m):=⟨have h:=h.1;DH.imp (W0 h) w5⟩
def aeR(i:Nat){x:Str}{p:Pos}(hN:X.N[i]?=some x:=by rfl)(Bc:G_ X.env.scope x:=by first|exact Dq rfl|exact Cr (Dq rfl)|exact Cr (Cr rfl))(hd:(x==("__debug__" :Str))=false:=by decide)(DQ:(x==("__classdict__" :Str))=false:=by decide):Er X F (.Return (some (.Name x p)) pos) (GT (Je i)):=⟨DH.imp (W0 (IA hN Bc hd DQ)) (w6 i)⟩
def aeK{k:CN}{m n:Ao}{xs ys:List Bb}(h:Fm X F c k)(AB:Jy X F xs m)(A1:Jy X F ys n):Er X F (.If c xs ys pos) (C8 k m n):=⟨have h:=h.1;have AB:=AB.1;have A1:=A1.1;DH.imp (lT h AB A1) vl⟩
def aeJ{m:Ao}(i:Nat)(h:Er X F st m):Er X F st (OZ i m):=⟨have h:=h.1;DH.imp h uB⟩
def aeU(i:Nat){x:Str}{p:Pos}{m:Ab}(hN:X.N.Nodup)(he:B2 X F e m)(AD:X.N[i]?=some x:=by rfl)(AI:Loc X.env.scope x:=by first|exact Dq rfl|exact Cr rfl)(AJ:Pa e=true:=by rfl)(hf:X.fn x=true\/X.env.scope.names.lookup x=some .local:=by first|exact .inl rfl|exact .inr rfl):Er X F (.Assign [.Name x p] e pos) (B5 i m):=⟨have he:=he.1;DH.imp (W1 hN AD AI he (M9 _ _ _ _ AJ) hf) vJ⟩
def adz(i:Nat){x:Str}{p:Pos}{m:Au}(hN:X.N.Nodup)(he:KU X F e m)(AD:X.N[i]?=some x:=by rfl)(AI:Loc X.env.scope x:=by first|exact Dq rfl|exact Cr rfl)(AJ:Pa e=true:=by rfl)(hf:X.fn x=true\/X.env.scope.names.lookup x=some .local:=by first|exact .inl rfl|exact .inr rfl):Er X F (.Assign [.Name x p] e pos) (E_ i m):=⟨have he:=he.1;DH.imp (W1 hN AD AI he (M9 _ _ _ _ AJ) hf) aG⟩
def ad4(AB:B2 X F a m)(A1:B2 X F b n):B2 X F (.BinOp a .Sub b pos) (A3 RG m n):=⟨have AB:=AB.1;have A1:=A1.1;Pr yT (ZU λ_ _ _=>by simp only[At]) AB A1⟩
def adP(AB:B2 X F a m)(A1:B2 X F b n):B2 X F (.BinOp a .Mult b pos) (A3 M3 m n):=⟨have AB:=AB.1;have A1:=A1.1;Pr y1 (SU λ_ _ _=>by simp only[At]) AB A1⟩
def adD(AB:B2 X F a m)(A1:B2 X F b n):B2 X F (.BinOp a .FloorDiv b pos) (A3 Di m n):=⟨have AB:=AB.1;have A1:=A1.1;Pr xw (SU λ_ _ _=>by simp only[At]) AB A1⟩
def adO(AB:B2 X F a m)(A1:B2 X F b n):B2 X F (.BinOp a .Mod b pos) (A3 Ck m n):=⟨have AB:=AB.1;have A1:=A1.1;Pr y0 (SU λ_ _ _=>by simp only[At]) AB A1⟩
def acy(AB:B2 X F a m)(A1:B2 X F b n):B2 X F (.BinOp a .Pow b pos) (A3 O6 m n):=⟨have AB:=AB.1;have A1:=A1.1;Pr y3 (SU λ_ _ _=>by simp only[At]) AB A1⟩
def af6(AB:B2 X F a m)(A1:B2 X F b n):Fm X F (.Compare a [.Lt] [b] pos) (Ah (A3 R_ m n)):=⟨have AB:=AB.1;have A1:=A1.1;Q6 xz (ZU λ_ _ _=>by simp only[At]) AB A1 (P_ _)⟩
def aeX(AB:B2 X F a m)(A1:B2 X F b n):Fm X F (.Compare a [.Gt] [b] pos) (Ah (A3 YX m n)):=⟨have AB:=AB.1;have A1:=A1.1;Q6 xx (ZU λ_ _ _=>by simp only[At]) AB A1 (P_ _)⟩
def adR(AB:B2 X F a m):B2 X F (.UnaryOp .USub a pos) (Cj Jg m):=⟨have AB:=AB.1;qz acL (λσ ρ G H x Ag Q r Bu k=>by
 unfold Jg at k
 split at k
 .rename_i i;simp only[At]at Bu;exact⟨i,Bu,k _ H G r (C6.refl _ _) (by simp only[At])⟩
 .exact k.elim) AB⟩
def adp(AB:B2 X F a m)(A1:B2 X F b n):B2 X F (.BinOp a .Add b pos) (A3 DL m n):=⟨have AB:=AB.1;have A1:=A1.1;Pr (yQ.or (yR.or bD)) yB AB A1⟩
def ae6(BR:X.A.units+64<DX)(AB:B2 X F a m)(A1:B2 X F b n)(Am:F.K=X.K:=by rfl):Fm X F (.Compare a [.Eq] [b] pos) (Ah (A3 (Ar true) m n)):=⟨have AB:=AB.1;have A1:=A1.1;Q6 (k9 Am BR) (ZS true) AB A1 (P_ _)⟩
def af7(BR:X.A.units+64<DX)(AB:B2 X F a m)(A1:B2 X F b n)(Am:F.K=X.K:=by rfl):Fm X F (.Compare a [.NotEq] [b] pos) (Ah (A3 (Ar false) m n)):=⟨have AB:=AB.1;have A1:=A1.1;Q6 (kB Am BR) (ZS false) AB A1 (P_ _)⟩
def adC(BR:X.A.units+64<DX)(AB:B2 X F a m)(A1:B2 X F b n)(Am:F.K=X.K:=by rfl):B2 X F (.Compare a [.Eq] [b] pos) (A3 (Ar true) m n):=⟨have AB:=AB.1;have A1:=A1.1;Wy (k9 Am BR) (ZS true) AB A1 (P_ _)⟩
def adQ(BR:X.A.units+64<DX)(AB:B2 X F a m)(A1:B2 X F b n)(Am:F.K=X.K:=by rfl):B2 X F (.Compare a [.NotEq] [b] pos) (A3 (Ar false) m n):=⟨have AB:=AB.1;have A1:=A1.1;Wy (kB Am BR) (ZS false) AB A1 (P_ _)⟩
def af4(BR:X.A.units+64<DX)(AB:B2 X F a m)(A1:B2 X F b n)(Am:F.K=X.K:=by rfl)(hm:IE .In b=false:=by with_unfolding_all rfl):Fm X F (.Compare a [.In] [b] pos) (Ah (A3 (inD true) m n)):=⟨have AB:=AB.1;have A1:=A1.1;Q6 (kA Am BR) (ZT true) AB A1 hm⟩
def af9(BR:X.A.units+64<DX)(AB:B2 X F a m)(A1:B2 X F b n)(Am:F.K=X.K:=by rfl)(hm:IE .NotIn b=false:=by with_unfolding_all rfl):Fm X F (.Compare a [.NotIn] [b] pos) (Ah (A3 (inD false) m n)):=⟨have AB:=AB.1;have A1:=A1.1;Q6 (kC Am BR) (ZT false) AB A1 hm⟩
def adG(BR:X.A.units+64<DX)(AB:B2 X F a m)(A1:B2 X F b n)(Am:F.K=X.K:=by rfl)(hm:IE .In b=false:=by with_unfolding_all rfl):B2 X F (.Compare a [.In] [b] pos) (A3 (inD true) m n):=⟨have AB:=AB.1;have A1:=A1.1;Wy (kA Am BR) (ZT true) AB A1 hm⟩
def acv(BR:X.A.units+64<DX)(AB:B2 X F a m)(A1:B2 X F b n)(Am:F.K=X.K:=by rfl)(hm:IE .NotIn b=false:=by with_unfolding_all rfl):B2 X F (.Compare a [.NotIn] [b] pos) (A3 (inD false) m n):=⟨have AB:=AB.1;have A1:=A1.1;Wy (kC Am BR) (ZT false) AB A1 hm⟩
def af5(AB:B2 X F a m)(A1:B2 X F b n):Fm X F (.Compare a [.Is] [b] pos) (Ah (A3 (Fa true) m n)):=⟨have AB:=AB.1;have A1:=A1.1;Q6 xy (λσ ρ G H x y Ag Gc Q r Bu Cs k=>by
 unfold Fa at k
 split at k
 .simp only[At]at Cs;rw[j_ Bu]at k;exact⟨Cs,k _ H G r (C6.refl _ _) (by simp only[At];rfl)⟩
 .exact k.elim) AB A1 (P_ _)⟩
def afA(AB:B2 X F a m)(A1:B2 X F b n):Fm X F (.Compare a [.IsNot] [b] pos) (Ah (A3 (Fa false) m n)):=⟨have AB:=AB.1;have A1:=A1.1;Q6 y2 (λσ ρ G H x y Ag Gc Q r Bu Cs k=>by
 unfold Fa at k
 split at k
 .simp only[At]at Cs;rw[j_ Bu]at k;exact⟨Cs,k _ H G r (C6.refl _ _) (by simp only[At];rfl)⟩
 .exact k.elim) AB A1 (P_ _)⟩
def ad8{op Jk:KL}{r BS:Ed}{f g:D->D->R D}{l:Ab}(ho:E7 X (G6 op) r)(F9:E7 X (G6 Jk) BS)(hf:HU F r f)(Ad:HU F BS g)(AB:B2 X F a m)(A1:B2 X F b n)(AK:B2 X F c l)(hm:lastMarks [op,Jk] [b,c]=false:=by with_unfolding_all rfl):B2 X F (.Compare a [op,Jk] [b,c] pos) (PP f g m n l):=⟨have AB:=AB.1;have A1:=A1.1;have AK:=AK.1;Ax.imp (zk ho F9 AB A1 AK hm) (jS hf Ad)⟩
def ae3{op Jk:KL}{r BS:Ed}{f g:D->D->R D}{l:Ab}(ho:E7 X (G6 op) r)(F9:E7 X (G6 Jk) BS)(hf:HU F r f)(Ad:HU F BS g)(AB:B2 X F a m)(A1:B2 X F b n)(AK:B2 X F c l)(hm:lastMarks [op,Jk] [b,c]=false:=by with_unfolding_all rfl):Fm X F (.Compare a [op,Jk] [b,c] pos) (Ah (PP f g m n l)):=⟨have AB:=AB.1;have A1:=A1.1;have AK:=AK.1;FX.imp (aaV ho F9 AB A1 AK hm) λσ H Q h=>by obtain⟨G,ρ,r,k⟩:=iS (F:=F) (m:=PP f g m n l) σ H Q h;exact jS hf Ad σ H _ ⟨G,ρ,r,k⟩⟩
def adJ(hm:X.mg "len"=none)(AB:G8 X F [e] ma)(Am:F.K=X.K:=by rfl)(Ad:EG X "len":=by rfl)(he:BI [e] X.env=(false,BN e X.env)::BI [] X.env:=by rfl)(Dv:(DC pos (BI [] X.env)).any (·.1)=false:=by rfl):B2 X F (.Call (.Name "len" p) [e] [] pos) (Bm CS ma):=⟨have AB:=AB.1;fP rU (yH Am) hm PySem.boot_len AB Ad (by decide) (by decide) he Dv⟩
def VK{U:Str}{T:String}{D3:Pos}(tt:Qp X.K T)(hm:X.mg "isinstance"=none)(uw:X.mg U=none)(tX:Ku U=some (.type T))(AB:B2 X F a m)(Am:F.K=X.K:=by rfl)(Ad:EG X "isinstance":=by rfl)(ug:EG X U:=by rfl)(v3:U≠"__name__":=by decide)(t8:(U==("__debug__" :Str))=false:=by decide)(F_:BI [.Name U D3] X.env=(false,BN (.Name U D3) X.env)::BI [] X.env:=by rfl)(he:BI [a,.Name U D3] X.env=(false,BN a X.env)::BI [.Name U D3] X.env:=by rfl)(Dv:(DC pos (BI [.Name U D3] X.env)).any (·.1)=false:=by rfl):B2 X F (.Call (.Name "isinstance" p) [a,.Name U D3] [] pos) (Cj (K3 T) m):=⟨by
 have AB:=AB.1;have A1:Ku "isinstance"=some (.builtin "isinstance"):=by kernel_rfl
 refine Ax.imp (kI (rT Am tt) Ad hm A1 (P7 AB (P7 (zj ug uw tX (v:=.ty T) rfl v3 t8) R9 F_) he) (by decide) (by decide) he Dv) ?_;rintro σ H Q ⟨G,ρ,r,h⟩;unfold Cj at h;refine⟨G,ρ,r,?_⟩;refine rb h λd B0 h x H1 Af AL s1 Bu=>?_;unfold K3 at h;cases e:Vg d with
 |none=>rw[e]at h;cases h
 |some qY=>rw[e]at h;exact⟨Af,d,x,qY,AL.kp.sub,rfl,Bu,e,h _ H1 Af AL s1 (by simp only[At])⟩⟩
def adI(AB:B2 X F a m)(A1:B2 X F b n)(AJ:eV b)(Am:F.K=X.K:=by rfl):B2 X F (.Subscript a b pos) (A3 AH m n):=⟨have AB:=AB.1;have A1:=A1.1;Ax.imp (zu wi AB A1 AJ) (YB (yG Am))⟩
def aet:S8 X F none Jd:=⟨λpins s σ H Q I h=>by obtain⟨G,ρ,r,k⟩:=h;exact z1 pins s σ H Q I (k H G r (C6.refl _ _))⟩
def aeu(h:B2 X F e m):S8 X F (some e) (FN m):=⟨have h:=h.1;λpins s σ H Q I hw=>by
 obtain⟨G,ρ,r,k⟩:=hw;refine z2 h pins s σ H Q I ⟨G,ρ,r,?_⟩;unfold FN at k;refine rb k λd B0 k x H1 Af AL s1 Bu=>?_;cases d with
 |int i=>simp only[At]at Bu;exact⟨i,Bu,k H1 Af AL s1⟩
 |_=>exact k.elim⟩
def ad0{lo AD:Option AT}{D3:Pos}{PX Vs:Me}(AB:B2 X F a m)(AN:S8 X F lo PX)(BE:S8 X F AD Vs)(Am:F.K=X.K:=by rfl):B2 X F (.Subscript a (.Slice lo AD none D3) pos) (Fh JJ m PX Vs):=⟨have AB:=AB.1;have AN:=AN.1;have BE:=BE.1;Ax.imp (jq (abC.or abD) AB AN BE) (vL Am)⟩
def ad3(hm:X.mg "str"=none)(AB:G8 X F [e] ma)(Ad:EG X "str":=by rfl)(he:BI [e] X.env=(false,BN e X.env)::BI [] X.env:=by rfl)(Dv:(DC pos (BI [] X.env)).any (·.1)=false:=by rfl):B2 X F (.Call (.Name "str" p) [e] [] pos) (Bm TR ma):=⟨have AB:=AB.1;fQ rY yL hm (by kernel_rfl) AB Ad (by decide) (by decide) he Dv⟩
def afI(h:B2 X F e m)(Am:F.K=X.K:=by rfl):KV X F B_ e (ER m):=⟨have h:=h.1;Fl.imp (zJ h) (by rw[<-Am];exact vo)⟩
def afO(h:B2 X F e m)(Am:F.K=X.K:=by rfl):KV X F B_ e (Xw m):=⟨have h:=h.1;Fl.imp (zN h) (by rw[<-Am];exact vQ)⟩
def afN(h:B2 X F e m):KV X F B_ e (UU m):=⟨have h:=h.1;Fl.imp (zM h) vN⟩
def afL(hm:X.mg "range"=none)(AB:G8 X F [a] ma)(Ad:EG X "range":=by rfl)(AJ:BI [a] X.env=[(false,BN a X.env)]:=by rfl):KV X F B_ (.Call (.Name "range" p) [a] [] pos) (Fs ma):=⟨have AB:=AB.1;Fl.imp (zK Ad hm AB AJ) w2⟩
def afM(hm:X.mg "range"=none)(AB:G8 X F [a,b] ma)(Ad:EG X "range":=by rfl)(AJ:BI [a,b] X.env=[(false,BN a X.env),(false,BN b X.env)]:=by rfl)(F_:BI [b] X.env=[(false,BN b X.env)]:=by rfl):KV X F B_ (.Call (.Name "range" p) [a,b] [] pos) (Oa ma):=⟨have AB:=AB.1;Fl.imp (zL Ad hm AB AJ F_) w3⟩
def afF{elts:List AT}{k:Nat}{Vd:Pos}(hm:X.mg "enumerate"=none)(AB:G8 X F [a] ma)(Am:F.K=X.K:=by rfl)(Ad:EG X "enumerate":=by rfl)(AJ:BI [a] X.env=[(false,BN a X.env)]:=by rfl):KV X F (.Tuple elts k Vd) (.Call (.Name "enumerate" p) [a] [] pos) (UT ma):=⟨have AB:=AB.1;Fl.imp (zG Ad hm AB AJ) (u9 Am)⟩
def afP{elts:List AT}{k:Nat}{Vd:Pos}(hm:X.mg "zip"=none)(AB:G8 X F [a,b] ma)(Am:F.K=X.K:=by rfl)(Ad:EG X "zip":=by rfl)(AJ:BI [a,b] X.env=[(false,BN a X.env),(false,BN b X.env)]:=by rfl)(F_:BI [b] X.env=[(false,BN b X.env)]:=by rfl):KV X F (.Tuple elts k Vd) (.Call (.Name "zip" p) [a,b] [] pos) (Xx ma):=⟨have AB:=AB.1;Fl.imp (zO Ad hm AB AJ F_) (vU Am)⟩
def aeI{body:List Bb}{mi:Au}{set:D->AG->R AG}{Gr:Ao}(AZ:PassesOwn (BG X.prog X.w) X.A X.env X.xe)(AD:KV X F B_ iter mi)(Ad:GM X B_ set)(A1:Jy X F body Gr)(AK:X.calm=true:=by rfl)(Am:F.K=X.K:=by rfl)(AJ:∀x,Lg iter X.env x=pure x:=by intro _;rfl):Er X F (.For B_ iter body [] pos) (EC mi set Gr):=⟨by
 have AD:=AD.1;have A1:=A1.1;obtain⟨⟨g,A6,AA⟩,B4,_⟩:=Ad;exact DH.imp (z5 AZ AK AD A6 A1 AJ) (uA (AA F Am) B4)⟩
def ady{st:Bb}{i:Nat}{a:Au}(h:Er X F st (E_ i a)):Er X F st (Oc i a):=⟨have h:=h.1;DH.imp h λCY σ H⟨G,ρ,r,k⟩=>by
 refine⟨G,ρ,r,?_⟩;unfold Oc at k;refine rb k λf e k=>?_;cases f with
 |Ay BL=>intro σ' G' H' BS s';obtain⟨Cz,B7,s2⟩:=BS.Ka i;exact k σ' Cz H' B7 (s'.trans s2)
 |ES d=>exact k
 |JG d=>exact k
 |L8 d=>exact k
 |rs d _=>exact k
 |Fn d=>exact k
 |Dr d=>exact k⟩
def adq{k:Nat}(B3:Ch k X.A)(hm:X.mg "all"=none)(AB:G8 X F [e] ma)(AK:X.calm=true:=by rfl)(Ad:EG X "all":=by rfl)(he:BI [e] X.env=(false,BN e X.env)::BI [] X.env:=by rfl)(Dv:(DC pos (BI [] X.env)).any (·.1)=false:=by rfl):B2 X F (.Call (.Name "all" p) [e] [] pos) (Bm CO ma):=⟨have AB:=AB.1;fP (qP AK B3.hd) yC hm (by kernel_rfl) AB Ad (by decide) (by decide) he Dv⟩
def adt{k:Nat}(B3:Ch k X.A)(hm:X.mg "any"=none)(AB:G8 X F [e] ma)(AK:X.calm=true:=by rfl)(Ad:EG X "any":=by rfl)(he:BI [e] X.env=(false,BN e X.env)::BI [] X.env:=by rfl)(Dv:(DC pos (BI [] X.env)).any (·.1)=false:=by rfl):B2 X F (.Call (.Name "any" p) [e] [] pos) (Bm MJ ma):=⟨have AB:=AB.1;fP (rQ AK B3.hd) yD hm (by kernel_rfl) AB Ad (by decide) (by decide) he Dv⟩
def ae8 (i:Nat) {x:Str} {Cm:Pos} {apos:Pos} {Bs:Pos} (he:B2 X F e m) (hN:X.N[i]?=some x:=by rfl) (Bc:G_ X.env.scope x:=by first|exact Dq rfl|exact Cr (Dq rfl)|exact Cr (Cr rfl)) (hd:(x==("__debug__" :Str))=false:=by decide) (DQ:(x==("__classdict__" :Str))=false:=by decide) (MQ:IF (.Name x Cm) "append" X.env (BN (.Name x Cm) X.env)=BN (.Name x Cm) X.env:=by rfl) (Lq:(apos.endLine==Bs.line)=true:=by rfl) (Lp:((DC Bs (BI [e] X.env)).all (λx=>!x.1)&&(H9 Bs (H8 [] X.env)).all (λx=>x.1.isSome)
   &&decide (([e]:List AT).length+([]:List Fg).length+(if([]:List Fg).isEmpty then 0 else 1)<30))=true:=by rfl) (AJ:BI [e] X.env=(false,BN e X.env)::BI [] X.env:=by rfl) (Ls:(DC Bs (BI [] X.env)).any (·.1)=false:=by rfl) (Am:F.K=X.K:=by rfl):Er X F (.Expr (.Call (.Attribute (.Name x Cm) "append" apos) [e] [] Bs) pos) (II i m):=⟨by
 have he:=he.1;refine DH.imp (Yt (Vy Tg pD pE bi (IA hN Bc hd DQ) (P7 he R9 AJ) MQ Lp Lq AJ Ls) (M9 _ _ _ _ rfl)) ?_;rintro CY σ H ⟨G,ρ,r,h⟩;unfold II ownAt at h;cases CU:ρ[i]? with
 |none=>rw[CU]at h;cases h
 |some s=>
  rw[CU]at h;cases s with
  |un=>cases h
  |J _=>cases h
  |Ef _=>cases h
  |BX _ _=>cases h
  |ob ob=>
   cases ob with
   |Ai _ _=>cases h
   |ins _ _ _=>cases h
   |lst ds=>
    obtain⟨q,xs,A9,A6,AA,B4,BJ⟩:=r.own CU;have h:HL F G CY ((m ρ).bind λd=>if ds.length<1000000 then .ok (.Ay (ρ.set i (.Bw (ds++[d]))))else .bad):=h;refine⟨.ref q,A9,.inl ⟨rfl,xs,C9.of A6⟩,G,ρ,r,?_⟩;refine rb h λd B0 h v H1 Af AL s1 B8=>?_;obtain⟨Gj,Gl,Ek,Ig,Nf,PE,Go⟩:=AL.own CU;rw[A9]at Ek;cases Ek;by_cases AN:ds.length<1000000
    .rw[if_pos AN]at h;refine⟨q,Gl,v,rfl,rfl,Ig,by rw[<-Go.length];exact L3 AN (by decide),?_⟩;exact h σ Af _ (AL.mut CU A9 (Go.snoc B8)) s1.g
    .rw[if_neg AN]at h;exact h.elim⟩
def ad6{x:Str}{n k:Nat}{Ba:List D->R CG}(c:E2 X.prog X.w X.K X.mg X.base x n k Ba)(B3:Ch k X.A)(AB:G8 X F (e::A5) ma)(K2:F.EX=λ_ _=>False:=by rfl)(Am:F.K=X.K:=by rfl)(Ad:EG X x:=by rfl)(Gq:(x==("__debug__" :Str))=false:=by decide)(he:BI (e::A5) X.env=(false,BN e X.env)::BI A5 X.env:=by rfl)(Dv:(DC pos (BI A5 X.env)).any (·.1)=false:=by rfl):B2 X F (.Call (.Name x p) (e::A5) [] pos) (Bo n Ba ma):=⟨by
 have AB:=AB.1;obtain⟨f,fd,Aq,AV,HI,hm,AF,A1⟩:=c.ex;refine Ax.imp (kH HI B3 Ad hm AF A1 .nil RA AB Gq he Dv) ?_;rw[<-Am];exact u_ (xe:=λ_ _ _=>False) (E:=eb) K2⟩
def ael{x:Str}{n k:Nat}{Ba:List D->R CG}(c:E2 X.prog X.w X.K X.mg X.base x n k Ba)(B3:Ch k X.A)(AB:G8 X F (e::A5) ma)(K2:F.EX=λ_ _=>False:=by rfl)(Am:F.K=X.K:=by rfl)(Ad:EG X x:=by rfl)(Gq:(x==("__debug__" :Str))=false:=by decide)(he:BI (e::A5) X.env=(false,BN e X.env)::BI A5 X.env:=by rfl)(Dv:(DC pos (BI A5 X.env)).any (·.1)=false:=by rfl):KU X F (.Call (.Name x p) (e::A5) [] pos) (FM n Ba ma):=⟨by
 have AB:=AB.1;obtain⟨f,fd,Aq,AV,HI,hm,AF,A1⟩:=c.ex;refine Ax.imp (kH HI B3 Ad hm AF A1 .nil RA AB Gq he Dv) ?_;rw[<-Am];exact ua (xe:=λ_ _ _=>False) (E:=eb) K2⟩
variable{scope:E6}{N:List Str}
abbrev e_(X:Ac)(scope:E6)(N:List Str)(e:AT)(m:Ab):Prop:=∀cl C s H Ak G0 H0,B2 (FZ X scope N cl C s H Ak) (Ge X.K G0 H0) e m
def adn{mt:CN}(h:∀cl C s H Ak G0 H0,Fm (FZ X scope N cl C s H Ak) (Ge X.K G0 H0) c mt):Ln X scope N [c] mt:=CT.qO λcl C s H Ak G0 H0=>(h cl C s H Ak G0 H0).1
def Jz(sc:E6)(Mh:List Str)(nl:Nat)(caps:List Nat):List Str:=((sc.names.drop 1).take nl).map (·.1)++caps.map λj=>Mh.getD j ""
def aeo(nl:Nat)(caps:List Nat){ifs:List AT}{mi:Au}{set:D->AG->R AG}{mt:CN}{Ev:Ab}(S:Qu X.env.scope X.N scope (Jz scope X.N nl caps) nl caps=true)(AD:KV X F B_ iter mi)(Ad:Qf X scope (Jz scope X.N nl caps) B_ set)(Aj:Ln X scope (Jz scope X.N nl caps) ifs mt)(he:e_ X scope (Jz scope X.N nl caps) elt Ev)(AK:X.calm=true:=by rfl)(Am:F.K=X.K:=by rfl)(AJ:∀x,Lg iter X.env x=pure x:=by intro _;rfl):KU X F (.ListComp elt [⟨B_,iter,ifs,0⟩] scope pos) (DE nl caps mi set mt Ev):=
 ⟨CT.y7 nl caps S AD.1 Ad Aj (λcl C s H Ak G0 H0=>(he cl C s H Ak G0 H0).1) AK Am AJ⟩
def aeB(i:Nat)(nl:Nat)(caps:List Nat){y:Str}{py:Pos}{ifs:List AT}{mi:Au}{set:D->AG->R AG}{mt:CN}{Ev:Ab}{Bs:Pos}(hN:X.N.Nodup)(S:Qu X.env.scope X.N scope (Jz scope X.N nl caps) nl caps=true)(AD:KV X F B_ iter mi)(Ad:Qf X scope (Jz scope X.N nl caps) B_ set)(Aj:Ln X scope (Jz scope X.N nl caps) ifs mt)(he:e_ X scope (Jz scope X.N nl caps) elt Ev)(BO:X.N[i]?=some y:=by rfl)(AN:X.env.kindOf y=some .local:=by rfl)(OU:Lk (.ListComp elt [⟨B_,iter,ifs,0⟩] scope Bs) (some (.Name y py)) pos.line X.env=pure true:=by rfl)(AK:X.calm=true:=by rfl)(Am:F.K=X.K:=by rfl)(AJ:∀x,Lg iter X.env x=pure x:=by intro _;rfl) :
  Er X F (.Assign [.Name y py] (.ListComp elt [⟨B_,iter,ifs,0⟩] scope Bs) pos) (E_ i (DE nl caps mi set mt Ev)):=
 ⟨CT.aa0 i nl caps hN S AD.1 Ad Aj (λcl C s H Ak G0 H0=>(he cl C s H Ak G0 H0).1) BO AN OU AK Am AJ⟩
end
def EK{P:C2}{w:Bh}{K:A_}{mg:Str->Option A8}{base:BP}{x:Str}{st:Bb}{N Aq:List Str}{k:Nat}{m:Ao}(d:Dt K mg x st Aq)(S:Cg N Aq (Bv st))(h:∀(f:A7)(CJ:A8)(A:CR)(outer:List Env)(s:AQ)(H:AC)(E:DP),Ch k (A.deeper (NL x (Bv st) s.heap.objs.size f CJ))->∀G0 H0,Jy (JR Gs P w K mg base N x (Bv st) f CJ A outer s H E).Kp (Ge K G0 H0) (GR st) m) :
  E2 P w K mg base x Aq.length (k+1) (DS N.length m):=CT.r9 d S λf CJ A outer s H E B3 G0 H0=>(h f CJ A outer s H E B3 G0 H0).1
structure LG(K:A_)(mg:Str->Option A8)(x:Str)(d:D):Prop where
 ex:∃(v:V)(u:A8),mg x=some u/\RelV v u/\∀G,At K G d v
def VJ{X:Ac}{F:B9}{x:Str}{d:D}{pos:Pos}(c:LG X.K X.mg x d)(Am:F.K=X.K:=by rfl)(Ad:EG X x:=by rfl)(hd:(x==("__debug__" :Str))=false:=by decide):B2 X F (.Name x pos) (A4 d):=by obtain⟨v,u,A6,AA,B4⟩:=c.ex;exact⟨CT.qy A6 AA (by rw[Am];exact B4) Ad hd⟩
end CT
namespace C1
open PySem PySem.Spec PyProof.Rows
section
variable{X:Ac}{B_:AT}
def g_(a b c:Int):Prop:=c≠0/\Builtin.Range.small a b c=true/\0<=dK a b c/\Builtin.divisionGoesByPylong (b-a) c=false
instance(a b c:Int):Decidable (g_ a b c):=by unfold g_;infer_instance
end
section
variable{X:Ac}{a e:AT}{CB:Ez}{pos p pos' R8:Pos}
theorem oD:∀{xs:List V}{us:List A8},xs.length=us.length->(∀(i:Nat) x y,xs[i]?=some x->us[i]?=some y->RelV x y)->Vals xs us
 |[],[],_,_=>.nil
 |[],_::_,h,_=>by simp at h
 |_::_,[],h,_=>by simp at h
 |x::xs,u::us,h,f=>.cons (f 0 x u (by simp) (by simp)) (oD (by simpa using h) λi a b A9 AM=>f (i+1) a b (by simpa using A9) (by simpa using AM))
def xr{pins:List (A7×Obj)}{σ :St}{H1:AC}{s2:AQ}{Q:Cc}{r:A7}{j:Int}{t u v:Tok}(Br:Inv X pins σ H1 s2)(AK:X.calm=true)(B3:IsRange s2.heap r 0 j 1 t u v)(An: -(2^62)<=j)(BF:j<=1000000)(q:∀l,H1 l=none->Q (.ref l) (upd H1 l (.lst ((Ds j.toNat).map λi=>.int (i:Nat))))):Al (BG X.prog X.w) X.A (call (.type "list") [.ref r]) (GL X pins σ Q) X.xe s2:=by
 have AV:dK 0 j 1=(j.toNat:Nat):=by rw[rangeSize_one];split<;>lia
 refine call_list_range (Br.ok.hd AK) B3 (small_one (by lia) (by lia) (by lia) (by lia)) AV (by lia) λh' CV XZ Dp kp e it=>?_;obtain⟨acc,rfl⟩:∃l:List A8,XZ=l.toArray:=⟨XZ.toList,by simp⟩;have Bc:Vals ((Ds j.toNat).map λi=>V.int ((i:Nat):Int)) acc:=by
  have AN:acc.length=j.toNat:=by simpa using it.1
  refine oD ?_ ?_
  .simp[AN]
  .intro i x y A9 AM;rw[EL]at A9;have AD:i<j.toNat:=by rw[<-AN];exact(List.getElem?_eq_some_iff.mp AM).1
   rw[Te AD]at A9;cases A9;obtain⟨tt,rfl⟩:=it.2 i y (by simpa using AM);exact⟨tt,by simp⟩
 exact⟨.ref _,_,Br.laid (t':=CV) kp (Ci _) (show FW X.prog X.w X.K _ h' _ (.lst _)from⟨FT (m:=1000000) (by simp;lia) (by decide),acc,Dp,Bc,e⟩),rfl,q _ (Br.Be.fresh (Ci _))⟩
def ach(CB:Ez):TE:=λσ H Q=>CB σ H λvs H1=>∃j:Int,vs=[.int j]/\-(2^62)<=j/\j<=1000000/\∀l,H1 l=none->Q (.ref l) (upd H1 l (.lst ((Ds j.toNat).map λi=>.int (i:Nat))))
def zv(Ad:EG X "list")(hm:X.mg "list"=none)(aj:EG X "range")(OP:X.mg "range"=none)(AK:X.calm=true)(AB:GN X [a] CB)(AJ:BI [a] X.env=[(false,BN a X.env)]:=by rfl)(F_:BI [.Call (.Name "range" R8) [a] [] pos'] X.env=[(false,BN (.Call (.Name "range" R8) [a] [] pos') X.env)]:=by rfl) :
  Ax X (.Call (.Name "list" p) [.Call (.Name "range" R8) [a] [] pos'] [] pos) (ach CB):=by
 intro pins s σ H Q I h;refine Tb (OX (u:=.type "list") I Ad hm (by kernel_rfl) ?_);refine QD ?_ F_ rfl;rw[F_];refine Tf ?_;refine Call_ (OX I aj OP boot_range (QD (Bd (AB pos' pins s σ H _ I h) λus s1⟨vs,H1,As,AL,An⟩=>?_) AJ rfl));obtain⟨j,e,An,BF,q⟩:=An;subst e;cases AL with
 |cons r Iu=>cases Iu;obtain⟨t,rfl⟩:=r;refine call_range_1 (WP ?_);exact xr (As.kept λb o e=>Da _ e) AK (IsRange.new ..) An BF q
end
end C1
namespace CT
open PySem PySem.Spec C1
abbrev HB:=AG->R (D×AG)
def j9(F:B9)(G:AC)(σ :St)(Q:Cc):R (D×AG)->Prop
 |.ok (d,BL)=>∀v H' G',Rel F G' H' σ BL->Sub G G'->At F.K G' d v->Q v H'
 |.exc c=>NF F c
 |.bad=>False
def Yh(F:B9)(m:HB):TE:=λσ H Q=>∃G ρ,Rel F G H σ ρ/\j9 F G σ Q (m ρ)
section
variable{F:B9}
def Lz(i:Nat)(a:HB):Ao:=λρ=>(a ρ).bind λx=>(BC i x.1 x.2).bind λBL=>.ok (.Ay BL)
def vK{i:Nat}{a:HB}:IL (Fj F (Lz i a)) (MA (Yh F a) (Ie i)):=by
 rintro CY σ H ⟨G,ρ,r,h⟩;unfold Lz BC at h;refine⟨G,ρ,r,?_⟩;cases B0:a ρ with
 |bad=>rw[B0]at h;cases h
 |exc c=>rw[B0]at h;exact h
 |ok x=>
  obtain⟨d,EU⟩:=x;rw[B0,R.EV]at h;intro v H1 Af AL s1 B8;by_cases AD:i<EU.length
  .simp only[if_pos AD]at h;exact h _ Af H1 (AL.set AD B8) s1
  .simp only[if_neg AD]at h;cases h
def PR(a:HB):Ao:=λρ=>(a ρ).bind λx=>.ok (.Ay x.2)
def u7{a:HB}:IL (Fj F (PR a)) (nT (Yh F a)):=by
 rintro CY σ H ⟨G,ρ,r,h⟩;unfold PR at h;refine⟨G,ρ,r,?_⟩;cases B0:a ρ with
 |bad=>rw[B0]at h;cases h
 |exc c=>rw[B0]at h;exact h
 |ok x=>obtain⟨d,EU⟩:=x;rw[B0]at h;exact λv H' G' BS s' _=>h σ G' H' BS s'
end
section
variable{F:B9}
def del(H:AC)(a:A7):AC:=λb=>if b=a then none else H b
def rE{H:AC}{a:A7}:del H a a=none:=by simp[del]
def rD{H:AC}{a b:A7}(h:b≠a):del H a b=H b:=by simp[del,h]
def h3(H:AC)(a:A7):Sub (del H a) H:=λb o e=>by
 unfold del at e
 split at e
 .cases e
 .exact e
end
section
variable{F:B9}
end
end CT
namespace CT
open PySem PySem.Spec C1 PyProof.Rows
def Aa.erase{K:A_}{G:AC}{ds:List D}{xs:List V}(n:Nat)(q:Aa K G ds xs):Aa K G (ds.eraseIdx n) (xs.eraseIdx n):=by rw[p2,p2];exact(q.take n).append (q.drop (n+1))
section
variable{X:Ac}{F:B9}{e a b c:AT}{A5:List AT}{pos p:Pos}{m n:Ab}{ma:Au}
noncomputable def O_(i:Nat)(m:Ab):HB:=λρ=>(ownAt i ρ).bind λds=>(m ρ).bind λd=>match d with
 |.int k=>if-(2^63)<=k/\k<2^63 then match S4 k ds.length with
  |some j=>match ds[j]? with
   |some y=>.ok (y,ρ.set i (.Bw (ds.eraseIdx j)))
   |none=>.bad
  |none=>.bad
  else .bad
 |_=>.bad
def Xv(i:Nat)(m:HB):Ao:=λρ=>(ownAt i ρ).bind λ_=>(m ρ).bind λx=>(ownAt i x.2).bind λds=>if ds.length<1000000 then .ok (.Ay (x.2.set i (.Bw (ds++[x.1]))))else .bad
def Xr:List D->R (List D)
 |[.lst xs]=>.ok xs
 |[.Co xs]=>.ok xs
 |[.tup xs]=>.ok xs
 |_=>.bad
def I6(m:Au):Au:=λρ=>(m ρ).bind Xr
def vp(Am:F.K=X.K):Ec (Hf F (I6 ma)) (Yf (λxs H Q=>∃p ys,xs=[.ref p]/\(C9 X.K H p ys\/CZ X.K H p ys)/\∀l,H l=none->Q (.ref l) (upd H l (.lst ys))) (Ew F ma)):=by
 rintro σ H Q ⟨G,ρ,r,h⟩;unfold I6 at h;refine⟨G,ρ,r,?_⟩;refine rb h λds B0 h vs H1 Af AL s1 a=>?_;unfold Xr at h
 split at h
 .obtain⟨v,rfl,B8⟩:=a.one;simp only[At]at B8;obtain⟨q,xs,rfl,AW,FY⟩:=B8;refine⟨q,xs,rfl,.inl (C9.of (AL.kp.sub _ _ AW)),λl AN=>?_⟩;exact h l xs _ Af (AL.lay0 AN) (s1.trans (C6.lay0 AN)) (s1.h.gone AN) Dz (AL.kp.sub.gone AN) FY
 .obtain⟨v,rfl,B8⟩:=a.one;simp only[At]at B8;obtain⟨q,xs,rfl,AW,FY⟩:=B8;refine⟨q,xs,rfl,.inl (by rw[<-Am];exact C9.mono AL.kp.sub AW),λl AN=>?_⟩;exact h l xs _ Af (AL.lay0 AN) (s1.trans (C6.lay0 AN)) (s1.h.gone AN) Dz (AL.kp.sub.gone AN) FY
 .obtain⟨v,rfl,B8⟩:=a.one;simp only[At]at B8;obtain⟨q,xs,rfl,AW,FY⟩:=B8;refine⟨q,xs,rfl,.inr (CZ.of (AL.kp.sub _ _ AW)),λl AN=>?_⟩;exact h l xs _ Af (AL.lay0 AN) (s1.trans (C6.lay0 AN)) (s1.h.gone AN) Dz (AL.kp.sub.gone AN) FY
 .exact h.elim
def Uw:List D->R (List D)
 |[.int j]=>if-(2^62)<=j/\j<=1000000 then .ok (G1 0 j.toNat)else .bad
 |_=>.bad
def UV(m:Au):Au:=λρ=>(m ρ).bind Uw
theorem gR{K:A_}{G:AC}:∀(l:List Nat),Aa K G (l.map λi=>.int (0+((i:Nat):Int))) (l.map λi=>V.int ((i:Nat):Int))
 |[]=>.nil
 |i::l=>.cons (by simp[At]) (gR l)
def Vc:List D->R D
 |[.int i]=>.ok (.int i)
 |[.AO k]=>.ok (.int (if k then 1 else 0))
 |[.str x]=>if x.length<=640 then match intText? x with|some i=>.ok (.int i)|none=>.bad else .bad
 |_=>.bad
def yM:Ni F (λxs H Q=>((∃i,xs=[.int i]/\Q (.int i) H)\/∃k,xs=[.AO k]/\Q (.int (if k then 1 else 0)) H)\/((∃i,xs=[.int i]/\Q (.int i) H)\/∃x i,xs=[.str x]/\x.length<=640/\intText? x=some i/\Q (.int i) H)) Vc:=by
 intro σ ρ G H xs ds Q r al k;unfold Vc at k
 split at k
 .rename_i i;exact .inl (.inl ⟨i,al.ints1,k _ H G r (C6.refl _ _) (by simp only[At])⟩)
 .rename_i c;obtain⟨v,rfl,B8⟩:=al.one;simp only[At]at B8;subst B8;exact .inl (.inr ⟨c,rfl,k _ H G r (C6.refl _ _) (by simp only[At])⟩)
 .rename_i x
  split at k
  .rename_i AN
   split at k
   .rename_i i AD;obtain⟨v,rfl,B8⟩:=al.one;simp only[At]at B8;subst B8;exact .inr (.inr ⟨x,i,rfl,AN,AD,k _ H G r (C6.refl _ _) (by simp only[At])⟩)
   .exact k.elim
  .exact k.elim
 .exact k.elim
def K5(set:D->AG->R AG)(m:Ab):Ao:=λρ=>(m ρ).bind λd=>(set d ρ).bind λBL=>.ok (.Ay BL)
def nE{n:Nat}{Ba:List D->R CG}{xe:DP->Str->AC->Prop}{E:DP}{Af H1:AC}{σ :C1.St}{ρ:AG}{ds:List D}{vs:List V}{Q:Cc}(AI:F.EX=xe E)(AL:Rel F Af H1 σ ρ)(a:Aa F.K Af ds vs)(AV:ds.length=n)(h:J_ F Af H1 σ ρ Q ((Ba ds).bind OA)):TO F.K n xe Ba vs H1 Q E:=by
 refine⟨Af,ds,AL.kp.sub,a,AV,?_⟩;cases e:Ba ds with
 |bad=>rw[e]at h;cases h
 |exc c=>rw[e]at h;intro G' H' k;have z:=h G' H' (FS.of AL k).kp;rw[AI]at z;exact z
 |ok t=>
  rw[e,R.EV]at h;cases t with
  |v d=>exact λv G' H' k B8=>h v H' G' (FS.of AL k) ⟨k.EP,k.BE,k.new⟩ B8
  |o A5=>intro p xs G' H' k A6 AA B4 BJ;have AA:H1 p=none:=AA;have BS:=FS.of AL k;have no:¬Ca H' σ ρ p:=Ca.fresh AL k.BE AA;refine h (.ref p) H' _ (BS.take B4 A6 (AL.kp.BE.gone AA) no) (C6.put ⟨k.EP,k.BE,k.new⟩ AA A6) ?_;simp only[At];exact⟨p,xs,rfl,Dz,BJ.mono (Sub.upd A6)⟩
  |t t=>intro v G' H' k q;obtain⟨a1,a2,JQ⟩:=(FS.of AL k).c9 (F':=⟨F.K,Af,H1,xe E,Iq⟩) rfl q ⟨k.EP,k.BE,k.new⟩ λb A1=>⟨(q.own b A1).2,AL.kp.BE.gone (q.own b A1).2,Ca.fresh AL k.BE (q.own b A1).2⟩;exact h v H' _ a1 a2 JQ
end
section
variable{X:Ac}{F:B9}{e a b c:AT}{A5:List AT}{pos p:Pos}{m n:Ab}{ma:Au}
end
end CT
namespace CT
open PySem PySem.Spec C1
structure Pf(X:Ac)(F:B9)(e:AT)(m:HB):Prop where
 o:Ax X e (Yh F m)
section
variable{X:Ac}{F:B9}{e a b c B_ iter elt:AT}{A5:List AT}{pos p:Pos}{m n:Ab}{ma:Au}{st:Bb}{RF:List Bb}
def acx (i:Nat) {x:Str} {Cm:Pos} {apos:Pos} {Bs:Pos} (he:B2 X F e m) (hN:X.N[i]?=some x:=by rfl) (Bc:G_ X.env.scope x:=by first|exact Dq rfl|exact Cr (Dq rfl)|exact Cr (Cr rfl)) (hd:(x==("__debug__" :Str))=false:=by decide) (DQ:(x==("__classdict__" :Str))=false:=by decide) (MQ:IF (.Name x Cm) "pop" X.env (BN (.Name x Cm) X.env)=BN (.Name x Cm) X.env:=by rfl) (Lq:(apos.endLine==Bs.line)=true:=by rfl) (Lp:((DC Bs (BI [e] X.env)).all (λx=>!x.1)&&(H9 Bs (H8 [] X.env)).all (λx=>x.1.isSome)
   &&decide (([e]:List AT).length+([]:List Fg).length+(if([]:List Fg).isEmpty then 0 else 1)<30))=true:=by rfl) (AJ:BI [e] X.env=(false,BN e X.env)::BI [] X.env:=by rfl) (Ls:(DC Bs (BI [] X.env)).any (·.1)=false:=by rfl):Pf X F (.Call (.Attribute (.Name x Cm) "pop" apos) [e] [] Bs) (O_ i m):=⟨by
 have he:=he.1;refine Ax.imp (Vy Tg PySem.F.slot_list_pop PySem.F.type_list_pop x8 (IA hN Bc hd DQ) (P7 he R9 AJ) MQ Lp Lq AJ Ls) ?_;rintro σ H Q ⟨G,ρ,r,h⟩;unfold O_ ownAt at h;cases CU:ρ[i]? with
 |none=>rw[CU]at h;cases h
 |some s=>
  rw[CU]at h;cases s with
  |un=>cases h
  |J _=>cases h
  |Ef _=>cases h
  |BX _ _=>cases h
  |ob ob=>
   cases ob with
   |Ai _ _=>cases h
   |ins _ _ _=>cases h
   |lst ds=>
    obtain⟨q,xs,A9,A6,AA,B4,BJ⟩:=r.own CU;rw[R.EV]at h;refine⟨.ref q,A9,.inl ⟨rfl,xs,C9.of A6⟩,G,ρ,r,?_⟩;refine rb h λd B0 h v H1 Af AL s1 B8=>?_;obtain⟨Gj,Gl,Ek,Ig,Nf,PE,Go⟩:=AL.own CU;rw[A9]at Ek;cases Ek;cases d with
    |int k=>
     simp only[At]at B8;subst B8;simp only at h
     split at h
     .rename_i AF
      split at h
      .rename_i j JS
       split at h
       .rename_i y DY;obtain⟨w,HH,Nr⟩:=Go.get DY;refine⟨q,Gl,k,j,w,rfl,rfl,Ig,AF.1,AF.2,by rw[<-Go.length];exact JS,HH,?_⟩;exact h w _ Af (AL.mut CU A9 (Go.erase j)) s1.g Nr
       .exact h.elim
      .exact h.elim
     .exact h.elim
    |_=>exact h.elim⟩
def ae9 (i:Nat) {x:Str} {Cm:Pos} {apos:Pos} {Bs:Pos} {m:HB} (he:Pf X F e m) (hN:X.N[i]?=some x:=by rfl) (Bc:G_ X.env.scope x:=by first|exact Dq rfl|exact Cr (Dq rfl)|exact Cr (Cr rfl)) (hd:(x==("__debug__" :Str))=false:=by decide) (DQ:(x==("__classdict__" :Str))=false:=by decide) (MQ:IF (.Name x Cm) "append" X.env (BN (.Name x Cm) X.env)=BN (.Name x Cm) X.env:=by rfl) (Lq:(apos.endLine==Bs.line)=true:=by rfl) (Lp:((DC Bs (BI [e] X.env)).all (λx=>!x.1)&&(H9 Bs (H8 [] X.env)).all (λx=>x.1.isSome)
   &&decide (([e]:List AT).length+([]:List Fg).length+(if([]:List Fg).isEmpty then 0 else 1)<30))=true:=by rfl) (AJ:BI [e] X.env=(false,BN e X.env)::BI [] X.env:=by rfl) (Ls:(DC Bs (BI [] X.env)).any (·.1)=false:=by rfl):Er X F (.Expr (.Call (.Attribute (.Name x Cm) "append" apos) [e] [] Bs) pos) (Xv i m):=⟨by
 have he:=he.1;refine DH.imp (Yt (Vy Tg pD pE bi (IA hN Bc hd DQ) (P7 he R9 AJ) MQ Lp Lq AJ Ls) (M9 _ _ _ _ rfl)) ?_;rintro CY σ H ⟨G,ρ,r,h⟩;unfold Xv ownAt at h;cases CU:ρ[i]? with
 |none=>rw[CU]at h;cases h
 |some s=>
  rw[CU]at h;cases s with
  |un=>cases h
  |J _=>cases h
  |Ef _=>cases h
  |BX _ _=>cases h
  |ob ob=>
   cases ob with
   |Ai _ _=>cases h
   |ins _ _ _=>cases h
   |lst afn=>
    obtain⟨q,xs,A9,A6,AA,B4,BJ⟩:=r.own CU;rw[R.EV]at h;refine⟨.ref q,A9,.inl ⟨rfl,xs,C9.of A6⟩,G,ρ,r,?_⟩;cases B0:m ρ with
    |bad=>rw[B0]at h;cases h
    |exc c=>rw[B0]at h;exact h
    |ok y=>
     obtain⟨d,EU⟩:=y;rw[B0,R.EV]at h;intro v H1 Af AL s1 B8;simp only at h;cases Nc:EU[i]? with
     |none=>rw[Nc]at h;cases h
     |some s=>
      rw[Nc]at h;cases s with
      |un=>cases h
      |J _=>cases h
      |Ef _=>cases h
      |BX _ _=>cases h
      |ob ob=>
       cases ob with
       |Ai _ _=>cases h
       |ins _ _ _=>cases h
       |lst ds=>
        rw[R.EV]at h;obtain⟨Gj,Gl,Ek,Ig,Nf,PE,Go⟩:=AL.own Nc;rw[A9]at Ek;cases Ek;by_cases AN:ds.length<1000000
        .rw[if_pos AN]at h;refine⟨q,Gl,v,rfl,rfl,Ig,by rw[<-Go.length];exact L3 AN (by decide),?_⟩;exact h σ Af _ (AL.mut Nc A9 (Go.snoc B8)) s1
        .rw[if_neg AN]at h;exact h.elim⟩
def aep(hm:X.mg "list"=none)(AB:G8 X F [e] ma)(Am:F.K=X.K:=by rfl)(Ad:EG X "list":=by rfl)(he:BI [e] X.env=(false,BN e X.env)::BI [] X.env:=by rfl)(Dv:(DC pos (BI [] X.env)).any (·.1)=false:=by rfl):KU X F (.Call (.Name "list" p) [e] [] pos) (I6 ma):=⟨have AB:=AB.1;Ax.imp (bH rX Ad hm (by kernel_rfl) AB (by decide) (by decide) he Dv) (vp Am)⟩
def aer{R8 pos':Pos}(hm:X.mg "list"=none)(OP:X.mg "range"=none)(AB:G8 X F [a] ma)(AK:X.calm=true:=by rfl)(Ad:EG X "list":=by rfl)(aj:EG X "range":=by rfl)(AJ:BI [a] X.env=[(false,BN a X.env)]:=by rfl)(F_:BI [.Call (.Name "range" R8) [a] [] pos'] X.env=[(false,BN (.Call (.Name "range" R8) [a] [] pos') X.env)]:=by rfl):KU X F (.Call (.Name "list" p) [.Call (.Name "range" R8) [a] [] pos'] [] pos) (UV ma):=⟨by
 have AB:=AB.1;refine Ax.imp (zv Ad hm aj OP AK AB AJ F_) ?_;rintro σ H Q ⟨G,ρ,r,h⟩;unfold UV at h;refine⟨G,ρ,r,?_⟩;refine rb h λds B0 h vs H1 Af AL s1 a=>?_;unfold Uw at h
 split at h
 .rename_i j
  split at h
  .rename_i Bz;refine⟨j,a.ints1,Bz.1,Bz.2,λl AN=>?_⟩;exact h l _ _ Af (AL.lay0 AN) (s1.trans (C6.lay0 AN)) (s1.h.gone AN) Dz (AL.kp.sub.gone AN) (gR _)
  .exact h.elim
 .exact h.elim⟩
def adU(hm:X.mg "int"=none)(AB:G8 X F [e] ma)(Ad:EG X "int":=by rfl)(he:BI [e] X.env=(false,BN e X.env)::BI [] X.env:=by rfl)(Dv:(DC pos (BI [] X.env)).any (·.1)=false:=by rfl):B2 X F (.Call (.Name "int" p) [e] [] pos) (Bm Vc ma):=⟨have AB:=AB.1;fQ (rR.or rS) yM hm (by kernel_rfl) AB Ad (by decide) (by decide) he Dv⟩
def ae0{B_:AT}{set:D->AG->R AG}(he:B2 X F e m)(Ad:GM X B_ set)(Am:F.K=X.K:=by rfl)(AJ:swapsWithSole [B_] e pos.line X.env=pure false:=by rfl)(hw:swappedStores [B_] e X.env=pure none:=by rfl)(A6:(L1 [B_] X.env).map (·.2)=[KH B_ X.env]:=by rfl):Er X F (.Assign [B_] e pos) (K5 set m):=⟨by
 have he:=he.1;obtain⟨⟨g,g1,g2⟩,g3,_⟩:=Ad;refine DH.imp (lQ he g1 AJ hw A6) ?_;rintro CY σ H ⟨G,ρ,r,h⟩;unfold K5 at h;refine⟨G,ρ,r,?_⟩;refine rb h λd B0 h v H1 Af AL s1 B8=>?_;cases A5:set d ρ with
 |bad=>rw[A5]at h;cases h
 |exc c=>exact absurd A5 (g3 d ρ c)
 |ok BL=>rw[A5]at h;exact g2 F Am σ ρ Af H1 v d _ BL AL B8 A5 λσ' BS=>h σ' Af H1 BS s1.g⟩
def adx(i:Nat){x:Str}{p:Pos}{m:HB}(hN:X.N.Nodup)(he:Pf X F e m)(AD:X.N[i]?=some x:=by rfl)(AI:Loc X.env.scope x:=by first|exact Dq rfl|exact Cr rfl)(AJ:Pa e=true:=by rfl)(hf:X.fn x=true\/X.env.scope.names.lookup x=some .local:=by first|exact .inl rfl|exact .inr rfl):Er X F (.Assign [.Name x p] e pos) (Lz i m):=⟨have he:=he.1;DH.imp (W1 hN AD AI he (M9 _ _ _ _ AJ) hf) vK⟩
def aeF{m:HB}(h:Pf X F e m)(AJ:Pa e=true:=by rfl):Er X F (.Expr e pos) (PR m):=⟨have h:=h.1;DH.imp (Yt h (M9 _ _ _ _ AJ)) u7⟩
end
def Fx.inj{K:A_}{c:Str}{C Ju:A7}(h:Fx K c C)(h':Fx K c Ju):C=Ju:=by unfold Fx at h h';rw[h]at h';cases h';rfl
theorem iy{K:A_}{G:AC}{f:Str}{d:D}:∀{xs:List (Str×V)}{ds:List D},Aa K G ds (xs.map (·.2))->((xs.map (·.1)).zip ds).lookup f=some d->∃v,xs.lookup f=some v/\At K G d v
 |[],_,_,e=>by simp at e
 |(k,v)::xs,[],h,_=>by have:=h.length;simp at this
 |(k,v)::xs,e::ds,h,l=>by
  simp only[EF,Aa]at h;obtain⟨N0,r,A9,a,t⟩:=h;cases A9;simp only[EF,Od,Tn]at l |-;cases AF:f==k with
  |true=>rw[AF]at l;cases l;exact⟨v,rfl,a⟩
  |false=>rw[AF]at l;exact iy t l
theorem Xs{f:Str}:∀{xs:List (Str×V)},(xs.map (·.1)).all (λk=>!(f==k))=true->xs.lookup f=none
 |[],_=>rfl
 |(k,v)::xs,h=>by simp only[EF,NR,FV,Bool.not_eq_true']at h;rw[Tn,h.1];exact Xs (by simpa using h.2)
structure Mm(K:A_)(c:Str)(Ap:List Str):Prop where
 ex:∃C,Fx K c C/\J6 K C/\∀f∈Ap,Qj K C f
def Dj(c f:Str):D->R D
 |.ins Dp ns ds=>if Dp=c then match(ns.zip ds).lookup f with
  |some d=>.ok d
  |none=>.bad
  else .bad
 |_=>.bad
section
variable{X:Ac}{F:B9}{e a b c o:AT}{A5:List AT}{pos p:Pos}{m n:Ab}{ma:Au}
structure P0(P:C2)(w:Bh)(K:A_)(mg:Str->Option A8)(base:BP)(Ae mt:Str)(n k:Nat)(Ba:List D->R CG):Prop where
 ex:∃(C f:A7)(fd:G5)(Aq:List Str),Fx K Ae C/\J6 K C/\Meth K C mt f/\GX P w K mg base Gs k f fd Aq (OE K (n+1) Ba)/\Binds K fd Aq []
def Py(Ae mt:Str):D->R D
 |.ins Dp ns ds=>if Dp=Ae/\ns.all (λk=>!(mt==k))=true then .ok (.ins Dp ns ds)else .bad
 |_=>.bad
def I7(Ae mt:Str)(n:Nat)(Ba:List D->R CG)(o:Ab)(ma:Au):Ab:=λρ=>(o ρ).bind λd=>(Py Ae mt d).bind λd=>(ma ρ).bind λds=>if ds.length=n then(Ba (d::ds)).bind OA else .bad
def vu{Ae mt:Str}{n:Nat}{Ba:List D->R CG}{C:A7}{E:DP}(AI:F.EX=λ_ _=>False)(Gp:Fx F.K Ae C):Ec (Cv F (I7 Ae mt n Ba m ma)) (VY C mt (OE F.K (n+1) Ba) [] E (Cv F m) (Ew F ma)):=by
 rintro σ H Q ⟨G,ρ,r,h⟩;unfold I7 at h;refine⟨G,ρ,r,?_⟩;refine rb h λd B0 h x H1 Af AL s1 Bu=>?_;cases d with
 |ins Dp ns ds=>
  simp only[Py]at h
  split at h
  .rename_i AK;obtain⟨JU,F1⟩:=AK;subst JU;have UK:=Bu;simp only[At]at Bu;obtain⟨q,Ag,xs,rfl,⟨Ju,BU,g1⟩,rfl,al⟩:=Bu;have:=BU.inj Gp;subst this;refine⟨q,Ag,xs,rfl,AL.kp.sub _ _ g1,Xs F1,Af,ρ,AL,?_⟩;rw[R.EV]at h;refine rb h λA5 BV h vs Az Cz B7 s2 B8=>?_;by_cases AV:A5.length=n
   .rw[if_pos AV]at h;rw[Le];exact nE (xe:=λ_ _ _=>False) AI B7 (.cons (UK.mono s2.g) B8) (by simp[AV]) (h.mono (s1.trans s2))
   .rw[if_neg AV]at h;cases h
  .exact h.elim
 |_=>cases h
def Zs:D->Option Key
 |.int i=>some (.inl i)
 |.str x=>some (.inr x)
 |_=>none
def Xp:List D->Option (List Key)
 |[]=>some []
 |d::ds=>match Zs d,Xp ds with
  |some k,some ks=>some (k::ks)
  |_,_=>none
def bq:D->Option JB
 |.tup ds=>(Xp ds).map .inr
 |d=>(Zs d).map .inl
def ZP:List D->Option Bj
 |[]=>some []
 |d::ds=>match bq d,ZP ds with
  |some k,some ks=>some (k::ks)
  |_,_=>none
def I4:D->Option Bj
 |.tup ds=>ZP ds
 |_=>none
def jF{K:A_}{G:AC}{d:D}{v:V}{k:Key}(e:Zs d=some k)(a:At K G d v):v=Dl k:=by
 cases d<;>first
  |(cases e;done)
  |(cases e;simp only[At]at a;exact a)
theorem jH{K:A_}{G:AC}:∀{ds:List D}{vs:List V}{ks:List Key},Xp ds=some ks->Aa K G ds vs->vs=ks.map Dl
 |[],_,_,e,a=>by simp only[Aa]at a;subst a;cases e;rfl
 |d::ds,_,_,e,a=>by
  simp only[Aa]at a;obtain⟨v,r,rfl,B8,MK⟩:=a;unfold Xp at e
  split at e
  .rename_i k ks A9 AM;cases e;rw[jF A9 B8,jH AM MK];rfl
  .cases e
def yi{K:A_}{G:AC}{d:D}{v:V}{k:JB}(e:bq d=some k)(a:At K G d v):Mg G k v:=by
 unfold bq at e
 split at e
 .obtain⟨ks,A9,rfl⟩:=Option.map_eq_some_iff.mp e;simp only[At]at a;obtain⟨b,xs,rfl,A1,al⟩:=a;exact⟨b,rfl,by rw[A1,jH A9 al]⟩
 .obtain⟨k,A9,rfl⟩:=Option.map_eq_some_iff.mp e;exact jF A9 a
theorem ki{K:A_}{G:AC}:∀{ds:List D}{vs:List V}{ks:Bj},ZP ds=some ks->Aa K G ds vs->Paired (Mg G) ks vs
 |[],_,_,e,a=>by simp only[Aa]at a;subst a;cases e;exact .nil
 |d::ds,_,_,e,a=>by
  simp only[Aa]at a;obtain⟨v,r,rfl,B8,MK⟩:=a;unfold ZP at e
  split at e
  .rename_i k ks A9 AM;cases e;exact .cons (yi A9 B8) (ki AM MK)
  .cases e
def PN{K:A_}{G:AC}{d:D}{v:V}{ks:Bj}(e:I4 d=some ks)(a:At K G d v):∃b,v=.ref b/\KS G ks b:=by
 cases d with
 |tup ds=>simp only[At]at a;obtain⟨b,xs,rfl,A1,al⟩:=a;exact⟨b,rfl,xs,A1,ki e al⟩
 |_=>cases e
def OI{G H:AC}{k:Bj}{a:A7}(h:KS G k a)(s:Sub G H):KS H k a:=h.mono λb xs e=>s b _ e
theorem Vj{DW:Type}[DecidableEq DW](k:DW):∀AX:List (DW×V),(FQ AX k).isSome=(AX.map (·.1)).any (λx=>decide (x=k))
 |[]=>rfl
 |(x,v)::AX=>by
  have CA:=Vj k AX;unfold FQ at CA |-;rw[HP,EF,NQ];by_cases h:x=k
  .simp[h]
  .simp only[h,decide_false,de];exact CA
def EW(b:Bool)(k d:D):R D:=match d with
 |.Ai ks _=>match I4 k with
  |some Bf=>.ok (.AO (if b then ks.any (λx=>decide (x=Bf))else !ks.any (λx=>decide (x=Bf))))
  |none=>.bad
 |_=>.bad
def h4{b:Bool}{σ :St}{ρ:AG}{G H:AC}{y x:V}{N6 DI:D}{Q:Cc}(r:Rel F G H σ ρ)(Cs:At F.K G N6 y)(Bu:At F.K G DI x)(h:J_ F G H σ ρ Q (EW b N6 DI)) :
  ∃a o,x=.ref a/\IY H a y o/\Q (.AO (if b then o.isSome else !o.isSome)) H:=by
 unfold EW at h
 split at h
 .rename_i ks ds
  split at h
  .rename_i Bf Dc;simp only[At]at Bu;obtain⟨a,xs,rfl,Ad,rfl,al⟩:=Bu;obtain⟨q,rfl,AW⟩:=PN Dc Cs;refine⟨a,FQ xs Bf,rfl,IY.t (r.kp.sub _ _ Ad) (OI AW r.kp.sub),?_⟩;rw[Vj];exact h _ H G r (C6.refl _ _) (by simp only[At])
  .exact h.elim
 .exact h.elim
def jT:Ec (Cv F (A3 (EW true) m n)) (n7 (Cv F m) (Cv F n)):=by rintro σ H Q ⟨G,ρ,r,h⟩;unfold A3 at h;refine⟨G,ρ,r,?_⟩;refine rb h λN6 B0 h y H1 Af AL s1 Cs=>?_;refine⟨Af,ρ,AL,?_⟩;refine rb h λDI BV h x Az Cz B7 s2 Bu=>?_;exact h4 (b:=true) B7 (Cs.mono s2.g) Bu (h.mono (s1.trans s2))
def u6:Ec (Cv F (A3 (EW false) m n)) (n8 (Cv F m) (Cv F n)):=by rintro σ H Q ⟨G,ρ,r,h⟩;unfold A3 at h;refine⟨G,ρ,r,?_⟩;refine rb h λN6 B0 h y H1 Af AL s1 Cs=>?_;refine⟨Af,ρ,AL,?_⟩;refine rb h λDI BV h x Az Cz B7 s2 Bu=>?_;exact h4 (b:=false) B7 (Cs.mono s2.g) Bu (h.mono (s1.trans s2))
def Kj(i:Nat):Ao:=λρ=>if i<ρ.length then .ok (.Ay (ρ.set i (.ob (.Ai [] []))))else .bad
def RC:List Bj->List D->Bj->D->List D
 |k::ks,d::ds,Bf,v=>(if k=Bf then v else d)::RC ks ds Bf v
 |_,_,_,_=>[]
noncomputable def putD(ks:List Bj)(ds:List D)(Bf:Bj)(d:D):R KP:=if ks.any (λx=>decide (x=Bf))=false/\ks.length<1000000 then .ok (.Ai (ks++[Bf]) (ds++[d]))else if ks.any (λx=>decide (x=Bf))=true/\ks.length<1000000 then .ok (.Ai ks (RC ks ds Bf d))else .bad
noncomputable def Hc(i:Nat)(mk mv:Ab):Ao:=λρ=>(mv ρ).bind λv=>match ρ[i]? with
 |some (.ob (.Ai ks ds))=>(mk ρ).bind λk=>match I4 k with
  |some Bf=>(putD ks ds Bf v).bind λo=>.ok (.Ay (ρ.set i (.ob o)))
  |none=>.bad
 |_=>.bad
def La(m:Ab):Ao:=λρ=>(m (EI ρ)).bind λd=>.ok (.ES d)
def bZ:Ao:=λ_=>.bad
end
mutual
noncomputable def Kn:D->Bool
 |.ins _ _ _=>false
 |.tup ds=>L6 ds
 |.lst ds=>L6 ds
 |.Co ds=>L6 ds
 |.Bg _ ds=>L6 ds
 |.Ai _ ds=>L6 ds
 |.EM ds=>L6 ds
 |_=>true
noncomputable def L6:List D->Bool
 |[]=>true
 |d::ds=>Kn d&&L6 ds
end
def Um:Du->Bool
 |.ins _ _ _=>true
 |_=>false
section
variable{K:A_}{G G':AC}
def Eo.off(h:∀b o,G b=some o->Um o=false->G' b=some o){a:A7}{u:Du}(BR:Um u=false)(r:Eo G a u):Eo G' a u:=by
 rcases r with r|⟨o,r⟩
 .exact .inl (h _ _ r BR)
 .exact .inr ⟨o,h _ _ r rfl⟩
mutual
theorem At.off(h:∀b o,G b=some o->Um o=false->G' b=some o):∀{d:D}{v:V},Kn d=true->At K G d v->At K G' d v
 |.non,_,_,q=>by simpa only[At]using q
 |.AO _,_,_,q=>by simpa only[At]using q
 |.int _,_,_,q=>by simpa only[At]using q
 |.str _,_,_,q=>by simpa only[At]using q
 |.tup _,_,n,q=>by simp only[At,Kn]at q n |-;obtain⟨a,xs,e,g,r⟩:=q;exact⟨a,xs,e,h _ _ g rfl,Aa.off h n r⟩
 |.lst _,_,n,q=>by simp only[At,Kn]at q n |-;obtain⟨a,xs,e,g,r⟩:=q;exact⟨a,xs,e,h _ _ g rfl,Aa.off h n r⟩
 |.Co _,_,n,q=>by
  simp only[At,Kn]at q n |-;obtain⟨a,xs,e,g,r⟩:=q;refine⟨a,xs,e,?_,Aa.off h n r⟩;rcases g with g|g
  .exact .inl (Eo.off h rfl g)
  .exact .inr g
 |.EM _,_,n,q=>by
  simp only[At,Kn]at q n |-;obtain⟨a,xs,e,g,r⟩:=q;refine⟨a,xs,e,?_,Aa.off h n r⟩;rcases g with g|g
  .exact .inl (Eo.off h rfl g)
  .exact .inr g
 |.Bg _ _,_,n,q=>by simp only[At,Kn]at q n |-;obtain⟨a,xs,e,g,k,r⟩:=q;exact⟨a,xs,e,h _ _ g rfl,k,Aa.off h n r⟩
 |.Ai _ _,_,n,q=>by simp only[At,Kn]at q n |-;obtain⟨a,xs,e,g,k,r⟩:=q;exact⟨a,xs,e,h _ _ g rfl,k,Aa.off h n r⟩
 |.ins _ _ _,_,n,_=>by simp only[Kn]at n;cases n
 |.PD _,_,n,q=>by simp only[At]at q |-;obtain⟨a,xs,e,⟨C,BU,g⟩,r⟩:=q;exact⟨a,xs,e,⟨C,BU,h _ _ g rfl⟩,r⟩
theorem Aa.off(h:∀b o,G b=some o->Um o=false->G' b=some o):∀{ds:List D}{vs:List V},L6 ds=true->Aa K G ds vs->Aa K G' ds vs
 |[],_,_,q=>by simpa only[Aa]using q
 |_::_,_,n,q=>by simp only[Aa,L6,FV]at q n |-;obtain⟨v,r,e,a,t⟩:=q;exact⟨v,r,e,At.off h n.1 a,Aa.off h n.2 t⟩
end
end
def abB:Bi->Bool
 |.ob (.ins _ _ _)=>true
 |.ob _=>false
 |.Ef _=>false
 |.BX _ _=>false
 |_=>true
def bB(ρ:AG):Bool:=ρ.all abB
def Ra(m:Ab):Ab:=λρ=>(m (EI ρ)).bind λd=>if Kn d=true/\bB ρ=true then .ok d else .bad
section
variable{F:B9}
open Classical in
noncomputable def Gn(H:AC)(σ :St)(ρ:AG)(G:AC):AC:=λb=>if Ca H σ ρ b then none else G b
def uV{m:Ab}:Ec (Cv F (Ra m)) (Cv F m):=by
 rintro σ H Q ⟨G,ρ,r,h⟩;refine⟨Hq σ ρ G H,EI ρ,r.plus,?_⟩;unfold Ra at h;refine rb h λd B0 h v H' G' BS s' a=>?_;by_cases hd:Kn d=true/\bB ρ=true
 .rw[if_pos hd]at h;have P5:∀b,Ca H σ ρ b->G b=none:=λb z=>(r.foot z).2.1;have P4:∀b,Ca H σ ρ b->F.H0 b=none:=λb z=>(r.foot z).2.2;have bG:∀b,Ca H σ ρ b->∃ho,H b=some ho/\Um ho=true:=λb⟨i,s,o,A9,AM,f⟩=>by
   have AD:=List.all_eq_true.mp hd.2 _ (KD A9);cases s with
   |un=>cases f
   |J _=>cases f
   |Ef _=>cases AD
   |BX _ _=>cases AD
   |ob ob=>
    have f:o=some (.ref b):=f;obtain⟨c,ho,BD,A6,_,_,BJ⟩:=r.obj A9;rw[AM,f]at BD;cases BD;cases ob with
    |lst _=>cases AD
    |Ai _ _=>cases AD
    |ins _ _ _=>obtain⟨C,Ag,xs,_,rfl,_⟩:=BJ;exact⟨_,A6,rfl⟩
  have off:∀b,¬Ca H σ ρ b->Gn H σ ρ G' b=G' b:=λb n=>by unfold Gn;rw[if_neg n]
  have on:∀b,Ca H σ ρ b->Gn H σ ρ G' b=none:=λb n=>by unfold Gn;rw[if_pos n]
  have BK:Sub G (Gn H σ ρ G'):=λb o e=>by
   have n:¬Ca H σ ρ b:=λz=>by rw[P5 b z]at e;cases e
   rw[off b n];exact s'.g b o (VD r b o e)
  have Zq:∀b,Ca H σ ρ b->∀o,H b=some o->H' b=some o:=λb z o e=>BS.kp.sub _ _ (s'.g _ _ (by rw[Nd z];exact e));have rel:Rel F (Gn H σ ρ G') H' σ ρ:=by
   refine r.over rfl ⟨λb o e=>?_,r.kp.EP.trans BK,BS.kp.BE,λb A1=>?_⟩ BK λb Bw=>?_
   .by_cases n:Ca H σ ρ b
    .rw[on b n]at e;cases e
    .rw[off b n]at e;exact BS.kp.sub b o e
   .have n:¬Ca H σ ρ b:=λz=>A1.1 (P4 b z);rw[off b n];exact BS.kp.new b A1
   .refine⟨?_,on b Bw,P4 b Bw⟩;cases BV:H b with
    |none=>exact absurd BV (r.foot Bw).1
    |some o=>exact Zq b Bw o BV
  refine h v H' _ rel ⟨BK,s'.h,λb A1=>?_⟩ (At.off (λb o e AD=>?_) hd.1 a)
  .by_cases n:Ca H σ ρ b
   .rw[on b n,P5 b n]
   .rw[off b n,s'.n b A1];unfold Hq;rw[if_neg n]
  .have n:¬Ca H σ ρ b:=λz=>by
     obtain⟨ho,A9,AM⟩:=bG b z;have:=s'.g b ho (by rw[Nd z];exact A9);rw[e]at this;cases this;rw[AD]at AM;cases AM
   rw[off b n];exact e
 .rw[if_neg hd]at h;cases h
abbrev JA:=AG->R AG
def wu(F:B9)(σ :St)(CY:Ends):R AG->Prop
 |.ok BL=>∀G' H',Rel F G' H' σ BL->CY.Ay σ H'
 |.exc c=>NF F c
 |.bad=>False
def OG(F:B9)(m:JA):FJ:=λCY σ H=>∃G ρ,Rel F G H σ ρ/\wu F σ CY (m ρ)
def Mp(a b:JA):JA:=λρ=>(a ρ).bind b
def vO{a b:JA}:IL (OG F (Mp a b)) (c6 (OG F a) (OG F b)):=by
 rintro CY σ H ⟨G,ρ,r,h⟩;unfold Mp at h;refine⟨G,ρ,r,?_⟩;cases B0:a ρ with
 |bad=>rw[B0]at h;cases h
 |exc c=>rw[B0]at h;exact h
 |ok EU=>rw[B0,R.EV]at h;exact λG' H' BS=>⟨G',EU,BS,h⟩
def PU(c:CN):JA:=λρ=>(c ρ).bind λk=>if k=true then .bad else .ok ρ
def vj{c:CN}:IL (OG F (PU c)) (cy (H5 F c) oT c5):=by
 rintro CY σ H ⟨G,ρ,r,h⟩;unfold PU at h;refine⟨G,ρ,r,?_⟩;refine rb h λk B0 h H1 Af AL s1=>?_;cases k with
 |true=>cases h
 |false=>exact h Af H1 AL
theorem Yu{f:Str}{v:V}:∀{Ap:List (Str×V)},(Ap.map (·.1)).all (λk=>!(f==k))=true->H2 f v Ap=Ap++[(f,v)]
 |[],_=>rfl
 |(g,x)::Ap,h=>by
  simp only[EF,NR,FV,Bool.not_eq_true']at h;have ne:g≠f:=λz=>by subst z;simp at h
  rw[H2,if_neg ne,Yu (by simpa using h.2)];rfl
noncomputable def Kh(Ae f:Str)(m:Ab):JA:=λρ=>(m ρ).bind λd=>match(ρ[0]? :Option Bi)with
 |some (.ob (.ins Dp ns ds))=>if Dp=Ae/\ns.all (λk=>!(f==k))=true/\ns.length<1000 then .ok (ρ.set 0 (.ob (.ins Ae (ns++[f]) (ds++[d]))))else .bad
 |_=>.bad
end
section
variable{X:Ac}{F:B9}{e o:AT}{pos:Pos}{m:Ab}
def aa1{Ae f x:Str}{Ap:List Str}{Cm pos':Pos}(k:Mm X.K Ae Ap)(he:J7 X F e m)(hf:f∈Ap:=by decide+kernel)(hN:X.N[0]?=some x:=by rfl)(Bc:G_ X.env.scope x:=by first|exact Dq rfl|exact Cr (Dq rfl)|exact Cr (Cr rfl))(hd:(x==("__debug__" :Str))=false:=by decide)(DQ:(x==("__classdict__" :Str))=false:=by decide)(AJ:Pa e=true:=by rfl)(Am:F.K=X.K:=by rfl) :
  DH X (.Assign [.Attribute (.Name x Cm) f pos'] e pos) (OG F (Kh Ae f m)):=by
 refine DH.imp (bM (IA hN Bc hd DQ) he (M9 _ _ _ _ AJ)) ?_;rintro CY σ H ⟨G,ρ,r,h⟩;unfold Kh at h;refine⟨G,ρ,r,?_⟩;refine rb h λd B0 h v H1 Af AL s1 B8=>?_
 split at h
 .rename_i Dp ns ds CU
  split at h
  .rename_i AK;obtain⟨rfl,F1,TF⟩:=AK;obtain⟨q,ho,A9,A6,AA,B4,C,Ag,xs,BU,rfl,rfl,al⟩:=AL.obj CU;obtain⟨Ju,Cn,C3,Fp⟩:=k.ex;rw[Am]at BU;have:=BU.inj Cn;subst this;refine⟨.ref q,A9,q,C,Ag,xs,rfl,A6,C3,Fp f hf,by simpa using TF,?_⟩;refine h Af _ (AL.SN CU A9 ⟨C,Ag,H2 f v xs,by rw[Am];exact BU,rfl,?_,?_⟩)
   .rw[Yu F1];simp
   .rw[Yu F1,Jp];exact al.snoc B8
  .exact h.elim
 .exact h.elim
end
noncomputable def j5(F:B9)(x C:A7)(Q:Cc):R (List Str×List D)->Prop
 |.ok (ns,ds)=>∀Ag xs G' H',FS F G' H'->G' x=none->H' x=some (.ins C Ag xs)->xs.map (·.1)=ns->Aa F.K G' ds (xs.map (·.2))->Q .non H'
 |.exc _=>False
 |.bad=>False
noncomputable def VV(K:A_)(Ae:Str)(n:Nat)(Ba:List D->R (List Str×List D)):AY:=λvs H Q E=>∃G x C Ag A5 ws,vs=.ref x::ws/\Fx K Ae C/\H x=some (.ins C Ag [])/\G x=none/\Sub G H/\Aa K G A5 ws/\A5.length=n/\j5 ⟨K,G,del H x,λ_ _=>False,Iq⟩ x C Q (Ba A5)
def Rd(Ae:Str)(n:Nat)(Ba:List D->R (List Str×List D))(ma:Au):Ab:=λρ=>(ma ρ).bind λds=>if ds.length=n then(Hd (Ba ds)).bind λx=>.ok (.ins Ae x.1 x.2)else .bad
section
variable{X:Ac}{F:B9}{e:AT}{A5:List AT}{pos p:Pos}{ma:Au}
def vr{Ae:Str}{n:Nat}{Ba:List D->R (List Str×List D)}{C:A7}{E:DP}(Gp:Fx F.K Ae C):Ec (Cv F (Rd Ae n Ba ma)) (c4 C (VV F.K Ae n Ba) [] E (Ew F ma)):=by
 rintro σ H Q ⟨G,ρ,r,h⟩;unfold Rd at h;refine⟨G,ρ,r,?_⟩;refine rb h λds B0 h vs H1 Af AL s1 B8 x Ag AI af ne=>?_;by_cases AV:ds.length=n
 .rw[if_pos AV]at h;rw[Le];have Pc:Sub H1 (del (upd (upd H1 Ag (.own x)) x (.ins C Ag [])) x):=λb o e=>by
   have DT:b≠x:=λz=>by rw[z,AI]at e;cases e
   have Dx:b≠Ag:=λz=>by rw[z,af]at e;cases e
   rw[rD DT,DV DT,DV Dx];exact e
  have bQ:Sub Af (upd (upd H1 Ag (.own x)) x (.ins C Ag [])):=AL.kp.sub.trans (Pc.trans (h3 _ _));refine⟨Af,x,C,Ag,ds,vs,rfl,Gp,Dz,AL.kp.sub.gone AI,bQ,B8,AV,?_⟩;cases em:Ba ds with
  |bad=>rw[em]at h;cases h
  |exc c=>rw[em]at h;cases h
  |ok y=>obtain⟨ns,V3⟩:=y;rw[em]at h;intro UO xs G' H' k g1 g2 g3 g4;refine⟨rfl,?_⟩;have BE:Sub H1 H':=Pc.trans k.BE;have nw:∀b,Hz H1 b->G' b=Af b:=λb A1=>k.new b (Pc.Jh A1);have B7:Rel F G' H' σ ρ:=AL.grow k.EP k.sub BE nw;have no:¬Ca H' σ ρ x:=Ca.fresh AL BE AI;refine h (.ref x) H' _ (B7.take g2 g1 (AL.kp.BE.gone AI) no) ((s1.trans ⟨k.EP,BE,nw⟩).put (s1.h.gone AI) g1) ?_;simp only[At];exact⟨x,UO,xs,rfl,⟨C,Gp,Dz⟩,g3,g4.mono (Sub.upd g1)⟩
 .rw[if_neg AV]at h;cases h
structure eO(P:C2)(w:Bh)(K:A_)(mg:Str->Option A8)(base:BP)(Ae:Str)(n k:Nat)(Ba:List D->R (List Str×List D)):Prop where
 ex:∃(C f:A7)(fd:G5)(Aq:List Str),Fx K Ae C/\U8 K C f/\GX P w K mg base Gs k f fd Aq (VV K Ae n Ba)/\mg Ae=some (.ref C)/\Binds K fd Aq []
end
def Ke(Ae:Str)(A5:List D):AG:=.ob (.ins Ae [] [])::A5.map .J
def outI(Ae:Str):R AG->R (List Str×List D)
 |.ok (.ob (.ins c ns ds)::_)=>if c=Ae then .ok (ns,ds)else .bad
 |_=>.bad
def aaE{K:A_}{G H:AC}{EX:Str->AC->Prop}{Ae:Str}{C Ag x:A7}{A5:List D}{ws:List V}(Gp:Fx K Ae C)(A6:H x=some (.ins C Ag []))(AA:G x=none)(s:Sub G H)(B8:Aa K G A5 ws) :
  Rel ⟨K,G,del H x,EX,Iq⟩ G H (some (.ref x)::ws.map some) (Ke Ae A5):=by
 refine⟨⟨s,Sub.refl _,h3 H x,λ_ _=>rfl⟩,by simp[Ke,B8.length],λi t e=>?_,λi j b Ap ib o o' DZ Dh _ _ f sx=>?_⟩
 .cases i with
  |zero=>simp[Ke]at e;subst e;exact⟨some (.ref x),by simp,x,_,rfl,A6,AA,rE,C,Ag,[],Gp,rfl,rfl,.nil⟩
  |succ i=>
   simp only[Ke,ID]at e |-;rw[EL]at e;cases EY:A5[i]? with
   |none=>rw[EY]at e;cases e
   |some d=>rw[EY]at e;cases e;obtain⟨v,A9,a⟩:=B8.get EY;exact⟨some v,by rw[EL,A9];rfl,v,rfl,a⟩
 .have one:∀{i:Nat}{Ap:Bi}{o:Option V},(Ke Ae A5)[i]?=some Ap->Ey H Ap o b->i=0:=λ{i Ap o} e f=>by
    cases i with
    |zero=>rfl
    |succ i=>
     simp only[Ke,ID,EL]at e;cases EY:A5[i]? with
     |none=>rw[EY]at e;cases e
     |some d=>rw[EY]at e;cases e;cases f
  rw[one DZ f,one Dh sx]
def vZ{K:A_}{Ae:Str}{n:Nat}{m:JA}{vs:List V}{H:AC}{Q:Cc}{E:DP}(h:VV K Ae n (λA5=>outI Ae (m (Ke Ae A5))) vs H Q E) :
  ∃G H0,OG (Ge K G H0) m { Ay:=λ_ H'=>Q .non H',ES:=Q } (vs.map some) H:=by
 obtain⟨G,x,C,Ag,A5,ws,rfl,Gp,A6,AA,s,B8,l,k⟩:=h;refine⟨G,del H x,G,Ke Ae A5,aaE Gp A6 AA s B8,?_⟩;replace k:j5 ⟨K,G,del H x,λ_ _=>False,Iq⟩ x C Q (outI Ae (m (Ke Ae A5))):=k;cases em:m (Ke Ae A5)with
 |bad=>rw[em]at k;cases k
 |exc c=>rw[em]at k;cases k
 |ok BL=>
  rw[em]at k;intro G' H' r;unfold outI at k
  split at k
  .rename_i afl ns ds ET heq;cases heq;obtain⟨a,ho,A9,g1,g2,g3,Ju,UO,xs,BU,rfl,AM,al⟩:=r.obj (i:=0) rfl;have A9:some (some (V.ref x))=some (some (V.ref a)):=A9;cases A9
   split at k
   .rename_i AK;subst AK;have:=BU.inj Gp;subst this;exact k UO xs G' H' r.kp g2 g1 AM al
   .exact k.elim
  .exact k.elim
end CT
namespace CT
open PySem PySem.Spec C1 PyProof.Rows
def nC{K:A_}{Ae:Str}{n:Nat}{Ba:List D->R (List Str×List D)}:∀vs H Q E,VV K Ae n Ba vs H Q E->vs.length=n+1:=λvs H Q E h=>by obtain⟨G,x,C,Ag,A5,ws,rfl,_,_,_,_,q,l,_⟩:=h;rw[FU,<-q.length,l]
def aaz{N:List Str}{vs:List V}(h:vs.length=N.length):C1.start N vs=vs.map some:=by unfold C1.start;simp[h]
def w0{P:C2}{w:Bh}{K:A_}{mg:Str->Option A8}{base:BP}{x qual Ae FH:Str}{st:Bb}{Aq:List Str}{k:Nat}{m:JA}{f:A7}{fd:G5}(fn:Mb K x qual st f fd)(S:Cg (FH::Aq) (FH::Aq) (Bv st))(h:∀(f:A7)(CJ:A8)(A:CR)(outer:List Env)(s:AQ)(H:AC)(E:DP),Ch k (A.deeper (NL qual (Bv st) s.heap.objs.size f CJ))->∀G0 H0,GO (JR Gs P w K mg base (FH::Aq) qual (Bv st) f CJ A outer s H E).Kp (GR st) (OG (Ge K G0 H0) m)) :
  GX P w K mg base Gs (k+1) f fd (FH::Aq) (VV K Ae Aq.length λA5=>outI Ae (m (Ke Ae A5))):=fn.ok S nC λCJ A outer s H vs Q E B3 AJ=>by
 have AN:=nC vs H Q E AJ;obtain⟨G,H0,Aj⟩:=vZ AJ;refine⟨_,h f CJ A outer s H E B3 G H0,?_⟩;rw[aaz (by simpa using AN)];exact Aj
def xK{P:C2}{w:Bh}{K:A_}{mg:Str->Option A8}{base:BP}{x qual Ae FH:Str}{st:Bb}{N Aq:List Str}{k:Nat}{m:Ao}{C f:A7}{fd:G5}(fn:Mb K x qual st f fd)(Gp:Fx K Ae C)(AK:J6 K C)(hm:Meth K C x f)(A1:Binds K fd (FH::Aq) [])(S:Cg N (FH::Aq) (Bv st))(h:∀(f:A7)(CJ:A8)(A:CR)(outer:List Env)(s:AQ)(H:AC)(E:DP),Ch k (A.deeper (NL qual (Bv st) s.heap.objs.size f CJ))->∀G0 H0,Jy (JR Gs P w K mg base N qual (Bv st) f CJ A outer s H E).Kp (Ge K G0 H0) (GR st) m) :
  P0 P w K mg base Ae x Aq.length (k+1) (DS N.length m):=by
 refine⟨C,f,fd,FH::Aq,Gp,AK,hm,fn.ok S cn λCJ A outer s H vs Q E B3 AJ=>?_,A1⟩;obtain⟨G,Aj⟩:=f6 AJ;exact⟨_,(h f CJ A outer s H E B3 G H).1,Aj⟩
section
variable{X:Ac}{F:B9}{e a b c:AT}{A5:List AT}{pos p:Pos}{m n:Ab}{ma:Au}
def RK:List D->R D
 |[.lst xs]=>.ok (.tup xs)
 |[.Co xs]=>.ok (.tup xs)
 |[.tup xs]=>.ok (.tup xs)
 |_=>.bad
def yN(Am:F.K=X.K):Ni F (λxs H Q=>∃p ys,xs=[.ref p]/\((C9 X.K H p ys/\∀l,H l=none->Q (.ref l) (upd H l (.tup ys)))\/(CZ X.K H p ys/\Q (.ref p) H))) RK:=by
 intro σ ρ G H xs ds Q r al k;unfold RK at k
 split at k
 .obtain⟨v,rfl,B8⟩:=al.one;simp only[At]at B8;obtain⟨q,ys,rfl,AW,FY⟩:=B8;refine⟨q,ys,rfl,.inl ⟨C9.of (r.kp.sub _ _ AW),λl AN=>?_⟩⟩;refine k (.ref l) _ _ (r.lay AN) (C6.lay r.kp.sub AN) ?_;simp only[At];exact⟨l,ys,rfl,Dz,FY.mono (Sub.upd (r.kp.sub.gone AN))⟩
 .obtain⟨v,rfl,B8⟩:=al.one;simp only[At]at B8;obtain⟨q,ys,rfl,AW,FY⟩:=B8;refine⟨q,ys,rfl,.inl ⟨by rw[<-Am];exact C9.mono r.kp.sub AW,λl AN=>?_⟩⟩;refine k (.ref l) _ _ (r.lay AN) (C6.lay r.kp.sub AN) ?_;simp only[At];exact⟨l,ys,rfl,Dz,FY.mono (Sub.upd (r.kp.sub.gone AN))⟩
 .obtain⟨v,rfl,B8⟩:=al.one;have qA:=B8;simp only[At]at B8;obtain⟨q,ys,rfl,AW,FY⟩:=B8;exact⟨q,ys,rfl,.inr ⟨CZ.of (r.kp.sub _ _ AW),k _ H G r (C6.refl _ _) qA⟩⟩
 .exact k.elim
end
end CT
namespace E1
open PySem PyProof.Rows
section
variable{prog:C2}{w:Bh}{A:CR}{E:A8->AQ->Prop}{s:AQ}
def rf{t b:A7}{ws:List A8}{Q:A8->AQ->Prop}(Aj:IsTup s.heap t ([]:List A8).toArray)(A1:IsTup s.heap b ws.toArray)(h:Q (.ref b) s):Al (BG prog w) A (J4 .Add (.ref t) (.ref b)) Q E s:=by
 obtain⟨⟨cls,DI,data,CE⟩,ho,AK,n,hd⟩:=id Aj;obtain⟨⟨ri,XO,data2,Z8⟩,Qe,F1,Dx,hd2⟩:=id A1;simp only at AK hd F1 hd2;subst AK hd F1 hd2
 exact concat_meets ⟨_,ho,rfl⟩ ⟨_,Qe,rfl⟩ dV seq_tuple_add d8 dL (dJ _ _)
  (tuple_addW0 t b ([]:List A8).toArray ws.toArray n Dx DI XO CE Z8 (by simp)) ⟨ho,Qe,h⟩
end
end E1
namespace C1
open PySem PySem.Spec PyProof.Rows
variable{X:Ac}
def lf(K:A_):Ed:=λx y H Q=>∃a b ys,x=.ref a/\y=.ref b/\CZ K H a []/\CZ K H b ys/\Q (.ref b) H
def xv:E7 X (J4 .Add) (lf X.K):=by intro pins s σ H x y v u Q I BQ Bx h;obtain⟨a,b,ys,rfl,rfl,AB,A1,q⟩:=h;cases BQ;cases Bx;obtain⟨its,AL,EB,_⟩:=I.tuple AB;cases AL;obtain⟨Ht,B7,D3,_⟩:=I.tuple A1;exact E1.rf EB D3 ⟨.ref b,H,I,rfl,q⟩
end C1
namespace CT
open PySem PySem.Spec C1 PyProof.Rows
section
variable{X:Ac}{F:B9}{e a b c:AT}{A5:List AT}{pos p:Pos}{m n:Ab}{ma:Au}
def K0:D->D->R D
 |.tup xs,.tup ys=>if xs.length+ys.length<=1000000 then .ok (.tup (xs++ys))else .bad
 |_,_=>.bad
def yE(Am:F.K=X.K):HU F (λx y H Q=>lc X.K x y H Q\/lf X.K x y H Q) K0:=by
 intro σ ρ G H x y Ag Gc Q r Bu Cs k;unfold K0 at k
 split at k
 .rename_i ds A5;have UK:=Bu;have qB:=Cs;simp only[At]at Bu Cs
  split at k
  .rename_i AN;obtain⟨p,xs,rfl,A6,An⟩:=Bu;obtain⟨D3,ys,rfl,AA,BF⟩:=Cs;by_cases AI:xs=[]
   .subst AI;refine .inr ⟨p,D3,ys,rfl,rfl,CZ.of (r.kp.sub _ _ A6),CZ.of (r.kp.sub _ _ AA),?_⟩;have e:ds=[]:=ow (by rw[An.length];rfl);subst e;exact k _ H G r (C6.refl _ _) qB
   .refine .inl ⟨p,D3,xs,ys,rfl,rfl,CZ.of (r.kp.sub _ _ A6),CZ.of (r.kp.sub _ _ AA),AI,by rw[<-An.length,<-BF.length];exact FT AN (by decide),λBO=>?_,λ_ l AV=>?_⟩
    .subst BO;have e:A5=[]:=ow (by rw[BF.length];rfl);subst e;rw[Le]at k;exact k _ H G r (C6.refl _ _) UK
    .refine k (.ref l) _ _ (r.lay AV) (C6.lay r.kp.sub AV) ?_;simp only[At];exact⟨l,xs++ys,rfl,Dz,(An.append BF).mono (Sub.upd (r.kp.sub.gone AV))⟩
  .exact k.elim
 .exact k.elim
def L9(d:D)(l h:Option Int):R D:=match d with
 |.tup xs=>if E1.Cf xs.length 0 l=0/\E1.Cf xs.length xs.length h=xs.length then .bad else .ok (.tup (Fz xs l h))
 |_=>.bad
def vM(Am:F.K=X.K){lo AD:Me}:Ec (Cv F (Fh L9 m lo AD)) (c7 (l4 X.K) (Cv F m) (V_ F lo) (V_ F AD)):=by
 rintro σ H Q ⟨G,ρ,r,h⟩;unfold Fh at h;refine⟨G,ρ,r,?_⟩;refine rb h λd B0 h x H1 Af AL s1 Bu=>?_;refine⟨Af,ρ,AL,?_⟩;refine rb h λl el h Az Cz B7 s2=>?_;refine⟨Cz,ρ,B7,?_⟩;refine rb h λu Ps h D0 GY Dy s3=>?_;have up:=(s1.trans s2).trans s3;have Nt:=(Bu.mono s2.g).mono s3.g;cases d with
 |tup ds=>
  simp only[L9]at h
  split at h
  .exact h.elim
  .rename_i hw;simp only[At]at Nt;obtain⟨q,xs,rfl,AW,FY⟩:=Nt;rw[FY.length]at hw;refine⟨q,xs,rfl,CZ.of (Dy.kp.sub _ _ AW),hw,λXq AV=>?_⟩;refine h (.ref Xq) _ _ (Dy.lay AV) (up.trans (C6.lay Dy.kp.sub AV)) ?_;simp only[At];exact⟨Xq,_,rfl,Dz,(FY.cut l u).mono (Sub.upd (Dy.kp.sub.gone AV))⟩
 |_=>cases h
instance(i j:Int):Decidable (IntMulOk i j):=by unfold IntMulOk;infer_instance
end
section
variable{X:Ac}{F:B9}{e a b c:AT}{A5:List AT}{pos p:Pos}{m n:Ab}{ma:Au}
def UR(i:Nat)(m:Ab):Au:=λρ=>(ownAt i ρ).bind λds=>(m ρ).bind λd=>match d with
 |.lst A5=>if ds.length+A5.length<=1000000 then .ok (ds++A5)else .bad
 |_=>.bad
end
end CT
namespace CT
open PySem PySem.Spec C1
section
variable{X:Ac}{F:B9}{e a b c o B_ iter elt:AT}{A5:List AT}{pos p:Pos}{m n:Ab}{ma:Au}{st:Bb}{RF:List Bb}
def oK{Ae f:Str}{Ap:List Str}(k:Mm X.K Ae Ap)(he:B2 X F o m)(hf:f∈Ap:=by decide+kernel)(Am:F.K=X.K:=by rfl)(A1:IF o f X.env (BN o X.env)=BN o X.env:=by rfl):B2 X F (.Attribute o f pos) (Cj (Dj Ae f) m):=⟨by
 have he:=he.1;refine Ax.imp (bI he A1) ?_;rintro σ H Q ⟨G,ρ,r,h⟩;unfold Cj at h;refine⟨G,ρ,r,?_⟩
 revert h;refine λg=>rb g λd B0 h x H1 Af AL s1 Bu=>?_
 cases d with
 |ins Dp ns ds=>
  simp only[Dj]at h
  split at h
  .rename_i AK;subst AK
   split at h
   .rename_i d' AN;simp only[At]at Bu;obtain⟨q,Ag,xs,rfl,⟨C,BU,g1⟩,rfl,al⟩:=Bu;obtain⟨v,Bc,B8⟩:=iy al AN;obtain⟨Ju,Cn,C3,Fp⟩:=k.ex;rw[Am]at BU;have:=BU.inj Cn;subst this;exact⟨q,C,Ag,xs,v,rfl,AL.kp.sub _ _ g1,C3,Fp f hf,Bc,h v H1 Af AL s1 B8⟩
   .exact h.elim
  .exact h.elim
 |_=>exact h.elim⟩
def adM {Ae mt:Str} {n k:Nat} {Ba:List D->R CG} {pl:Sem Bool} {apos:Pos} (c:P0 X.prog X.w X.K X.mg X.base Ae mt n k Ba) (B3:Ch k X.A) (he:B2 X F o m) (AB:G8 X F (e::A5) ma) (K2:F.EX=λ_ _=>False:=by rfl) (Am:F.K=X.K:=by rfl) (OT:BI (e::A5) X.env=(false,BN e X.env)::BI A5 X.env:=by rfl) (Dv:(DC pos (BI A5 X.env)).any (·.1)=false:=by rfl) (Aj:BN (.Call (.Attribute o mt apos) (e::A5) [] pos) X.env=(do
   let DA <-BN o X.env
   M_ apos.atName
   let(f,first) <-Jr [DA] (Oq DA mt pl)
   QV pos f first (DC pos (BI (e::A5) X.env)) (H9 pos (H8 [] X.env))):=by rfl):B2 X F (.Call (.Attribute o mt apos) (e::A5) [] pos) (I7 Ae mt n Ba m ma):=⟨by
 have he:=he.1;have AB:=AB.1;obtain⟨C,f,fd,Aq,BU,E3,FF,HI,A1⟩:=c.ex;refine Ax.imp (jp (pl:=pl) he E3 FF HI B3 A1 .nil RA AB OT Dv Aj) ?_;rw[<-Am];exact vu K2 (by rw[Am];exact BU)⟩
def adA(BR:X.A.units+64<DX)(AB:B2 X F a m)(A1:B2 X F b n)(A6:IE .In b=false:=by with_unfolding_all rfl):B2 X F (.Compare a [.In] [b] pos) (A3 (EW true) m n):=⟨have AB:=AB.1;have A1:=A1.1;Ax.imp (zl (kG (by lia) AB A1) A6) jT⟩
def ae4(BR:X.A.units+64<DX)(AB:B2 X F a m)(A1:B2 X F b n)(A6:IE .In b=false:=by with_unfolding_all rfl):Fm X F (.Compare a [.In] [b] pos) (Ah (A3 (EW true) m n)):=⟨by
 have AB:=AB.1;have A1:=A1.1;refine FX.imp (lX (kG (by lia) AB A1) A6) λσ H Q h=>?_;obtain⟨G,ρ,r,k⟩:=YA σ H Q h;exact jT σ H _ ⟨G,ρ,r,k⟩⟩
def ae5(BR:X.A.units+64<DX)(AB:B2 X F a m)(A1:B2 X F b n)(A6:IE .NotIn b=false:=by with_unfolding_all rfl):Fm X F (.Compare a [.NotIn] [b] pos) (Ah (A3 (EW false) m n)):=⟨by
 have AB:=AB.1;have A1:=A1.1;refine FX.imp (lX (zf (by lia) AB A1) A6) λσ H Q h=>?_;obtain⟨G,ρ,r,k⟩:=YA σ H Q h;exact u6 σ H _ ⟨G,ρ,r,k⟩⟩
def aeV(i:Nat){x:Str}{p q:Pos}(hN:X.N.Nodup)(AD:X.N[i]?=some x:=by rfl)(AI:Loc X.env.scope x:=by first|exact Dq rfl|exact Cr rfl)(hf:X.fn x=true\/X.env.scope.names.lookup x=some .local:=by first|exact .inl rfl|exact .inr rfl):Er X F (.Assign [.Name x p] (.Dict [] [] q) pos) (Kj i):=⟨by
 refine DH.imp (W1 hN AD AI kK (M9 _ _ _ _ rfl) hf) ?_;rintro CY σ H ⟨G,ρ,r,h⟩;unfold Kj at h;intro a AB
 split at h
 .rename_i AN;refine h _ G _ ((r.lay0 AB).setB AN Dz (r.kp.sub.gone AB) (r.kp.BE.gone AB) ⟨[],rfl,rfl,.nil⟩ λj A5 o _ A9 AM f=>Ca.fresh r (Sub.upd AB) AB ⟨j,A5,o,A9,AM,f⟩) (Sub.refl _)
 .exact h.elim⟩
def nS(e a b:AT)(p:Pos)(l:Nat)(env:Env):Lk e (some (.Subscript a b p)) l env=pure false:=by cases e<;>rfl
theorem Yx{K:A_}{G:AC}{Bf:Bj}{d:D}{v:V}(B8:At K G d v):∀{xs:List (Bj×V)}{ds:List D},Aa K G ds (xs.map (·.2))->Aa K G (RC (xs.map (·.1)) ds Bf d) ((xs.map λD2=>if D2.1=Bf then(D2.1,v)else D2).map (·.2))
 |[],ds,h=>by cases ds<;>exact .nil
 |(k,u)::xs,[],h=>by simp[Aa]at h
 |(k,u)::xs,e::ds,h=>by
  simp only[EF,Aa,Rr]at h;obtain⟨_,_,⟨rfl,rfl⟩,A6,AA⟩:=h;simp only[EF,RC];by_cases q:k=Bf
  .rw[if_pos q,if_pos q];exact .cons B8 (Yx B8 AA)
  .rw[if_neg q,if_neg q];exact .cons A6 (Yx B8 AA)
def aeE(i:Nat){x:Str}{Cm pos':Pos}{k v:AT}{mk mv:Ab}(BR:X.A.units+64<DX)(AF:B2 X F k mk)(Bc:B2 X F v mv)(hN:X.N[i]?=some x:=by rfl)(RT:G_ X.env.scope x:=by first|exact Dq rfl|exact Cr (Dq rfl)|exact Cr (Cr rfl))(hd:(x==("__debug__" :Str))=false:=by decide)(DQ:(x==("__classdict__" :Str))=false:=by decide):Er X F (.Assign [.Subscript (.Name x Cm) k pos'] v pos) (Hc i mk mv):=⟨by
 have AF:=AF.1;have Bc:=Bc.1;refine DH.imp (lS (by lia) (IA hN RT hd DQ) AF Bc (nS _ _ _ _ _ _)) ?_;rintro CY σ H ⟨G,ρ,r,h⟩;unfold Hc at h;refine⟨G,ρ,r,?_⟩;refine rb h λPp B0 h v H1 Af AL s1 B8=>?_
 split at h
 .rename_i ks ds CU;obtain⟨q,ho,A9,_⟩:=AL.obj CU;refine⟨.ref q,A9,Af,ρ,AL,?_⟩;refine rb h λN6 BV h y Az Cz B7 s2 Cs=>?_;obtain⟨Gj,F9,Ek,A6,AA,B4,xs,rfl,rfl,al⟩:=B7.obj CU;rw[A9]at Ek;cases Ek
  split at h
  .rename_i Bf Dc;unfold putD at h
   split at h
   .rename_i AK;obtain⟨JU,F1⟩:=AK;obtain⟨Sx,rfl,UZ⟩:=PN Dc Cs;have AV:FQ xs Bf=none:=by
     have:=Vj Bf xs;rw[JU]at this;exact Option.not_isSome_iff_eq_none.mp (by rw[this];exact Fv)
    refine⟨q,_,rfl,Ov.t A6 (OI UZ B7.kp.sub) (L3 (by simpa using F1) (by decide)),?_⟩;rw[bO _ AV];refine h σ Cz _ (B7.SN CU A9 ⟨xs++[(Bf,v)],rfl,by simp,?_⟩) (s1.g.trans s2.g);rw[Jp];exact al.snoc (B8.mono s2.g)
   .split at h
    .rename_i AK;obtain⟨JU,F1⟩:=AK;obtain⟨Sx,rfl,UZ⟩:=PN Dc Cs;refine⟨q,_,rfl,Ov.t A6 (OI UZ B7.kp.sub) (L3 (by simpa using F1) (by decide)),?_⟩;have BY:putK xs Bf v=xs.map (λD2=>if D2.1=Bf then(D2.1,v)else D2):=by
      unfold putK;rw[Og]at JU;exact if_pos JU
     rw[BY];refine h σ Cz _ (B7.SN CU A9 ⟨_,rfl,?_,Yx (B8.mono s2.g) al⟩) (s1.g.trans s2.g);rw[H7];refine List.map_congr_left λD2 _=>?_;show(if D2.1=Bf then(D2.1,v)else D2).1=D2.1
     split<;>rfl
    .exact h.elim
  .exact h.elim
 .exact h.elim⟩
def aeS(h:B2 X F e m):Er X F (.Return (some e) pos) (La m):=⟨by
 have h:=h.1;refine DH.imp (W0 h) ?_;rintro CY σ H ⟨G,ρ,r,h⟩;unfold La at h;refine⟨_,_,r.plus,?_⟩;cases B0:m (EI ρ)with
 |bad=>rw[B0]at h;cases h
 |exc c=>rw[B0]at h;exact h
 |ok d=>rw[B0,R.EV]at h;exact λv H' G' BS s' a=>h v G' H' BS.kp a⟩
def aeA{st:Bb}:Er X F st bZ:=⟨DH.imp lU λCY σ H⟨G,ρ,r,h⟩=>h.elim⟩
def adw(h:B2 X F e m):B2 X F e (Ra m):=⟨have h:=h.1;Ax.imp h uV⟩
def adK{Ae:Str}{n k:Nat}{Ba:List D->R (List Str×List D)}(c:eO X.prog X.w X.K X.mg X.base Ae n k Ba)(B3:Ch (k+1) X.A)(AB:G8 X F (e::A5) ma)(Am:F.K=X.K:=by rfl)(Ad:EG X Ae:=by rfl)(Gq:(Ae==("__debug__" :Str))=false:=by decide)(he:BI (e::A5) X.env=(false,BN e X.env)::BI A5 X.env:=by rfl)(Dv:(DC pos (BI A5 X.env)).any (·.1)=false:=by rfl):B2 X F (.Call (.Name Ae p) (e::A5) [] pos) (Rd Ae n Ba ma):=⟨by
 have AB:=AB.1;obtain⟨C,f,fd,Aq,BU,E3,HI,hm,A1⟩:=c.ex;refine Ax.imp (jo E3 HI B3 Ad hm A1 .nil RA AB Gq he Dv) ?_;rw[<-Am];exact vr (by rw[Am];exact BU)⟩
def aeZ(hm:X.mg "tuple"=none)(AB:G8 X F [e] ma)(Am:F.K=X.K:=by rfl)(Ad:EG X "tuple":=by rfl)(he:BI [e] X.env=(false,BN e X.env)::BI [] X.env:=by rfl)(Dv:(DC pos (BI [] X.env)).any (·.1)=false:=by rfl):B2 X F (.Call (.Name "tuple" p) [e] [] pos) (Bm RK ma):=⟨have AB:=AB.1;fQ rZ (yN Am) hm (by kernel_rfl) AB Ad (by decide) (by decide) he Dv⟩
def ad7(AB:B2 X F a m)(A1:B2 X F b n)(Am:F.K=X.K:=by rfl):B2 X F (.BinOp a .Add b pos) (A3 K0 m n):=⟨have AB:=AB.1;have A1:=A1.1;Pr (yS.or xv) (yE Am) AB A1⟩
def ad1{lo AD:Option AT}{D3:Pos}{PX Vs:Me}(AB:B2 X F a m)(AN:S8 X F lo PX)(BE:S8 X F AD Vs)(Am:F.K=X.K:=by rfl):B2 X F (.Subscript a (.Slice lo AD none D3) pos) (Fh L9 m PX Vs):=⟨have AB:=AB.1;have AN:=AN.1;have BE:=BE.1;Ax.imp (jq abE AB AN BE) (vM Am)⟩
def aen(i:Nat){x:Str}{Cm:Pos}(A1:B2 X F b m)(hN:X.N[i]?=some x:=by rfl)(Bc:G_ X.env.scope x:=by first|exact Dq rfl|exact Cr (Dq rfl)|exact Cr (Cr rfl))(hd:(x==("__debug__" :Str))=false:=by decide)(DQ:(x==("__classdict__" :Str))=false:=by decide):KU X F (.BinOp (.Name x Cm) .Add b pos) (UR i m):=⟨by
 have A1:=A1.1;refine Ax.imp (bJ bD (IA hN Bc hd DQ) A1) ?_;rintro σ H Q ⟨G,ρ,r,h⟩;unfold UR ownAt at h;cases CU:ρ[i]? with
 |none=>rw[CU]at h;cases h
 |some s=>
  rw[CU]at h;cases s with
  |un=>cases h
  |J _=>cases h
  |Ef _=>cases h
  |BX _ _=>cases h
  |ob ob=>
   cases ob with
   |Ai _ _=>cases h
   |ins _ _ _=>cases h
   |lst ds=>
    obtain⟨q,xs,A9,A6,AA,B4,BJ⟩:=r.own CU;rw[R.EV]at h;refine⟨.ref q,A9,G,ρ,r,?_⟩;refine rb h λd B0 h v H1 Af AL s1 B8=>?_;obtain⟨Gj,Gl,Ek,Ig,Nf,PE,Go⟩:=AL.own CU;rw[A9]at Ek;cases Ek;cases d with
    |lst A5=>
     simp only at h
     split at h
     .rename_i AN;simp only[At]at B8;obtain⟨D3,ys,rfl,g2,BF⟩:=B8;refine⟨q,D3,Gl,ys,rfl,rfl,Ig,AL.kp.sub _ _ g2,by rw[<-Go.length,<-BF.length];exact FT AN (by decide),λl AV=>?_⟩;exact h l (Gl++ys) _ Af (AL.lay0 AV) (s1.trans (C6.lay0 AV)) (s1.h.gone AV) Dz (AL.kp.sub.gone AV) (Go.append BF)
     .exact h.elim
    |_=>exact h.elim⟩
structure XW(X:Ac)(F:B9)(st:Bb)(m:JA):Prop where
 o:DH X st (OG F m)
structure XV(X:Ac)(F:B9)(st:List Bb)(m:JA):Prop where
 o:GO X st (OG F m)
def aej{m:JA}(h:XW X F st m):XV X F [st] m:=⟨bN h.1⟩
def aeg{a b:JA}(h:XW X F st a)(k:XV X F RF b):XV X F (st::RF) (Mp a b):=⟨GO.imp (lV h.1 k.1) vO⟩
def aei{c:AT}{r:Bb}{k:CN}(h:Fm X F c k):XW X F (.If c [r] [] pos) (PU k):=⟨DH.imp (lT h.1 (bN lU) lW) vj⟩
def aeh{Ae f x:Str}{Ap:List Str}{Cm pos':Pos}(k:Mm X.K Ae Ap)(he:B2 X F e m)(hf:f∈Ap:=by decide+kernel)(hN:X.N[0]?=some x:=by rfl)(Bc:G_ X.env.scope x:=by first|exact Dq rfl|exact Cr (Dq rfl)|exact Cr (Cr rfl))(hd:(x==("__debug__" :Str))=false:=by decide)(DQ:(x==("__classdict__" :Str))=false:=by decide)(AJ:Pa e=true:=by rfl)(Am:F.K=X.K:=by rfl) :
  XW X F (.Assign [.Attribute (.Name x Cm) f pos'] e pos) (Kh Ae f m):=⟨CT.aa1 k he.1 hf hN Bc hd DQ AJ Am⟩
end
structure Nl(K:A_)(Ae x qual:Str)(st:Bb)(Aq:List Str):Prop where
 ex:∃(C f:A7)(fd:G5),Fx K Ae C/\J6 K C/\Meth K C x f/\Mb K x qual st f fd/\Binds K fd Aq []
structure InK(K:A_)(mg:Str->Option A8)(Ae qual:Str)(st:Bb)(Aq:List Str):Prop where
 ex:∃(C f:A7)(fd:G5),Fx K Ae C/\U8 K C f/\Mb K "__init__" qual st f fd/\mg Ae=some (.ref C)/\Binds K fd Aq []
def Zg{P:C2}{w:Bh}{K:A_}{mg:Str->Option A8}{base:BP}{x qual Ae FH:Str}{st:Bb}{N Aq:List Str}{k:Nat}{m:Ao}(d:Nl K Ae x qual st (FH::Aq))(S:Cg N (FH::Aq) (Bv st))(h:∀(f:A7)(CJ:A8)(A:CR)(outer:List Env)(s:AQ)(H:AC)(E:DP),Ch k (A.deeper (NL qual (Bv st) s.heap.objs.size f CJ))->∀G0 H0,Jy (JR Gs P w K mg base N qual (Bv st) f CJ A outer s H E).Kp (Ge K G0 H0) (GR st) m) :
  P0 P w K mg base Ae x Aq.length (k+1) (DS N.length m):=by
 obtain⟨C,f,fd,A6,AA,B4,BJ,Es⟩:=d.ex;exact xK BJ A6 AA B4 Es S h
def aed{P:C2}{w:Bh}{K:A_}{mg:Str->Option A8}{base:BP}{qual Ae FH:Str}{st:Bb}{Aq:List Str}{k:Nat}{m:JA}(d:InK K mg Ae qual st (FH::Aq))(S:Cg (FH::Aq) (FH::Aq) (Bv st))(h:∀(f:A7)(CJ:A8)(A:CR)(outer:List Env)(s:AQ)(H:AC)(E:DP),Ch k (A.deeper (NL qual (Bv st) s.heap.objs.size f CJ))->∀G0 H0,XV (JR Gs P w K mg base (FH::Aq) qual (Bv st) f CJ A outer s H E).Kp (Ge K G0 H0) (GR st) m) :
  eO P w K mg base Ae Aq.length (k+1) (λA5=>outI Ae (m (Ke Ae A5))):=by
 obtain⟨C,f,fd,A6,AA,B4,BJ,Es⟩:=d.ex;exact⟨C,f,fd,FH::Aq,A6,AA,w0 B4 S λf CJ A outer s H E B3 G0 H0=>(h f CJ A outer s H E B3 G0 H0).1,BJ,Es⟩
end CT
namespace CT
open PySem PySem.Spec C1 PyProof.Rows
section
variable{K:A_}{G G' H H':AC}
def Bt.nil:Bt K G H [] []:=by simp only[Bt]
def Bt.cons{t:T}{Av:List T}{v:V}{vs:List V}(h:Cb K G H t v)(k:Bt K G H Av vs):Bt K G H (t::Av) (v::vs):=by simp only[Bt];exact⟨v,vs,rfl,h,k⟩
theorem Bt.length:∀{Av:List T}{vs:List V},Bt K G H Av vs->Av.length=vs.length
 |[],_,h=>by simp only[Bt]at h;subst h;rfl
 |_::_,_,h=>by simp only[Bt]at h;obtain⟨v,r,rfl,_,t⟩:=h;simp[Bt.length t]
theorem og:∀{Av:List T}{vs:List V}{i:Nat}{t:T},Bt K G H Av vs->Av[i]?=some t->∃v,vs[i]?=some v/\Cb K G H t v
 |[],_,_,_,_,e=>by simp at e
 |_::_,_,0,_,h,e=>by simp only[Bt]at h;obtain⟨v,r,rfl,q,t⟩:=h;simp at e;subst e;exact⟨v,by simp,q⟩
 |_::_,_,i+1,d,h,e=>by simp only[Bt]at h;obtain⟨v,r,rfl,q,t⟩:=h;obtain⟨u,A6,AA⟩:=og (i:=i) (t:=d) t (by simpa using e);exact⟨u,by simpa using A6,AA⟩
theorem Bt.append:∀{Av us:List T}{vs ws:List V},Bt K G H Av vs->Bt K G H us ws->Bt K G H (Av++us) (vs++ws)/\E8 H (Av++us) (vs++ws)=E8 H Av vs++E8 H us ws
 |[],_,_,_,h,t=>by simp only[Bt]at h;subst h;exact⟨t,by rw[TB];rfl⟩
 |_::_,_,_,_,h,t=>by simp only[Bt]at h;obtain⟨v,r,rfl,q,s⟩:=h;obtain⟨A6,AA⟩:=Bt.append s t;exact⟨.cons q A6,by rw[List.cons_append,List.cons_append,HZ,HZ,AA,Ru]⟩
theorem aP:∀{Av:List T}{xs:List V}{k:Nat}{t:T}{v:V}{b:A7},Av[k]?=some t->xs[k]?=some v->b∈Ak H t v->b∈E8 H Av xs
 |[],_,_,_,_,_,e,_,_=>by simp at e
 |_::_,[],_,_,_,_,_,e,_=>by simp at e
 |_::_,_::_,0,_,_,_,A9,AM,h=>by simp at A9 AM;subst A9 AM;rw[HZ];exact Fu _ h
 |_::_,_::_,k+1,_,_,_,A9,AM,h=>by rw[HZ];exact Ft _ (aP (by simpa using A9) (by simpa using AM) h)
end
section
variable{F:B9}{G H:AC}{σ :C1.St}{ρ:AG}
end
section
variable{X:Ac}{F:B9}{e a b c B_ iter elt:AT}{A5:List AT}{pos p:Pos}{m n:Ab}{ma:Au}
end
end CT
namespace CT
open PySem PySem.Spec C1
section
variable{F:B9}
end
section
variable{X:Ac}{F:B9}{e a b c B_ iter elt:AT}{A5:List AT}{pos p:Pos}{m n:Ab}{ma:Au}{scope:E6}{N:List Str}
end
noncomputable def Q9(c:CN)(b:Ao):Nat->AG->R Fk
 |0,_=>.bad
 |n+1,ρ=>(c ρ).bind λk=>if k=true then(b ρ).bind λf=>match f with
  |.Ay BL=>Q9 c b n BL
  |.Dr BL=>Q9 c b n BL
  |.Fn BL=>.ok (.Ay BL)
  |f=>.ok f
  else .ok (.Ay ρ)
def Jf(c:CN)(b:Ao):Ao:=Q9 c b 1000
section
variable{F:B9}
def vT{c:CN}{b:Ao}:IL (Fj F (Jf c b)) (oZ (H5 F c) (Fj F b)):=by
 rintro CY σ H ⟨G,ρ,r,h⟩;refine⟨λm σ2 Az=>∃Cz En,Rel F Cz Az σ2 En/\Sub G Cz/\HL F Cz CY (Q9 c b m En),⟨1000,G,ρ,r,Sub.refl _,h⟩,?_⟩;rintro m σ2 Az ⟨Cz,En,B7,s2,C3⟩;refine⟨Cz,En,B7,?_⟩;cases m with
 |zero=>cases C3
 |succ n=>
  simp only[Q9]at C3;refine rb C3 λk ec C3 D0 GY Dy My=>?_;cases k with
  |false=>rw[if_neg Fv]at C3 |-;exact C3 σ2 GY D0 Dy My.g
  |true=>
   rw[if_pos rfl]at C3 |-;refine⟨λσ4 HA=>∃U1 JN,Rel F U1 HA σ4 JN/\Sub G U1/\HL F U1 CY (Q9 c b n JN),λσ4 HA q=>⟨n,dU _,q⟩,GY,En,Dy,?_⟩;refine rb C3 λf BV C3=>?_;cases f with
   |Ay Nx=>exact λσ7 MF GZ Jl DO=>⟨MF,Nx,Jl,s2.trans (My.g.trans DO),HL.mono (My.g.trans DO) C3⟩
   |Dr Nx=>exact λσ7 MF GZ Jl DO=>⟨MF,Nx,Jl,s2.trans (My.g.trans DO),HL.mono (My.g.trans DO) C3⟩
   |Fn Nx=>exact λσ7 MF GZ Jl DO=>C3 σ7 MF GZ Jl (My.g.trans DO)
   |ES d=>exact C3
   |JG ds=>exact C3
   |L8 t=>exact C3
   |rs t _=>exact C3
end
section
variable{X:Ac}{F:B9}{e a b c o:AT}{A5:List AT}{pos p:Pos}{m n:Ab}{ma:Au}
def ae1{body:List Bb}{ZI:CN}{Gr:Ao}(AZ:PassesOwn (BG X.prog X.w) X.A X.env X.xe)(AK:Fm X F c ZI)(A1:Jy X F body Gr):Er X F (.While c body [] pos) (Jf ZI Gr):=⟨DH.imp (z6 AZ AK.1 A1.1) vT⟩
def findD(ks:List Bj)(ds:List D)(Bf:Bj):Option D:=((ks.zip ds).find? λp=>decide (p.1=Bf)).map (·.2)
theorem YO{K:A_}{G:AC}(Bf:Bj):∀{ds:List D}{xs:List (Bj×V)},Aa K G ds (xs.map (·.2))->match findD (xs.map (·.1)) ds Bf with
  |some d=>∃v,FQ xs Bf=some v/\At K G d v
  |none=>FQ xs Bf=none
 |[],xs,h=>by
  simp only[Aa]at h;have:xs=[]:=by simpa using h
  subst this;rfl
 |d::ds,[],h=>by simp only[Aa,NS]at h;obtain⟨v,r,e,_⟩:=h;cases e
 |d::ds,(k,v)::xs,h=>by
  simp only[Aa,EF]at h;obtain⟨N0,r,e,a,t⟩:=h;cases e;have CA:=YO (K:=K) (G:=G) Bf (ds:=ds) (xs:=xs) t;unfold findD FQ at CA |-;simp only[EF,Od,HP];by_cases AF:k=Bf
  .simp only[AF,decide_true,Wa];exact⟨v,rfl,a⟩
  .simp only[AF,decide_false];exact CA
def US(m n:Ab):Ab:=λρ=>(m ρ).bind λd=>match d with
 |.Ai ks ds=>(n ρ).bind λk=>match I4 k with
  |some Bf=>.ok ((findD ks ds Bf).getD .non)
  |none=>.bad
 |_=>.bad
def u4:Ec (Cv F (US m n)) (n6 (Cv F m) (Cv F n)):=by
 rintro σ H Q ⟨G,ρ,r,h⟩;unfold US at h;refine⟨G,ρ,r,?_⟩;refine rb h λDI B0 h x H1 Af AL s1 Bu=>?_;cases DI with
 |Ai ks ds=>
  simp only at h;simp only[At]at Bu;obtain⟨a,xs,rfl,Ad,rfl,al⟩:=Bu;refine⟨a,rfl,.inr ⟨xs,.inl (AL.kp.sub _ _ Ad)⟩,Af,ρ,AL,?_⟩;refine rb h λN6 BV h y Az Cz B7 s2 Cs=>?_;cases Dc:I4 N6 with
  |none=>rw[Dc]at h;cases h
  |some Bf=>
   rw[Dc]at h;simp only at h;obtain⟨q,rfl,AW⟩:=PN Dc Cs;refine⟨FQ xs Bf,IY.t (B7.kp.sub _ _ (s2.g _ _ Ad)) (OI AW B7.kp.sub),?_⟩;have f:=YO (K:=F.K) (G:=Af) Bf al;cases DJ:findD (xs.map (·.1)) ds Bf with
   |none=>rw[DJ]at f h;rw[show FQ xs Bf=none from f];exact h .non Az Cz B7 (s1.trans s2) (by simp only[dX,At])
   |some d=>rw[DJ]at f h;obtain⟨v,ev,B8⟩:=f;rw[ev];exact h v Az Cz B7 (s1.trans s2) (B8.mono s2.g)
 |_=>cases h
def ad9 {apos Bs:Pos} (BR:X.A.units+64<DX) (ho:B2 X F o m) (he:B2 X F e n) (A6:IF o "get" X.env (BN o X.env)=BN o X.env:=by rfl)(AA:((DC Bs (BI [e] X.env)).all (λx=>!x.1)&&(H9 Bs (H8 [] X.env)).all (λx=>x.1.isSome)
  &&decide (([e]:List AT).length+([]:List Fg).length+(if([]:List Fg).isEmpty then 0 else 1)<30))=true:=by rfl) (B4:(apos.endLine==Bs.line)=true:=by rfl) (BJ:DC Bs (BI [e] X.env)=[(false,BN e X.env)]:=by rfl) :
  B2 X F (.Call (.Attribute o "get" apos) [e] [] Bs) (US m n):=⟨Ax.imp (zp (by lia) ho.1 he.1 ⟨A6,AA,B4,BJ⟩) u4⟩
def HX(d k:D):R D:=match d with
 |.Ai ks ds=>match I4 k with
  |some Bf=>match findD ks ds Bf with
   |some v=>.ok v
   |none=>.bad
  |none=>.bad
 |_=>.bad
def u5:Ec (Cv F (A3 HX m n)) (n5 (Cv F m) (Cv F n)):=by
 rintro σ H Q ⟨G,ρ,r,h⟩;unfold A3 at h;refine⟨G,ρ,r,?_⟩;refine rb h λDI B0 h x H1 Af AL s1 Bu=>?_;refine⟨Af,ρ,AL,?_⟩;refine rb h λN6 BV h y Az Cz B7 s2 Cs=>?_;unfold HX at h
 split at h
 .rename_i ks ds
  split at h
  .rename_i Bf Dc;simp only[At]at Bu;obtain⟨a,xs,rfl,Ad,rfl,al⟩:=Bu;obtain⟨q,rfl,AW⟩:=PN Dc Cs;have f:=YO (K:=F.K) (G:=Af) Bf al
   split at h
   .rename_i d DJ;rw[DJ]at f;obtain⟨v,ev,B8⟩:=f;refine⟨a,v,rfl,?_,h v Az Cz B7 (s1.trans s2) (B8.mono s2.g)⟩;rw[<-ev];exact IY.t (B7.kp.sub _ _ (s2.g _ _ Ad)) (OI AW B7.kp.sub)
   .exact h.elim
  .exact h.elim
 .exact h.elim
def adB(BR:X.A.units+64<DX)(ho:B2 X F o m)(he:B2 X F e n)(AJ:Wt e):B2 X F (.Subscript o e pos) (A3 HX m n):=⟨Ax.imp (kJ (by lia) ho.1 he.1 AJ) u5⟩
end
section
variable{K:A_}{G0 H0:AC}{E:DP}
end
section
variable{X:Ac}{e c:AT}{A5:List AT}{st:Bb}{pos p:Pos}{K:A_}{G0 H0:AC}{E:DP}{mt:CN}{ms:Ao}{ma:Au}
end
section
variable{P:C2}{w:Bh}{K:A_}{mg:Str->Option A8}{base:BP}{N:List Str}{qual:Str}{scope:E6}{f:A7}{cd:A8}{A:CR}{outer:List Env}{s0:AQ}{SI:AC}{E:DP}{G0 H0:AC}
end
section
variable{X:Ac}{F:B9}{e:AT}{A5:List AT}{pos p:Pos}{ma:Au}
end
end CT
namespace C1
open PySem PySem.Spec PySem.Calls PyProof.Rows PySem.W PySem.Builtin PySem.Builtin.ObjectAttr PySem.Builtin.Getset_descriptor
section
variable{prog:C2}{w:Bh}{A:CR}{E:A8->AQ->Prop}{s:AQ}{K:Frag}{a D:A7}
end
end C1
namespace CT
open PySem PySem.Spec C1
section
variable{X:Ac}{F:B9}{a:AT}{pos p:Pos}{m:Ab}
end
def PA:D->D->R D
 |.lst xs,.int k=>if 0<=k/\k<=1000/\xs.length<=100 then .ok (.lst (G4 k.toNat xs).flatten)else .bad
 |_,_=>.bad
theorem Aa.rep{K:A_}{G:AC}{ds:List D}{xs:List V}(q:Aa K G ds xs):∀n:Nat,Aa K G (G4 n ds).flatten (G4 n xs).flatten
 |0=>by simpa using Aa.nil
 |n+1=>by rw[QB,QB,QI,QI];exact q.append (Aa.rep q n)
section
variable{X:Ac}{F:B9}{a b:AT}{pos p:Pos}{m n:Ab}
def yJ:HU F l1 PA:=by
 intro σ ρ G H x y Ag Gc Q r Bu Cs k;unfold PA at k
 split at k
 .rename_i xs j
  split at k
  .rename_i AK;simp only[At]at Bu Cs;obtain⟨l,vs,rfl,AN,al⟩:=Bu;refine⟨l,j,vs,rfl,Cs,r.kp.sub _ _ AN,by lia,by lia,?_,λq AW=>?_⟩
   .rw[<-al.length];have A6:j.toNat<=1000:=by lia
    exact FT (Nat.mul_le_mul AK.2.2 A6) (by decide)
   .refine k (.ref q) _ _ (r.lay AW) (C6.lay r.kp.sub AW) ?_;simp only[At];exact⟨q,_,rfl,Dz,(al.mono (Sub.upd (r.kp.sub.gone AW))).rep j.toNat⟩
  .exact k.elim
 .exact k.elim
def acz(AB:B2 X F a m)(A1:B2 X F b n):B2 X F (.BinOp a .Mult b pos) (A3 PA m n):=⟨Pr y4 yJ AB.1 A1.1⟩
def za{i:Nat}{ρ:AG}{ds:List D}(h:ownAt i ρ=.ok ds):ρ[i]?=some (.Bw ds):=by
 unfold ownAt at h
 split at h
 .rename_i e;cases h;exact e
 .cases h
def z_{i:Nat}{ρ:AG}{c:Str}(h:ownAt i ρ=.exc c):False:=by
 unfold ownAt at h
 split at h<;>cases h
end
end CT
namespace Wm
open PySem PySem.SetTable
structure Tab(t:SetTable)(n:Nat):Prop where
 afo:t.dummies= #[]
 agO:t.place.size=n
 aaH:t.place.toList.Pairwise (· <·)
 le:∀j∈t.place.toList,j<=t.mask
section
variable{α:Type}
def U0(t:SetTable)(A5:Array (Int×α))(j:Nat)(e:Int×α):Prop:=∃i:Nat,t.place.toList[i]?=some j/\A5.toList[i]?=some e
def yx{t:SetTable}{n:Nat}(T:Tab t n){i k j:Nat}(a:t.place.toList[i]?=some j)(b:t.place.toList[k]?=some j):i=k:=by
 obtain⟨a1,a2⟩:=List.getElem?_eq_some_iff.mp a;obtain⟨GQ,G9⟩:=List.getElem?_eq_some_iff.mp b;have r:=List.pairwise_iff_getElem.mp T.aaH;rcases Nat.lt_trichotomy i k with h|h|h
 .have:=r i k a1 GQ h;lia
 .exact h
 .have:=r k i GQ a1 h;lia
def U0.inj{t:SetTable}{A5:Array (Int×α)}{n:Nat}(T:Tab t n){j:Nat}{e Bp:Int×α}(a:U0 t A5 j e)(b:U0 t A5 j Bp):e=Bp:=by obtain⟨i,a1,a2⟩:=a;obtain⟨k,GQ,G9⟩:=b;have:=yx T a1 GQ;subst this;rw[a2]at G9;exact Eh G9
end
section
variable{α:Type}
end
section
variable{prog:C2}{w:Bh}{A:CR}{E:A8->AQ->Prop}{s:AQ}{K:Type}[DecidableEq K]{knd:KeyKind prog w K}
end
section
variable{prog:C2}{w:Bh}{A:CR}{E:A8->AQ->Prop}{s:AQ}{K:Type}[DecidableEq K]{knd:KeyKind prog w K}
theorem U0.place{t:SetTable}{A5:Array (Int×A8)}{j:Nat}{e:Int×A8}(q:U0 t A5 j e):j∈t.place.toList:=by obtain⟨i,q,_⟩:=q;exact KD q
end
section
variable{prog:C2}{w:Bh}{A:CR}{E:A8->AQ->Prop}{s:AQ}{K:Type}[DecidableEq K]{knd:KeyKind prog w K}
end
end Wm
namespace Wm
open PySem PySem.Spec PyProof.Rows
section
variable{prog:C2}{w:Bh}{K:Type}[DecidableEq K]{knd:dd prog w K}
def rB(S:List (List K))(ks:List K):List (List K):=if ks∈S then S else S++[ks]
def rC(keys:List (List K)):List (List K):=keys.foldl rB []
section
variable{A:CR}{R:Result->AQ->Prop}{I:A7}{Ak wr:List A7}{G:Array GenState->Array GenState->Prop}{n:Nat}{P:Nat->A8->Prop}{St:Nat->AQ->Prop}
end
end
section
variable{prog:C2}{w:Bh}{A:CR}{E:A8->AQ->Prop}{s:AQ}{K:Type}[DecidableEq K]{knd:dd prog w K}
end
end Wm
namespace LT
open PySem PyProof.Rows
section
variable{prog:C2}{w:Bh}{A:CR}{E:A8->AQ->Prop}{s:AQ}{qC:Array Keyed}{DW:KeyKind}{Sd:SortKind}
end
section
variable{prog:C2}{w:Bh}{A:CR}{E:A8->AQ->Prop}{s:AQ}
structure eM(prog:C2)(w:Bh)(h:BP)(v:A8)(k:Int×Int×Int):Prop where
 ex:∃a o m b t,v=.ref a/\h.get? a=some o/\o.cls=.type "tuple"/\o.data=.seq #[.int k.1 t,.ref b] m/\IsTupleKey (intKind prog w) h [k.2.1,k.2.2] b
theorem eM.inj{h:BP}{v:A8}{k k':Int×Int×Int}(x:eM prog w h v k)(y:eM prog w h v k'):k=k':=by obtain⟨a,o,m,b,t,rfl,ho,AK,hd,A1⟩:=x.ex;obtain⟨Ph,o',Et,Pk,t',e,F9,LU,Il,UY⟩:=y.ex;cases e;rw[ho]at F9;cases F9;rw[hd]at Il;simp at Il;obtain⟨⟨⟨A9,_⟩,rfl⟩,_⟩:=Il;have AM:=A1.inj UY;simp at AM;obtain⟨Cn,C3,Fp⟩:=k;obtain⟨wl,wm,wn⟩:=k';simp at A9 AM |-;exact⟨A9,AM⟩
end
section
variable{prog:C2}{w:Bh}{A:CR}{E:A8->AQ->Prop}{s:AQ}
end
section
variable{prog:C2}{w:Bh}{A:CR}{E:A8->AQ->Prop}{s:AQ}
end
end LT
namespace C1
open PySem PySem.Spec PyProof.Rows
section
variable{X:Ac}
def eN(H:AC)(y:V)(k:Int×Int×Int):Prop:=∃a b,y=.ref a/\H a=some (.tup [.int k.1,.ref b])/\H b=some (.tup [.int k.2.1,.int k.2.2])
def eN.inj{H:AC}{y:V}{k k':Int×Int×Int}(x:eN H y k)(z:eN H y k'):k=k':=by obtain⟨a,b,rfl,AB,A1⟩:=x;obtain⟨Ph,Pk,e,Ng,UY⟩:=z;cases e;rw[AB]at Ng;simp only[WQ,Du.tup.injEq,Rr,V.int.injEq,V.ref.injEq,and_true]at Ng;obtain⟨A9,rfl⟩:=Ng;rw[A1]at UY;simp only[WQ,Du.tup.injEq,Rr,V.int.injEq,and_true]at UY;obtain⟨Cn,C3,Fp⟩:=k;obtain⟨wl,wm,wn⟩:=k';simp only[Prod.mk.injEq];exact⟨A9,UY⟩
theorem oB{DW:Type}{R:V->DW->Prop}:∀{vs:List A8}{ks:List DW},vs.length=ks.length->(∀(i:Nat) v k,vs[i]?=some v->ks[i]?=some k->∃z,RelV z v/\R z k)->∃zs,Vals zs vs/\zs.length=vs.length/\∀(i:Nat) z k,zs[i]?=some z->ks[i]?=some k->R z k
 |[],_,_,_=>⟨[],.nil,rfl,λi z k e=>by simp at e⟩
 |v::vs,[],h,_=>by simp at h
 |v::vs,k::ks,h,g=>by
  obtain⟨z,DZ,Dh⟩:=g 0 v k rfl rfl;obtain⟨zs,Fe,F3,JM⟩:=oB (vs:=vs) (ks:=ks) (by simpa using h) λi v k A9 AM=>g (i+1) v k (by simpa using A9) (by simpa using AM);refine⟨z::zs,.cons DZ Fe,by simp[F3],λi G3 k' A9 AM=>?_⟩;cases i with
  |zero=>simp at A9 AM;subst A9 AM;exact Dh
  |succ i=>exact JM i G3 k' (by simpa using A9) (by simpa using AM)
end
end C1
namespace CT
open PySem PySem.Spec C1 PyProof.Rows
section
variable{X:Ac}{F:B9}{e a b c:AT}{A5:List AT}{pos p:Pos}{m n:Ab}{ma:Au}
def x1:D->Option Key
 |.int i=>some (.inl i)
 |.str x=>some (.inr x)
 |_=>none
def keysOf:List D->Option (List Key)
 |[]=>some []
 |d::ds=>match x1 d,keysOf ds with
  |some k,some ks=>some (k::ks)
  |_,_=>none
def ac8:D->Option (List Key)
 |.tup ds=>keysOf ds
 |_=>none
def ou:List D->Option (List (List Key))
 |[]=>some []
 |d::ds=>match ac8 d,ou ds with
  |some k,some ks=>some (k::ks)
  |_,_=>none
def agp:List D->R D
 |[.lst ds]=>if ds.length<77 then match ou ds with
  |some ks=>.ok (.int (Wm.rC ks).length)
  |none=>.bad
  else .bad
 |_=>.bad
def Si(i:Nat)(m:Ab):HB:=λρ=>(ownAt i ρ).bind λds=>(m ρ).bind λd=>match d with
 |.lst A5=>if ds.length+A5.length<=1000000 then .ok (.non,ρ.set i (.Bw (ds++A5)))else .bad
 |_=>.bad
def ah6 (i:Nat) {x:Str} {Cm:Pos} {apos:Pos} {Bs:Pos} (he:B2 X F e m) (hN:X.N[i]?=some x:=by rfl) (Bc:G_ X.env.scope x:=by first|exact Dq rfl|exact Cr (Dq rfl)|exact Cr (Cr rfl)) (hd:(x==("__debug__" :Str))=false:=by decide) (DQ:(x==("__classdict__" :Str))=false:=by decide)(MQ:IF (.Name x Cm) "extend" X.env (BN (.Name x Cm) X.env)=BN (.Name x Cm) X.env:=by rfl) (Lq:(apos.endLine==Bs.line)=true:=by rfl)(Lp:((DC Bs (BI [e] X.env)).all (λx=>!x.1)&&(H9 Bs (H8 [] X.env)).all (λx=>x.1.isSome)
    &&decide (([e]:List AT).length+([]:List Fg).length+(if([]:List Fg).isEmpty then 0 else 1)<30))=true:=by rfl)
  (AJ:BI [e] X.env=(false,BN e X.env)::BI [] X.env:=by rfl) (Ls:(DC Bs (BI [] X.env)).any (·.1)=false:=by rfl) :
  Pf X F (.Call (.Attribute (.Name x Cm) "extend" apos) [e] [] Bs) (Si i m):=by
 refine⟨Ax.imp (Vy Tg pF pG ka (IA hN Bc hd DQ) (P7 he.1 R9 AJ) MQ Lp Lq AJ Ls) ?_⟩;rintro σ H Q ⟨G,ρ,r,h⟩;unfold Si ownAt at h;cases CU:ρ[i]? with
 |none=>rw[CU]at h;cases h
 |some s=>
  rw[CU]at h;cases s with
  |un=>cases h
  |J _=>cases h
  |Ef _=>cases h
  |BX _ _=>cases h
  |ob ob=>
   cases ob with
   |Ai _ _=>cases h
   |ins _ _ _=>cases h
   |lst ds=>
    obtain⟨q,xs,A9,A6,AA,B4,BJ⟩:=r.own CU;rw[R.EV]at h;refine⟨.ref q,A9,.inl ⟨rfl,xs,C9.of A6⟩,G,ρ,r,?_⟩;refine rb h λd B0 h v H1 Af AL s1 B8=>?_;obtain⟨Gj,Gl,Ek,Ig,Nf,PE,Go⟩:=AL.own CU;rw[A9]at Ek;cases Ek;cases d with
    |lst A5=>
     simp only at h
     split at h
     .rename_i AN;simp only[At]at B8;obtain⟨D3,ys,rfl,g2,BF⟩:=B8;refine⟨q,D3,Gl,ys,rfl,rfl,Ig,AL.kp.sub _ _ g2,by rw[<-Go.length,<-BF.length,QM];lia,?_⟩;exact h .non _ Af (AL.mut CU A9 (Go.append BF)) s1.g (by simp only[At])
     .exact h.elim
    |_=>cases h
def Kg(m n:Ab):Au:=λρ=>(m ρ).bind λc=>(n ρ).bind λd=>match c,d with
 |.lst ds,.lst A5=>if ds.length+A5.length<=1000000 then .ok (ds++A5)else .bad
 |_,_=>.bad
def aem(AB:B2 X F a m)(A1:B2 X F b n):KU X F (.BinOp a .Add b pos) (Kg m n):=by
 refine⟨Ax.imp (bJ bD AB.1 A1.1) ?_⟩;rintro σ H Q ⟨G,ρ,r,h⟩;unfold Kg at h;refine⟨G,ρ,r,?_⟩;refine rb h λc B0 h u H1 Af AL s1 KW=>?_;refine⟨Af,ρ,AL,?_⟩;refine rb h λd BV h v Az Cz B7 s2 B8=>?_
 split at h
 .split at h
  .rename_i AN;simp only[At]at KW B8;obtain⟨EB,xs,rfl,g1,An⟩:=KW;obtain⟨D3,ys,rfl,g2,BF⟩:=B8;refine⟨EB,D3,xs,ys,rfl,rfl,s2.h _ _ (AL.kp.sub _ _ g1),B7.kp.sub _ _ g2,by rw[<-An.length,<-BF.length,QM];lia,λXq AV=>?_⟩;exact h Xq (xs++ys) _ Cz (B7.lay0 AV) ((s1.trans s2).trans (C6.lay0 AV)) ((s1.trans s2).h.gone AV) Dz (B7.kp.sub.gone AV) ((An.mono s2.g).append BF)
  .exact h.elim
 .exact h.elim
theorem gS{K:A_}{G:AC}:∀{ds:List D}{xs:List V},xs.length=ds.length->(∀(i:Nat) x d,xs[i]?=some x->ds[i]?=some d->At K G d x)->Aa K G ds xs
 |[],[],_,_=>.nil
 |[],_::_,h,_=>by simp at h
 |_::_,[],h,_=>by simp at h
 |d::ds,x::xs,h,g=>.cons (g 0 x d rfl rfl) (gS (by simpa using h) λi x d A9 AM=>g (i+1) x d (by simpa using A9) (by simpa using AM))
end
section
variable{X:Ac}{F:B9}{e a b c:AT}{A5:List AT}{pos p:Pos}{m n:Ab}{ma:Au}
theorem Aa.nq{K:A_}{G:AC}:∀{ds:List D}{xs:List V}{j:Nat}{d:D}{v:V},Aa K G ds xs->At K G d v->Aa K G (ds.set j d) (xs.set j v)
 |[],_,_,_,_,h,_=>by simp only[Aa]at h;subst h;simp[Aa]
 |_::_,_,0,_,_,h,a=>by simp only[Aa]at h;obtain⟨v,r,rfl,q,t⟩:=h;exact .cons a t
 |_::_,_,j+1,_,_,h,a=>by simp only[Aa]at h;obtain⟨v,r,rfl,q,t⟩:=h;exact .cons q (Aa.nq t a)
def putN(i:Nat)(ρ:AG)(ds:List D)(v:D):Option Nat->R Fk
 |some j=>.ok (.Ay (ρ.set i (.Bw (ds.set j v))))
 |none=>.bad
def putK(i:Nat)(ρ:AG)(ds:List D)(v:D):D->R Fk
 |.int j=>putN i ρ ds v (IH ds.length j)
 |_=>.bad
def ZC(i:Nat)(mk mv:Ab):Ao:=λρ=>(mv ρ).bind λv=>(ownAt i ρ).bind λds=>(mk ρ).bind λk=>putK i ρ ds v k
def aeN (i:Nat) {x:Str} {Cm pos':Pos} {k v:AT} {mk mv:Ab} (AF:B2 X F k mk) (Bc:B2 X F v mv) (hN:X.N[i]?=some x:=by rfl) (RT:G_ X.env.scope x:=by first|exact Dq rfl|exact Cr (Dq rfl)|exact Cr (Cr rfl)) (hd:(x==("__debug__" :Str))=false:=by decide) (DQ:(x==("__classdict__" :Str))=false:=by decide)(AJ:swapsWithSole [.Subscript (.Name x Cm) k pos'] v pos.line X.env=pure false:=by rfl) (hw:swappedStores [.Subscript (.Name x Cm) k pos'] v X.env=pure none:=by rfl)(A6:(L1 [.Subscript (.Name x Cm) k pos'] X.env).map (·.2)=[KH (.Subscript (.Name x Cm) k pos') X.env]:=by rfl)(AB:∀u,KH (.Subscript (.Name x Cm) k pos') X.env u=(do
    let DA <-Jr [u] (BN (.Name x Cm) X.env)
    let GB <-Jr [u,DA] (BN k X.env)
    M_ pos'
    Jr [u,DA,GB] (setItem DA GB u)
    release [u,DA,GB] []):=by intro _;rfl) :
  Er X F (.Assign [.Subscript (.Name x Cm) k pos'] v pos) (ZC i mk mv):=by
 refine⟨DH.imp (lQ Bc.1 (zF (IA hN RT hd DQ) AF.1 set_list AB) AJ hw A6) ?_⟩;rintro CY σ H ⟨G,ρ,r,h⟩;unfold ZC at h;refine⟨G,ρ,r,?_⟩;refine rb h λd ev h u H1 Af AL s1 KW=>?_;cases CU:ownAt i ρ with
 |bad=>rw[CU]at h;cases h
 |exc c=>exact(z_ CU).elim
 |ok ds=>
  rw[CU,R.EV]at h;have DN:=za CU;obtain⟨q,xs,A9,A6,AA,B4,BJ⟩:=AL.own DN;refine⟨.ref q,A9,Af,ρ,AL,?_⟩;refine rb h λSd Dc h w Az Cz B7 s2 Nr=>?_;obtain⟨Gj,Gl,Ek,Ig,Nf,PE,Go⟩:=B7.own DN;rw[A9]at Ek;cases Ek;cases Sd with
  |int j=>
   simp only[putK]at h;simp only[At]at Nr;cases FL:IH ds.length j with
   |none=>rw[FL]at h;cases h
   |some n=>rw[FL]at h;simp only[putN]at h;refine⟨q,Gl,j,n,rfl,Nr,Ig,by rw[<-Go.length];exact FL,?_⟩;exact h _ Cz _ (B7.mut DN A9 (Go.nq (KW.mono s2.g))) (s1.trans s2).g
  |_=>cases h
end
section
variable{P:C2}{w:Bh}{K:A_}{mg:Str->Option A8}{base:BP}{N:List Str}{qual:Str}{scope:E6}{f:A7}{cd:A8}{A:CR}{outer:List Env}{s0:AQ}{SI:AC}{E:DP}{G0 H0:AC}
end
section
variable{X:Ac}{F:B9}{e:AT}{A5:List AT}{pos p:Pos}{ma:Au}
end
section
variable{X:Ac}{F:B9}{e:AT}{pos p:Pos}{m n:Ab}{ma:Au}
end
end CT
namespace C1
open PySem PySem.Spec PyProof.Rows
section
variable{X:Ac}{i j:Nat}{x n y:Str}{W:A7}{e:AT}{E5:TE}{E:DP}{pw:Bb}{acW:List Bb}{Av:FJ}{zg np AZ pos py:Pos}
end
end C1
namespace CT
open PySem PySem.Spec C1 PyProof.Rows
section
variable{X:Ac}{F:B9}{pos:Pos}
end
section
variable{X:Ac}{F:B9}{a b:AT}{pos p:Pos}{m n:Ab}{ma:Au}
end
end CT
namespace C1
open PySem PySem.Spec PyProof.Rows
section
variable{prog:C2}{w:Bh}{A:CR}{E:A8->AQ->Prop}{s:AQ}
end
section
variable{X:Ac}{pos:Pos}
end
end C1
namespace CT
open PySem PySem.Spec C1 PyProof.Rows
section
variable{X:Ac}{F:B9}{e:AT}{A5:List AT}{pos p:Pos}{m n:Ab}{ma:Au}
def vv{Ae mt:Str}{Ba:List D->R CG}{C:A7}{E:DP}(AI:F.EX=λ_ _=>False)(Gp:Fx F.K Ae C):Ec (Cv F (I7 Ae mt 0 Ba m AE)) (VY C mt (OE F.K (0+1) Ba) [] E (Cv F m) Yi):=by
 rintro σ H Q ⟨G,ρ,r,h⟩;unfold I7 at h;refine⟨G,ρ,r,?_⟩;refine rb h λd B0 h x H1 Af AL s1 Bu=>?_;cases d with
 |ins Dp ns ds=>
  simp only[Py]at h
  split at h
  .rename_i AK;obtain⟨JU,F1⟩:=AK;subst JU;have UK:=Bu;simp only[At]at Bu;obtain⟨q,Ag,xs,rfl,⟨Ju,BU,g1⟩,rfl,al⟩:=Bu;have:=BU.inj Gp;subst this;refine⟨q,Ag,xs,rfl,AL.kp.sub _ _ g1,Xs F1,?_⟩;rw[R.EV]at h;have h:J_ F G H σ ρ Q ((Ba [.ins Dp (xs.map (·.1)) ds]).bind OA):=h;show OE F.K (0+1) Ba ([V.ref q]++[]) H1 Q E;rw[Le];exact nE (xe:=λ_ _ _=>False) AI AL (.cons UK .nil) (by simp) (h.mono s1)
  .exact h.elim
 |_=>cases h
def adN {o:AT} {Ae mt:Str} {k:Nat} {Ba:List D->R CG} {pl:Sem Bool} {apos:Pos} (c:P0 X.prog X.w X.K X.mg X.base Ae mt 0 k Ba) (B3:Ch k X.A) (he:B2 X F o m) (K2:F.EX=λ_ _=>False:=by rfl) (Am:F.K=X.K:=by rfl)(Aj:BN (.Call (.Attribute o mt apos) [] [] pos) X.env=(do
    let DA <-BN o X.env
    M_ apos.atName
    let(f,first) <-Jr [DA] (Oq DA mt pl)
    QV pos f first (DC pos (BI [] X.env)) (H9 pos (H8 [] X.env))):=by rfl) :
  B2 X F (.Call (.Attribute o mt apos) [] [] pos) (I7 Ae mt 0 Ba m AE):=by
 obtain⟨C,f,fd,Aq,BU,E3,FF,HI,A1⟩:=c.ex;refine⟨Ax.imp (z7 (pl:=pl) he.1 E3 FF HI B3 A1 .nil RA Aj) ?_⟩;rw[<-Am];exact vv K2 (by rw[Am];exact BU)
end
end CT
namespace C1
open PySem PySem.Spec PyProof.Rows
section
variable{X:Ac}{elts:List AT}{Bf:Nat}{Q7:Pos}
end
end C1
namespace CT
open PySem PySem.Spec C1 PyProof.Rows
section
variable{X:Ac}{F:B9}{a b:AT}{pos p:Pos}{ma:Au}
end
end CT
namespace CT
open PySem PySem.Spec C1
mutual
noncomputable def M6:D->Bool
 |.lst _=>false
 |.Co _=>false
 |.tup ds=>Ko ds
 |.ins _ _ ds=>Ko ds
 |.Bg _ ds=>Ko ds
 |.Ai _ ds=>Ko ds
 |.EM ds=>Ko ds
 |_=>true
noncomputable def Ko:List D->Bool
 |[]=>true
 |d::ds=>M6 d&&Ko ds
end
def Un:Du->Bool
 |.lst _=>true
 |_=>false
section
variable{K:A_}{G G':AC}
def Eo.b3(h:∀b o,G b=some o->Un o=false->G' b=some o){a:A7}{u:Du}(BR:Un u=false)(r:Eo G a u):Eo G' a u:=by
 rcases r with r|⟨o,r⟩
 .exact .inl (h _ _ r BR)
 .exact .inr ⟨o,h _ _ r rfl⟩
mutual
theorem At.b3(h:∀b o,G b=some o->Un o=false->G' b=some o):∀{d:D}{v:V},M6 d=true->At K G d v->At K G' d v
 |.non,_,_,q=>by simpa only[At]using q
 |.AO _,_,_,q=>by simpa only[At]using q
 |.int _,_,_,q=>by simpa only[At]using q
 |.str _,_,_,q=>by simpa only[At]using q
 |.tup _,_,n,q=>by simp only[At,M6]at q n |-;obtain⟨a,xs,e,g,r⟩:=q;exact⟨a,xs,e,h _ _ g rfl,Aa.R7 h n r⟩
 |.lst _,_,n,_=>by simp only[M6]at n;cases n
 |.Co _,_,n,_=>by simp only[M6]at n;cases n
 |.EM _,_,n,q=>by
  simp only[At,M6]at q n |-;obtain⟨a,xs,e,g,r⟩:=q;refine⟨a,xs,e,?_,Aa.R7 h n r⟩;rcases g with g|g
  .exact .inl (Eo.b3 h rfl g)
  .exact .inr g
 |.Bg _ _,_,n,q=>by simp only[At,M6]at q n |-;obtain⟨a,xs,e,g,k,r⟩:=q;exact⟨a,xs,e,h _ _ g rfl,k,Aa.R7 h n r⟩
 |.Ai _ _,_,n,q=>by simp only[At,M6]at q n |-;obtain⟨a,xs,e,g,k,r⟩:=q;exact⟨a,xs,e,h _ _ g rfl,k,Aa.R7 h n r⟩
 |.ins _ _ _,_,n,q=>by simp only[At,M6]at q n |-;obtain⟨a,Ag,xs,e,⟨C,BU,g⟩,k,r⟩:=q;exact⟨a,Ag,xs,e,⟨C,BU,h _ _ g rfl⟩,k,Aa.R7 h n r⟩
 |.PD _,_,n,q=>by simp only[At]at q |-;obtain⟨a,xs,e,⟨C,BU,g⟩,r⟩:=q;exact⟨a,xs,e,⟨C,BU,h _ _ g rfl⟩,r⟩
theorem Aa.R7(h:∀b o,G b=some o->Un o=false->G' b=some o):∀{ds:List D}{vs:List V},Ko ds=true->Aa K G ds vs->Aa K G' ds vs
 |[],_,_,q=>by simpa only[Aa]using q
 |_::_,_,n,q=>by simp only[Aa,Ko,FV]at q n |-;obtain⟨v,r,e,a,t⟩:=q;exact⟨v,r,e,At.b3 h n.1 a,Aa.R7 h n.2 t⟩
end
end
mutual
noncomputable def Pi:T->Bool
 |.J _=>true
 |.lst Av=>Xb Av
 |_=>false
noncomputable def Xb:List T->Bool
 |[]=>true
 |t::Av=>Pi t&&Xb Av
end
mutual
theorem e4{K:A_}{G H:AC}:∀{t:T}{v:V},Pi t=true->Cb K G H t v->∀b∈Ak H t v,∃xs,H b=some (.lst xs)
 |.J _,_,_,_,b,A1=>by simp only[Ak]at A1;cases A1
 |.lst _,_,n,h,b,A1=>by
  simp only[Cb,Pi]at h n;obtain⟨a,xs,rfl,q,r⟩:=h;rw[QY q]at A1;rcases List.mem_cons.mp A1 with rfl|A1
  .exact⟨xs,q⟩
  .exact gL n r b A1
 |.Bg _ _,_,n,_,_,_=>by simp only[Pi]at n;cases n
 |.Ai _ _,_,n,_,_,_=>by simp only[Pi]at n;cases n
 |.ins _ _ _,_,n,_,_,_=>by simp only[Pi]at n;cases n
theorem gL{K:A_}{G H:AC}:∀{Av:List T}{vs:List V},Xb Av=true->Bt K G H Av vs->∀b∈E8 H Av vs,∃xs,H b=some (.lst xs)
 |[],_,_,_,b,A1=>by rw[TB]at A1;cases A1
 |_::_,_,n,h,b,A1=>by
  simp only[Bt,Xb,FV]at h n;obtain⟨v,r,rfl,q,t⟩:=h;rw[HZ]at A1;rcases List.mem_append.mp A1 with A1|A1
  .exact e4 n.1 q b A1
  .exact gL n.2 t b A1
end
def OD:Bi->Bool
 |.ob (.lst _)=>true
 |.ob _=>false
 |.Ef t=>Pi t
 |.BX _ t=>Pi t
 |_=>true
def Vx(ρ:AG):Bool:=ρ.all OD
section
variable{F:B9}
end
section
variable{X:Ac}{F:B9}{e:AT}
end
section
variable{K:A_}{G0 H0:AC}{E:DP}
end
section
variable{X:Ac}{e:AT}{K:A_}{G0 H0:AC}{E:DP}{m:Ab}
end
section
variable{F:B9}
end
section
variable{X:Ac}{F:B9}{e o:AT}{A5:List AT}{pos:Pos}{ma:Au}{m n:Ab}
end
def Mz:List T->Option (List D)
 |[]=>some []
 |.J d::Av=>(Mz Av).map (d::·)
 |_=>none
theorem o4:∀{Av:List T}{ds:List D},Mz Av=some ds->Av=ds.map .J
 |[],ds,h=>by simp only[Mz]at h;cases h;rfl
 |t::Av,ds,h=>by
  cases t with
  |J d=>simp only[Mz]at h;obtain⟨r,e,rfl⟩:=Option.map_eq_some_iff.mp h;rw[o4 e];rfl
  |_=>simp[Mz]at h
theorem Vh:∀ds:List D,Mz (ds.map .J)=some ds
 |[]=>rfl
 |d::ds=>by simp only[EF,Mz,Vh ds];rfl
section
variable{K:A_}{G H:AC}
theorem od:∀{ds:List D}{xs:List V},Aa K G ds xs->Bt K G H (ds.map .J) xs
 |[],xs,h=>by simp only[Aa]at h;subst h;exact Bt.nil
 |d::ds,xs,h=>by simp only[Aa]at h;obtain⟨v,r,rfl,a,t⟩:=h;exact Bt.cons (by simp only[Cb];exact a) (od t)
theorem oe:∀{ds:List D}{xs:List V},Bt K G H (ds.map .J) xs->Aa K G ds xs
 |[],xs,h=>by simp only[NS,Bt]at h;subst h;exact Aa.nil
 |d::ds,xs,h=>by simp only[EF,Bt]at h;obtain⟨v,r,rfl,a,t⟩:=h;simp only[Cb]at a;exact Aa.cons a (oe t)
theorem aQ:∀(ds:List D)(xs:List V),E8 H (ds.map .J) xs=[]
 |[],xs=>TB
 |d::ds,[]=>by simp only[EF,E8]
 |d::ds,x::xs=>by rw[EF,HZ,aQ ds xs];simp only[Ak,WZ]
end
section
variable{F:B9}{G H:AC}{σ :C1.St}{ρ:AG}
end
section
variable{X:Ac}{F:B9}{e:AT}{pos:Pos}{m:Ab}{Ev:HB}
def Ob(m:Ab):Ao:=λρ=>(m ρ).bind λd=>.ok (.rs d ρ)
def aeQ(h:B2 X F e m):Er X F (.Return (some e) pos) (Ob m):=⟨DH.imp (W0 h.1) λCY σ H⟨G,ρ,r,k⟩=>by
 unfold Ob at k;refine⟨G,ρ,r,?_⟩;cases B0:m ρ with
 |bad=>rw[B0]at k;cases k
 |exc c=>rw[B0]at k;exact k
 |ok d=>rw[B0,R.EV]at k;exact λv H' G' BS u a=>k v σ G' H' BS a⟩
end
section
variable{F:B9}{G H:AC}{σ :C1.St}{ρ:AG}
end
section
variable{X:Ac}{F:B9}{e c:AT}{pos:Pos}{m:Ab}
end
section
variable{X:Ac}{F:B9}{e c:AT}{pos:Pos}{m:Ab}
end
inductive e9 where
 |Ay (ρ:AG)|ES (d:D) (ρ:AG)
abbrev qT:=AG->R e9
def MN(b:qT):e9->R e9
 |.Ay ρ=>b ρ
 |.ES d ρ=>.ok (.ES d ρ)
section
variable{F:B9}
end
section
variable{X:Ac}{F:B9}{k:AT}{pos:Pos}{mk:Ab}
end
open Classical in
noncomputable def Gv(H:AC)(l:List A7):AC:=λb=>if b∈l then none else H b
def hn{H:AC}{l:List A7}{b:A7}(h:b∈l):Gv H l b=none:=by unfold Gv;rw[if_pos h]
def T1{H:AC}{l:List A7}{b:A7}(h:b∉l):Gv H l b=H b:=by unfold Gv;rw[if_neg h]
def hr(H:AC)(l:List A7):Sub (Gv H l) H:=λb o e=>by
 by_cases h:b∈l
 .rw[hn h]at e;cases e
 .rw[T1 h]at e;exact e
def hq{H:AC}{l:List A7}{b:A7}(h:Gv H l b=none):b∈l\/H b=none:=by
 by_cases A1:b∈l
 .exact .inl A1
 .rw[T1 A1]at h;exact .inr h
section
variable{X:Ac}{F:B9}{A5:List AT}{pos:Pos}{ma:Au}
end
def PO(m:Au):Au:=λρ=>(m (EI ρ)).bind λds=>if Ko ds=true/\Vx ρ=true then .ok ds else .bad
section
variable{F:B9}
def uW{m:Au}:Ec (Hf F (PO m)) (Hf F m):=by
 rintro σ H Q ⟨G,ρ,r,h⟩;refine⟨Hq σ ρ G H,EI ρ,r.plus,?_⟩;unfold PO at h;refine rb h λds B0 h p xs H' G' BS s' AV AB Ad q=>?_;by_cases hd:Ko ds=true/\Vx ρ=true
 .rw[if_pos hd]at h;have P5:∀b,Ca H σ ρ b->G b=none:=λb z=>(r.foot z).2.1;have P4:∀b,Ca H σ ρ b->F.H0 b=none:=λb z=>(r.foot z).2.2;have bG:∀b,Ca H σ ρ b->∃ho,H b=some ho/\Un ho=true:=λb⟨i,s,o,A9,AM,f⟩=>by
   have AD:=List.all_eq_true.mp hd.2 _ (KD A9);cases s with
   |un=>cases f
   |J _=>cases f
   |Ef t=>obtain⟨v,rfl,K_⟩:=f;obtain⟨o',BD,N0,Cp,ok⟩:=r.CE i _ A9;rw[AM]at BD;cases BD;cases Cp;obtain⟨xs,e⟩:=e4 AD ok.at_ b K_;exact⟨_,e,rfl⟩
   |BX n t=>obtain⟨v,rfl,K_⟩:=f;obtain⟨o',BD,N0,Cp,ok,_⟩:=r.CE i _ A9;rw[AM]at BD;cases BD;cases Cp;obtain⟨xs,e⟩:=e4 AD ok.at_ b K_;exact⟨_,e,rfl⟩
   |ob ob=>
    have f:o=some (.ref b):=f;obtain⟨c,ho,BD,A6,_,_,BJ⟩:=r.obj A9;rw[AM,f]at BD;cases BD;cases ob with
    |lst _=>obtain⟨xs,rfl,_⟩:=BJ;exact⟨_,A6,rfl⟩
    |Ai _ _=>cases AD
    |ins _ _ _=>cases AD
  have off:∀b,¬Ca H σ ρ b->Gn H σ ρ G' b=G' b:=λb n=>by unfold Gn;rw[if_neg n]
  have on:∀b,Ca H σ ρ b->Gn H σ ρ G' b=none:=λb n=>by unfold Gn;rw[if_pos n]
  have BK:Sub G (Gn H σ ρ G'):=λb o e=>by
   have n:¬Ca H σ ρ b:=λz=>by rw[P5 b z]at e;cases e
   rw[off b n];exact s'.g b o (VD r b o e)
  have Zq:∀b,Ca H σ ρ b->∀o,H b=some o->H' b=some o:=λb z o e=>BS.kp.sub _ _ (s'.g _ _ (by rw[Nd z];exact e));have rel:Rel F (Gn H σ ρ G') H' σ ρ:=by
   refine r.over rfl ⟨λb o e=>?_,r.kp.EP.trans BK,BS.kp.BE,λb A1=>?_⟩ BK λb Bw=>?_
   .by_cases n:Ca H σ ρ b
    .rw[on b n]at e;cases e
    .rw[off b n]at e;exact BS.kp.sub b o e
   .have n:¬Ca H σ ρ b:=λz=>A1.1 (P4 b z);rw[off b n];exact BS.kp.new b A1
   .refine⟨?_,on b Bw,P4 b Bw⟩;cases BV:H b with
    |none=>exact absurd BV (r.foot Bw).1
    |some o=>exact Zq b Bw o BV
  refine h p xs H' _ rel ⟨BK,s'.h,λb A1=>?_⟩ AV AB (by rw[off p (λz=>(r.foot z).1 AV)];exact Ad) (Aa.R7 (λb o e AD=>?_) hd.1 q)
  .by_cases n:Ca H σ ρ b
   .rw[on b n,P5 b n]
   .rw[off b n,s'.n b A1];unfold Hq;rw[if_neg n]
  .have n:¬Ca H σ ρ b:=λz=>by
     obtain⟨ho,A9,AM⟩:=bG b z;have:=s'.g b ho (by rw[Nd z];exact A9);rw[e]at this;cases this;rw[AD]at AM;cases AM
   rw[off b n];exact e
 .rw[if_neg hd]at h;cases h
end
section
variable{X:Ac}{F:B9}{e:AT}{pos:Pos}
def aek{m:Au}(h:KU X F e m):KU X F e (PO m):=⟨Ax.imp h.1 uW⟩
end
section
variable{X:Ac}{F:B9}{e:AT}{pos:Pos}
end
section
variable{X:Ac}{F:B9}{e:AT}{A5:List AT}{pos p:Pos}{m:Ab}{ma:Au}
end
def Dd{N P:List Str}{sc:E6}(a:sc.kind=.function:=by rfl)(b:sc.isCoroutine=false:=by rfl)(c:sc.isGenerator=false:=by rfl)(d:N.Nodup:=by decide+kernel)(e:N.take P.length=P:=by rfl)(f:∀x∈P,sc.names.lookup x=some .local\/sc.names.lookup x=some .cell:=by decide+kernel)(g:∀y∈sc.names,y.2≠.free:=by decide+kernel):Cg N P sc:=⟨a,b,c,d,e,f,g⟩
end CT
namespace CT
open PySem PySem.Spec C1 PyProof.Rows
section
variable{X:Ac}{F:B9}{e:AT}{A5:List AT}{pos p:Pos}{ma:Au}
end
end CT
namespace CT
open PySem PySem.Spec C1
mutual
noncomputable def Q1:D->Bool
 |.non=>true
 |.AO _=>true
 |.int _=>true
 |.str _=>true
 |.tup ds=>Q2 ds
 |_=>false
noncomputable def Q2:List D->Bool
 |[]=>true
 |d::ds=>Q1 d&&Q2 ds
end
mutual
theorem At.k2{K:A_}{G G':AC}(h:∀b xs,G b=some (.tup xs)->G' b=some (.tup xs)):∀{d:D}{v:V},Q1 d=true->At K G d v->At K G' d v
 |.non,_,_,q=>by simpa only[At]using q
 |.AO _,_,_,q=>by simpa only[At]using q
 |.int _,_,_,q=>by simpa only[At]using q
 |.str _,_,_,q=>by simpa only[At]using q
 |.tup _,_,n,q=>by simp only[At,Q1]at q n |-;obtain⟨a,xs,e,g,r⟩:=q;exact⟨a,xs,e,h _ _ g,Aa.b4 h n r⟩
 |.lst _,_,n,_=>by cases n
 |.Co _,_,n,_=>by cases n
 |.EM _,_,n,_=>by cases n
 |.Bg _ _,_,n,_=>by cases n
 |.Ai _ _,_,n,_=>by cases n
 |.ins _ _ _,_,n,_=>by cases n
 |.PD _,_,n,_=>by cases n
theorem Aa.b4{K:A_}{G G':AC}(h:∀b xs,G b=some (.tup xs)->G' b=some (.tup xs)):∀{ds:List D}{vs:List V},Q2 ds=true->Aa K G ds vs->Aa K G' ds vs
 |[],_,_,q=>by simpa only[Aa]using q
 |_::_,_,n,q=>by simp only[Aa,Q2,FV]at q n |-;obtain⟨v,r,e,a,t⟩:=q;exact⟨v,r,e,At.k2 h n.1 a,Aa.b4 h n.2 t⟩
end
section
variable{F:B9}{G H G' H':AC}{σ :C1.St}{ρ:AG}
def Rel.j1(r:Rel F G H σ ρ)(BS:Rel F G' H' σ (EI ρ))(s':C6 (Hq σ ρ G H) H G' H'):Rel F (Gn H σ ρ G') H' σ ρ/\C6 G H (Gn H σ ρ G') H'/\∀b xs,G' b=some (.tup xs)->Gn H σ ρ G' b=some (.tup xs):=by
 have P5:∀b,Ca H σ ρ b->G b=none:=λb z=>(r.foot z).2.1;have P4:∀b,Ca H σ ρ b->F.H0 b=none:=λb z=>(r.foot z).2.2;have off:∀b,¬Ca H σ ρ b->Gn H σ ρ G' b=G' b:=λb n=>by unfold Gn;rw[if_neg n]
 have on:∀b,Ca H σ ρ b->Gn H σ ρ G' b=none:=λb n=>by unfold Gn;rw[if_pos n]
 have BK:Sub G (Gn H σ ρ G'):=λb o e=>by
  have n:¬Ca H σ ρ b:=λz=>by rw[P5 b z]at e;cases e
  rw[off b n];exact s'.g b o (VD r b o e)
 have jD:∀b,Ca H σ ρ b->∀o,H b=some o->G' b=some o:=λb z o e=>s'.g _ _ (by rw[Nd z];exact e);refine⟨r.over rfl ⟨λb o e=>?_,r.kp.EP.trans BK,BS.kp.BE,λb A1=>?_⟩ BK λb Bw=>?_,⟨BK,s'.h,λb A1=>?_⟩,λb xs e=>?_⟩
 .by_cases n:Ca H σ ρ b
  .rw[on b n]at e;cases e
  .rw[off b n]at e;exact BS.kp.sub b o e
 .have n:¬Ca H σ ρ b:=λz=>A1.1 (P4 b z);rw[off b n];exact BS.kp.new b A1
 .refine⟨?_,on b Bw,P4 b Bw⟩;cases BV:H b with
  |none=>exact absurd BV (r.foot Bw).1
  |some o=>exact BS.kp.sub _ _ (jD b Bw o BV)
 .by_cases n:Ca H σ ρ b
  .rw[on b n,P5 b n]
  .rw[off b n,s'.n b A1];unfold Hq;rw[if_neg n]
 .have n:¬Ca H σ ρ b:=λz=>by
    obtain⟨DT,Dx⟩:=r.V9 z;cases Ps:H b with
    |none=>exact DT Ps
    |some o=>have:=jD b z o Ps;rw[e]at this;cases this;exact Dx xs Ps
  rw[off b n];exact e
end
def Jc(m:Ab):Ab:=λρ=>(m (EI ρ)).bind λd=>if Q1 d=true then .ok d else .bad
def Rb(m:Au):Au:=λρ=>(m (EI ρ)).bind λds=>if Q2 ds=true then .ok ds else .bad
section
variable{F:B9}
def uX{m:Ab}:Ec (Cv F (Jc m)) (Cv F m):=by
 rintro σ H Q ⟨G,ρ,r,h⟩;refine⟨Hq σ ρ G H,EI ρ,r.plus,?_⟩;unfold Jc at h;refine rb h λd B0 h v H' G' BS s' a=>?_
 split at h
 .rename_i hd;obtain⟨rel,up,off⟩:=r.j1 BS s';exact h v H' _ rel up (a.k2 off hd)
 .exact h.elim
def uY{m:Au}:Ec (Hf F (Rb m)) (Hf F m):=by
 rintro σ H Q ⟨G,ρ,r,h⟩;refine⟨Hq σ ρ G H,EI ρ,r.plus,?_⟩;unfold Rb at h;refine rb h λds B0 h p xs H' G' BS s' AV AB Ad q=>?_
 split at h
 .rename_i hd;obtain⟨rel,up,off⟩:=r.j1 BS s';have no:¬Ca H σ ρ p:=λz=>(r.foot z).1 AV;exact h p xs H' _ rel up AV AB (by unfold Gn;rw[if_neg no];exact Ad) (q.b4 off hd)
 .exact h.elim
end
section
variable{X:Ac}{F:B9}{e:AT}{m:Ab}{ma:Au}
def ad5(h:B2 X F e m):B2 X F e (Jc m):=⟨Ax.imp h.1 uX⟩
end
def JH:Bi->Option T
 |.Ef t=>some t
 |.BX _ t=>some t
 |_=>none
def O9(s:Bi)(t:T):Bi:=match s with
 |.BX k _=>.BX k t
 |_=>.Ef t
def Z2{F:B9}{G H:AC}{s:Bi}{t:T}{o:Option V}(e:JH s=some t)(h:IP F G H o s):∃v,o=some v/\MH F G H t v:=by
 cases s with
 |Ef u=>cases e;exact h
 |BX k u=>cases e;obtain⟨v,z,q,_⟩:=h;exact⟨v,z,q⟩
 |_=>cases e
def VP{H:AC}{s:Bi}{t:T}{v:V}{b:A7}(e:JH s=some t):Ey H s (some v) b↔b∈Ak H t v:=by
 cases s with
 |Ef u=>cases e;exact⟨λ⟨w,z,h⟩=>by cases z;exact h,λh=>⟨v,rfl,h⟩⟩
 |BX k u=>cases e;exact⟨λ⟨w,z,h⟩=>by cases z;exact h,λh=>⟨v,rfl,h⟩⟩
 |_=>cases e
def lE{s:Bi}{t t':T}(e:JH s=some t):JH (O9 s t')=some t':=by cases s<;>first|rfl|cases e
def lD{F:B9}{G H G' H':AC}{s:Bi}{t t':T}{v:V}(e:JH s=some t)(h:IP F G H (some v) s)(q:MH F G' H' t' v):IP F G' H' (some v) (O9 s t'):=by
 cases s with
 |Ef u=>exact⟨v,rfl,q⟩
 |BX k u=>obtain⟨w,z,_,p⟩:=h;cases z;exact⟨v,rfl,q,p⟩
 |_=>cases e
def Rel.yO{F:B9}{G H G' H':AC}{σ :C1.St}{ρ:AG}{EX:Str->AC->Prop}(r:Rel F G H σ ρ){x:Nat}{s:Bi}{t t':T}{v:V}(ex:ρ[x]?=some s)(A5:JH s=some t)(AI: σ[x]?=some (some v))(k:FS ⟨F.K,G,Gv H (Ak H t v),EX,Iq⟩ G' H')(P6:MH ⟨F.K,G,Gv H (Ak H t v),EX,Iq⟩ G' H' t' v):Rel F G' H' σ (ρ.set x (O9 s t')):=by
 have Xu:x<ρ.length:=(List.getElem?_eq_some_iff.mp ex).1;have aS:∀b∈Ak H t v,Ey H s (some v) b:=λb A1=>(VP A5).mpr A1;have Bw:∀b∈Ak H t v,Ca H σ ρ b:=λb A1=>⟨x,_,_,ex,AI,aS b A1⟩;have h0:∀b,Gv H (Ak H t v) b=none->F.H0 b=none:=λb z=>by
  rcases hq z with z|z
  .exact(r.foot (Bw b z)).2.2
  .exact r.kp.BE.gone z
 have kp:FS F G' H':=by
  refine⟨k.sub,r.kp.EP.trans k.EP,λb o e=>?_,λb A1=>?_⟩
  .refine k.BE b o ?_;have n:b∉Ak H t v:=λz=>by rw[(r.foot (Bw b z)).2.2]at e;cases e
   show Gv H _ b=some o;rw[T1 n];exact r.kp.BE b o e
  .have PY:b∉Ak H t v:=λz=>A1.1 (r.foot (Bw b z)).2.2;have n:Hz (Gv H (Ak H t v)) b:=by unfold Hz;rw[T1 PY];exact r.kp.BE.Jh A1
   rw[show G' b=G b from k.new b n];exact r.kp.new b A1
 have Kq:∀(i:Nat)(q:Bi),i≠x->ρ[i]?=some q->∃o,σ[i]?=some o/\IP F G' H' o q/\(∀a,Ey H' q o a->Ey H q o a):=λi q DT e=>by
  obtain⟨o,A9,w⟩:=r.CE i q e;obtain⟨An,BF⟩:=w.keep (H':=H') k.EP λa f=>by
   have na:a∉Ak H t v:=λz=>DT (r.N5 i x a _ _ _ _ e ex A9 AI f (aS a z));obtain⟨g1,g2,_⟩:=w.foot f;have c:Gv H (Ak H t v) a=H a:=T1 na;refine⟨?_,?_⟩
   .cases Ps:H a with
    |none=>exact absurd Ps g1
    |some u=>exact k.BE a u (c.trans Ps)
   .rw[show G' a=G a from k.new a (by show Hz (Gv H _) a;unfold Hz;rw[c];exact w.V9 f)];exact g2
  exact⟨o,A9,An,BF⟩
 have hk:∀(i:Nat)(q:Bi)(o:Option V)(a:A7),i≠x->ρ[i]?=some q-> σ[i]?=some o->Ey H q o a->Gv H (Ak H t v) a≠none:=λi q o a DT e A9 f z=>by
  rcases hq z with z|z
  .exact DT (r.N5 i x a _ _ _ _ e ex A9 AI f (aS a z))
  .exact(r.foot ⟨i,q,o,e,A9,f⟩).1 z
 have acZ:IP F G H (some v) s:=by obtain⟨o,A9,q⟩:=r.CE x s ex;rw[AI]at A9;cases A9;exact q
 have cl:∀(i:Nat)(q:Bi)(o:Option V)(a:A7),(ρ.set x (O9 s t'))[i]?=some q-> σ[i]?=some o->Ey H' q o a->(i=x/\a∈Ak H' t' v)\/(i≠x/\ρ[i]?=some q/\Ey H q o a):=λi q o a e A9 f=>by
  rcases get_set e with⟨rfl,rfl⟩|⟨DT,e⟩
  .rw[AI]at A9;cases A9;exact .inl ⟨rfl,(VP (lE A5)).mp f⟩
  .obtain⟨o',Fe,_,F3⟩:=Kq i q (Hl DT) e;rw[A9]at Fe;cases Fe;exact .inr ⟨Hl DT,e,F3 a f⟩
 refine⟨kp,by simp[r.len],λi q e=>?_,λi j a s1 s2 D8 DG A9 AM BD Cp f1 f2=>?_⟩
 .rcases get_set e with⟨rfl,rfl⟩|⟨DT,e⟩
  .exact⟨some v,AI,lD A5 acZ ⟨P6.at_,P6.Ct,λb A1=>⟨(P6.own b A1).1,h0 b (P6.own b A1).2⟩⟩⟩
  .obtain⟨o,Fe,F3,_⟩:=Kq i q (Hl DT) e;exact⟨o,Fe,F3⟩
 .rcases cl i s1 D8 a A9 BD f1 with⟨BZ,Ja⟩|⟨BZ,iR,hv⟩<;>rcases cl j s2 DG a AM Cp f2 with⟨JZ,Jb⟩|⟨JZ,jk,jl⟩
  .rw[BZ,JZ]
  .exact absurd (P6.own a Ja).2 (hk j s2 DG a JZ jk Cp jl)
  .exact absurd (P6.own a Jb).2 (hk i s1 D8 a BZ iR BD hv)
  .exact r.N5 i j a s1 s2 D8 DG iR jk BD Cp hv jl
def j6(F:B9)(v:V)(Q:Cc):R (D×T)->Prop
 |.ok (d,t)=>∀u G' H',FS F G' H'->At F.K G' d u->MH F G' H' t v->Q u H'
 |_=>False
noncomputable def VW(K:A_)(n:Nat)(Ba:T->List D->R (D×T)):AY:=λvs H Q E=>∃G t v A5 ws,vs=v::ws/\Sub G H/\Cb K G H t v/\(Ak H t v).Nodup/\(∀b∈Ak H t v,G b=none)/\Aa K G A5 ws/\A5.length=n/\
 j6 ⟨K,G,Gv H (Ak H t v),λ_ _=>False,Iq⟩ v Q (Ba t A5)
def nD{K:A_}{n:Nat}{Ba:T->List D->R (D×T)}:∀vs H Q E,VW K n Ba vs H Q E->vs.length=n+1:=λvs H Q E h=>by obtain⟨G,t,v,A5,ws,rfl,_,_,_,_,a,l,_⟩:=h;simp[<-a.length,l]
def zV(v:V):Nat->Option V:=λk=>if k=0 then some v else none
def VA(K:A_)(G H:AC)(v:V):B9:=⟨K,G,H,λ_ _=>False,zV v⟩
def aJ(N:Nat)(t:T)(A5:List D):AG:=.BX 0 t::Im (N-1) A5
def Yl(d:D)(ρ:AG):R (D×T):=match(ρ[0]? :Option Bi)with
 |some (.BX 0 t)=>.ok (d,t)
 |_=>.bad
def Pb:Fk->R (D×T)
 |.Ay ρ=>Yl .non ρ
 |.rs d ρ=>Yl d ρ
 |_=>.bad
def PQ(N:Nat)(m:Ao)(t:T)(A5:List D):R (D×T):=(m (aJ N t A5)).bind Pb
def aaF{K:A_}{G H:AC}{N:Nat}{t:T}{v:V}{A5:List D}{ws:List V}(s:Sub G H)(a1:Cb K G H t v)(Ct:(Ak H t v).Nodup)(no:∀b∈Ak H t v,G b=none)(a:Aa K G A5 ws) :
  Rel (VA K G (Gv H (Ak H t v)) v) G H (Mx (N+1) (v::ws)) (aJ (N+1) t A5):=by
 have l_:=lF (EX:=λ_ _=>False) (N:=N) s a;have st:Mx (N+1) (v::ws)=some v::Mx N ws:=by unfold Mx;simp
 rw[st];show Rel _ G H (some v::Mx N ws) (.BX 0 t::Im N A5);have J:∀(i:Nat)(q:Bi),(Im N A5)[i]?=some q->(q=.un\/∃d,q=.J d):=λi q e=>by
  unfold Im at e;rcases List.mem_append.mp (KD e)with m|m
  .obtain⟨d,_,rfl⟩:=List.mem_map.mp m;exact .inr ⟨d,rfl⟩
  .obtain⟨_,rfl⟩:=List.mem_replicate.mp m;exact .inl rfl
 have Km:∀(i:Nat)(q:Bi)(o:Option V)(b:A7),(Bi.BX 0 t::Im N A5)[i]?=some q->Ey H q o b->i=0:=λi q o b e f=>by
  cases i with
  |zero=>rfl
  |succ i=>rcases J i q (by simpa using e)with rfl|⟨d,rfl⟩<;>cases f
 refine⟨⟨s,Sub.refl _,hr _ _,λ_ _=>rfl⟩,by simp[l_.len],λi q e=>?_,λi j b s1 s2 D8 DG A9 AM _ _ f1 f2=>by rw[Km i s1 D8 b A9 f1,Km j s2 DG b AM f2]⟩;cases i with
 |zero=>cases e;exact⟨some v,rfl,v,rfl,⟨a1,Ct,λb A1=>⟨no b A1,hn A1⟩⟩,rfl⟩
 |succ i=>
  have e:(Im N A5)[i]?=some q:=by simpa using e
  obtain⟨o,A9,w⟩:=l_.CE i q e;refine⟨o,by simpa using A9,?_⟩;rcases J i q e with rfl|⟨d,rfl⟩
  .trivial
  .exact w
def gV{K:A_}{n N:Nat}{m:Ao}{vs:List V}{H:AC}{Q:Cc}{E:DP}(h:VW K n (PQ (N+1) m) vs H Q E) :
  ∃G H0 v,Fj (VA K G H0 v) m { Ay:=λ_ H'=>Q .non H',ES:=Q } (Mx (N+1) vs) H:=by
 obtain⟨G,t,v,A5,ws,rfl,s,a1,Ct,no,a,l,k⟩:=h;refine⟨G,Gv H (Ak H t v),v,G,_,aaF s a1 Ct no a,?_⟩;unfold PQ at k;have fin:∀(d:D)(BL:AG)(σ' :C1.St)(G' H':AC)(u:V),j6 ⟨K,G,Gv H (Ak H t v),λ_ _=>False,Iq⟩ v Q (Yl d BL)->Rel (VA K G (Gv H (Ak H t v)) v) G' H' σ' BL->At K G' d u->Q u H':=λd BL σ' G' H' u k r KW=>by
  unfold Yl at k
  split at k
  .rename_i t' DN;obtain⟨o,A9,w,rfl,⟨Fe,F3,JM⟩,Vk⟩:=r.CE 0 _ DN;have Vk:some v=some w:=Vk;cases Vk;exact k u G' H' ⟨r.kp.sub,r.kp.EP,r.kp.BE,r.kp.new⟩ KW ⟨Fe,F3,JM⟩
  .exact k.elim
 cases e:m (aJ (N+1) t A5)with
 |bad=>rw[e]at k;cases k
 |exc c=>rw[e]at k;cases k
 |ok f=>
  rw[e,R.EV]at k;cases f with
  |Ay BL=>exact λσ' G' H' r s'=>fin .non BL σ' G' H' .non k r (by simp only[At])
  |rs d BL=>exact λu σ' G' H' r KW=>fin d BL σ' G' H' u k r KW
  |_=>cases k
structure Wr(P:C2)(w:Bh)(K:A_)(mg:Str->Option A8)(base:BP)(Ae mt:Str)(n k:Nat)(Ba:T->List D->R (D×T)):Prop where
 ex:∃(C f:A7)(fd:G5)(Aq:List Str),Fx K Ae C/\J6 K C/\Meth K C mt f/\GX P w K mg base Gs k f fd Aq (VW K n Ba)/\Binds K fd Aq []
def oL{P:C2}{w:Bh}{K:A_}{mg:Str->Option A8}{base:BP}{x qual Ae FH Kl:Str}{st:Bb}{N Aq:List Str}{k:Nat}{m:Ao}(d:Nl K Ae x qual st (FH::Aq))(S:Cg (Kl::N) (FH::Aq) (Bv st))(h:∀(f:A7)(CJ:A8)(A:CR)(outer:List Env)(s:AQ)(H:AC)(E:DP),Ch k (A.deeper (NL qual (Bv st) s.heap.objs.size f CJ))->∀G0 H0 v,Jy (JR Gs P w K mg base (Kl::N) qual (Bv st) f CJ A outer s H E).Kp (VA K G0 H0 v) (GR st) m) :
  Wr P w K mg base Ae x Aq.length (k+1) (PQ (N.length+1) m):=by
 obtain⟨C,f,fd,A6,AA,B4,BJ,Es⟩:=d.ex;refine⟨C,f,fd,FH::Aq,A6,AA,B4,BJ.ok S nD λCJ A outer s H vs Q E B3 AJ=>?_,Es⟩;obtain⟨G,H0,v,Aj⟩:=gV AJ;exact⟨_,(h f CJ A outer s H E B3 G H0 v).1,Aj⟩
noncomputable def T0(i n:Nat)(Ae mt:Str)(Ba:T->List D->R (D×T))(ρ:AG)(s:Bi)(A5:List D):Option T->R (D×AG)
 |some (.ins c ns Av)=>if c=Ae/\ns.all (λk=>!(mt==k))=true/\A5.length=n then(Hd (Ba (.ins c ns Av) A5)).bind λx=>.ok (x.1,ρ.set i (O9 s x.2))else .bad
 |_=>.bad
def I5(i:Nat)(Ae mt:Str)(n:Nat)(Ba:T->List D->R (D×T))(ma:Au):HB:=λρ=>match ρ[i]? with
 |some s=>(Hd (ma ρ)).bind λA5=>T0 i n Ae mt Ba ρ s A5 (JH s)
 |none=>.bad
section
variable{X:Ac}{F:B9}{e:AT}{A5:List AT}{pos:Pos}{ma:Au}
def u1{i n:Nat}{Ae mt:Str}{Ba:T->List D->R (D×T)}{C:A7}{E:DP}(Gp:Fx F.K Ae C):Ec (Yh F (I5 i Ae mt n Ba ma)) (VY C mt (VW F.K n Ba) [] E (Va i) (Ew F ma)):=by
 rintro σ H Q ⟨G,ρ,r,h⟩;unfold I5 at h
 split at h
 .rename_i s A5;cases B0:ma ρ with
  |bad=>rw[B0]at h;cases h
  |exc c=>rw[B0]at h;cases h
  |ok ds=>
   rw[B0]at h;replace h:j9 F G σ Q (T0 i n Ae mt Ba ρ s ds (JH s)):=h;unfold T0 at h
   split at h
   .rename_i c ns Av R3
    split at h
    .rename_i AK;obtain⟨rfl,F1,AN⟩:=AK;obtain⟨o,A9,q⟩:=r.CE i s A5;obtain⟨v,rfl,ok⟩:=Z2 R3 q;have HD:=ok.at_;simp only[Cb]at HD;obtain⟨a,Ag,xs,rfl,⟨Ju,BU,A6⟩,rfl,ET⟩:=HD;have:=BU.inj Gp;subst this;refine⟨.ref a,A9,a,Ag,xs,rfl,A6,Xs F1,G,ρ,r,?_⟩;rw[B0];intro vs H1 Af AL s1 B8;obtain⟨DG,AM,BF⟩:=AL.CE i s A5;rw[A9]at AM;cases AM;obtain⟨_,BD,O4⟩:=Z2 R3 BF;cases BD;rw[Le];refine⟨Af,_,.ref a,ds,vs,rfl,AL.kp.sub,O4.at_,O4.Ct,λb A1=>(O4.own b A1).1,B8,AN,?_⟩;cases em:Ba (.ins c (xs.map (·.1)) Av) ds with
     |bad=>rw[em]at h;cases h
     |exc c=>rw[em]at h;cases h
     |ok y=>obtain⟨d,t'⟩:=y;rw[em]at h;intro u G' H' k' KW P6;exact h u H' G' (AL.yO A5 R3 A9 k' P6) (s1.g.trans k'.EP) KW
    .exact h.elim
   .exact h.elim
 .exact h.elim
def aea (i:Nat) {x Ae mt:Str} {Cm apos:Pos} {n k:Nat} {Ba:T->List D->R (D×T)} {pl:Sem Bool} (c:Wr X.prog X.w X.K X.mg X.base Ae mt n k Ba) (B3:Ch k X.A) (AB:G8 X F (e::A5) ma) (Am:F.K=X.K:=by rfl)(hN:X.N[i]?=some x:=by rfl) (Bc:G_ X.env.scope x:=by first|exact Dq rfl|exact Cr (Dq rfl)|exact Cr (Cr rfl)) (hd:(x==("__debug__" :Str))=false:=by decide) (DQ:(x==("__classdict__" :Str))=false:=by decide)(OT:BI (e::A5) X.env=(false,BN e X.env)::BI A5 X.env:=by rfl) (Dv:(DC pos (BI A5 X.env)).any (·.1)=false:=by rfl) (Aj:BN (.Call (.Attribute (.Name x Cm) mt apos) (e::A5) [] pos) X.env=(do
    let DA <-BN (.Name x Cm) X.env
    M_ apos.atName
    let(f,first) <-Jr [DA] (Oq DA mt pl)
    QV pos f first (DC pos (BI (e::A5) X.env)) (H9 pos (H8 [] X.env))):=by rfl):Pf X F (.Call (.Attribute (.Name x Cm) mt apos) (e::A5) [] pos) (I5 i Ae mt n Ba ma):=⟨by
 obtain⟨C,f,fd,Aq,BU,E3,FF,HI,A1⟩:=c.ex;refine Ax.imp (jp (pl:=pl) (IA hN Bc hd DQ) E3 FF HI B3 A1 .nil RA AB.1 OT Dv Aj) ?_;rw[<-Am];exact u1 (by rw[Am];exact BU)⟩
end
theorem iz{f:Str}:∀{xs:List (Str×V)}{j:Nat},(xs.map (·.1)).findIdx? (λk=>f==k)=some j->∃p,xs[j]?=some p/\xs.lookup f=some p.2
 |[],_,h=>by simp at h
 |(k,v)::xs,j,h=>by
  rw[EF,List.findIdx?_cons]at h;rw[Tn];cases e:f==k with
  |true=>simp only[e,if_true]at h;cases h;exact⟨(k,v),rfl,rfl⟩
  |false=>simp only[e,Hh,if_false]at h;obtain⟨agl,A6,rfl⟩:=Option.map_eq_some_iff.mp h;obtain⟨p,EB,D3⟩:=iz A6;exact⟨p,by simpa using EB,D3⟩
section
variable{K:A_}{G H:AC}
theorem oh{q:A7}{ks ks':List Bj}{ds ds':List D}{ys HO:List (Bj×V)}(AW:H q=some (.Ai ys))(AF:HO.map (·.1)=ks')(n:Aa K G ds' (HO.map (·.2))):∀{Av:List T}{vs:List V}{k:Nat},Bt K G H Av vs->(E8 H Av vs).Nodup->Av[k]?=some (.Ai ks (ds.map .J))->vs[k]?=some (.ref q)->
  Bt K G (upd H q (.Ai HO)) (Av.set k (.Ai ks' (ds'.map .J))) vs/\E8 (upd H q (.Ai HO)) (Av.set k (.Ai ks' (ds'.map .J))) vs=E8 H Av vs
 |[],_,_,_,_,e,_=>by simp at e
 |t::Av,_,0,h,Ct,e,ev=>by
  simp only[Bt]at h;obtain⟨v,r,rfl,A6,AA⟩:=h;simp at e ev;subst e ev;rw[HZ]at Ct;have f1:Ak H (.Ai ks (ds.map .J)) (.ref q)=[q]:=by rw[MO AW,aQ]
  have f2:Ak (upd H q (.Ai HO)) (.Ai ks' (ds'.map .J)) (.ref q)=[q]:=by rw[MO Dz,aQ]
  rw[f1]at Ct;obtain⟨Cn,C3⟩:=AA.keep (H':=upd H q (.Ai HO)) λb A1=>DV λz=>(List.nodup_append.mp Ct).2.2 q (by simp) b A1 z.symm;rw[List.set_cons_zero,HZ,HZ,f1,f2,C3];refine⟨.cons ?_ Cn,rfl⟩;simp only[Cb];exact⟨q,HO,rfl,Dz,AF,od n⟩
 |t::Av,_,k+1,h,Ct,e,ev=>by simp only[Bt]at h;obtain⟨v,r,rfl,A6,AA⟩:=h;simp at e ev;rw[HZ]at Ct;obtain⟨DT,Dx,M4⟩:=List.nodup_append.mp Ct;have ZK:q∈E8 H Av r:=aP e ev (by rw[MO AW];simp);obtain⟨Cn,C3⟩:=A6.keep (H':=upd H q (.Ai HO)) λb A1=>DV λz=>M4 b A1 q ZK z;obtain⟨EB,D3⟩:=oh AW AF n (k:=k) AA Dx e ev;rw[List.set_cons_succ,HZ,HZ,C3,D3];exact⟨.cons Cn EB,rfl⟩
end
structure Ox where
 s:Bi
 ns:List Str
 Av:List T
 j:Nat
 ks:List Bj
 ds:List D
def V8(Ae g:Str)(s:Bi)(ns:List Str)(Av:List T)(j:Nat):Option T->R Ox
 |some (.Ai ks us)=>match Mz us with
  |some ds=>.ok ⟨s,ns,Av,j,ks,ds⟩
  |none=>.bad
 |_=>.bad
def V7(Ae g:Str)(s:Bi):Option T->R Ox
 |some (.ins c ns Av)=>if c=Ae then match ns.findIdx? (λk=>g==k)with
  |some j=>V8 Ae g s ns Av j Av[j]?
  |none=>.bad
  else .bad
 |_=>.bad
def K1(i:Nat)(Ae g:Str)(ρ:AG):R Ox:=match ρ[i]? with
 |some s=>V7 Ae g s (JH s)
 |none=>.bad
def h2{i:Nat}{Ae g:Str}{ρ:AG}{x:Ox}(h:K1 i Ae g ρ=.ok x):ρ[i]?=some x.s/\JH x.s=some (.ins Ae x.ns x.Av)/\x.ns.findIdx? (λk=>g==k)=some x.j/\x.Av[x.j]?=some (.Ai x.ks (x.ds.map .J)):=by
 unfold K1 at h
 split at h
 .rename_i s A5;unfold V7 at h
  split at h
  .rename_i c ns Av R3
   split at h
   .rename_i AK;subst AK
    split at h
    .rename_i j JS;unfold V8 at h
     split at h
     .rename_i ks us Dc
      split at h
      .rename_i ds MM;cases h;rw[o4 MM]at Dc;exact⟨A5,R3,JS,Dc⟩
      .cases h
     .cases h
    .cases h
   .cases h
  .cases h
 .cases h
def h1{i:Nat}{Ae g c:Str}{ρ:AG}(h:K1 i Ae g ρ=.exc c):False:=by
 unfold K1 V7 V8 at h
 repeat' split at h
 all_goals cases h
def Rel.fd{F:B9}{G H:AC}{σ :C1.St}{ρ:AG}{i:Nat}{Ae g:Str}{x:Ox}(r:Rel F G H σ ρ)(h:K1 i Ae g ρ=.ok x):∃a C Ag xs q ys,σ[i]?=some (some (.ref a))/\Fx F.K Ae C/\H a=some (.ins C Ag xs)/\xs.map (·.1)=x.ns/\Bt F.K G H x.Av (xs.map (·.2))/\xs.lookup g=some (.ref q)/\(xs.map (·.2))[x.j]?=some (.ref q)/\H q=some (.Ai ys)/\ys.map (·.1)=x.ks/\Aa F.K G x.ds (ys.map (·.2))/\(a::E8 H x.Av (xs.map (·.2))).Nodup/\MH F G H (.ins Ae x.ns x.Av) (.ref a):=by
 obtain⟨A6,AA,B4,BJ⟩:=h2 h;obtain⟨o,A9,w⟩:=r.CE i _ A6;obtain⟨v,rfl,ok⟩:=Z2 AA w;have HD:=ok.at_;simp only[Cb]at HD;obtain⟨a,Ag,xs,rfl,⟨C,BU,AB⟩,FL,ET⟩:=HD;rw[<-FL]at B4;obtain⟨p,EB,D3⟩:=iz B4;obtain⟨u,OK,MC⟩:=og ET BJ;have MM:u=p.2:=by rw[EL,EB]at OK;exact(Eh OK).symm
 subst MM;simp only[Cb]at MC;obtain⟨q,ys,eq,AW,Dc,acr⟩:=MC;have Ct:=ok.Ct;rw[LO AB]at Ct;exact⟨a,C,Ag,xs,q,ys,A9,BU,AB,FL,ET,by rw[D3,eq],by rw[OK,eq],AW,Dc,oe acr,Ct,ok⟩
def LZ(i:Nat)(Ae g:Str)(mk:Ab):Ab:=λρ=>(K1 i Ae g ρ).bind λx=>(mk ρ).bind λk=>HX (.Ai x.ks x.ds) k
def aO(i:Nat)(Ae:Str)(ρ:AG)(x:Ox):KP->R Fk
 |.Ai ks ds=>.ok (.Ay (ρ.set i (O9 x.s (.ins Ae x.ns (x.Av.set x.j (.Ai ks (ds.map .J)))))))
 |_=>.bad
def YR(i:Nat)(Ae:Str)(ρ:AG)(x:Ox)(v:D):Option Bj->R Fk
 |some Bf=>(putD x.ks x.ds Bf v).bind (aO i Ae ρ x)
 |none=>.bad
def NI(i:Nat)(Ae g:Str)(mk mv:Ab):Ao:=λρ=>(mv ρ).bind λv=>(K1 i Ae g ρ).bind λx=>(mk ρ).bind λk=>YR i Ae ρ x v (I4 k)
section
variable{X:Ac}{F:B9}{e:AT}{pos:Pos}{m n:Ab}
def ado(i:Nat){x Ae g:Str}{Ap:List Str}{Cm apos:Pos}(k:Mm X.K Ae Ap)(BR:X.A.units+64<DX)(he:B2 X F e n)(AJ:Wt e)(hf:g∈Ap:=by decide+kernel)(Am:F.K=X.K:=by rfl)(hN:X.N[i]?=some x:=by rfl)(Bc:G_ X.env.scope x:=by first|exact Dq rfl|exact Cr (Dq rfl)|exact Cr (Cr rfl))(hd:(x==("__debug__" :Str))=false:=by decide)(DQ:(x==("__classdict__" :Str))=false:=by decide)(A1:IF (.Name x Cm) g X.env (BN (.Name x Cm) X.env)=BN (.Name x Cm) X.env:=by rfl):B2 X F (.Subscript (.Attribute (.Name x Cm) g apos) e pos) (LZ i Ae g n):=⟨by
 refine Ax.imp (kJ (by lia) (bI (IA hN Bc hd DQ) A1) he.1 AJ) ?_;rintro σ H Q ⟨G,ρ,r,h⟩;unfold LZ at h;cases DJ:K1 i Ae g ρ with
 |bad=>rw[DJ]at h;cases h
 |exc c=>exact(h1 DJ).elim
 |ok y=>
  rw[DJ,R.EV]at h;obtain⟨a,C,Ag,xs,q,ys,A9,BU,AB,FL,ET,lk,lv,AW,Dc,al,_⟩:=r.fd DJ;obtain⟨Ju,Cn,C3,Fp⟩:=k.ex;rw[Am]at BU;have:=BU.inj Cn;subst this;refine⟨.ref a,A9,a,C,Ag,xs,.ref q,rfl,AB,C3,Fp g hf,lk,G,ρ,r,?_⟩;refine rb h λN6 BV h z Az Cz B7 s2 Cs=>?_;simp only[HX]at h
  split at h
  .rename_i Bf ej;obtain⟨b,rfl,A1⟩:=PN ej Cs;have f:=YO (K:=F.K) (G:=G) Bf al;rw[Dc]at f
   split at h
   .rename_i d DJ;rw[DJ]at f;obtain⟨v,ev,B8⟩:=f;refine⟨q,v,rfl,?_,h v Az Cz B7 s2 (B8.mono s2.g)⟩;rw[<-ev];exact IY.t (s2.h _ _ AW) (OI A1 B7.kp.sub)
   .exact h.elim
  .exact h.elim⟩
def Rel.hS{G H:AC}{σ :C1.St}{ρ:AG}{i:Nat}{Ae g:Str}{x:Ox}(r:Rel F G H σ ρ)(h:K1 i Ae g ρ=.ok x){q:A7}{HO:List (Bj×V)}{ks':List Bj}{ds':List D}{a C Ag:A7}{xs:List (Str×V)}{ys:List (Bj×V)}(A9: σ[i]?=some (some (.ref a)))(AB:H a=some (.ins C Ag xs))(lv:(xs.map (·.2))[x.j]?=some (.ref q))(AW:H q=some (.Ai ys))(AF:HO.map (·.1)=ks')(n:Aa F.K G ds' (HO.map (·.2))) :
  Rel F G (upd H q (.Ai HO)) σ (ρ.set i (O9 x.s (.ins Ae x.ns (x.Av.set x.j (.Ai ks' (ds'.map .J)))))):=by
 obtain⟨A6,AA,B4,BJ⟩:=h2 h;obtain⟨o,AM,w⟩:=r.CE i _ A6;rw[A9]at AM;cases AM;obtain⟨_,BD,ok⟩:=Z2 AA w;cases BD;have HD:=ok.at_;simp only[Cb]at HD;obtain⟨Ph,UO,Gl,B0,⟨Ju,BU,Ng⟩,FL,ET⟩:=HD;cases B0;rw[AB]at Ng;cases Ng;have Ct:=ok.Ct;have Bw:=ok.own;have DJ:Ak H (.ins Ae x.ns x.Av) (.ref a)=a::E8 H x.Av (xs.map (·.2)):=LO AB;rw[DJ]at Ct Bw;obtain⟨na,bk⟩:=List.nodup_cons.mp Ct;have ZK:q∈E8 H x.Av (xs.map (·.2)):=aP BJ lv (by rw[MO AW];simp);obtain⟨EB,D3⟩:=oh AW AF n ET bk BJ lv;have yY:a≠q:=λz=>na (by rw[z];exact ZK);have VH:upd H q (.Ai HO) a=some (.ins C Ag xs):=by rw[DV yY];exact AB
 have Qy:Ak (upd H q (.Ai HO)) (.ins Ae x.ns (x.Av.set x.j (.Ai ks' (ds'.map .J)))) (.ref a)=a::E8 H x.Av (xs.map (·.2)):=by rw[LO VH,D3]
 refine r.bj A6 A9 ((VP AA).mpr (by rw[DJ];exact Ff _ ZK)) (lD AA w ⟨?_,by rw[Qy];exact Ct,by rw[Qy];exact Bw⟩) λb K_=>.inl ?_
 .simp only[Cb];exact⟨a,Ag,xs,rfl,⟨C,BU,VH⟩,FL,EB⟩
 .have:=(VP (lE AA)).mp K_;rw[Qy,<-DJ]at this;exact(VP AA).mpr this
def ae7(i:Nat){x Ae g:Str}{Ap:List Str}{Cm apos pos':Pos}{k v:AT}{mk mv:Ab}(kc:Mm X.K Ae Ap)(BR:X.A.units+64<DX)(AF:B2 X F k mk)(Bc:B2 X F v mv)(hf:g∈Ap:=by decide+kernel)(Am:F.K=X.K:=by rfl)(hN:X.N[i]?=some x:=by rfl)(RT:G_ X.env.scope x:=by first|exact Dq rfl|exact Cr (Dq rfl)|exact Cr (Cr rfl))(hd:(x==("__debug__" :Str))=false:=by decide)(DQ:(x==("__classdict__" :Str))=false:=by decide)(A1:IF (.Name x Cm) g X.env (BN (.Name x Cm) X.env)=BN (.Name x Cm) X.env:=by rfl):Er X F (.Assign [.Subscript (.Attribute (.Name x Cm) g apos) k pos'] v pos) (NI i Ae g mk mv):=⟨by
 refine DH.imp (lS (by lia) (bI (IA hN RT hd DQ) A1) AF.1 Bc.1 (nS _ _ _ _ _ _)) ?_;rintro CY σ H ⟨G,ρ,r,h⟩;unfold NI at h;refine⟨G,ρ,r,?_⟩;refine rb h λPp B0 h v H1 Af AL s1 B8=>?_;cases DJ:K1 i Ae g ρ with
 |bad=>rw[DJ]at h;cases h
 |exc c=>exact(h1 DJ).elim
 |ok y=>
  rw[DJ,R.EV]at h;obtain⟨a,C,Ag,xs,q,ys,A9,BU,AB,FL,ET,lk,lv,AW,Dc,al,_⟩:=AL.fd DJ;obtain⟨Ju,Cn,C3,Fp⟩:=kc.ex;rw[Am]at BU;have:=BU.inj Cn;subst this;refine⟨.ref a,A9,a,C,Ag,xs,.ref q,rfl,AB,C3,Fp g hf,lk,Af,ρ,AL,?_⟩;refine rb h λN6 BV h z Az Cz B7 s2 Cs=>?_;have VH:=s2.h _ _ AB;have RS:=s2.h _ _ AW;unfold YR at h
  split at h
  .rename_i Bf ej;obtain⟨b,rfl,A1⟩:=PN ej Cs;have gI:=al.mono s2.g;unfold putD at h
   split at h
   .rename_i AK;obtain⟨JU,F1⟩:=AK;rw[<-Dc]at JU F1;have AV:FQ ys Bf=none:=by
     have:=Vj Bf ys;rw[JU]at this;exact Option.not_isSome_iff_eq_none.mp (by rw[this];exact Fv)
    refine⟨q,_,rfl,Ov.t RS (OI A1 B7.kp.sub) (L3 (by simpa using F1) (by decide)),?_⟩;rw[bO _ AV];refine h σ Cz _ (B7.hS DJ (ks':=y.ks++[Bf]) (ds':=y.ds++[Pp]) A9 VH lv RS (by rw[<-Dc];simp) ?_) (s1.g.trans s2.g);rw[Jp];exact gI.snoc (B8.mono s2.g)
   .split at h
    .rename_i AK;obtain⟨JU,F1⟩:=AK;rw[<-Dc]at JU F1;refine⟨q,_,rfl,Ov.t RS (OI A1 B7.kp.sub) (L3 (by simpa using F1) (by decide)),?_⟩;have BY:C1.putK ys Bf v=ys.map (λD2=>if D2.1=Bf then(D2.1,v)else D2):=by
      unfold C1.putK;rw[Og]at JU;exact if_pos JU
     rw[BY];refine h σ Cz _ (B7.hS DJ (ks':=y.ks) (ds':=RC y.ks y.ds Bf Pp) A9 VH lv RS ?_ ?_) (s1.g.trans s2.g)
     .rw[<-Dc,H7];refine List.map_congr_left λD2 _=>?_;show(if D2.1=Bf then(D2.1,v)else D2).1=D2.1
      split<;>rfl
     .rw[<-Dc];exact Yx (B8.mono s2.g) gI
    .exact h.elim
  .exact h.elim⟩
end
noncomputable def TA(Ae f:Str)(t:T)(ρ:AG):Option Bi->R Fk
 |some (.BX k (.ins c ns Av))=>if c=Ae/\ns.all (λk=>!(f==k))=true/\ns.length<1000 then .ok (.Ay (ρ.set 0 (.BX k (.ins Ae (ns++[f]) (Av++[t])))))else .bad
 |_=>.bad
def PT(Ae f:Str)(m:Ab):Ao:=λρ=>(m ρ).bind λd=>TA Ae f (.J d) ρ (ρ[0]? :Option Bi)
def Sj(Ae f:Str):Ao:=λρ=>TA Ae f (.Ai [] []) ρ (ρ[0]? :Option Bi)
section
variable{F:B9}{G H:AC}{σ :C1.St}{ρ:AG}
def Rel.iY(r:Rel F G H σ ρ){k:Nat}{Ae f:Str}{ns:List Str}{Av:List T}{t:T}{a C Ag:A7}{xs:List (Str×V)}{v:V}(e:ρ[0]?=some (.BX k (.ins Ae ns Av)))(B0: σ[0]?=some (some (.ref a)))(AB:H a=some (.ins C Ag xs))(AV:ns.all (λk=>!(f==k))=true)(at_:Cb F.K G H t v)(Ct:(Ak H t v).Nodup)(no:∀b∈Ak H t v,G b=none/\F.H0 b=none/\¬Ca H σ ρ b) :
  Rel F G (upd H a (.ins C Ag (H2 f v xs))) σ (ρ.set 0 (.BX k (.ins Ae (ns++[f]) (Av++[t])))):=by
 obtain⟨o,A9,v0,rfl,ok,AZ⟩:=r.CE 0 _ e;rw[B0]at A9;cases A9;have HD:=ok.at_;simp only[Cb]at HD;obtain⟨Ph,UO,Gl,z,⟨Ju,BU,Ng⟩,FL,ET⟩:=HD;cases z;rw[AB]at Ng;cases Ng;have kd:=ok.Ct;have bE:=ok.own;have DJ:Ak H (.ins Ae ns Av) (.ref a)=a::E8 H Av (xs.map (·.2)):=LO AB;rw[DJ]at kd bE;obtain⟨na,bk⟩:=List.nodup_cons.mp kd;have own:∀b∈a::E8 H Av (xs.map (·.2)),Ca H σ ρ b:=λb A1=>⟨0,_,_,e,B0,.ref a,rfl,by rw[DJ];exact A1⟩;have nat:a∉Ak H t v:=λz=>(no a z).2.2 (own a (by simp));have BY:H2 f v xs=xs++[(f,v)]:=Yu (by rw[FL];exact AV);rw[BY];obtain⟨Cn,C3⟩:=ET.keep (H':=upd H a (.ins C Ag (xs++[(f,v)]))) λb A1=>DV λz=>na (by rw[<-z];exact A1);obtain⟨Fp,OW⟩:=at_.keep (H':=upd H a (.ins C Ag (xs++[(f,v)]))) λb A1=>DV λz=>nat (by rw[<-z];exact A1);obtain⟨EB,D3⟩:=Bt.append Cn (Bt.cons Fp Bt.nil);have em:(xs++[(f,v)]).map (·.2)=xs.map (·.2)++[v]:=by simp
 have Qy:Ak (upd H a (.ins C Ag (xs++[(f,v)]))) (.ins Ae (ns++[f]) (Av++[t])) (.ref a)=a::(E8 H Av (xs.map (·.2))++Ak H t v):=by rw[LO Dz,em,D3,C3,HZ,OW,TB,Le]
 refine r.bj e B0 ⟨.ref a,rfl,by rw[DJ];simp⟩ ⟨.ref a,rfl,⟨?_,?_,?_⟩,AZ⟩ λb K_=>?_
 .simp only[Cb];exact⟨a,Ag,_,rfl,⟨C,BU,Dz⟩,by simp[FL],by rw[em];exact EB⟩
 .rw[Qy];refine List.nodup_cons.mpr ⟨λz=>?_,List.nodup_append.mpr ⟨bk,Ct,λb A1 c AK z=>(no c AK).2.2 (own c (by rw[<-z];exact Ff _ A1))⟩⟩;rcases List.mem_append.mp z with z|z
  .exact na z
  .exact nat z
 .rw[Qy];intro b A1;rcases List.mem_cons.mp A1 with rfl|A1
  .exact bE b (by simp)
  .rcases List.mem_append.mp A1 with A1|A1
   .exact bE b (Ff _ A1)
   .exact⟨(no b A1).1,(no b A1).2.1⟩
 .obtain⟨u,MM,A1⟩:=K_;cases MM;rw[Qy]at A1;rcases List.mem_cons.mp A1 with rfl|A1
  .exact .inl ⟨.ref b,rfl,by rw[DJ];simp⟩
  .rcases List.mem_append.mp A1 with A1|A1
   .exact .inl ⟨.ref a,rfl,by rw[DJ];exact Ff _ A1⟩
   .exact .inr (no b A1).2.2
end
section
variable{X:Ac}{F:B9}{e:AT}{pos:Pos}{m:Ab}
def aeG{Ae f x:Str}{Ap:List Str}{Cm pos':Pos}(k:Mm X.K Ae Ap)(he:B2 X F e m)(hf:f∈Ap:=by decide+kernel)(hN:X.N[0]?=some x:=by rfl)(Bc:G_ X.env.scope x:=by first|exact Dq rfl|exact Cr (Dq rfl)|exact Cr (Cr rfl))(hd:(x==("__debug__" :Str))=false:=by decide)(DQ:(x==("__classdict__" :Str))=false:=by decide)(AJ:Pa e=true:=by rfl)(Am:F.K=X.K:=by rfl) :
  Er X F (.Assign [.Attribute (.Name x Cm) f pos'] e pos) (PT Ae f m):=⟨by
 refine DH.imp (bM (IA hN Bc hd DQ) he.1 (M9 _ _ _ _ AJ)) ?_;rintro CY σ H ⟨G,ρ,r,h⟩;unfold PT at h;refine⟨G,ρ,r,?_⟩;refine rb h λd B0 h v H1 Af AL s1 B8=>?_;unfold TA at h
 split at h
 .rename_i Bf c ns Av CU
  split at h
  .rename_i AK;obtain⟨rfl,F1,TF⟩:=AK;obtain⟨o,A9,v0,rfl,ok,AZ⟩:=AL.CE 0 _ CU;have HD:=ok.at_;simp only[Cb]at HD;obtain⟨a,Ag,xs,rfl,⟨C,BU,AB⟩,FL,ET⟩:=HD;obtain⟨Ju,Cn,C3,Fp⟩:=k.ex;rw[Am]at BU;have:=BU.inj Cn;subst this;refine⟨.ref a,A9,a,C,Ag,xs,rfl,AB,C3,Fp f hf,by have:=congrArg List.length FL;simp at this;lia,?_⟩;exact h σ Af _ (AL.iY CU A9 AB F1 (t:=.J d) (by simp only[Cb];exact B8) (by simp[Ak]) (by simp[Ak])) s1.g
  .exact h.elim
 .exact h.elim⟩
def aeH{Ae f x:Str}{Ap:List Str}{Cm pos' q:Pos}(k:Mm X.K Ae Ap)(hf:f∈Ap:=by decide+kernel)(hN:X.N[0]?=some x:=by rfl)(Bc:G_ X.env.scope x:=by first|exact Dq rfl|exact Cr (Dq rfl)|exact Cr (Cr rfl))(hd:(x==("__debug__" :Str))=false:=by decide)(DQ:(x==("__classdict__" :Str))=false:=by decide)(Am:F.K=X.K:=by rfl) :
  Er X F (.Assign [.Attribute (.Name x Cm) f pos'] (.Dict [] [] q) pos) (Sj Ae f):=⟨by
 refine DH.imp (bM (IA hN Bc hd DQ) kK (M9 _ _ _ _ rfl)) ?_;rintro CY σ H ⟨G,ρ,r,h⟩;unfold Sj TA at h;intro p Uf
 split at h
 .rename_i Bf c ns Av CU
  split at h
  .rename_i AK;obtain⟨rfl,F1,TF⟩:=AK;have AL:=r.lay0 (o:=.Ai []) Uf;obtain⟨o,A9,v0,rfl,ok,AZ⟩:=AL.CE 0 _ CU;have HD:=ok.at_;simp only[Cb]at HD;obtain⟨a,Ag,xs,rfl,⟨C,BU,AB⟩,FL,ET⟩:=HD;obtain⟨Ju,Cn,C3,Fp⟩:=k.ex;rw[Am]at BU;have:=BU.inj Cn;subst this;refine⟨.ref a,A9,a,C,Ag,xs,rfl,AB,C3,Fp f hf,by have:=congrArg List.length FL;simp at this;lia,?_⟩;have i_:Ak (upd H p (.Ai [])) (.Ai [] []) (.ref p)=[p]:=by rw[MO Dz,TB]
   exact h σ G _ (AL.iY CU A9 AB F1 (t:=.Ai [] []) (v:=.ref p) (by simp only[Cb];exact⟨p,[],rfl,Dz,rfl,Bt.nil⟩) (by rw[i_];simp) (by rw[i_];intro b A1;rw[List.mem_singleton.mp A1];exact⟨r.kp.sub.gone Uf,r.kp.BE.gone Uf,Ca.fresh r (Sub.upd Uf) Uf⟩)) (Sub.refl _)
  .exact h.elim
 .exact h.elim⟩
end
def wq(F:B9)(x:A7)(Q:Cc):R T->Prop
 |.ok t=>∀G' H',FS F G' H'->MH F G' H' t (.ref x)->Q .non H'
 |_=>False
noncomputable def cj(K:A_)(Ae:Str)(n:Nat)(Ba:List D->R T):AY:=λvs H Q E=>∃G x C Ag A5 ws,vs=.ref x::ws/\Fx K Ae C/\H x=some (.ins C Ag [])/\G x=none/\Sub G H/\Aa K G A5 ws/\A5.length=n/\wq ⟨K,G,Gv H [x],λ_ _=>False,Iq⟩ x Q (Ba A5)
def jb:D×T->R T
 |(.non,t)=>.ok t
 |_=>.bad
def Xy(Ae:Str)(N:Nat)(m:Ao)(A5:List D):R T:=(PQ N m (.ins Ae [] []) A5).bind jb
def abM{K:A_}{Ae:Str}{n N:Nat}{m:Ao}:∀vs H Q E,cj K Ae n (Xy Ae N m) vs H Q E->VW K n (PQ N m) vs H Q E:=λvs H Q E h=>by
 obtain⟨G,x,C,Ag,A5,ws,rfl,Gp,A6,AA,s,B8,l,k⟩:=h;have DJ:Ak H (.ins Ae [] []) (.ref x)=[x]:=by rw[LO A6,TB]
 refine⟨G,.ins Ae [] [],.ref x,A5,ws,rfl,s,?_,by rw[DJ];simp,by rw[DJ];intro b A1;rw[List.mem_singleton.mp A1];exact AA,B8,l,?_⟩
 .simp only[Cb];exact⟨x,Ag,[],rfl,⟨C,Gp,A6⟩,rfl,Bt.nil⟩
 .rw[DJ];unfold Xy at k;cases e:PQ N m (.ins Ae [] []) A5 with
  |bad=>rw[e]at k;cases k
  |exc c=>rw[e]at k;cases k
  |ok y=>
   rw[e,R.EV]at k;obtain⟨d,t⟩:=y;cases d with
   |non=>intro u G' H' kp KW ok;simp only[At]at KW;subst KW;exact k G' H' kp ok
   |_=>cases k
structure eP(P:C2)(w:Bh)(K:A_)(mg:Str->Option A8)(base:BP)(Ae:Str)(n k:Nat)(Ba:List D->R T):Prop where
 ex:∃(C f:A7)(fd:G5)(Aq:List Str),Fx K Ae C/\U8 K C f/\GX P w K mg base Gs k f fd Aq (cj K Ae n Ba)/\mg Ae=some (.ref C)/\Binds K fd Aq []
def aec{P:C2}{w:Bh}{K:A_}{mg:Str->Option A8}{base:BP}{qual Ae FH Kl:Str}{st:Bb}{N Aq:List Str}{k:Nat}{m:Ao}(d:InK K mg Ae qual st (FH::Aq))(S:Cg (Kl::N) (FH::Aq) (Bv st))(h:∀(f:A7)(CJ:A8)(A:CR)(outer:List Env)(s:AQ)(H:AC)(E:DP),Ch k (A.deeper (NL qual (Bv st) s.heap.objs.size f CJ))->∀G0 H0 v,Jy (JR Gs P w K mg base (Kl::N) qual (Bv st) f CJ A outer s H E).Kp (VA K G0 H0 v) (GR st) m) :
  eP P w K mg base Ae Aq.length (k+1) (Xy Ae (N.length+1) m):=by
 obtain⟨C,f,fd,A6,AA,B4,BJ,Es⟩:=d.ex;refine⟨C,f,fd,FH::Aq,A6,AA,GX.imp (B4.ok S nD λCJ A outer s H vs Q E B3 AJ=>?_) abM,BJ,Es⟩;obtain⟨G,H0,v,Aj⟩:=gV AJ;exact⟨_,(h f CJ A outer s H E B3 G H0 v).1,Aj⟩
def Re(n:Nat)(Ba:List D->R T)(ma:Au):Ab:=λρ=>(ma ρ).bind λds=>if ds.length=n then(Hd (Ba ds)).bind λt=>.ok (toD t)else .bad
section
variable{X:Ac}{F:B9}{e:AT}{A5:List AT}{pos p:Pos}{ma:Au}
def vt{Ae:Str}{n:Nat}{Ba:List D->R T}{C:A7}{E:DP}(Gp:Fx F.K Ae C):Ec (Cv F (Re n Ba ma)) (c4 C (cj F.K Ae n Ba) [] E (Ew F ma)):=by
 rintro σ H Q ⟨G,ρ,r,h⟩;unfold Re at h;refine⟨G,ρ,r,?_⟩;refine rb h λds B0 h vs H1 Af AL s1 B8 x Ag AI af ne=>?_;by_cases AV:ds.length=n
 .rw[if_pos AV]at h;rw[Le];have Pc:Sub H1 (Gv (upd (upd H1 Ag (.own x)) x (.ins C Ag [])) [x]):=λb o e=>by
   have DT:b≠x:=λz=>by rw[z,AI]at e;cases e
   have Dx:b≠Ag:=λz=>by rw[z,af]at e;cases e
   rw[T1 (by simpa using DT),DV DT,DV Dx];exact e
  have bQ:Sub Af (upd (upd H1 Ag (.own x)) x (.ins C Ag [])):=AL.kp.sub.trans (Pc.trans (hr _ _));refine⟨Af,x,C,Ag,ds,vs,rfl,Gp,Dz,AL.kp.sub.gone AI,bQ,B8,AV,?_⟩;cases em:Ba ds with
  |bad=>rw[em]at h;cases h
  |exc c=>rw[em]at h;cases h
  |ok t=>rw[em]at h;intro G' H' k ok;refine⟨rfl,?_⟩;have BE:Sub H1 H':=Pc.trans k.BE;have nw:∀b,Hz H1 b->G' b=Af b:=λb A1=>k.new b (Pc.Jh A1);have B7:Rel F G' H' σ ρ:=AL.grow k.EP k.sub BE nw;have fr:∀b∈Ak H' t (.ref x),H1 b=none:=λb A1=>Pc.gone (ok.own b A1).2;obtain⟨t1,Do,t3⟩:=B7.c9 (G0:=G) (H0:=H) (by rfl) ok (s1.trans ⟨k.EP,BE,nw⟩) λb A1=>⟨s1.h.gone (fr b A1),AL.kp.BE.gone (fr b A1),Ca.fresh AL BE (fr b A1)⟩;exact h (.ref x) H' _ t1 Do t3
 .rw[if_neg AV]at h;cases h
def adL{Ae:Str}{n k:Nat}{Ba:List D->R T}(c:eP X.prog X.w X.K X.mg X.base Ae n k Ba)(B3:Ch (k+1) X.A)(AB:G8 X F (e::A5) ma)(Am:F.K=X.K:=by rfl)(Ad:EG X Ae:=by rfl)(Gq:(Ae==("__debug__" :Str))=false:=by decide)(he:BI (e::A5) X.env=(false,BN e X.env)::BI A5 X.env:=by rfl)(Dv:(DC pos (BI A5 X.env)).any (·.1)=false:=by rfl):B2 X F (.Call (.Name Ae p) (e::A5) [] pos) (Re n Ba ma):=⟨by
 have AB:=AB.1;obtain⟨C,f,fd,Aq,BU,E3,HI,hm,A1⟩:=c.ex;refine Ax.imp (jo E3 HI B3 Ad hm A1 .nil RA AB Gq he Dv) ?_;rw[<-Am];exact vt (by rw[Am];exact BU)⟩
end
def PS(i:Nat)(m:HB):HB:=λρ=>(ownAt i ρ).bind λ_=>(m ρ).bind λx=>Si i (λ_=>.ok x.1) x.2
section
variable{X:Ac}{F:B9}{e:AT}{A5:List AT}{pos p:Pos}{m:Ab}{ma:Au}
def aeb (i:Nat) {x:Str} {Cm:Pos} {apos:Pos} {Bs:Pos} {m:HB} (he:Pf X F e m) (hN:X.N[i]?=some x:=by rfl) (Bc:G_ X.env.scope x:=by first|exact Dq rfl|exact Cr (Dq rfl)|exact Cr (Cr rfl)) (hd:(x==("__debug__" :Str))=false:=by decide) (DQ:(x==("__classdict__" :Str))=false:=by decide) (MQ:IF (.Name x Cm) "extend" X.env (BN (.Name x Cm) X.env)=BN (.Name x Cm) X.env:=by rfl) (Lq:(apos.endLine==Bs.line)=true:=by rfl) (Lp:((DC Bs (BI [e] X.env)).all (λx=>!x.1)&&(H9 Bs (H8 [] X.env)).all (λx=>x.1.isSome)
   &&decide (([e]:List AT).length+([]:List Fg).length+(if([]:List Fg).isEmpty then 0 else 1)<30))=true:=by rfl) (AJ:BI [e] X.env=(false,BN e X.env)::BI [] X.env:=by rfl) (Ls:(DC Bs (BI [] X.env)).any (·.1)=false:=by rfl):Pf X F (.Call (.Attribute (.Name x Cm) "extend" apos) [e] [] Bs) (PS i m):=⟨by
 have he:=he.1;refine Ax.imp (Vy Tg pF pG ka (IA hN Bc hd DQ) (P7 he R9 AJ) MQ Lp Lq AJ Ls) ?_;rintro σ H Q ⟨G,ρ,r,h⟩;unfold PS ownAt at h;cases CU:ρ[i]? with
 |none=>rw[CU]at h;cases h
 |some s=>
  rw[CU]at h;cases s with
  |un=>cases h
  |J _=>cases h
  |Ef _=>cases h
  |BX _ _=>cases h
  |ob ob=>
   cases ob with
   |Ai _ _=>cases h
   |ins _ _ _=>cases h
   |lst ds=>
    obtain⟨q,xs,A9,A6,AA,B4,BJ⟩:=r.own CU;rw[R.EV]at h;refine⟨.ref q,A9,.inl ⟨rfl,xs,C9.of A6⟩,G,ρ,r,?_⟩;cases B0:m ρ with
    |bad=>rw[B0]at h;cases h
    |exc c=>rw[B0]at h;exact h
    |ok y=>
     obtain⟨d,EU⟩:=y;rw[B0,R.EV]at h;intro v H1 Af AL s1 B8;simp only[Si,ownAt]at h;cases Nc:EU[i]? with
     |none=>rw[Nc]at h;cases h
     |some aaQ=>
      rw[Nc]at h;cases aaQ with
      |un=>cases h
      |J _=>cases h
      |Ef _=>cases h
      |BX _ _=>cases h
      |ob ob=>
       cases ob with
       |Ai _ _=>cases h
       |ins _ _ _=>cases h
       |lst Gb=>
        rw[R.EV,R.EV]at h;obtain⟨Gj,Gl,Ek,Ig,Nf,PE,Go⟩:=AL.own Nc;rw[A9]at Ek;cases Ek;cases d with
        |lst A5=>
         simp only at h
         split at h
         .rename_i AN;simp only[At]at B8;obtain⟨D3,ys,rfl,g2,BF⟩:=B8;refine⟨q,D3,Gl,ys,rfl,rfl,Ig,AL.kp.sub _ _ g2,by rw[<-Go.length,<-BF.length,QM];lia,?_⟩;exact h .non _ Af (AL.mut Nc A9 (Go.append BF)) s1 (by simp only[At])
         .exact h.elim
        |_=>exact h.elim⟩
end
section
variable{X:Ac}{F:B9}{e:AT}{pos:Pos}{m n:Ab}
end
end CT
namespace LE
open PySem
def Qm(h:BP)(d:A7)(A5:Array L0):Prop:=∃o,h.get? d=some o/\o.ExactDict/\o.data=.dict A5 A5.size
def Qm.typeIs{s:AQ}{d:A7}{A5:Array L0}(x:Qm s.heap d A5):s.TypeIs (.ref d) "dict":=let⟨o,ho,c,_⟩:=x;⟨o,ho,c.1⟩
section
variable{prog:C2}{w:Bh}{A:CR}{E:A8->AQ->Prop}{s:AQ}{A5:Array L0}
def VT{a:A7}{c:A8}{vs:Array A8}{i:Nat}{x:A8}{Q:Unit->AQ->Prop}(ho:s.heap.get? a=some { cls:=c,data:=.fields vs })(AD:i<vs.size)(Dk:∀h',h'.get? a=some { cls:=c,data:=.fields (vs.setIfInBounds i x) }->h'.objs.size=s.heap.objs.size->(∀b o,b≠a->s.heap.get? b=some o->h'.get? b=some o)->Q () { s with heap:=h' }) :
  Al (BG prog w) A (setField (.ref a) i x) Q E s:=by
 refine Rz ho rfl AD (Dk _ ?_ ?_ λb o A1 e=>(Ky ..).2 b A1|>.trans e)
 .rw[NO _ ho (dE (Tc rfl _))];rfl
 .exact(Ky ..).1
def vG {it d:A7} {i:Nat} {ok DA:A8} {Q:Option A8->AQ->Prop} (hit:IsItemIter s.heap it d i A5.size A5.size ok DA) (hm:Qm s.heap d A5) (a4:i<A5.size)(Dk:∀h',IsItemIterOut h' it d (i+1) A5.size A5.size A5[i].key A5[i].val s.heap.objs.size->h'.get? s.heap.objs.size=some { cls:=.type "tuple",data:=.seq #[A5[i].key,A5[i].val] }->h'.objs.size=s.heap.objs.size+1->
    (∀b o,b≠it->s.heap.get? b=some o->h'.get? b=some o)->Q (some (.ref s.heap.objs.size)) { s with heap:=h' }) :
  Al (BG prog w) A (J5 (.ref it)) Q E s:=by
 have Cw:s.TypeIs (.ref it) "dict_itemiterator":=⟨_,hit,rfl⟩;obtain⟨EN,Lr,DQ,Lo⟩:=id hm;unfold J5
 refine AR (Ry (MW (name:=Fw "__next__") Cw WH
  (J3 WH Cw p4 ?_ (p3 _))))
 refine AR (BM ?_);refine AR ?_;refine AR ?_;refine AR (WG Cw (BM ?_));refine AR (Wc hit rfl ?_);have OS:Ta "dict_itemiterator"=true:=by decide
 simp only[OS,if_true];show Al _ _ (if(Db d==GG)=true then _ else _) _ _ s;rw[if_neg (show¬((Db d==GG)=true)from Fv)];refine AR (BM ?_);refine AR (QH Lr Lo ?_);rw[if_neg (by simp)];refine AR (BM ?_);refine AR (Rs Lr Lo ?_);rw[if_neg (by simp)];refine BM ?_;simp only[show¬((i:Int)<0)from by lia,if_false,MT,T_ a4];refine AR ?_;refine AR (WG Cw (BM ?_));refine AR (dA Cw ?_);show Al _ _ (setField (.ref it) 3 (KI ((i:Int)+1))>>=_) _ _ s;refine AR (VT hit (by simp) λA6 g1 DZ Cn=>?_);have ip:Shared.TypeIs { s with heap:=A6 } (.ref it) "dict_itemiterator":=⟨_,g1,rfl⟩;refine AR (Kx ?_);refine AR (dA ip ?_);show Al _ _ (Builtin.Dict_items.isOneOf _ _>>=_) _ _ _;refine AR (dA ip ?_);show Al _ _ (p0 (.ref it) 6 A5[i].key A5[i].val) _ _ _;unfold p0;refine AR (wpAny_newTuple ?_);have g2:(A6.push { cls:=.type "tuple",data:=.seq #[A5[i].key,A5[i].val] }).get? it=_:=Da _ g1;have Do:(A6.push { cls:=.type "tuple",data:=.seq #[A5[i].key,A5[i].val] }).get? s.heap.objs.size=some { cls:=.type "tuple",data:=.seq #[A5[i].key,A5[i].val] }:=by rw[<-DZ];exact F4 _ rfl
 have Dh:(A6.push { cls:=.type "tuple",data:=.seq #[A5[i].key,A5[i].val] }).objs.size=s.heap.objs.size+1:=by rw[<-DZ];simp[Heap.push]
 have C3:∀b o,b≠it->s.heap.get? b=some o->(A6.push { cls:=.type "tuple",data:=.seq #[A5[i].key,A5[i].val] }).get? b=some o:=λb o A1 e=>Da _ (Cn b o A1 e);have ne:s.heap.objs.size≠it:=λz=>by exact absurd z (Li (D_ hit))
 generalize A6.push { cls:=.type "tuple",data:=.seq #[A5[i].key,A5[i].val] }=AA at g2 Do Dh C3 |-;rw[DZ];unfold Builtin.Dict_items.ownedTupleIsFree;refine AR (AR (HS g2 rfl (x:=.none) (by simp) (BM ?_)));refine AR (HS g2 rfl (x:=ok) (by simp) ?_);refine AR (HS g2 rfl (x:=DA) (by simp) ?_);refine AR (VT g2 (by simp) λB4 g3 Pv Fp=>?_);refine AR (VT g3 (by simp) λBJ g4 RO OW=>?_);refine AR (VT g4 (by simp) λEs VB d2 j3=>?_);refine AR (VT VB (by simp) λD6 YT aez j4=>?_);refine AR (Tq (BM (BM ⟨_,rfl,BM (Dk D6 ?_ ?_ ?_ λb o A1 e=>?_)⟩)))
 .show D6.get? it=_;rw[YT];simp[KI]
 .exact j4 _ _ ne (j3 _ _ ne (OW _ _ ne (Fp _ _ ne Do)))
 .exact(aez.trans (d2.trans (RO.trans Pv))).trans Dh
 .exact j4 _ _ A1 (j3 _ _ A1 (OW _ _ A1 (Fp _ _ A1 (C3 _ _ A1 e))))
def vF{it d:A7}{ok DA:A8}{Q:Option A8->AQ->Prop}(BE:A.handled=none)(hit:IsItemIter s.heap it d A5.size A5.size A5.size ok DA)(hm:Qm s.heap d A5)(Dk:∀h',Heap.ExtBut it s.heap h'->Q none { s with heap:=h' }):Al (BG prog w) A (J5 (.ref it)) Q E s:=by
 have Cw:s.TypeIs (.ref it) "dict_itemiterator":=⟨_,hit,rfl⟩;obtain⟨EN,Lr,DQ,Lo⟩:=id hm;unfold J5
 refine AR (Ry (MW (name:=Fw "__next__") Cw WH
  (J3 WH Cw p4 ?_ (p3 _))))
 refine AR (BM ?_);refine AR ?_;refine AR ?_;refine AR (WG Cw (BM ?_));refine AR (Wc hit rfl ?_);have OS:Ta "dict_itemiterator"=true:=by decide
 simp only[OS,if_true];show Al _ _ (if(Db d==GG)=true then _ else _) _ _ s;rw[if_neg (show¬((Db d==GG)=true)from Fv)];refine AR (BM ?_);refine AR (QH Lr Lo ?_);rw[if_neg (by simp)];refine AR (BM ?_);refine AR (Rs Lr Lo ?_);rw[if_neg (by simp)];refine BM ?_;simp only[show¬((A5.size:Int)<0)from by lia,if_false,MT,pB (Ci A5.size)];refine AR ?_;refine AR (WG Cw (BM ?_));show Al _ _ (setField (.ref it) 2 .none>>=_) _ _ s;refine AR (Rz hit rfl (by simp) ?_);show Al _ _ (newExc (.type "StopIteration") []>>=_) _ _ _;refine AR ?_;simp only[newExc,newTuple];refine AR (Jo ?_ (by size_fits));refine AR (m:=S0 _ _) (wpAny_of_eq (a:=GG) (by first|rfl|(simp only[S0];rfl)) ?_);refine Jo ?_ (by size_fits);simp only[raiseNew];refine AR (wpAny_handled ?_);rw[show A.in1.handled=none from BE];refine AR (BM (wpAny_throw ?_));refine AR (QK (T:="StopIteration") (b:=true) ⟨_,F4 _ rfl,rfl⟩ dy ?_);exact BM (Dk _ (((Ky ..).extBut.push _).push _))
theorem vi{d:A7}{Q:A8->AQ->Prop}(hd:(d==Hj)=false)(hm:Qm s.heap d A5)(Dk:Q (.ref s.heap.objs.size) { s with heap:=s.heap.push { cls:=.type "dict_items",data:=.fields #[.ref d] } }) :
  Al (BG prog w) A (call (.builtin "dict.items") [.ref d]) Q E s:=by
 have Cw:s.TypeIs (.ref d) "dict":=hm.typeIs;refine WU F.slot_dict_items Cw F.entry_dict_items (F.args_dict_items_1 _) (S:=λA R s=>s.TypeIs (.ref d) "dict"/\R (.ok (.ret (.ref s.heap.objs.size))) { s with heap:=s.heap.push { cls:=.type "dict_items",data:=.fields #[.ref d] } }) (MeetsIn.of_wp λA R s⟨Cw,h⟩=>?_) ⟨Cw,Dk⟩;unfold NT.«dict.items» Builtin.Dict.noArgs;refine AR (AR (W7 Cw ?_));show Al _ _ (pure _) _ _ _;refine BM ?_;unfold dF;rw[if_neg (by rw[hd];exact Fv)];refine AR (BM ?_);exact AR (Jo (BM ⟨_,rfl,h⟩))
theorem vH{v d:A7}{Q:A8->AQ->Prop}(Bc:s.heap.IsItemsView v d)(hm:Qm s.heap d A5)(Dk:Q (.ref s.heap.objs.size) { s with heap:=s.heap.push { cls:=.type "dict_itemiterator",data:=.fields #[.none,.bool false,.ref d,.int 0 0,.int A5.size 0,.int A5.size 0,.none,.none] } }) :
  Al (BG prog w) A (pyIter (.ref v)) Q E s:=by
 obtain⟨o,ho,AK,Ua⟩:=hm;obtain⟨DA,uE,agZ,tA⟩:=id Bc;refine dT Bc.typeIs F.slot_dict_items_iter (J3 F.slot_dict_items_iter Bc.typeIs F.entry_dict_items_iter ?_ (F.args_dict_items_iter_1 _));unfold NT.«dict_items.__iter__»;refine AR ?_;show Al _ _ (pure (Db v)) _ _ s;refine BM ?_;refine AR ?_;unfold Builtin.Dict_items.dictOf;refine AR (HS uE tA (x:=.ref d) (by simp) (BM ?_));unfold Builtin.Dict_items.newIterator;refine AR (AR (QH ho Ua ?_));refine AR (Rs ho Ua ?_);have OS:Ta "dict_itemiterator"=true:=by decide
 simp only[OS,if_true,Builtin.Dict_items.ownedTupleFields,newFields];refine Jo (BM ⟨_,rfl,"dict_itemiterator",_,⟨_,F4 _ rfl,rfl⟩,F.slot_dict_itemiterator_next.lookup,?_⟩) (by show _<=_;simp;decide);exact Dk
end
end LE
namespace C1
open PySem PySem.Spec
theorem Yr{α β:Type}{R:α->β->Prop}:∀{l:List α}{m:List β},Paired R l m->∀(i:Nat) a b,l[i]?=some a->m[i]?=some b->R a b
 |_,_,.nil,i,a,b,e,_=>by simp at e
 |_,_,.cons h t,0,a,b,A9,AM=>by simp at A9 AM;subst A9 AM;exact h
 |_,_,.cons h t,i+1,a,b,A9,AM=>Yr t i a b (by simpa using A9) (by simpa using AM)
noncomputable def eG(d:A7)(n:Nat):It:=⟨λi H=>∃AX,H d=some (.Ai AX)/\AX.length=n/\i<n,
 λi H v H'=>∃p b k y,H p=none/\H'=upd H p (.tup [.ref b,y])/\v=.ref p/\(k.length≠1->KS H k b)/\∀AX,H d=some (.Ai AX)->AX[i]?=some (k,y),λi H=>∃AX,H d=some (.Ai AX)/\AX.length=n/\n=i⟩
def P9{X:Ac}{pins:List (A7×Obj)}{σ :St}{H:AC}{s:AQ}{d:A7}{AX:List (Bj×V)}(I:Inv X pins σ H s)(hd:H d=some (.Ai AX)) :
  ∃xs A5,KT X.K H AX xs/\LE.Qm s.heap d A5/\A5.toList=xs.map (MY (K8 X.prog X.w))/\A5.size=AX.length/\(d==Hj)=false:=by
 obtain⟨_,BO,xs,kt,o,A5,BY,A6,AA,B4,BJ,_,_,Es⟩:=T4 I.Be I.EQ (.inl hd);subst Es;refine⟨xs,A5,kt,⟨o,A6,AA,B4⟩,BJ,?_,BO⟩;rw[<-WS,BJ,GU];exact(Paired.length kt).symm
theorem acA{P:C2}{w:Bh}{K:A_}{elts:List AT}{Bf:Nat}{pos:Pos}(it d:A7)(n:Nat) :
  Turn P w K (.Tuple elts Bf pos) (eG d n) [it] it (λi h=>∃ok DA,IsItemIter h it d i n n ok DA) where
 mem:=by simp
 obj:=λi h st b A1=>by
  obtain⟨ok,DA,e⟩:=st;obtain rfl:b=it:=by simpa using A1
  exact⟨_,e,λv z=>by have G3:Wk _=S3 v:=z;cases G3⟩
 keep:=λi h h' st k=>by obtain⟨ok,DA,e⟩:=st;exact⟨ok,DA,k it (by simp) _ e⟩
 item:=by
  intro X Ce hw Am AK i pins s σ H E I hf st Ad;subst Ce hw Am;obtain⟨AX,AW,AV,AD⟩:=Ad;obtain⟨ok,DA,hit⟩:=st;obtain⟨xs,A5,kt,He,he,BB,BO⟩:=P9 I AW;rw[AV]at BB;subst BB;refine LE.vG hit He AD λh' ho Aj AJ AF=>?_;refine⟨_,rfl,wpAny_letOwnedTupleGo_items ho λAA am F_=>?_⟩;have Cw:s.heap.objs.size∉[it]:=λz=>by
   obtain rfl:s.heap.objs.size=it:=by simpa using z
   exact absurd (D_ hit) (KC _)
  have keep:∀b o,b∉[it]->s.heap.get? b=some o->AA.get? b=some o:=λb o A1 q=>(F_.2 b (by simpa using A1)).trans (AF b o (by simpa using A1) q);obtain⟨D2,V0⟩:∃D2,AX[i]?=some D2:=⟨_,Df (by lia)⟩;obtain⟨q,eq,AL,B7,Dy⟩:∃q,xs[i]?=some q/\D2.1=q.1/\IN X.K H D2.1 q.2.1/\RelV D2.2 q.2.2:=by
   have AN:=Paired.length kt;have Xu:i<xs.length:=by lia
   exact⟨xs[i],Df Xu,Yr kt i _ _ V0 (Df Xu)⟩
  have ei:A5[i]=MY (K8 X.prog X.w) q:=by
   have:A5.toList[i]?=some (MY (K8 X.prog X.w) q):=by rw[he,EL,eq];rfl
   rw[Rp,T_ AD]at this;exact Eh this
  have Ug:WN AA s.heap.objs.size (#[.ref q.2.1,q.2.2]:Array A8):=by have:=(F_.2 _ (by simpa using Cw)).trans Aj;rw[ei]at this;exact⟨_,this,rfl,_,rfl⟩
  have uz:H s.heap.objs.size=none:=I.Be.fresh (Ci _);have Br:Inv X pins σ (upd H s.heap.objs.size (.tup [.ref q.2.1,D2.2])) { s with heap:=AA }:=I.cE (its:=[.ref q.2.1,q.2.2]) (ch:=[it]) (t':=s.toks) keep hf (Ci _) Ug (.cons rfl (.cons Dy .nil)) (by show 2<=CF;decide);refine⟨.ref s.heap.objs.size,_,Br,rfl,⟨s.heap.objs.size,q.2.1,D2.1,D2.2,uz,rfl,rfl,λz=>B7.elim id λ⟨x,_,_,_,BD,_⟩=>absurd (by rw[BD];rfl) z,λks AF=>by rw[AW]at AF;cases AF;exact V0⟩,⟨_,_,am⟩,λb A1=>?_⟩;have nb:b≠s.heap.objs.size:=λz=>Cw (z▸A1);rw[DV nb];exact(hf b A1).1
 done:=by
  intro X Ce hw Am AK i pins s σ H E I hf st Ad;subst Ce hw Am;obtain⟨AX,AW,AV,AD⟩:=Ad;obtain⟨ok,DA,hit⟩:=st;obtain⟨xs,A5,kt,He,he,BB,BO⟩:=P9 I AW;have A9:n=A5.size:=by lia
  subst A9 AD;refine LE.vF (I.ok.hd AK) hit He λh' AF=>⟨rfl,I.Ve (ch:=[it]) (t':=s.toks) (λb o A1 q=>AF b o (by simpa using A1) q) hf⟩
 self:=λA i s Q E st h=>by obtain⟨ok,DA,hit⟩:=st;have Cw:s.TypeIs (.ref it) "dict_itemiterator":=⟨_,hit,rfl⟩;refine dT Cw ox (J3 ox Cw (show entryFor table "dict_itemiterator.__iter__"=some NT.«dict_keyiterator.__iter__» by kernel_rfl) ?_ (F.args_dict_itemiterator_iter_1 _));show Al _ _ (pure _) _ _ _;exact BM ⟨_,rfl,"dict_itemiterator",_,Cw,F.slot_dict_itemiterator_next.lookup,h⟩
section
variable{X:Ac}{elts:List AT}{Bf:Nat}{Q7:Pos}
def hy(F2:TE):TI:=λσ H R=>F2 σ H λv H1=>∃d AX,v=.ref d/\H1 d=some (.Ai AX)/\R (eG d AX.length) H1
def zH{o:AT}{F2:TE}{apos Bs:Pos}(ho:Ax X o F2)(A1:IF o "items" X.env (BN o X.env)=BN o X.env)(AN:(apos.endLine==Bs.line)=true)(hf:((DC Bs (BI [] X.env)).all (λx=>!x.1)&&(H9 Bs (H8 [] X.env)).all (λx=>x.1.isSome)&&decide (([]:List AT).length+([]:List Fg).length+(if([]:List Fg).isEmpty then 0 else 1)<30))=true:=by rfl)(Aj:DC Bs (BI [] X.env)=[]:=by rfl) :
  Fl X (.Tuple elts Bf Q7) (.Call (.Attribute o "items" apos) [] [] Bs) (hy F2):=by
 intro pins s σ H R I h;refine dR A1 hf AN dM PySem.F.slot_dict_items PySem.F.type_dict_items (Bd (ho pins s σ H _ I h) λu s1⟨x,H1,As,BQ,d,AX,ex,hd,q⟩=>?_);subst ex;obtain rfl:u=Db d:=BQ;obtain⟨t1,Do,_⟩:=Zm As (.inr ⟨AX,.inl hd⟩);refine⟨t1,Do,?_⟩;rw[Aj];obtain⟨xs,A5,kt,He,he,BB,BO⟩:=P9 As hd;refine WE rfl (PySem.evalArgs_none ?_);refine LE.vi BO He ?_;have Br:Inv X pins σ H1 { s1 with heap:=s1.heap.push { cls:=.type "dict_items",data:=.fields #[.ref d] } }:=As.kept (t':=s1.toks) λb o e=>Da _ e;obtain⟨Nw,afs,agn,aaC,ag_,aE,_⟩:=P9 Br hd;refine LE.vH ⟨_,F4 _ rfl,rfl,rfl⟩ aaC ?_;refine⟨_,[_],_,_,H1,rfl,Br.kept (t':=s1.toks) λb o e=>Da _ e,acA _ d AX.length,⟨_,_,by rw[<-aE];exact F4 _ rfl⟩,λb A1=>?_,q⟩;obtain rfl:=List.mem_singleton.mp A1;exact Br.N8 (Ci _) (Br.Be.fresh (Ci _))
end
end C1
namespace CT
open PySem PySem.Spec C1
def Ur:Key->D
 |.inl i=>.int i
 |.inr x=>.str x
def Vv:JB->D
 |.inl k=>Ur k
 |.inr ks=>.tup (ks.map Ur)
def j7{K:A_}{G:AC}(k:Key):At K G (Ur k) (Dl k):=by cases k<;>simp only[Ur,At]<;>rfl
theorem j8{K:A_}{G:AC}:∀ks:List Key,Aa K G (ks.map Ur) (ks.map Dl)
 |[]=>.nil
 |k::ks=>.cons (j7 k) (j8 ks)
theorem ZO{K:A_}{G H:AC}(t:∀b ys,H b=some (.tup ys)->G b=some (.tup ys)):∀{k:Bj}{vs:List V},Paired (Mg H) k vs->Aa K G (k.map Vv) vs
 |_,_,.nil=>.nil
 |.inl k::_,_,.cons h r=>.cons (by have h:_=Dl k:=h;rw[h];exact j7 k) (ZO t r)
 |.inr ks::_,_,.cons h r=>.cons (by obtain⟨b,rfl,e⟩:=h;simp only[Vv,At];exact⟨b,_,rfl,t _ _ e,j8 ks⟩) (ZO t r)
def S_(ks:List Bj)(ds:List D):List D:=(ks.zip ds).map λp=>.tup [.tup (p.1.map Vv),p.2]
def YI:D->R (List D)
 |.Ai ks ds=>if ks.all (λk=>k.length !=1)=true then .ok (S_ ks ds)else .bad
 |_=>.bad
def vA{K:A_}{G:AC}{d:A7}{ds:List D}{AX:List (Bj×V)}(h:G d=some (.Ai AX))(AF:(AX.map (·.1)).all (λk=>k.length !=1)=true)(q:Aa K G ds (AX.map (·.2))):LJ K (eG d AX.length) (S_ (AX.map (·.1)) ds) G where
 go:=λi H s AD=>by
  have AD:i<min AX.length ds.length:=by simpa[S_]using AD
  exact⟨AX,s _ _ h,rfl,by lia⟩
 IX:=λi H v H' s AD y=>by
  obtain⟨p,b,k,y,AZ,rfl,rfl,CV,RN⟩:=y;have ex:=RN AX (s _ _ h);have AM:(AX.map (·.2))[i]?=some y:=by rw[EL,ex];rfl
  have A9:(AX.map (·.1))[i]?=some k:=by rw[EL,ex];rfl
  obtain⟨d',e,a⟩:=q.VE AM;have yh:k.length≠1:=by simpa using List.all_eq_true.mp AF k (KD A9)
  refine⟨.tup [.tup (k.map Vv),d'],?_,.inr ⟨p,_,_,AZ,rfl,rfl,rfl,λAf s1 t1=>.cons ?_ (.cons (a.mono s1) .nil)⟩⟩
  .unfold S_;rw[EL];have QW:((AX.map (·.1)).zip ds)[i]?=some (k,d'):=by
    rw[pP];exact⟨A9,e⟩
   rw[QW];rfl
  .obtain⟨vs,ev,W2⟩:=CV yh;simp only[At];exact⟨b,vs,rfl,t1 _ _ ev,ZO t1 W2⟩
 stop:=λH s=>⟨AX,s _ _ h,rfl,by simp[S_,q.length]⟩
def Rc(m:Ab):Au:=λρ=>(m ρ).bind YI
section
variable{X:Ac}{F:B9}{e:AT}{m:Ab}
def vm:Md (KB F (Rc m)) (hy (Cv F m)):=by
 rintro σ H Q ⟨G,ρ,r,h⟩;unfold Rc at h;refine⟨G,ρ,r,?_⟩;refine rb h λd B0 h v H1 Af AL s1 a=>?_;unfold YI at h
 split at h
 .split at h
  .rename_i AF;simp only[At]at a;obtain⟨q,xs,rfl,AW,rfl,FY⟩:=a;exact⟨q,xs,rfl,AL.kp.sub _ _ AW,h _ H1 Af AL s1 (vA AW AF FY)⟩
  .exact h.elim
 .exact h.elim
def afG{elts:List AT}{k:Nat}{Vd apos Bs:Pos}(he:B2 X F e m)(A1:IF e "items" X.env (BN e X.env)=BN e X.env:=by rfl)(AN:(apos.endLine==Bs.line)=true:=by rfl)(hf:((DC Bs (BI [] X.env)).all (λx=>!x.1)&&(H9 Bs (H8 [] X.env)).all (λx=>x.1.isSome)&&decide (([]:List AT).length+([]:List Fg).length+(if([]:List Fg).isEmpty then 0 else 1)<30))=true:=by rfl)(Aj:DC Bs (BI [] X.env)=[]:=by rfl) :
  KV X F (.Tuple elts k Vd) (.Call (.Attribute e "items" apos) [] [] Bs) (Rc m):=⟨Fl.imp (zH he.1 A1 AN hf Aj) vm⟩
end
end CT
namespace C1
open PySem PySem.Spec
noncomputable def ace(K:A_)(F2 ty Vf:TE):TE:=λσ H Q=>F2 σ H λx H1=>∃a,x=.ref a/\eE H1 a/\ty σ H1 λy Az=>Vf σ Az λz D0=>∃AX k b,D0 a=some (.Ai AX)/\y=.ref b/\IN K D0 k b/\AX.length<CF/\
 (∀v,FQ AX k=some v->Q v D0)/\(FQ AX k=none->Q z (upd D0 a (.Ai (putK AX k z))))
section
variable{X:Ac}{o e f:AT}{apos Bs:Pos}{F2 ty Vf:TE}
def zq(BR:X.A.units+16<DX)(ho:Ax X o F2)(he:Ax X e ty)(hf:Ax X f Vf)(m:M2 X o "setdefault" apos e f Bs):Ax X (.Call (.Attribute o "setdefault" apos) [e,f] [] Bs) (ace X.K F2 ty Vf):=by
 intro pins s σ H Q I h;refine dR m.base m.few m.line dM PySem.F.slot_dict_setdefault PySem.F.type_dict_setdefault (Bd (ho pins s σ H _ I h) λu s1⟨x,H1,As,BQ,a,ex,d,An⟩=>?_);subst ex;obtain rfl:u=Db a:=BQ;obtain⟨t1,Do,_⟩:=Zm As d;refine⟨t1,Do,?_⟩;rw[m.trees];refine WE rfl (d4 (Tf (Bd (he pins s1 σ H1 _ As An) λGB s2⟨y,Az,Br,Bx,BF⟩=>
  Tf (Bd (hf pins s2 σ Az _ Br BF) λafa s3⟨z,D0,Dg,Z1,AX,k,b,B0,DY,LY,AN,EO,RB⟩=>WP ?_))))
 subst DY;cases(show GB=Db b from Bx);obtain⟨BB,hd,xs,rel,DI⟩:=T4 Dg.Be Dg.EQ (.inl B0);have AI:xs.length<=CF:=by rw[<-Paired.length rel];exact BB
 have KY:=rel.val k;refine LE.ab4 (nest_room BR) hd (Zt Dg.Be Dg.EQ LY) DI (λp AZ=>?_) (λAV h' Po AJ=>?_) AI
 .rw[AZ]at KY;cases ev:FQ AX k with
  |none=>rw[ev]at KY;cases KY
  |some v=>rw[ev]at KY;exact⟨v,D0,Dg.tok _,KY,EO v ev⟩
 .have ev:FQ AX k=none:=by
    rw[AV]at KY;cases ev:FQ AX k with
    |none=>rfl
    |some v=>rw[ev]at KY;cases KY
  have Kc:(putK AX k z).length<=CF:=by have:=bU AX k z;lia
  obtain⟨q,A5,BY,AW,AA,B4,BJ,_,Es⟩:=Po;refine⟨z,_,XM (ob:=.Ai (putK AX k z)) Dg (by rw[B0];exact L2) AJ ⟨q,AW⟩ ⟨Kc,hd,_,(rel.put k LY Z1).keeps λc ys ec=>?_,q,A5,BY,AW,AA,B4,BJ,Es⟩,Z1,RB ev⟩;rw[DV (bl ec B0 (λz=>nomatch z))];exact ec
end
end C1
namespace CT
open PySem PySem.Spec C1
abbrev Nk:=AG->R Bj
def jA(F:B9)(G H:AC)(σ :C1.St)(ρ:AG)(Q:Cc):R Bj->Prop
 |.ok k=>∀b H' G',Rel F G' H' σ ρ->C6 G H G' H'->IN F.K H' k b->Q (.ref b) H'
 |_=>False
def acg(F:B9)(m:Nk):TE:=λσ H Q=>∃G ρ,Rel F G H σ ρ/\jA F G H σ ρ Q (m ρ)
structure XU(X:Ac)(F:B9)(e:AT)(m:Nk):Prop where
 ex:∃t,Ax X e t/\∀ σ H Q,acg F m σ H Q->t σ H Q
def b6:Option Bj->R Bj
 |some k=>.ok k
 |none=>.bad
def L_(m:Ab):Nk:=λρ=>(Hd (m ρ)).bind λd=>b6 (I4 d)
def b_(x:Str):Nk:=λ_=>.ok [.inl (.inr x)]
def fJ(i:Nat)(ρ:AG):R (List Bj×List D):=match ρ[i]? with
 |some (.ob (.Ai ks ds))=>.ok (ks,ds)
 |_=>.bad
noncomputable def Mo(i:Nat)(mk:Nk)(mv:Ab):Ao:=λρ=>(fJ i ρ).bind λx=>(Hd (mk ρ)).bind λk=>(Hd (mv ρ)).bind λv=>if x.1.any (λy=>decide (y=k))=true then(if x.1.length<1000000 then .ok (.Ay ρ)else .bad)else(putD x.1 x.2 k v).bind λo=>.ok (.Ay (ρ.set i (.ob o)))
section
variable{X:Ac}{F:B9}{e f:AT}{pos Cm apos Bs:Pos}{m:Ab}
def aef(he:B2 X F e m):XU X F e (L_ m):=⟨_,he.1,by
 rintro σ H Q ⟨G,ρ,r,h⟩;refine⟨G,ρ,r,?_⟩;unfold L_ at h;cases B0:m ρ with
 |bad=>rw[B0]at h;cases h
 |exc c=>rw[B0]at h;cases h
 |ok d=>
  rw[B0]at h;intro v H1 Af AL s1 a;replace h:jA F G H σ ρ Q (b6 (I4 d)):=h;cases Dc:I4 d with
  |none=>rw[Dc]at h;cases h
  |some k=>rw[Dc]at h;obtain⟨b,rfl,A1⟩:=PN Dc a;exact h b H1 Af AL s1 (.inl (OI A1 AL.kp.sub))⟩
def aee{nm x:Str}(c:LG X.K X.mg nm (.EM [.str x]))(Am:F.K=X.K:=by rfl)(Ad:EG X nm:=by rfl)(hd:(nm==("__debug__" :Str))=false:=by decide):XU X F (.Name nm pos) (b_ x):=by
 obtain⟨v,u,hm,CL,at'⟩:=c.ex;refine⟨_,jn Ad hm CL hd,?_⟩;rintro σ H Q ⟨G,ρ,r,h⟩;have a:=at' λ_=>none;simp only[At,Aa]at a;obtain⟨b,xs,rfl,H4,w,BS,rfl,rfl,rfl⟩:=a;refine h b H G r (C6.refl _ _) (.inr ?_);rcases H4 with(H4|⟨o,H4⟩)|⟨o,its,n,AF,AK,hd,_,vs⟩
 .cases H4
 .cases H4
 .refine⟨x,o,n,?_⟩;generalize el:its.toList=l at vs;cases vs with
  |cons p q=>
   cases q;obtain⟨t,rfl⟩:=p;have:its= #[.str x t]:=by apply Array.ext';rw[el]
   exact⟨t,rfl,by rw[Am];exact AF,AK,by rw[hd,this]⟩
def aeT(i:Nat){x:Str}{mk:Nk}{mv:Ab}(BR:X.A.units+64<DX)(AF:XU X F e mk)(Bc:B2 X F f mv)(Am:F.K=X.K:=by rfl)(hN:X.N[i]?=some x:=by rfl)(RT:G_ X.env.scope x:=by first|exact Dq rfl|exact Cr (Dq rfl)|exact Cr (Cr rfl))(hd:(x==("__debug__" :Str))=false:=by decide)(DQ:(x==("__classdict__" :Str))=false:=by decide)(A1:IF (.Name x Cm) "setdefault" X.env (BN (.Name x Cm) X.env)=BN (.Name x Cm) X.env:=by rfl)(hf:((DC Bs (BI [e,f] X.env)).all (λx=>!x.1)&&(H9 Bs (H8 [] X.env)).all (λx=>x.1.isSome)&&decide (([e,f]:List AT).length+([]:List Fg).length+(if([]:List Fg).isEmpty then 0 else 1)<30))=true:=by rfl)(AN:(apos.endLine==Bs.line)=true:=by rfl)(Aj:DC Bs (BI [e,f] X.env)=[(false,BN e X.env),(false,BN f X.env)]:=by rfl) :
  Er X F (.Expr (.Call (.Attribute (.Name x Cm) "setdefault" apos) [e,f] [] Bs) pos) (Mo i mk mv):=⟨by
 obtain⟨CV,O5,aH⟩:=AF.ex;refine DH.imp (Yt (zq (by lia) (IA hN RT hd DQ) O5 Bc.1 ⟨A1,hf,AN,Aj⟩)) ?_;rintro CY σ H ⟨G,ρ,r,h⟩;unfold Mo fJ at h
 split at h
 .rename_i ks ds CU;obtain⟨q,ho,A9,h0,_,_,aew,rfl,_⟩:=r.obj CU;refine⟨.ref q,A9,q,rfl,.inr ⟨aew,.inl h0⟩,aH σ H _ ⟨G,ρ,r,?_⟩⟩;rw[R.EV]at h;cases Dc:mk ρ with
  |bad=>rw[Dc]at h;cases h
  |exc c=>rw[Dc]at h;cases h
  |ok k=>
   rw[Dc]at h;intro b H1 Af AL s1 LY;refine⟨Af,ρ,AL,?_⟩;cases ev:mv ρ with
   |bad=>rw[ev]at h;cases h
   |exc c=>rw[ev]at h;cases h
   |ok Pp=>
    rw[ev]at h;intro z Az Cz B7 s2 Mk;obtain⟨Gj,F9,Ek,A6,AA,B4,xs,rfl,rfl,al⟩:=B7.obj CU;rw[A9]at Ek;cases Ek;replace h:HL F G CY (if(xs.map (·.1)).any (λy=>decide (y=k))=true then(if(xs.map (·.1)).length<1000000 then .ok (.Ay ρ)else .bad)else(putD (xs.map (·.1)) ds k Pp).bind λo=>.ok (.Ay (ρ.set i (.ob o)))):=h;have vs:=Vj k xs;have kb2:IN X.K Az k b:=by rw[<-Am];exact LY.mono λb ys e=>s2.h _ _ e
    split at h
    .rename_i AK;rw[AK]at vs
     split at h
     .rename_i Kc;exact⟨xs,k,b,A6,rfl,kb2,L3 (by simpa using Kc) (by decide),λv _=>h σ Cz Az B7 (s1.g.trans s2.g),λz=>by rw[z]at vs;cases vs⟩
     .exact h.elim
    .rename_i AK;have AK:(xs.map (·.1)).any (λy=>decide (y=k))=false:=Bool.eq_false_iff.mpr AK;have AV:FQ xs k=none:=by
      rw[AK]at vs;exact Option.not_isSome_iff_eq_none.mp (by rw[vs];exact Fv)
     unfold putD at h
     split at h
     .rename_i F1;refine⟨xs,k,b,A6,rfl,kb2,L3 (by simpa using F1.2) (by decide),λv ev=>(by rw[AV]at ev;cases ev),λ_=>?_⟩;rw[bO _ AV];refine h σ Cz _ (B7.SN CU A9 ⟨xs++[(k,z)],rfl,by simp,?_⟩) (s1.g.trans s2.g);rw[Jp];exact al.snoc Mk
     .rename_i F1
      split at h
      .rename_i TF;rw[AK]at TF;cases TF.1
      .exact h.elim
 .exact h.elim⟩
end
end CT
namespace C1
open PySem PySem.Spec
end C1
namespace CT
open PySem PySem.Spec C1
section
variable{X:Ac}{F:B9}{e o elt iter B_:AT}{pos:Pos}{scope:E6}{m n:Ab}
def aeC(i:Nat)(nl:Nat)(caps:List Nat){y:Str}{py:Pos}{ifs:List AT}{mi:Au}{set:D->AG->R AG}{mt:CN}{Ev:Ab}{Bs:Pos}(hN:X.N.Nodup)(S:Qu X.env.scope X.N scope (Jz scope X.N nl caps) nl caps=true)(AD:KV X F B_ iter mi)(Ad:Qf X scope (Jz scope X.N nl caps) B_ set)(Aj:Ln X scope (Jz scope X.N nl caps) ifs mt)(he:e_ X scope (Jz scope X.N nl caps) elt Ev)(BO:X.N[i]?=some y:=by rfl)(AN:X.env.kindOf y=some .local:=by rfl)(OU:Lk (.ListComp elt [⟨B_,iter,ifs,0⟩] scope Bs) (some (.Name y py)) pos.line X.env=pure true:=by rfl)(AK:X.calm=true:=by rfl)(Am:F.K=X.K:=by rfl)(AJ:∀x,Lg iter X.env x=pure x:=by intro _;rfl) :
  Er X F (.Assign [.Name y py] (.ListComp elt [⟨B_,iter,ifs,0⟩] scope Bs) pos) (E_ i (Rb (DE nl caps mi set mt Ev))):=by
 refine⟨DH.imp (t:=MA (Hf F (Rb (DE nl caps mi set mt Ev))) (Ie i)) ?_ aG⟩;refine DH.imp (t:=MA (Hf F (DE nl caps mi set mt Ev)) (Ie i)) ?_ λCY σ H h=>uY σ H _ h;refine fF (nl:=nl) (caps:=caps) (Q:=λt=>DH X (.Assign [.Name y py] (.ListComp elt [⟨B_,iter,ifs,0⟩] scope Bs) pos) (MA t (Ie i))) Am AD.1 Ad.g Aj (λcl C s H Ak G0 H0=>(he cl C s H Ak G0 H0).1) Ad.Ay Ad.kp λg g1 t1 A9 imp=>?_;exact DH.imp (lR (.of S) AK hN BO AN AD.1 g1 t1 A9 OU AJ) λCY σ H h=>imp σ H _ h
end
end CT
namespace LT
open PySem PyProof.Rows
section
variable{prog:C2}{w:Bh}{A:CR}{E:A8->AQ->Prop}{s:AQ}{qC:Array Keyed}{DW:KeyKind}{Sd:SortKind}
end
def LH(h:BP)(d:A7)(A5:Array L0)(BY:Nat):Prop:=∃o,h.get? d=some o/\o.ExactDict/\o.data=.dict A5 BY
def LH.at{h h':BP}{d:A7}{A5:Array L0}{BY:Nat}(x:LH h d A5 BY)(e:∀o,h.get? d=some o->h'.get? d=some o):LH h' d A5 BY:=let⟨o,ho,r⟩:=x;⟨o,e _ ho,r⟩
def LH.typeIs{s:AQ}{d:A7}{A5:Array L0}{BY:Nat}(x:LH s.heap d A5 BY):s.TypeIs (.ref d) "dict":=let⟨o,ho,c,_⟩:=x;⟨o,ho,c.1⟩
section
variable{prog:C2}{w:Bh}{A:CR}{E:A8->AQ->Prop}{s:AQ}{A5:Array L0}
theorem l9{d:A7}{BY:Nat}{Q:A8->AQ->Prop}(hd:(d==Hj)=false)(hm:LH s.heap d A5 BY)(Dk:Q (.ref s.heap.objs.size) { s with heap:=s.heap.push { cls:=.type "dict_keyiterator",data:=.fields #[.ref d,.int 0 0,.int A5.size 0,.int BY 0] } }) :
  Al (BG prog w) A (pyIter (.ref d)) Q E s:=by
 have Cw:s.TypeIs (.ref d) "dict":=hm.typeIs;obtain⟨o,ho,AK,Ua⟩:=hm;refine dT Cw F.slot_dict_iter (J3 F.slot_dict_iter Cw F.entry_dict_iter ?_ (F.args_dict_iter_1 _));unfold NT.«dict.__iter__»;refine AR ?_;unfold Builtin.Dict.dictSlotNone;refine AR (W7 Cw ?_);show Al _ _ (pure (Db d)) _ _ s;refine BM ?_;show Al _ _ (dF d>>=_) _ _ s;unfold dF;rw[if_neg (by rw[hd];exact Fv)];refine AR (BM ?_);refine AR (QH ho Ua ?_);refine AR (Rs ho Ua ?_);refine AR (Jo (BM ⟨_,rfl,"dict_keyiterator",_,⟨_,F4 _ rfl,rfl⟩,F.slot_dict_keyiterator_next.lookup,?_⟩));simpa[KI]using Dk
def l8{it d:A7}{i BY:Nat}{Q:Option A8->AQ->Prop}(hit:s.heap.IsKeyIter it d i A5.size BY)(hm:LH s.heap d A5 BY)(a4:i<A5.size)(Dk:∀h',h'.IsKeyIter it d (i+1) A5.size BY->Iz it s.heap h'->Q (some A5[i].key) { s with heap:=h' }) :
  Al (BG prog w) A (J5 (.ref it)) Q E s:=by
 obtain⟨o,ho,AK,hd⟩:=id hit;obtain⟨EN,Lr,DQ,Lo⟩:=id hm;unfold J5
 refine AR (Ry (MW (name:=Fw "__next__") hit.typeIs WJ
  (J3 WJ hit.typeIs oy ?_ (p5 _))))
 refine AR (BM ?_);refine AR ?_;refine AR ?_
 first|refine AR (WI hit.typeIs (BM ?_))|refine AR (WC hit.typeIs (BM ?_))
 refine AR (Wc ho hd ?_);have OS:Ta "dict_keyiterator"=false:=by decide
 simp only[OS,Hh,if_false];show Al _ _ (if(Db d==GG)=true then _ else _) _ _ s;rw[if_neg (show¬((Db d==GG)=true)from Fv)];refine AR (BM ?_);refine AR (QH Lr Lo ?_);rw[if_neg (by simp)];refine AR (BM ?_);refine AR (Rs Lr Lo ?_);rw[if_neg (by simp)];refine BM ?_;simp only[show¬((i:Int)<0)from by lia,if_false,MT,T_ a4];refine AR ?_
 first|refine AR (WI hit.typeIs (BM ?_))|refine AR (WC hit.typeIs (BM ?_))
 refine AR (wpAny_isOneOf_keyiter hit.typeIs ?_);show Al _ _ (setField (.ref it) 1 (KI ((i:Int)+1))>>=_) _ _ s;refine AR (Rz ho hd (by simp) ?_);have SW:(s.heap.update it (Obj.mapFields (·.setIfInBounds 1 (KI ((i:Int)+1))))).IsKeyIter it d (i+1) A5.size BY:=
  ⟨_,NO _ ho (dE (Tc hd _)),(Obj.cls_mapFields ..).trans AK,by rw[Tc hd];simp[KI]⟩
 refine AR (Kx ?_);refine AR (wpAny_isOneOf_keyiter (s:={ s with heap:=s.heap.update it (Obj.mapFields (·.setIfInBounds 1 (KI ((i:Int)+1)))) }) SW.typeIs ?_);show Al _ _ (pure A5[i].key) _ _ _;exact BM (BM ⟨_,rfl,BM (Dk _ SW (Ky ..))⟩)
def l7{it d:A7}{BY:Nat}{Q:Option A8->AQ->Prop}(BE:A.handled=none)(hit:s.heap.IsKeyIter it d A5.size A5.size BY)(hm:LH s.heap d A5 BY)(Dk:∀h',Heap.ExtBut it s.heap h'->Q none { s with heap:=h' }):Al (BG prog w) A (J5 (.ref it)) Q E s:=by
 obtain⟨o,ho,AK,hd⟩:=id hit;obtain⟨EN,Lr,DQ,Lo⟩:=id hm;unfold J5
 refine AR (Ry (MW (name:=Fw "__next__") hit.typeIs WJ
  (J3 WJ hit.typeIs oy ?_ (p5 _))))
 refine AR (BM ?_);refine AR ?_;refine AR ?_
 first|refine AR (WI hit.typeIs (BM ?_))|refine AR (WC hit.typeIs (BM ?_))
 refine AR (Wc ho hd ?_);have OS:Ta "dict_keyiterator"=false:=by decide
 simp only[OS,Hh,if_false];show Al _ _ (if(Db d==GG)=true then _ else _) _ _ s;rw[if_neg (show¬((Db d==GG)=true)from Fv)];refine AR (BM ?_);refine AR (QH Lr Lo ?_);rw[if_neg (by simp)];refine AR (BM ?_);refine AR (Rs Lr Lo ?_);rw[if_neg (by simp)];refine BM ?_;simp only[show¬((A5.size:Int)<0)from by lia,if_false,MT,pB (Ci A5.size)];refine AR ?_
 first|refine AR (WI hit.typeIs (BM ?_))|refine AR (WC hit.typeIs (BM ?_))
 show Al _ _ (setField (.ref it) 0 .none>>=_) _ _ s;refine AR (Rz ho hd (by simp) ?_);show Al _ _ (newExc (.type "StopIteration") []>>=_) _ _ _;refine AR ?_;simp only[newExc,newTuple];refine AR (Jo ?_ (by size_fits));refine AR (m:=S0 _ _) (wpAny_of_eq (a:=GG) (by first|rfl|(simp only[S0];rfl)) ?_);refine Jo ?_ (by size_fits);simp only[raiseNew];refine AR (wpAny_handled ?_);rw[show A.in1.handled=none from BE];refine AR (BM (wpAny_throw ?_));refine AR (QK (T:="StopIteration") (b:=true) ⟨_,F4 _ rfl,rfl⟩ dy ?_);exact BM (Dk _ (((Ky ..).extBut.push _).push _))
def aa9(BE:A.handled=none)(I d:A7)(OQ:d≠I)(A5:Array L0)(BY:Nat) :
  Walks prog w A I [I,d] [I] A5.size (λi v=>A5[i]?.map (·.key)=some v) (λi h=>h.IsKeyIter I d i A5.size BY/\LH h d A5 BY) where
 sub:=λb A1=>by simp at A1;simp[A1]
 frame:=λ_ _ _ st AF=>⟨st.1.at λo e=>AF I (by simp) o e,st.2.at λo e=>AF d (by simp) o e⟩
 item:=λi s Q E AD st Dk=>l8 st.1 st.2 AD λh' SW Fo=>
  Dk _ h' s.toks (by rw[T_ AD];rfl) ⟨SW,st.2.at λo e=>Fo.extBut d o OQ e⟩ λb o A1 e=>Fo.extBut b o (λh=>A1 (by simp[h])) e
 done:=λs Q E st Dk=>l7 BE st.1 st.2 λh' Y1=>Dk h' s.toks λb o A1 e=>Y1 b o (λh=>A1 (by simp[h])) e
 self:=λ_ _ _ _ st Dk=>wpAny_pyIter_keyiter st.1 Dk
def rF:typeLookup (.type "dict") "__len__"=pure (some (.builtin "dict.__len__")):=by rw[typeLookup_type,builtinLookup_eq_fast];kernel_rfl
def wL{acc:Array A8}{A5:Array L0}(h:ItemsOf (λi v=>A5[i]?.map (·.key)=some v) acc A5.size):acc.toList=A5.toList.map (·.key):=by
 apply List.ext_getElem?;intro i;have A9:acc.toList[i]?=acc[i]?:=by simp
 rw[EL,A9];cases e:acc[i]? with
 |none=>
  have:acc.size<=i:=by simpa using e
  rw[h.1]at this;have AM:A5.toList[i]?=none:=List.getElem?_eq_none (by simpa using this);rw[AM];rfl
 |some v=>have:=h.2 i v e;rw[<-this];simp
end
section
variable{prog:C2}{w:Bh}{A:CR}{E:A8->AQ->Prop}{s:AQ}{A5:Array L0}
theorem sv{R:Result->AQ->Prop}{d S:A7}{BY c₀:Nat}{res:A8}(BE:A.handled=none)(hd:(d==Hj)=false)(hm:LH s.heap d A5 BY)(AV:A5.size<=CF)(im:S≠d)(Gg:s.heap.get? S=some { cls:=.type "list",data:=.seq #[] c₀ })(PF:∀h' CV Dp,(∀b o,b≠S->s.heap.get? b=some o->h'.get? b=some o)->h'.get? S=some { cls:=.type "list",dict:=none,data:=.seq (A5.toList.map (·.key)).toArray Dp,slots:= #[] }->R (.ok (.ret res)) { s with heap:=h',toks:=CV }) :
  Al (BG prog w) A.in1 (WK (.ref S) (.ref d) res)
   (λfin s'=>match fin with|.done f=>R (.ok f) s'|.again Dp=>Dp.quiet=true/\Ma (BG prog w) A Dp R s') (λe s'=>R (.error e) s') s:=by
 have H_:d<s.heap.objs.size:=by obtain⟨o,ho,_⟩:=hm;exact D_ ho
 unfold WK;refine AR (wpAny_typeOf hm.typeIs ?_);have A6:pH (.ref S) (.ref d)=false:=by simp[pH,im]
 rw[if_neg (by rw[A6];decide)];refine AR (l9 hd hm ?_);dsimp only;have Ii:(s.heap.push { cls:=.type "dict_keyiterator",data:=.fields #[.ref d,.int 0 0,.int A5.size 0,.int BY 0] }).IsKeyIter s.heap.objs.size d 0 A5.size BY:=⟨_,F4 _ rfl,rfl,rfl⟩;have OP:LH (s.heap.push { cls:=.type "dict_keyiterator",data:=.fields #[.ref d,.int 0 0,.int A5.size 0,.int BY 0] }) d A5 BY:=hm.at λo e=>Da _ e;have aZ:(s.heap.push { cls:=.type "dict_keyiterator",data:=.fields #[.ref d,.int 0 0,.int A5.size 0,.int BY 0] }).get? S=some { cls:=.type "list",data:=.seq #[] c₀ }:=Da _ Gg;have OO:∀b o,s.heap.get? b=some o->(s.heap.push { cls:=.type "dict_keyiterator",data:=.fields #[.ref d,.int 0 0,.int A5.size 0,.int BY 0] }).get? b=some o:=λb o e=>Da _ e;generalize s.heap.push { cls:=.type "dict_keyiterator",data:=.fields #[.ref d,.int 0 0,.int A5.size 0,.int BY 0] }=f2 at Ii OP aZ OO |-;have W:=(aa9 (prog:=prog) (w:=w) (A:=A.in1) BE s.heap.objs.size d (FD H_) A5 BY).toS;have io:S∉[s.heap.objs.size,d]:=λh=>by
  rcases List.mem_cons.mp h with e|h
  .exact absurd (D_ Gg) (by rw[e];exact KC _)
  .exact im (List.mem_singleton.mp h)
 refine AR (Kx ?_);unfold Builtin.List.listLengthHint;refine AR (Rq (s:={ s with heap:=f2 }) (OP.typeIs (s:={ s with heap:=f2 })) rF ?_)
 (generalize Zw:("dict.__len__" :String)=jU;(fail_if_success (clear Zw jU));wp_delta;rw[show splitId jU=some ("dict","__len__")from by subst Zw;decide+kernel];subst Zw)
 refine AR (QK (b:=true) (OP.typeIs (s:={ s with heap:=f2 })) (by rw[isSubtype_type];kernel_rfl) ?_);rw[if_neg (by simp)];dsimp only;rw[if_pos (by decide+kernel)];refine AR (wpAny_typeOf (OP.typeIs (s:={ s with heap:=f2 })) ?_);refine BM ?_;rw[if_pos (by decide+kernel)];refine AR (MZ (AR ?_));show Al _ A.in1 (updateSeq S (·.push .none)>>=λ_=>updateSeq S (·.pop)) _ _ { s with heap:=f2 };refine AR (dq (s:={ s with heap:=f2 }) aZ rfl ?_);have il:=NO (Lh (·.push GG)) aZ rfl;refine dq il rfl ?_;have tS:=NO (Lh (·.pop)) il rfl
 have Kq:∀b o,b≠S->f2.get? b=some o->
   ((f2.update S (Lh (·.push GG))).update S (Lh (·.pop))).get? b=some o:=
  λb o A1 e=>(Th _ _ (Hl A1)).trans ((Th _ _ (Hl A1)).trans e)
 refine BM ⟨plainId_quiet F.plain_extend_loop _,codeAny_extend_loopS W AV _ io _ A5.size 0 _ _ _ (by lia) (J1 _)
  (W.frame 0 ({ s with heap:=f2 }:AQ) _ s.toks ⟨Ii,OP⟩ (Ci _) λb A1 o e=>Kq b o (λh=>io (h▸A1)) e) tS (ItemsOf.nil _) λs' XZ Dp ux YZ i8=>?_⟩
 have B0:XZ=(A5.toList.map (·.key)).toArray:=by rw[<-wL i8]
 rw[B0]at YZ;obtain⟨Ja,Jb,kR,kS,agA⟩:=ux;obtain⟨a1,a2,JQ,Nq,Qr⟩:=s';dsimp only at Ja Jb kR kS;subst Jb kR kS;refine PF a1 Nq Dp (λb o A1 e=>Ja b o (λz=>?_) (Kq b o A1 (OO b o e))) YZ;rcases List.mem_cons.mp z with Bp|z
 .exact A1 Bp
 .exact absurd (D_ e) (by rw[List.mem_singleton.mp z];exact KC _)
theorem rW{d:A7}{BY:Nat}{Q:A8->AQ->Prop}(BE:A.handled=none)(hd:(d==Hj)=false)(hm:LH s.heap d A5 BY)(AV:A5.size<=CF)(Dk:∀h' CV Dp,(∀b o,s.heap.get? b=some o->h'.get? b=some o)->h'.get? s.heap.objs.size=some { cls:=.type "list",dict:=none,data:=.seq (A5.toList.map (·.key)).toArray Dp,slots:= #[] }->Q (.ref s.heap.objs.size) { s with heap:=h',toks:=CV }) :
  Al (BG prog w) A (call (.type "list") [.ref d]) Q E s:=by
 have H_:d<s.heap.objs.size:=by obtain⟨o,ho,_⟩:=hm;exact D_ ho
 refine callType_codes (Q₁:=λobj DB=>obj=.ref s.heap.objs.size/\DB={ s with heap:=s.heap.push { cls:=.type "list",data:=.seq #[] } }) F.called_list (F.typeCall_list_1 _) F.entry_list_init
  (code_list_new _ ⟨rfl,rfl⟩) λobj DB JX=>?_
 obtain⟨rfl,rfl⟩:=JX;have Gg:(s.heap.push { cls:=.type "list",data:=.seq #[] }).get? s.heap.objs.size=some { cls:=.type "list",data:=.seq #[] }:=F4 _ rfl;refine⟨⟨_,Gg,rfl⟩,F.args_list_init_2 _ _,?_⟩;show Al _ _ (do let old <-pC (.ref s.heap.objs.size);Builtin.List.listUpdate (.ref s.heap.objs.size) (λ_=> #[]);letGo old.toList.reverse;WK (.ref s.heap.objs.size) (.ref d) .none) _ _ _;refine AR ?_;unfold pC;refine AR (Lf Gg rfl (BM ?_));show Al _ _ (updateSeq s.heap.objs.size (λ_=> #[])>>=λ_=>letGo (#[]:Array A8).toList.reverse>>=λ_=>WK (.ref s.heap.objs.size) (.ref d) .none) _ _ _;refine AR (dq Gg rfl ?_);have tT:=NO (Lh (λ_=>(#[]:Array A8))) Gg rfl;have Kq:∀b o,s.heap.get? b=some o->((s.heap.push { cls:=.type "list",data:=.seq #[] }).update s.heap.objs.size (Lh (λ_=>(#[]:Array A8)))).get? b=some o:=
  λb o e=>(Th _ _ (Hl (FD (D_ e)))).trans (Da _ e)
 refine AR (Tq ?_);refine sv (A:=A.in1) BE hd (hm.at λo e=>Kq d o e) AV (Li H_) tT λh' CV Dp AF YZ=>?_;exact⟨rfl,Dk h' CV Dp (λb o e=>AF b o (FD (D_ e)) (Kq b o e)) YZ⟩
end
end LT
namespace C1
open PySem PySem.Spec
noncomputable def eH(K:A_)(d:A7)(n:Nat):It:=⟨λi H=>∃AX,H d=some (.Ai AX)/\AX.length=n/\i<n,
 λi H v H'=>H'=H/\∃b k,v=.ref b/\IN K H k b/\∀AX,H d=some (.Ai AX)->(AX.map (·.1))[i]?=some k,λi H=>∃AX,H d=some (.Ai AX)/\AX.length=n/\n=i⟩
def acB{P:C2}{w:Bh}{K:A_}{B_:AT}(it d:A7)(n:Nat):Turn P w K B_ (eH K d n) [it] it (λi h=>h.IsKeyIter it d i n n) where
 mem:=by simp
 obj:=λi h st b A1=>by
  obtain rfl:b=it:=by simpa using A1
  obtain⟨o,e,c,d⟩:=st;exact⟨o,e,λv z=>by rw[d]at z;cases z⟩
 keep:=λi h h' st k=>st.at λo e=>k it (by simp) o e
 item:=by
  intro X Ce hw Am AK i pins s σ H E I hf st Ad;subst Ce hw Am;obtain⟨AX,AW,AV,AD⟩:=Ad;obtain⟨xs,A5,kt,He,he,BB,BO⟩:=P9 I AW;rw[AV]at BB;subst BB;obtain⟨f0,f1,f2,Em,f4,Gy⟩:=hf it (by simp);refine LT.l8 st He AD λh' KA Ks=>?_;have As:Inv X pins σ H { s with heap:=h' }:=I.turned (t':=s.toks) (λb o A1 e=>(Ks.2 b A1).trans e) f0 f1 Em f4 Gy;obtain⟨o,e,c,DI⟩:=id KA;have AN:=Paired.length kt;have V0:AX[i]?=some AX[i]:=Df (by lia);have ex:xs[i]?=some xs[i]:=Df (by lia);obtain⟨AL,B7,Dy⟩:=Yr kt i _ _ V0 ex;have ei:A5[i]=MY (K8 X.prog X.w) xs[i]:=by
   have:A5.toList[i]?=some (MY (K8 X.prog X.w) xs[i]):=by rw[he,EL,ex];rfl
   rw[Rp,T_ AD]at this;exact Eh this
  exact⟨_,rfl,VF (s:={ s with heap:=h' }) e c DI (by decide) ⟨.ref xs[i].2.1,H,As,by rw[ei];rfl,⟨rfl,xs[i].2.1,AX[i].1,rfl,B7,λks AF=>by rw[AW]at AF;cases AF;rw[EL,V0];rfl⟩,KA,λb A1=>(hf b A1).1⟩⟩
 done:=by
  intro X Ce hw Am AK i pins s σ H E I hf st Ad;subst Ce hw Am;obtain⟨AX,AW,AV,AD⟩:=Ad;obtain⟨xs,A5,kt,He,he,BB,BO⟩:=P9 I AW;have A9:n=A5.size:=by lia
  subst A9 AD;obtain⟨f0,f1,f2,Em,f4,Gy⟩:=hf it (by simp);exact LT.l7 (I.ok.hd AK) st He λh' BV=>⟨rfl,I.turned (t':=s.toks) (λb o A1 e=>BV b o A1 e) f0 f1 Em f4 Gy⟩
 self:=λ_ _ _ _ _ st h=>wpAny_pyIter_keyiter st h
section
variable{X:Ac}{B_:AT}
def hz(K:A_)(ET:TE):TI:=λσ H R=>ET σ H λx H1=>∃d AX,x=.ref d/\H1 d=some (.Ai AX)/\R (eH K d AX.length) H1
def zI{l:AT}{ET:TE}(AN:Ax X l ET):Fl X B_ l (hz X.K ET):=by intro pins s σ H R I h;refine Bd (AN pins s σ H _ I h) λv s1⟨x,H1,As,AL,An⟩=>?_;obtain⟨d,AX,e,AW,q⟩:=An;subst e;cases AL;obtain⟨xs,A5,kt,He,he,BB,BO⟩:=P9 As AW;refine LT.l9 BO He ?_;refine⟨s1.heap.objs.size,[s1.heap.objs.size],_,_,H1,rfl,As.kept (t':=s1.toks) λb o e=>Da _ e,acB _ d AX.length,⟨_,F4 _ rfl,rfl,by rw[BB];rfl⟩,λb A1=>?_,q⟩;obtain rfl:=List.mem_singleton.mp A1;exact As.N8 (Ci _) (As.Be.fresh (Ci _))
noncomputable def aar(K:A_):List V->AC->Cc->Prop:=λxs H Q=>∃p AX,xs=[.ref p]/\H p=some (.Ai AX)/\
 ∀l zs,H l=none->zs.length=AX.length->(∀(i:Nat) z k,zs[i]?=some z->(AX.map (·.1))[i]?=some k->∃b,z=.ref b/\IN K H k b)->Q (.ref l) (upd H l (.lst zs))
def rV(BE:X.A.handled=none):Hv X (.type "list") (aar X.K):=by
 intro pins s σ H xs us Q I r h;obtain⟨p,AX,rfl,AW,q⟩:=h;obtain⟨u,rfl,BQ⟩:=vals1 r;cases BQ;obtain⟨BB,_⟩:=T4 I.Be I.EQ (.inl AW);obtain⟨xs,A5,kt,He,he,AJ,BO⟩:=P9 I AW;have Xu:AX.length=xs.length:=Paired.length kt;have Dc:A5.toList.map (·.key)=(xs.map (·.2.1)).map Db:=by rw[he,H7,H7];rfl
 refine LT.rW BE BO He (by lia) λh' CV Dp kp gl=>?_;rw[Dc]at gl;obtain⟨zs,Fe,F3,JM⟩:=oB (R:=λz k=>∃b,z=V.ref b/\IN X.K H k b) (vs:=(xs.map (·.2.1)).map Db) (ks:=AX.map (·.1)) (by simp;lia) λi v k A9 AM=>by rw[H7,EL]at A9;rw[EL]at AM;obtain⟨x,ex,rfl⟩:=Option.map_eq_some_iff.mp A9;obtain⟨y,DY,rfl⟩:=Option.map_eq_some_iff.mp AM;exact⟨.ref x.2.1,rfl,x.2.1,rfl,(Yr kt i _ _ DY ex).2.1⟩
 refine⟨.ref s.heap.objs.size,_,I.laid (t':=CV) kp (Ci _) (show FW X.prog X.w X.K _ _ _ (.lst zs)from⟨by rw[F3];simp;lia,_,Dp,Fe,gl⟩),rfl,q _ zs (I.Be.fresh (Ci _)) (by rw[F3];simp;lia) JM⟩
end
end C1
namespace CT
open PySem PySem.Spec C1
def N_:Bj->D
 |[.inl (.inr x)]=>.EM [.str x]
 |k=>.tup (k.map Vv)
def ht{K:A_}{G H:AC}{b:A7}{k:Bj}(t:∀b ys,H b=some (.tup ys)->G b=some (.tup ys))(e:IN K H k b):At K G (N_ k) (.ref b):=by
 rcases e with⟨vs,ev,W2⟩|⟨x,o,n,CV,rfl,AF,AK,hd⟩
 .unfold N_
  split
  .cases W2 with
   |cons a r=>cases r;have a:_=Dl _:=a;subst a;simp only[At];exact⟨b,_,rfl,CZ.of (t _ _ ev),.cons (by simp only[At];rfl) .nil⟩
  .simp only[At];exact⟨b,vs,rfl,t _ _ ev,ZO t W2⟩
 .simp only[N_,At];exact⟨b,[.str x],rfl,.inr ⟨o,_,n,AF,AK,hd,by show 1<=CF;decide,.cons ⟨CV,rfl⟩ .nil⟩,.cons (by simp only[At]) .nil⟩
def jG:D->R (List D)
 |.Ai ks _=>.ok (ks.map N_)
 |_=>.bad
def vB{K:A_}{G:AC}{d:A7}{AX:List (Bj×V)}(h:G d=some (.Ai AX)):LJ K (eH K d AX.length) ((AX.map (·.1)).map N_) G where
 go:=λi H s AD=>⟨AX,s _ _ h,rfl,by simpa using AD⟩
 IX:=λi H v H' s AD y=>by obtain⟨rfl,b,k,rfl,bR,y⟩:=y;exact⟨N_ k,by rw[EL,y AX (s _ _ h)];rfl,.inl ⟨rfl,λAf _ t=>ht t bR⟩⟩
 stop:=λH s=>⟨AX,s _ _ h,rfl,by simp⟩
def Sk(m:Ab):Au:=λρ=>(m ρ).bind jG
def Xt:List D->R (List D)
 |[.Ai ks _]=>.ok (ks.map N_)
 |_=>.bad
def Sl(m:Au):Au:=λρ=>(m ρ).bind Xt
section
variable{X:Ac}{F:B9}{e B_:AT}{m:Ab}{ma:Au}{pos p:Pos}
def vn:Md (KB F (Sk m)) (hz F.K (Cv F m)):=by
 rintro σ H Q ⟨G,ρ,r,h⟩;unfold Sk at h;refine⟨G,ρ,r,?_⟩;refine rb h λd B0 h v H1 Af AL s1 a=>?_;unfold jG at h
 split at h
 .simp only[At]at a;obtain⟨q,xs,rfl,AW,rfl,FY⟩:=a;exact⟨q,xs,rfl,AL.kp.sub _ _ AW,h _ H1 Af AL s1 (vB AW)⟩
 .exact h.elim
def afH(h:B2 X F e m)(Am:F.K=X.K:=by rfl):KV X F B_ e (Sk m):=⟨Fl.imp (zI h.1) (by rw[<-Am];exact vn)⟩
def aeq(BE:X.A.handled=none)(hm:X.mg "list"=none)(AB:G8 X F [e] ma)(Am:F.K=X.K:=by rfl)(Ad:EG X "list":=by rfl)(he:BI [e] X.env=(false,BN e X.env)::BI [] X.env:=by rfl)(Dv:(DC pos (BI [] X.env)).any (·.1)=false:=by rfl):KU X F (.Call (.Name "list" p) [e] [] pos) (Sl ma):=by
 refine⟨Ax.imp (bH (rV BE) Ad hm (by kernel_rfl) AB.1 (by decide) (by decide) he Dv) ?_⟩;rintro σ H Q ⟨G,ρ,r,h⟩;unfold Sl at h;refine⟨G,ρ,r,?_⟩;refine rb h λds B0 h vs H1 Af AL s1 a=>?_;unfold Xt at h
 split at h
 .obtain⟨v,rfl,B8⟩:=a.one;simp only[At]at B8;obtain⟨q,xs,rfl,AW,rfl,FY⟩:=B8;refine⟨q,xs,rfl,AL.kp.sub _ _ AW,λl zs AN xJ BB=>?_⟩;have B7:=AL.Hn;refine h l _ _ _ (B7.lay0 AN) ((s1.trans (C6.Hn AL.kp.sub)).trans (C6.lay0 AN)) (s1.h.gone AN) Dz (B7.kp.sub.gone AN) (gS (by simp[xJ]) λi x d A9 AM=>?_);rw[EL]at AM;obtain⟨k,Uz,rfl⟩:=Option.map_eq_some_iff.mp AM;obtain⟨b,rfl,LY⟩:=BB i x k A9 Uz;rw[<-Am]at LY;exact ht (λ_ _ e=>e5 e) LY
 .exact h.elim
end
end CT
namespace C1
open PySem PySem.Spec
def acb(K:A_)(CV Jt:TE):TE:=λσ H Q=>∀p,H p=none->CV σ (upd H p (.Ai [])) λy H1=>Jt σ H1 λz Az=>Az p=some (.Ai [])/\∃k b,y=.ref b/\IN K Az k b/\Q (.ref p) (upd Az p (.Ai [(k,z)]))
def zo{X:Ac}{pos:Pos}{e f:AT}{CV Jt:TE}(BR:X.A.units+16<DX)(he:Ax X e CV)(hf:Ax X f Jt):Ax X (.Dict [some e] [f] pos) (acb X.K CV Jt):=by
 intro pins s σ H Q I q;have AV:=I.Be.fresh (Ci s.heap.objs.size);have As:=I.laid (a:=s.heap.objs.size) (o:=.Ai []) (h':=s.heap.push { cls:=.type "dict",data:=.dict #[] }) (t':=s.toks) (λ_ _ q=>Da _ q) (Ci _) (h9 s.heap I.big);refine wpAny_Dict_any rfl rfl (by simp) (by simp) (pairTrees_cons_walk (Bd (he pins _ σ _ _ As (q _ AV)) λu s1⟨y,H1,As,Bx,An⟩=>Bd (hf pins s1 σ H1 _ As An) λF3 s2⟨z,Az,Br,Z1,AM,k,b,DY,LY,BF⟩=>
  pairTrees_nil_walk ?_))
 subst DY;cases(show u=Db b from Bx);obtain⟨BB,hd,xs,rel,DI⟩:=T4 Br.Be Br.EQ (.inl AM);have aaI:(K8 X.prog X.w).room X.A:=show X.A.units+8<DX by lia
 have AI:xs.length<=CF:=by rw[<-Paired.length rel];exact BB
 refine AR (AR (LE.h8 aaI (Zt Br.Be Br.EQ LY) DI (λh' Po AJ=>?_) AI));refine BM (BM ?_);obtain⟨Gj,A5,BY,AW,AA,B4,BJ,_,Es⟩:=Po;refine⟨.ref s.heap.objs.size,_,XM (ob:=.Ai (putK [] k z)) Br (by rw[AM];exact L2) AJ ⟨Gj,AW⟩ ⟨by show 1<=CF;decide,hd,_,(rel.put k LY Z1).keeps λc ys ec=>?_,Gj,A5,BY,AW,AA,B4,BJ,Es⟩,rfl,BF⟩;rw[DV (bl ec AM (λz=>nomatch z))];exact ec
end C1
namespace CT
open PySem PySem.Spec C1
def UW(i:Nat)(mk:Nk)(mv:Ab):Ao:=λρ=>(Hd (mk ρ)).bind λk=>(Hd (mv ρ)).bind λv=>if i<ρ.length then .ok (.Ay (ρ.set i (.ob (.Ai [k] [v]))))else .bad
section
variable{X:Ac}{F:B9}{e f:AT}{pos:Pos}
def aeW(i:Nat){x:Str}{p q:Pos}{mk:Nk}{mv:Ab}(hN:X.N.Nodup)(BR:X.A.units+64<DX)(AF:XU X F e mk)(Bc:B2 X F f mv)(Am:F.K=X.K:=by rfl)(AD:X.N[i]?=some x:=by rfl)(AI:Loc X.env.scope x:=by first|exact Dq rfl|exact Cr rfl)(hf:X.fn x=true\/X.env.scope.names.lookup x=some .local:=by first|exact .inl rfl|exact .inr rfl) :
  Er X F (.Assign [.Name x p] (.Dict [some e] [f] q) pos) (UW i mk mv):=⟨by
 obtain⟨CV,O5,aH⟩:=AF.ex;refine DH.imp (W1 hN AD AI (zo (by lia) O5 Bc.1) (M9 _ _ _ _ rfl) hf) ?_;rintro CY σ H ⟨G,ρ,r,h⟩;unfold UW at h;intro a AB;refine aH σ _ _ ⟨G,ρ,r.lay0 AB,?_⟩;cases Dc:mk ρ with
 |bad=>rw[Dc]at h;cases h
 |exc c=>rw[Dc]at h;cases h
 |ok k=>
  rw[Dc]at h;intro b H1 Af AL s1 LY;refine⟨Af,ρ,AL,?_⟩;cases ev:mv ρ with
  |bad=>rw[ev]at h;cases h
  |exc c=>rw[ev]at h;cases h
  |ok Pp=>
   rw[ev]at h;intro z Az Cz B7 s2 Mk;replace h:HL F G CY (if i<ρ.length then .ok (.Ay (ρ.set i (.ob (.Ai [k] [Pp]))))else .bad):=h
   split at h
   .rename_i AN;have a1:H1 a=some (.Ai []):=s1.h _ _ Dz;have a2:Az a=some (.Ai []):=s2.h _ _ a1;have g1:Af a=none:=by rw[s1.n a ⟨by rw[Dz];simp,λxs z=>by rw[Dz]at z;cases z⟩];exact r.kp.sub.gone AB
    have g2:Cz a=none:=by rw[s2.n a ⟨by rw[a1];simp,λxs z=>by rw[a1]at z;cases z⟩];exact g1
    have kb2:IN X.K Az k b:=by rw[<-Am];exact LY.mono λb ys e=>s2.h _ _ e
    have Dy:=B7.setB AN a2 g2 (r.kp.BE.gone AB) (ob:=.Ai [] []) ⟨[],rfl,rfl,.nil⟩ λj A5 o _ A9 AM f=>Ca.fresh r (((Sub.upd AB).trans s1.h).trans s2.h) AB ⟨j,A5,o,A9,AM,f⟩;refine⟨a2,k,b,rfl,kb2,?_⟩;have CU:(ρ.set i (.ob (.Ai [] [])))[i]?=some (.ob (.Ai [] [])):=by simp[AN]
    have Kc:i< σ.length:=by rw[B7.len];exact AN
    have L7:=Dy.SN (a:=a) CU (by simp[Kc]) (o':=.Ai [k] [Pp]) (ho:=.Ai [(k,z)]) ⟨[(k,z)],rfl,rfl,.cons Mk .nil⟩;rw[List.set_set]at L7;exact h _ _ _ L7 (s1.g.trans s2.g)
   .exact h.elim⟩
end
@[simp] theorem BA{α β:Type}(a:α)(k:α->R β):(R.ok a).bind k=k a:=(rfl)
def Q3(b:Ao):Fk->R Fk
 |.Ay ρ=>b ρ
 |f=>.ok f
@[simp] theorem Cy(a b:Ao)(ρ:AG):AP a b ρ=(a ρ).bind (Q3 b):=by unfold AP;congr 1
@[simp] theorem EE(b:Ao)(ρ:AG):Q3 b (.Ay ρ)=b ρ:=(rfl)
@[simp] theorem agS(b:Ao)(d:D):Q3 b (.ES d)=.ok (.ES d):=(rfl)
@[simp] theorem agQ(b:Ao)(d:List D):Q3 b (.JG d)=.ok (.JG d):=(rfl)
def Yw:Option Bi->R D
 |some (.J d)=>.ok d
 |_=>.bad
@[simp] theorem v_var(i:Nat)(ρ:AG):A0 i ρ=Yw ρ[i]?:=by unfold A0 Yw;rfl
@[simp] theorem IJ(d:D):Yw (some (.J d))=.ok d:=(rfl)
@[simp] theorem Zc(d:D)(ρ:AG):A4 d ρ=.ok d:=(rfl)
@[simp] theorem RL(f:D->D->R D)(a b:Ab)(ρ:AG):A3 f a b ρ=(a ρ).bind λx=>(b ρ).bind λy=>f x y:=(rfl)
@[simp] theorem cP(f:D->R D)(a:Ab)(ρ:AG):Cj f a ρ=(a ρ).bind f:=(rfl)
@[simp] theorem GF(ρ:AG):AE ρ=.ok []:=(rfl)
@[simp] theorem Eg(a:Ab)(r:Au)(ρ:AG):A2 a r ρ=(a ρ).bind λx=>(r ρ).bind λxs=>.ok (x::xs):=(rfl)
def cB(xs:List D):R D:=if xs.length<=1000000 then .ok (.tup xs)else .bad
@[simp] theorem TU(m:Au)(ρ:AG):CP m ρ=(m ρ).bind cB:=(rfl)
@[simp] theorem afv{xs:List D}(h:xs.length<=1000000):cB xs=.ok (.tup xs):=if_pos h
@[simp] theorem JL(m:Au)(ρ:AG):BH m ρ=(m ρ).bind λxs=>.ok (.lst xs):=(rfl)
@[simp] theorem Zd(m:Au)(ρ:AG):C4 m ρ=(m ρ).bind lim:=(rfl)
@[simp] theorem acO(m:Ab)(ρ:AG):Ah m ρ=(m ρ).bind Mj:=(rfl)
@[simp] theorem q5(b:Bool):Mj (.AO b)=.ok b:=(rfl)
@[simp] theorem v_and(a b:CN)(ρ:AG):Eu a b ρ=(a ρ).bind λc=>if c=true then b ρ else .ok false:=(rfl)
@[simp] theorem v_or(a b:CN)(ρ:AG):GD a b ρ=(a ρ).bind λc=>if c=true then .ok true else b ρ:=(rfl)
@[simp] theorem v_not(a:CN)(ρ:AG):Gi a ρ=(a ρ).bind λc=>.ok (!c):=(rfl)
@[simp] theorem afy(a b:Ab)(ρ:AG):OY a b ρ=(a ρ).bind λx=>(Mj x).bind λc=>if c=true then b ρ else .ok (.AO false):=(rfl)
@[simp] theorem cL(c:CN)(a b:Ao)(ρ:AG):C8 c a b ρ=(c ρ).bind λk=>if k=true then a ρ else b ρ:=(rfl)
@[simp] theorem agx(ρ:AG):CK ρ=.ok (.Ay ρ):=(rfl)
@[simp] theorem abx(a:Ab)(ρ:AG):CC a ρ=(a ρ).bind λd=>.ok (.ES d):=(rfl)
@[simp] theorem aby(a:Au)(ρ:AG):GT a ρ=(a ρ).bind λd=>.ok (.JG d):=(rfl)
@[simp] theorem abz(i:Nat)(d:D)(ρ:AG):BC i d ρ=if i<ρ.length then .ok (ρ.set i (.J d))else .bad:=(rfl)
@[simp] theorem ah3(i:Nat)(a:Ab)(ρ:AG):B5 i a ρ=(a ρ).bind λd=>(BC i d ρ).bind λBL=>.ok (.Ay BL):=(rfl)
@[simp] theorem oA(i:Nat)(a:Au)(ρ:AG):E_ i a ρ=(a ρ).bind λds=>if i<ρ.length then .ok (.Ay (ρ.set i (.Bw ds)))else .bad:=(rfl)
@[simp] theorem o8(i:Nat)(a:HB)(ρ:AG):Lz i a ρ=(a ρ).bind λx=>(BC i x.1 x.2).bind λBL=>.ok (.Ay BL):=(rfl)
@[simp] theorem cK(a:HB)(ρ:AG):PR a ρ=(a ρ).bind λx=>.ok (.Ay x.2):=(rfl)
@[simp] theorem TS(f:List D->R D)(m:Au)(ρ:AG):Bm f m ρ=(m ρ).bind f:=(rfl)
@[simp] theorem OL(n:Nat)(Ba:List D->R CG)(m:Au)(ρ:AG):Bo n Ba m ρ=(m ρ).bind λds=>if ds.length=n then(Ba ds).bind OA else .bad:=(rfl)
@[simp] theorem cJ(n:Nat)(Ba:List D->R CG)(m:Au)(ρ:AG):FM n Ba m ρ=(m ρ).bind λds=>if ds.length=n then(Ba ds).bind ay else .bad:=(rfl)
def o7(mi:Au)(set:D->AG->R AG)(body:Ao)(ρ:AG):EC mi set body ρ=(mi ρ).bind λds=>JT set body ds ρ:=(rfl)
@[simp] theorem ah1(m:Au)(ρ:AG):Fs m ρ=(m ρ).bind W4:=(rfl)
@[simp] theorem ags(m:Ab)(ρ:AG):ER m ρ=(m ρ).bind cb:=(rfl)
@[simp] theorem v_bor(m:Ab)(ρ:AG):Ly m ρ=(m (EI ρ)).bind ZW:=(rfl)
@[simp] theorem ag1(m:CN)(ρ:AG):GC m ρ=m (EI ρ):=(rfl)
def o6(nl:Nat)(caps:List Nat)(mi:Au)(set:D->AG->R AG)(tst:CN)(elt:Ab)(ρ:AG):DE nl caps mi set tst elt ρ=(mi ρ).bind λds=>Hd (Hp set tst elt ds (Mn nl caps ρ) []):=(rfl)
@[simp] theorem afh(i j:Int):DL (.int i) (.int j)=.ok (.int (i+j)):=(rfl)
@[simp] theorem agT(i j:Int):RG (.int i) (.int j)=.ok (.int (i-j)):=(rfl)
@[simp] theorem agC{i j:Int}(A6: -18446744073709551616<i)(AA:i<18446744073709551616):M3 (.int i) (.int j)=.ok (.int (i*j)):=if_pos (Dq ⟨A6,AA⟩)
@[simp] theorem mul_r{i j:Int}(A6: -18446744073709551616<j)(AA:j<18446744073709551616):M3 (.int i) (.int j)=.ok (.int (i*j)):=if_pos (Cr ⟨A6,AA⟩)
@[simp] theorem YN{i j:Int}(A6:0<j)(AA:j<1073741824):Di (.int i) (.int j)=.ok (.int (i/j)):=if_pos ⟨A6,AA⟩
@[simp] theorem Vt{i j:Int}(h:0<j):Ck (.int i) (.int j)=.ok (.int (i%j)):=if_pos h
def z4:O6 (.int 10) (.int 30)=.ok (.int 1000000000000000000000000000000):=(rfl)
@[simp] theorem xG(i j:Int):R_ (.int i) (.int j)=.ok (.AO (decide (i<j))):=(rfl)
@[simp] theorem ago(i j:Int):Sf (.int i) (.int j)=.ok (.AO (decide (i<=j))):=(rfl)
@[simp] theorem agW(i j:Int):YX (.int i) (.int j)=.ok (.AO (decide (j<i))):=(rfl)
@[simp] theorem afr(i j:Int):Ar true (.int i) (.int j)=.ok (.AO (i==j)):=(rfl)
@[simp] theorem agD(i j:Int):Ar false (.int i) (.int j)=.ok (.AO (!(i==j))):=(rfl)
@[simp] theorem agq(xs:List D):CS [.lst xs]=.ok (.int xs.length):=(rfl)
@[simp] theorem ag5(xs:List D):CS [.tup xs]=.ok (.int xs.length):=(rfl)
@[simp] theorem agr(xs:List D):CS [.Co xs]=.ok (.int xs.length):=(rfl)
@[simp] theorem agL(d:D):OA (.v d)=.ok d:=(rfl)
@[simp] theorem agK(ds:List D):ay (.o ds)=.ok ds:=(rfl)
@[simp] theorem agI(d:D):outD (.ES d)=.ok (.v d):=(rfl)
@[simp] theorem agH(d:List D):outD (.JG d)=.ok (.o d):=(rfl)
@[simp] theorem acS(N:Nat)(m:Ao)(ds:List D):DS N m ds=(m (Im N ds)).bind outD:=(rfl)
def bF:Option Bi->R (List D)
 |some (.Bw ds)=>.ok ds
 |_=>.bad
@[simp] theorem agy(i:Nat)(ρ:AG):ownAt i ρ=bF ρ[i]?:=by unfold ownAt bF;rfl
@[simp] theorem agJ(ds:List D):bF (some (.Bw ds))=.ok ds:=(rfl)
@[simp] theorem afV(set:D->AG->R AG)(body:Ao)(ρ:AG):JT set body [] ρ=.ok (.Ay ρ):=(rfl)
theorem iZ{set:D->AG->R AG}{body:Ao}(I:Nat->AG->Prop):∀(ds:List D)(i:Nat)(ρ:AG),(∀(j:Nat) d ρ,ds[j]?=some d->I (i+j) ρ->∃EU BL,set d ρ=.ok EU/\body EU=.ok (.Ay BL)/\I (i+j+1) BL)->I i ρ->∃BL,JT set body ds ρ=.ok (.Ay BL)/\I (i+ds.length) BL
 |[],i,ρ,_,h=>⟨ρ,rfl,h⟩
 |d::ds,i,ρ,st,h=>by
  obtain⟨EU,En,A9,AM,AA⟩:=st 0 d ρ rfl h;obtain⟨BL,BD,B4⟩:=iZ I ds (i+1) En (λj d ρ e AD=>by obtain⟨a,b,BU,E3,FF⟩:=st (j+1) d ρ (by simpa using e) (by rw[show i+(j+1)=i+1+j by lia];exact AD);exact⟨a,b,BU,E3,by rw[show i+1+j+1=i+(j+1)+1 by lia];exact FF⟩) (by simpa using AA)
  refine⟨BL,?_,by rw[FU,show i+(ds.length+1)=i+1+ds.length by lia];exact B4⟩;rw[JT,A9,BA,AM,BA];exact BD
def tB{mi:Au}{set:D->AG->R AG}{body:Ao}{ds:List D}{ρ:AG}(I:Nat->AG->Prop)(AD:mi ρ=.ok ds)(st:∀(j:Nat) d ρ,ds[j]?=some d->I j ρ->∃EU BL,set d ρ=.ok EU/\body EU=.ok (.Ay BL)/\I (j+1) BL)(h:I 0 ρ):∃BL,EC mi set body ρ=.ok (.Ay BL)/\I ds.length BL:=by obtain⟨BL,e,h'⟩:=iZ I ds 0 ρ (λj d ρ e Bz=>by rw[Nat.zero_add]at Bz |-;exact st j d ρ e Bz) h;rw[Nat.zero_add]at h';exact⟨BL,by rw[o7,AD,BA,e],h'⟩
@[simp] theorem XF(d:D):HF (.J d)=.J d:=(rfl)
def Xf(i:Nat)(ρ:AG)(ds:List D)(d:D):R Fk:=if ds.length<1000000 then .ok (.Ay (ρ.set i (.Bw (ds++[d]))))else .bad
@[simp] theorem afi{i:Nat}{ρ:AG}{ds:List D}{d:D}(h:ds.length<1000000):Xf i ρ ds d=.ok (.Ay (ρ.set i (.Bw (ds++[d])))):=if_pos h
@[simp] theorem acP(i:Nat)(m:Ab)(ρ:AG):II i m ρ=(ownAt i ρ).bind λds=>(m ρ).bind λd=>Xf i ρ ds d:=(rfl)
@[simp] theorem afz(i:Nat)(m:HB)(ρ:AG):Xv i m ρ=(ownAt i ρ).bind λ_=>(m ρ).bind λx=>(ownAt i x.2).bind λds=>Xf i x.2 ds x.1:=(rfl)
def afT(i:Nat)(ds:List D)(ρ:AG):D->R (D×AG)
 |.lst A5=>if ds.length+A5.length<=1000000 then .ok (.non,ρ.set i (.Bw (ds++A5)))else .bad
 |_=>.bad
noncomputable def Yp(i:Nat)(ds:List D)(ρ:AG):D->R (D×AG)
 |.int k=>if-(2^63)<=k/\k<2^63 then match S4 k ds.length with
  |some j=>match ds[j]? with
   |some y=>.ok (y,ρ.set i (.Bw (ds.eraseIdx j)))
   |none=>.bad
  |none=>.bad
  else .bad
 |_=>.bad
@[simp] theorem agz(i:Nat)(m:Ab)(ρ:AG):O_ i m ρ=(ownAt i ρ).bind λds=>(m ρ).bind λd=>Yp i ds ρ d:=by unfold O_;congr 1
def z0{i:Nat}{ds:List D}{ρ:AG}{k:Nat}(h:k<ds.length)(AN:ds.length<1000000):Yp i ds ρ (.int (k:Int))=.ok (ds[k],ρ.set i (.Bw (ds.eraseIdx k))):=by
 have GQ: -(2^63)<=(k:Int):=Int.le_trans (by decide) (Int.natCast_nonneg k);have G9:(k:Int)<2^63:=Int.lt_trans (b:=1000000) (by lia) (by decide);have s:S4 (k:Int) ds.length=some k:=by rw[PySem.seqIndex_of (by lia) (by lia)];simp
 simp only[Yp,if_pos (And.intro GQ G9),s,Df h]
@[simp] theorem agu(m:Au)(ρ:AG):UV m ρ=(m ρ).bind Uw:=(rfl)
@[simp] theorem agt(m:Au)(ρ:AG):I6 m ρ=(m ρ).bind Xr:=(rfl)
@[simp] theorem cQ(set:D->AG->R AG)(m:Ab)(ρ:AG):K5 set m ρ=(m ρ).bind λd=>(set d ρ).bind λBL=>.ok (.Ay BL):=(rfl)
@[simp] theorem agM(ds:List D):cb (.lst ds)=.ok ds:=(rfl)
@[simp] theorem ag7(ds:List D):Xr [.lst ds]=.ok ds:=(rfl)
@[simp] theorem ag6{xs:List D}(h:xs.length<=1000000):lim xs=.ok xs:=if_pos h
@[simp] theorem af_:EI []=[]:=(rfl)
@[simp] theorem afZ(s:Bi)(ρ:AG):EI (s::ρ)=NA s::EI ρ:=(rfl)
@[simp] theorem tF(d:D):NA (.J d)=.J d:=(rfl)
@[simp] theorem tG:NA .un=.un:=(rfl)
@[simp] theorem afY(ds:List D):NA (.ob (.lst ds))=.J (.lst ds):=(rfl)
@[simp] theorem agG(i:Int):ZW (.int i)=.ok (.int i):=(rfl)
@[simp] theorem SR{α:Type}(a:α):Hd (R.ok a)=.ok a:=(rfl)
def bu:Option Bi->R (List D)
 |some (.ob (.lst ds))=>.ok ds
 |_=>.bad
@[simp] theorem ah4(i:Nat)(ρ:AG):Je i ρ=bu ρ[i]?:=by unfold Je bu;rfl
@[simp] theorem ah5(ds:List D):bu (some (.Bw ds))=.ok ds:=(rfl)
@[simp] theorem ag3(f g:D->D->R D)(a b c:Ab)(ρ:AG):PP f g a b c ρ=(a ρ).bind λx=>(b ρ).bind λy=>(f x y).bind λz=>(Mj z).bind λk=>if k=true then(c ρ).bind λw=>g y w else .ok (.AO false):=(rfl)
@[simp] theorem agi(N:Nat)(ds:List D):Im N ds=ds.map .J++G4 (N-ds.length) .un:=(rfl)
def Io{xs:List D}{k:Nat}{d:D}(h:xs[k]?=some d):AH (.lst xs) (.int (k:Int))=.ok d:=by
 have AF:=(List.getElem?_eq_some_iff.mp h).1;have e:Fy xs (k:Int)=some d:=by unfold Fy IH;rw[if_pos (by lia),if_pos (by lia)];simpa using h
 simp only[AH,e]
def wh{xs:List D}{k:Nat}{d:D}(h:xs[k]?=some d):AH (.Co xs) (.int (k:Int))=.ok d:=by
 have AF:=(List.getElem?_eq_some_iff.mp h).1;have e:Fy xs (k:Int)=some d:=by unfold Fy IH;rw[if_pos (by lia),if_pos (by lia)];simpa using h
 simp only[AH,e]
def wj{xs:List D}{k:Nat}{d:D}(h:xs[k]?=some d):AH (.tup xs) (.int (k:Int))=.ok d:=by
 have AF:=(List.getElem?_eq_some_iff.mp h).1;have e:Fy xs (k:Int)=some d:=by unfold Fy IH;rw[if_pos (by lia),if_pos (by lia)];simpa using h
 simp only[AH,e]
def Ip(x:Int){n:Nat}(h:0<n):∃k:Nat,k<n/\x%(n:Int)=(k:Int):=by have h0:0<=x%(n:Int):=dr _ (by lia);have A6:x%(n:Int)<(n:Int):=dc _ (by lia);obtain⟨k,e⟩:=Int.eq_ofNat_of_zero_le h0;exact⟨k,by lia,e⟩
@[simp] theorem RD(n:Nat)(h:n<1000000):W4 [.int (n:Int)]=.ok (G1 0 n):=by have: -(2^62)<=(n:Int)/\(n:Int)<2^62:=⟨by lia,by lia⟩;simp only[W4,if_pos this,MT]
def aa7{n j:Nat}{d:D}(h:(G1 0 n)[j]?=some d):j<n/\d=.int (j:Int):=by
 unfold G1 at h;rw[EL]at h;cases e:(Ds n)[j]? with
 |none=>rw[e]at h;cases h
 |some k=>
  rw[e]at h;have Bz:j<n:=by have:=(List.getElem?_eq_some_iff.mp e).1;simpa using this
  rw[Te Bz]at e;cases e;simp at h;exact⟨Bz,h.symm⟩
@[simp] theorem aa8(a:Int)(n:Nat):(G1 a n).length=n:=by simp[G1]
@[simp] theorem LB{α β af3:Type}(r:R α)(f:α->R β)(g:β->R af3):(r.bind f).bind g=r.bind λx=>(f x).bind g:=by cases r<;>rfl
def Ends{β:Type}(r:R β)(T:β->Prop):Prop:=∃b,r=.ok b/\T b
@[simp] theorem afp{β:Type}(b:β)(T:β->Prop):Ends (.ok b) T=T b:=propext ⟨λ⟨c,e,h⟩=>by cases e;exact h,λh=>⟨b,rfl,h⟩⟩
theorem Ends.bind{α β:Type}{r:R α}{k:α->R β}{S:α->Prop}{T:β->Prop}(h:Ends r S)(f:∀b,S b->Ends (k b) T):Ends (r.bind k) T:=by obtain⟨b,rfl,A1⟩:=h;exact f b A1
def Ends.mono{β:Type}{r:R β}{S T:β->Prop}(h:Ends r S)(f:∀b,S b->T b):Ends r T:=by obtain⟨b,e,A1⟩:=h;exact⟨b,e,f b A1⟩
def I_(I:AG->Prop)(f:Fk):Prop:=∃ρ,f=.Ay ρ/\I ρ
@[simp] theorem afd(I:AG->Prop)(ρ:AG):I_ I (.Ay ρ)=I ρ:=propext ⟨λ⟨r,e,h⟩=>by cases e;exact h,λh=>⟨ρ,rfl,h⟩⟩
def hF{β:Type}{mi:Au}{set:D->AG->R AG}{body:Ao}{ds:List D}{ρ:AG}{k:Fk->R β}{T:β->Prop}(I:Nat->AG->Prop)(AD:mi ρ=.ok ds)(h0:I 0 ρ)(st:∀(j:Nat) d ρ,ds[j]?=some d->I j ρ->Ends ((set d ρ).bind body) (I_ (I (j+1))))(fin:∀BL,I ds.length BL->Ends (k (.Ay BL)) T):Ends ((EC mi set body ρ).bind k) T:=by
 obtain⟨BL,e,h⟩:=tB (body:=body) (set:=set) (mi:=mi) I AD (λj d ρ hd Ii=>by
  obtain⟨b,e,BL,rfl,h⟩:=st j d ρ hd Ii;cases A5:set d ρ with
  |bad=>rw[A5]at e;cases e
  |exc c=>rw[A5]at e;cases e
  |ok EU=>rw[A5,BA]at e;exact⟨EU,BL,rfl,e,h⟩) h0
 rw[e,BA];exact fin BL h
def nL(i:Nat):Fk->R Fk
 |.Ay BL=>.ok (.Ay (Ka i BL))
 |f=>.ok f
@[simp] theorem o9(i:Nat)(a:Au)(ρ:AG):Oc i a ρ=(E_ i a ρ).bind (nL i):=by unfold Oc;congr 1
@[simp] theorem aaw(i:Nat)(ρ:AG):nL i (.Ay ρ)=.ok (.Ay (Ka i ρ)):=(rfl)
def hX(ds:List D):D->R (List D)
 |.lst A5=>if ds.length+A5.length<=1000000 then .ok (ds++A5)else .bad
 |_=>.bad
@[simp] theorem afk{ds A5:List D}(h:ds.length+A5.length<=1000000):hX ds (.lst A5)=.ok (ds++A5):=if_pos h
def hV:D->D->R (List D)
 |.lst ds,.lst A5=>if ds.length+A5.length<=1000000 then .ok (ds++A5)else .bad
 |_,_=>.bad
@[simp] theorem hW{ds A5:List D}(h:ds.length+A5.length<=1000000):hV (.lst ds) (.lst A5)=.ok (ds++A5):=if_pos h
@[simp] theorem o5(m n:Ab)(ρ:AG):Kg m n ρ=(m ρ).bind λc=>(n ρ).bind λd=>hV c d:=by unfold Kg;congr 1
@[simp] theorem ag2(i:Nat)(m:Ab)(ρ:AG):UR i m ρ=(ownAt i ρ).bind λds=>(m ρ).bind λd=>hX ds d:=by unfold UR;congr 1
@[simp] theorem cO(f:D->Option Int->Option Int->R D)(m:Ab)(lo AD:Me)(ρ:AG):Fh f m lo AD ρ=(m ρ).bind λd=>(lo ρ).bind λl=>(AD ρ).bind λh=>f d l h:=(rfl)
def aR(i:Nat)(ρ:AG):Option Bi->AG
 |some (.ob o)=>ρ.set i (.J (O3 o))
 |_=>ρ
@[simp] theorem afX(i:Nat)(ρ:AG):Ka i ρ=aR i ρ ρ[i]?:=by unfold Ka aR;rfl
@[simp] theorem afW(i:Nat)(ρ:AG)(ds:List D):aR i ρ (some (.Bw ds))=ρ.set i (.J (.lst ds)):=(rfl)
@[simp] theorem cM(ρ:AG):Jd ρ=.ok none:=(rfl)
@[simp] theorem cN(m:Ab)(ρ:AG):FN m ρ=(m ρ).bind intD:=(rfl)
@[simp] theorem jY(i:Int):intD (.int i)=.ok (some i):=(rfl)
def T5{β α:Type}{mi:Au}{elt:Ab}{tst:CN}{caps:List Nat}{ρ:AG}{k:List D->R β}{T:β->Prop}(g:α->D)(xs:List α)(p:α->Bool)(f:α->D)(AD:mi ρ=.ok (xs.map g))(AN:xs.length<=1000)(Aj:∀a∈xs,tst (.J (g a)::caps.map λj=>HF (ρ.getD j .un))=.ok (p a))(h:∀a∈xs,p a=true->elt (.J (g a)::caps.map λj=>HF (ρ.getD j .un))=.ok (f a))(fin:Ends (k ((xs.filter p).map f)) T):Ends ((DE 1 caps mi (BC 0) tst elt ρ).bind k) T:=by
 have go:∀(xs:List α)(ws:List D)(s0:Bi),ws.length+xs.length<=1000000->(∀a∈xs,tst (.J (g a)::caps.map λj=>HF (ρ.getD j .un))=.ok (p a))->(∀a∈xs,p a=true->elt (.J (g a)::caps.map λj=>HF (ρ.getD j .un))=.ok (f a))->Hp (BC 0) tst elt (xs.map g) (s0::caps.map λj=>HF (ρ.getD j .un)) ws=.ok (ws++(xs.filter p).map f):=by
  intro xs;induction xs with
  |nil=>intro ws s0 _ _ _;simp[Hp]
  |cons a xs CA=>
   intro ws s0 AN Aj h;simp only[FU]at AN;have DN:BC 0 (g a) (s0::caps.map λj=>HF (ρ.getD j .un))=.ok (.J (g a)::caps.map λj=>HF (ρ.getD j .un)):=by simp
   rw[EF,Hp,DN,BA,Aj a (by simp),BA];cases e:p a with
   |true=>simp only[if_true,h a (by simp) e,BA,if_pos (show ws.length<1000000 by lia)];rw[CA (ws++[f a]) _ (by simp;lia) (λx AI=>Aj x (by simp[AI])) λx AI=>h x (by simp[AI])];simp[e]
   |false=>simp only[Hh,if_false];rw[CA ws _ (by lia) (λx AI=>Aj x (by simp[AI])) λx AI=>h x (by simp[AI])];simp[e]
 rw[o6,AD,BA];have e:=go xs [] .un (by simp;lia) Aj h;have:Hd (Hp (BC 0) tst elt (xs.map g) (Mn 1 caps ρ) [])=.ok ((xs.filter p).map f):=by show Hd (Hp (BC 0) tst elt (xs.map g) (.un::caps.map λj=>HF (ρ.getD j .un)) [])=_;rw[e];rfl
 rw[this,BA];exact fin
def R0{β α:Type}{mi:Au}{elt:Ab}{caps:List Nat}{ρ:AG}{k:List D->R β}{T:β->Prop}(g:α->D)(xs:List α)(f:α->D)(AD:mi ρ=.ok (xs.map g))(AN:xs.length<=1000)(h:∀a∈xs,elt (.J (g a)::caps.map λj=>HF (ρ.getD j .un))=.ok (f a))(fin:Ends (k (xs.map f)) T):Ends ((DE 1 caps mi (BC 0) Ee elt ρ).bind k) T:=
 T5 g xs (λ_=>true) f AD AN (λ_ _=>rfl) (λa AB _=>h a AB) (by rw[List.filter_eq_self.mpr λ_ _=>rfl];exact fin)
def aq(n:Nat):G1 0 n=(Ds n).map λ(i:Nat)=>.int (i:Int):=by simp[G1]
def R1{β:Type}{mi:Au}{elt:Ab}{caps:List Nat}{ρ:AG}{k:List D->R β}{T:β->Prop}(n:Nat)(f:Nat->D)(AD:mi ρ=.ok (G1 0 n))(AN:n<=1000)(h:∀a,a<n->elt (.J (.int (a:Int))::caps.map λj=>HF (ρ.getD j .un))=.ok (f a))(fin:Ends (k ((Ds n).map f)) T):Ends ((DE 1 caps mi (BC 0) Ee elt ρ).bind k) T:=
 R0 (λ(i:Nat)=>.int (i:Int)) (Ds n) f (by rw[AD,aq]) (by simpa using AN) (λa AB=>h a (by simpa using AB)) fin
def R2{β α:Type}{mi:Au}{set:D->AG->R AG}{body:Ao}{ρ:AG}{k:Fk->R β}{T:β->Prop}(g:α->D)(xs:List α)(I:Nat->AG->Prop)(AD:mi ρ=.ok (xs.map g))(h0:I 0 ρ)(st:∀(j:Nat) a ρ,xs[j]?=some a->I j ρ->Ends ((set (g a) ρ).bind body) (I_ (I (j+1))))(fin:∀BL,I xs.length BL->Ends (k (.Ay BL)) T):Ends ((EC mi set body ρ).bind k) T:=
 hF I AD h0 (λj d ρ hd Ii=>by
  rw[EL]at hd;cases e:xs[j]? with
  |none=>rw[e]at hd;cases hd
  |some a=>rw[e]at hd;cases hd;exact st j a ρ e Ii) (by rw[GU];exact fin)
def Pt{β:Type}{mi:Au}{set:D->AG->R AG}{body:Ao}{ρ:AG}{k:Fk->R β}{T:β->Prop}(n:Nat)(I:Nat->AG->Prop)(AD:mi ρ=.ok (G1 0 n))(h0:I 0 ρ)(st:∀(j:Nat) ρ,j<n->I j ρ->Ends ((set (.int (j:Int)) ρ).bind body) (I_ (I (j+1))))(fin:∀BL,I n BL->Ends (k (.Ay BL)) T):Ends ((EC mi set body ρ).bind k) T:=
 hF I AD h0 (λj d ρ hd Ii=>by obtain⟨Bz,rfl⟩:=aa7 hd;exact st j ρ Bz Ii) (by rw[aa8];exact fin)
theorem kU{α β:Type}(f:α->β):∀(l:List α)(i:Nat),(l.map f).eraseIdx i=(l.eraseIdx i).map f
 |[],_=>rfl
 |x::l,0=>rfl
 |x::l,i+1=>by simp only[pJ,EF,kU f l i]
def bL{α:Type}(g:α->D){l:List α}{i:Nat}{k:Nat}(h:k<l.length)(AN:l.length<1000000)(ρ:AG):Yp i (l.map g) ρ (.int (k:Int))=.ok (g l[k],ρ.set i (.Bw ((l.eraseIdx k).map g))):=by rw[z0 (by simpa using h) (by simpa using AN),kU];simp
@[simp] theorem ag9(n:Nat)(h:n<=1000000):Uw [.int (n:Int)]=.ok (G1 0 n):=by have: -(2^62)<=(n:Int)/\(n:Int)<=1000000:=⟨by lia,by lia⟩;simp only[Uw,if_pos this,MT]
@[simp] theorem nz(xs:List D)(l h:Option Int):JJ (.lst xs) l h=.ok (.lst (Fz xs l h)):=(rfl)
@[simp] theorem agP(xs:List D)(l h:Option Int):JJ (.Co xs) l h=.ok (.lst (Fz xs l h)):=(rfl)
def r1{α:Type}(xs:List α)(k:Nat):Fz xs none (some (k:Int))=xs.take k:=by
 unfold Fz;rw[E1.zx,E1.aaT,List.drop_zero,Nat.sub_zero];by_cases h:k<=xs.length
 .rw[Nat.min_eq_left h]
 .rw[Nat.min_eq_right (by lia),List.take_length,d9 (by lia)]
def fG{α β:Type}(g:α->β)(xs:List α)(l h:Option Int):Fz (xs.map g) l h=(Fz xs l h).map g:=by unfold Fz;simp[WW,List.map_drop]
@[simp] theorem abp(Ap:List (D->AG->R AG))(ds:List D)(ρ:AG):FB Ap (.tup ds) ρ=IB Ap ds ρ:=(rfl)
@[simp] theorem abn(ρ:AG):IB [] [] ρ=.ok ρ:=(rfl)
@[simp] theorem abm(f:D->AG->R AG)(Ap:List (D->AG->R AG))(d:D)(ds:List D)(ρ:AG):IB (f::Ap) (d::ds) ρ=(f d ρ).bind λBL=>IB Ap ds BL:=(rfl)
@[simp] theorem agv(Ae:Str)(n:Nat)(Ba:List D->R (List Str×List D))(ma:Au)(ρ:AG):Rd Ae n Ba ma ρ=(ma ρ).bind λds=>if ds.length=n then(Hd (Ba ds)).bind λx=>.ok (.ins Ae x.1 x.2)else .bad:=(rfl)
@[simp] theorem agE(i:Int):Jg (.int i)=.ok (.int (-i)):=(rfl)
@[simp] theorem abu(m:Au)(ρ:AG):UT m ρ=(m ρ).bind T6:=(rfl)
@[simp] theorem v_is(m:Ab)(ρ:AG):UU m ρ=(m ρ).bind cf:=(rfl)
@[simp] theorem agw(i:Nat)(m:Ao)(ρ:AG):OZ i m ρ=m (Ka i ρ):=(rfl)
@[simp] theorem agV(c:CN)(a b:Ab)(ρ:AG):Ki c a b ρ=(c ρ).bind λk=>if k=true then a ρ else b ρ:=(rfl)
@[simp] theorem abv(Ae mt:Str)(n:Nat)(Ba:List D->R CG)(o:Ab)(ma:Au)(ρ:AG):I7 Ae mt n Ba o ma ρ=(o ρ).bind λd=>(Py Ae mt d).bind λd=>(ma ρ).bind λds=>if ds.length=n then(Ba (d::ds)).bind OA else .bad:=(rfl)
@[simp] theorem ah0(i:Nat)(mk mv:Ab)(ρ:AG):ZC i mk mv ρ=(mv ρ).bind λv=>(ownAt i ρ).bind λds=>(mk ρ).bind λk=>putK i ρ ds v k:=(rfl)
def aaa{i:Nat}{ρ:AG}{ds:List D}{v:D}{k:Nat}(h:k<ds.length):putK i ρ ds v (.int (k:Int))=.ok (.Ay (ρ.set i (.Bw (ds.set k v)))):=by
 have e:IH ds.length (k:Int)=some k:=by unfold IH;rw[if_pos (by lia),if_pos (by lia)];simp
 simp only[putK,e,putN]
@[simp] theorem oj(k:Bool):Vc [.AO k]=.ok (.int (if k then 1 else 0)):=(rfl)
@[simp] theorem agk(x:D):Fa true x .non=.ok (.AO (JY x)):=(rfl)
@[simp] theorem agN(x:Str):cf (.str x)=.ok (x.cps.toList.map G2):=(rfl)
def sm{α:Type}(g:α->D)(xs:List α):T6 [.lst (xs.map g)]=.ok (xs.zipIdx.map λp=>.tup [.int (p.2:Int),g p.1]):=by
 simp only[T6,Pu]
 congr 1
 rw[List.zipIdx_map,H7];rfl
def sd{β α:Type}{mi:Au}{elt:Ab}{caps:List Nat}{ρ:AG}{k:List D->R β}{g7:β->Prop}(g1 g2:α->D)(xs:List α)(f:α->D)(AD:mi ρ=.ok (xs.map λa=>.tup [g1 a,g2 a]))(AN:xs.length<=1000)(h:∀a∈xs,elt (.J (g1 a)::.J (g2 a)::caps.map λj=>HF (ρ.getD j .un))=.ok (f a))(fin:Ends (k (xs.map f)) g7):Ends ((DE 2 caps mi (FB [BC 0,BC 1]) Ee elt ρ).bind k) g7:=by
 have go:∀(xs:List α)(ws:List D)(s0 s1:Bi),ws.length+xs.length<=1000000->(∀a∈xs,elt (.J (g1 a)::.J (g2 a)::caps.map λj=>HF (ρ.getD j .un))=.ok (f a))->Hp (FB [BC 0,BC 1]) Ee elt (xs.map λa=>.tup [g1 a,g2 a]) (s0::s1::caps.map λj=>HF (ρ.getD j .un)) ws=.ok (ws++xs.map f):=by
  intro xs;induction xs with
  |nil=>intro ws s0 s1 _ _;simp[Hp]
  |cons a xs CA=>
   intro ws s0 s1 AN h;simp only[FU]at AN;have DN:FB [BC 0,BC 1] (.tup [g1 a,g2 a]) (s0::s1::caps.map λj=>HF (ρ.getD j .un))=.ok (.J (g1 a)::.J (g2 a)::caps.map λj=>HF (ρ.getD j .un)):=by simp
   rw[EF,Hp,DN,BA];simp only[Ee,BA,if_true,h a (by simp),if_pos (show ws.length<1000000 by lia)];rw[CA (ws++[f a]) _ _ (by simp;lia) λx AI=>h x (by simp[AI])];simp
 rw[o6,AD,BA];have e:=go xs [] .un .un (by simp;lia) h;have:Hd (Hp (FB [BC 0,BC 1]) Ee elt (xs.map λa=>.tup [g1 a,g2 a]) (Mn 2 caps ρ) [])=.ok (xs.map f):=by show Hd (Hp (FB [BC 0,BC 1]) Ee elt (xs.map λa=>.tup [g1 a,g2 a]) (.un::.un::caps.map λj=>HF (ρ.getD j .un)) [])=_;rw[e];rfl
 rw[this,BA];exact fin
def Ends.done{β:Type}{r:R β}{b:β}(h:Ends r (· =b)):r=.ok b:=by obtain⟨c,e,rfl⟩:=h;exact e
end CT
namespace IW
open PySem PySem.Spec C1 CT
def top(i:Nat):Bb:=PySem.Challenge.pw_nohalfway_k39_throughout.main.body.getD i (.Pass ⟨0,0,0,0⟩)
abbrev mf:Bb:=top 38
abbrev mq:Bb:=top 39
abbrev mh:Bb:=top 40
abbrev mj:Bb:=top 41
abbrev m4:Bb:=top 42
abbrev mm:Bb:=top 46
abbrev mx:Bb:=top 45
abbrev md:Bb:=top 47
abbrev me:Bb:=top 48
abbrev mb:Bb:=top 58
abbrev mc:Bb:=top 43
abbrev mu:Bb:=top 44
abbrev m3:Bb:=top 52
abbrev m2:Bb:=top 53
abbrev mX:Bb:=top 2
abbrev mY:Bb:=top 3
abbrev kx:Bb:=top 31
abbrev mT:Bb:=top 32
abbrev mS:Bb:=top 33
abbrev mZ:Bb:=top 34
abbrev kz:Bb:=top 35
abbrev lM:Bb:=inClass (top 36) 0
abbrev my:Bb:=top 57
abbrev m5:Bb:=top 21
abbrev m7:Bb:=top 25
abbrev mU:Bb:=top 9
abbrev mR:Bb:=top 8
abbrev lN:Bb:=top 10
abbrev kv:Bb:=top 11
abbrev km:Bb:=inClass (top 24) 3
abbrev kr:Bb:=inClass (top 24) 4
abbrev kq:Bb:=inClass (top 24) 5
abbrev kn:Bb:=inClass (top 24) 2
abbrev m8:Bb:=top 16
abbrev lL:Bb:=inClass (top 36) 3
abbrev m6:Bb:=top 18
abbrev ku:Bb:=inClass (top 24) 1
abbrev ko:Bb:=inClass (top 24) 0
abbrev mV:Bb:=top 20
abbrev mW:Bb:=top 26
abbrev ky:Bb:=top 27
abbrev ml:Bb:=top 49
abbrev mr:Bb:=top 50
abbrev mw:Bb:=top 51
abbrev m1:Bb:=top 54
abbrev m_:Bb:=top 55
abbrev mn:Bb:=top 56
abbrev OB:Bb:=top 59
def Sy:D:=.int 15
def UN:D:=.int 4
def Tx:D:=.int 6
def X9:D:=.EM [.str (Aw "ring")]
def Sz:D:=.EM [.str (Aw "0"),.str (Aw "1"),.str (Aw "x")]
def Qs:D:=.EM [.int 8,.int 4,.int 2,.int 1]
structure EH(K:A_)(mg:Str->Option A8):Prop where
 rt:Dt K mg "_law_cell_at" mf ["_law_script","_law_k"]
 s6:Dt K mg "_law_mixed" mq ["_law_cell","_law_k"]
 ru:Dt K mg "_law_counts" mh ["_law_cell"]
 rv:Dt K mg "_law_doors" mj ["_law_counts_here"]
 ti:Dt K mg "_law_wires" m4 ["_law_cell","_law_counts_here"]
 ry:Dt K mg "_law_free_book" mm ["_law_number","_law_count"]
 td:Dt K mg "_law_row" mx ["_law_cell","_law_k","_law_count"]
 rq:Dt K mg "_law_books" md ["_law_cells","_law_counts_here","_law_shift"]
 rr:Dt K mg "_law_both" me ["_law_script","_law_counts_here"]
 sX:Dt K mg "_law_all" mb ["_law_script"]
 rp:Dt K mg "_law_beyond" mc ["_law_wires_here","_law_door"]
 ta:Dt K mg "_law_outer" mu ["_law_counts_here","_law_wires_here"]
 th:Dt K mg "_law_some" m3 ["_law_cell","_law_many"]
 tg:Dt K mg "_law_shelves" m2 ["_law_old","_law_new","_law_some_here"]
 sT:Dt K mg "is_whole" mX ["thing"]
 sU:Dt K mg "is_whole_within" mY ["thing","least","greatest"]
 sJ:Dt K mg "are_counts" kx ["thing"]
 sP:Dt K mg "is_pair" mT ["thing"]
 sO:Dt K mg "is_door_among" mS ["counts","thing"]
 sV:Dt K mg "is_wire_among" mZ ["counts","thing"]
 sL:Dt K mg "far_doors" kz ["counts","wires"]
 sA:InK K mg "Net" "Net.__init__" lM ["self","counts","wires"]
 te:Dt K mg "_law_saying" my ["_law_cell","_law_outer_here","_law_many"]
 tj:Dt K mg "mixed" m5 ["old","new","houses"]
 tm:Dt K mg "stages_of" m7 ["old","new","row"]
 sQ:Dt K mg "is_pattern" mU ["thing"]
 sN:Dt K mg "is_address" mR ["thing"]
 sM:Dt K mg "fits" lN ["pattern","address"]
 sI:Dt K mg "addresses" kv ["pattern"]
 sB:Nl K "Weaver" "behind" "Weaver.behind" km ["self","spot"]
 sF:Nl K "Weaver" "round_from" "Weaver.round_from" kr ["self","spot"]
 sE:Nl K "Weaver" "met" "Weaver.met" kq ["self"]
 sC:Nl K "Weaver" "entered" "Weaver.entered" kn ["self","door","ahead"]
 tn:Dt K mg "taken" m8 ["book","door","address"]
 s7:Nl K "Net" "beyond" "Net.beyond" lL ["self","door"]
 tl:Dt K mg "onward" m6 ["net","book","door","address"]
 sG:Nl K "Weaver" "weave" "Weaver.weave" ku ["self","door"]
 sD:InK K mg "Weaver" "Weaver.__init__" ko ["self","net","stages","door","address","shunned"]
 sR:Dt K mg "is_so_of" mV ["saying","doors","end"]
 sS:Dt K mg "is_so_throughout" mW ["net","stages","saying","address"]
 sK:Dt K mg "broken_throughout" ky ["net","old","new","row","saying"]
 rx:Dt K mg "_law_fits" ml ["_law_pattern","_law_address"]
 sY:Dt K mg "_law_next" mr ["_law_wires_here","_law_book","_law_door","_law_address"]
 tc:Dt K mg "_law_road" mw ["_law_wires_here","_law_books_here","_law_door","_law_address"]
 tf:Dt K mg "_law_searched" m1 ["_law_wires_here","_law_shelves_here","_law_door","_law_address","_law_shunned"]
 sW:Dt K mg "_law_against" m_ ["_law_wires_here","_law_shelves_here","_law_saying_here","_law_address"]
 rz:Dt K mg "_law_least" mn ["_law_wires_here","_law_shelves_here","_law_saying_here"]
 afU:Dt K mg "law" OB ["_law_script"]
 jB:Mm K "Net" ["many","counts","joined","far"]
 Us:Mm K "Weaver" ["net","stages","address","shunned","woven","told"]
 qD:mg "all"=none
 qE:mg "any"=none
 qF:mg "bool"=none
 qG:mg "enumerate"=none
 gT:mg "int"=none
 UM:mg "isinstance"=none
 qH:mg "len"=none
 X6:mg "list"=none
 ey:mg "range"=none
 ft:mg "str"=none
 fu:mg "tuple"=none
 qK:mg "zip"=none
 Sy:LG K mg "GREATEST_ADDRESS" Sy
 UN:LG K mg "MOST_DOORS" UN
 Tx:LG K mg "MOST_HOUSES" Tx
 X9:LG K mg "RING" X9
 Sz:LG K mg "SIGNS" Sz
 Qs:LG K mg "WORTHS" Qs
def abe:Cg ["_law_script","_law_k"] ["_law_script","_law_k"] (Bv mf):=Dd
def X0:Ao:=
    AP (C8 (Ah (A3 R_ (A0 1) (Bm CS (A2 (A0 0) (AE))))) (CC (A3 AH (A0 0) (A0 1))) (CK))
    (CC (A4 (.int 0)))
def Kk:List D->R CG:=DS 2 X0
def lx:Cg ["_law_cell","_law_k","_law_factor","_law_prime"] ["_law_cell","_law_k"] (Bv mq):=Dd
noncomputable def fj:Ao:=
    AP (B5 2 (A3 AH (BH (C4 (A2 (A4 (.int 48271)) (A2 (A4 (.int 69621)) (A2 (A4 (.int 16807)) (A2 (A4 (.int 39373)) (A2 (A4 (.int 40692)) (A2 (A4 (.int 742938285)) (A2 (A4 (.int 950706376)) (A2 (A4 (.int 1343714438)) (AE))))))))))) (A3 Ck (A0 1) (A4 (.int 8)))))
    (AP (B5 3 (A3 AH (BH (C4 (A2 (A4 (.int 2147483647)) (A2 (A4 (.int 2147483629)) (A2 (A4 (.int 2147483587)) (A2 (A4 (.int 2147483579)) (A2 (A4 (.int 2147483563)) (AE)))))))) (A3 Ck (A0 1) (A4 (.int 5)))))
    (CC (A3 Di (A3 Ck (A3 M3 (A3 DL (A3 DL (A3 Ck (A0 0) (A3 O6 (A4 (.int 10)) (A4 (.int 30)))) (A3 M3 (A4 (.int 31)) (A0 1))) (A4 (.int 7))) (A0 2)) (A0 3)) (A4 (.int 7)))))
def FG:List D->R CG:=DS 4 fj
def lm:Cg ["_law_cell","_law_number","_law_most","_law_many"] ["_law_cell"] (Bv mh):=Dd
noncomputable def X1:Ao:=
    AP (C8 (Ah (A3 (Ar true) (A3 Ck (A0 0) (A4 (.int 2))) (A4 (.int 1)))) (AP (B5 1 (A3 Ck (A3 Di (A0 0) (A4 (.int 2))) (A3 O6 (A4 (.int 10)) (A4 (.int 60)))))
    (AP (B5 2 (A3 AH (BH (C4 (A2 (A4 (.int 4)) (A2 (A4 (.int 4)) (A2 (A4 (.int 4)) (A2 (A4 (.int 3)) (A2 (A4 (.int 2)) (A2 (A4 (.int 2)) (AE))))))))) (A3 Ck (A0 1) (A4 (.int 6)))))
    (GT (DE 1 [2,1] (Fs (A2 (A3 DL (A4 (.int 1)) (A3 Ck (A0 1) (A4 (.int 6)))) (AE))) (BC 0) (Ee) (A3 DL (A4 (.int 1)) (A3 Ck (A3 Ck (A3 Di (A3 Di (A0 2) (A4 (.int 6))) (A3 AH (BH (C4 (A2 (A4 (.int 1)) (A2 (A4 (.int 4)) (A2 (A4 (.int 16)) (A2 (A4 (.int 64)) (A2 (A4 (.int 256)) (A2 (A4 (.int 1024)) (AE))))))))) (A0 0))) (A4 (.int 4))) (A0 1))))))) (CK))
    (AP (B5 3 (A3 DL (A4 (.int 1)) (A3 Ck (Bo 2 FG (A2 (A0 0) (A2 (A4 (.int 0)) (AE)))) (A4 (.int 6)))))
    (GT (DE 1 [0,3] (Fs (A2 (A0 3) (AE))) (BC 0) (Ee) (A3 DL (A4 (.int 1)) (A3 Ck (Bo 2 FG (A2 (A0 1) (A2 (A3 DL (A4 (.int 1)) (A0 0)) (AE)))) (A3 AH (BH (C4 (A2 (A4 (.int 4)) (A2 (A4 (.int 4)) (A2 (A4 (.int 4)) (A2 (A4 (.int 3)) (A2 (A4 (.int 2)) (A2 (A4 (.int 2)) (AE))))))))) (A3 RG (A0 2) (A4 (.int 1)))))))))
def Ss:List D->R CG:=DS 4 X1
def lp:Cg ["_law_counts_here","_law_doors_here","_law_house"] ["_law_counts_here"] (Bv mj):=Dd
noncomputable def fg:Ao:=
    AP (E_ 1 (C4 (AE)))
    (AP (EC (Fs (A2 (Bm CS (A2 (A0 0) (AE))) (AE))) (BC 2) (E_ 1 (UR 1 (BH (DE 1 [2] (Fs (A2 (A3 AH (A0 0) (A0 2)) (AE))) (BC 0) (Ee) (CP (A2 (A0 1) (A2 (A0 0) (AE)))))))))
    (GT (Je 1)))
def Su:List D->R CG:=DS 3 fg
def nY:Cg ["_law_cell","_law_counts_here","_law_doors_here","_law_wires_here","_law_number","_law_keep","_law_k","_law_picks","_law_one","_law_other"] ["_law_cell","_law_counts_here"] (Bv m4):=Dd
noncomputable def fq:Ao:=
    AP (E_ 2 (FM 1 Su (A2 (A0 1) (AE))))
    (AP (E_ 3 (C4 (AE)))
    (AP (B5 4 (A3 Di (A3 Ck (A3 Di (A0 0) (A4 (.int 2))) (A3 O6 (A4 (.int 10)) (A4 (.int 60)))) (A4 (.int 24576))))
    (AP (B5 5 (A3 DL (A4 (.int 1)) (A3 Ck (Bo 2 FG (A2 (A0 0) (A2 (A4 (.int 8)) (AE)))) (A4 (.int 3)))))
    (AP (C8 (Ah (A3 (Ar true) (A3 Ck (A0 0) (A4 (.int 2))) (A4 (.int 1)))) (AP (B5 5 (A3 DL (A4 (.int 1)) (A3 Ck (A0 4) (A4 (.int 24)))))
    (B5 4 (A3 Di (A0 4) (A4 (.int 24))))) (CK))
    (AP (B5 6 (A4 (.int 9)))
    (AP (Jf (GC (Ah (A3 YX (Bm CS (A2 (A0 2) (AE))) (A3 DL (A0 5) (A4 (.int 1)))))) (AP (B5 7 (BH (PO (C4 (A2 (Bo 2 FG (A2 (A0 0) (A2 (A0 6) (AE)))) (A2 (Bo 2 FG (A2 (A0 0) (A2 (A3 DL (A0 6) (A4 (.int 1))) (AE)))) (AE)))))))
    (AP (C8 (Ah (A3 (Ar true) (A3 Ck (A0 0) (A4 (.int 2))) (A4 (.int 1)))) (AP (B5 7 (BH (PO (C4 (A2 (A0 4) (A2 (A3 Di (A0 4) (Bm CS (A2 (A0 2) (AE)))) (AE)))))))
    (B5 4 (Ly (A3 Di (A3 Di (A0 4) (Bm CS (A2 (A0 2) (AE)))) (A3 RG (Bm CS (A2 (A0 2) (AE))) (A4 (.int 1))))))) (CK))
    (AP (Lz 8 (O_ 2 (Ly (A3 Ck (A3 AH (A0 7) (A4 (.int 0))) (Bm CS (A2 (A0 2) (AE)))))))
    (AP (Lz 9 (O_ 2 (Ly (A3 Ck (A3 AH (A0 7) (A4 (.int 1))) (Bm CS (A2 (A0 2) (AE)))))))
    (AP (II 3 (CP (A2 (A0 8) (A2 (A0 9) (AE)))))
    (B5 6 (A3 DL (A0 6) (A4 (.int 2))))))))))
    (GT (Je 3))))))))
def Ro:List D->R CG:=DS 10 fq
def lr:Cg ["_law_number","_law_count","_law_book","_law_many","_law_choices","_law_k","_law_pattern","_law_j"] ["_law_number","_law_count"] (Bv mm):=Dd
noncomputable def fi:Ao:=
    AP (E_ 2 (C4 (AE)))
    (AP (B5 3 (A3 Ck (A0 0) (A4 (.int 13))))
    (AP (B5 0 (A3 Di (A0 0) (A4 (.int 13))))
    (AP (B5 4 (BH (Kg (BH (C4 (A2 (A4 .non) (AE)))) (BH (UV (A2 (A0 1) (AE)))))))
    (AP (EC (Fs (A2 (A0 3) (AE))) (BC 5) (AP (B5 6 (A4 (.str (Aw ""))))
    (AP (EC (Fs (A2 (A4 (.int 4)) (AE))) (BC 7) (AP (B5 6 (A3 DL (A0 6) (A3 AH (A4 (.str (Aw "01x"))) (A3 Ck (A0 0) (A4 (.int 3))))))
    (B5 0 (A3 Di (A0 0) (A4 (.int 3))))))
    (AP (II 2 (CP (A2 (A0 6) (A2 (A3 AH (A0 4) (A3 Ck (A0 0) (A3 DL (A0 1) (A4 (.int 1))))) (A2 (A3 AH (A0 4) (A3 Ck (A3 Di (A0 0) (A3 DL (A0 1) (A4 (.int 1)))) (A3 DL (A0 1) (A4 (.int 1))))) (AE))))))
    (B5 0 (A3 Di (A3 Di (A0 0) (A3 DL (A0 1) (A4 (.int 1)))) (A3 DL (A0 1) (A4 (.int 1)))))))))
    (GT (Je 2))))))
def Rk:List D->R CG:=DS 8 fi
def mQ:Cg ["_law_cell","_law_k","_law_count","_law_number","_law_pattern","_law_j","_law_door","_law_out"] ["_law_cell","_law_k","_law_count"] (Bv mx):=Dd
noncomputable def fm:Ao:=
    AP (B5 3 (Bo 2 FG (A2 (A0 0) (A2 (A0 1) (AE)))))
    (AP (B5 4 (A4 (.str (Aw ""))))
    (AP (EC (Fs (A2 (A4 (.int 4)) (AE))) (BC 5) (AP (B5 4 (A3 DL (A0 4) (A3 AH (BH (C4 (A2 (A4 (.str (Aw "x"))) (A2 (A4 (.str (Aw "x"))) (A2 (A4 (.str (Aw "0"))) (A2 (A4 (.str (Aw "1"))) (A2 (A4 (.str (Aw "x"))) (AE)))))))) (A3 Ck (A0 3) (A4 (.int 5))))))
    (B5 3 (A3 Di (A0 3) (A4 (.int 5))))))
    (AP (B5 6 (A4 .non))
    (AP (C8 (Ah (A3 (Ar true) (A3 Ck (A0 3) (A4 (.int 3))) (A4 (.int 0)))) (B5 6 (A3 Ck (A3 Di (A0 3) (A4 (.int 3))) (A0 2))) (CK))
    (AP (B5 7 (A3 Ck (A3 Di (A0 3) (A4 (.int 20))) (A0 2)))
    (AP (C8 (Ah (A3 (Ar true) (A3 Ck (A3 Di (A0 3) (A4 (.int 100))) (A4 (.int 9))) (A4 (.int 0)))) (B5 7 (A4 .non)) (CK))
    (CC (CP (A2 (A0 4) (A2 (A0 6) (A2 (A0 7) (AE))))))))))))
def Nz:List D->R CG:=DS 8 fm
def lj:Cg ["_law_cells","_law_counts_here","_law_shift","_law_books_here","_law_house","_law_cell","_law_many"] ["_law_cells","_law_counts_here","_law_shift"] (Bv md):=Dd
noncomputable def fe:Ao:=
    AP (E_ 3 (C4 (AE)))
    (AP (EC (Fs (A2 (Bm CS (A2 (A0 1) (AE))) (AE))) (BC 4) (AP (B5 5 (A3 DL (A3 DL (A4 (.int 17)) (A3 M3 (A4 (.int 5)) (A0 4))) (A0 2)))
    (AP (C8 (Ah (A3 (Ar false) (A0 0) (BH (C4 (AE))))) (B5 5 (A3 AH (A0 0) (A3 Ck (A3 DL (A0 4) (A0 2)) (Bm CS (A2 (A0 0) (AE)))))) (CK))
    (C8 (Eu (Ah (A3 (Ar false) (A0 0) (BH (C4 (AE))))) (Ah (A3 (Ar true) (A3 Ck (A0 5) (A4 (.int 2))) (A4 (.int 1))))) (II 3 (BH (FM 2 Rk (A2 (A3 Ck (A3 Di (A0 5) (A4 (.int 2))) (A3 O6 (A4 (.int 10)) (A4 (.int 60)))) (A2 (A3 AH (A0 1) (A0 4)) (AE)))))) (AP (B5 5 (A3 DL (A0 5) (A3 M3 (A4 (.int 3)) (A0 4))))
    (AP (B5 6 (A3 AH (BH (C4 (A2 (A4 (.int 1)) (A2 (A4 (.int 2)) (A2 (A4 (.int 3)) (A2 (A4 (.int 0)) (A2 (A4 (.int 2)) (A2 (A4 (.int 4)) (A2 (A4 (.int 12)) (AE)))))))))) (A3 Ck (Bo 2 FG (A2 (A0 5) (A2 (A4 (.int 3)) (AE)))) (A4 (.int 7)))))
    (II 3 (BH (DE 1 [5,1,4,2] (Fs (A2 (A0 6) (AE))) (BC 0) (Ee) (Bo 3 Nz (A2 (A0 1) (A2 (A3 DL (A3 DL (A4 (.int 4)) (A0 4)) (A3 M3 (A4 (.int 3)) (A0 0))) (A2 (A3 AH (A0 2) (A0 3)) (AE))))))))))))))
    (GT (Je 3)))
def PW:List D->R CG:=DS 7 fe
def ll:Cg ["_law_script","_law_counts_here","_law_old","_law_new","_law_house"] ["_law_script","_law_counts_here"] (Bv me):=Dd
noncomputable def ff:Ao:=
    AP (B5 2 (BH (FM 3 PW (A2 (Fh JJ (A0 0) (FN (A4 (.int 2))) (FN (A4 (.int 9)))) (A2 (A0 1) (A2 (A4 (.int 0)) (AE)))))))
    (AP (E_ 3 (FM 3 PW (A2 (Fh JJ (A0 0) (FN (A4 (.int 9))) (FN (A4 (.int 16)))) (A2 (A0 1) (A2 (A4 (.int 1)) (AE))))))
    (AP (EC (Fs (A2 (Bm CS (A2 (A0 1) (AE))) (AE))) (BC 4) (C8 (Ah (A3 (Ar true) (A3 Ck (Bo 2 FG (A2 (Bo 2 Kk (A2 (A0 0) (A2 (A4 (.int 1)) (AE)))) (A2 (A0 4) (AE)))) (A4 (.int 4))) (A4 (.int 0)))) (ZC 3 (A0 4) (BH (I6 (A2 (A3 AH (A0 2) (A0 4)) (AE))))) (CK)))
    (La (CP (A2 (A0 2) (A2 (A0 3) (AE)))))))
def Sr:List D->R CG:=DS 5 ff
def mO:Cg ["_law_script","_law_cell","_law_counts_here","_law_wires_here","_law_old","_law_new"] ["_law_script"] (Bv mb):=Dd
noncomputable def fb:Ao:=
    AP (B5 1 (Bo 2 Kk (A2 (A0 0) (A2 (A4 (.int 0)) (AE)))))
    (AP (B5 2 (BH (FM 1 Ss (A2 (A0 1) (AE)))))
    (AP (B5 3 (BH (FM 2 Ro (A2 (A0 1) (A2 (A0 2) (AE))))))
    (AP (K5 (FB [BC 4,BC 5]) (Bo 2 Sr (A2 (A0 0) (A2 (A0 2) (AE)))))
    (CC (CP (A2 (A0 2) (A2 (A0 3) (A2 (A0 4) (A2 (A0 5) (AE))))))))))
def Sq:List D->R CG:=DS 6 fb
def mP:Cg ["_law_wires_here","_law_door","_law_one","_law_other"] ["_law_wires_here","_law_door"] (Bv mc):=Dd
def fc:Ao:=
    AP (EC (ER (A0 0)) (FB [BC 2,BC 3]) (AP (C8 (Ah (A3 (Ar true) (A0 2) (A0 1))) (CC (A0 3)) (CK))
    (C8 (Ah (A3 (Ar true) (A0 3) (A0 1))) (CC (A0 2)) (CK))))
    (CC (A4 .non))
def Vq:List D->R CG:=DS 4 fc
def abf:Cg ["_law_counts_here","_law_wires_here"] ["_law_counts_here","_law_wires_here"] (Bv mu):=Dd
def fl:Ao:=
    GT (DE 1 [1] (ER (BH (FM 1 Su (A2 (A0 0) (AE))))) (BC 0) (Ah (A3 (Fa true) (Bo 2 Vq (A2 (A0 1) (A2 (A0 0) (AE)))) (A4 .non))) (A0 0))
def SL:List D->R CG:=DS 2 fl
def nX:Cg ["_law_cell","_law_many","_law_houses","_law_some_here","_law_k"] ["_law_cell","_law_many"] (Bv m3):=Dd
noncomputable def fp:Ao:=
    AP (E_ 2 (UV (A2 (A0 1) (AE))))
    (AP (E_ 3 (C4 (AE)))
    (AP (EC (Fs (A2 (A3 Ck (Bo 2 FG (A2 (A0 0) (A2 (A4 (.int 3)) (AE)))) (A3 DL (A0 1) (A4 (.int 1)))) (AE))) (BC 4) (Xv 3 (O_ 2 (Ly (A3 Ck (Bo 2 FG (A2 (A0 0) (A2 (A3 DL (A4 (.int 4)) (A0 4)) (AE)))) (Bm CS (A2 (A0 2) (AE))))))))
    (GT (Je 3))))
def Rn:List D->R CG:=DS 5 fp
def nW:Cg ["_law_old","_law_new","_law_some_here","_law_shelves_here","_law_count"] ["_law_old","_law_new","_law_some_here"] (Bv m2):=Dd
noncomputable def fo:Ao:=
    AP (E_ 3 (C4 (AE)))
    (AP (EC (Fs (A2 (A3 DL (Bm CS (A2 (A0 2) (AE))) (A4 (.int 1))) (AE))) (BC 4) (II 3 (BH (DE 1 [0,1,2,4] (Fs (A2 (Bm CS (A2 (A0 0) (AE))) (AE))) (BC 0) (Ee) (A3 AH (A3 AH (BH (C4 (A2 (A0 1) (A2 (A0 2) (AE))))) (Bm Vc (A2 (A3 (inD true) (A0 0) (Fh JJ (A0 3) (Jd) (FN (A0 4)))) (AE)))) (A0 0))))))
    (GT (Je 3)))
def SM:List D->R CG:=DS 5 fo
def abb:Cg ["thing"] ["thing"] (Bv mX):=Dd
def fs:Ao:=
    CC (OY (Cj (K3 "int") (A0 0)) (YL (Cj (K3 "bool") (A0 0))))
def ba:List D->R CG:=DS 1 fs
def abd:Cg ["thing","least","greatest"] ["thing","least","greatest"] (Bv mY):=Dd
def f_:Ao:=
    CC (OY (Bo 1 ba (A2 (A0 0) (AE))) (PP Sf Sf (A0 1) (A0 0) (A0 2)))
def Ri:List D->R CG:=DS 3 f_
def abW:Cg ["thing"] ["thing"] (Bv kx):=Dd
noncomputable def fU:Ao:=
    AP (C8 (GD (Gi (Ah (Cj (K3 "list") (A0 0)))) (Gi (Ah (PP Sf Sf (A4 (.int 1)) (Bm CS (A2 (A0 0) (AE))) (A4 Tx))))) (CC (A4 (.AO false))) (CK))
    (CC (Bm CO (A2 (BH (DE 1 [] (ER (A0 0)) (BC 0) (Ee) (Bo 3 Ri (A2 (A0 0) (A2 (A4 (.int 1)) (A2 (A4 UN) (AE))))))) (AE))))
def So:List D->R CG:=DS 1 fU
def ab_:Cg ["thing"] ["thing"] (Bv mT):=Dd
def gU:Ao:=
    CC (OY (Cj (K3 "tuple") (A0 0)) (A3 (Ar true) (Bm CS (A2 (A0 0) (AE))) (A4 (.int 2))))
def Vn:List D->R CG:=DS 1 gU
def abZ:Cg ["counts","thing"] ["counts","thing"] (Bv mS):=Dd
noncomputable def fY:Ao:=
    AP (C8 (GD (Gi (Ah (Bo 1 Vn (A2 (A0 1) (AE))))) (Gi (Ah (Bo 3 Ri (A2 (A3 AH (A0 1) (A4 (.int 0))) (A2 (A4 (.int 0)) (A2 (A3 RG (Bm CS (A2 (A0 0) (AE))) (A4 (.int 1))) (AE)))))))) (CC (A4 (.AO false))) (CK))
    (CC (Bo 3 Ri (A2 (A3 AH (A0 1) (A4 (.int 1))) (A2 (A4 (.int 0)) (A2 (A3 RG (A3 AH (A0 0) (A3 AH (A0 1) (A4 (.int 0)))) (A4 (.int 1))) (AE))))))
def Vm:List D->R CG:=DS 2 fY
def mL:Cg ["counts","thing","both"] ["counts","thing"] (Bv mZ):=Dd
noncomputable def fa:Ao:=
    AP (C8 (Gi (Ah (Bo 1 Vn (A2 (A0 1) (AE))))) (CC (A4 (.AO false))) (CK))
    (AP (B5 2 (OY (Bo 2 Vm (A2 (A0 0) (A2 (A3 AH (A0 1) (A4 (.int 0))) (AE)))) (Bo 2 Vm (A2 (A0 0) (A2 (A3 AH (A0 1) (A4 (.int 1))) (AE))))))
    (CC (OY (A0 2) (A3 (Ar false) (A3 AH (A0 1) (A4 (.int 0))) (A3 AH (A0 1) (A4 (.int 1)))))))
def ZF:List D->R CG:=DS 3 fa
def mI:Cg ["counts","wires","far","wire"] ["counts","wires"] (Bv kz):=Dd
noncomputable def fV:Ao:=
    AP (Kj 2)
    (AP (EC (Xw (A0 1)) (BC 3) (AP (C8 (Gi (Ah (Bo 2 ZF (A2 (A0 0) (A2 (A0 3) (AE)))))) (bZ) (CK))
    (AP (C8 (GC (GD (Ah (A3 (EW true) (A3 AH (A0 3) (A4 (.int 0))) (A0 2))) (Ah (A3 (EW true) (A3 AH (A0 3) (A4 (.int 1))) (A0 2))))) (bZ) (CK))
    (AP (Hc 2 (A3 AH (A0 3) (A4 (.int 0))) (A3 AH (A0 3) (A4 (.int 1))))
    (Hc 2 (A3 AH (A0 3) (A4 (.int 1))) (A3 AH (A0 3) (A4 (.int 0))))))))
    (La (A0 2)))
def Rg:List D->R CG:=DS 4 fV
def abT:Cg ["self","counts","wires"] ["self","counts","wires"] (Bv lM):=Dd
noncomputable def Xh:JA:=
    Mp (PU (Gi (Ah (Bo 1 So (A2 (A0 1) (AE))))))
    (Mp (PU (Gi (Ah (Cj (K3 "list") (A0 2)))))
    (Mp (Kh "Net" "many" (Bm CS (A2 (A0 1) (AE))))
    (Mp (Kh "Net" "counts" (Bm RK (A2 (A0 1) (AE))))
    (Mp (Kh "Net" "joined" (Bm RK (A2 (A0 2) (AE))))
    (Kh "Net" "far" (Ra (Bo 2 Rg (A2 (Cj (Dj "Net" "counts") (A0 0)) (A2 (Cj (Dj "Net" "joined") (A0 0)) (AE))))))))))
def Ux:List D->R (List Str×List D):=λA5=>outI "Net" (Xh (Ke "Net" A5))
def nU:Cg ["_law_cell","_law_outer_here","_law_many","_law_number","_law_word","_law_pattern","_law_k","_law_door","_law_saying_here"] ["_law_cell","_law_outer_here","_law_many"] (Bv my):=Dd
noncomputable def X4:Ao:=
    AP (B5 3 (Bo 2 FG (A2 (A0 0) (A2 (A4 (.int 5)) (AE)))))
    (AP (B5 4 (A3 AH (BH (C4 (A2 (A4 (.str (Aw "comes"))) (A2 (A4 (.str (Aw "leaves"))) (A2 (A4 (.str (Aw "noring"))) (A2 (A4 (.str (Aw "by"))) (A2 (A4 (.str (Aw "never"))) (AE)))))))) (A3 Ck (A0 3) (A4 (.int 5)))))
    (AP (B5 3 (A3 Di (A0 3) (A4 (.int 5))))
    (AP (B5 5 (A4 (.str (Aw ""))))
    (AP (EC (Fs (A2 (A4 (.int 4)) (AE))) (BC 6) (AP (B5 5 (A3 DL (A0 5) (A3 AH (BH (C4 (A2 (A4 (.str (Aw "0"))) (A2 (A4 (.str (Aw "1"))) (A2 (A4 (.str (Aw "x"))) (AE)))))) (A3 Ck (A0 3) (A4 (.int 3))))))
    (B5 3 (A3 Di (A0 3) (A4 (.int 3))))))
    (AP (B5 7 (A3 AH (A0 1) (A3 Ck (A0 3) (Bm CS (A2 (A0 1) (AE))))))
    (AP (B5 8 (CP (A2 (A0 4) (A2 (A0 5) (A2 (A0 7) (AE))))))
    (AP (C8 (Ah (A3 (Ar true) (A0 4) (A4 (.str (Aw "comes"))))) (CC (A3 K0 (A0 8) (CP (A2 (A3 AH (A0 1) (A3 Ck (A3 Di (A0 3) (A4 (.int 20))) (Bm CS (A2 (A0 1) (AE))))) (AE))))) (CK))
    (AP (C8 (GD (Ah (A3 (Ar true) (A0 4) (A4 (.str (Aw "by"))))) (Ah (A3 (Ar true) (A0 4) (A4 (.str (Aw "never")))))) (CC (A3 K0 (A0 8) (CP (A2 (A3 Ck (A3 Di (A0 3) (A4 (.int 20))) (A0 2)) (AE))))) (CK))
    (CC (A0 8))))))))))
def Rm:List D->R CG:=DS 9 X4
def abg:Cg ["old","new","houses"] ["old","new","houses"] (Bv m5):=Dd
def ew:Ao:=
    GT (DE 1 [2,1,0] (Fs (A2 (Bm CS (A2 (A0 0) (AE))) (AE))) (BC 0) (Ee) (BH (I6 (A2 (Ki (Ah (A3 (inD true) (A0 0) (A0 1))) (A3 AH (A0 2) (A0 0)) (A3 AH (A0 3) (A0 0))) (AE)))))
def ZG:List D->R CG:=DS 3 ew
def abh:Cg ["old","new","row"] ["old","new","row"] (Bv m7):=Dd
def ez:Ao:=
    GT (DE 1 [0,1,2] (Fs (A2 (A3 DL (Bm CS (A2 (A0 2) (AE))) (A4 (.int 1))) (AE))) (BC 0) (Ee) (BH (FM 3 ZG (A2 (A0 1) (A2 (A0 2) (A2 (Fh JJ (A0 3) (Jd) (FN (A0 0))) (AE)))))))
def Vr:List D->R CG:=DS 3 ez
def aba:Cg ["thing"] ["thing"] (Bv mU):=Dd
noncomputable def fZ:Ao:=
    AP (C8 (GD (Gi (Ah (Cj (K3 "str") (A0 0)))) (Ah (A3 (Ar false) (Bm CS (A2 (A0 0) (AE))) (Bm CS (A2 (A4 Qs) (AE)))))) (CC (A4 (.AO false))) (CK))
    (CC (Bm CO (A2 (BH (DE 1 [] (UU (A0 0)) (BC 0) (Ee) (A3 (inD true) (A0 0) (A4 Sz)))) (AE))))
def ZE:List D->R CG:=DS 1 fZ
def abY:Cg ["thing"] ["thing"] (Bv mR):=Dd
def fX:Ao:=
    CC (Bo 3 Ri (A2 (A0 0) (A2 (A4 (.int 0)) (A2 (A4 Sy) (AE)))))
def ZD:List D->R CG:=DS 1 fX
def abX:Cg ["pattern","address"] ["pattern","address"] (Bv lN):=Dd
noncomputable def fW:Ao:=
    AP (C8 (GD (Gi (Ah (Bo 1 ZE (A2 (A0 0) (AE))))) (Gi (Ah (Bo 1 ZD (A2 (A0 1) (AE)))))) (CC (A4 (.AO false))) (CK))
    (CC (Bm CO (A2 (BH (DE 2 [1] (Xx (A2 (A0 0) (A2 (A4 Qs) (AE)))) (FB [BC 0,BC 1]) (Ee) (A3 (inD true) (A0 0) (CP (A2 (A4 (.str (Aw "x"))) (A2 (Bm TR (A2 (A3 Ck (A3 Di (A0 2) (A0 1)) (A4 (.int 2))) (AE))) (AE))))))) (AE))))
def Rh:List D->R CG:=DS 2 fW
def abV:Cg ["pattern"] ["pattern"] (Bv kv):=Dd
def Xk:Ao:=
    GT (DE 1 [0] (Fs (A2 (A3 DL (A4 Sy) (A4 (.int 1))) (AE))) (BC 0) (Ah (Bo 2 Rh (A2 (A0 1) (A2 (A0 0) (AE))))) (A0 0))
def Vl:List D->R CG:=DS 1 Xk
def mC:Cg ["self","spot","told"] ["self","spot"] (Bv km):=Dd
noncomputable def SD:Ao:=
    AP (B5 2 (A3 HX (Cj (Dj "Weaver" "told") (A0 0)) (A0 1)))
    (AP (C8 (GD (Ah (A3 (Ar false) (A3 AH (A0 2) (A4 (.int 0))) (A4 (.str (Aw "at"))))) (Ah (A3 (Ar true) (A3 AH (A0 2) (A4 (.int 1))) (Cj (Dj "Weaver" "shunned") (A0 0))))) (CC (A4 .non)) (CK))
    (CC (CP (A2 (CP (A2 (A3 AH (A0 2) (A4 (.int 1))) (A2 (A3 AH (A0 2) (A4 (.int 2))) (AE)))) (A2 (A3 AH (A0 1) (A4 (.int 1))) (AE))))))
def M0:List D->R CG:=DS 3 SD
def mF:Cg ["self","spot","gone","further"] ["self","spot"] (Bv kr):=Dd
noncomputable def Xj:Ao:=
    AP (E_ 2 (C4 (A2 (A0 1) (AE))))
    (AP (B5 3 (I7 "Weaver" "behind" 1 M0 (A0 0) (A2 (A0 1) (AE))))
    (AP (Jf (GC (Eu (Ah (A3 (Fa false) (A0 3) (A4 .non))) (Ah (A3 (inD false) (A0 3) (A0 2))))) (AP (II 2 (A0 3))
    (B5 3 (I7 "Weaver" "behind" 1 M0 (A0 0) (A2 (A0 3) (AE))))))
    (OZ 2 (CC (Ki (Ah (A3 (Ar true) (A0 3) (A0 1))) (A0 2) (BH (C4 (AE))))))))
def Sm:List D->R CG:=DS 4 Xj
def mE:Cg ["self","found","spot","numbers","ring"] ["self"] (Bv kq):=Dd
noncomputable def Xi:Ao:=
    AP (Kj 1)
    (AP (EC (Rc (Cj (Dj "Weaver" "woven") (A0 0))) (FB [BC 2,BC 3]) (AP (Mo 1 (L_ (CP (A2 (A4 (.str (Aw "at"))) (A2 (A3 AH (A3 AH (A0 2) (A4 (.int 0))) (A4 (.int 0))) (AE))))) (A0 3))
    (AP (C8 (Ah (A3 (Ar false) (A3 AH (A3 HX (Cj (Dj "Weaver" "told") (A0 0)) (A0 2)) (A4 (.int 0))) (A4 (.str (Aw "at"))))) (Mo 1 (L_ (A3 HX (Cj (Dj "Weaver" "told") (A0 0)) (A0 2))) (A0 3)) (CK))
    (AP (B5 4 (I7 "Weaver" "round_from" 1 Sm (A0 0) (A2 (A0 2) (AE))))
    (C8 (Ah (A3 (Ar false) (A0 4) (BH (C4 (AE))))) (Mo 1 (b_ (Aw "ring")) (BH (Kg (Fh JJ (A0 3) (Jd) (FN (Cj Jg (A4 (.int 1))))) (A3 PA (BH (C4 (A2 (A3 AH (A0 2) (A4 (.int 1))) (AE)))) (Bm CS (A2 (A0 4) (AE))))))) (CK))))))
    (La (A0 1)))
def Rf:List D->R CG:=DS 5 Xi
def mD:Cg ["self","door","ahead","least","spots","spot"] ["self","door","ahead"] (Bv kn):=Dd
noncomputable def SE:Ao:=
    AP (C8 (GC (Ah (A3 (Ar true) (A3 AH (A0 1) (A4 (.int 0))) (Cj (Dj "Weaver" "shunned") (A0 0))))) (Ob (BH (C4 (AE)))) (CK))
    (AP (B5 3 (Ki (Ah (A3 (Ar false) (A0 2) (BH (C4 (AE))))) (A3 AH (A0 2) (Cj Jg (A4 (.int 1)))) (A4 (.int 0))))
    (AP (Oc 4 (Rb (DE 1 [1,0] (Oa (A2 (A0 3) (A2 (Bm CS (A2 (Cj (Dj "Weaver" "stages") (A0 0)) (AE))) (AE)))) (BC 0) (Ah (A3 (EW false) (CP (A2 (A0 1) (A2 (A0 0) (AE)))) (Cj (Dj "Weaver" "woven") (A0 2)))) (CP (A2 (A0 1) (A2 (A0 0) (AE)))))))
    (AP (EC (ER (A0 4)) (BC 5) (NI 0 "Weaver" "woven" (A0 5) (BH (Kg (A0 2) (BH (C4 (A2 (A3 AH (A0 5) (A4 (.int 1))) (AE))))))))
    (Ob (A0 4)))))
def Lb:T->List D->R (D×T):=PQ 6 SE
def n_:Cg ["book","door","address","number","row"] ["book","door","address"] (Bv m8):=Dd
noncomputable def f3:Ao:=
    AP (EC (UT (A2 (A0 0) (AE))) (FB [BC 3,BC 4]) (C8 (Eu (GD (Ah (A3 (Fa true) (A3 AH (A0 4) (A4 (.int 1))) (A4 .non))) (Ah (A3 (Ar true) (A3 AH (A0 4) (A4 (.int 1))) (A0 1)))) (Ah (Bo 2 Rh (A2 (A3 AH (A0 4) (A4 (.int 0))) (A2 (A0 2) (AE)))))) (CC (A0 3)) (CK)))
    (CC (A4 .non))
def ZH:List D->R CG:=DS 5 f3
def abS:Cg ["self","door"] ["self","door"] (Bv lL):=Dd
def fT:Ao:=
    CC (US (Cj (Dj "Net" "far") (A0 0)) (A0 1))
def UX:List D->R CG:=DS 2 fT
def nZ:Cg ["net","book","door","address","number","out","far"] ["net","book","door","address"] (Bv m6):=Dd
noncomputable def Sw:Ao:=
    AP (B5 4 (Bo 3 ZH (A2 (A0 1) (A2 (A3 AH (A0 2) (A4 (.int 1))) (A2 (A0 3) (AE))))))
    (AP (B5 5 (Ki (Ah (A3 (Fa true) (A0 4) (A4 .non))) (A4 .non) (A3 AH (A3 AH (A0 1) (A0 4)) (A4 (.int 2)))))
    (AP (C8 (Ah (A3 (Fa true) (A0 5) (A4 .non))) (CC (CP (A2 (A4 (.str (Aw "drop"))) (A2 (A3 AH (A0 2) (A4 (.int 0))) (AE))))) (CK))
    (AP (B5 6 (I7 "Net" "beyond" 1 UX (A0 0) (A2 (CP (A2 (A3 AH (A0 2) (A4 (.int 0))) (A2 (A0 5) (AE)))) (AE))))
    (AP (C8 (Ah (A3 (Fa true) (A0 6) (A4 .non))) (CC (CP (A2 (A4 (.str (Aw "out"))) (A2 (A3 AH (A0 2) (A4 (.int 0))) (A2 (A0 5) (AE)))))) (CK))
    (CC (CP (A2 (A4 (.str (Aw "at"))) (A2 (A3 AH (A0 6) (A4 (.int 0))) (A2 (A3 AH (A0 6) (A4 (.int 1))) (AE))))))))))
def O1:List D->R CG:=DS 7 Sw
def mG:Cg ["self","door","waiting","further","spot","told"] ["self","door"] (Bv ku):=Dd
noncomputable def SJ:Ao:=
    AP (Lz 2 (I5 0 "Weaver" "entered" 2 Lb (A2 (A0 1) (A2 (BH (C4 (AE))) (AE)))))
    (Jf (Ah (A3 (Ar false) (A0 2) (BH (C4 (AE))))) (AP (E_ 3 (C4 (AE)))
    (AP (EC (ER (A0 2)) (BC 4) (AP (B5 5 (Jc (Bo 4 O1 (A2 (Cj (Dj "Weaver" "net") (A0 0)) (A2 (A3 AH (A3 AH (Cj (Dj "Weaver" "stages") (A0 0)) (A3 AH (A0 4) (A4 (.int 1)))) (A3 AH (A3 AH (A0 4) (A4 (.int 0))) (A4 (.int 0)))) (A2 (A3 AH (A0 4) (A4 (.int 0))) (A2 (Cj (Dj "Weaver" "address") (A0 0)) (AE))))))))
    (AP (NI 0 "Weaver" "told" (A0 4) (A0 5))
    (C8 (Ah (A3 (Ar true) (A3 AH (A0 5) (A4 (.int 0))) (A4 (.str (Aw "at"))))) (PR (PS 3 (I5 0 "Weaver" "entered" 2 Lb (A2 (CP (A2 (A3 AH (A0 5) (A4 (.int 1))) (A2 (A3 AH (A0 5) (A4 (.int 2))) (AE)))) (A2 (LZ 0 "Weaver" "woven" (A0 4)) (AE)))))) (CK)))))
    (OZ 3 (B5 2 (A0 3))))))
def Sn:T->List D->R (D×T):=PQ 6 SJ
def abU:Cg ["self","net","stages","door","address","shunned"] ["self","net","stages","door","address","shunned"] (Bv ko):=Dd
noncomputable def UL:Ao:=
    AP (PT "Weaver" "net" (A0 1))
    (AP (PT "Weaver" "stages" (A0 2))
    (AP (PT "Weaver" "address" (A0 4))
    (AP (PT "Weaver" "shunned" (A0 5))
    (AP (Sj "Weaver" "woven")
    (AP (Sj "Weaver" "told")
    (PR (I5 0 "Weaver" "weave" 1 Sn (A2 (A0 3) (AE)))))))))
def Ny:List D->R T:=Xy "Weaver" 6 UL
def mJ:Cg ["saying","doors","end","word","comes_by"] ["saying","doors","end"] (Bv mV):=Dd
noncomputable def Xm:Ao:=
    AP (B5 3 (A3 AH (A0 0) (A4 (.int 0))))
    (AP (C8 (Ah (A3 (Ar true) (A0 3) (A4 (.str (Aw "comes"))))) (CC (A3 (Ar true) (A0 2) (CP (A2 (A4 (.str (Aw "out"))) (A2 (A3 AH (A3 AH (A0 0) (A4 (.int 3))) (A4 (.int 0))) (A2 (A3 AH (A3 AH (A0 0) (A4 (.int 3))) (A4 (.int 1))) (AE))))))) (CK))
    (AP (C8 (Ah (A3 (Ar true) (A0 3) (A4 (.str (Aw "leaves"))))) (CC (A3 (Ar true) (A3 AH (A0 2) (A4 (.int 0))) (A4 (.str (Aw "out"))))) (CK))
    (AP (C8 (Ah (A3 (Ar true) (A0 3) (A4 (.str (Aw "noring"))))) (CC (A3 (Ar false) (A3 AH (A0 2) (A4 (.int 0))) (A4 (.str (Aw "ring"))))) (CK))
    (AP (B5 4 (A3 (inD true) (A3 AH (A0 0) (A4 (.int 3))) (BH (DE 1 [] (ER (A0 1)) (BC 0) (Ee) (A3 AH (A0 0) (A4 (.int 0)))))))
    (CC (A3 (Ar true) (A0 4) (A3 (Ar true) (A0 3) (A4 (.str (Aw "by"))))))))))
def Vo:List D->R CG:=DS 5 Xm
def mK:Cg ["net","stages","saying","address","shunned","things"] ["net","stages","saying","address"] (Bv mW):=Dd
noncomputable def Xn:Ao:=
    AP (B5 4 (Ki (Ah (A3 (Ar true) (A3 AH (A0 2) (A4 (.int 0))) (A4 (.str (Aw "by"))))) (A3 AH (A0 2) (A4 (.int 3))) (A4 .non)))
    (AP (B5 5 (BH (Sl (A2 (I7 "Weaver" "met" 0 Rf (Re 5 Ny (A2 (A0 0) (A2 (A0 1) (A2 (A3 AH (A0 2) (A4 (.int 2))) (A2 (A0 3) (A2 (A0 4) (AE))))))) AE) (AE)))))
    (AP (C8 (Ah (A3 (Ar true) (A3 AH (A0 2) (A4 (.int 0))) (A4 (.str (Aw "never"))))) (CC (A3 (inD false) (CP (A2 (A4 (.str (Aw "at"))) (A2 (A3 AH (A0 2) (A4 (.int 3))) (AE)))) (A0 5))) (CK))
    (CC (Bm CO (A2 (BH (DE 1 [2] (ER (A0 5)) (BC 0) (Ah (A3 (Ar false) (A3 AH (A0 0) (A4 (.int 0))) (A4 (.str (Aw "at"))))) (Bo 3 Vo (A2 (A0 1) (A2 (BH (C4 (AE))) (A2 (A0 0) (AE))))))) (AE))))))
def Mq:List D->R CG:=DS 6 Xn
def mH:Cg ["net","old","new","row","saying","stages","address"] ["net","old","new","row","saying"] (Bv ky):=Dd
noncomputable def Xl:Ao:=
    AP (B5 5 (BH (FM 3 Vr (A2 (A0 1) (A2 (A0 2) (A2 (A0 3) (AE)))))))
    (AP (EC (ER (BH (FM 1 Vl (A2 (A3 AH (A0 4) (A4 (.int 1))) (AE))))) (BC 6) (C8 (Gi (Ah (Bo 4 Mq (A2 (A0 0) (A2 (A0 5) (A2 (A0 4) (A2 (A0 6) (AE)))))))) (CC (A0 6)) (CK)))
    (CC (A4 .non)))
def Sp:List D->R CG:=DS 7 Xl
def lq:Cg ["_law_pattern","_law_address","_law_k","_law_figure"] ["_law_pattern","_law_address"] (Bv ml):=Dd
noncomputable def fh:Ao:=
    AP (EC (Fs (A2 (A4 (.int 4)) (AE))) (BC 2) (AP (B5 3 (A3 Ck (A3 Di (A0 1) (A3 AH (BH (C4 (A2 (A4 (.int 8)) (A2 (A4 (.int 4)) (A2 (A4 (.int 2)) (A2 (A4 (.int 1)) (AE))))))) (A0 2))) (A4 (.int 2))))
    (C8 (Eu (Ah (A3 (Ar false) (A3 AH (A0 0) (A0 2)) (A4 (.str (Aw "x"))))) (Ah (A3 (Ar false) (A3 AH (A0 0) (A0 2)) (A3 AH (A4 (.str (Aw "01"))) (A0 3))))) (CC (A4 (.AO false))) (CK))))
    (CC (A4 (.AO true)))
def Rj:List D->R CG:=DS 4 fh
def ly:Cg ["_law_wires_here","_law_book","_law_door","_law_address","_law_pattern","_law_inward","_law_out","_law_behind"] ["_law_wires_here","_law_book","_law_door","_law_address"] (Bv mr):=Dd
noncomputable def fk:Ao:=
    AP (EC (ER (A0 1)) (FB [BC 4,BC 5,BC 6]) (C8 (Eu (Ah (Bo 2 Rj (A2 (A0 4) (A2 (A0 3) (AE))))) (GD (Ah (A3 (Fa true) (A0 5) (A4 .non))) (Ah (A3 (Ar true) (A0 5) (A3 AH (A0 2) (A4 (.int 1))))))) (AP (C8 (Ah (A3 (Fa true) (A0 6) (A4 .non))) (CC (CP (A2 (A4 (.str (Aw "drop"))) (A2 (A3 AH (A0 2) (A4 (.int 0))) (AE))))) (CK))
    (AP (B5 7 (Bo 2 Vq (A2 (A0 0) (A2 (CP (A2 (A3 AH (A0 2) (A4 (.int 0))) (A2 (A0 6) (AE)))) (AE)))))
    (AP (C8 (Ah (A3 (Fa true) (A0 7) (A4 .non))) (CC (CP (A2 (A4 (.str (Aw "out"))) (A2 (A3 AH (A0 2) (A4 (.int 0))) (A2 (A0 6) (AE)))))) (CK))
    (CC (A3 K0 (CP (A2 (A4 (.str (Aw "at"))) (AE))) (A0 7)))))) (CK)))
    (CC (CP (A2 (A4 (.str (Aw "drop"))) (A2 (A3 AH (A0 2) (A4 (.int 0))) (AE)))))
def Lc:List D->R CG:=DS 8 fk
def lz:Cg ["_law_wires_here","_law_books_here","_law_door","_law_address","_law_road_here","_law_told"] ["_law_wires_here","_law_books_here","_law_door","_law_address"] (Bv mw):=Dd
noncomputable def X3:Ao:=
    AP (E_ 4 (C4 (A2 (A0 2) (AE))))
    (AP (B5 5 (Jc (Bo 4 Lc (A2 (A0 0) (A2 (A3 AH (A0 1) (A3 AH (A0 2) (A4 (.int 0)))) (A2 (A0 2) (A2 (A0 3) (AE))))))))
    (AP (Jf (GC (Eu (Ah (A3 (Ar true) (A3 AH (A0 5) (A4 (.int 0))) (A4 (.str (Aw "at"))))) (Ah (A3 (inD false) (Fh L9 (A0 5) (FN (A4 (.int 1))) (Jd)) (A0 4))))) (AP (II 4 (Fh L9 (A0 5) (FN (A4 (.int 1))) (Jd)))
    (B5 5 (Jc (Bo 4 Lc (A2 (A0 0) (A2 (A3 AH (A0 1) (A3 AH (A3 AH (A0 4) (Cj Jg (A4 (.int 1)))) (A4 (.int 0)))) (A2 (A3 AH (A0 4) (Cj Jg (A4 (.int 1)))) (A2 (A0 3) (AE))))))))))
    (La (CP (A2 (A0 4) (A2 (A0 5) (AE)))))))
def Rl:List D->R CG:=DS 6 X3
def nV:Cg ["_law_wires_here","_law_shelves_here","_law_door","_law_address","_law_shunned","_law_found","_law_states","_law_seen","_law_rounds","_law_at","_law_here","_law_low","_law_count","_law_road_here","_law_end","_law_told"] ["_law_wires_here","_law_shelves_here","_law_door","_law_address","_law_shunned"] (Bv m1):=Dd
noncomputable def X5:Ao:=
    AP (Kj 5)
    (AP (E_ 6 (C4 (A2 (CP (A2 (A0 2) (A2 (A4 (.int 0)) (AE)))) (AE))))
    (AP (UW 7 (L_ (CP (A2 (A0 2) (A2 (A4 (.int 0)) (AE))))) (A4 (.AO true)))
    (AP (Kj 8)
    (AP (C8 (Ah (A3 (Ar true) (A3 AH (A0 2) (A4 (.int 0))) (A0 4))) (La (A0 5)) (CK))
    (AP (B5 9 (A4 (.int 0)))
    (AP (Jf (GC (Ah (A3 R_ (A0 9) (Bm CS (A2 (A0 6) (AE)))))) (AP (K5 (FB [BC 10,BC 11]) (Jc (A3 AH (A0 6) (A0 9))))
    (AP (B5 9 (A3 DL (A0 9) (A4 (.int 1))))
    (AP (Hc 5 (CP (A2 (A4 (.str (Aw "at"))) (A2 (A3 AH (A0 10) (A4 (.int 0))) (AE)))) (A4 (.AO true)))
    (EC (Oa (A2 (A0 11) (A2 (Bm CS (A2 (A0 1) (AE))) (AE)))) (BC 12) (AP (C8 (GC (Ah (A3 (EW false) (CP (A2 (A0 10) (A2 (A0 12) (AE)))) (A0 8)))) (AP (Hc 8 (CP (A2 (A0 10) (A2 (A0 12) (AE)))) (A4 (.AO true)))
    (AP (K5 (FB [BC 13,BC 14]) (Bo 4 Rl (A2 (A0 0) (A2 (A3 AH (A0 1) (A0 12)) (A2 (A0 10) (A2 (A0 3) (AE)))))))
    (C8 (Eu (Ah (A3 (Ar true) (A3 AH (A0 14) (A4 (.int 0))) (A4 (.str (Aw "at"))))) (Ah (Bm CO (A2 (BH (DE 1 [4] (ER (A0 13)) (BC 0) (Ee) (A3 (Ar false) (A3 AH (A0 0) (A4 (.int 0))) (A0 1)))) (AE))))) (Hc 5 (CP (A2 (A4 (.str (Aw "ring"))) (AE))) (A4 (.AO true))) (CK)))) (CK))
    (AP (B5 15 (Bo 4 Lc (A2 (A0 0) (A2 (A3 AH (A3 AH (A0 1) (A0 12)) (A3 AH (A0 10) (A4 (.int 0)))) (A2 (A0 10) (A2 (A0 3) (AE)))))))
    (C8 (Ah (A3 (Ar false) (A3 AH (A0 15) (A4 (.int 0))) (A4 (.str (Aw "at"))))) (Hc 5 (A0 15) (A4 (.AO true))) (C8 (GC (Eu (Ah (A3 (Ar false) (A3 AH (A0 15) (A4 (.int 1))) (A0 4))) (Ah (A3 (EW false) (CP (A2 (Fh L9 (A0 15) (FN (A4 (.int 1))) (Jd)) (A2 (A0 12) (AE)))) (A0 7))))) (AP (Hc 7 (CP (A2 (Fh L9 (A0 15) (FN (A4 (.int 1))) (Jd)) (A2 (A0 12) (AE)))) (A4 (.AO true)))
    (II 6 (CP (A2 (Fh L9 (A0 15) (FN (A4 (.int 1))) (Jd)) (A2 (A0 12) (AE)))))) (CK))))))))))
    (OZ 5 (CC (A0 5)))))))))
def O0:List D->R CG:=DS 16 X5
def mN:Cg ["_law_wires_here","_law_shelves_here","_law_saying_here","_law_address","_law_shunned","_law_found","_law_ends"] ["_law_wires_here","_law_shelves_here","_law_saying_here","_law_address"] (Bv m_):=Dd
noncomputable def Wz:Ao:=
    AP (B5 4 (A4 .non))
    (AP (C8 (Ah (A3 (Ar true) (A3 AH (A0 2) (A4 (.int 0))) (A4 (.str (Aw "by"))))) (B5 4 (A3 AH (A0 2) (A4 (.int 3)))) (CK))
    (AP (B5 5 (Bo 5 O0 (A2 (A0 0) (A2 (A0 1) (A2 (A3 AH (A0 2) (A4 (.int 2))) (A2 (A0 3) (A2 (A0 4) (AE))))))))
    (AP (Oc 6 (DE 1 [] (Sk (A0 5)) (BC 0) (Ah (A3 (Ar false) (A3 AH (A0 0) (A4 (.int 0))) (A4 (.str (Aw "at"))))) (A0 0)))
    (AP (C8 (Ah (A3 (Ar true) (A3 AH (A0 2) (A4 (.int 0))) (A4 (.str (Aw "by"))))) (CC (A3 (Ar false) (A0 6) (BH (C4 (AE))))) (CK))
    (AP (C8 (Ah (A3 (Ar true) (A3 AH (A0 2) (A4 (.int 0))) (A4 (.str (Aw "never"))))) (CC (A3 (EW true) (CP (A2 (A4 (.str (Aw "at"))) (A2 (A3 AH (A0 2) (A4 (.int 3))) (AE)))) (A0 5))) (CK))
    (AP (C8 (Ah (A3 (Ar true) (A3 AH (A0 2) (A4 (.int 0))) (A4 (.str (Aw "noring"))))) (CC (A3 (EW true) (CP (A2 (A4 (.str (Aw "ring"))) (AE))) (A0 5))) (CK))
    (AP (C8 (Ah (A3 (Ar true) (A3 AH (A0 2) (A4 (.int 0))) (A4 (.str (Aw "leaves"))))) (CC (Bm MJ (A2 (BH (DE 1 [] (ER (A0 6)) (BC 0) (Ee) (A3 (Ar false) (A3 AH (A0 0) (A4 (.int 0))) (A4 (.str (Aw "out")))))) (AE)))) (CK))
    (CC (Bm MJ (A2 (BH (DE 1 [2] (ER (A0 6)) (BC 0) (Ee) (A3 (Ar false) (A0 0) (A3 K0 (CP (A2 (A4 (.str (Aw "out"))) (AE))) (A3 AH (A0 1) (A4 (.int 3))))))) (AE)))))))))))
def PV:List D->R CG:=DS 7 Wz
def lu:Cg ["_law_wires_here","_law_shelves_here","_law_saying_here","_law_address"] ["_law_wires_here","_law_shelves_here","_law_saying_here"] (Bv mn):=Dd
noncomputable def X2:Ao:=
    AP (EC (Fs (A2 (A4 (.int 16)) (AE))) (BC 3) (C8 (Eu (Ah (Bo 2 Rj (A2 (A3 AH (A0 2) (A4 (.int 1))) (A2 (A0 3) (AE))))) (Ah (Bo 4 PV (A2 (A0 0) (A2 (A0 1) (A2 (A0 2) (A2 (A0 3) (AE)))))))) (CC (A0 3)) (CK)))
    (CC (A4 .non))
def SK:List D->R CG:=DS 4 X2
def mM:Cg ["_law_script","_law_counts_here","_law_wires_here","_law_old","_law_new","_law_outer_here","_law_some_here","_law_shelves_here","_law_net","_law_cell","_law_saying_here","_law_handed","_law_found","_law_due"] ["_law_script"] (Bv OB):=Dd
noncomputable def Xo:Ao:=
    AP (K5 (FB [BC 1,BC 2,BC 3,BC 4]) (Bo 1 Sq (A2 (A0 0) (AE))))
    (AP (B5 5 (BH (FM 2 SL (A2 (A0 1) (A2 (A0 2) (AE))))))
    (AP (B5 6 (BH (FM 2 Rn (A2 (Bo 2 Kk (A2 (A0 0) (A2 (A4 (.int 1)) (AE)))) (A2 (Bm CS (A2 (A0 1) (AE))) (AE))))))
    (AP (B5 7 (BH (FM 3 SM (A2 (A0 3) (A2 (A0 4) (A2 (A0 6) (AE)))))))
    (AP (B5 8 (Rd "Net" 2 Ux (A2 (A0 1) (A2 (A0 2) (AE)))))
    (AP (EC (ER (BH (Kg (BH (C4 (A2 (A4 (.int 3)) (AE)))) (Fh JJ (A0 0) (FN (A4 (.int 16))) (FN (A4 (.int 18))))))) (BC 9) (AP (B5 10 (Bo 3 Rm (A2 (A0 9) (A2 (A0 5) (A2 (Bm CS (A2 (A0 1) (AE))) (AE))))))
    (AP (B5 11 (BH (C4 (A2 (BH (DE 1 [] (ER (A0 3)) (BC 0) (Ee) (BH (I6 (A2 (A0 0) (AE)))))) (A2 (BH (DE 1 [] (ER (A0 4)) (BC 0) (Ee) (BH (I6 (A2 (A0 0) (AE)))))) (A2 (BH (I6 (A2 (A0 6) (AE)))) (AE)))))))
    (AP (B5 12 (Bo 5 Sp (A2 (A0 8) (A2 (A3 AH (A0 11) (A4 (.int 0))) (A2 (A3 AH (A0 11) (A4 (.int 1))) (A2 (A3 AH (A0 11) (A4 (.int 2))) (A2 (A0 10) (AE))))))))
    (AP (B5 13 (Bo 3 SK (A2 (A0 2) (A2 (A0 7) (A2 (A0 10) (AE))))))
    (AP (C8 (GD (Eu (Ah (A3 (Fa true) (A0 13) (A4 .non))) (Ah (A3 (Fa false) (A0 12) (A4 .non)))) (Ah (A3 (Ar false) (A0 11) (BH (C4 (A2 (A0 3) (A2 (A0 4) (A2 (A0 6) (AE))))))))) (CC (A4 (.AO false))) (CK))
    (C8 (Eu (Ah (A3 (Fa false) (A0 13) (A4 .non))) (GD (Ah (A3 (Ar false) (A0 12) (A0 13))) (Ah (Cj (K3 "bool") (A0 12))))) (CC (A4 (.AO false))) (CK))))))))
    (CC (A4 (.AO true))))))))
def Vp:List D->R CG:=DS 14 Xo
def HE{α β:Type}(a:α)(k:α->R β):(R.ok a).bind k=k a:=rfl
def Z4{a b:Ao}{ρ BL:AG}(h:a ρ=.ok (.Ay BL)):AP a b ρ=b BL:=by simp only[AP,h,HE]
def hY{f:List D->R CG}{a:Ab}{ρ:AG}{x y:D}(AB:a ρ=.ok x)(h:f [x]=.ok (.v y)):Bo 1 f (A2 a AE) ρ=.ok y:=by simp only[Bo,A2,AE,AB,HE,FU,Hk,if_true,h,OA]
def call2{f:List D->R CG}{a b:Ab}{ρ:AG}{x z y:D}(AB:a ρ=.ok x)(A1:b ρ=.ok z)(h:f [x,z]=.ok (.v y)):Bo 2 f (A2 a (A2 b AE)) ρ=.ok y:=by simp only[Bo,A2,AE,AB,A1,HE,FU,Hk,if_true,h,OA]
def D5{f:D->D->R D}{a b:Ab}{ρ:AG}{x y z:D}(AB:a ρ=.ok x)(A1:b ρ=.ok y)(h:f x y=.ok z):A3 f a b ρ=.ok z:=by simp only[A3,AB,A1,HE,h]
def acM{f:D->R D}{a:Ab}{ρ:AG}{x y:D}(AB:a ρ=.ok x)(h:f x=.ok y):Cj f a ρ=.ok y:=by simp only[Cj,AB,HE,h]
def Fc{a:Ab}{ρ:AG}{c:Bool}(AB:a ρ=.ok (.AO c)):Ah a ρ=.ok c:=by simp only[Ah,AB,HE,Mj]
def kT{a:CN}{ρ:AG}{c:Bool}(AB:a ρ=.ok c):Gi a ρ=.ok (!c):=by simp only[Gi,AB,HE]
def kD{a b:CN}{ρ:AG}{c d:Bool}(AB:a ρ=.ok c)(A1:c=false->b ρ=.ok d):GD a b ρ=.ok (c||d):=by
 cases c
 .simp only[GD,AB,HE,A1 rfl,Hh,if_false,de]
 .simp only[GD,AB,HE,if_true,Bool.true_or]
def SC{a b:CN}{ρ:AG}{c d:Bool}(AB:a ρ=.ok c)(A1:c=true->b ρ=.ok d):Eu a b ρ=.ok (c&&d):=by
 cases c
 .simp only[Eu,AB,HE,Hh,if_false,dv]
 .simp only[Eu,AB,HE,A1 rfl,if_true,S1]
def IC{i:Nat}{a:Ab}{ρ BL:AG}{d:D}(AB:a ρ=.ok d)(AJ:BC i d ρ=.ok BL):B5 i a ρ=.ok (.Ay BL):=by simp only[B5,AB,HE,AJ]
def GS{c:CN}{a b:Ao}{ρ:AG}{k:Bool}(AK:c ρ=.ok k):C8 c a b ρ=if k=true then a ρ else b ρ:=by simp only[C8,AK,HE]
def JI{c:CN}{a b:Ao}{ρ:AG}(AK:c ρ=.ok false):AP (C8 c a CK) b ρ=b ρ:=by simp only[AP,C8,AK,HE,CK];rfl
def Mu{e:Ab}{ρ:AG}{d:D}(he:e ρ=.ok d):CC e ρ=.ok (.ES d):=by simp only[CC,he,HE]
def RY{a:Ab}{ρ:AG}{xs:List D}(AB:a ρ=.ok (.lst xs)):Bm CS (A2 a AE) ρ=.ok (.int (xs.length:Nat)):=by simp only[Bm,A2,AE,AB,HE,CS]
def CH(cs:List Nat):List D:=cs.map λ(c:Nat)=>D.int (c:Int)
abbrev AU:=Nat×Nat
def AS(d:AU):D:=.tup [.int (d.1:Nat),.int (d.2:Nat)]
def CI(w:AU×AU):D:=.tup [AS w.1,AS w.2]
def ends(ws:List (AU×AU)):List AU:=(ws.map λw=>[w.1,w.2]).flatten
theorem es{α:Type}:∀(l:List α)(i:Nat)(h:i<l.length),List.Perm (l[i]::l.eraseIdx i) l
 |x::l,0,_=>List.Perm.refl _
 |x::l,i+1,h=>by have CA:=es l i (by simpa using h);simp only[List.getElem_cons_succ,pJ];exact(List.Perm.swap x _ _).trans (CA.cons x)
def Na(cs:List Nat)(h:Nat):List AU:=(Ds (cs.getD h 0)).map λk=>(h,k)
def CO(cs:List Nat)(n:Nat):List AU:=(Ds n).flatMap (Na cs)
def e3(cs:List Nat)(n:Nat):CO cs (n+1)=CO cs n++Na cs n:=by unfold CO;rw[List.range_succ,List.flatMap_append];simp
def be{cs:List Nat}{h:Nat}{d:AU}:d∈Na cs h↔d.1=h/\d.2<cs.getD h 0:=by
 unfold Na;rw[List.mem_map];constructor
 .rintro⟨k,AF,rfl⟩;exact⟨rfl,List.mem_range.mp AF⟩
 .rintro⟨rfl,AA⟩;exact⟨d.2,List.mem_range.mpr AA,rfl⟩
def L5{cs:List Nat}{n:Nat}{d:AU}:d∈CO cs n↔d.1<n/\d.2<cs.getD d.1 0:=by
 unfold CO;rw[List.mem_flatMap];constructor
 .rintro⟨h,BE,hd⟩;obtain⟨rfl,AA⟩:=be.mp hd;exact⟨List.mem_range.mp BE,AA⟩
 .rintro⟨A6,AA⟩;exact⟨d.1,List.mem_range.mpr A6,be.mpr ⟨rfl,AA⟩⟩
def rO(cs:List Nat)(h:Nat):(Na cs h).Nodup:=by unfold Na;rw[List.nodup_iff_pairwise_ne,List.pairwise_map];exact List.nodup_range.imp λVI z=>VI (Prod.mk.inj z).2
theorem gK(cs:List Nat):∀n,(CO cs n).Nodup
 |0=>List.nodup_nil
 |n+1=>by rw[e3];refine List.nodup_append.mpr ⟨gK cs n,rO cs n,λa AB b A1 z=>?_⟩;subst z;have A6:=(L5.mp AB).1;have AA:=(be.mp A1).1;lia
def aV{cs:List Nat}(h:∀c∈cs,c<=4)(k:Nat):cs.getD k 0<=4:=by
 rw[IU];cases e:cs[k]? with
 |none=>simp
 |some c=>simpa using h c (KD e)
def rN{cs:List Nat}(h:∀c∈cs,1<=c/\c<=4)(k:Nat):(Na cs k).length<=4:=by unfold Na;rw[GU,List.length_range];exact aV (λc AK=>(h c AK).2) k
theorem Mi{cs:List Nat}(h:∀c∈cs,1<=c/\c<=4):∀n,(CO cs n).length<=4*n
 |0=>by simp[CO]
 |n+1=>by rw[e3,J2];have:=Mi h n;have:=rN h n;lia
def XJ{cs:List Nat}{h:Nat}(BE:h<cs.length):(CH cs)[h]?=some (.int (cs.getD h 0:Nat)):=by simp[CH,Df BE,IU]
structure KO(cs:List Nat)(ws:List (AU×AU)):Prop where
 A6:1<=cs.length
 D6:cs.length<=6
 c:∀c∈cs,1<=c/\c<=4
 Ct:(ends ws).Nodup
 sub:∀d∈ends ws,d∈CO cs cs.length
 few:ws.length<100
def head_mem{cs:List Nat}(A6:1<=cs.length)(c:∀c∈cs,1<=c/\c<=4):((0,0):AU)∈CO cs cs.length:=by
 refine L5.mpr ⟨A6,?_⟩;cases cs with
 |nil=>simp at A6
 |cons x r=>exact(c x (MS ..)).1
def Hu(d:AU):Bj:=[.inl (.inl (d.1:Nat)),.inl (.inl (d.2:Nat))]
def Zr{a b:AU}(h:Hu a=Hu b):a=b:=by
 obtain⟨a1,a2⟩:=a;obtain⟨GQ,G9⟩:=b;simp only[Hu,Rr,Sum.inl.injEq,and_true]at h;have A6:a1=GQ:=by lia
 have AA:a2=G9:=by lia
 rw[A6,AA]
def Ut(d:AU):I4 (AS d)=some (Hu d):=rfl
def FA(ws:List (AU×AU)):List Bj:=(ends ws).map Hu
def FR(ws:List (AU×AU)):List D:=(ws.map λw=>[AS w.2,AS w.1]).flatten
def ks_any(ws:List (AU×AU))(d:AU):(FA ws).any (λx=>decide (x=Hu d))=decide (d∈ends ws):=by
 unfold FA;rw[Og];by_cases h:d∈ends ws
 .rw[decide_eq_true h,NK];exact⟨d,h,by simp⟩
 .rw[decide_eq_false h,List.any_eq_false];intro x AI;simp only[df,decide_eq_true_eq];exact λz=>h (Zr z▸AI)
def XQ(ws:List (AU×AU)):(ends ws).length=2*ws.length:=by
 induction ws with
 |nil=>rfl
 |cons w r CA=>simp only[ends,EF,QI,J2,FU,Hk]at CA |-;lia
def Wv{i:Nat}{mk mv:Ab}{ρ:AG}{ks:List Bj}{ds:List D}{k v:D}{Bf:Bj}(AJ:ρ[i]?=some (.ob (.Ai ks ds)))(AF:mk ρ=.ok k)(Bc:mv ρ=.ok v)(Dc:I4 k=some Bf)(AV:ks.any (λx=>decide (x=Bf))=false)(AN:ks.length<1000000) :
  Hc i mk mv ρ=.ok (.Ay (ρ.set i (.ob (.Ai (ks++[Bf]) (ds++[v]))))):=by
 simp only[Hc,Bc,AJ,AF,HE,Dc,putD,if_pos (And.intro AV AN)]
def q3{ks:List Bj}{a b:Bj}(h:ks.any (λx=>decide (x=b))=false)(ne:a≠b):(ks++[a]).any (λx=>decide (x=b))=false:=by rw[List.any_append,h];simp[ne]
def xj(ws:List (AU×AU))(w:AU×AU):FA (ws++[w])=FA ws++[Hu w.1]++[Hu w.2]:=by simp[FA,ends]
def ac0(ws:List (AU×AU))(w:AU×AU):FR (ws++[w])=FR ws++[AS w.2]++[AS w.1]:=by simp[FR]
def ye{P:List (AU×AU)}{w:AU×AU}{r:List (AU×AU)}(Ct:(ends (P++w::r)).Nodup):w.1∉ends P/\w.2∉ends P/\w.1≠w.2:=by
 have e:ends (P++w::r)=ends P++(w.1::w.2::ends r):=by simp[ends]
 rw[e]at Ct;obtain⟨_,Dx,M4⟩:=List.nodup_append.mp Ct;refine⟨λz=>M4 _ z w.1 (by simp) rfl,λz=>M4 _ z w.2 (by simp) rfl,λz=>?_⟩;rw[List.nodup_cons]at Dx;exact Dx.1 (by rw[z];simp)
def bx(i lo AD:Int):Ri [.int i,.int lo,.int AD]=.ok (.v (.AO (decide (lo<=i)&&decide (i<=AD)))):=by have w:ba [.int i]=.ok (.v (.AO true)):=rfl;simp[Ri,f_,w];by_cases h:lo<=i<;>simp[h]
def hu{cs:List Nat}{d:AU}(h:d∈CO cs cs.length):Vm [.tup (CH cs),AS d]=.ok (.v (.AO true)):=by
 obtain⟨A6,AA⟩:=L5.mp h;have p:Vn [AS d]=.ok (.v (.AO true)):=rfl;have DN:AH (AS d) (.int 0)=.ok (.int d.1):=rfl;have A9:AH (AS d) (.int 1)=.ok (.int d.2):=rfl;have AM:AH (.tup (CH cs)) (.int (d.1:Nat))=.ok (.int (cs.getD d.1 0:Nat)):=wj (XJ A6);have l:(CH cs).length=cs.length:=by simp[CH]
 simp only[IU]at AA AM;simp[Vm,fY,p,DN,A9,AM,l,bx,show¬((cs.length:Int)-1<(d.1:Nat))by lia];lia
def rL{a b:AU}(h:a≠b):Ar false (AS a) (AS b)=.ok (.AO true):=by
 show R.ok (D.AO (!(((a.1:Nat):Int)==((b.1:Nat):Int)&&(((a.2:Nat):Int)==((b.2:Nat):Int)&&true))))=_;by_cases A6:a.1=b.1
 .by_cases AA:a.2=b.2
  .exact absurd (Op A6 AA) h
  .rw[beq_eq_false_iff_ne.mpr (show((a.2:Nat):Int)≠((b.2:Nat):Int)by lia)];simp
 .rw[beq_eq_false_iff_ne.mpr (show((a.1:Nat):Int)≠((b.1:Nat):Int)by lia)];simp
def adZ{cs:List Nat}{w:AU×AU}(A6:w.1∈CO cs cs.length)(AA:w.2∈CO cs cs.length)(ne:w.1≠w.2):ZF [.tup (CH cs),CI w]=.ok (.v (.AO true)):=by have p:Vn [CI w]=.ok (.v (.AO true)):=rfl;have DN:AH (CI w) (.int 0)=.ok (AS w.1):=rfl;have A9:AH (CI w) (.int 1)=.ok (AS w.2):=rfl;simp[ZF,fa,p,DN,A9,hu A6,hu AA,rL ne]
def vg(l:List D):K3 "list" (.lst l)=.ok (.AO true):=rfl
theorem f8{α:Type}(f:α->Bool):∀l:List α,Pl (l.map λa=>D.AO (f a))=some (l.map f)
 |[]=>rfl
 |a::l=>by simp[Pl,f8 f l]
def UJ{α:Type}(f:α->Bool)(l:List α):CT.CO [.lst (l.map λa=>D.AO (f a))]=.ok (.AO (l.all f)):=by simp[CT.CO,f8,QJ]
def tq(cs:List Nat)(ws:List (AU×AU))(h:KO cs ws):Rg [.tup (CH cs),.tup (ws.map CI)]=.ok (.v (.Ai (FA ws) (FR ws))):=by
 apply Ends.done;have few:=h.few;simp[Rg,fV,Kj];refine R2 CI ws (λj ρ=>∃s3,ρ=[.J (.tup (CH cs)),.J (.tup (ws.map CI)),.ob (.Ai (FA (ws.take j)) (FR (ws.take j))),s3]) rfl ⟨.un,by simp[FA,FR,ends]⟩ ?_ ?_
 .rintro j w _ hw ⟨s3,rfl⟩;obtain⟨Bz,HH⟩:=List.getElem?_eq_some_iff.mp hw;have abN:ws=ws.take j++w::ws.drop (j+1):=by rw[<-HH];simp
  obtain⟨DT,Dx,M4⟩:=ye (P:=ws.take j) (w:=w) (r:=ws.drop (j+1)) (by rw[<-abN];exact h.Ct);have CV:ws.take (j+1)=ws.take j++[w]:=by rw[List.take_succ,hw];rfl
  have K4:(FA (ws.take j)).length<1000:=by simp[FA,XQ];lia
  have ED:∀x,x=w.1\/x=w.2->x∈CO cs cs.length:=λx AI=>h.sub x (List.mem_flatten.mpr ⟨[w.1,w.2],List.mem_map.mpr ⟨w,KD hw,rfl⟩,by simpa using AI⟩);have ada:=adZ (ED _ (.inl rfl)) (ED _ (.inr rfl)) M4;generalize Ce:ws.take j=P at*;have DN:AH (CI w) (.int 0)=.ok (AS w.1):=rfl;have A9:AH (CI w) (.int 1)=.ok (AS w.2):=rfl;have Cn:EW true (AS w.1) (.Ai (FA P) (FR P))=.ok (.AO false):=by simp[EW,Ut,ks_any,DT]
  have C3:EW true (AS w.2) (.Ai (FA P) (FR P))=.ok (.AO false):=by simp[EW,Ut,ks_any,Dx]
  have EB:=Wv (i:=2) (mk:=A3 AH (A0 3) (A4 (.int 0))) (mv:=A3 AH (A0 3) (A4 (.int 1))) (ρ:=[.J (.tup (CH cs)),.J (.tup (ws.map CI)),.ob (.Ai (FA P) (FR P)),.J (CI w)]) rfl rfl rfl (Ut w.1) (by rw[ks_any];simp[DT]) (by lia);have D3:=Wv (i:=2) (mk:=A3 AH (A0 3) (A4 (.int 1))) (mv:=A3 AH (A0 3) (A4 (.int 0))) (ρ:=[.J (.tup (CH cs)),.J (.tup (ws.map CI)),.ob (.Ai (FA P++[Hu w.1]) (FR P++[AS w.2])),.J (CI w)]) rfl rfl rfl (Ut w.2) (q3 (by rw[ks_any];simp[Dx]) λz=>M4 (Zr z)) (by simp;lia);have HI:NA (.ob (.Ai (FA P) (FR P)))=.J (.Ai (FA P) (FR P)):=rfl;simp at EB D3;simp[ada,EI,HI,DN,A9,Cn,C3,EB,D3,CV,xj,ac0]
 .rintro _ ⟨s3,rfl⟩;have HI:NA (.ob (.Ai (FA ws) (FR ws)))=.J (.Ai (FA ws) (FR ws)):=rfl;simp[La,EI,HI]
def rl(cs:List Nat)(A6:1<=cs.length)(D6:cs.length<=6)(h:∀c∈cs,1<=c/\c<=4):So [.lst (CH cs)]=.ok (.v (.AO true)):=by
 apply Ends.done;have lcs:(CH cs).length=cs.length:=by simp[CH]
 simp[So,fU,vg,lcs,Tx,show(1:Int)<=cs.length by lia,show(cs.length:Int)<=6 by lia];refine R0 (λc:Nat=>D.int (c:Int)) cs (λ_=>.AO true) (by simp[CH]) (by lia) (λc AK=>by have:=h c AK;simp[bx,UN];lia) ?_;have a:=UJ (λ_:Nat=>true) cs;simp only[a];simp
def Vb{a b:JA}{ρ EU:AG}(h:a ρ=.ok EU):Mp a b ρ=b EU:=by simp only[Mp,h,HE]
theorem oE:∀ws:List (AU×AU),L6 (FR ws)=true
 |[]=>rfl
 |w::ws=>by show L6 (AS w.2::AS w.1::FR ws)=true;simp only[L6,oE ws];rfl
def vY(cs:List Nat)(ws:List (AU×AU))(h:KO cs ws):Ux [.lst (CH cs),.lst (ws.map CI)]=.ok (["many","counts","joined","far"],[.int (cs.length:Nat),.tup (CH cs),.tup (ws.map CI),.Ai (FA ws) (FR ws)]):=by
 let r (ns:List Str) (ds:List D):AG:=[.ob (.ins "Net" ns ds),.J (.lst (CH cs)),.J (.lst (ws.map CI))]
 have g1:PU (Gi (Ah (Bo 1 So (A2 (A0 1) (AE))))) (r [] [])=.ok (r [] []):=by have z:Gi (Ah (Bo 1 So (A2 (A0 1) (AE)))) (r [] [])=.ok false:=kT (c:=true) (Fc (hY rfl (rl cs h.A6 h.D6 h.c)));simp only[PU,z,HE,Hh,if_false]
 have g2:PU (Gi (Ah (Cj (K3 "list") (A0 2)))) (r [] [])=.ok (r [] []):=rfl;have f1:Kh "Net" "many" (Bm CS (A2 (A0 1) (AE))) (r [] [])=.ok (r ["many"] [.int (cs.length:Nat)]):=by
  have K4:Bm CS (A2 (A0 1) AE) (r [] [])=.ok (.int (cs.length:Nat)):=by rw[RY (xs:=CH cs) rfl];simp[CH]
  rw[Kh,K4];rfl
 have f2:Kh "Net" "counts" (Bm RK (A2 (A0 1) (AE))) (r ["many"] [.int (cs.length:Nat)])=.ok (r ["many","counts"] [.int (cs.length:Nat),.tup (CH cs)]):=rfl;have Em:Kh "Net" "joined" (Bm RK (A2 (A0 2) (AE))) (r ["many","counts"] [.int (cs.length:Nat),.tup (CH cs)])=.ok (r ["many","counts","joined"] [.int (cs.length:Nat),.tup (CH cs),.tup (ws.map CI)]):=rfl;have f4:Kh "Net" "far" (Ra (Bo 2 Rg (A2 (Cj (Dj "Net" "counts") (A0 0)) (A2 (Cj (Dj "Net" "joined") (A0 0)) (AE))))) (r ["many","counts","joined"] [.int (cs.length:Nat),.tup (CH cs),.tup (ws.map CI)])=.ok (r ["many","counts","joined","far"] [.int (cs.length:Nat),.tup (CH cs),.tup (ws.map CI),.Ai (FA ws) (FR ws)]):=by
  have z:Ra (Bo 2 Rg (A2 (Cj (Dj "Net" "counts") (A0 0)) (A2 (Cj (Dj "Net" "joined") (A0 0)) (AE)))) (r ["many","counts","joined"] [.int (cs.length:Nat),.tup (CH cs),.tup (ws.map CI)])=.ok (.Ai (FA ws) (FR ws)):=by have y:Bo 2 Rg (A2 (Cj (Dj "Net" "counts") (A0 0)) (A2 (Cj (Dj "Net" "joined") (A0 0)) (AE))) (EI (r ["many","counts","joined"] [.int (cs.length:Nat),.tup (CH cs),.tup (ws.map CI)]))=.ok (.Ai (FA ws) (FR ws)):=call2 (x:=.tup (CH cs)) (z:=.tup (ws.map CI)) rfl rfl (tq cs ws h);have n:Kn (.Ai (FA ws) (FR ws))=true/\bB (r ["many","counts","joined"] [.int (cs.length:Nat),.tup (CH cs),.tup (ws.map CI)])=true:=⟨by simp only[Kn];exact oE ws,rfl⟩;simp only[Ra,y,HE,if_pos n]
  rw[Kh,z];rfl
 show outI "Net" (Xh (r [] []))=_;unfold Xh;rw[Vb g1,Vb g2,Vb f1,Vb f2,Vb Em,f4];rfl
theorem hG{β:Type}{c:CN}{b:Ao}{k:Fk->R β}{T:β->Prop}(I:Nat->AG->Prop)(st:∀n ρ,I n ρ->∃t,c ρ=.ok t/\(t=true->Ends (b ρ) (I_ λBL=>∃m,m<n/\I m BL))/\(t=false->Ends (k (.Ay ρ)) T)):∀(f n:Nat)(ρ:AG),I n ρ->n<f->Ends ((Q9 c b f ρ).bind k) T
 |0,n,ρ,h,hf=>by lia
 |f+1,n,ρ,h,hf=>by
  obtain⟨t,e,A6,AA⟩:=st n ρ h;simp only[Q9,e,BA];cases t with
  |false=>simpa using AA rfl
  |true=>obtain⟨x,ex,BL,rfl,m,hm,Ii⟩:=A6 rfl;simp only[if_true,ex,BA];exact hG I st f m BL Ii (by lia)
def V2{β:Type}{c:CN}{b:Ao}{k:Fk->R β}{T:β->Prop}(I:Nat->AG->Prop){n:Nat}{ρ:AG}(h:I n ρ)(AV:n<1000)(st:∀n ρ,I n ρ->∃t,c ρ=.ok t/\(t=true->Ends (b ρ) (I_ λBL=>∃m,m<n/\I m BL))/\(t=false->Ends (k (.Ay ρ)) T)):Ends ((Jf c b ρ).bind k) T:=hG I st 1000 n ρ h AV
def XH(ns:List Int)(k:Nat):∃c:Int,Kk [.Co (ns.map D.int),.int k]=.ok (.v (.int c)):=by
 by_cases h:k<ns.length
 .refine⟨ns[k],?_⟩;have e:AH (.Co (ns.map D.int)) (.int (k:Int))=.ok (.int ns[k]):=wh (by simp[h]);simp[Kk,X0,h,e]
 .exact⟨0,by simp[Kk,X0,h]⟩
def Yq:O6 (.int 10) (.int 60)=.ok (.int 1000000000000000000000000000000000000000000000000000000000000):=(rfl)
def Yo(l:List Int)(x:Int){n:Nat}(AV:l.length=n)(h:0<n):∃f∈l,AH (.lst (l.map D.int)) (.int (x%(n:Int)))=.ok (.int f):=by obtain⟨j,Bz,e⟩:=Ip x h;rw[e];exact⟨l[j],MV _,Io (by simp[AV,Bz])⟩
def M1(c:Int)(k:Nat)(AF:k<1000):∃y:Int,FG [.int c,.int k]=.ok (.v (.int y)):=by obtain⟨f,hf,DJ⟩:=Yo [48271,69621,16807,39373,40692,742938285,950706376,1343714438] k (n:=8) rfl (by decide);obtain⟨p,AZ,BY⟩:=Yo [2147483647,2147483629,2147483587,2147483579,2147483563] k (n:=5) rfl (by decide);have f0:0<f/\f<18446744073709551616:=(by decide:∀f∈([48271,69621,16807,39373,40692,742938285,950706376,1343714438]:List Int),0<f/\f<18446744073709551616) f hf;have FH:0<p:=(by decide:∀p∈([2147483647,2147483629,2147483587,2147483579,2147483563]:List Int),0<p) p AZ;have DJ:AH (.lst [.int 48271,.int 69621,.int 16807,.int 39373,.int 40692,.int 742938285,.int 950706376,.int 1343714438]) (.int ((k:Int)%8))=.ok (.int f):=DJ;have BY:AH (.lst [.int 2147483647,.int 2147483629,.int 2147483587,.int 2147483579,.int 2147483563]) (.int ((k:Int)%5))=.ok (.int p):=BY;simp(disch:=first|lia|(simp;done)|(simp;lia)) [FG,fj,z4,lim,DJ,BY]
def jt(x:Int)(l:List Int)(AN:l.length=6)(h:∀c∈l,1<=c/\c<=4):∃b:Int,(1<=b/\b<=4)/\AH (.lst (l.map D.int)) (.int (x%6))=.ok (.int b):=by obtain⟨f,hf,e⟩:=Yo l x (n:=6) AN (by decide);exact⟨f,h f hf,e⟩
def rk(cell:Int):∃cs:List Nat,(1<=cs.length/\cs.length<=6)/\(∀c∈cs,1<=c/\c<=4)/\Ss [.int cell]=.ok (.o (CH cs)):=by
 suffices h:Ends (Ss [.int cell]) λb=>∃cs:List Nat,(1<=cs.length/\cs.length<=6)/\(∀c∈cs,1<=c/\c<=4)/\b=.o (CH cs)by
  obtain⟨b,e,cs,A6,AA,rfl⟩:=h;exact⟨cs,A6,AA,e⟩
 have AN:([4,4,4,3,2,2]:List Int).length=6:=rfl;have A1:∀c∈([4,4,4,3,2,2]:List Int),1<=c/\c<=4:=by decide
 by_cases ho:cell%2=1
 .obtain⟨m,hm,em⟩:=Ip (cell/2%1000000000000000000000000000000000000000000000000000000000000) (n:=6) (by decide);obtain⟨b,tZ,BV⟩:=jt (cell/2%1000000000000000000000000000000000000000000000000000000000000) _ AN A1;have BV:AH (.lst [.int 4,.int 4,.int 4,.int 3,.int 2,.int 2]) (.int (cell/2%1000000000000000000000000000000000000000000000000000000000000%6))=.ok (.int b):=BV;have Qz:(1:Int)+cell/2%1000000000000000000000000000000000000000000000000000000000000%6=((m+1:Nat):Int):=by have:cell/2%1000000000000000000000000000000000000000000000000000000000000%6=(m:Int):=em;lia
  have ex:∀k:Nat,∃c:Nat,(1<=c/\c<=4)/\(k<6->∃g:Int,0<g/\g<1073741824/\AH (.lst [.int 1,.int 4,.int 16,.int 64,.int 256,.int 1024]) (.int (k:Int))=.ok (.int g)/\1+cell/2%1000000000000000000000000000000000000000000000000000000000000/6/g%4%b=(c:Int)):=λk=>by
   by_cases AF:k<6
   .have Ad:∃g:Int,0<g/\g<1073741824/\AH (.lst [.int 1,.int 4,.int 16,.int 64,.int 256,.int 1024]) (.int (k:Int))=.ok (.int g):=by
      rcases(by lia:k=0\/k=1\/k=2\/k=3\/k=4\/k=5)with rfl|rfl|rfl|rfl|rfl|rfl
      .exact⟨1,by decide,by decide,rfl⟩
      .exact⟨4,by decide,by decide,rfl⟩
      .exact⟨16,by decide,by decide,rfl⟩
      .exact⟨64,by decide,by decide,rfl⟩
      .exact⟨256,by decide,by decide,rfl⟩
      .exact⟨1024,by decide,by decide,rfl⟩
    obtain⟨g,g1,g2,g3⟩:=Ad;have KZ:=dr (cell/2%1000000000000000000000000000000000000000000000000000000000000/6/g%4) (show b≠0 by lia);have DZ:=dc (cell/2%1000000000000000000000000000000000000000000000000000000000000/6/g%4) (show 0<b by lia);exact⟨(1+cell/2%1000000000000000000000000000000000000000000000000000000000000/6/g%4%b).toNat,by lia,λ_=>⟨g,g1,g2,g3,by lia⟩⟩
   .exact⟨1,by lia,λh=>absurd h AF⟩
  let ML:Nat->Nat:=λk=>(ex k).choose
  have fD:∀k,1<=ML k/\ML k<=4:=λk=>(ex k).choose_spec.1;have fE:∀k:Nat,k<6->∃g:Int,0<g/\g<1073741824/\AH (.lst [.int 1,.int 4,.int 16,.int 64,.int 256,.int 1024]) (.int (k:Int))=.ok (.int g)/\1+cell/2%1000000000000000000000000000000000000000000000000000000000000/6/g%4%b=(ML k:Int):=λk=>(ex k).choose_spec.2;simp(disch:=first|lia|(simp;done)|(simp;lia)) [Ss,X1,ho,Yq,BV,Qz,lim,-QG,-EF];refine R1 (m+1) (λk=>.int (ML k:Int)) (by simp[Qz,show m+1<1000000 by lia,-QG]) (by lia) (λk AF=>?_) ?_
  .obtain⟨g,g1,g2,g3,g4⟩:=fE k (by lia);simp(disch:=first|lia|(simp;done)|(simp;lia)) [g3,g4,lim]
  .simp;refine⟨(Ds (m+1)).map ML,⟨by simp,by simp;lia⟩,λc AK=>?_,by simp[CH]⟩;obtain⟨k,_,rfl⟩:=List.mem_map.mp AK;exact fD k
 .obtain⟨y,DY⟩:=M1 cell 0 (by decide);have T9:FG [.int cell,.int 0]=.ok (.v (.int y)):=DY;obtain⟨m,hm,em⟩:=Ip y (n:=6) (by decide);have Qz:(1:Int)+y%6=((m+1:Nat):Int):=by have:y%6=(m:Int):=em;lia
  obtain⟨b,tZ,BV⟩:=jt y _ AN A1;have rP:AH (.lst [.int 4,.int 4,.int 4,.int 3,.int 2,.int 2]) (.int (m:Int))=.ok (.int b):=by rw[<-BV];congr 2;have:y%6=(m:Int):=em;lia
  have ex:∀k:Nat,∃c:Nat,(1<=c/\c<=4)/\(k<10->∃z:Int,FG [.int cell,.int (1+(k:Int))]=.ok (.v (.int z))/\1+z%b=(c:Int)):=λk=>by
   by_cases AF:k<10
   .obtain⟨z,QW⟩:=M1 cell (1+k) (by lia);have KZ:=dr z (show b≠0 by lia);have DZ:=dc z (show 0<b by lia);exact⟨(1+z%b).toNat,by lia,λ_=>⟨z,by rw[<-QW];simp,by lia⟩⟩
   .exact⟨1,by lia,λh=>absurd h AF⟩
  let ML:Nat->Nat:=λk=>(ex k).choose
  have fD:∀k,1<=ML k/\ML k<=4:=λk=>(ex k).choose_spec.1;have fE:∀k:Nat,k<10->∃z:Int,FG [.int cell,.int (1+(k:Int))]=.ok (.v (.int z))/\1+z%b=(ML k:Int):=λk=>(ex k).choose_spec.2;have Ks:((m+1:Nat):Int)-1=(m:Int):=by lia
  simp(disch:=first|lia|(simp;done)|(simp;lia)) [Ss,X1,ho,T9,Qz,-QG];refine R1 (m+1) (λk=>.int (ML k:Int)) (by simp[show m+1<1000000 by lia,-QG]) (by lia) (λk AF=>?_) ?_
  .obtain⟨z,AM,BD⟩:=fE k (by lia);simp(disch:=first|lia|(simp;done)|(simp;lia)) [AM,BD,Ks,rP,lim,-QG]
  .simp;refine⟨(Ds (m+1)).map ML,⟨by simp,by simp;lia⟩,λc AK=>?_,by simp[CH]⟩;obtain⟨k,_,rfl⟩:=List.mem_map.mp AK;exact fD k
def h5{cs:List Nat}(D6:cs.length<=6)(Ho:∀c∈cs,1<=c/\c<=4):Su [.lst (CH cs)]=.ok (.o ((CO cs cs.length).map AS)):=by
 apply Ends.done;have lcs:(CH cs).length=cs.length:=by simp[CH]
 simp(disch:=first|lia|(simp;done)|(simp;lia)) [Su,fg,lim];refine Pt cs.length (λj ρ=>∃s2,ρ=[.J (.lst (CH cs)),.Bw ((CO cs j).map AS),s2]) (by simp[lcs,show cs.length<1000000 by lia]) ⟨.un,by simp[CO]⟩ ?_ ?_
 .rintro j _ Bz ⟨s5,rfl⟩;have BD:AH (.lst (CH cs)) (.int (j:Int))=.ok (.int (cs.getD j 0:Nat)):=Io (XJ Bz);have jP:=aV (λc h=>(Ho c h).2) j;simp;refine R1 (cs.getD j 0) (λk=>AS (j,k)) (by simp only[IU]at BD jP;simp[BD,show cs[j]?.getD 0<1000000 by lia]) (by lia) (λk AF=>by simp[AS]) ?_;have K4:=Mi Ho j;simp only[IU]at jP |-;simp[show(CO cs j).length+cs[j]?.getD 0<=1000000 by lia];rw[e3];simp[Na]
 .rintro _ ⟨s5,rfl⟩;simp
@[simp] theorem ag0(m:Au)(ρ:AG):PO m ρ=(m (EI ρ)).bind λds=>if Ko ds=true/\Vx ρ=true then .ok ds else .bad:=(rfl)
def sf(ws:List (AU×AU))(w:AU×AU):ends (ws++[w])=ends ws++[w.1,w.2]:=by simp[ends]
def o0(d:D):OD (.J d)=true:=(rfl)
def o1(d:List D):OD (.Bw d)=true:=(rfl)
noncomputable def bw:Ao:=AP (Lz 8 (O_ 2 (Ly (A3 Ck (A3 AH (A0 7) (A4 (.int 0))) (Bm CS (A2 (A0 2) (AE)))))))
    (AP (Lz 9 (O_ 2 (Ly (A3 Ck (A3 AH (A0 7) (A4 (.int 1))) (Bm CS (A2 (A0 2) (AE)))))))
    (AP (II 3 (CP (A2 (A0 8) (A2 (A0 9) (AE)))))
    (B5 6 (A3 DL (A0 6) (A4 (.int 2))))))
noncomputable def TV:Ao:=AP (B5 7 (BH (PO (C4 (A2 (Bo 2 FG (A2 (A0 0) (A2 (A0 6) (AE)))) (A2 (Bo 2 FG (A2 (A0 0) (A2 (A3 DL (A0 6) (A4 (.int 1))) (AE)))) (AE)))))))
    (AP (C8 (Ah (A3 (Ar true) (A3 Ck (A0 0) (A4 (.int 2))) (A4 (.int 1)))) (AP (B5 7 (BH (PO (C4 (A2 (A0 4) (A2 (A3 Di (A0 4) (Bm CS (A2 (A0 2) (AE)))) (AE)))))))
    (B5 4 (Ly (A3 Di (A3 Di (A0 4) (Bm CS (A2 (A0 2) (AE)))) (A3 RG (Bm CS (A2 (A0 2) (AE))) (A4 (.int 1))))))) (CK))
    bw)
def Ze:CN:=GC (Ah (A3 YX (Bm CS (A2 (A0 2) (AE))) (A3 DL (A0 5) (A4 (.int 1)))))
noncomputable def MI(cell:Int)(X:D)(R:List AU)(ws:List (AU×AU))(nm kp:Int)(DO s8 s9:Bi):AG:=[.J (.int cell),.J X,.Bw (R.map AS),.Bw (ws.map CI),.J (.int nm),.J (.int kp),.J (.int ((9+2*ws.length:Nat):Int)),DO,s8,s9]
noncomputable def eX(cell:Int)(X:D)(al:List AU)(kp:Int)(n:Nat)(ρ:AG):Prop:=∃(ws:List (AU×AU))(R:List AU)(nm:Int)(DO s8 s9:Bi),(ends ws++R).Perm al/\1<=R.length/\n=R.length/\(OD DO=true/\OD s8=true/\OD s9=true)/\ρ=MI cell X R ws nm kp DO s8 s9
def oI{cell:Int}{X:D}{al R:List AU}{ws:List (AU×AU)}{nm kp:Int}{s8 s9:Bi}(pm:(ends ws++R).Perm al)(bS:3<=R.length)(NH:al.length<=100)(An BF:Int) :
  Ends (bw (MI cell X R ws nm kp (.J (.lst [.int An,.int BF])) s8 s9)) (I_ λBL=>∃m,m<R.length/\eX cell X al kp m BL):=by
 have K4:(ends ws).length+R.length=al.length:=by have:=pm.length_eq;simpa using this
 rw[XQ]at K4;obtain⟨Cn,Zz,sa⟩:=Ip An (n:=R.length) (by lia);have ag8:(R.eraseIdx Cn).length=R.length-1:=dG Zz;obtain⟨C3,OO,sb⟩:=Ip BF (n:=(R.eraseIdx Cn).length) (by lia);have xE:((R.eraseIdx Cn).eraseIdx C3).length=R.length-2:=by rw[dG OO];lia
 have DR:AH (.lst [.int An,.int BF]) (.int 0)=.ok (.int An):=rfl;have BZ:AH (.lst [.int An,.int BF]) (.int 1)=.ok (.int BF):=rfl;have g1:=bL AS (i:=2) Zz (by lia);have g2:=bL AS (i:=2) OO (by lia);unfold MI bw;simp(disch:=first|lia|(simp;done)|(simp;lia)) [DR,BZ,sa,g1];rw[sb];simp(disch:=first|lia|(simp;done)|(simp;lia)) [g2];refine⟨R.length-2,by lia,ws++[(R[Cn],(R.eraseIdx Cn)[C3])],(R.eraseIdx Cn).eraseIdx C3,nm,_,_,_,?_,by lia,xE.symm,⟨rfl,rfl,rfl⟩,by simp[MI,CI];exact⟨by lia,rfl,rfl,rfl⟩⟩;rw[sf,Ru];refine List.Perm.trans (List.Perm.append_left _ ?_) pm;exact((es (R.eraseIdx Cn) C3 OO).cons _).trans (es R Cn Zz)
def adY{cell:Int}{X:D}{al R:List AU}{ws:List (AU×AU)}{nm kp:Int}{DO s8 s9:Bi}(pm:(ends ws++R).Perm al)(bS:3<=R.length)(NH:al.length<=100)(AJ:OD DO=true/\OD s8=true/\OD s9=true) :
  Ends (TV (MI cell X R ws nm kp DO s8 s9)) (I_ λBL=>∃m,m<R.length/\eX cell X al kp m BL):=by
 have K4:(ends ws).length+R.length=al.length:=by have:=pm.length_eq;simpa using this
 rw[XQ]at K4;obtain⟨Ix,f1⟩:=M1 cell (9+2*ws.length) (by lia);obtain⟨LD,f2⟩:=M1 cell (9+2*ws.length+1) (by lia);have gw:FG [.int cell,.int (((9+2*ws.length:Nat):Int)+1)]=.ok (.v (.int LD)):=f2;by_cases ho:cell%2=1
 .have:=oI (cell:=cell) (X:=X) (nm:=nm/R.length/((R.length:Int)-1)) (kp:=kp) (s8:=s8) (s9:=s9) pm bS NH nm (nm/R.length);unfold TV;unfold MI at this |-;simp(disch:=first|lia|(simp;done)|(simp;lia)) [ho,f1,gw,lim,Ko,M6,Vx,o0,o1,AJ.1,AJ.2.1,AJ.2.2,-QG];exact this
 .have:=oI (cell:=cell) (X:=X) (nm:=nm) (kp:=kp) (s8:=s8) (s9:=s9) pm bS NH Ix LD;unfold TV;unfold MI at this |-;simp(disch:=first|lia|(simp;done)|(simp;lia)) [ho,f1,gw,lim,Ko,M6,Vx,o0,o1,AJ.1,AJ.2.1,AJ.2.2,-QG];exact this
def ad_(cell:Int)(cs:List Nat)(A6:1<=cs.length)(D6:cs.length<=6)(Ho:∀c∈cs,1<=c/\c<=4):∃ws,KO cs ws/\(∃d∈CO cs cs.length,d∉ends ws)/\Ro [.int cell,.lst (CH cs)]=.ok (.o (ws.map CI)):=by
 suffices h:Ends (Ro [.int cell,.lst (CH cs)]) λb=>∃ws,KO cs ws/\(∃d∈CO cs cs.length,d∉ends ws)/\b=.o (ws.map CI)by
  obtain⟨b,e,ws,h,h',rfl⟩:=h;exact⟨ws,h,h',e⟩
 have qR:1<=(CO cs cs.length).length:=WF (head_mem A6 Ho);have afc:=Mi Ho cs.length;have yZ:=gK cs cs.length;have out:=h5 D6 Ho;obtain⟨oN,qu⟩:=M1 cell 8 (by decide);have hA:FG [.int cell,.int 8]=.ok (.v (.int oN)):=qu;have fin:∀(nm kp:Int),1<=kp->Ends ((Jf Ze TV (MI cell (.lst (CH cs)) (CO cs cs.length) [] nm kp .un .un .un)).bind λf=>(Q3 (GT (Je 3)) f).bind outD) λb=>∃ws,KO cs ws/\(∃d∈CO cs cs.length,d∉ends ws)/\b=.o (ws.map CI):=λnm kp agb=>by
  refine V2 (n:=(CO cs cs.length).length) (eX cell (.lst (CH cs)) (CO cs cs.length) kp) ⟨[],_,nm,.un,.un,.un,.refl _,qR,rfl,⟨rfl,rfl,rfl⟩,rfl⟩ (by lia) ?_;rintro n _ ⟨ws,R,nm,DO,s8,s9,pm,Hb,rfl,AJ,rfl⟩;refine⟨decide (kp+1<(R.length:Int)),by simp[Ze,MI],λAj=>adY pm (by have:=of_decide_eq_true Aj;lia) (by lia) AJ,λhf=>?_⟩;simp[MI];have K4:(ends ws).length+R.length=(CO cs cs.length).length:=by have:=pm.length_eq;simpa using this
  rw[XQ]at K4;have Ct:(ends ws++R).Nodup:=pm.nodup_iff.mpr yZ;have PF:R[0]∈R:=MV _;exact⟨ws,⟨A6,D6,Ho,(List.nodup_append.mp Ct).1,λd hd=>pm.mem_iff.mp (Fu _ hd),by lia⟩,⟨R[0].1,R[0].2,pm.mem_iff.mp (Ft _ PF),λz=>(List.nodup_append.mp Ct).2.2 _ z _ PF rfl⟩,rfl⟩
 have ev:∀x:Int,1<=1+x%3/\1<=1+x%24:=λx=>by lia
 have BV:fq=AP (E_ 2 (FM 1 Su (A2 (A0 1) (AE))))
  (AP (E_ 3 (C4 (AE)))
  (AP (B5 4 (A3 Di (A3 Ck (A3 Di (A0 0) (A4 (.int 2))) (A3 O6 (A4 (.int 10)) (A4 (.int 60)))) (A4 (.int 24576))))
  (AP (B5 5 (A3 DL (A4 (.int 1)) (A3 Ck (Bo 2 FG (A2 (A0 0) (A2 (A4 (.int 8)) (AE)))) (A4 (.int 3)))))
  (AP (C8 (Ah (A3 (Ar true) (A3 Ck (A0 0) (A4 (.int 2))) (A4 (.int 1)))) (AP (B5 5 (A3 DL (A4 (.int 1)) (A3 Ck (A0 4) (A4 (.int 24)))))
  (B5 4 (A3 Di (A0 4) (A4 (.int 24))))) (CK))
  (AP (B5 6 (A4 (.int 9)))
  (AP (Jf Ze TV) (GT (Je 3)))))))):=rfl
 have key:∀T:CG->Prop,(∀nm kp:Int,1<=kp->Ends ((Jf Ze TV (MI cell (.lst (CH cs)) (CO cs cs.length) [] nm kp .un .un .un)).bind λf=>(Q3 (GT (Je 3)) f).bind outD) T)->Ends (Ro [.int cell,.lst (CH cs)]) T:=λT h=>by
  by_cases ho:cell%2=1
  .have:=h (cell/2%1000000000000000000000000000000000000000000000000000000000000/24576/24) (1+cell/2%1000000000000000000000000000000000000000000000000000000000000/24576%24) (ev _).2;simp(disch:=first|lia|(simp;done)|(simp;lia)) [Ro,BV,out,lim,Yq,hA,ho];exact this
  .have:=h (cell/2%1000000000000000000000000000000000000000000000000000000000000/24576) (1+oN%3) (ev _).1;simp(disch:=first|lia|(simp;done)|(simp;lia)) [Ro,BV,out,lim,Yq,hA,ho];exact this
 exact key _ fin
def LL(c:Nat):Prop:=c=48\/c=49\/c=120
structure I1(x:Str):Prop where
 l:x.cps.toList.length=4
 s:∀c∈x.cps.toList,LL c
def ab8{c:Nat}(h:LL c):inD true (G2 c) Sz=.ok (.AO true):=by rcases h with h|h|h<;>subst h<;>rfl
def len_str(x:Str)(h:x.cps.toList.length<=1000):CS [.str x]=.ok (.int (x.cps.toList.length:Int)):=by
 have e:x.length=x.cps.toList.length:=rfl;have AM:x.length<=1000000:=by lia
 rw[<-e];simp only[CS,if_pos AM]
def vh(x:Str):K3 "str" (.str x)=.ok (.AO true):=rfl
def adb:CS [Qs]=.ok (.int 4):=rfl
def zd{x:Str}(h:I1 x):ZE [.str x]=.ok (.v (.AO true)):=by apply Ends.done;have l:=h.l;simp[ZE,fZ,vh,len_str x (by lia),adb,l];refine R0 G2 x.cps.toList (λ_=>.AO true) (by simp) (by lia) (λc AK=>by simp[ab8 (h.s c AK)]) ?_;have a:=UJ (λ_:Nat=>true) x.cps.toList;simp only[a];simp
def qi{x y:Str}(h:x.length+y.length<=1000000):DL (.str x) (.str y)=.ok (.str (x++y)):=if_pos h
def rm(x:Str)(c:Nat):(x++(⟨#[c]⟩:Str)).cps.toList=x.cps.toList++[c]:=by show(x.cps++ #[c]).toList=_;simp
structure D1 where
 p:Str
 a:Option Nat
 b:Option Nat
def GE:Option Nat->D
 |none=>.non
 |some k=>.int (k:Int)
def FI(r:D1):D:=.tup [.str r.p,GE r.a,GE r.b]
structure Qn(c:Nat)(r:D1):Prop where
 p:I1 r.p
 a:∀k,r.a=some k->k<c
 b:∀k,r.b=some k->k<c
def DM(b:List D1):D:=.lst (b.map FI)
def Lm(c:Nat)(b:List D1):Prop:=b.length<=12/\∀r∈b,Qn c r
def ii{cs:List Nat}(h:∀c∈cs,1<=c/\c<=4){k:Nat}(AF:k<cs.length):1<=cs.getD k 0/\cs.getD k 0<=4:=by have:=h (cs[k]) (MV _);simpa[AF]using this
def cc{I:AG->Prop}{x:Str}{c j:Nat}(AN:x.cps.toList.length=j)(AJ:∀c∈x.cps.toList,LL c)(AK:LL c)(Bz:j<4):DL (.str x) (.str ⟨#[c]⟩)=.ok (.str (x++(⟨#[c]⟩:Str)))/\(x++(⟨#[c]⟩:Str)).cps.toList.length=j+1/\∀d∈(x++(⟨#[c]⟩:Str)).cps.toList,LL d:=by
 have xk:x.length+(⟨#[c]⟩:Str).length<=1000000:=by
  have A6:x.length=x.cps.toList.length:=rfl;have AA:(⟨#[c]⟩:Str).length=1:=rfl
  lia
 have ca:=rm x c;refine⟨qi xk,by rw[ca];simp only[J2,AN,FU,Hk],λd hd=>?_⟩;rw[ca]at hd;rcases List.mem_append.mp hd with h|h
 .exact AJ d h
 .rw[List.mem_singleton.mp h];exact AK
def zR(y:Int):∃c,LL c/\AH (.lst [.str (Aw "x"),.str (Aw "x"),.str (Aw "0"),.str (Aw "1"),.str (Aw "x")]) (.int (y%5))=.ok (.str ⟨#[c]⟩):=by
 have h:y%5=0\/y%5=1\/y%5=2\/y%5=3\/y%5=4:=by lia
 rcases h with h|h|h|h|h<;>rw[h]
 .exact⟨120,.inr (.inr rfl),rfl⟩
 .exact⟨120,.inr (.inr rfl),rfl⟩
 .exact⟨48,.inl rfl,rfl⟩
 .exact⟨49,.inr (.inl rfl),rfl⟩
 .exact⟨120,.inr (.inr rfl),rfl⟩
def zP(y:Int):∃c,LL c/\AH (.str (Aw "01x")) (.int (y%3))=.ok (.str ⟨#[c]⟩):=by
 have h:y%3=0\/y%3=1\/y%3=2:=by lia
 rcases h with h|h|h<;>rw[h]
 .exact⟨48,.inl rfl,rfl⟩
 .exact⟨49,.inr (.inl rfl),rfl⟩
 .exact⟨120,.inr (.inr rfl),rfl⟩
def SQ:(Aw "").cps.toList.length=0/\∀c∈(Aw "").cps.toList,LL c:=⟨by decide,λc h=>nomatch (show c∈([]:List Nat)from h)⟩
def aaL(cell:Int)(k:Nat)(AF:k<900)(c:Nat)(AK:1<=c)(t2:c<=4):∃r,Qn c r/\Nz [.int cell,.int k,.int (c:Int)]=.ok (.v (FI r)):=by
 suffices h:Ends (Nz [.int cell,.int k,.int (c:Int)]) λb=>∃r,Qn c r/\b=.v (FI r)by
  obtain⟨b,e,p,h,rfl⟩:=h;exact⟨p,h,e⟩
 obtain⟨y,DY⟩:=M1 cell k (by lia);have key:∀T:CG->Prop,(∀(r:D1),Qn c r->T (.v (FI r)))->Ends (Nz [.int cell,.int k,.int (c:Int)]) T:=λT Cw=>by
  simp(disch:=first|lia|(simp;done)|(simp;lia)) [Nz,fm,DY];refine Pt 4 (λj ρ=>∃(z:Int)(x:Str)(s5:Bi),x.cps.toList.length=j/\(∀c∈x.cps.toList,LL c)/\ρ=[.J (.int cell),.J (.int k),.J (.int c),.J (.int z),.J (.str x),s5,.un,.un]) (by simp;exact RD 4 (by decide)) ⟨y,Aw "",.un,SQ.1,SQ.2,rfl⟩ ?_ ?_
  .rintro j _ Bz ⟨z,x,s2,AN,AJ,rfl⟩;obtain⟨d,hd,e⟩:=zR z;obtain⟨A9,AM,BD⟩:=cc (I:=λ_=>True) AN AJ hd Bz;simp(disch:=first|lia|(simp;done)|(simp;lia)) [e,A9,lim];exact⟨_,_,by simpa using AM,by simpa using BD,rfl,rfl⟩
  .rintro _ ⟨z,x,s5,AN,AJ,rfl⟩;obtain⟨An,iJ,eq1⟩:=Ip (z/3) (n:=c) (by lia);obtain⟨BF,RS,eq2⟩:=Ip (z/20) (n:=c) (by lia);by_cases B4:z%3=0<;>by_cases tP:z/100%9=0<;>simp(disch:=first|lia|(simp;done)|(simp;lia)) [B4,tP,eq1,eq2]
   .exact Cw ⟨x,some An,none⟩ ⟨⟨AN,AJ⟩,(λk h=>by cases h;exact iJ),λ_ h=>nomatch h⟩
   .exact Cw ⟨x,some An,some BF⟩ ⟨⟨AN,AJ⟩,(λk h=>by cases h;exact iJ),λk h=>by cases h;exact RS⟩
   .exact Cw ⟨x,none,none⟩ ⟨⟨AN,AJ⟩,(λ_ h=>nomatch h),λ_ h=>nomatch h⟩
   .exact Cw ⟨x,none,some BF⟩ ⟨⟨AN,AJ⟩,(λ_ h=>nomatch h),λk h=>by cases h;exact RS⟩
 exact key _ λr B3=>⟨r,B3,rfl⟩
def choice(c:Nat)(y:Int):∃o:Option Nat,(∀k,o=some k->k<c)/\AH (.lst (D.non::G1 0 c)) (.int (y%((c:Int)+1)))=.ok (GE o):=by
 obtain⟨k,AF,e⟩:=Ip y (n:=c+1) (by lia);have e:y%((c:Int)+1)=(k:Int):=by rw[<-e];simp
 rw[e];cases k with
 |zero=>exact⟨none,(λ_ h=>nomatch h),Io rfl⟩
 |succ k=>exact⟨some k,(λj h=>by cases h;lia),Io (by simp[G1,GE,Te (show k<c by lia)])⟩
def tD(y:Int)(c:Nat)(AK:1<=c)(t2:c<=4):∃b,Lm c b/\Rk [.int y,.int (c:Int)]=.ok (.o (b.map FI)):=by
 suffices h:Ends (Rk [.int y,.int (c:Int)]) λt=>∃b,Lm c b/\t=.o (b.map FI)by
  obtain⟨t,e,p,h,rfl⟩:=h;exact⟨p,h,e⟩
 have key:∀T:CG->Prop,(∀b,Lm c b->T (.o (b.map FI)))->Ends (Rk [.int y,.int (c:Int)]) T:=λT Cw=>by
  obtain⟨m,hm,em⟩:=Ip y (n:=13) (by decide);have em:y%13=(m:Int):=em;simp(disch:=first|lia|(simp;done)|(simp;lia)) [Rk,fi,lim,em];refine Pt m (λj ρ=>∃(z:Int)(b:List D1)(s5 DU DO:Bi),b.length=j/\(∀r∈b,Qn c r)/\ρ=[.J (.int z),.J (.int c),.Bw (b.map FI),.J (.int m),.J (.lst (D.non::G1 0 c)),s5,DU,DO]) (by simp;exact RD m (by lia)) ⟨y/13,[],.un,.un,.un,rfl,(λ_ h=>nomatch h),rfl⟩ ?_ ?_
  .rintro j _ Bz ⟨z,b,s5,DU,DO,AN,A1,rfl⟩;simp;refine Pt 4 (λj ρ=>∃(z:Int)(x:Str)(s5 DO:Bi),x.cps.toList.length=j/\(∀c∈x.cps.toList,LL c)/\ρ=[.J (.int z),.J (.int c),.Bw (b.map FI),.J (.int m),.J (.lst (D.non::G1 0 c)),s5,.J (.str x),DO]) (by simp;exact RD 4 (by decide)) ⟨z,Aw "",_,_,SQ.1,SQ.2,rfl⟩ ?_ ?_
   .rintro j _ Bz ⟨z,x,s5,DO,AN,AJ,rfl⟩;obtain⟨d,hd,e⟩:=zP z;obtain⟨A9,AM,BD⟩:=cc (I:=λ_=>True) AN AJ hd Bz;simp(disch:=first|lia|(simp;done)|(simp;lia)) [e,A9];exact⟨_,_,by simpa using AM,by simpa using BD,rfl,rfl⟩
   .rintro _ ⟨z,x,s5,DO,Kc,AJ,rfl⟩;obtain⟨D8,A6,BZ⟩:=choice c z;obtain⟨DG,AA,Bl⟩:=choice c (z/((c:Int)+1));simp(disch:=first|lia|(simp;done)|(simp;lia)) [BZ,Bl];refine⟨_,b++[⟨x,D8,DG⟩],by simp[AN],λr B3=>?_,rfl,by simp[FI]⟩;rcases List.mem_append.mp B3 with h|h
    .exact A1 r h
    .rw[List.mem_singleton.mp h];exact⟨⟨Kc,AJ⟩,A6,AA⟩
  .rintro _ ⟨z,b,s5,DU,DO,AN,A1,rfl⟩;simp;exact Cw b ⟨by lia,A1⟩
 exact key _ λb A1=>⟨b,A1,rfl⟩
def ne_nil{l:List D}(h:l.all (okN 7)=true):Ar false (.lst l) (.lst [])=.ok (.AO (!l.isEmpty)):=by unfold Ar;have:okN 8 (.lst l)=true:=h;cases l<;>simp_all[okN,Cq,Ea]
def SU(zs:List Int):(zs.map D.int).all (okN 7)=true:=by simp[okN]
structure G7(cs:List Nat)(bs:List (List D1)):Prop where
 l:bs.length=cs.length
 b:∀(i:Nat) b,bs[i]?=some b->Lm (cs.getD i 0) b
noncomputable def fS:Ao:=AP (B5 5 (A3 DL (A0 5) (A3 M3 (A4 (.int 3)) (A0 4))))
    (AP (B5 6 (A3 AH (BH (C4 (A2 (A4 (.int 1)) (A2 (A4 (.int 2)) (A2 (A4 (.int 3)) (A2 (A4 (.int 0)) (A2 (A4 (.int 2)) (A2 (A4 (.int 4)) (A2 (A4 (.int 12)) (AE)))))))))) (A3 Ck (Bo 2 FG (A2 (A0 5) (A2 (A4 (.int 3)) (AE)))) (A4 (.int 7)))))
    (II 3 (BH (DE 1 [5,1,4,2] (Fs (A2 (A0 6) (AE))) (BC 0) (Ee) (Bo 3 Nz (A2 (A0 1) (A2 (A3 DL (A3 DL (A4 (.int 4)) (A0 4)) (A3 M3 (A4 (.int 3)) (A0 0))) (A2 (A3 AH (A0 2) (A0 3)) (AE)))))))))
def Qg(Z:D)(cs:List Nat)(sh:Nat)(bs:List (List D1))(s4 s5 DU:Bi):AG:=[.J Z,.J (.lst (CH cs)),.J (.int (sh:Int)),.Bw (bs.map DM),s4,s5,DU]
def gZ(Z:D)(cs:List Nat)(sh:Nat)(j:Nat)(ρ:AG):Prop:=∃(bs:List (List D1))(s4 s5 DU:Bi),bs.length=j/\(∀(i:Nat) b,bs[i]?=some b->Lm (cs.getD i 0) b)/\ρ=Qg Z cs sh bs s4 s5 DU
def lY{cs:List Nat}{bs:List (List D1)}{b:List D1}(A1:∀(i:Nat) b,bs[i]?=some b->Lm (cs.getD i 0) b)(aa:Lm (cs.getD bs.length 0) b):∀(i:Nat) x,(bs++[b])[i]?=some x->Lm (cs.getD i 0) x:=λi x e=>by
 by_cases AD:i<bs.length
 .rw[Jm AD]at e;exact A1 i x e
 .rw[NN (by lia)]at e;have z:i-bs.length=0:=by
   have:=(List.getElem?_eq_some_iff.mp e).1;simpa using this
  rw[z]at e;simp at e;subst e;rw[show i=bs.length by lia];exact aa
def pv{Z:D}{cs:List Nat}(Ho:∀c∈cs,1<=c/\c<=4)(D6:cs.length<=6){sh:Nat}(Gh:sh<=1){bs:List (List D1)}(Bz:bs.length<cs.length)(A1:∀(i:Nat) b,bs[i]?=some b->Lm (cs.getD i 0) b)(cell:Int)(DU:Bi):Ends (fS (Qg Z cs sh bs (.J (.int (bs.length:Int))) (.J (.int cell)) DU)) (I_ (gZ Z cs sh (bs.length+1))):=by
 have BD:AH (.lst (CH cs)) (.int (bs.length:Int))=.ok (.int (cs.getD bs.length 0:Nat)):=Io (XJ Bz);obtain⟨BU,HW⟩:=ii Ho Bz;have put:=λb=>lY (cs:=cs) (bs:=bs) (b:=b) A1;generalize cs.getD bs.length 0=c at BD BU HW put;obtain⟨y,DY⟩:=M1 (cell+3*(bs.length:Int)) 3 (by decide);have T9:FG [.int (cell+3*(bs.length:Int)),.int 3]=.ok (.v (.int y)):=DY;obtain⟨m,hm,em⟩:∃m:Nat,m<=12/\AH (.lst [.int 1,.int 2,.int 3,.int 0,.int 2,.int 4,.int 12]) (.int (y%7))=.ok (.int (m:Int)):=by obtain⟨f,hf,DJ⟩:=Yo [1,2,3,0,2,4,12] y (n:=7) rfl (by decide);have f0:=(by decide:∀f∈([1,2,3,0,2,4,12]:List Int),0<=f/\f<=12) f hf;exact⟨f.toNat,by lia,by rw[show((f.toNat:Nat):Int)=f by lia];exact DJ⟩
 have ex:∀k:Nat,∃r:D1,k<13->Qn (c) r/\Nz [.int (cell+3*(bs.length:Int)),.int (4+(sh:Int)+3*(k:Int)),.int (c:Nat)]=.ok (.v (FI r)):=λk=>by
  by_cases AF:k<13
  .obtain⟨r,B3,CU⟩:=aaL (cell+3*(bs.length:Int)) (4+sh+3*k) (by lia) (c) BU HW;exact⟨r,λ_=>⟨B3,by rw[<-CU];simp⟩⟩
  .exact⟨⟨Aw "",none,none⟩,λh=>absurd h AF⟩
 let Yy:Nat->D1:=λk=>(ex k).choose
 have lH:∀k,k<13->Qn (c) (Yy k)/\Nz [.int (cell+3*(bs.length:Int)),.int (4+(sh:Int)+3*(k:Int)),.int (c:Nat)]=.ok (.v (FI (Yy k))):=λk=>(ex k).choose_spec;unfold fS Qg;simp(disch:=first|lia|(simp;done)|(simp;lia)) [lim,T9,em];refine R1 m (λk=>FI (Yy k)) (by simp[show m<1000000 by lia]) (by lia) (λk AF=>?_) ?_
 .have:=(lH k (by lia)).2;simp(disch:=first|lia|(simp;done)|(simp;lia)) [BD,this]
 .simp(disch:=first|lia|(simp;done)|(simp;lia));exact⟨bs++[(Ds m).map Yy],_,_,_,by simp,put _ ⟨by simp;lia,λr B3=>by obtain⟨k,AF,rfl⟩:=List.mem_map.mp B3;exact(lH k (by have:=List.mem_range.mp AF;lia)).1⟩,by simp[Qg,DM];exact⟨rfl,rfl,rfl⟩⟩
def hT(zs:List Int)(sh:Nat)(Gh:sh<=1)(cs:List Nat)(A6:1<=cs.length)(D6:cs.length<=6)(Ho:∀c∈cs,1<=c/\c<=4):∃bs,G7 cs bs/\PW [.lst (zs.map D.int),.lst (CH cs),.int (sh:Int)]=.ok (.o (bs.map DM)):=by
 suffices h:Ends (PW [.lst (zs.map D.int),.lst (CH cs),.int (sh:Int)]) λb=>∃bs,G7 cs bs/\b=.o (bs.map DM)by
  obtain⟨b,e,bs,h,rfl⟩:=h;exact⟨bs,h,e⟩
 have lcs:(CH cs).length=cs.length:=by simp[CH]
 have ne:=ne_nil (SU zs)
 have BV:fe=AP (E_ 3 (C4 (AE)))
  (AP (EC (Fs (A2 (Bm CS (A2 (A0 1) (AE))) (AE))) (BC 4) (AP (B5 5 (A3 DL (A3 DL (A4 (.int 17)) (A3 M3 (A4 (.int 5)) (A0 4))) (A0 2)))
  (AP (C8 (Ah (A3 (Ar false) (A0 0) (BH (C4 (AE))))) (B5 5 (A3 AH (A0 0) (A3 Ck (A3 DL (A0 4) (A0 2)) (Bm CS (A2 (A0 0) (AE)))))) (CK))
  (C8 (Eu (Ah (A3 (Ar false) (A0 0) (BH (C4 (AE))))) (Ah (A3 (Ar true) (A3 Ck (A0 5) (A4 (.int 2))) (A4 (.int 1))))) (II 3 (BH (FM 2 Rk (A2 (A3 Ck (A3 Di (A0 5) (A4 (.int 2))) (A3 O6 (A4 (.int 10)) (A4 (.int 60)))) (A2 (A3 AH (A0 1) (A0 4)) (AE)))))) fS))))
  (GT (Je 3))):=rfl
 simp only[PW,BV];simp[lim];refine Pt cs.length (gZ (.lst (zs.map D.int)) cs sh) (by simp[lcs,show cs.length<1000000 by lia]) ⟨[],.un,.un,.un,rfl,(λi b e=>by simp at e),rfl⟩ ?_ ?_
 .rintro j _ Bz ⟨bs,s4,s5,DU,rfl,A1,rfl⟩;have BD:AH (.lst (CH cs)) (.int (bs.length:Int))=.ok (.int (cs.getD bs.length 0:Nat)):=Io (XJ Bz);obtain⟨BU,HW⟩:=ii Ho Bz;have put:=λb=>lY (cs:=cs) (bs:=bs) (b:=b) A1;have tail:=λcell=>pv (Z:=.lst (zs.map D.int)) Ho D6 Gh Bz A1 cell DU;generalize cs.getD bs.length 0=c at BD BU HW put;unfold Qg at tail |-;cases zs with
  |nil=>simp only[NS]at ne tail |-;have ne:Ar false (.lst []) (.lst [])=.ok (.AO false):=ne;simp(disch:=first|lia|(simp;done)|(simp;lia)) [lim,ne];exact tail _
  |cons z zs=>
   have ne:Ar false (.lst ((z::zs).map D.int)) (.lst [])=.ok (.AO true):=ne;obtain⟨k,AF,Dc⟩:=Ip ((bs.length:Int)+(sh:Int)) (n:=(z::zs).length) (by simp);have Uz:((bs.length:Int)+(sh:Int))%(((z::zs).map D.int).length:Int)=(k:Int):=by rw[GU];exact Dc
   have OV:AH (.lst ((z::zs).map D.int)) (.int (k:Int))=.ok (.int (z::zs)[k]):=Io (by rw[EL,Df AF];rfl);generalize(z::zs)[k]=cell at OV;generalize(z::zs).map D.int=Z at ne Uz OV tail;have afg:0<(Z.length:Int):=by
    cases Z with
    |nil=>cases ne
    |cons _ _=>simp
   by_cases ho:cell%2=1
   .obtain⟨b,aa,DJ⟩:=tD (cell/2%1000000000000000000000000000000000000000000000000000000000000) c BU HW;simp(disch:=first|lia|(simp;done)|(simp;lia)) [lim,ne,Uz,OV,ho,Yq,BD,DJ];exact⟨bs++[b],_,_,_,by simp,put _ aa,by simp[Qg,DM];exact⟨rfl,rfl,rfl⟩⟩
   .simp(disch:=first|lia|(simp;done)|(simp;lia)) [lim,ne,Uz,OV,ho];exact tail _
 .rintro _ ⟨bs,s4,s5,DU,AN,A1,rfl⟩;simp[Qg];exact⟨bs,⟨AN,A1⟩,rfl⟩
def pq(ns:List Int)(cs:List Nat)(A6:1<=cs.length)(D6:cs.length<=6)(Ho:∀c∈cs,1<=c/\c<=4):∃os nw,G7 cs os/\G7 cs nw/\Sr [.Co (ns.map D.int),.lst (CH cs)]=.ok (.v (.tup [.lst (os.map DM),.lst (nw.map DM)])):=by
 suffices h:Ends (Sr [.Co (ns.map D.int),.lst (CH cs)]) λb=>∃os nw,G7 cs os/\G7 cs nw/\b=.v (.tup [.lst (os.map DM),.lst (nw.map DM)])by
  obtain⟨b,e,os,nw,h,h',rfl⟩:=h;exact⟨os,nw,h,h',e⟩
 have lcs:(CH cs).length=cs.length:=by simp[CH]
 obtain⟨os,O4,A9⟩:=hT (Fz ns (some 2) (some 9)) 0 (by decide) cs A6 D6 Ho;obtain⟨nw,b5,AM⟩:=hT (Fz ns (some 9) (some 16)) 1 (by decide) cs A6 D6 Ho;have Ek:PW [.lst (Fz (ns.map D.int) (some 2) (some 9)),.lst (CH cs),.int 0]=.ok (.o (os.map DM)):=by rw[fG];exact A9
 have LN:PW [.lst (Fz (ns.map D.int) (some 9) (some 16)),.lst (CH cs),.int 1]=.ok (.o (nw.map DM)):=by rw[fG];exact AM
 obtain⟨BU,sZ⟩:=XH ns 1;have hB:Kk [.Co (ns.map D.int),.int 1]=.ok (.v (.int BU)):=sZ;have key:∀T:CG->Prop,(∀nw,G7 cs nw->T (.v (.tup [.lst (os.map DM),.lst (nw.map DM)])))->Ends (Sr [.Co (ns.map D.int),.lst (CH cs)]) T:=λT Cw=>by
  simp(disch:=first|lia|(simp;done)|(simp;lia)) [Sr,ff,Ek,LN];refine Pt cs.length (λj ρ=>∃(nw:List (List D1))(s4:Bi),G7 cs nw/\ρ=[.J (.Co (ns.map D.int)),.J (.lst (CH cs)),.J (.lst (os.map DM)),.Bw (nw.map DM),s4]) (by simp[lcs,show cs.length<1000000 by lia]) ⟨nw,.un,b5,rfl⟩ ?_ ?_
  .rintro j _ Bz ⟨nw,s4,ok,rfl⟩;obtain⟨y,DY⟩:=M1 BU j (by lia);have lo:=O4.l;have ln:=ok.l;have OV:AH (.lst (os.map DM)) (.int (j:Int))=.ok (DM os[j]):=Io (by simp[show j<os.length by lia]);by_cases BJ:y%4=0
   .simp(disch:=first|lia|(simp;done)|(simp;lia)) [hB,DY,BJ,OV,I6,DM];rw[aaa (by simp;lia)];simp;refine⟨nw.set j os[j],⟨by simp[ln],λi b e=>?_⟩,by simp[List.map_set,DM]⟩;rw[dS]at e
    split at e
    .rename_i Zx;subst Zx;rw[if_pos (by lia)]at e;cases e;exact O4.b j _ (Df _)
    .exact ok.b i b e
   .simp(disch:=first|lia|(simp;done)|(simp;lia)) [hB,DY,BJ];exact⟨nw,ok,rfl⟩
  .rintro _ ⟨nw,s4,ok,rfl⟩;simp(disch:=first|lia|(simp;done)|(simp;lia)) [La];exact Cw nw ok
 exact key _ λnw h=>⟨os,nw,O4,h,rfl⟩
def q0(ns:List Int):∃cs ws os nw,KO cs ws/\(∃d∈CO cs cs.length,d∉ends ws)/\G7 cs os/\G7 cs nw/\Sq [.Co (ns.map D.int)]=.ok (.v (.tup [.lst (CH cs),.lst (ws.map CI),.lst (os.map DM),.lst (nw.map DM)])):=by obtain⟨NZ,DN⟩:=XH ns 0;obtain⟨BU,A9⟩:=XH ns 1;have qs:Kk [.Co (ns.map D.int),.int 0]=.ok (.v (.int NZ)):=DN;have Ek:Kk [.Co (ns.map D.int),.int 1]=.ok (.v (.int BU)):=A9;obtain⟨cs,⟨A6,D6⟩,Ho,ec⟩:=rk NZ;obtain⟨ws,EA,ex,HH⟩:=ad_ NZ cs A6 D6 Ho;obtain⟨os,nw,O4,b5,BV⟩:=pq ns cs A6 D6 Ho;refine⟨cs,ws,os,nw,EA,ex,O4,b5,?_⟩;simp(disch:=first|lia|(simp;done)|(simp;lia)) [Sq,fb,qs,ec,HH,BV,K5]
@[simp] theorem ag4(m n:Ab)(ρ:AG):US m n ρ=(m ρ).bind λd=>match d with
  |.Ai ks ds=>(n ρ).bind λk=>match I4 k with
   |some Bf=>.ok ((findD ks ds Bf).getD .non)
   |none=>.bad
  |_=>.bad:=(rfl)
def qj(i:Int):ZD [.int i]=.ok (.v (.AO (decide (0<=i)&&decide (i<=15)))):=by simp[ZD,fX,bx,Sy]
def Nu(a w:Nat):Nat:=48+a/w%2
def HY(p:Str)(a:Nat):Bool:=(p.cps.toList.zip [8,4,2,1]).all λq=>decide (q.1=120\/q.1=Nu a q.2)
def ab2(b:Nat)(h:b=0\/b=1):TR [.int (b:Int)]=.ok (.str ⟨#[48+b]⟩):=by rcases h with rfl|rfl<;>rfl
def sign_eq(c d:Nat):Cq (.str ⟨#[d]⟩) (G2 c)=decide (c=d):=by show Cq (.str ⟨#[d]⟩) (.str ⟨#[c]⟩)=_;simp only[Cq];rw[GV,beq_iff_eq,decide_eq_true_iff];simp;exact eq_comm
def abR:Aw "x"=⟨#[120]⟩:=by decide
def vV(c d:Nat):inD true (G2 c) (.tup [.str (Aw "x"),.str ⟨#[d]⟩])=.ok (.AO (decide (c=120\/c=d))):=by have o:okN 7 (G2 c)=true:=rfl;have D8:okN 7 (.str (Aw "x"))=true:=rfl;have DG:okN 7 (.str ⟨#[d]⟩)=true:=rfl;have s:Pz (.tup [.str (Aw "x"),.str ⟨#[d]⟩])=some [.str (Aw "x"),.str ⟨#[d]⟩]:=rfl;simp only[inD,s,o,D8,DG,NR,Wj,QR,and_self,if_true,NQ,List.any_nil,Bool.or_false];rw[abR,sign_eq,sign_eq];simp
def iX{p:Str}(AZ:I1 p){a:Nat}(AB:a<16):Rh [.str p,.int (a:Int)]=.ok (.v (.AO (HY p a))):=by
 apply Ends.done;have l:=AZ.l;simp[Rh,fW,zd AZ,qj,show(a:Int)<=15 by lia];refine sd (λq:Nat×Nat=>G2 q.1) (λq=>.int (q.2:Int)) (p.cps.toList.zip [8,4,2,1]) (λq=>.AO (decide (q.1=120\/q.1=Nu a q.2))) ?_ (by simp;lia) (λq AW=>?_) ?_
 .show R.ok (RP p.cps.toList [.int 8,.int 4,.int 2,.int 1])=_;unfold RP;rw[show([.int 8,.int 4,.int 2,.int 1]:List D)=([8,4,2,1]:List Nat).map λ(n:Nat)=>D.int (n:Int)from rfl,List.zip_map_right,H7];rfl
 .have hw:q.2=8\/q.2=4\/q.2=2\/q.2=1:=by
    have:=(WY (show(q.1,q.2)∈_ from AW)).2;simpa using this
  have Ks:TR [.int ((a:Int)/(q.2:Int)%2)]=.ok (.str ⟨#[48+a/q.2%2]⟩):=by have:=ab2 (a/q.2%2) (by lia);rw[<-this];simp
  simp(disch:=first|lia|(simp;done)|(simp;lia)) [Ks,vV,Nu];rw[GV];simp;exact decide_eq_true_iff.symm
 .have al:=UJ (λq:Nat×Nat=>decide (q.1=120\/q.1=Nu a q.2)) (p.cps.toList.zip [8,4,2,1]);simp only[al];simp[HY]
def mt(d a:Nat)(r:D1):Bool:=(r.a.isNone||r.a==some d)&&HY r.p a
def ja(o:Option Nat):JY (GE o)=o.isNone:=by cases o<;>rfl
def gs(o:Option Nat)(d:Nat):Ar true (GE o) (.int (d:Int))=.ok (.AO (o==some d)):=by
 cases o with
 |none=>rfl
 |some k=>
  show R.ok (D.AO ((k:Int)==(d:Int)))=_
  congr 2
  rw[GV];simp
  lia
def abt(mi:Au)(set:D->AG->R AG)(body:Ao)(ρ:AG):EC mi set body ρ=(mi ρ).bind λds=>JT set body ds ρ:=(rfl)
def JK(d a:Nat):Nat->List D1->Option Nat
 |_,[]=>none
 |i,r::rs=>if mt d a r=true then some i else JK d a (i+1) rs
theorem oc{d a:Nat}(AB:a<16):∀(rs:List D1)(i:Nat)(s0 s3 s4:Bi),(∀r∈rs,I1 r.p)->
  Ends ((JT (FB [BC 3,BC 4]) (C8 (Eu (GD (Ah (A3 (Fa true) (A3 AH (A0 4) (A4 (.int 1))) (A4 .non))) (Ah (A3 (Ar true) (A3 AH (A0 4) (A4 (.int 1))) (A0 1)))) (Ah (Bo 2 Rh (A2 (A3 AH (A0 4) (A4 (.int 0))) (A2 (A0 2) (AE)))))) (CC (A0 3)) (CK)) ((rs.zipIdx i).map λp=>.tup [.int (p.2:Int),FI p.1]) [s0,.J (.int (d:Int)),.J (.int (a:Int)),s3,s4]).bind (Q3 (CC (A4 .non)))) (· =.ES (GE (JK d a i rs)))
 |[],i,s0,s3,s4,_=>by simp[JK,GE]
 |r::rs,i,s0,s3,s4,h=>by
  have DR:AH (FI r) (.int 0)=.ok (.str r.p):=rfl;have BZ:AH (FI r) (.int 1)=.ok (GE r.a):=rfl;have CA:=oc (d:=d) AB rs (i+1) s0 (.J (.int (i:Int))) (.J (FI r)) λx AI=>h x (Ff _ AI);have f:=iX (h r MS) AB;have bd:(C8 (Eu (GD (Ah (A3 (Fa true) (A3 AH (A0 4) (A4 (.int 1))) (A4 .non))) (Ah (A3 (Ar true) (A3 AH (A0 4) (A4 (.int 1))) (A0 1)))) (Ah (Bo 2 Rh (A2 (A3 AH (A0 4) (A4 (.int 0))) (A2 (A0 2) (AE)))))) (CC (A0 3)) (CK)) [s0,.J (.int (d:Int)),.J (.int (a:Int)),.J (.int (i:Int)),.J (FI r)]=if mt d a r=true then .ok (.ES (.int (i:Int)))else .ok (.Ay [s0,.J (.int (d:Int)),.J (.int (a:Int)),.J (.int (i:Int)),.J (FI r)]):=by unfold mt;have An:=ja r.a;have BF:=gs r.a d;generalize r.a.isNone=GQ at An |-;generalize(r.a==some d)=G9 at BF |-;generalize HY r.p a=eZ at f |-;cases GQ<;>cases G9<;>cases eZ<;>simp[DR,BZ,An,BF,f]
  rw[dN,EF,JT];simp only[abp,abm,abn,abz,FU,Hk,BA];simp only[show(3:Nat)<0+1+1+1+1+1 by decide,if_true,BA,List.set_cons_succ,List.set_cons_zero,FU,Hk,show(4:Nat)<0+1+1+1+1+1 by decide,bd];cases hm:mt d a r with
  |true=>simp[JK,hm,GE]
  |false=>simp only[Hh,if_false,BA,JK,hm];exact CA
def acm{b:List D1}(A1:∀r∈b,I1 r.p)(d a:Nat)(AB:a<16):ZH [DM b,.int (d:Int),.int (a:Int)]=.ok (.v (GE (JK d a 0 b))):=by apply Ends.done;have e:T6 [DM b]=.ok (b.zipIdx.map λp=>.tup [.int (p.2:Int),FI p.1]):=sm FI b;have k:=oc (d:=d) AB b 0 (.J (DM b)) .un .un A1;obtain⟨f,hf,rfl⟩:=k;simp only[ZH,acS,f3,Cy,abt,abu,Eg,v_var,GF];have z:Yw (Im 5 [DM b,.int (d:Int),.int (a:Int)])[0]?=.ok (DM b):=rfl;simp only[z,BA,e];have Dh:Im 5 [DM b,.int (d:Int),.int (a:Int)]=[.J (DM b),.J (.int (d:Int)),.J (.int (a:Int)),.un,.un]:=rfl;rw[Dh,hf];simp
def CW(cs:List Nat)(ws:List (AU×AU)):D:=.ins "Net" ["many","counts","joined","far"] [.int (cs.length:Nat),.tup (CH cs),.tup (ws.map CI),.Ai (FA ws) (FR ws)]
def st(s:String):D:=.str (Aw s)
inductive On where
 |drop|out (o:Nat)|to (e:AU)|no (e:AU)
def pairsOf(ws:List (AU×AU)):List (AU×AU):=ws.flatMap λw=>[(w.1,w.2),(w.2,w.1)]
def IR(ws:List (AU×AU))(d:AU):Option AU:=((pairsOf ws).find? λp=>decide (p.1=d)).map (·.2)
theorem oP:∀ws:List (AU×AU),(FA ws).zip (FR ws)=(pairsOf ws).map λp=>(Hu p.1,AS p.2)
 |[]=>rfl
 |w::ws=>by
  have CA:=oP ws;have A9:FA (w::ws)=Hu w.1::Hu w.2::FA ws:=by simp[FA,ends]
  have AM:FR (w::ws)=AS w.2::AS w.1::FR ws:=by simp[FR]
  have BD:pairsOf (w::ws)=(w.1,w.2)::(w.2,w.1)::pairsOf ws:=by simp[pairsOf]
  rw[A9,AM,BD,Od,Od,CA];rfl
def tx(Aq:List (AU×AU))(d:AU):((Aq.map λp=>(Hu p.1,AS p.2)).find? λp=>decide (p.1=Hu d))=(Aq.find? λp=>decide (p.1=d)).map λp=>(Hu p.1,AS p.2):=by
 induction Aq with
 |nil=>rfl
 |cons p Aq CA=>
  rw[EF,HP,HP];by_cases h:p.1=d
  .simp[h]
  .have:Hu p.1≠Hu d:=λz=>h (Zr z);simp[h,this,CA]
theorem tw(ws:List (AU×AU))(d:AU):findD (FA ws) (FR ws) (Hu d)=(IR ws d).map AS:=by unfold findD IR;rw[oP,tx,Option.map_map,Option.map_map];rfl
def qM{ws:List (AU×AU)}{d e:AU}(h:IR ws d=some e):e∈ends ws:=by
 unfold IR at h;obtain⟨p,AZ,rfl⟩:=Option.map_eq_some_iff.mp h;have hm:=pQ AZ;unfold pairsOf at hm;obtain⟨w,hw,BB⟩:=List.mem_flatMap.mp hm;have Uc:∀x,x=w.1\/x=w.2->x∈ends ws:=λx AI=>List.mem_flatten.mpr ⟨[w.1,w.2],List.mem_map.mpr ⟨w,hw,rfl⟩,by simpa using AI⟩;simp only[Oi,NJ,or_false]at BB;rcases BB with rfl|rfl
 .exact Uc _ (.inr rfl)
 .exact Uc _ (.inl rfl)
noncomputable def C5(h:Nat):On->D
 |.drop=>.tup [st "drop",.int (h:Int)]
 |.out o=>.tup [st "out",.int (h:Int),.int (o:Int)]
 |.to e=>.tup [st "at",.int (e.1:Int),.int (e.2:Int)]
 |.no e=>.tup [st "at",.int (e.1:Int),.int (e.2:Int)]
noncomputable def Ay(ws:List (AU×AU))(b:List D1)(h d a:Nat):On:=match JK d a 0 b with
 |none=>.drop
 |some i=>match(b[i]?).bind (·.b)with
  |none=>.drop
  |some o=>match IR ws (h,o)with
   |none=>.out o
   |some e=>.to e
theorem o_{d a:Nat}:∀(rs:List D1)(i k:Nat),JK d a i rs=some k->i<=k/\k<i+rs.length
 |[],_,_,h=>by simp[JK]at h
 |r::rs,i,k,h=>by
  simp only[JK]at h
  split at h
  .cases h;simp
  .have:=o_ rs (i+1) k h;simp;lia
def tp(cs:List Nat)(ws:List (AU×AU)):Dj "Net" "far" (CW cs ws)=.ok (.Ai (FA ws) (FR ws)):=rfl
def nj(cs:List Nat)(ws:List (AU×AU)):Py "Net" "beyond" (CW cs ws)=.ok (CW cs ws):=rfl
def qN(cs:List Nat)(ws:List (AU×AU))(d:AU):UX [CW cs ws,AS d]=.ok (.v (((IR ws d).map AS).getD .non)):=by simp[UX,fT,tp,Ut,tw]
def ve(o:Option AU):JY ((o.map AS).getD .non)=o.isNone:=by cases o<;>rfl
def yP{cs:List Nat}{ws:List (AU×AU)}{b:List D1}(A1:∀r∈b,I1 r.p)(h d a:Nat)(AB:a<16):O1 [CW cs ws,DM b,AS (h,d),.int (a:Int)]=.ok (.v (C5 h (Ay ws b h d a))):=by
 have DR:AH (AS (h,d)) (.int 0)=.ok (.int (h:Int)):=rfl;have BZ:AH (AS (h,d)) (.int 1)=.ok (.int (d:Int)):=rfl;have CV:=acm A1 d a AB;have F6:∀o:Nat,UX [CW cs ws,.tup [.int (h:Int),.int (o:Int)]]=.ok (.v (((IR ws (h,o)).map AS).getD .non)):=λo=>qN cs ws (h,o);have Kl:JY .non=true:=rfl;have DT:∀i,JY (.int i)=false:=λ_=>rfl;unfold Ay;cases e:JK d a 0 b with
 |none=>simp[O1,Sw,DR,BZ,CV,e,GE,Kl,DT,C5,st]
 |some i=>
  have AD:=o_ b 0 i e;have Y3:i<b.length:=by lia
  have Ul:AH (DM b) (.int (i:Int))=.ok (FI b[i]):=Io (by simp[Y3]);have Bl:AH (FI b[i]) (.int 2)=.ok (GE b[i].b):=rfl;simp only[Df Y3,Oj];cases BV:b[i].b with
  |none=>simp[O1,Sw,DR,BZ,CV,e,GE,Kl,DT,C5,st,Ul,Bl,BV]
  |some o=>
   have X7:=F6 o;cases DY:IR ws (h,o)with
   |none=>rw[DY]at X7;simp[O1,Sw,DR,BZ,CV,e,GE,Kl,DT,C5,st,Ul,Bl,BV,nj,X7,DY]
   |some f=>rw[DY]at X7;have f0:AH (AS f) (.int 0)=.ok (.int (f.1:Int)):=rfl;have f1:AH (AS f) (.int 1)=.ok (.int (f.2:Int)):=rfl;have Km:JY (AS f)=false:=rfl;simp[O1,Sw,DR,BZ,CV,e,GE,Kl,DT,C5,st,Ul,Bl,BV,nj,X7,DY,f0,f1,Km]
def Ww(a b:AU):Cq (AS a) (AS b)=decide (a=b):=by
 show(((a.1:Int)==(b.1:Int))&&(((a.2:Int)==(b.2:Int))&&true))=_;rw[QR,GV,FV,beq_iff_eq,beq_iff_eq,decide_eq_true_iff];constructor
 .intro⟨A6,AA⟩;exact Op (by lia) (by lia)
 .rintro rfl;exact⟨rfl,rfl⟩
def rM(ds:List AU):(ds.map AS).all (okN 7)=true:=by rw[Tt,MU];intro d _;rfl
def q2(ds:List AU)(d:AU):((ds.map AS).any λy=>Cq y (AS d))=decide (d∈ds):=by
 rw[Og,GV,NK,decide_eq_true_iff];constructor
 .rintro⟨x,AI,h⟩;have:=(Ww x d).symm.trans h;rw[decide_eq_true_iff]at this;rw[<-this];exact AI
 .intro h;exact⟨d,h,by show Cq (AS d) (AS d)=true;rw[Ww];simp⟩
def yq{Ja Jb:Ab}{ρ:AG}{ds:List AU}{d:AU}(A6:Ja ρ=.ok (AS d))(AA:Jb ρ=.ok (.lst (ds.map AS))):Ah (A3 (inD false) Ja Jb) ρ=.ok (!decide (d∈ds)):=by refine Fc (D5 A6 AA ?_);have s:Pz (.lst (ds.map AS))=some (ds.map AS):=rfl;have o:okN 7 (AS d)=true:=rfl;simp only[inD,s,rM,o,and_self,if_true,q2];rfl
def S6(I:AG->Prop)(o:Option D)(f:Fk):Prop:=match o with
 |some d=>f=.ES d
 |none=>I_ I f
@[simp] theorem afe(I:AG->Prop):S6 I none=I_ I:=(rfl)
@[simp] theorem aff(I:AG->Prop)(d:D):S6 I (some d)=(· =.ES d):=(rfl)
theorem ni{α:Type}{set:D->AG->R AG}{body:Ao}(g:α->D)(I:AG->Prop)(f:α->Option D):∀(xs:List α)(ρ:AG),(∀a ρ,a∈xs->I ρ->Ends ((set (g a) ρ).bind body) (S6 I (f a)))->I ρ->Ends (JT set body (xs.map g) ρ) (S6 I (xs.findSome? f))
 |[],ρ,_,h=>by simpa[S6,I_]using h
 |a::xs,ρ,st,h=>by
  obtain⟨IS,e,hf⟩:=st a ρ (by simp) h;rw[EF,JT];cases A5:set (g a) ρ with
  |bad=>rw[A5]at e;cases e
  |exc c=>rw[A5]at e;cases e
  |ok EU=>
   rw[A5,BA]at e;rw[BA,e,BA,WT];cases DJ:f a with
   |some d=>rw[DJ]at hf;have hf:IS=.ES d:=hf;subst hf;exact⟨_,rfl,rfl⟩
   |none=>rw[DJ]at hf;obtain⟨En,rfl,AA⟩:=hf;exact ni g I f xs En (λb ρ A1=>st b ρ (by simp[A1])) AA
def V1{β α:Type}{mi:Au}{set:D->AG->R AG}{body:Ao}{ρ:AG}{k:Fk->R β}{T:β->Prop}(g:α->D)(xs:List α)(I:AG->Prop)(f:α->Option D)(AD:mi ρ=.ok (xs.map g))(h0:I ρ)(st:∀a ρ,a∈xs->I ρ->Ends ((set (g a) ρ).bind body) (S6 I (f a)))(f1:∀d,xs.findSome? f=some d->Ends (k (.ES d)) T)(f2:∀BL,xs.findSome? f=none->I BL->Ends (k (.Ay BL)) T):Ends ((EC mi set body ρ).bind k) T:=by
 obtain⟨IS,e,h⟩:=ni (set:=set) (body:=body) g I f xs ρ st h0;rw[o7,AD,BA,e,BA];cases DJ:xs.findSome? f with
 |some d=>rw[DJ]at h;have h:IS=.ES d:=h;rw[h];exact f1 d DJ
 |none=>rw[DJ]at h;obtain⟨En,rfl,AA⟩:=h;exact f2 En DJ AA
def hQ(a b:AU):Ar true (AS a) (AS b)=.ok (.AO (decide (a=b))):=by have o:∀d,okN 8 (AS d)=true:=λ_=>rfl;simp[Ar,o,Ww]
def iu(ws:List (AU×AU))(d:AU):Vq [.lst (ws.map CI),AS d]=.ok (.v (((IR ws d).map AS).getD .non)):=by
 apply Ends.done;simp[Vq,fc];have iT:∀ws:List (AU×AU),ws.findSome? (λw=>if w.1=d then some (AS w.2)else if w.2=d then some (AS w.1)else none)=(IR ws d).map AS:=λws=>by
  induction ws with
  |nil=>rfl
  |cons w ws CA=>
   rw[WT];unfold IR pairsOf;rw[List.flatMap_cons,List.find?_append];by_cases A6:w.1=d
   .simp[A6]
   .by_cases AA:w.2=d
    .simp[A6,AA]
    .simp only[A6,AA,if_false,HP,List.find?_nil,decide_false,Option.none_or];exact CA
 refine V1 CI ws (λρ=>∃s2 s3,ρ=[.J (.lst (ws.map CI)),.J (AS d),s2,s3]) (λw=>if w.1=d then some (AS w.2)else if w.2=d then some (AS w.1)else none) (by simp) ⟨.un,.un,rfl⟩ ?_ ?_ ?_
 .rintro w _ hw ⟨s2,s3,rfl⟩;have An:=hQ w.1 d;have BF:=hQ w.2 d;by_cases A6:w.1=d
  .rw[decide_eq_true A6]at An;rw[if_pos A6];simp[CI,An]
  .rw[decide_eq_false A6]at An;rw[if_neg A6];by_cases AA:w.2=d
   .rw[decide_eq_true AA]at BF;rw[if_pos AA];simp[CI,An,BF]
   .rw[decide_eq_false AA]at BF;rw[if_neg AA];simp[CI,An,BF]
 .intro x AI;rw[iT]at AI;rw[AI];simp
 .rintro _ AV ⟨s2,s3,rfl⟩;rw[iT]at AV;rw[AV];simp
def outs(cs:List Nat)(ws:List (AU×AU)):List AU:=(CO cs cs.length).filter λd=>(IR ws d).isNone
def xD{cs:List Nat}{ws:List (AU×AU)}(EA:KO cs ws):SL [.lst (CH cs),.lst (ws.map CI)]=.ok (.o ((outs cs ws).map AS)):=by
 apply Ends.done;have NH:=Mi EA.c cs.length;have D6:=EA.D6;simp[SL,fl];refine T5 AS (CO cs cs.length) (λd=>(IR ws d).isNone) AS (by simp[h5 D6 EA.c]) (by lia) (λd hd=>?_) (λd hd=>by simp) ?_
 .simp[iu,ve]
 .simp[outs]
def wd{l k:Nat}(h:k<l):IH l (k:Int)=some k:=by unfold IH;rw[if_pos (by lia),if_pos (by lia)];simp
def zS(b:Nat)(h:b<2):AH (.str (Aw "01")) (.int (b:Int))=.ok (G2 (48+b)):=by
 have:b=0\/b=1:=by lia
 rcases this with h|h<;>subst h<;>rfl
def kg(c d:Nat):Ar false (G2 c) (G2 d)=.ok (.AO (!decide (c=d))):=by
 have:=sign_eq d c;have e:(.str ⟨#[d]⟩:D)=G2 d:=rfl;have o:∀c,okN 8 (G2 c)=true:=λ_=>rfl;have q:Cq (G2 c) (G2 d)=decide (c=d):=by rw[show(G2 c)=.str ⟨#[c]⟩from rfl,sign_eq d c];exact decide_eq_decide.mpr ⟨Eq.symm,Eq.symm⟩
 simp[Ar,o,q]
def zc{p:Str}(h:I1 p):∃NZ BU E3 FF,p.cps.toList=[NZ,BU,E3,FF]:=by
 have l:=h.l
 match e:p.cps.toList,l with
 |[a,b,c,d],_=>exact⟨a,b,c,d,rfl⟩
def Zn{p:Str}(AZ:I1 p){k:Nat}{c:Nat}(h:p.cps.toList[k]?=some c):AH (.str p) (.int (k:Int))=.ok (G2 c):=by
 have AF:=(List.getElem?_eq_some_iff.mp h).1;have l:p.length<=1000000:=by have:p.length=p.cps.toList.length:=rfl;have:=AZ.l;lia
 have e:Fy p.cps.toList (k:Int)=some c:=by unfold Fy;rw[wd AF];exact h
 simp only[AH,if_pos l,e];rfl
def ix{p:Str}(AZ:I1 p){a:Nat}(AB:a<16):Rj [.str p,.int (a:Int)]=.ok (.v (.AO (HY p a))):=by
 apply Ends.done;have f:HY p a=decide (∀k,k<4->∀c,p.cps.toList[k]?=some c->c=120\/c=Nu a (2^(3-k))):=by
  obtain⟨NZ,BU,E3,FF,e⟩:=zc AZ;unfold HY;rw[e,GV];simp only[Od,List.zip_nil_right,NR,Wj,QR,FV,decide_eq_true_iff];constructor
  .rintro⟨h0,A6,AA,B4⟩ k AF c AK;have:k=0\/k=1\/k=2\/k=3:=by lia
   rcases this with q|q|q|q<;>subst q<;>cases AK
   .exact h0
   .exact A6
   .exact AA
   .exact B4
  .intro h;exact⟨h 0 (by decide) NZ rfl,h 1 (by decide) BU rfl,h 2 (by decide) E3 rfl,h 3 (by decide) FF rfl⟩
 simp[Rj,fh];refine V1 (λk:Nat=>D.int (k:Int)) (Ds 4) (λρ=>∃s2 s3,ρ=[.J (.str p),.J (.int (a:Int)),s2,s3]) (λk=>match p.cps.toList[k]? with
  |some c=>if c=120\/c=Nu a (2^(3-k))then none else some (.AO false)
  |none=>none) (by simp;exact(RD 4 (by decide)).trans (by rw[aq])) ⟨.un,.un,rfl⟩ ?_ ?_ ?_
 .rintro k _ AF ⟨s2,s3,rfl⟩;have AF:k<4:=by simpa using AF
  have AN:k<p.cps.toList.length:=by rw[AZ.l];exact AF
  obtain⟨c,ec⟩:∃c,p.cps.toList[k]?=some c:=⟨_,Df AN⟩;have A9:=Zn AZ ec;have AM:=kg c 120;have LN:Ar false (G2 c) (.str (Aw "x"))=.ok (.AO (!decide (c=120))):=AM;obtain⟨w,Fe,F3,BD⟩:∃w:Nat,w=2^(3-k)/\(0<w/\w<=8)/\AH (.lst [.int 8,.int 4,.int 2,.int 1]) (.int (k:Int))=.ok (.int (w:Int)):=by
   have:k=0\/k=1\/k=2\/k=3:=by lia
   rcases this with h|h|h|h<;>subst h
   .exact⟨8,rfl,by decide,rfl⟩
   .exact⟨4,rfl,by decide,rfl⟩
   .exact⟨2,rfl,by decide,rfl⟩
   .exact⟨1,rfl,by decide,rfl⟩
  have Pq:(a:Int)/(w:Int)%2=((a/w%2:Nat):Int):=by simp
  have Cp:=zS (a/w%2) (by lia);have El:=kg c (Nu a w);unfold Nu at El;simp only[ec];rw[<-Fe];unfold Nu;generalize a/w%2=b at Pq Cp El |-;by_cases An:c=120
  .rw[decide_eq_true An]at LN;rw[if_pos (.inl An)];simp(disch:=first|lia|(simp;done)|(simp;lia)) [A9,LN,lim,BD,Pq]
  .rw[decide_eq_false An]at LN;by_cases BF:c=48+b
   .rw[decide_eq_true BF]at El;rw[if_pos (.inr BF)];simp(disch:=first|lia|(simp;done)|(simp;lia)) [A9,LN,BD,Pq,Cp,El,lim]
   .rw[decide_eq_false BF]at El;rw[if_neg λz=>z.elim An BF];simp(disch:=first|lia|(simp;done)|(simp;lia)) [A9,LN,BD,Pq,Cp,El,lim]
 .intro d hd;obtain⟨k,AF,e⟩:=List.exists_of_findSome?_eq_some hd;simp at AF;cases ec:p.cps.toList[k]? with
  |none=>rw[ec]at e;cases e
  |some c=>
   rw[ec]at e;simp only at e
   split at e
   .cases e
   .rename_i q;cases e;have:HY p a=false:=by
     rw[f];exact decide_eq_false λz=>q (z k AF c ec)
    simp[this]
 .rintro _ AV ⟨s2,s3,rfl⟩;have:HY p a=true:=by
   rw[f];refine decide_eq_true λk AF c ec=>?_;have:=List.findSome?_eq_none_iff.mp AV k (by simpa using AF);rw[ec]at this;simp only at this
   split at this
   .assumption
   .cases this
  simp[this]
def Ym(b:List D1)(d a:Nat):Option Nat:=(b.find? (mt d a)).bind (·.b)
theorem oa{d a:Nat}:∀(rs:List D1)(i:Nat),match JK d a i rs with
  |some k=>∃r,rs[k-i]?=some r/\i<=k/\rs.find? (mt d a)=some r
  |none=>rs.find? (mt d a)=none
 |[],i=>rfl
 |r::rs,i=>by
  have CA:=oa (d:=d) (a:=a) rs (i+1);simp only[JK];rw[HP];cases hm:mt d a r with
  |true=>simp
  |false=>
   simp only[Hh,if_false];cases e:JK d a (i+1) rs with
   |none=>rw[e]at CA;exact CA
   |some k=>rw[e]at CA;obtain⟨x,A6,AA,B4⟩:=CA;refine⟨x,?_,by lia,B4⟩;rw[show k-i=(k-(i+1))+1 by lia];simpa using A6
def lead(ws:List (AU×AU))(h:Nat):Option Nat->On
 |none=>.drop
 |some o=>match IR ws (h,o)with
  |none=>.out o
  |some e=>.to e
def yu(ws:List (AU×AU))(b:List D1)(h d a:Nat):Ay ws b h d a=lead ws h (Ym b d a):=by
 have k:=oa (d:=d) (a:=a) b 0;unfold Ay Ym;cases e:JK d a 0 b with
 |none=>rw[e]at k;simp only at k;rw[k];rfl
 |some i=>rw[e]at k;obtain⟨r,A6,_,B4⟩:=k;rw[B4];simp only[Nat.sub_zero]at A6;simp only[A6,Oj];cases r.b<;>rfl
theorem find_some{α β:Type}(p:α->Bool)(g:α->β):∀xs:List α,xs.findSome? (λa=>if p a=true then some (g a)else none)=(xs.find? p).map g
 |[]=>rfl
 |a::xs=>by
  rw[WT,HP];cases e:p a with
  |true=>simp
  |false=>simpa using find_some p g xs
def xt{ws:List (AU×AU)}{b:List D1}(ze:∀r∈b,I1 r.p)(d:AU){a:Nat}(AB:a<16):Lc [.lst (ws.map CI),DM b,AS d,.int (a:Int)]=.ok (.v (C5 d.1 (Ay ws b d.1 d.2 a))):=by
 apply Ends.done;rw[yu];have Kl:JY .non=true:=rfl;have DT:∀i,JY (.int i)=false:=λ_=>rfl;have DR:AH (AS d) (.int 0)=.ok (.int (d.1:Int)):=rfl;have BZ:AH (AS d) (.int 1)=.ok (.int (d.2:Int)):=rfl;simp[Lc,fk];refine V1 FI b (λρ=>∃s4 s5 DU DO,ρ=[.J (.lst (ws.map CI)),.J (DM b),.J (AS d),.J (.int (a:Int)),s4,s5,DU,DO]) (λr=>if mt d.2 a r=true then some (C5 d.1 (lead ws d.1 r.b))else none) (by simp[DM]) ⟨.un,.un,.un,.un,rfl⟩ ?_ ?_ ?_
 .rintro r _ B3 ⟨s4,s5,DU,DO,rfl⟩;have HI:=ix (ze r B3) AB;have q:Eu (Ah (Bo 2 Rj (A2 (A0 4) (A2 (A0 3) (AE))))) (GD (Ah (A3 (Fa true) (A0 5) (A4 .non))) (Ah (A3 (Ar true) (A0 5) (A3 AH (A0 2) (A4 (.int 1)))))) [.J (.lst (ws.map CI)),.J (DM b),.J (AS d),.J (.int (a:Int)),.J (.str r.p),.J (GE r.a),.J (GE r.b),DO]=.ok (mt d.2 a r):=by
   unfold mt;have A9:=ja r.a;have AM:=gs r.a d.2;generalize r.a.isNone=GQ at A9 |-;generalize(r.a==some d.2)=G9 at AM |-;generalize HY r.p a=eZ at HI |-;cases GQ<;>cases G9<;>cases eZ<;>simp[A9,AM,HI,BZ]
  have s0:FB [BC 4,BC 5,BC 6] (FI r) [.J (.lst (ws.map CI)),.J (DM b),.J (AS d),.J (.int (a:Int)),s4,s5,DU,DO]=.ok [.J (.lst (ws.map CI)),.J (DM b),.J (AS d),.J (.int (a:Int)),.J (.str r.p),.J (GE r.a),.J (GE r.b),DO]:=by simp[FI]
  rw[s0,BA,cL,q,BA];cases mt d.2 a r with
  |false=>simp
  |true=>
   cases BV:r.b with
   |none=>simp[GE,Kl,C5,lead,st,DR]
   |some o=>
    have Uu:=iu ws (d.1,o);simp only[AS]at Uu;cases DY:IR ws (d.1,o)with
    |none=>rw[DY]at Uu;simp[GE,DT,Kl,Uu,DY,C5,lead,st,DR]
    |some e=>rw[DY]at Uu;have Km:JY (AS e)=false:=rfl;have Dr:K0 (.tup [.str (Aw "at")]) (AS e)=.ok (.tup [.str (Aw "at"),.int (e.1:Int),.int (e.2:Int)]):=rfl;simp[GE,DT,Uu,DY,C5,lead,DR,Km,Dr,st]
 .intro x AI;rw[find_some]at AI;unfold Ym;cases DJ:b.find? (mt d.2 a)with
  |none=>rw[DJ]at AI;cases AI
  |some r=>rw[DJ]at AI;cases AI;simp
 .rintro _ AV ⟨s4,s5,DU,DO,rfl⟩;rw[find_some]at AV;have:b.find? (mt d.2 a)=none:=by simpa using AV
  simp[Ym,this,lead,C5,st,DR]
def B6(k:Nat):D:=.int (k:Int)
def abL(cell:Int)(n:Nat)(AV:n<=6):∃row:List Nat,row.length<=6/\Rn [.int cell,.int (n:Int)]=.ok (.o (row.map B6)):=by
 suffices h:Ends (Rn [.int cell,.int (n:Int)]) λb=>∃row:List Nat,row.length<=6/\b=.o (row.map B6)by
  obtain⟨b,e,row,h,rfl⟩:=h;exact⟨row,h,e⟩
 obtain⟨y,DY⟩:=M1 cell 3 (by decide);have T9:FG [.int cell,.int 3]=.ok (.v (.int y)):=DY;obtain⟨m,hm,em⟩:=Ip y (n:=n+1) (by lia);have Qz:y%((n:Int)+1)=(m:Int):=by rw[<-em];simp
 have Mv:G1 0 n=(Ds n).map B6:=by rw[aq];rfl
 simp(disch:=first|lia|(simp;done)|(simp;lia)) [Rn,fp,lim,T9,Qz];refine Pt m (λj ρ=>∃(R row:List Nat)(s4:Bi),R.length+j=n/\row.length=j/\ρ=[.J (.int cell),.J (.int (n:Int)),.Bw (R.map B6),.Bw (row.map B6),s4]) (by simp[T9,Qz];exact RD m (by lia)) ⟨Ds n,[],.un,by simp,rfl,by rw[Mv];rfl⟩ ?_ ?_
 .rintro j _ Bz ⟨R,row,s4,A6,AA,rfl⟩;obtain⟨z,QW⟩:=M1 cell (4+j) (by lia);have sw:FG [.int cell,.int (4+(j:Int))]=.ok (.v (.int z)):=by rw[<-QW];simp
  obtain⟨k,AF,Dc⟩:=Ip z (n:=R.length) (by lia);have g:=bL B6 (i:=2) AF (by lia);simp(disch:=first|lia|(simp;done)|(simp;lia)) [sw,Dc,g];exact⟨R.eraseIdx k,by rw[dG AF];lia,row++[R[k]],by simp[AA],by simp⟩
 .rintro _ ⟨R,row,s4,A6,AA,rfl⟩;simp;exact⟨row,by lia,rfl⟩
def By(bs:List (List D1)):D:=.lst (bs.map DM)
def Dw(os nw:List (List D1))(row:List Nat)(k:Nat):List (List D1):=(Ds os.length).map λh=>if h∈row.take k then nw.getD h []else os.getD h []
def jW(l:List Nat)(h:Nat):inD true (.int (h:Int)) (.lst (l.map B6))=.ok (.AO (decide (h∈l))):=by
 have o:(l.map B6).all (okN 7)=true:=by simp[B6,okN]
 have a:((l.map B6).any λy=>Cq y (.int (h:Int)))=decide (h∈l):=by
  rw[Og];induction l with
  |nil=>rfl
  |cons x l CA=>
   have:Cq (B6 x) (.int (h:Int))=decide (x=h):=by
    show((x:Int)==(h:Int))=_;by_cases q:x=h
    .subst q;simp
    .have:¬(x:Int)=(h:Int):=λz=>q (by lia);simp[q,this]
   have YC:=CA (by simp[B6,okN]);rw[NQ,YC];simp only[df,this];by_cases q:x=h
   .subst q;simp
   .simp[q,Hl q]
 unfold inD;simp only[Pz];rw[if_pos ⟨rfl,o⟩];simp only[if_true,a]
def fH(l:List Nat)(k:Nat):Fz (l.map B6) none (some (k:Int))=(l.take k).map B6:=by rw[r1,WW]
def RU{bs:List (List D1)}{h:Nat}(BE:h<bs.length):AH (By bs) (.int (h:Int))=.ok (DM (bs.getD h [])):=Io (by simp[BE])
def ab5{os nw:List (List D1)}{row:List Nat}(AN:os.length<=6)(AV:nw.length=os.length)(B3:row.length<=6):SM [By os,By nw,.lst (row.map B6)]=.ok (.o ((Ds (row.length+1)).map λk=>By (Dw os nw row k))):=by
 apply Ends.done;simp[SM,fo,lim];refine Pt (row.length+1) (λj ρ=>∃s4,ρ=[.J (By os),.J (By nw),.J (.lst (row.map B6)),.Bw ((Ds j).map λk=>By (Dw os nw row k)),s4]) (by have:=RD (row.length+1) (by lia);simp at this |-;exact this) ⟨.un,rfl⟩ ?_ ?_
 .rintro j _ Bz ⟨s4,rfl⟩;have lo:CS [By os]=.ok (.int (os.length:Int)):=by simp[By]
  simp;refine R1 os.length (λh=>DM (if h∈row.take j then nw.getD h []else os.getD h [])) (by simp[lo,show os.length<1000000 by lia]) (by lia) (λh BE=>?_) ?_
  .have BZ:=RU BE;have Bl:=RU (bs:=nw) (h:=h) (by lia);have q:=jW (row.take j) h;have FH:AH (.lst [By os,By nw]) (.int 0)=.ok (By os):=rfl;have EB:AH (.lst [By os,By nw]) (.int 1)=.ok (By nw):=rfl;simp only[IU]at BZ Bl |-;by_cases hm:h∈row.take j
   .rw[decide_eq_true hm]at q;simp(disch:=first|lia|(simp;done)|(simp;lia)) only[RL,JL,Zd,Eg,v_var,GF,TS,cO,cM,cN,XF,EF,NS,IU,HQ,ID,Tl,IJ,BA,jY,nz,fH,q,oj,lim,if_true,EB,Bl,hm];simp[lim,EB,Bl]
   .rw[decide_eq_false hm]at q;simp(disch:=first|lia|(simp;done)|(simp;lia)) only[RL,JL,Zd,Eg,v_var,GF,TS,cO,cM,cN,XF,EF,NS,IU,HQ,ID,Tl,IJ,BA,jY,nz,fH,q,oj,lim,if_true,FH,BZ,hm];simp[lim,FH,BZ]
  .simp(disch:=first|lia|(simp;done)|(simp;lia));rw[List.range_succ,Jp];simp[By,Dw,QJ]
 .rintro _ ⟨s4,rfl⟩;simp
def xU{os nw:List (List D1)}{row:List Nat}{k:Nat}(AN:os.length<=6)(AV:nw.length=os.length):ZG [By os,By nw,.lst ((row.take k).map B6)]=.ok (.o ((Dw os nw row k).map DM)):=by
 apply Ends.done;have lo:CS [By os]=.ok (.int (os.length:Int)):=by simp[By]
 simp[ZG,ew];refine R1 os.length (λh=>DM (if h∈row.take k then nw.getD h []else os.getD h [])) (by simp[lo,show os.length<1000000 by lia]) (by lia) (λh BE=>?_) ?_
 .have BZ:=RU BE;have Bl:=RU (bs:=nw) (h:=h) (by lia);have q:=jW (row.take k) h;rw[WW]at q;simp only[IU]at BZ Bl |-;by_cases hm:h∈row.take k
  .rw[decide_eq_true hm]at q;simp[q,Bl,hm,I6,DM]
  .rw[decide_eq_false hm]at q;simp[q,BZ,hm,I6,DM]
 .simp[Dw,QJ]
def aax{os nw:List (List D1)}{row:List Nat}(AN:os.length<=6)(AV:nw.length=os.length)(B3:row.length<=6):Vr [By os,By nw,.lst (row.map B6)]=.ok (.o ((Ds (row.length+1)).map λk=>By (Dw os nw row k))):=by
 apply Ends.done;simp[Vr,ez];refine R1 (row.length+1) (λk=>By (Dw os nw row k)) (by have:=RD (row.length+1) (by lia);simp at this |-;exact this) (by lia) (λk AF=>?_) ?_
 .have mo:=xU (os:=os) (nw:=nw) (row:=row) (k:=k) AN AV;simp[fH,mo,-WW];rfl
 .simp
abbrev AY:=AU×Nat
def B1(s:AY):D:=.tup [AS s.1,B6 s.2]
def Dm(s:AY):Bj:=[.inr [.inl (s.1.1:Int),.inl (s.1.2:Int)],.inl (.inl (s.2:Int))]
def ck{a b:AY}(h:Dm a=Dm b):a=b:=by simp only[Dm,Rr,Sum.inr.injEq,Sum.inl.injEq,and_true]at h;obtain⟨⟨A6,AA⟩,B4⟩:=h;exact Op (Op (by lia) (by lia)) (by lia)
def NG(s:AY):I4 (B1 s)=some (Dm s):=rfl
def Xe(l:List AY)(s:AY):(l.map Dm).any (λx=>decide (x=Dm s))=decide (s∈l):=by
 rw[Og];induction l with
 |nil=>rfl
 |cons x l CA=>
  rw[NQ,CA];simp only[df];by_cases q:x=s
  .subst q;simp
  .have:¬Dm x=Dm s:=λz=>q (ck z);simp[q,this,Hl q]
theorem Vh:∀ds:List D,Mz (ds.map .J)=some ds
 |[]=>rfl
 |d::ds=>by rw[EF,Mz,Vh ds];rfl
theorem oi:∀ds:List D,MB (ds.map .J)=ds
 |[]=>rfl
 |d::ds=>by rw[EF,MB,oi ds];rfl
def Cx(l:List Nat):D:=.lst (l.map B6)
abbrev Ej:=List (AY×List Nat)
abbrev To:=List (AY×On)
def ON:List Str:=["net","stages","address","shunned","woven","told"]
def Cd:Option Nat->D
 |none=>.non
 |some h=>.int (h:Int)
def T8(h:Nat)(sh:Option Nat):Ar true (.int (h:Int)) (Cd sh)=.ok (.AO (decide (sh=some h))):=by
 cases sh with
 |none=>rfl
 |some x=>
  have:Ar true (.int (h:Int)) (.int (x:Int))=.ok (.AO ((h:Int)==(x:Int))):=rfl;rw[Cd,this]
  congr 2
  rw[GV,beq_iff_eq,decide_eq_true_iff,WQ]
  lia
noncomputable def CQ(X Y:D)(a:Nat)(sh:Option Nat)(W:Ej)(U:To):T:=.ins "Weaver" ON [.J X,.J Y,.J (.int (a:Int)),.J (Cd sh),.Ai ((W.map (·.1)).map Dm) ((W.map λp=>Cx p.2).map .J),.Ai ((U.map (·.1)).map Dm) ((U.map λp=>C5 p.1.1.1 p.2).map .J)]
def De(X Y:D)(a:Nat)(sh:Option Nat)(W:Ej)(U:To):D:=.ins "Weaver" ON [X,Y,.int (a:Int),Cd sh,.Ai ((W.map (·.1)).map Dm) (W.map λp=>Cx p.2),.Ai ((U.map (·.1)).map Dm) (U.map λp=>C5 p.1.1.1 p.2)]
def RJ(X Y:D)(a:Nat)(sh:Option Nat)(W:Ej)(U:To):toD (CQ X Y a sh W U)=De X Y a sh W U:=by simp only[CQ,toD,MB,oi,De]
@[simp] theorem tH(k:Nat)(t:T):NA (.BX k t)=.J (toD t):=(rfl)
section
variable{X Y:D}{a:Nat}{sh:Option Nat}{W:Ej}{U:To}
def tk:Dj "Weaver" "net" (De X Y a sh W U)=.ok X:=rfl
def gy:Dj "Weaver" "stages" (De X Y a sh W U)=.ok Y:=rfl
def sH:Dj "Weaver" "address" (De X Y a sh W U)=.ok (.int (a:Int)):=rfl
def V5:Dj "Weaver" "shunned" (De X Y a sh W U)=.ok (Cd sh):=rfl
def gz:Dj "Weaver" "woven" (De X Y a sh W U)=.ok (.Ai ((W.map (·.1)).map Dm) (W.map λp=>Cx p.2)):=rfl
def V6:Dj "Weaver" "told" (De X Y a sh W U)=.ok (.Ai ((U.map (·.1)).map Dm) (U.map λp=>C5 p.1.1.1 p.2)):=rfl
def aN(r:AG):K1 0 "Weaver" "woven" (.BX 0 (CQ X Y a sh W U)::r)=.ok ⟨.BX 0 (CQ X Y a sh W U),ON,[.J X,.J Y,.J (.int (a:Int)),.J (Cd sh),.Ai ((W.map (·.1)).map Dm) ((W.map λp=>Cx p.2).map .J),.Ai ((U.map (·.1)).map Dm) ((U.map λp=>C5 p.1.1.1 p.2).map .J)],4,(W.map (·.1)).map Dm,W.map λp=>Cx p.2⟩:=by
 have e:ON.findIdx? (λk=>("woven" :Str)==k)=some 4:=by decide
 simp only[K1,HQ,JH,CQ,V7,if_true,e,V8,Vh,ID]
def tu(r:AG):K1 0 "Weaver" "told" (.BX 0 (CQ X Y a sh W U)::r)=.ok ⟨.BX 0 (CQ X Y a sh W U),ON,[.J X,.J Y,.J (.int (a:Int)),.J (Cd sh),.Ai ((W.map (·.1)).map Dm) ((W.map λp=>Cx p.2).map .J),.Ai ((U.map (·.1)).map Dm) ((U.map λp=>C5 p.1.1.1 p.2).map .J)],5,(U.map (·.1)).map Dm,U.map λp=>C5 p.1.1.1 p.2⟩:=by
 have e:ON.findIdx? (λk=>("told" :Str)==k)=some 5:=by decide
 simp only[K1,HQ,JH,CQ,V7,if_true,e,V8,Vh,ID]
def aad{r:AG}{mk mv:Ab}{s:AY}{l:List Nat}(AF:mk (.BX 0 (CQ X Y a sh W U)::r)=.ok (B1 s))(Bc:mv (.BX 0 (CQ X Y a sh W U)::r)=.ok (Cx l))(AV:s∉W.map (·.1))(AN:W.length<1000) :
  NI 0 "Weaver" "woven" mk mv (.BX 0 (CQ X Y a sh W U)::r)=.ok (.Ay (.BX 0 (CQ X Y a sh (W++[(s,l)]) U)::r)):=by
 unfold NI;rw[Bc,BA,aN,BA,AF,BA,NG];simp only[YR,putD];have:=Xe (W.map (·.1)) s;rw[decide_eq_false AV]at this;rw[if_pos ⟨this,by simp;lia⟩];simp[aO,O9,CQ]
def aac{r:AG}{mk mv:Ab}{s:AY}{o:On}(AF:mk (.BX 0 (CQ X Y a sh W U)::r)=.ok (B1 s))(Bc:mv (.BX 0 (CQ X Y a sh W U)::r)=.ok (C5 s.1.1 o))(AV:s∉U.map (·.1))(AN:U.length<1000) :
  NI 0 "Weaver" "told" mk mv (.BX 0 (CQ X Y a sh W U)::r)=.ok (.Ay (.BX 0 (CQ X Y a sh W (U++[(s,o)]))::r)):=by
 unfold NI;rw[Bc,BA,tu,BA,AF,BA,NG];simp only[YR,putD];have:=Xe (U.map (·.1)) s;rw[decide_eq_false AV]at this;rw[if_pos ⟨this,by simp;lia⟩];simp[aO,O9,CQ]
def FO(W:Ej)(d:AU)(l n:Nat):List AY:=(((QP l (n-l)).map λk=>((d,k):AY))).filter λs=>!decide (s∈W.map (·.1))
def Fb(l:List Nat):Nat:=l.getLast?.getD 0
def wf(l:List Nat)(h:l≠[]):AH (Cx l) (.int (-1))=.ok (B6 (Fb l)):=by
 have AN:0<l.length:=List.length_pos_iff.mpr h;have e:Fy (l.map B6) (-1)=some (B6 (Fb l)):=by unfold Fy IH;rw[if_neg (by decide),if_pos (by simp;lia)];simp only[Oj,GU];rw[show((-1:Int)+(l.length:Int)).toNat=l.length-1 by lia,EL];unfold Fb;rw[List.getLast?_eq_getElem?];rw[Df (show l.length-1<l.length by lia)];rfl
 simp only[Cx,AH,e]
def ZN(W:Ej)(d:AU)(l n:Nat):(FO W d l n).Nodup:=by exact List.Pairwise.filter _ (List.pairwise_map.mpr ((List.nodup_range' (s:=l) (n:=n-l) (step:=1)).imp λh z=>h (Prod.ext_iff.mp z).2))
def O2{W:Ej}{d:AU}{l n:Nat}{s:AY}:s∈FO W d l n↔s.1=d/\l<=s.2/\s.2<n/\s∉W.map (·.1):=by
 unfold FO;rw[List.mem_filter,List.mem_map];constructor
 .rintro⟨⟨k,AF,rfl⟩,h⟩;rw[List.mem_range'_1]at AF;exact⟨rfl,AF.1,by show k<n;lia,by simpa using h⟩
 .rintro⟨A6,AA,B4,BJ⟩;exact⟨⟨s.2,List.mem_range'_1.mpr ⟨AA,by lia⟩,Op A6.symm rfl⟩,by simpa using BJ⟩
def lJ{l n:Nat}(A6:l<=1000)(AA:n<=1000):W5 [.int (l:Int),.int (n:Int)]=.ok ((QP l (n-l)).map B6):=by simp only[W5];rw[if_pos (by refine⟨?_,?_,?_,?_⟩<;>lia),show((n:Int)-(l:Int)).toNat=n-l by lia];simp[G1,List.range'_eq_map_range,B6]
@[simp] theorem abw(m:Au)(ρ:AG):Oa m ρ=(m ρ).bind W5:=(rfl)
@[simp] theorem acR(m:Au)(ρ:AG):Rb m ρ=(m (EI ρ)).bind λds=>if Q2 ds=true then .ok ds else .bad:=(rfl)
@[simp] theorem acQ(m:Ab)(ρ:AG):Jc m ρ=(m (EI ρ)).bind λd=>if Q1 d=true then .ok d else .bad:=(rfl)
@[simp] theorem ah2(m:Ab)(ρ:AG):Ob m ρ=(m ρ).bind λd=>.ok (.rs d ρ):=(rfl)
@[simp] theorem agR(b:Ao)(d:D)(ρ:AG):Q3 b (.rs d ρ)=.ok (.rs d ρ):=(rfl)
theorem n9:∀l:List AY,Q2 (l.map B1)=true
 |[]=>rfl
 |s::l=>by simp[Q2,Q1,B1,AS,B6,n9 l]
def yI(l:List Nat):(l.map B6).all (okN 7)=true:=by simp[B6,okN]
def hH:Ao:=NI 0 "Weaver" "woven" (A0 5) (BH (Kg (A0 2) (BH (C4 (A2 (A3 AH (A0 5) (A4 (.int 1))) (AE))))))
def ek:Ao:=AP (EC (ER (A0 4)) (BC 5) hH) (Ob (A0 4))
def si{Z:D}{N:List AY}(TD:W.length+N.length<=1000)(Ct:N.Nodup)(AV:∀s∈N,s∉W.map (·.1))(d:AU)(DF:List Nat)(AN:DF.length<=1000)(s3:Bi) :
  Ends (ek [.BX 0 (CQ X Z a sh W U),.J (AS d),.J (Cx DF),s3,.J (.lst (N.map B1)),.un]) λf=>∃r,f=.rs (.lst (N.map B1)) (.BX 0 (CQ X Z a sh (W++N.map λs=>(s,DF++[s.2])) U)::r):=by
 unfold ek;rw[Cy];refine R2 B1 N (λj ρ=>∃s5,ρ=[.BX 0 (CQ X Z a sh (W++(N.take j).map λs=>(s,DF++[s.2])) U),.J (AS d),.J (Cx DF),s3,.J (.lst (N.map B1)),s5]) (by simp) ⟨.un,by simp⟩ ?_ ?_
 .rintro j s _ Bz ⟨s5,rfl⟩;obtain⟨uo,A5⟩:=List.getElem?_eq_some_iff.mp Bz;have AJ:s∈N:=A5▸MV _;have nm:s∉(W++(N.take j).map λs=>(s,DF++[s.2])).map (·.1):=by
   rw[Jp,H7,List.mem_append];rintro(z|z)
   .exact AV s AJ z
   .have z:s∈N.take j:=by simpa[QJ]using z
    obtain⟨i,AD,F0⟩:=QC z;rw[Tk]at AD;rw[List.getElem_take]at F0;exact absurd (F0.trans A5.symm) (List.pairwise_iff_getElem.mp Ct i j (by lia) uo (by lia))
  have O7:=aad (X:=X) (Y:=Z) (a:=a) (sh:=sh) (U:=U) (r:=[.J (AS d),.J (Cx DF),s3,.J (.lst (N.map B1)),.J (B1 s)]) (mk:=A0 5) (mv:=BH (Kg (A0 2) (BH (C4 (A2 (A3 AH (A0 5) (A4 (.int 1))) (AE)))))) (l:=DF++[s.2]) (by simp) (by have BZ:AH (B1 s) (.int 1)=.ok (B6 s.2):=rfl;simp(disch:=first|lia|(simp;done)|(simp;lia)) [BZ,lim,Cx]) nm (by simp;lia)
  have OF:BC 5 (B1 s) [.BX 0 (CQ X Z a sh (W++(N.take j).map λs=>(s,DF++[s.2])) U),.J (AS d),.J (Cx DF),s3,.J (.lst (N.map B1)),s5]=.ok [.BX 0 (CQ X Z a sh (W++(N.take j).map λs=>(s,DF++[s.2])) U),.J (AS d),.J (Cx DF),s3,.J (.lst (N.map B1)),.J (B1 s)]:=rfl;rw[OF,BA,hH,O7];exact⟨_,rfl,_,rfl,_,by rw[Tj,Bz,Jp,<-Ru];rfl⟩
 .rintro _ ⟨s5,rfl⟩;simp
noncomputable def hI:Ao:=Oc 4 (Rb (DE 1 [1,0] (Oa (A2 (A0 3) (A2 (Bm CS (A2 (Cj (Dj "Weaver" "stages") (A0 0)) (AE))) (AE)))) (BC 0) (Ah (A3 (EW false) (CP (A2 (A0 1) (A2 (A0 0) (AE)))) (Cj (Dj "Weaver" "woven") (A0 2)))) (CP (A2 (A0 1) (A2 (A0 0) (AE))))))
def sg{Z:D}(UD:Ao)(d:AU)(Gh:sh≠some d.1)(DF:List Nat):AP (C8 (GC (Ah (A3 (Ar true) (A3 AH (A0 1) (A4 (.int 0))) (Cj (Dj "Weaver" "shunned") (A0 0))))) (Ob (BH (C4 (AE)))) (CK))
  (AP (B5 3 (Ki (Ah (A3 (Ar false) (A0 2) (BH (C4 (AE))))) (A3 AH (A0 2) (Cj Jg (A4 (.int 1)))) (A4 (.int 0)))) UD) [.BX 0 (CQ X Z a sh W U),.J (AS d),.J (Cx DF),.un,.un,.un]=UD [.BX 0 (CQ X Z a sh W U),.J (AS d),.J (Cx DF),.J (B6 (Fb DF)),.un,.un]:=by
 have DR:AH (AS d) (.int 0)=.ok (.int (d.1:Int)):=rfl;have DN:Ar true (.int (d.1:Int)) (Cd sh)=.ok (.AO false):=by rw[T8,decide_eq_false Gh]
 have ne:Ar false (Cx DF) (.lst [])=.ok (.AO (!(DF.map B6).isEmpty)):=ne_nil (yI DF);by_cases h:DF=[]
 .subst h;have ne:Ar false (Cx []) (.lst [])=.ok (.AO false):=ne;simp[RJ,DR,V5,DN,ne,lim];rfl
 .have aI:=wf DF h;have:(DF.map B6).isEmpty=false:=by cases DF<;>simp_all
  rw[this]at ne;simp[RJ,DR,V5,DN,ne,lim,aI]
def sk{Ys:List D}(AV:Ys.length<=7)(TD:W.length+7<=1000)(d:AU)(Gh:sh≠some d.1)(DF:List Nat)(AN:DF.length<=1000)(Ud:Fb DF<=1000) :
  Lb (CQ X (.lst Ys) a sh W U) [AS d,Cx DF]=.ok (.lst ((FO W d (Fb DF) Ys.length).map B1),CQ X (.lst Ys) a sh (W++(FO W d (Fb DF) Ys.length).map λs=>(s,DF++[s.2])) U):=by
 apply Ends.done;have ln:(FO W d (Fb DF) Ys.length).length<=7:=by unfold FO;refine FT (d3 _ _) ?_;simp;lia
 have BV:SE=AP (C8 (GC (Ah (A3 (Ar true) (A3 AH (A0 1) (A4 (.int 0))) (Cj (Dj "Weaver" "shunned") (A0 0))))) (Ob (BH (C4 (AE)))) (CK))
  (AP (B5 3 (Ki (Ah (A3 (Ar false) (A0 2) (BH (C4 (AE))))) (A3 AH (A0 2) (Cj Jg (A4 (.int 1)))) (A4 (.int 0))))
  (AP hI ek)):=rfl
 show Ends ((SE [.BX 0 (CQ X (.lst Ys) a sh W U),.J (AS d),.J (Cx DF),.un,.un,.un]).bind Pb) _;rw[BV,sg _ _ Gh,Cy,LB,hI,o9,oA,acR];simp only[LB];have Mv:=lJ (l:=Fb DF) (n:=Ys.length) Ud (by lia);refine T5 B6 (QP (Fb DF) (Ys.length-Fb DF)) (λk=>!decide (((d,k):AY)∈W.map (·.1))) (λk=>B1 (d,k)) (by simp[RJ,gy,B6]at Mv |-;exact Mv) (by simp;lia) (λk AF=>?_) (λk AF _=>by simp[B1,B6]) ?_
 .have:EW false (B1 (d,k)) (.Ai ((W.map (·.1)).map Dm) (W.map λp=>Cx p.2))=.ok (.AO (!decide (((d,k):AY)∈W.map (·.1)))):=by
    simp only[EW,NG,Xe];rfl
  have ac6:cB [AS d,B6 k]=.ok (B1 (d,k)):=rfl;simp only[EI,EF,NS,tH,tF,tG,IU,HQ,ID,Tl,XF,acO,RL,TU,Eg,GF,v_var,IJ,BA,cP,RJ,gz,ac6,this,q5]
 .have FL:((QP (Fb DF) (Ys.length-Fb DF)).filter λk=>!decide (((d,k):AY)∈W.map (·.1))).map (λk=>B1 (d,k))=(FO W d (Fb DF) Ys.length).map B1:=by
    unfold FO;rw[List.filter_map,H7];rfl
  rw[FL,if_pos (n9 _),BA,if_pos (by simp),BA,aaw,BA,EE];have CU:=si (X:=X) (Z:=.lst Ys) (a:=a) (sh:=sh) (W:=W) (U:=U) (N:=FO W d (Fb DF) Ys.length) (by lia) (ZN _ _ _ _) (λs AJ=>(O2.mp AJ).2.2.2) d DF AN (.J (B6 (Fb DF)));obtain⟨f,DJ,r,rfl⟩:=CU;have z:Ka 4 (List.set [.BX 0 (CQ X (.lst Ys) a sh W U),.J (AS d),.J (Cx DF),.J (B6 (Fb DF)),.un,.un] 4 (.Bw ((FO W d (Fb DF) Ys.length).map B1)))=[.BX 0 (CQ X (.lst Ys) a sh W U),.J (AS d),.J (Cx DF),.J (B6 (Fb DF)),.J (.lst ((FO W d (Fb DF) Ys.length).map B1)),.un]:=rfl;rw[z,DJ];exact⟨_,rfl,rfl⟩
def sj{Ys:List D}(d:AU)(Gh:sh=some d.1)(DF:List Nat):Lb (CQ X (.lst Ys) a sh W U) [AS d,Cx DF]=.ok (.lst [],CQ X (.lst Ys) a sh W U):=by
 have DR:AH (AS d) (.int 0)=.ok (.int (d.1:Int)):=rfl;have DN:Ar true (.int (d.1:Int)) (Cd sh)=.ok (.AO true):=by rw[T8,decide_eq_true Gh]
 have BV:∀UD,AP (C8 (GC (Ah (A3 (Ar true) (A3 AH (A0 1) (A4 (.int 0))) (Cj (Dj "Weaver" "shunned") (A0 0))))) (Ob (BH (C4 (AE)))) (CK)) UD [.BX 0 (CQ X (.lst Ys) a sh W U),.J (AS d),.J (Cx DF),.un,.un,.un]=.ok (.rs (.lst []) [.BX 0 (CQ X (.lst Ys) a sh W U),.J (AS d),.J (Cx DF),.un,.un,.un]):=λUD=>by simp[RJ,DR,V5,DN,lim]
 show(SE [.BX 0 (CQ X (.lst Ys) a sh W U),.J (AS d),.J (Cx DF),.un,.un,.un]).bind Pb=_;rw[SE,BV];rfl
end
def VU(sh:Option Nat):On->On
 |.to e=>if sh=some e.1 then .no e else .to e
 |o=>o
def bA(sh:Option Nat)(h:Nat)(o:On):C5 h (VU sh o)=C5 h o:=by
 cases o with
 |to e=>show C5 h (if sh=some e.1 then .no e else .to e)=_;split<;>rfl
 |_=>rfl
def No(sh:Option Nat):On->Prop
 |.to e=>sh≠some e.1
 |.no e=>sh=some e.1
 |_=>True
def BW(sh:Option Nat)(ws:List (AU×AU))(Bk:Nat->List (List D1))(a:Nat)(s:AY):On:=VU sh (Ay ws ((Bk s.2).getD s.1.1 []) s.1.1 s.1.2 a)
def yv(ws:List (AU×AU))(b:List D1)(h d a:Nat)(e:AU):Ay ws b h d a≠.no e:=λz=>by
 unfold Ay at z
 split at z
 .cases z
 .split at z
  .cases z
  .split at z<;>cases z
def P1(sh:Option Nat)(ws:List (AU×AU))(Bk:Nat->List (List D1))(a:Nat)(s:AY):No sh (BW sh ws Bk a s):=by
 unfold BW;cases e:Ay ws ((Bk s.2).getD s.1.1 []) s.1.1 s.1.2 a with
 |to f=>
  show No sh (if sh=some f.1 then .no f else .to f)
  split
  .assumption
  .assumption
 |no f=>exact absurd e (yv _ _ _ _ _ _)
 |_=>trivial
structure JO(cs:List Nat)(ws:List (AU×AU))(Bk:Nat->List (List D1))(n a:Nat):Prop where
 EA:KO cs ws
 AB:a<16
 DT:1<=n
 I8:n<=7
 AO:∀k,k<n->(Bk k).length=cs.length
 pt:∀k,k<n->∀b∈Bk k,∀r∈b,I1 r.p
def C0(n:Nat)(Bk:Nat->List (List D1)):List D:=(Ds n).map λk=>By (Bk k)
inductive MG(N:AY->On)(n:Nat)(d0:AU):AY->Prop
 |st (k:Nat):k<n->MG N n d0 (d0,k)
 |go (s:AY) (e:AU) (k:Nat):MG N n d0 s->N s=.to e->s.2<=k->k<n->MG N n d0 (e,k)
structure Good(A:List AU)(N:AY->On)(n:Nat)(d0:AU)(W:Ej)(U:To)(pd:List AY):Prop where
 nw:(W.map (·.1)).Nodup
 inr:∀p∈W,p.1.1∈A/\p.1.2<n
 up:∀p∈W,∀k,p.1.2<=k->k<n->(p.1.1,k)∈W.map (·.1)
 lst:∀p∈W,Fb p.2=p.1.2/\p.2.length<=W.length
 jy:(U.map (·.1)).Nodup
 un:∀q∈U,q.1∈W.map (·.1)/\q.2=N q.1
 cl:∀p∈W,p.1∈pd\/(p.1∈U.map (·.1)/\∀e,N p.1=.to e->(e,p.1.2)∈W.map (·.1))
 BX:pd.Nodup
 O7:∀s∈pd,s∈W.map (·.1)/\s∉U.map (·.1)
 rc:∀p∈W,MG N n d0 p.1
def Ji(W:Ej)(n:Nat)(s:AY):On->List AY
 |.to e=>FO W e s.2 n
 |_=>[]
def xl(l:List Nat)(k:Nat):Fb (l++[k])=k:=by simp[Fb]
def SS{W:Ej}{n:Nat}{s t:AY}{o:On}(h:t∈Ji W n s o):∃e,o=.to e/\t.1=e/\s.2<=t.2/\t.2<n/\t∉W.map (·.1):=by
 cases o with
 |to e=>exact⟨e,rfl,O2.mp h⟩
 |drop=>cases h
 |out _=>cases h
 |no _=>cases h
def jz(W:Ej)(n:Nat)(s:AY)(o:On):(Ji W n s o).Nodup:=by
 cases o with
 |to e=>exact ZN _ _ _ _
 |drop=>exact .nil
 |out _=>exact .nil
 |no _=>exact .nil
section
variable{A:List AU}{N:AY->On}{n:Nat}{d0:AU}{W:Ej}{U:To}{pd:List AY}
def Good.few(g:Good A N n d0 W U pd)(Hr:A.length<=24)(AV:n<=7):W.length<=168:=by
 have:=Ld (l₂:=A.flatMap λd=>(Ds n).map λk=>((d,k):AY)) g.nw λs AJ=>by obtain⟨p,AZ,rfl⟩:=List.mem_map.mp AJ;obtain⟨A6,AA⟩:=g.inr p AZ;exact List.mem_flatMap.mpr ⟨_,A6,List.mem_map.mpr ⟨_,List.mem_range.mpr AA,rfl⟩⟩
 rw[GU,List.length_flatMap]at this;simp at this;have e:∀A:List AU,(A.map λ_=>n).sum=A.length*n:=λA=>by
  induction A with
  |nil=>simp
  |cons x A CA=>simp[CA,dj];lia
 rw[e]at this;have:A.length*n<=24*7:=Nat.mul_le_mul Hr AV
 lia
def Good.step(Jz:∀s e,N s=.to e->e∈A){s:AY}{l:List Nat}(g:Good A N n d0 W U (s::pd))(AJ:(s,l)∈W):Good A N n d0 (W++(Ji W n s (N s)).map λt=>(t,l++[t.2])) (U++[(s,N s)]) (pd++Ji W n s (N s)):=by
 have Pw:s∈W.map (·.1):=List.mem_map.mpr ⟨_,AJ,rfl⟩;have Cn:(W++(Ji W n s (N s)).map λt=>(t,l++[t.2])).map (·.1)=W.map (·.1)++Ji W n s (N s):=by simp[QJ]
 have C3:(U++[(s,N s)]).map (·.1)=U.map (·.1)++[s]:=by simp
 obtain⟨sp,yz⟩:=List.nodup_cons.mp g.BX;have zy:=(g.O7 s (by simp)).2;have s2:=(g.inr _ AJ).2;have mem:∀{p:AY×List Nat},p∈W++(Ji W n s (N s)).map (λt=>(t,l++[t.2]))->p∈W\/∃t∈Ji W n s (N s),p=(t,l++[t.2]):=λh=>by
  rcases List.mem_append.mp h with h|h
  .exact .inl h
  .obtain⟨t,Aj,rfl⟩:=List.mem_map.mp h;exact .inr ⟨t,Aj,rfl⟩
 refine⟨?_,λp AZ=>?_,λp AZ k A6 AA=>?_,λp AZ=>?_,?_,λq AW=>?_,λp AZ=>?_,?_,λt Aj=>?_,λp AZ=>?_⟩
 .rw[Cn];exact List.nodup_append.mpr ⟨g.nw,jz _ _ _ _,λx AI y BO z=>(SS BO).choose_spec.2.2.2.2 (z▸AI)⟩
 .rcases mem AZ with h|⟨t,Aj,rfl⟩
  .exact g.inr p h
  .obtain⟨e,A9,AM,BD,Cp,El⟩:=SS Aj;exact⟨AM▸Jz s e A9,Cp⟩
 .rw[Cn];rcases mem AZ with h|⟨t,Aj,rfl⟩
  .exact Fu _ (g.up p h k A6 AA)
  .obtain⟨e,A9,AM,BD,Cp,El⟩:=SS Aj;by_cases hw:((t.1,k):AY)∈W.map (·.1)
   .exact Fu _ hw
   .refine Ft _ ?_;rw[A9];exact O2.mpr ⟨AM,FT BD A6,AA,hw⟩
 .rw[J2,GU];rcases mem AZ with h|⟨t,Aj,rfl⟩
  .exact⟨(g.lst p h).1,FT (g.lst p h).2 (Tp _ _)⟩
  .have:=WF Aj;have:=(g.lst _ AJ).2;refine⟨xl _ _,?_⟩;simp at this |-;lia
 .rw[C3];exact List.nodup_append.mpr ⟨g.jy,by simp,λx AI y BO z=>by rw[List.mem_singleton.mp BO]at z;exact zy (z▸AI)⟩
 .rw[Cn];rcases List.mem_append.mp AW with h|h
  .exact⟨Fu _ (g.un q h).1,(g.un q h).2⟩
  .rw[List.mem_singleton.mp h];exact⟨Fu _ Pw,rfl⟩
 .rw[Cn,C3];rcases mem AZ with h|⟨t,Aj,rfl⟩
  .by_cases A5:p.1=s
   .refine .inr ⟨by rw[A5];simp,λe he=>?_⟩;rw[A5]at he |-;by_cases hw:((e,s.2):AY)∈W.map (·.1)
    .exact Fu _ hw
    .refine Ft _ ?_;rw[he];exact O2.mpr ⟨rfl,Ci _,s2,hw⟩
   .rcases g.cl p h with q|⟨An,BF⟩
    .rcases List.mem_cons.mp q with q|q
     .exact absurd q A5
     .exact .inl (Fu _ q)
    .exact .inr ⟨Fu _ An,λe he=>Fu _ (BF e he)⟩
  .exact .inl (Ft _ Aj)
 .exact List.nodup_append.mpr ⟨yz,jz _ _ _ _,λx AI y BO z=>(SS BO).choose_spec.2.2.2.2 (z▸(g.O7 x (by simp[AI])).1)⟩
 .rw[Cn,C3];rcases List.mem_append.mp Aj with h|h
  .refine⟨Fu _ (g.O7 t (by simp[h])).1,λz=>?_⟩;rcases List.mem_append.mp z with z|z
   .exact(g.O7 t (by simp[h])).2 z
   .rw[List.mem_singleton.mp z]at h;exact sp h
  .obtain⟨e,A9,AM,BD,Cp,El⟩:=SS h;refine⟨Ft _ h,λz=>?_⟩;rcases List.mem_append.mp z with z|z
   .obtain⟨q,AW,rfl⟩:=List.mem_map.mp z;exact El (g.un q AW).1
   .rw[List.mem_singleton.mp z]at El;exact El Pw
 .rcases mem AZ with h|⟨t,Aj,rfl⟩
  .exact g.rc p h
  .obtain⟨e,A9,AM,BD,Cp,El⟩:=SS Aj;have:=MG.go s e t.2 (g.rc _ AJ) A9 BD Cp;rw[<-AM]at this;exact this
def Good.start{A:List AU}{N:AY->On}{n:Nat}{d0:AU}(hd:d0∈A):Good A N n d0 ((FO [] d0 0 n).map λt=>(t,[]++[t.2])) [] (FO [] d0 0 n):=by
 have Cn:((FO [] d0 0 n).map λt=>(t,([]:List Nat)++[t.2])).map (·.1)=FO [] d0 0 n:=by simp[QJ]
 have mem:∀{p:AY×List Nat},p∈(FO [] d0 0 n).map (λt=>(t,([]:List Nat)++[t.2]))->p.1∈FO [] d0 0 n/\p.2=[p.1.2]:=λh=>by obtain⟨t,Aj,rfl⟩:=List.mem_map.mp h;exact⟨Aj,rfl⟩
 refine⟨by rw[Cn];exact ZN _ _ _ _,λp AZ=>?_,λp AZ k A6 AA=>?_,λp AZ=>?_,.nil,(λq AW=>nomatch AW),λp AZ=>.inl (mem AZ).1,ZN _ _ _ _,λs AJ=>⟨by rw[Cn];exact AJ,(λz=>nomatch z)⟩,λp AZ=>?_⟩
 .obtain⟨A9,AM,BD,Cp⟩:=O2.mp (mem AZ).1;exact⟨A9▸hd,BD⟩
 .obtain⟨A9,AM,BD,Cp⟩:=O2.mp (mem AZ).1;rw[Cn];exact O2.mpr ⟨A9,J1 _,AA,(λz=>nomatch z)⟩
 .rw[(mem AZ).2];refine⟨rfl,?_⟩;have:=WF AZ;simp at this |-;lia
 .obtain⟨A9,AM,BD,Cp⟩:=O2.mp (mem AZ).1;have:=MG.st (N:=N) (n:=n) (d0:=d0) p.1.2 BD
  rwa [show((d0,p.1.2):AY)=p.1 from Op A9.symm rfl]at this
end
def iW(W:Ej)(s:AY):findD ((W.map (·.1)).map Dm) (W.map λp=>Cx p.2) (Dm s)=(W.find? λp=>decide (p.1=s)).map λp=>Cx p.2:=by
 unfold findD;induction W with
 |nil=>rfl
 |cons p W CA=>
  simp only[EF,Od,HP];by_cases h:p.1=s
  .simp[h]
  .have:¬Dm p.1=Dm s:=λz=>h (ck z);simp only[h,this,decide_false];exact CA
def tz(U:To)(s:AY):findD ((U.map (·.1)).map Dm) (U.map λp=>C5 p.1.1.1 p.2) (Dm s)=(U.find? λp=>decide (p.1=s)).map λp=>C5 p.1.1.1 p.2:=by
 unfold findD;induction U with
 |nil=>rfl
 |cons p U CA=>
  simp only[EF,Od,HP];by_cases h:p.1=s
  .simp[h]
  .have:¬Dm p.1=Dm s:=λz=>h (ck z);simp only[h,this,decide_false];exact CA
def iV{β:Type}{l:List (AY×β)}{s:AY}(h:s∈l.map (·.1)):∃x,(s,x)∈l/\l.find? (λp=>decide (p.1=s))=some (s,x):=by
 cases e:l.find? λp=>decide (p.1=s)with
 |none=>obtain⟨p,AZ,rfl⟩:=List.mem_map.mp h;have:=List.find?_eq_none.mp e p AZ;simp at this
 |some q=>
  have A6:=List.find?_some e;have AA:=pQ e;have:q.1=s:=by simpa using A6
  refine⟨q.2,?_,?_⟩<;>rw[<-this]<;>first|exact AA|rfl
noncomputable def c1:Ao:=B5 5 (Jc (Bo 4 O1 (A2 (Cj (Dj "Weaver" "net") (A0 0)) (A2 (A3 AH (A3 AH (Cj (Dj "Weaver" "stages") (A0 0)) (A3 AH (A0 4) (A4 (.int 1)))) (A3 AH (A3 AH (A0 4) (A4 (.int 0))) (A4 (.int 0)))) (A2 (A3 AH (A0 4) (A4 (.int 0))) (A2 (Cj (Dj "Weaver" "address") (A0 0)) (AE)))))))
noncomputable def TX:Ao:=C8 (Ah (A3 (Ar true) (A3 AH (A0 5) (A4 (.int 0))) (A4 (.str (Aw "at"))))) (PR (PS 3 (I5 0 "Weaver" "entered" 2 Lb (A2 (CP (A2 (A3 AH (A0 5) (A4 (.int 1))) (A2 (A3 AH (A0 5) (A4 (.int 2))) (AE)))) (A2 (LZ 0 "Weaver" "woven" (A0 4)) (AE)))))) (CK)
def bz:Ao:=AP c1 (AP (NI 0 "Weaver" "told" (A0 4) (A0 5)) TX)
def ci(h:Nat)(o:On):Q1 (C5 h o)=true:=by cases o<;>rfl
section
variable{cs:List Nat}{ws:List (AU×AU)}{Bk:Nat->List (List D1)}{n a:Nat}{sh:Option Nat}{W:Ej}{U:To}
def adj(ok:JO cs ws Bk n a){s:AY}(A6:s.1.1<cs.length)(AA:s.2<n)(s1 s2 s3 s5:Bi):c1 [.BX 0 (CQ (CW cs ws) (.lst (C0 n Bk)) a sh W U),s1,s2,s3,.J (B1 s),s5]=.ok (.Ay [.BX 0 (CQ (CW cs ws) (.lst (C0 n Bk)) a sh W U),s1,s2,s3,.J (B1 s),.J (C5 s.1.1 (BW sh ws Bk a s))]):=by
 have BZ:AH (B1 s) (.int 1)=.ok (B6 s.2):=rfl;have DR:AH (B1 s) (.int 0)=.ok (AS s.1):=rfl;have Zo:AH (AS s.1) (.int 0)=.ok (.int (s.1.1:Int)):=rfl;have AO:=ok.AO s.2 AA;have Cn:AH (.lst (C0 n Bk)) (B6 s.2)=.ok (By (Bk s.2)):=Io (by simp[C0,AA]);have C3:=RU (bs:=Bk s.2) (h:=s.1.1) (by lia);have on:=yP (cs:=cs) (ws:=ws) (b:=(Bk s.2).getD s.1.1 []) (λr B3=>by
  have AN:s.1.1<(Bk s.2).length:=by lia
  have eg:(Bk s.2).getD s.1.1 []=(Bk s.2)[s.1.1]:=by simp[AN]
  rw[eg]at B3;exact ok.pt s.2 AA _ (MV _) r B3) s.1.1 s.1.2 a ok.AB
 have k6:O1 [CW cs ws,DM ((Bk s.2).getD s.1.1 []),AS s.1,.int (a:Int)]=.ok (.v (C5 s.1.1 (BW sh ws Bk a s))):=by unfold BW;rw[bA];exact on
 generalize(Bk s.2).getD s.1.1 []=Sx at C3 k6;simp[c1,RJ,tk,gy,sH,DR,BZ,Zo,Cn,C3,k6,ci]
end
section
variable{cs:List Nat}{ws:List (AU×AU)}{Bk:Nat->List (List D1)}{n a:Nat}{sh:Option Nat}{W:Ej}{U:To}
def hZ{X:D}{Ys:List D}{ma:Au}{r:AG}{e:AU}{l:List Nat}(AV:Ys.length<=7)(TD:W.length+7<=1000)(AN:l.length<=1000)(Ud:Fb l<=1000)(Gh:sh≠some e.1)(hm:ma (.BX 0 (CQ X (.lst Ys) a sh W U)::r)=.ok [AS e,Cx l]) :
  I5 0 "Weaver" "entered" 2 Lb ma (.BX 0 (CQ X (.lst Ys) a sh W U)::r)=.ok (.lst ((FO W e (Fb l) Ys.length).map B1),.BX 0 (CQ X (.lst Ys) a sh (W++(FO W e (Fb l) Ys.length).map λs=>(s,l++[s.2])) U)::r):=by
 have FL:=sk (X:=X) (a:=a) (sh:=sh) (W:=W) (U:=U) AV TD e Gh l AN Ud;have BU:ON.all (λk=>!(("entered" :Str)==k))=true:=by decide
 simp only[I5,HQ,hm,SR,BA,JH];unfold CQ at FL |-;simp only[T0];rw[if_pos ⟨trivial,BU,rfl⟩,FL];rfl
def h_{X:D}{Ys:List D}{ma:Au}{r:AG}{e:AU}{l:List Nat}(Gh:sh=some e.1)(hm:ma (.BX 0 (CQ X (.lst Ys) a sh W U)::r)=.ok [AS e,Cx l]) :
  I5 0 "Weaver" "entered" 2 Lb ma (.BX 0 (CQ X (.lst Ys) a sh W U)::r)=.ok (.lst [],.BX 0 (CQ X (.lst Ys) a sh W U)::r):=by
 have FL:=sj (X:=X) (Ys:=Ys) (a:=a) (sh:=sh) (W:=W) (U:=U) e Gh l;have BU:ON.all (λk=>!(("entered" :Str)==k))=true:=by decide
 simp only[I5,HQ,hm,SR,BA,JH];unfold CQ at FL |-;simp only[T0];rw[if_pos ⟨trivial,BU,rfl⟩,FL];rfl
def adh(AV:n<=7)(TD:W.length<=168){s:AY}{l:List Nat}(hf:W.find? (λp=>decide (p.1=s))=some (s,l))(AN:l.length<=1000)(Ud:Fb l=s.2)(AJ:s.2<n)(F:List AY)(Hs:F.length<=1000)(s1 s2:Bi)(o:On)(ho:No sh o) :
  TX [.BX 0 (CQ (CW cs ws) (.lst (C0 n Bk)) a sh W U),s1,s2,.Bw (F.map B1),.J (B1 s),.J (C5 s.1.1 o)]=.ok (.Ay [.BX 0 (CQ (CW cs ws) (.lst (C0 n Bk)) a sh (W++(Ji W n s o).map λt=>(t,l++[t.2])) U),s1,s2,.Bw ((F++Ji W n s o).map B1),.J (B1 s),.J (C5 s.1.1 o)]):=by
 cases o with
 |drop=>have DR:AH (C5 s.1.1 .drop) (.int 0)=.ok (st "drop"):=rfl;have q:Ar true (st "drop") (.str (Aw "at"))=.ok (.AO false):=rfl;simp[TX,DR,q,Ji]
 |out x=>have DR:AH (C5 s.1.1 (.out x)) (.int 0)=.ok (st "out"):=rfl;have q:Ar true (st "out") (.str (Aw "at"))=.ok (.AO false):=rfl;simp[TX,DR,q,Ji]
 |no e=>
  have DR:AH (C5 s.1.1 (.no e)) (.int 0)=.ok (st "at"):=rfl;have BZ:AH (C5 s.1.1 (.no e)) (.int 1)=.ok (.int (e.1:Int)):=rfl;have Bl:AH (C5 s.1.1 (.no e)) (.int 2)=.ok (.int (e.2:Int)):=rfl;have q:Ar true (st "at") (.str (Aw "at"))=.ok (.AO true):=rfl;have Ag:LZ 0 "Weaver" "woven" (A0 4) [.BX 0 (CQ (CW cs ws) (.lst (C0 n Bk)) a sh W U),s1,s2,.Bw (F.map B1),.J (B1 s),.J (C5 s.1.1 (.no e))]=.ok (Cx l):=by simp only[LZ,aN,BA,v_var,ID,HQ,IJ,HX,NG,iW,hf,Wa]
  have hm:(A2 (CP (A2 (A3 AH (A0 5) (A4 (.int 1))) (A2 (A3 AH (A0 5) (A4 (.int 2))) (AE)))) (A2 (LZ 0 "Weaver" "woven" (A0 4)) (AE))) [.BX 0 (CQ (CW cs ws) (.lst (C0 n Bk)) a sh W U),s1,s2,.Bw (F.map B1),.J (B1 s),.J (C5 s.1.1 (.no e))]=.ok [AS e,Cx l]:=by simp only[Eg,Ag];simp[BZ,Bl,AS]
  have ce:=h_ ho hm;have ex:PS 3 (I5 0 "Weaver" "entered" 2 Lb (A2 (CP (A2 (A3 AH (A0 5) (A4 (.int 1))) (A2 (A3 AH (A0 5) (A4 (.int 2))) (AE)))) (A2 (LZ 0 "Weaver" "woven" (A0 4)) (AE)))) [.BX 0 (CQ (CW cs ws) (.lst (C0 n Bk)) a sh W U),s1,s2,.Bw (F.map B1),.J (B1 s),.J (C5 s.1.1 (.no e))]=.ok (.non,[.BX 0 (CQ (CW cs ws) (.lst (C0 n Bk)) a sh W U),s1,s2,.Bw (F.map B1),.J (B1 s),.J (C5 s.1.1 (.no e))]):=by simp only[PS,ce];simp[Si,show F.length<=1000000 by lia]
  rw[TX,cL];simp only[cK,ex];simp[DR,q,Ji]
 |to e=>
  have DR:AH (C5 s.1.1 (.to e)) (.int 0)=.ok (st "at"):=rfl;have BZ:AH (C5 s.1.1 (.to e)) (.int 1)=.ok (.int (e.1:Int)):=rfl;have Bl:AH (C5 s.1.1 (.to e)) (.int 2)=.ok (.int (e.2:Int)):=rfl;have q:Ar true (st "at") (.str (Aw "at"))=.ok (.AO true):=rfl;have ls:(C0 n Bk).length=n:=by simp[C0]
  have Ag:LZ 0 "Weaver" "woven" (A0 4) [.BX 0 (CQ (CW cs ws) (.lst (C0 n Bk)) a sh W U),s1,s2,.Bw (F.map B1),.J (B1 s),.J (C5 s.1.1 (.to e))]=.ok (Cx l):=by simp only[LZ,aN,BA,v_var,ID,HQ,IJ,HX,NG,iW,hf,Wa]
  have hm:(A2 (CP (A2 (A3 AH (A0 5) (A4 (.int 1))) (A2 (A3 AH (A0 5) (A4 (.int 2))) (AE)))) (A2 (LZ 0 "Weaver" "woven" (A0 4)) (AE))) [.BX 0 (CQ (CW cs ws) (.lst (C0 n Bk)) a sh W U),s1,s2,.Bw (F.map B1),.J (B1 s),.J (C5 s.1.1 (.to e))]=.ok [AS e,Cx l]:=by simp only[Eg,Ag];simp[BZ,Bl,AS]
  have ce:=hZ (X:=CW cs ws) (Ys:=C0 n Bk) (a:=a) (sh:=sh) (W:=W) (U:=U) (e:=e) (l:=l) (by lia) (by lia) AN (by lia) ho hm;rw[ls,Ud]at ce;have ln:(FO W e s.2 n).length<=7:=by unfold FO;refine FT (d3 _ _) ?_;simp;lia
  have ex:PS 3 (I5 0 "Weaver" "entered" 2 Lb (A2 (CP (A2 (A3 AH (A0 5) (A4 (.int 1))) (A2 (A3 AH (A0 5) (A4 (.int 2))) (AE)))) (A2 (LZ 0 "Weaver" "woven" (A0 4)) (AE)))) [.BX 0 (CQ (CW cs ws) (.lst (C0 n Bk)) a sh W U),s1,s2,.Bw (F.map B1),.J (B1 s),.J (C5 s.1.1 (.to e))]=.ok (.non,[.BX 0 (CQ (CW cs ws) (.lst (C0 n Bk)) a sh (W++(FO W e s.2 n).map λt=>(t,l++[t.2])) U),s1,s2,.Bw ((F++FO W e s.2 n).map B1),.J (B1 s),.J (C5 s.1.1 (.to e))]):=by simp only[PS,ce];simp[Si,show F.length+(FO W e s.2 n).length<=1000000 by lia]
  rw[TX,cL];simp only[cK,ex];simp[DR,q,Ji]
def adg(ok:JO cs ws Bk n a){d0:AU}{s:AY}{pd F:List AY}(g:Good (CO cs cs.length) (BW sh ws Bk a) n d0 W U (s::pd++F))(s1 s2 s5:Bi) :
  ∃N:List AY,∃l:List Nat,(s,l)∈W/\N=Ji W n s (BW sh ws Bk a s)/\bz [.BX 0 (CQ (CW cs ws) (.lst (C0 n Bk)) a sh W U),s1,s2,.Bw (F.map B1),.J (B1 s),s5]=.ok (.Ay [.BX 0 (CQ (CW cs ws) (.lst (C0 n Bk)) a sh (W++N.map λt=>(t,l++[t.2])) (U++[(s,BW sh ws Bk a s)])),s1,s2,.Bw ((F++N).map B1),.J (B1 s),.J (C5 s.1.1 (BW sh ws Bk a s))]):=by
 have NH:=Mi ok.EA.c cs.length;have D6:=ok.EA.D6;have I8:=ok.I8;have Gd:=g.few (by lia) I8;have Pw:=(g.O7 s (by simp)).1;obtain⟨l,AJ,hf⟩:=iV Pw;have Zy:=g.inr _ AJ;have AK:s.1.1<cs.length:=(L5.mp Zy.1).1;have AN:=g.lst _ AJ;have IS:F.length<=168:=by have:=Ld g.BX λx AI=>(g.O7 x AI).1;simp at this;lia
 have ul:U.length<=168:=by
  have:=Ld g.jy λx AI=>by obtain⟨q,AW,rfl⟩:=List.mem_map.mp AI;exact(g.un q AW).1
  simp at this;lia
 refine⟨_,l,AJ,rfl,?_⟩;have A9:=adj (sh:=sh) (W:=W) (U:=U) ok AK Zy.2 s1 s2 (.Bw (F.map B1)) s5;have AM:=aac (X:=CW cs ws) (Y:=.lst (C0 n Bk)) (a:=a) (sh:=sh) (W:=W) (U:=U) (s:=s) (o:=BW sh ws Bk a s) (r:=[s1,s2,.Bw (F.map B1),.J (B1 s),.J (C5 s.1.1 (BW sh ws Bk a s))]) (mk:=A0 4) (mv:=A0 5) (by simp) (by simp) (g.O7 s (by simp)).2 (by lia);have BD:=adh (cs:=cs) (ws:=ws) (Bk:=Bk) (a:=a) (sh:=sh) (U:=U++[(s,BW sh ws Bk a s)]) I8 Gd hf (by have:=AN.2;simp at this;lia) AN.1 Zy.2 F (by lia) s1 s2 (BW sh ws Bk a s) (P1 _ _ _ _ _);rw[bz,Cy,A9,BA,EE,Cy,AM,BA,EE,BD]
end
def yw{ws:List (AU×AU)}{b:List D1}{h d a:Nat}{e:AU}(he:Ay ws b h d a=.to e):e∈ends ws:=by
 unfold Ay at he
 split at he
 .cases he
 .split at he
  .cases he
  .split at he
   .cases he
   .rename_i A1;cases he;exact qM A1
section
variable{cs:List Nat}{ws:List (AU×AU)}{Bk:Nat->List (List D1)}{n a:Nat}{sh:Option Nat}{d0:AU}
def qV(ok:JO cs ws Bk n a)(s:AY)(e:AU)(h:BW sh ws Bk a s=.to e):e∈CO cs cs.length:=ok.EA.sub _ (yw (b:=(Bk s.2).getD s.1.1 []) (h:=s.1.1) (d:=s.1.2) (a:=a) (by
 unfold BW at h;cases Bp:Ay ws ((Bk s.2).getD s.1.1 []) s.1.1 s.1.2 a with
 |to f=>rw[Bp]at h;have h:(if sh=some f.1 then On.no f else On.to f)=.to e:=h;split at h<;>cases h;rfl
 |_=>rw[Bp]at h;cases h))
noncomputable def MD(cs:List Nat)(ws:List (AU×AU))(Bk:Nat->List (List D1))(n a:Nat)(sh:Option Nat)(W:Ej)(U:To)(s1:Bi)(F5:List AY)(s3 s4 s5:Bi):AG:=[.BX 0 (CQ (CW cs ws) (.lst (C0 n Bk)) a sh W U),s1,.J (.lst (F5.map B1)),s3,s4,s5]
def c0:Ao:=AP (EC (ER (A0 2)) (BC 4) bz) (OZ 3 (B5 2 (A0 3)))
def adi(ok:JO cs ws Bk n a){JP:Ej}{Np:To}{F5:List AY}(g:Good (CO cs cs.length) (BW sh ws Bk a) n d0 JP Np F5)(h0:((d0,0):AY)∈JP.map (·.1))(s1 s4 s5:Bi) :
  Ends (c0 (MD cs ws Bk n a sh JP Np s1 F5 (.Bw []) s4 s5)) (I_ λρ=>∃W U F s3 s4 s5,Good (CO cs cs.length) (BW sh ws Bk a) n d0 W U F/\W.length=JP.length+F.length/\((d0,0):AY)∈W.map (·.1)/\ρ=MD cs ws Bk n a sh W U s1 F s3 s4 s5):=by
 unfold c0;rw[Cy];refine R2 B1 F5 (λj ρ=>∃W U F s4 s5,Good (CO cs cs.length) (BW sh ws Bk a) n d0 W U (F5.drop j++F)/\W.length=JP.length+F.length/\((d0,0):AY)∈W.map (·.1)/\ρ=MD cs ws Bk n a sh W U s1 F5 (.Bw (F.map B1)) s4 s5) (by simp[MD]) ⟨JP,Np,[],s4,s5,by simpa using g,by simp,h0,rfl⟩ ?_ ?_
 .rintro j s _ Bz ⟨W,U,F,s4,s5,g,lw,h0,rfl⟩;obtain⟨AN,rfl⟩:=List.getElem?_eq_some_iff.mp Bz;rw[dI AN]at g;obtain⟨N,l,AJ,qx,HH⟩:=adg ok g s1 (.J (.lst (F5.map B1))) s5;have OF:BC 4 (B1 F5[j]) (MD cs ws Bk n a sh W U s1 F5 (.Bw (F.map B1)) s4 s5)=.ok [.BX 0 (CQ (CW cs ws) (.lst (C0 n Bk)) a sh W U),s1,.J (.lst (F5.map B1)),.Bw (F.map B1),.J (B1 F5[j]),s5]:=rfl;rw[OF,BA,HH];have g':=Good.step (pd:=F5.drop (j+1)++F) (qV ok) g AJ;rw[<-qx,Ru]at g';exact⟨_,rfl,_,rfl,_,_,F++N,_,_,g',by simp[lw,NP],by rw[Jp];exact Fu _ h0,rfl⟩
 .rintro _ ⟨W,U,F,s4,s5,g,lw,h0,rfl⟩;rw[List.drop_length,WZ]at g;exact⟨_,rfl,_,rfl,W,U,F,_,_,_,g,lw,h0,rfl⟩
def b8(l:List AY):(l.map B1).all (okN 7)=true:=by simp[B1,AS,B6,okN]
def Zf:Ao:=Jf (Ah (A3 (Ar false) (A0 2) (BH (C4 (AE))))) (AP (E_ 3 (C4 (AE))) c0)
def adf(ok:JO cs ws Bk n a){JP:Ej}{Np:To}{F5:List AY}(g:Good (CO cs cs.length) (BW sh ws Bk a) n d0 JP Np F5)(h0:((d0,0):AY)∈JP.map (·.1))(s1 s3 s4 s5:Bi) :
  ∃W U,Good (CO cs cs.length) (BW sh ws Bk a) n d0 W U []/\((d0,0):AY)∈W.map (·.1)/\(Zf (MD cs ws Bk n a sh JP Np s1 F5 s3 s4 s5)).bind Pb=.ok (.non,CQ (CW cs ws) (.lst (C0 n Bk)) a sh W U):=by
 have NH:=Mi ok.EA.c cs.length;have D6:=ok.EA.D6;suffices h:Ends ((Zf (MD cs ws Bk n a sh JP Np s1 F5 s3 s4 s5)).bind Pb) (λy=>∃W U,Good (CO cs cs.length) (BW sh ws Bk a) n d0 W U []/\((d0,0):AY)∈W.map (·.1)/\y=(.non,CQ (CW cs ws) (.lst (C0 n Bk)) a sh W U))by
  obtain⟨y,e,W,U,g,h0,rfl⟩:=h;exact⟨W,U,g,h0,e⟩
 refine V2 (λm ρ=>∃W U F5 s3 s4 s5,Good (CO cs cs.length) (BW sh ws Bk a) n d0 W U F5/\((d0,0):AY)∈W.map (·.1)/\m=(169-W.length)+(if F5=[]then 0 else 1)/\ρ=MD cs ws Bk n a sh W U s1 F5 s3 s4 s5) (n:=(169-JP.length)+(if F5=[]then 0 else 1)) ⟨JP,Np,F5,s3,s4,s5,g,h0,rfl,rfl⟩ (by split<;>lia) ?_;rintro m _ ⟨W,U,F5,s3,s4,s5,g,h0,rfl,rfl⟩;refine⟨!(F5.map B1).isEmpty,?_,λAj=>?_,λAj=>?_⟩
 .have:=ne_nil (b8 F5);simp[MD,lim,this]
 .have e:E_ 3 (C4 AE) (MD cs ws Bk n a sh W U s1 F5 s3 s4 s5)=.ok (.Ay (MD cs ws Bk n a sh W U s1 F5 (.Bw []) s4 s5)):=rfl;rw[Cy,e,BA,EE];refine(adi ok g h0 s1 s4 s5).mono ?_;rintro f ⟨ρ,rfl,gA,g8,F,s3,s4,s5,g',lw,h0,rfl⟩;refine⟨_,rfl,_,?_,gA,g8,F,s3,s4,s5,g',h0,rfl,rfl⟩;have Gd:=g'.few (by lia) ok.I8;have hw:F5≠[]:=by rintro rfl;simp at Aj
  rw[if_neg hw];cases F with
  |nil=>simp at lw |-;lia
  |cons x F=>simp at lw |-;lia
 .have:F5=[]:=by simpa using Aj
  subst this;exact⟨_,rfl,W,U,g,h0,rfl⟩
def oH(ok:JO cs ws Bk n a)(Gh:sh≠some d0.1)(hd:d0∈CO cs cs.length):∃W U,Good (CO cs cs.length) (BW sh ws Bk a) n d0 W U []/\((d0,0):AY)∈W.map (·.1)/\Sn (CQ (CW cs ws) (.lst (C0 n Bk)) a sh [] []) [AS d0]=.ok (.non,CQ (CW cs ws) (.lst (C0 n Bk)) a sh W U):=by
 have DT:=ok.DT;have I8:=ok.I8;have BV:SJ=AP (Lz 2 (I5 0 "Weaver" "entered" 2 Lb (A2 (A0 1) (A2 (BH (C4 (AE))) (AE))))) Zf:=rfl;have MP:=Good.start (N:=BW sh ws Bk a) (n:=n) hd;have h0:((d0,0):AY)∈((FO [] d0 0 n).map λt=>(t,([]:List Nat)++[t.2])).map (·.1):=by have:((d0,0):AY)∈FO [] d0 0 n:=O2.mpr ⟨rfl,Ci _,by show 0<n;lia,λz=>nomatch z⟩;rw[H7];exact List.mem_map.mpr ⟨_,this,rfl⟩
 obtain⟨W,U,g,BB,e⟩:=adf ok MP h0 (.J (AS d0)) .un .un .un;refine⟨W,U,g,BB,?_⟩;have ls:(C0 n Bk).length=n:=by simp[C0]
 have ce:=hZ (X:=CW cs ws) (Ys:=C0 n Bk) (a:=a) (sh:=sh) (W:=[]) (U:=[]) (e:=d0) (l:=[]) (ma:=A2 (A0 1) (A2 (BH (C4 (AE))) (AE))) (r:=[.J (AS d0),.un,.un,.un,.un]) (by lia) (W8 rfl) (J1 _) (J1 _) Gh (by simp[lim,Cx]);rw[ls]at ce;show(SJ [.BX 0 (CQ (CW cs ws) (.lst (C0 n Bk)) a sh [] []),.J (AS d0),.un,.un,.un,.un]).bind Pb=_;rw[BV,Cy,o8,ce,<-e];rfl
def jX{W:Ej}{U:To}(e:Sn (CQ (CW cs ws) (.lst (C0 n Bk)) a sh [] []) [AS d0]=.ok (.non,CQ (CW cs ws) (.lst (C0 n Bk)) a sh W U)):Ny [CW cs ws,.lst (C0 n Bk),AS d0,.int (a:Int),Cd sh]=.ok (CQ (CW cs ws) (.lst (C0 n Bk)) a sh W U):=by
 have BU:ON.all (λk=>!(("weave" :Str)==k))=true:=by decide
 have z:I5 0 "Weaver" "weave" 1 Sn (A2 (A0 3) AE) [.BX 0 (CQ (CW cs ws) (.lst (C0 n Bk)) a sh [] []),.J (CW cs ws),.J (.lst (C0 n Bk)),.J (AS d0),.J (.int (a:Int)),.J (Cd sh)]=.ok (.non,[.BX 0 (CQ (CW cs ws) (.lst (C0 n Bk)) a sh W U),.J (CW cs ws),.J (.lst (C0 n Bk)),.J (AS d0),.J (.int (a:Int)),.J (Cd sh)]):=by simp only[I5,HQ,Eg,GF,v_var,ID,IJ,SR,BA,JH];unfold CQ at e |-;simp only[T0];rw[if_pos ⟨trivial,BU,rfl⟩,e];rfl
 have AM:UL [.BX 0 (.ins "Weaver" [] []),.J (CW cs ws),.J (.lst (C0 n Bk)),.J (AS d0),.J (.int (a:Int)),.J (Cd sh)]=PR (I5 0 "Weaver" "weave" 1 Sn (A2 (A0 3) (AE))) [.BX 0 (CQ (CW cs ws) (.lst (C0 n Bk)) a sh [] []),.J (CW cs ws),.J (.lst (C0 n Bk)),.J (AS d0),.J (.int (a:Int)),.J (Cd sh)]:=by
  have IS:∀(f:Str)(ns:List Str)(Av:List T)(t:T)(r:AG),ns.all (λk=>!(f==k))=true->ns.length<1000->TA "Weaver" f t (.BX 0 (.ins "Weaver" ns Av)::r) ((.BX 0 (.ins "Weaver" ns Av)::r:AG)[0]? :Option Bi)=.ok (.Ay (.BX 0 (.ins "Weaver" (ns++[f]) (Av++[t]))::r)):=λf ns Av t r A6 AA=>by rw[HQ];simp only[TA];rw[if_pos ⟨trivial,A6,AA⟩];rfl
  have EB:∀(f:Str)(ns:List Str)(Av:List T)(m:Ab)(d:D)(r:AG)(b:Ao),m (.BX 0 (.ins "Weaver" ns Av)::r)=.ok d->ns.all (λk=>!(f==k))=true->ns.length<1000->AP (PT "Weaver" f m) b (.BX 0 (.ins "Weaver" ns Av)::r)=b (.BX 0 (.ins "Weaver" (ns++[f]) (Av++[.J d]))::r):=λf ns Av m d r b h A6 AA=>by rw[Cy,PT,h,BA,IS _ _ _ _ _ A6 AA,BA,EE]
  have D3:∀(f:Str)(ns:List Str)(Av:List T)(r:AG)(b:Ao),ns.all (λk=>!(f==k))=true->ns.length<1000->AP (Sj "Weaver" f) b (.BX 0 (.ins "Weaver" ns Av)::r)=b (.BX 0 (.ins "Weaver" (ns++[f]) (Av++[.Ai [] []]))::r):=λf ns Av r b A6 AA=>by rw[Cy,Sj,IS _ _ _ _ _ A6 AA,BA,EE]
  unfold UL;rw[EB _ _ _ _ _ _ _ rfl (by decide) (by decide),EB _ _ _ _ _ _ _ rfl (by decide) (by decide),EB _ _ _ _ _ _ _ rfl (by decide) (by decide),EB _ _ _ _ _ _ _ rfl (by decide) (by decide),D3 _ _ _ _ _ (by decide) (by decide),D3 _ _ _ _ _ (by decide) (by decide)];rfl
 show((UL [.BX 0 (.ins "Weaver" [] []),.J (CW cs ws),.J (.lst (C0 n Bk)),.J (AS d0),.J (.int (a:Int)),.J (Cd sh)]).bind Pb).bind jb=_;rw[AM,cK,z];rfl
def oF(ok:JO cs ws Bk n a)(Gh:sh≠some d0.1)(hd:d0∈CO cs cs.length):∃W U,Good (CO cs cs.length) (BW sh ws Bk a) n d0 W U []/\((d0,0):AY)∈W.map (·.1)/\Ny [CW cs ws,.lst (C0 n Bk),AS d0,.int (a:Int),Cd sh]=.ok (CQ (CW cs ws) (.lst (C0 n Bk)) a sh W U):=by obtain⟨W,U,g,h0,e⟩:=oH ok Gh hd;exact⟨W,U,g,h0,jX e⟩
def acT(Gh:sh=some d0.1):Ny [CW cs ws,.lst (C0 n Bk),AS d0,.int (a:Int),Cd sh]=.ok (CQ (CW cs ws) (.lst (C0 n Bk)) a sh [] []):=by refine jX ?_;have BV:SJ=AP (Lz 2 (I5 0 "Weaver" "entered" 2 Lb (A2 (A0 1) (A2 (BH (C4 (AE))) (AE))))) Zf:=rfl;have ce:=h_ (X:=CW cs ws) (Ys:=C0 n Bk) (a:=a) (sh:=sh) (W:=[]) (U:=[]) (e:=d0) (l:=[]) (ma:=A2 (A0 1) (A2 (BH (C4 (AE))) (AE))) (r:=[.J (AS d0),.un,.un,.un,.un]) Gh (by simp[lim,Cx]);show(SJ [.BX 0 (CQ (CW cs ws) (.lst (C0 n Bk)) a sh [] []),.J (AS d0),.un,.un,.un,.un]).bind Pb=_;rw[BV,Cy,o8,ce];rfl
end
def Jj(N:AY->On)(s:AY):Option AY:=match N s with
 |.to e=>some (e,s.2)
 |_=>none
def M7(o:Option AY):D:=(o.map B1).getD .non
def D7(N:AY->On)(s:AY):Nat->Option AY
 |0=>some s
 |k+1=>(D7 N s k).bind (Jj N)
def cp(a b:AY):Cq (B1 a) (B1 b)=decide (a=b):=by
 show(Cq (AS a.1) (AS b.1)&&(((a.2:Int)==(b.2:Int))&&true))=_;rw[Ww,QR,GV,FV,beq_iff_eq,decide_eq_true_iff,decide_eq_true_iff];constructor
 .intro⟨A6,AA⟩;exact Op A6 (by lia)
 .rintro rfl;exact⟨rfl,rfl⟩
def q4(ds:List AY)(d:AY):((ds.map B1).any λy=>Cq y (B1 d))=decide (d∈ds):=by
 rw[Og,GV,NK,decide_eq_true_iff];constructor
 .rintro⟨x,AI,h⟩;have:=(cp x d).symm.trans h;rw[decide_eq_true_iff]at this;rw[<-this];exact AI
 .intro h;exact⟨d,h,by show Cq (B1 d) (B1 d)=true;rw[cp];simp⟩
def vX(ds:List AY)(d:AY):inD false (B1 d) (.lst (ds.map B1))=.ok (.AO (!decide (d∈ds))):=by have s:Pz (.lst (ds.map B1))=some (ds.map B1):=rfl;have o:okN 7 (B1 d)=true:=rfl;simp only[inD,s,b8,o,and_self,if_true,q4];rfl
def gt(o:Option AY)(s:AY):Ar true (M7 o) (B1 s)=.ok (.AO (decide (o=some s))):=by
 have DG:okN 8 (B1 s)=true:=rfl;cases o with
 |none=>rfl
 |some t=>have D8:okN 8 (B1 t)=true:=rfl;show Ar true (B1 t) (B1 s)=_;unfold Ar;rw[if_pos ⟨D8,DG⟩,if_pos rfl,cp];by_cases h:t=s<;>simp[h]
section
variable{N:AY->On}
theorem jd{s:AY}{i j:Nat}(h:D7 N s (j+1)=D7 N s i)(AD:i<=j):∀k,i<=k->∃q,i<=q/\q<=j/\D7 N s k=D7 N s q
 |0,AF=>⟨0,AF,J1 _,rfl⟩
 |k+1,AF=>by
  by_cases e:i=k+1
  .exact⟨i,Ci _,AD,by rw[e]⟩
  .obtain⟨q,An,BF,EO⟩:=jd h AD k (by lia);have A9:D7 N s (k+1)=D7 N s (q+1):=by simp only[D7,EO]
   by_cases z:q=j
   .subst z;exact⟨i,Ci _,AD,A9.trans h⟩
   .exact⟨q+1,by lia,by lia,A9⟩
structure SG(N:AY->On)(s:AY)(gl:List AY):Prop where
 Ct:gl.Nodup
 pos:0<gl.length
 it:∀i,i<gl.length->gl[i]?=D7 N s i
def SG.snoc{s t:AY}{gl:List AY}(h:SG N s gl)(Aj:D7 N s gl.length=some t)(AV:t∉gl):SG N s (gl++[t]):=by
 refine⟨List.nodup_append.mpr ⟨h.Ct,by simp,λx AI y BO z=>by rw[List.mem_singleton.mp BO]at z;exact AV (z▸AI)⟩,by simp,λi AD=>?_⟩;rw[J2,Td]at AD;by_cases q:i<gl.length
 .rw[Jm q];exact h.it i q
 .obtain rfl:i=gl.length:=by lia
  rw[Aj];simp
def SG.round{s:AY}{gl:List AY}(h:SG N s gl)(he:∀t,D7 N s gl.length=some t->t∈gl){m:Nat}(hm:1<=m)(B3:D7 N s m=some s):D7 N s gl.length=some s:=by
 have p:=h.pos;have dist:∀i j,i<j->j<gl.length->D7 N s i≠D7 N s j:=λi j Zx Bz z=>by rw[<-h.it i (by lia),<-h.it j Bz,Df (by lia),Df Bz]at z;exact List.pairwise_iff_getElem.mp h.Ct i j (by lia) Bz Zx (Eh z)
 have nn:∀k,k<=m->D7 N s k=none->D7 N s m=none:=by
  intro k AF e;obtain⟨q,rfl⟩:=Nat.le.dest AF;clear B3 hm AF;induction q with
  |zero=>exact e
  |succ q CA=>rw[<-NP];simp only[D7,CA,Option.bind_none]
 have PX:gl.length<=m:=by refine Nat.le_of_not_lt λz=>dist 0 m (by lia) z ?_;rw[B3];rfl
 cases e:D7 N s gl.length with
 |none=>rw[nn _ PX e]at B3;cases B3
 |some t=>
  obtain⟨i,AD,F0⟩:=QC (he t e);have AM:D7 N s i=some t:=by rw[<-h.it i AD,Df AD,F0]
  by_cases z:i=0
  .subst z;rw[<-AM];rfl
  .obtain⟨j,Bz⟩:∃j,gl.length=j+1:=⟨gl.length-1,by lia⟩;rw[Bz]at e AD PX;obtain⟨q,An,BF,EO⟩:=jd (e.trans AM.symm) (by lia) m (by lia);exact absurd ((show D7 N s 0=D7 N s m by rw[B3];rfl).trans EO) (dist 0 q (by lia) (by lia))
end
section
variable{A:List AU}{N:AY->On}{n:Nat}{d0:AU}{W:Ej}{U:To}{X Y:D}{a:Nat}{sh:Option Nat}
def om(g:Good A N n d0 W U []){s:AY}(AJ:s∈W.map (·.1)):HX (.Ai ((U.map (·.1)).map Dm) (U.map λp=>C5 p.1.1.1 p.2)) (B1 s)=.ok (C5 s.1.1 (N s)):=by
 obtain⟨p,AZ,rfl⟩:=List.mem_map.mp AJ;rcases g.cl p AZ with h|⟨h,_⟩
 .cases h
 .obtain⟨x,AI,hf⟩:=iV h;have e:=(g.un _ AI).2;dsimp only at e;subst e;simp only[HX,NG,tz,hf,Wa]
def ZR(g:Good A N n d0 W U []){s t:AY}(AJ:s∈W.map (·.1))(h:Jj N s=some t):t∈W.map (·.1):=by
 obtain⟨p,AZ,rfl⟩:=List.mem_map.mp AJ;rcases g.cl p AZ with q|⟨_,q⟩
 .cases q
 .unfold Jj at h
  split at h
  .rename_i e he;cases h;exact q e he
  .cases h
def fw(g:Good A N n d0 W U [])(hN:∀s,No sh (N s)){s:AY}(AJ:s∈W.map (·.1)):M0 [De X Y a sh W U,B1 s]=.ok (.v (M7 (Jj N s))):=by
 have t:=om g AJ;have BZ:AH (B1 s) (.int 1)=.ok (B6 s.2):=rfl;unfold Jj;cases e:N s with
 |drop=>rw[e]at t;have DR:AH (C5 s.1.1 .drop) (.int 0)=.ok (st "drop"):=rfl;have q:Ar false (st "drop") (.str (Aw "at"))=.ok (.AO true):=rfl;simp[-H7,M0,SD,V6,t,e,DR,q,M7]
 |out x=>rw[e]at t;have DR:AH (C5 s.1.1 (.out x)) (.int 0)=.ok (st "out"):=rfl;have q:Ar false (st "out") (.str (Aw "at"))=.ok (.AO true):=rfl;simp[-H7,M0,SD,V6,t,e,DR,q,M7]
 |to d=>
  rw[e]at t;have DR:AH (C5 s.1.1 (.to d)) (.int 0)=.ok (st "at"):=rfl;have JZ:AH (C5 s.1.1 (.to d)) (.int 1)=.ok (.int (d.1:Int)):=rfl;have Uq:AH (C5 s.1.1 (.to d)) (.int 2)=.ok (.int (d.2:Int)):=rfl;have q:Ar false (st "at") (.str (Aw "at"))=.ok (.AO false):=rfl;have BF:Ar true (.int (d.1:Int)) (Cd sh)=.ok (.AO false):=by have z:=hN s;rw[e]at z;rw[T8,decide_eq_false (show¬sh=some d.1 from z)]
  simp[-H7,M0,SD,V6,V5,t,e,DR,BZ,JZ,Uq,q,BF,M7];rfl
 |no d=>
  rw[e]at t;have DR:AH (C5 s.1.1 (.no d)) (.int 0)=.ok (st "at"):=rfl;have JZ:AH (C5 s.1.1 (.no d)) (.int 1)=.ok (.int (d.1:Int)):=rfl;have q:Ar false (st "at") (.str (Aw "at"))=.ok (.AO false):=rfl;have BF:Ar true (.int (d.1:Int)) (Cd sh)=.ok (.AO true):=by have z:=hN s;rw[e]at z;rw[T8,decide_eq_true (show sh=some d.1 from z)]
  simp[-H7,M0,SD,V6,V5,t,e,DR,JZ,q,BF,M7]
def nk:Py "Weaver" "behind" (De X Y a sh W U)=.ok (De X Y a sh W U):=rfl
def av:CN:=GC (Eu (Ah (A3 (Fa false) (A0 3) (A4 .non))) (Ah (A3 (inD false) (A0 3) (A0 2))))
def lI:Ao:=AP (II 2 (A0 3)) (B5 3 (I7 "Weaver" "behind" 1 M0 (A0 0) (A2 (A0 3) (AE))))
def Yz:Ao:=OZ 2 (CC (Ki (Ah (A3 (Ar true) (A0 3) (A0 1))) (A0 2) (BH (C4 (AE)))))
theorem YH(g:Good A N n d0 W U []){s:AY}(AJ:s∈W.map (·.1)):∀(k:Nat)(t:AY),D7 N s k=some t->t∈W.map (·.1)
 |0,t,h=>by cases h;exact AJ
 |k+1,t,h=>by simp only[D7]at h;obtain⟨u,BR,h⟩:=Option.bind_eq_some_iff.mp h;exact ZR g (YH g AJ k u BR) h
def aaK(g:Good A N n d0 W U [])(hN:∀s,No sh (N s))(Gd:W.length<=168){s:AY}(AJ:s∈W.map (·.1)):∃R:List AY,R.length<=168/\(R≠[]↔∃m,1<=m/\D7 N s m=some s)/\Sm [De X Y a sh W U,B1 s]=.ok (.v (.lst (R.map B1))):=by
 suffices h:Ends (Sm [De X Y a sh W U,B1 s]) (λy=>∃R:List AY,R.length<=168/\(R≠[]↔∃m,1<=m/\D7 N s m=some s)/\y=.v (.lst (R.map B1)))by
  obtain⟨y,e,R,A6,AA,rfl⟩:=h;exact⟨R,A6,AA,e⟩
 have BV:Xj=AP (E_ 2 (C4 (A2 (A0 1) (AE)))) (AP (B5 3 (I7 "Weaver" "behind" 1 M0 (A0 0) (A2 (A0 1) (AE)))) (AP (Jf av lI) Yz)):=rfl;have A9:B5 3 (I7 "Weaver" "behind" 1 M0 (A0 0) (A2 (A0 1) (AE))) [.J (De X Y a sh W U),.J (B1 s),.Bw [B1 s],.un]=.ok (.Ay [.J (De X Y a sh W U),.J (B1 s),.Bw [B1 s],.J (M7 (Jj N s))]):=by simp[nk,fw g hN AJ]
 have DN:E_ 2 (C4 (A2 (A0 1) (AE))) [.J (De X Y a sh W U),.J (B1 s),.un,.un]=.ok (.Ay [.J (De X Y a sh W U),.J (B1 s),.Bw [B1 s],.un]):=rfl;have BZ:D7 N s 1=Jj N s:=rfl;show Ends ((Xj [.J (De X Y a sh W U),.J (B1 s),.un,.un]).bind _) _;rw[BV,Cy,DN,BA,EE,Cy,A9,BA,EE,Cy,LB];refine V2 (λm ρ=>∃gl,SG N s gl/\m=169-gl.length/\ρ=[.J (De X Y a sh W U),.J (B1 s),.Bw (gl.map B1),.J (M7 (D7 N s gl.length))]) (n:=168) ⟨[s],⟨by simp,by simp,λi AD=>by rw[Nat.lt_one_iff.mp AD];rfl⟩,rfl,by rw[Td,BZ];rfl⟩ (by decide) ?_;rintro m _ ⟨gl,EP,rfl,rfl⟩;have tM:∀x∈gl,x∈W.map (·.1):=λx AI=>by obtain⟨i,AD,F0⟩:=QC AI;exact YH g AJ i x (by rw[<-EP.it i AD,Df AD,F0])
 have tN:gl.length<=168:=by have:=Ld EP.Ct tM;simp at this;lia
 cases e:D7 N s gl.length with
 |none=>
  refine⟨false,?_,(λz=>nomatch z),λ_=>?_⟩
  .simp[av,M7,Fa];intro z;cases z
  .have b1:∀m,1<=m->¬D7 N s m=some s:=λm hm B3=>by
     have:=EP.round (λt Aj=>by rw[e]at Aj;cases Aj) hm B3;rw[e]at this;cases this
   refine⟨.v (.lst []),?_,[],by simp,⟨λz=>absurd rfl z,λ⟨m,hm,B3⟩=>absurd B3 (b1 m hm)⟩,rfl⟩;have:=gt none s;simp[Yz,this,lim]
 |some t=>
  refine⟨!decide (t∈gl),?_,λAj=>?_,λAj=>?_⟩
  .have:=vX gl t;simp[av,M7,Fa,this];intro z;cases z
  .have Aj:t∉gl:=by simpa using Aj
   have g2:=EP.snoc e Aj;have acH:=YH g AJ _ t e;have b:=fw (X:=X) (Y:=Y) (a:=a) (sh:=sh) g hN acH;have aI:D7 N s (gl.length+1)=Jj N t:=by simp only[D7,e,Oj]
   refine⟨_,?_,_,rfl,169-(gl++[t]).length,by simp;lia,gl++[t],g2,rfl,rfl⟩;rw[J2,Td,aI];simp[lI,M7,nk,show gl.length<1000000 by lia]at b |-;simp[b]
  .have Aj:t∈gl:=by simpa using Aj
   have q:=gt (some t) s;by_cases Av:t=s
   .subst Av;refine⟨.v (.lst (gl.map B1)),?_,gl,tN,⟨λ_=>⟨gl.length,EP.pos,e⟩,λ_ z=>by have:=EP.pos;rw[z]at this;exact absurd this (by decide)⟩,rfl⟩;simp[Yz,q]
   .have b1:∀m,1<=m->¬D7 N s m=some s:=λm hm B3=>by
      have:=EP.round (λt' iK=>by rw[e]at iK;cases iK;exact Aj) hm B3;rw[e]at this;exact Av (Eh this)
    refine⟨.v (.lst []),?_,[],by simp,⟨λz=>absurd rfl z,λ⟨m,hm,B3⟩=>absurd B3 (b1 m hm)⟩,rfl⟩;simp[Yz,q,lim,Av]
end
end IW
namespace LT
open PySem PyProof.Rows
inductive KM(h:BP)(v:A8):Int×Int×Int->Prop
 |at_ (a:A7) (o:Obj) (m:Nat) (t u:Tok) (x:Int):v=.ref a->h.get? a=some o->o.cls=.type "tuple"->o.data=.seq #[.str (Fw "at") t,.int x u] m->KM h v (0,x,0)
 |rK (a:A7) (o:Obj) (m:Nat) (t u:Tok) (x:Int):v=.ref a->h.get? a=some o->o.cls=.type "tuple"->o.data=.seq #[.str (Fw "drop") t,.int x u] m->KM h v (1,x,0)
 |zY (a:A7) (o:Obj) (m:Nat) (t u GK:Tok) (x y:Int):v=.ref a->h.get? a=some o->o.cls=.type "tuple"->o.data=.seq #[.str (Fw "out") t,.int x u,.int y GK] m->KM h v (2,x,y)
 |Mw (a:A7) (o:Obj) (m:Nat) (t:Tok):v=.ref a->h.get? a=some o->o.cls=.type "tuple"->o.data=.seq #[.str (Fw "ring") t] m->KM h v (3,0,0)
theorem KM.data{h:BP}{v:A8}{k:Int×Int×Int}(x:KM h v k):∃a o m its,v=.ref a/\h.get? a=some o/\o.data=.seq its m/\
  ((∃t u,k=(0,k.2.1,0)/\its= #[.str (Fw "at") t,.int k.2.1 u])\/(∃t u,k=(1,k.2.1,0)/\its= #[.str (Fw "drop") t,.int k.2.1 u])\/(∃t u GK,k=(2,k.2.1,k.2.2)/\its= #[.str (Fw "out") t,.int k.2.1 u,.int k.2.2 GK])\/∃t,k=(3,0,0)/\its= #[.str (Fw "ring") t]):=by
 cases x with
 |at_ a o n t u x A9 AM BD Cp=>exact⟨a,o,n,_,A9,AM,Cp,.inl ⟨t,u,rfl,rfl⟩⟩
 |rK a o n t u x A9 AM BD Cp=>exact⟨a,o,n,_,A9,AM,Cp,.inr (.inl ⟨t,u,rfl,rfl⟩)⟩
 |zY a o n t u GK x y A9 AM BD Cp=>exact⟨a,o,n,_,A9,AM,Cp,.inr (.inr (.inl ⟨t,u,GK,rfl,rfl⟩))⟩
 |Mw a o n t A9 AM BD Cp=>exact⟨a,o,n,_,A9,AM,Cp,.inr (.inr (.inr ⟨t,rfl,rfl⟩))⟩
def KM.inj{h:BP}{v:A8}{k k':Int×Int×Int}(x:KM h v k)(y:KM h v k'):k=k':=by obtain⟨a,o,m,its,rfl,ho,hd,x⟩:=x.data;obtain⟨Ph,o',Et,its',e,F9,Il,y⟩:=y.data;cases e;rw[ho]at F9;cases F9;rw[hd]at Il;injection Il with Il _;subst Il;rcases x with⟨t,u,e,f⟩|⟨t,u,e,f⟩|⟨t,u,GK,e,f⟩|⟨t,e,f⟩<;>rcases y with⟨Do,MC,AM,f2⟩|⟨Do,MC,AM,f2⟩|⟨Do,MC,afx,AM,f2⟩|⟨Do,AM,f2⟩<;>(rw[f]at f2;simp at f2)<;>first|(exact absurd f2.1.1 (by decide))|(exact absurd f2.1 (by decide))|(rw[e,AM];try simp[f2])
section
variable{prog:C2}{w:Bh}{A:CR}{E:A8->AQ->Prop}{s:AQ}{A5:Array L0}
end
end LT
namespace C1
open PySem PySem.Spec PyProof.Rows
noncomputable def Fi(k:Int×Int×Int):Bj:=if k.1=0 then[.inl (.inr (Fw "at")),.inl (.inl k.2.1)]else if k.1=1 then[.inl (.inr (Fw "drop")),.inl (.inl k.2.1)]else if k.1=2 then[.inl (.inr (Fw "out")),.inl (.inl k.2.1),.inl (.inl k.2.2)]else[.inl (.inr (Fw "ring"))]
def U2(k:Int×Int×Int):Prop:=k=(0,k.2.1,0)\/k=(1,k.2.1,0)\/k=(2,k.2.1,k.2.2)\/k=(3,0,0)
section
variable{X:Ac}
end
end C1
namespace CT
open PySem PySem.Spec C1 PyProof.Rows
noncomputable def xV:Bj->Option (Int×Int×Int)
 |[.inl (.inr x),.inl (.inl h)]=>if x=Fw "at" then some (0,h,0)else if x=Fw "drop" then some (1,h,0)else none
 |[.inl (.inr x),.inl (.inl h),.inl (.inl d)]=>if x=Fw "out" then some (2,h,d)else none
 |[.inl (.inr x)]=>if x=Fw "ring" then some (3,0,0)else none
 |_=>none
section
variable{X:Ac}{F:B9}{e:AT}{pos p:Pos}{ma:Au}
end
end CT
namespace IW
open PySem PySem.Spec C1 CT
abbrev C7:=Int×Int×Int
noncomputable def F7:List C7:=(Ds 6).map (λh:Nat=>(0,(h:Int),0))++((Ds 6).map (λh:Nat=>(1,(h:Int),0))++((Ds 6).flatMap (λh:Nat=>(Ds 4).map λo:Nat=>(2,(h:Int),(o:Int)))++[(3,0,0)]))
def fA:F7.length=37:=by decide
def XA{h:Nat}(BE:h<6):((0,(h:Int),0):C7)∈F7:=Fu _ (List.mem_map.mpr ⟨h,List.mem_range.mpr BE,rfl⟩)
def XB{h:Nat}(BE:h<6):((1,(h:Int),0):C7)∈F7:=Ft _ (Fu _ (List.mem_map.mpr ⟨h,List.mem_range.mpr BE,rfl⟩))
def XC{h o:Nat}(BE:h<6)(ho:o<4):((2,(h:Int),(o:Int)):C7)∈F7:=Ft _ (Ft _ (Fu _ (List.mem_flatMap.mpr ⟨h,List.mem_range.mpr BE,List.mem_map.mpr ⟨o,List.mem_range.mpr ho,rfl⟩⟩)))
def XD:((3,0,0):C7)∈F7:=Ft _ (Ft _ (Ft _ (by simp)))
def XE{k:C7}(h:k∈F7):U2 k:=by
 rcases List.mem_append.mp h with h|h
 .obtain⟨x,_,rfl⟩:=List.mem_map.mp h;exact .inl rfl
 .rcases List.mem_append.mp h with h|h
  .obtain⟨x,_,rfl⟩:=List.mem_map.mp h;exact .inr (.inl rfl)
  .rcases List.mem_append.mp h with h|h
   .obtain⟨x,_,h⟩:=List.mem_flatMap.mp h;obtain⟨y,_,rfl⟩:=List.mem_map.mp h;exact .inr (.inr (.inl rfl))
   .rw[List.mem_singleton.mp h];exact .inr (.inr (.inr rfl))
def kZ{k:C7}(h:U2 k):xV (Fi k)=some k:=by rcases h with g|g|g|g<;>rw[g]<;>rfl
def kj{a b:C7}(AB:U2 a)(A1:U2 b)(h:Fi a=Fi b):a=b:=by have:=kZ AB;rw[h,kZ A1]at this;exact(Eh this).symm
abbrev Hx:=List (C7×List D)
structure JC(P:Hx):Prop where
 Ct:(P.map (·.1)).Nodup
 cd:∀k∈P.map (·.1),k∈F7
def JC.few{P:Hx}(h:JC P):P.length<=37:=by have:=Ld h.Ct h.cd;rw[fA]at this;simpa using this
def QX(P:Hx):D:=.Ai ((P.map (·.1)).map Fi) (P.map λp=>.lst p.2)
def F8(P:Hx):Bi:=.ob (.Ai ((P.map (·.1)).map Fi) (P.map λp=>.lst p.2))
def Iv(P:Hx)(k:C7)(v:List D):Hx:=if k∈P.map (·.1)then P else P++[(k,v)]
def e7{l:List C7}{k:C7}(AN:∀x∈l,x∈F7)(AF:k∈F7):(l.map Fi).any (λy=>decide (y=Fi k))=decide (k∈l):=by
 rw[GV,NK,decide_eq_true_iff];constructor
 .rintro⟨y,BO,e⟩;obtain⟨x,AI,rfl⟩:=List.mem_map.mp BO;rw[<-kj (XE (AN x AI)) (XE AF) (of_decide_eq_true e)];exact AI
 .intro h;exact⟨Fi k,List.mem_map.mpr ⟨k,h,rfl⟩,by simp⟩
def c_{P:Hx}{k:C7}{v:List D}(h:JC P)(AF:k∈F7):JC (Iv P k v):=by
 unfold Iv
 split
 .exact h
 .rename_i AV;refine⟨?_,λx AI=>?_⟩
  .rw[Jp];exact List.nodup_append.mpr ⟨h.Ct,by simp,λx AI y BO z=>by rw[List.mem_singleton.mp BO]at z;exact AV ((show x=k from z)▸AI)⟩
  .rw[Jp]at AI;rcases List.mem_append.mp AI with AI|AI
   .exact h.cd x AI
   .rw[List.mem_singleton.mp AI];exact AF
def VQ{P:Hx}{k x:C7}{v:List D}(h:x∈P.map (·.1)):x∈(Iv P k v).map (·.1):=by
 unfold Iv
 split
 .exact h
 .rw[Jp];exact Fu _ h
def cZ{P:Hx}{k x:C7}{v:List D}(h:x∈(Iv P k v).map (·.1)):x∈P.map (·.1)\/x=k:=by
 unfold Iv at h
 split at h
 .exact .inl h
 .rw[Jp]at h;rcases List.mem_append.mp h with h|h
  .exact .inl h
  .exact .inr (List.mem_singleton.mp h)
def cY(P:Hx)(k:C7)(v:List D):k∈(Iv P k v).map (·.1):=by
 unfold Iv
 split
 .assumption
 .rw[Jp];exact Ft _ (by simp)
def Z3{P:Hx}{k:C7}{v:List D}{mk:Nk}{mv:Ab}{s0:Bi}{r:AG}(h:JC P)(AF:k∈F7)(Dc:mk (s0::F8 P::r)=.ok (Fi k))(ev:mv (s0::F8 P::r)=.ok (.lst v)) :
  Mo 1 mk mv (s0::F8 P::r)=.ok (.Ay (s0::F8 (Iv P k v)::r)):=by
 have DN:fJ 1 (s0::F8 P::r)=.ok ((P.map (·.1)).map Fi,P.map λp=>.lst p.2):=rfl;have Gd:=h.few;unfold Mo;rw[DN,BA,Dc,SR,BA,ev,SR,BA];dsimp only;rw[e7 h.cd AF];unfold Iv;by_cases hm:k∈P.map (·.1)
 .rw[if_pos hm,if_pos (by simpa using hm),if_pos (by simp;lia)]
 .rw[if_neg hm,if_neg (by simpa using hm),putD,if_pos ⟨by rw[e7 h.cd AF];simpa using hm,by simp;lia⟩];simp[F8]
def K9(h:Nat):On->C7
 |.drop=>(1,(h:Int),0)
 |.out o=>(2,(h:Int),(o:Int))
 |.to e=>(0,(e.1:Int),0)
 |.no e=>(0,(e.1:Int),0)
def HK:On->Bool
 |.to _=>true
 |.no _=>true
 |_=>false
def UE(N:AY->On)(s:AY)(k:C7):Prop:=k=(0,(s.1.1:Int),0)\/(HK (N s)=false/\k=K9 s.1.1 (N s))\/(k=(3,0,0)/\∃m,1<=m/\D7 N s m=some s)
def k_:Ao:=Mo 1 (L_ (CP (A2 (A4 (.str (Aw "at"))) (A2 (A3 AH (A3 AH (A0 2) (A4 (.int 0))) (A4 (.int 0))) (AE))))) (A0 3)
noncomputable def bf:Ao:=C8 (Ah (A3 (Ar false) (A3 AH (A3 HX (Cj (Dj "Weaver" "told") (A0 0)) (A0 2)) (A4 (.int 0))) (A4 (.str (Aw "at"))))) (Mo 1 (L_ (A3 HX (Cj (Dj "Weaver" "told") (A0 0)) (A0 2))) (A0 3)) (CK)
noncomputable def bg:Ao:=C8 (Ah (A3 (Ar false) (A0 4) (BH (C4 (AE))))) (Mo 1 (b_ (Aw "ring")) (BH (Kg (Fh JJ (A0 3) (Jd) (FN (Cj Jg (A4 (.int 1))))) (A3 PA (BH (C4 (A2 (A3 AH (A0 2) (A4 (.int 1))) (AE)))) (Bm CS (A2 (A0 4) (AE))))))) (CK)
def bh:Ao:=AP k_ (AP bf (AP (B5 4 (I7 "Weaver" "round_from" 1 Sm (A0 0) (A2 (A0 2) (AE)))) bg))
def x4{P:Hx}(h:JC P){s:AY}(BE:s.1.1<6)(l:List Nat)(w:D)(s4:Bi):k_ [.J w,F8 P,.J (B1 s),.J (Cx l),s4]=.ok (.Ay [.J w,F8 (Iv P (0,(s.1.1:Int),0) (l.map B6)),.J (B1 s),.J (Cx l),s4]):=by refine Z3 h (XA BE) ?_ rfl;have DR:AH (B1 s) (.int 0)=.ok (AS s.1):=rfl;have Zo:AH (AS s.1) (.int 0)=.ok (.int (s.1.1:Int)):=rfl;have k:b6 (I4 (.tup [.str (Aw "at"),.int (s.1.1:Int)]))=.ok (Fi (0,(s.1.1:Int),0)):=rfl;unfold L_;simp[DR,Zo,k]
def hp{α:Type}(xs:List α)(l h:Option Int):(Fz xs l h).length<=xs.length:=by unfold Fz;rw[Tk,dW];lia
def x6{P:Hx}(h:JC P){s:AY}{l:List Nat}(AN:l.length<=168){R:List AY}(PF:R.length<=168)(w:D):∃v,bg [.J w,F8 P,.J (B1 s),.J (Cx l),.J (.lst (R.map B1))]=.ok (.Ay [.J w,F8 (if R=[]then P else Iv P (3,0,0) v),.J (B1 s),.J (Cx l),.J (.lst (R.map B1))]):=by
 have ne:=ne_nil (b8 R);have c:Ah (A3 (Ar false) (A0 4) (BH (C4 (AE)))) [.J w,F8 P,.J (B1 s),.J (Cx l),.J (.lst (R.map B1))]=.ok (!(R.map B1).isEmpty):=Fc (D5 rfl rfl ne);unfold bg;rw[GS c];cases R with
 |nil=>exact⟨[],rfl⟩
 |cons x R=>
  have BZ:AH (B1 s) (.int 1)=.ok (B6 s.2):=rfl;have aaM:PA (.lst [B6 s.2]) (.int ((x::R).length:Int))=.ok (.lst (G4 (x::R).length [B6 s.2]).flatten):=by have agY:(x::R).length<=168:=PF;simp only[PA];rw[if_pos ⟨by lia,by lia,by simp⟩,MT]
  have cl:=hp (l.map B6) none (some (-1));rw[GU]at cl;refine⟨Fz (l.map B6) none (some (-1))++(G4 (x::R).length [B6 s.2]).flatten,?_⟩;have Ef:(!(List.map B1 (x::R)).isEmpty)=true:=rfl;rw[if_pos Ef,if_neg (by simp)];refine Z3 h XD rfl ?_;have kh:Jg (.int 1)=.ok (.int (-1)):=rfl;have le:Bm CS (A2 (A0 4) (AE)) [.J w,F8 P,.J (B1 s),.J (Cx l),.J (.lst ((x::R).map B1))]=.ok (.int ((x::R).length:Int)):=by have:=RY (a:=A0 4) (ρ:=[.J w,F8 P,.J (B1 s),.J (Cx l),.J (.lst ((x::R).map B1))]) (xs:=(x::R).map B1) rfl;rw[GU]at this;exact this
  have a1:Fh JJ (A0 3) (Jd) (FN (Cj Jg (A4 (.int 1)))) [.J w,F8 P,.J (B1 s),.J (Cx l),.J (.lst ((x::R).map B1))]=.ok (.lst (Fz (l.map B6) none (some (-1)))):=rfl;have a2:A3 PA (BH (C4 (A2 (A3 AH (A0 2) (A4 (.int 1))) (AE)))) (Bm CS (A2 (A0 4) (AE))) [.J w,F8 P,.J (B1 s),.J (Cx l),.J (.lst ((x::R).map B1))]=.ok (.lst (G4 (x::R).length [B6 s.2]).flatten):=D5 (by simp[BZ,lim]) le aaM;rw[JL,o5,a1,BA,a2,BA,hW]
  .rfl
  .simp at PF |-;lia
section
variable{A:List AU}{N:AY->On}{n:Nat}{d0:AU}{W:Ej}{U:To}{X Y:D}{a:Nat}{sh:Option Nat}
def x5(g:Good A N n d0 W U []){P:Hx}(h:JC P){s:AY}(AJ:s∈W.map (·.1))(BE:s.1.1<6)(ho:∀o,N s=.out o->o<4)(l:List Nat)(s4:Bi):bf [.J (De X Y a sh W U),F8 P,.J (B1 s),.J (Cx l),s4]=.ok (.Ay [.J (De X Y a sh W U),F8 (if HK (N s)=true then P else Iv P (K9 s.1.1 (N s)) (l.map B6)),.J (B1 s),.J (Cx l),s4]):=by
 have t:=om g AJ;have Do:∀r:AG,r[0]?=some (.J (De X Y a sh W U))->r[2]?=some (.J (B1 s))->A3 HX (Cj (Dj "Weaver" "told") (A0 0)) (A0 2) r=.ok (C5 s.1.1 (N s)):=λr h0 AA=>by simp only[RL,cP,v_var,h0,AA,IJ,BA,V6,t]
 unfold bf;cases e:N s with
 |drop=>rw[e]at Do;have DR:AH (C5 s.1.1 .drop) (.int 0)=.ok (st "drop"):=rfl;have q:Ar false (st "drop") (.str (Aw "at"))=.ok (.AO true):=rfl;have c:Ah (A3 (Ar false) (A3 AH (A3 HX (Cj (Dj "Weaver" "told") (A0 0)) (A0 2)) (A4 (.int 0))) (A4 (.str (Aw "at")))) [.J (De X Y a sh W U),F8 P,.J (B1 s),.J (Cx l),s4]=.ok true:=Fc (D5 (D5 (Do _ rfl rfl) rfl DR) rfl q);rw[GS c,if_pos rfl];refine Z3 h (XB BE) ?_ rfl;unfold L_;rw[Do _ rfl rfl];rfl
 |out x=>rw[e]at Do;have DR:AH (C5 s.1.1 (.out x)) (.int 0)=.ok (st "out"):=rfl;have q:Ar false (st "out") (.str (Aw "at"))=.ok (.AO true):=rfl;have c:Ah (A3 (Ar false) (A3 AH (A3 HX (Cj (Dj "Weaver" "told") (A0 0)) (A0 2)) (A4 (.int 0))) (A4 (.str (Aw "at")))) [.J (De X Y a sh W U),F8 P,.J (B1 s),.J (Cx l),s4]=.ok true:=Fc (D5 (D5 (Do _ rfl rfl) rfl DR) rfl q);rw[GS c,if_pos rfl];refine Z3 h (XC BE (ho x e)) ?_ rfl;unfold L_;rw[Do _ rfl rfl];rfl
 |to d=>rw[e]at Do;have DR:AH (C5 s.1.1 (.to d)) (.int 0)=.ok (st "at"):=rfl;have q:Ar false (st "at") (.str (Aw "at"))=.ok (.AO false):=rfl;have c:Ah (A3 (Ar false) (A3 AH (A3 HX (Cj (Dj "Weaver" "told") (A0 0)) (A0 2)) (A4 (.int 0))) (A4 (.str (Aw "at")))) [.J (De X Y a sh W U),F8 P,.J (B1 s),.J (Cx l),s4]=.ok false:=Fc (D5 (D5 (Do _ rfl rfl) rfl DR) rfl q);rw[GS c];rfl
 |no d=>rw[e]at Do;have DR:AH (C5 s.1.1 (.no d)) (.int 0)=.ok (st "at"):=rfl;have q:Ar false (st "at") (.str (Aw "at"))=.ok (.AO false):=rfl;have c:Ah (A3 (Ar false) (A3 AH (A3 HX (Cj (Dj "Weaver" "told") (A0 0)) (A0 2)) (A4 (.int 0))) (A4 (.str (Aw "at")))) [.J (De X Y a sh W U),F8 P,.J (B1 s),.J (Cx l),s4]=.ok false:=Fc (D5 (D5 (Do _ rfl rfl) rfl DR) rfl q);rw[GS c];rfl
def abl:Py "Weaver" "round_from" (De X Y a sh W U)=.ok (De X Y a sh W U):=rfl
def x7(g:Good A N n d0 W U [])(hN:∀s,No sh (N s))(Gd:W.length<=168)(Hr:∀d∈A,d.1<6)(Gf:∀s,s.1∈A->s.2<n->∀o,N s=.out o->o<4){P:Hx}(h:JC P){p:AY×List Nat}(AZ:p∈W)(s4:Bi) :
  ∃Jw b0,JC Jw/\(∀k∈P.map (·.1),k∈Jw.map (·.1))/\(∀k∈Jw.map (·.1),k∈P.map (·.1)\/UE N p.1 k)/\(0,(p.1.1.1:Int),0)∈Jw.map (·.1)/\(HK (N p.1)=false->K9 p.1.1.1 (N p.1)∈Jw.map (·.1))/\((∃m,1<=m/\D7 N p.1 m=some p.1)->(3,0,0)∈Jw.map (·.1))/\bh [.J (De X Y a sh W U),F8 P,.J (B1 p.1),.J (Cx p.2),s4]=.ok (.Ay [.J (De X Y a sh W U),F8 Jw,.J (B1 p.1),.J (Cx p.2),b0]):=by
 have AJ:p.1∈W.map (·.1):=List.mem_map.mpr ⟨p,AZ,rfl⟩;obtain⟨BZ,Bl⟩:=g.inr p AZ;have BE:=Hr _ BZ;have ho:=Gf _ BZ Bl;obtain⟨R,W3,Iu,re⟩:=aaK (X:=X) (Y:=Y) (a:=a) (sh:=sh) g hN Gd AJ;have A6:=c_ (v:=p.2.map B6) h (XA BE);have A9:=x4 h BE p.2 (De X Y a sh W U) s4;generalize Ek:Iv P (0,(p.1.1.1:Int),0) (p.2.map B6)=Ia at A6 A9;have Cn:(0,(p.1.1.1:Int),0)∈Ia.map (·.1):=by rw[<-Ek];exact cY _ _ _
 have OK:∀k∈P.map (·.1),k∈Ia.map (·.1):=λk AF=>by rw[<-Ek];exact VQ AF
 have AM:=x5 (X:=X) (Y:=Y) (a:=a) (sh:=sh) g A6 AJ BE ho p.2 s4;generalize LN:(if HK (N p.1)=true then Ia else Iv Ia (K9 p.1.1.1 (N p.1)) (p.2.map B6))=I0 at AM;have AA:JC I0:=by
  rw[<-LN]
  split
  .exact A6
  .refine c_ A6 ?_;cases e:N p.1 with
   |drop=>exact XB BE
   |out o=>exact XC BE (ho o e)
   |to d=>rename_i z;rw[e]at z;exact absurd rfl z
   |no d=>rename_i z;rw[e]at z;exact absurd rfl z
 have MC:∀k∈Ia.map (·.1),k∈I0.map (·.1):=λk AF=>by
  rw[<-LN]
  split
  .exact AF
  .exact VQ AF
 have C3:HK (N p.1)=false->K9 p.1.1.1 (N p.1)∈I0.map (·.1):=λz=>by rw[<-LN,if_neg (by rw[z];decide)];exact cY _ _ _
 obtain⟨v,Cp⟩:=x6 AA (s:=p.1) (l:=p.2) (by have:=(g.lst p AZ).2;lia) W3 (De X Y a sh W U);have BD:B5 4 (I7 "Weaver" "round_from" 1 Sm (A0 0) (A2 (A0 2) (AE))) [.J (De X Y a sh W U),F8 I0,.J (B1 p.1),.J (Cx p.2),s4]=.ok (.Ay [.J (De X Y a sh W U),F8 I0,.J (B1 p.1),.J (Cx p.2),.J (.lst (R.map B1))]):=by simp[abl,re]
 refine⟨if R=[]then I0 else Iv I0 (3,0,0) v,.J (.lst (R.map B1)),?_,λk AF=>?_,λk AF=>?_,?_,λz=>?_,λz=>?_,?_⟩
 .split
  .exact AA
  .exact c_ AA XD
 .have:=MC k (OK k AF)
  split
  .exact this
  .exact VQ this
 .have Fe:∀x∈Ia.map (·.1),x∈P.map (·.1)\/UE N p.1 x:=λx AI=>by
    rw[<-Ek]at AI;exact(cZ AI).imp id .inl
  have F3:∀x∈I0.map (·.1),x∈P.map (·.1)\/UE N p.1 x:=λx AI=>by
   rw[<-LN]at AI
   split at AI
   .exact Fe x AI
   .rename_i AV;rcases cZ AI with AI|AI
    .exact Fe x AI
    .exact .inr (.inr (.inl ⟨Bool.eq_false_iff.mpr AV,AI⟩))
  split at AF
  .exact F3 k AF
  .rename_i AV;rcases cZ AF with AF|AF
   .exact F3 k AF
   .exact .inr (.inr (.inr ⟨AF,Iu.mp AV⟩))
 .have:=MC _ Cn
  split
  .exact this
  .exact VQ this
 .have:=C3 z
  split
  .exact this
  .exact VQ this
 .rw[if_neg (Iu.mpr z)];exact cY _ _ _
 .rw[bh,Cy,A9,BA,EE,Cy,AM,BA,EE,Cy,BD,BA,EE,Cp]
structure eQ(N:AY->On)(W:Ej)(P:Hx):Prop where
 O5:JC P
 at_:∀p∈W,(0,(p.1.1.1:Int),0)∈P.map (·.1)
 FL:∀p∈W,HK (N p.1)=false->K9 p.1.1.1 (N p.1)∈P.map (·.1)
 Mw:∀p∈W,(∃m,1<=m/\D7 N p.1 m=some p.1)->(3,0,0)∈P.map (·.1)
 so:∀k∈P.map (·.1),∃p∈W,UE N p.1 k
def vI(W:Ej):YI (.Ai ((W.map (·.1)).map Dm) (W.map λp=>Cx p.2))=.ok (W.map λp=>.tup [B1 p.1,Cx p.2]):=by
 have h:((W.map (·.1)).map Dm).all (λk=>k.length !=1)=true:=by rw[H7,Tt,MU];intro p _;rfl
 simp only[YI];rw[if_pos h]
 congr 1
 unfold S_;rw[H7,List.zip_map'];rw[H7];rfl
def kV(g:Good A N n d0 W U [])(hN:∀s,No sh (N s))(Gd:W.length<=168)(Hr:∀d∈A,d.1<6)(Gf:∀s,s.1∈A->s.2<n->∀o,N s=.out o->o<4):∃P,eQ N W P/\Rf [De X Y a sh W U]=.ok (.v (QX P)):=by
 suffices h:Ends (Rf [De X Y a sh W U]) (λy=>∃P,eQ N W P/\y=.v (QX P))by
  obtain⟨y,e,P,Ce,rfl⟩:=h;exact⟨P,Ce,e⟩
 have BV:Xi=AP (Kj 1) (AP (EC (Rc (Cj (Dj "Weaver" "woven") (A0 0))) (FB [BC 2,BC 3]) bh) (La (A0 1))):=rfl;have DN:Kj 1 [.J (De X Y a sh W U),.un,.un,.un,.un]=.ok (.Ay [.J (De X Y a sh W U),F8 [],.un,.un,.un]):=rfl;have F0:Rc (Cj (Dj "Weaver" "woven") (A0 0)) [.J (De X Y a sh W U),F8 [],.un,.un,.un]=.ok (W.map λp=>.tup [B1 p.1,Cx p.2]):=by unfold Rc;rw[cP,v_var];simp only[HQ,IJ,BA,gz,vI]
 show Ends ((Xi [.J (De X Y a sh W U),.un,.un,.un,.un]).bind _) _;rw[BV,Cy,DN,BA,EE,Cy,LB];refine R2 (λp:AY×List Nat=>.tup [B1 p.1,Cx p.2]) W (λj ρ=>∃P s2 s3 s4,eQ N (W.take j) P/\ρ=[.J (De X Y a sh W U),F8 P,s2,s3,s4]) F0 ⟨[],.un,.un,.un,⟨⟨.nil,(λk AF=>nomatch AF)⟩,(λp AZ=>by simp at AZ),(λp AZ=>by simp at AZ),(λp AZ=>by simp at AZ),(λk AF=>nomatch AF)⟩,rfl⟩ ?_ ?_
 .rintro j p _ Bz ⟨P,s2,s3,s4,Ce,rfl⟩;have AZ:=KD Bz;obtain⟨Jw,b0,A6,AA,D6,B4,BJ,Es,e⟩:=x7 (X:=X) (Y:=Y) (a:=a) (sh:=sh) g hN Gd Hr Gf Ce.O5 AZ s4;have OF:FB [BC 2,BC 3] (.tup [B1 p.1,Cx p.2]) [.J (De X Y a sh W U),F8 P,s2,s3,s4]=.ok [.J (De X Y a sh W U),F8 P,.J (B1 p.1),.J (Cx p.2),s4]:=rfl;rw[OF,BA,e];have CV:∀q∈W.take (j+1),q∈W.take j\/q=p:=λq AW=>by
   rw[Tj,Bz]at AW;rcases List.mem_append.mp AW with AW|AW
   .exact .inl AW
   .exact .inr (by simpa using AW)
  refine⟨_,rfl,_,rfl,Jw,_,_,b0,⟨A6,λq AW=>?_,λq AW z=>?_,λq AW z=>?_,λk AF=>?_⟩,rfl⟩
  .rcases CV q AW with AW|rfl
   .exact AA _ (Ce.at_ q AW)
   .exact B4
  .rcases CV q AW with AW|rfl
   .exact AA _ (Ce.FL q AW z)
   .exact BJ z
  .rcases CV q AW with AW|rfl
   .exact AA _ (Ce.Mw q AW z)
   .exact Es z
  .have pm:p∈W.take (j+1):=by rw[Tj,Bz];simp
   rcases D6 k AF with AF|AF
   .obtain⟨q,AW,ade⟩:=Ce.so k AF;exact⟨q,by rw[Tj];exact Fu _ AW,ade⟩
   .exact⟨p,pm,AF⟩
 .rintro _ ⟨P,s2,s3,s4,Ce,rfl⟩;rw[List.take_length]at Ce;exact⟨_,rfl,P,Ce,rfl⟩
end
section
variable{cs:List Nat}{ws:List (AU×AU)}{os nw:List (List D1)}{row:List Nat}{a:Nat}{d0:AU}
def ih{bs:List (List D1)}(h:G7 cs bs){i:Nat}(AD:i<cs.length):Lm (cs.getD i 0) (bs.getD i []):=by
 have AN:i<bs.length:=by rw[h.l];exact AD
 have:=h.b i bs[i] (Df AN);have e:bs.getD i []=bs[i]:=by simp[AN]
 rw[e];exact this
def kW(F6:G7 cs os)(bn:G7 cs nw)(k:Nat){i:Nat}(AD:i<cs.length):Lm (cs.getD i 0) ((Dw os nw row k).getD i []):=by
 have e:(Dw os nw row k).getD i []=if i∈row.take k then nw.getD i []else os.getD i []:=by
  have AN:i<os.length:=by rw[F6.l];exact AD
  unfold Dw;rw[IU,EL,Te AN];rfl
 rw[e]
 split
 .exact ih bn AD
 .exact ih F6 AD
def kY(F6:G7 cs os)(k:Nat):(Dw os nw row k).length=cs.length:=by simp[Dw,F6.l]
def RE(EA:KO cs ws)(F6:G7 cs os)(bn:G7 cs nw)(B3:row.length<=6)(AB:a<16):JO cs ws (Dw os nw row) (row.length+1) a where
 EA:=EA
 AB:=AB
 DT:=by lia
 I8:=by lia
 AO:=λk _=>kY F6 k
 pt:=λk _ b A1 r B3=>by
  obtain⟨i,AD,F0⟩:=QC A1;have Y3:i<cs.length:=by rw[kY F6 k]at AD;exact AD
  have:=kW (row:=row) F6 bn k Y3;have e:(Dw os nw row k).getD i []=b:=by simp[AD,F0]
  rw[e]at this;exact(this.2 r B3).p
def ab7{sh:Option Nat}{o:On}{x:Nat}(h:VU sh o=.out x):o=.out x:=by
 cases o with
 |to e=>
  have h:(if sh=some e.1 then On.no e else On.to e)=.out x:=h
  split at h<;>cases h
 |_=>exact h
def kE(EA:KO cs ws)(F6:G7 cs os)(bn:G7 cs nw){sh:Option Nat}(s:AY)(AJ:s.1∈CO cs cs.length)(o:Nat)(h:BW sh ws (Dw os nw row) a s=.out o):o<4:=by
 have h:=ab7 h;have AD:=(L5.mp AJ).1;have Fn:=kW (row:=row) F6 bn s.2 AD;have HW:=aV (λc AK=>(EA.c c AK).2) s.1.1;unfold Ay at h;generalize(Dw os nw row s.2).getD s.1.1 []=b at Fn h
 split at h
 .cases h
 .rename_i i F0
  split at h
  .cases h
  .rename_i o' T7
   split at h
   .cases h;obtain⟨r,B3,BV⟩:=Option.bind_eq_some_iff.mp T7;have:=(Fn.2 r (KD B3)).b o BV
    lia
   .cases h
end
theorem Good.nil{A:List AU}{N:AY->On}{n:Nat}{d0:AU}:Good A N n d0 [] [] []:=
 ⟨.nil,(λ_ h=>nomatch h),(λ_ h=>nomatch h),(λ_ h=>nomatch h),.nil,(λ_ h=>nomatch h),(λ_ h=>nomatch h),.nil,(λ_ h=>nomatch h),(λ_ h=>nomatch h)⟩
def aaA{A:List AU}{N:AY->On}{n:Nat}{d0:AU}{W:Ej}{U:To}(g:Good A N n d0 W U [])(h0:((d0,0):AY)∈W.map (·.1)){s:AY}(h:MG N n d0 s):s∈W.map (·.1):=by
 have up:∀{d:AU}{c k:Nat},((d,c):AY)∈W.map (·.1)->c<=k->k<n->((d,k):AY)∈W.map (·.1):=λ{d c k} h A6 AA=>by obtain⟨p,AZ,BY⟩:=List.mem_map.mp h;have:=g.up p AZ k (by rw[BY];exact A6) AA;rw[BY]at this;exact this
 induction h with
 |st k AF=>exact up h0 (J1 _) AF
 |go s e k _ AV A6 AA CA=>exact up (ZR g CA (show Jj N s=some (e,s.2)by unfold Jj;rw[AV])) A6 AA
def YD{A:List AU}{N:AY->On}{n:Nat}{d0:AU}{W:Ej}{U:To}(g:Good A N n d0 W U []){s:AY}(h:s∈W.map (·.1)):MG N n d0 s:=by obtain⟨p,AZ,rfl⟩:=List.mem_map.mp h;exact g.rc p AZ
def gi(sh:Option Nat)(N:AY->On)(n:Nat)(d0:AU)(k:C7):Prop:=sh≠some d0.1/\∃s,MG N n d0 s/\UE N s k
section
variable{cs:List Nat}{ws:List (AU×AU)}{os nw:List (List D1)}{row:List Nat}{a:Nat}{d0:AU}
def xQ(EA:KO cs ws)(F6:G7 cs os)(bn:G7 cs nw)(B3:row.length<=6)(AB:a<16)(hd:d0∈CO cs cs.length)(sh:Option Nat):∃(P:Hx)(W:Ej)(U:To),JC P/\(∀k,k∈P.map (·.1)↔gi sh (BW sh ws (Dw os nw row) a) (row.length+1) d0 k)/\
  Ny [CW cs ws,.lst (C0 (row.length+1) (Dw os nw row)),AS d0,.int (a:Int),Cd sh]=.ok (CQ (CW cs ws) (.lst (C0 (row.length+1) (Dw os nw row))) a sh W U)/\Rf [De (CW cs ws) (.lst (C0 (row.length+1) (Dw os nw row))) a sh W U]=.ok (.v (QX P)):=by
 have ok:=RE (row:=row) EA F6 bn B3 AB;have NH:=Mi EA.c cs.length;have D6:=EA.D6;have Hr:∀d∈CO cs cs.length,d.1<6:=λd hd=>by have:=(L5.mp hd).1;lia
 have Gf:∀s:AY,s.1∈CO cs cs.length->s.2<row.length+1->∀o,BW sh ws (Dw os nw row) a s=.out o->o<4:=λs AJ _ o h=>kE EA F6 bn s AJ o h;by_cases AJ:sh=some d0.1
 .obtain⟨P,mo,em⟩:=kV (X:=CW cs ws) (Y:=.lst (C0 (row.length+1) (Dw os nw row))) (a:=a) (sh:=sh) (Good.nil (A:=CO cs cs.length) (n:=row.length+1) (d0:=d0)) (λs=>P1 sh ws (Dw os nw row) a s) (by simp) Hr Gf;refine⟨P,[],[],mo.O5,λk=>⟨λh=>?_,λh=>absurd AJ h.1⟩,acT AJ,em⟩;obtain⟨p,AZ,_⟩:=mo.so k h;cases AZ
 .obtain⟨W,U,g,h0,e⟩:=oF ok AJ hd;have Gd:=g.few (by lia) ok.I8;obtain⟨P,mo,em⟩:=kV (X:=CW cs ws) (Y:=.lst (C0 (row.length+1) (Dw os nw row))) (a:=a) (sh:=sh) g (λs=>P1 sh ws (Dw os nw row) a s) Gd Hr Gf;refine⟨P,W,U,mo.O5,λk=>⟨λh=>?_,λ⟨_,s,r,w⟩=>?_⟩,e,em⟩
  .obtain⟨p,AZ,w⟩:=mo.so k h;exact⟨AJ,p.1,g.rc p AZ,w⟩
  .obtain⟨p,AZ,rfl⟩:=List.mem_map.mp (aaA g h0 r);rcases w with rfl|⟨A6,rfl⟩|⟨rfl,z⟩
   .exact mo.at_ p AZ
   .exact mo.FL p AZ A6
   .exact mo.Mw p AZ z
end
inductive KR where
 |comes (e:AU)|leaves|Ir|LM (h:Nat)|never (h:Nat)
noncomputable def Bn(p:Str)(d:AU):KR->D
 |.comes e=>.tup [st "comes",.str p,AS d,AS e]
 |.leaves=>.tup [st "leaves",.str p,AS d]
 |.Ir=>.tup [st "noring",.str p,AS d]
 |.LM h=>.tup [st "by",.str p,AS d,B6 h]
 |.never h=>.tup [st "never",.str p,AS d,B6 h]
def Dn:KR->Option Nat
 |.LM h=>some h
 |_=>none
def Bg(k:C7):D:=N_ (Fi k)
def r2(h:Int):Bg (0,h,0)=.tup [st "at",.int h]:=rfl
def r3(h:Int):Bg (1,h,0)=.tup [st "drop",.int h]:=rfl
def hs(h o:Int):Bg (2,h,o)=.tup [st "out",.int h,.int o]:=rfl
def r4:Bg (3,0,0)=.EM [st "ring"]:=rfl
def Gk:KR->C7->Bool
 |.comes e,k=>decide (k=(2,(e.1:Int),(e.2:Int)))
 |.leaves,k=>decide (k.1=2)
 |.Ir,k=>!decide (k.1=3)
 |_,_=>false
def TN:KR->List C7->Bool
 |.never h,ks=>!decide ((0,(h:Int),0)∈ks)
 |y,ks=>(ks.filter λk=>!decide (k.1=0)).all (Gk y)
def YG:KR->Bool
 |.never _=>true
 |_=>false
def N4{k:C7}(h:k∈F7):(∃x,k=(0,x,0))\/(∃x,k=(1,x,0))\/(∃x y,k=(2,x,y))\/k=(3,0,0):=by
 rcases XE h with g|g|g|g
 .exact .inl ⟨_,g⟩
 .exact .inr (.inl ⟨_,g⟩)
 .exact .inr (.inr (.inl ⟨_,_,g⟩))
 .exact .inr (.inr (.inr g))
def zZ(x y:Int)(e:AU):Ar true (.tup [st "out",.int x,.int y]) (.tup [st "out",.int (e.1:Int),.int (e.2:Int)])=.ok (.AO (decide (((2,x,y):C7)=(2,(e.1:Int),(e.2:Int))))):=by
 have:Ar true (.tup [st "out",.int x,.int y]) (.tup [st "out",.int (e.1:Int),.int (e.2:Int)])=.ok (.AO ((x==(e.1:Int))&&((y==(e.2:Int))&&true))):=rfl;rw[this]
 congr 2
 rw[GV,FV,FV,beq_iff_eq,beq_iff_eq,decide_eq_true_iff];simp
def abK(y:KR)(BO:YG y=false)(p:Str)(d:AU){k:C7}(AF:k∈F7)(h0:k.1≠0):Vo [Bn p d y,.lst [],Bg k]=.ok (.v (.AO (Gk y k))):=by
 have EY:∀x0 Ex FC:D,Vo [x0,Ex,FC]=(Xm [.J x0,.J Ex,.J FC,.un,.un]).bind outD:=λ_ _ _=>rfl;rw[EY];cases y with
 |never h=>cases BO
 |comes e=>
  rcases N4 AF with⟨x,rfl⟩|⟨x,rfl⟩|⟨x,z,rfl⟩|rfl
  .exact absurd rfl h0
  .have:¬((1,x,0):C7)=(2,(e.1:Int),(e.2:Int)):=λz=>by cases z
   simp only[Gk,decide_eq_false this];rfl
  .have DN:B5 3 (A3 AH (A0 0) (A4 (.int 0))) [.J (Bn p d (.comes e)),.J (.lst []),.J (Bg (2,x,z)),.un,.un]=.ok (.Ay [.J (Bn p d (.comes e)),.J (.lst []),.J (Bg (2,x,z)),.J (st "comes"),.un]):=rfl;have q:A3 (Ar true) (A0 2) (CP (A2 (A4 (.str (Aw "out"))) (A2 (A3 AH (A3 AH (A0 0) (A4 (.int 3))) (A4 (.int 0))) (A2 (A3 AH (A3 AH (A0 0) (A4 (.int 3))) (A4 (.int 1))) (AE))))) [.J (Bn p d (.comes e)),.J (.lst []),.J (Bg (2,x,z)),.J (st "comes"),.un]=.ok (.AO (Gk (.comes e) (2,x,z))):=D5 rfl rfl (zZ x z e);rw[Xm,Cy,DN,BA,EE,Cy,GS (k:=true) rfl,if_pos rfl,Mu q];rfl
  .have:¬((3,0,0):C7)=(2,(e.1:Int),(e.2:Int)):=λz=>by cases z
   simp only[Gk,decide_eq_false this];rfl
 |leaves=>
  rcases N4 AF with⟨x,rfl⟩|⟨x,rfl⟩|⟨x,z,rfl⟩|rfl
  .exact absurd rfl h0
  .rfl
  .rfl
  .rfl
 |Ir=>
  rcases N4 AF with⟨x,rfl⟩|⟨x,rfl⟩|⟨x,z,rfl⟩|rfl
  .exact absurd rfl h0
  .rfl
  .rfl
  .rfl
 |LM h=>
  rcases N4 AF with⟨x,rfl⟩|⟨x,rfl⟩|⟨x,z,rfl⟩|rfl
  .exact absurd rfl h0
  .rfl
  .rfl
  .rfl
def yA{n:Nat}{k:C7}(h:k∈F7):okN (n+1) (Bg k)=true:=by rcases N4 h with⟨x,rfl⟩|⟨x,rfl⟩|⟨x,z,rfl⟩|rfl<;>simp[r2,r3,hs,r4,okN,st]
def k3{n:Nat}{ks:List C7}(h:∀k∈ks,k∈F7):(ks.map Bg).all (okN (n+1))=true:=by rw[Tt,MU];exact λk AF=>yA (h k AF)
def hP{k:C7}(AF:k∈F7)(h:Int):Cq (Bg k) (.tup [st "at",.int h])=decide (k=(0,h,0)):=by
 rcases N4 AF with⟨x,rfl⟩|⟨x,rfl⟩|⟨x,z,rfl⟩|rfl
 .have:Cq (Bg (0,x,0)) (.tup [st "at",.int h])=((x==h)&&true):=rfl;rw[this,QR,GV,beq_iff_eq,decide_eq_true_iff];simp
 .have:¬((1,x,0):C7)=(0,h,0):=λz=>by cases z
  rw[decide_eq_false this];rfl
 .have:¬((2,x,z):C7)=(0,h,0):=λz=>by cases z
  rw[decide_eq_false this];rfl
 .have:¬((3,0,0):C7)=(0,h,0):=λz=>by cases z
  rw[decide_eq_false this];rfl
def vW{ks:List C7}(AF:∀k∈ks,k∈F7)(h:Int):inD false (.tup [st "at",.int h]) (.lst (ks.map Bg))=.ok (.AO (!decide (((0,h,0):C7)∈ks))):=by
 have s:Pz (.lst (ks.map Bg))=some (ks.map Bg):=rfl;have o:okN 7 (.tup [st "at",.int h])=true:=rfl;have an:((ks.map Bg).any λy=>Cq y (.tup [st "at",.int h]))=decide (((0,h,0):C7)∈ks):=by
  rw[Og,GV,NK,decide_eq_true_iff];constructor
  .rintro⟨x,AI,e⟩;have:=(hP (AF x AI) h).symm.trans e;rw[decide_eq_true_iff]at this;rw[<-this];exact AI
  .intro z;exact⟨_,z,by show Cq (Bg _) _=true;rw[hP (AF _ z)];simp⟩
 simp only[inD,s,k3 (n:=6) AF,o,and_self,if_true,an];rfl
def oq:Ao:=B5 4 (Ki (Ah (A3 (Ar true) (A3 AH (A0 2) (A4 (.int 0))) (A4 (.str (Aw "by"))))) (A3 AH (A0 2) (A4 (.int 3))) (A4 .non))
def Z_:Ab:=I7 "Weaver" "met" 0 Rf (Re 5 Ny (A2 (A0 0) (A2 (A0 1) (A2 (A3 AH (A0 2) (A4 (.int 2))) (A2 (A0 3) (A2 (A0 4) (AE))))))) AE
def cA:CN:=Ah (A3 (Ar true) (A3 AH (A0 2) (A4 (.int 0))) (A4 (.str (Aw "never"))))
def ot:Au:=DE 1 [2] (ER (A0 5)) (BC 0) (Ah (A3 (Ar false) (A3 AH (A0 0) (A4 (.int 0))) (A4 (.str (Aw "at"))))) (Bo 3 Vo (A2 (A0 1) (A2 (BH (C4 (AE))) (A2 (A0 0) (AE)))))
def oo{k:C7}(h:k∈F7)(r:AG):Ah (A3 (Ar false) (A3 AH (A0 0) (A4 (.int 0))) (A4 (.str (Aw "at")))) (.J (Bg k)::r)=.ok (!decide (k.1=0)):=by rcases N4 h with⟨x,rfl⟩|⟨x,rfl⟩|⟨x,z,rfl⟩|rfl<;>rfl
def acp{X Y:D}{a:Nat}{p:Str}{d0:AU}{y:KR}{W:Ej}{U:To}{P:Hx}(Ce:JC P)(A9:Ny [X,Y,AS d0,.int (a:Int),Cd (Dn y)]=.ok (CQ X Y a (Dn y) W U))(AM:Rf [De X Y a (Dn y) W U]=.ok (.v (QX P))):Mq [X,Y,Bn p d0 y,.int (a:Int)]=.ok (.v (.AO (TN y (P.map (·.1))))):=by
 apply Ends.done;have EY:∀x0 Ex FC Hg:D,Mq [x0,Ex,FC,Hg]=(Xn [.J x0,.J Ex,.J FC,.J Hg,.un,.un]).bind outD:=λ_ _ _ _=>rfl;have BV:Xn=AP oq (AP (B5 5 (BH (Sl (A2 Z_ AE)))) (AP (C8 cA (CC (A3 (inD false) (CP (A2 (A4 (.str (Aw "at"))) (A2 (A3 AH (A0 2) (A4 (.int 3))) (AE)))) (A0 5))) (CK)) (CC (Bm CT.CO (A2 (BH ot) (AE)))))):=rfl;have f1:oq [.J X,.J Y,.J (Bn p d0 y),.J (.int (a:Int)),.un,.un]=.ok (.Ay [.J X,.J Y,.J (Bn p d0 y),.J (.int (a:Int)),.J (Cd (Dn y)),.un]):=by cases y<;>rfl
 have Bl:AH (Bn p d0 y) (.int 2)=.ok (AS d0):=by cases y<;>rfl
 have abJ:Py "Weaver" "met" (De X Y a (Dn y) W U)=.ok (De X Y a (Dn y) W U):=rfl;have xW:Re 5 Ny (A2 (A0 0) (A2 (A0 1) (A2 (A3 AH (A0 2) (A4 (.int 2))) (A2 (A0 3) (A2 (A0 4) (AE)))))) [.J X,.J Y,.J (Bn p d0 y),.J (.int (a:Int)),.J (Cd (Dn y)),.un]=.ok (De X Y a (Dn y) W U):=by unfold Re;simp only[Eg,GF,v_var,RL,Zc,HQ,ID,IJ,BA,Bl,FU,Hk,if_true,A9,SR,RJ]
 have f2:B5 5 (BH (Sl (A2 Z_ AE))) [.J X,.J Y,.J (Bn p d0 y),.J (.int (a:Int)),.J (Cd (Dn y)),.un]=.ok (.Ay [.J X,.J Y,.J (Bn p d0 y),.J (.int (a:Int)),.J (Cd (Dn y)),.J (.lst ((P.map (·.1)).map Bg))]):=by
  have Do:Z_ [.J X,.J Y,.J (Bn p d0 y),.J (.int (a:Int)),.J (Cd (Dn y)),.un]=.ok (QX P):=by rw[Z_,abv,xW,BA,abJ,BA,GF,BA,Hk,if_pos rfl,AM];rfl
  have l:Xt [QX P]=.ok ((P.map (·.1)).map Bg):=by simp only[Xt,QX,H7];rfl
  refine IC (d:=.lst ((P.map (·.1)).map Bg)) ?_ rfl;unfold Sl;rw[JL,Eg,Do,BA,GF,BA,BA,l];rfl
 have few:(P.map (·.1)).length<=37:=by have:=Ce.few;simpa using this
 have cd:=Ce.cd;generalize P.map (·.1)=ks at f2 few cd;rw[EY,BV,Cy,f1,BA,EE,Cy,f2,BA,EE];by_cases BO:YG y=true
 .cases y with
  |never h=>have c:cA [.J X,.J Y,.J (Bn p d0 (.never h)),.J (.int (a:Int)),.J (Cd (Dn (.never h))),.J (.lst (ks.map Bg))]=.ok true:=rfl;have q:A3 (inD false) (CP (A2 (A4 (.str (Aw "at"))) (A2 (A3 AH (A0 2) (A4 (.int 3))) (AE)))) (A0 5) [.J X,.J Y,.J (Bn p d0 (.never h)),.J (.int (a:Int)),.J (Cd (Dn (.never h))),.J (.lst (ks.map Bg))]=.ok (.AO (!decide (((0,(h:Int),0):C7)∈ks))):=D5 rfl rfl (vW cd (h:Int));rw[Cy,GS c,if_pos rfl,Mu q];exact⟨_,rfl,rfl⟩
  |_=>cases BO
 .have BO:YG y=false:=by simpa using BO
  have c:cA [.J X,.J Y,.J (Bn p d0 y),.J (.int (a:Int)),.J (Cd (Dn y)),.J (.lst (ks.map Bg))]=.ok false:=by cases y<;>first|rfl|cases BO
  have Ks:TN y ks=(ks.filter λk=>!decide (k.1=0)).all (Gk y):=by cases y<;>first|rfl|cases BO
  rw[JI c,abx,TS,Eg,JL,ot];simp only[LB];refine T5 Bg ks (λk=>!decide (k.1=0)) (λk=>.AO (Gk y k)) rfl (by lia) (λk AF=>oo (cd k AF) _) (λk AF h0=>?_) ?_
  .have so:=abK y BO p d0 (cd k AF) (by simpa using h0);simp only[EF,NS,IU,HQ,ID,Tl,XF,OL,Eg,GF,v_var,JL,Zd,IJ,BA,lim,Hk,FU,J1,if_true,so];rfl
  .have al:=UJ (Gk y) (ks.filter λk=>!decide (k.1=0));rw[<-Ks]at al;refine⟨_,?_,rfl⟩;simp only[BA,GF];rw[al];rfl
def qk{p:Str}(AZ:I1 p):Vl [.str p]=.ok (.o (((Ds 16).filter (HY p)).map B6)):=by apply Ends.done;have EY:∀x0:D,Vl [x0]=(Xk [.J x0]).bind outD:=λ_=>rfl;rw[EY,Xk,aby];simp only[LB];refine T5 B6 (Ds 16) (HY p) B6 rfl (by decide) (λk AF=>?_) (λk AF _=>rfl) ⟨_,rfl,rfl⟩;have AB:k<16:=List.mem_range.mp AF;exact Fc (call2 rfl rfl (iX AZ AB))
theorem YP{α:Type}(p q:α->Bool):∀l:List α,(l.filter p).find? q=l.find? λa=>p a&&q a
 |[]=>rfl
 |x::l=>by
  rw[List.filter_cons];by_cases h:p x=true
  .rw[if_pos h,HP,HP,YP p q l,h,S1]
  .have h:p x=false:=by simpa using h
   rw[if_neg (by rw[h];decide),YP p q l,HP,h,dv]
theorem VS{α:Type}(g:α->D)(c:α->Bool):∀l:List α,(l.findSome? λa=>if c a=true then some (g a)else none)=(l.find? c).map g
 |[]=>rfl
 |x::l=>by
  rw[WT,HP];cases h:c x
  .simp only[Hh,if_false];exact VS g c l
  .rfl
def Ga(o:Option Nat):D:=(o.map B6).getD .non
def ps{cs:List Nat}{ws:List (AU×AU)}{os nw:List (List D1)}{row:List Nat}{p:Str}{d0:AU}{y:KR}{F:Nat->Bool}(D6:os.length<=6)(AN:nw.length=os.length)(B3:row.length<=6)(AZ:I1 p)(Hs:∀a:Nat,a<16->Mq [CW cs ws,.lst (C0 (row.length+1) (Dw os nw row)),Bn p d0 y,.int (a:Int)]=.ok (.v (.AO (F a)))):Sp [CW cs ws,By os,By nw,.lst (row.map B6),Bn p d0 y]=.ok (.v (Ga ((Ds 16).find? λa=>HY p a&&!F a))):=by
 apply Ends.done;have EY:∀x0 Ex FC Hg LC:D,Sp [x0,Ex,FC,Hg,LC]=(Xl [.J x0,.J Ex,.J FC,.J Hg,.J LC,.un,.un]).bind outD:=λ_ _ _ _ _=>rfl;have BK:=aax (os:=os) (nw:=nw) (row:=row) D6 AN B3;have A9:B5 5 (BH (FM 3 Vr (A2 (A0 1) (A2 (A0 2) (A2 (A0 3) (AE)))))) [.J (CW cs ws),.J (By os),.J (By nw),.J (.lst (row.map B6)),.J (Bn p d0 y),.un,.un]=.ok (.Ay [.J (CW cs ws),.J (By os),.J (By nw),.J (.lst (row.map B6)),.J (Bn p d0 y),.J (.lst (C0 (row.length+1) (Dw os nw row))),.un]):=by refine IC (d:=.lst (C0 (row.length+1) (Dw os nw row))) ?_ rfl;simp only[Eg,GF,v_var,JL,cJ,HQ,ID,IJ,BA,BK,FU,Hk,if_true];rfl
 have BZ:AH (Bn p d0 y) (.int 1)=.ok (.str p):=by cases y<;>rfl
 have AD:∀s5 DU,ER (BH (FM 1 Vl (A2 (A3 AH (A0 4) (A4 (.int 1))) (AE)))) [.J (CW cs ws),.J (By os),.J (By nw),.J (.lst (row.map B6)),.J (Bn p d0 y),s5,DU]=.ok (((Ds 16).filter (HY p)).map B6):=λs5 DU=>by have ad:=qk AZ;unfold ER;simp only[Eg,GF,v_var,RL,Zc,JL,cJ,HQ,ID,IJ,BA,BZ,ad,FU,Hk,if_true];rfl
 rw[EY,Xl,Cy,A9,BA,EE,Cy,LB];refine V1 B6 ((Ds 16).filter (HY p)) (λρ=>∃DU,ρ=[.J (CW cs ws),.J (By os),.J (By nw),.J (.lst (row.map B6)),.J (Bn p d0 y),.J (.lst (C0 (row.length+1) (Dw os nw row))),DU]) (λa=>if(!F a)=true then some (B6 a)else none) (AD _ _) ⟨.un,rfl⟩ ?_ ?_ ?_
 .rintro a _ AB ⟨DU,rfl⟩;have AB:a<16:=List.mem_range.mp (List.mem_filter.mp AB).1;have q:Gi (Ah (Bo 4 Mq (A2 (A0 0) (A2 (A0 5) (A2 (A0 4) (A2 (A0 6) (AE))))))) [.J (CW cs ws),.J (By os),.J (By nw),.J (.lst (row.map B6)),.J (Bn p d0 y),.J (.lst (C0 (row.length+1) (Dw os nw row))),.J (B6 a)]=.ok (!F a):=by
   have:=Hs a AB;refine kT (Fc ?_);simp only[OL,Eg,GF,v_var,HQ,ID,IJ,BA,FU,Hk,if_true,B6,this];rfl
  have s0:BC 6 (B6 a) [.J (CW cs ws),.J (By os),.J (By nw),.J (.lst (row.map B6)),.J (Bn p d0 y),.J (.lst (C0 (row.length+1) (Dw os nw row))),DU]=.ok [.J (CW cs ws),.J (By os),.J (By nw),.J (.lst (row.map B6)),.J (Bn p d0 y),.J (.lst (C0 (row.length+1) (Dw os nw row))),.J (B6 a)]:=rfl;rw[s0,BA,GS q];cases F a with
  |false=>exact⟨_,rfl,rfl⟩
  |true=>exact⟨_,rfl,_,rfl,_,rfl⟩
 .intro d hd;rw[VS,YP]at hd;refine⟨_,rfl,?_⟩;unfold Ga;rw[hd];rfl
 .rintro _ hd ⟨DU,rfl⟩;rw[VS,YP]at hd;refine⟨_,rfl,?_⟩;unfold Ga;rw[hd];rfl
def xp{X Y:D}{p:Str}{d0:AU}{y:KR}{F:Nat->Bool}(AZ:I1 p)(Hs:∀a:Nat,a<16->PV [X,Y,Bn p d0 y,.int (a:Int)]=.ok (.v (.AO (F a)))):SK [X,Y,Bn p d0 y]=.ok (.v (Ga ((Ds 16).find? λa=>HY p a&&F a))):=by
 apply Ends.done;have EY:∀x0 Ex FC:D,SK [x0,Ex,FC]=(X2 [.J x0,.J Ex,.J FC,.un]).bind outD:=λ_ _ _=>rfl;have BZ:AH (Bn p d0 y) (.int 1)=.ok (.str p):=by cases y<;>rfl
 rw[EY,X2,Cy,LB];refine V1 B6 (Ds 16) (λρ=>∃s3,ρ=[.J X,.J Y,.J (Bn p d0 y),s3]) (λa=>if(HY p a&&F a)=true then some (B6 a)else none) rfl ⟨.un,rfl⟩ ?_ ?_ ?_
 .rintro a _ AB ⟨s3,rfl⟩;have AB:a<16:=List.mem_range.mp AB;have q:Eu (Ah (Bo 2 Rj (A2 (A3 AH (A0 2) (A4 (.int 1))) (A2 (A0 3) (AE))))) (Ah (Bo 4 PV (A2 (A0 0) (A2 (A0 1) (A2 (A0 2) (A2 (A0 3) (AE))))))) [.J X,.J Y,.J (Bn p d0 y),.J (B6 a)]=.ok (HY p a&&F a):=by
   refine SC (Fc (call2 (D5 rfl rfl BZ) rfl (ix AZ AB))) λ_=>Fc ?_;have:=Hs a AB;simp only[OL,Eg,GF,v_var,HQ,ID,IJ,BA,FU,Hk,if_true,B6,this];rfl
  have s0:BC 3 (B6 a) [.J X,.J Y,.J (Bn p d0 y),s3]=.ok [.J X,.J Y,.J (Bn p d0 y),.J (B6 a)]:=rfl;rw[s0,BA,GS q];cases HY p a&&F a with
  |true=>exact⟨_,rfl,rfl⟩
  |false=>exact⟨_,rfl,_,rfl,_,rfl⟩
 .intro d hd;rw[VS]at hd;refine⟨_,rfl,?_⟩;unfold Ga;rw[hd];rfl
 .rintro _ hd ⟨DU,rfl⟩;rw[VS]at hd;refine⟨_,rfl,?_⟩;unfold Ga;rw[hd];rfl
def we(xs:List D)(x:D):AH (.lst (xs++[x])) (.int (-1))=.ok x:=by
 have e:Fy (xs++[x]) (-1)=some x:=by unfold Fy IH;rw[if_neg (by decide),if_pos (by simp;lia)];simp only[Oj];rw[J2,Td,show((-1:Int)+((xs.length+1:Nat):Int)).toNat=xs.length by lia];simp
 simp only[AH,e]
def Zp:On->String
 |.drop=>"drop"
 |.out _=>"out"
 |.to _=>"at"
 |.no _=>"at"
def b9(h:Nat)(o:On):AH (C5 h o) (.int 0)=.ok (st (Zp o)):=by cases o<;>rfl
def jC(o:On):Ar true (st (Zp o)) (.str (Aw "at"))=.ok (.AO (HK o)):=by cases o<;>rfl
def wx(o:On):Ar false (st (Zp o)) (.str (Aw "at"))=.ok (.AO (!HK o)):=by cases o<;>rfl
def k7(h:Nat)(e:AU):L9 (C5 h (.to e)) (some 1) none=.ok (AS e):=rfl
section
variable{cs:List Nat}{ws:List (AU×AU)}{Bk:Nat->List (List D1)}{n a c:Nat}{d0:AU}{W:Ej}{U:To}
def j0(ok:JO cs ws Bk n a){s:AY}(A6:s.1.1<cs.length)(AA:s.2<n):Lc [.lst (ws.map CI),DM ((Bk s.2).getD s.1.1 []),AS s.1,.int (a:Int)]=.ok (.v (C5 s.1.1 (BW none ws Bk a s))):=by
 have AO:=ok.AO s.2 AA;have e:C5 s.1.1 (BW none ws Bk a s)=C5 s.1.1 (Ay ws ((Bk s.2).getD s.1.1 []) s.1.1 s.1.2 a):=by unfold BW;exact bA _ _ _
 rw[e];refine xt (λr B3=>?_) s.1 ok.AB;have AN:s.1.1<(Bk s.2).length:=by lia
 have eg:(Bk s.2).getD s.1.1 []=(Bk s.2)[s.1.1]:=by simp[AN]
 rw[eg]at B3;exact ok.pt s.2 AA _ (MV _) r B3
structure Eo(N:AY->On)(W:Ej)(c:Nat)(d:AU)(pre:List AU)(l:AU):Prop where
 Ct:(pre++[l]).Nodup
 YE:∀e∈pre++[l],((e,c):AY)∈W.map (·.1)
 st:(pre++[l])[0]?=some d
 ch:∀(i:Nat) x y,(pre++[l])[i]?=some x->(pre++[l])[i+1]?=some y->N (x,c)=.to y
def Yv:CN:=GC (Eu (Ah (A3 (Ar true) (A3 AH (A0 5) (A4 (.int 0))) (A4 (.str (Aw "at"))))) (Ah (A3 (inD false) (Fh L9 (A0 5) (FN (A4 (.int 1))) (Jd)) (A0 4))))
def lB:Ab:=Jc (Bo 4 Lc (A2 (A0 0) (A2 (A3 AH (A0 1) (A3 AH (A3 AH (A0 4) (Cj Jg (A4 (.int 1)))) (A4 (.int 0)))) (A2 (A3 AH (A0 4) (Cj Jg (A4 (.int 1)))) (A2 (A0 3) (AE))))))
def lA:Ao:=AP (II 4 (Fh L9 (A0 5) (FN (A4 (.int 1))) (Jd))) (B5 5 lB)
def aaJ(ok:JO cs ws Bk n a)(g:Good (CO cs cs.length) (BW none ws Bk a) n d0 W U []){d:AU}(hd:((d,c):AY)∈W.map (·.1)) :
  ∃pre l,Eo (BW none ws Bk a) W c d pre l/\(∀e,BW none ws Bk a (l,c)=.to e->e∈pre++[l])/\Rl [.lst (ws.map CI),By (Bk c),AS d,.int (a:Int)]=.ok (.v (.tup [.lst ((pre++[l]).map AS),C5 l.1 (BW none ws Bk a (l,c))])):=by
 have IG:∀e:AU,((e,c):AY)∈W.map (·.1)->e∈CO cs cs.length/\c<n:=λe he=>by obtain⟨p,AZ,BY⟩:=List.mem_map.mp he;have:=g.inr p AZ;rw[BY]at this;exact this
 have NH:=Mi ok.EA.c cs.length;have D6:=ok.EA.D6;have k0:∀e:AU,((e,c):AY)∈W.map (·.1)->Lc [.lst (ws.map CI),DM ((Bk c).getD e.1 []),AS e,.int (a:Int)]=.ok (.v (C5 e.1 (BW none ws Bk a (e,c)))):=λe he=>j0 (s:=(e,c)) ok (L5.mp (IG e he).1).1 (IG e he).2;have Fn:∀e:AU,((e,c):AY)∈W.map (·.1)->AH (By (Bk c)) (.int (e.1:Int))=.ok (DM ((Bk c).getD e.1 [])):=λe he=>RU (by have:=ok.AO c (IG e he).2;have:=(L5.mp (IG e he).1).1;lia);suffices h:Ends (Rl [.lst (ws.map CI),By (Bk c),AS d,.int (a:Int)]) (λy=>∃pre l,Eo (BW none ws Bk a) W c d pre l/\(∀e,BW none ws Bk a (l,c)=.to e->e∈pre++[l])/\y=.v (.tup [.lst ((pre++[l]).map AS),C5 l.1 (BW none ws Bk a (l,c))]))by
  obtain⟨y,e,pre,l,A6,B4,rfl⟩:=h;exact⟨pre,l,A6,B4,e⟩
 have BV:X3=AP (E_ 4 (C4 (A2 (A0 2) (AE)))) (AP (B5 5 (Jc (Bo 4 Lc (A2 (A0 0) (A2 (A3 AH (A0 1) (A3 AH (A0 2) (A4 (.int 0)))) (A2 (A0 2) (A2 (A0 3) (AE)))))))) (AP (Jf Yv lA) (La (CP (A2 (A0 4) (A2 (A0 5) (AE))))))):=rfl;have DN:E_ 4 (C4 (A2 (A0 2) (AE))) [.J (.lst (ws.map CI)),.J (By (Bk c)),.J (AS d),.J (.int (a:Int)),.un,.un]=.ok (.Ay [.J (.lst (ws.map CI)),.J (By (Bk c)),.J (AS d),.J (.int (a:Int)),.Bw [AS d],.un]):=rfl;have DR:∀e:AU,AH (AS e) (.int 0)=.ok (.int (e.1:Int)):=λe=>rfl;have A9:B5 5 (Jc (Bo 4 Lc (A2 (A0 0) (A2 (A3 AH (A0 1) (A3 AH (A0 2) (A4 (.int 0)))) (A2 (A0 2) (A2 (A0 3) (AE))))))) [.J (.lst (ws.map CI)),.J (By (Bk c)),.J (AS d),.J (.int (a:Int)),.Bw [AS d],.un]=.ok (.Ay [.J (.lst (ws.map CI)),.J (By (Bk c)),.J (AS d),.J (.int (a:Int)),.Bw [AS d],.J (C5 d.1 (BW none ws Bk a (d,c)))]):=by have b:=Fn d hd;have x:=k0 d hd;generalize(Bk c).getD d.1 []=Sx at b x;simp[DR,b,x,ci]
 have EY:∀x0 Ex FC Hg:D,Rl [x0,Ex,FC,Hg]=(X3 [.J x0,.J Ex,.J FC,.J Hg,.un,.un]).bind outD:=λ_ _ _ _=>rfl;rw[EY,BV,Cy,DN,BA,EE,Cy,A9,BA,EE,Cy,LB];refine V2 (λm ρ=>∃pre l,Eo (BW none ws Bk a) W c d pre l/\m=30-pre.length/\ρ=[.J (.lst (ws.map CI)),.J (By (Bk c)),.J (AS d),.J (.int (a:Int)),.Bw ((pre++[l]).map AS),.J (C5 l.1 (BW none ws Bk a (l,c)))]) (n:=30) ⟨[],d,⟨by simp,λe he=>by rw[List.mem_singleton.mp he];exact hd,rfl,λi x y _ AA=>by simp at AA⟩,rfl,rfl⟩ (by decide) ?_;rintro m _ ⟨pre,l,r,rfl,rfl⟩;have AN:=r.YE l (by simp);have pl:pre.length<24:=by have:=Ld r.Ct λx AI=>(IG x (r.YE x AI)).1;simp at this;lia
 have KZ:=b9 l.1 (BW none ws Bk a (l,c));have DZ:=jC (BW none ws Bk a (l,c));cases e:BW none ws Bk a (l,c)with
 |drop=>rw[e]at KZ DZ;refine⟨false,?_,(λz=>nomatch z),λ_=>⟨_,rfl,pre,l,r,(λx AI=>by rw[e]at AI;cases AI),by rw[e];rfl⟩⟩;simp[Yv,KZ,DZ,HK]
 |out o=>rw[e]at KZ DZ;refine⟨false,?_,(λz=>nomatch z),λ_=>⟨_,rfl,pre,l,r,(λx AI=>by rw[e]at AI;cases AI),by rw[e];rfl⟩⟩;simp[Yv,KZ,DZ,HK]
 |no f=>have:=P1 none ws Bk a (l,c);rw[e]at this;cases this
 |to f=>
  rw[e]at KZ DZ;have CE:=k7 l.1 f;have SP:∀r:AG,Ah (A3 (inD false) (A4 (AS f)) (A4 (.lst ((pre++[l]).map AS)))) r=.ok (!decide (f∈pre++[l])):=λr=>yq rfl rfl;have SP:=SP [];have aM:((f,c):AY)∈W.map (·.1):=ZR g AN (by unfold Jj;rw[e]);refine⟨!decide (f∈pre++[l]),?_,λAj=>?_,λAj=>?_⟩
  .have SP:(inD false (AS f) (.lst ((pre++[l]).map AS))).bind Mj=.ok (!decide (f∈pre++[l])):=SP;generalize(pre++[l]).map AS=gl at SP;simp[Yv,KZ,DZ,HK,CE,intD,SP]
  .have Aj:f∉pre++[l]:=by simpa using Aj
   have b:=Fn f aM;have x:=k0 f aM;have B7:Eo (BW none ws Bk a) W c d (pre++[l]) f:=by
    refine⟨List.nodup_append.mpr ⟨r.Ct,by simp,λx AI y BO z=>by rw[List.mem_singleton.mp BO]at z;exact Aj (z▸AI)⟩,λx AI=>?_,?_,λi x y A6 AA=>?_⟩
    .rcases List.mem_append.mp AI with AI|AI
     .exact r.YE x AI
     .rw[List.mem_singleton.mp AI];exact aM
    .rw[Jm (by simp)];exact r.st
    .by_cases q:i+1<(pre++[l]).length
     .rw[Jm (by lia)]at A6;rw[Jm q]at AA;exact r.ch i x y A6 AA
     .have AD:i+1<(pre++[l]++[f]).length:=(List.getElem?_eq_some_iff.mp AA).1;have AD:i=pre.length:=by simp at AD q;lia
      subst AD;have A6:x=l:=by simpa using A6.symm
      have AA:y=f:=by simpa using AA.symm
      rw[A6,AA];exact e
   refine⟨_,?_,_,rfl,30-(pre++[l]).length,by simp;lia,pre++[l],f,B7,rfl,rfl⟩;have jV:=we ((pre++[l]).map AS) (AS f);have em:(pre++[l]++[f]).map AS=(pre++[l]).map AS++[AS f]:=by simp
   have kh:Jg (.int 1)=.ok (.int (-1)):=rfl;rw[em];have K4:((pre++[l]).map AS).length<=100:=by simp;lia
   generalize(Bk c).getD f.1 []=Sx at b x;generalize(pre++[l]).map AS=gl at jV K4;have so:=ci f.1 (BW none ws Bk a (f,c));generalize C5 f.1 (BW none ws Bk a (f,c))=of at x so;simp[lA,lB,CE,intD,show gl.length<1000000 by lia,DR,kh,jV,b,x,so]
  .have Aj:f∈pre++[l]:=Decidable.byContradiction λz=>by rw[decide_eq_false z]at Aj;cases Aj
   exact⟨_,rfl,pre,l,r,λx AI=>by rw[e]at AI;cases AI;exact Aj,by rw[e];rfl⟩
end
def Pd(N:AY->On)(s:AY):Prop:=∃j t,D7 N s j=some t/\∃m,1<=m/\D7 N t m=some t
open Classical in
noncomputable def TL(N:AY->On)(s:AY):Bool:=decide (Pd N s)
def aw(N:AY->On)(s:AY):TL N s=true↔Pd N s:=by unfold TL;exact @decide_eq_true_iff _ (Classical.propDecidable _)
theorem Up(N:AY->On)(s:AY):∀(j k:Nat),D7 N s (j+k)=(D7 N s j).bind λt=>D7 N t k
 |j,0=>by cases h:D7 N s j<;>simp[D7,h]
 |j,k+1=>by rw[<-NP];simp only[D7];rw[Up N s j k];cases D7 N s j<;>rfl
def vC{N:AY->On}{s:AY}{j:Nat}(h:D7 N s j=none)(k:Nat):D7 N s (j+k)=none:=by rw[Up,h];rfl
theorem jg{N:AY->On}{t:AY}{m:Nat}(h:D7 N t m=some t):∀k:Nat,D7 N t (k*m)=some t
 |0=>by rw[Nat.zero_mul];rfl
 |k+1=>by rw[dj,Up,jg h k];exact h
def yj{N:AY->On}{s:AY}(h:Pd N s)(j:Nat):D7 N s j≠none:=λz=>by
 obtain⟨i,t,AD,m,hm,Aj⟩:=h;have r:=jg Aj j;have:D7 N s (i+j*m)=some t:=by rw[Up,AD];exact r
 have le:j<=i+j*m:=by
  have:j*1<=j*m:=Nat.mul_le_mul_left j hm
  lia
 obtain⟨k,AF⟩:=Nat.le.dest le;rw[<-AF,vC z]at this;cases this
def ab6(o:On):VU none o=o:=by
 cases o with
 |to e=>show(if none=some e.1 then On.no e else On.to e)=_;rw[if_neg (by simp)]
 |_=>rfl
section
variable{cs:List Nat}{ws:List (AU×AU)}{Bk:Nat->List (List D1)}{n a c:Nat}{d0:AU}{W:Ej}{U:To}{sh:Option Nat}
def eS(s:AY):BW sh ws Bk a s=VU sh (BW none ws Bk a s):=by unfold BW;rw[ab6]
def gj{s:AY}{e:AU}(h:BW none ws Bk a s=.to e)(he:sh≠some e.1):BW sh ws Bk a s=.to e:=by rw[eS,h];show(if sh=some e.1 then On.no e else On.to e)=_;rw[if_neg he]
def qW{s:AY}{e:AU}(h:BW sh ws Bk a s=.to e):BW none ws Bk a s=.to e/\sh≠some e.1:=by
 have AJ:=P1 sh ws Bk a s;rw[h]at AJ;refine⟨?_,AJ⟩;rw[eS]at h;cases q:BW none ws Bk a s with
 |to f=>
  rw[q]at h;have h:(if sh=some f.1 then On.no f else On.to f)=.to e:=h
  split at h<;>cases h
  rfl
 |_=>rw[q]at h;cases h
def aaG{pre:List AU}{l d:AU}(r:Eo (BW none ws Bk a) W c d pre l)(aB:∀e,BW none ws Bk a (l,c)=.to e->e∈pre++[l])(hd:sh≠some d.1):(HK (BW none ws Bk a (l,c))&&(pre++[l]).all λx=>!decide (sh=some x.1))=TL (BW sh ws Bk a) (d,c):=by
 have K4:(pre++[l])[pre.length]?=some l:=by simp
 rw[GV,FV,aw,MU];constructor
 .rintro⟨A6,AA⟩;have AA:∀x∈pre++[l],sh≠some x.1:=λx AI=>by simpa using AA x AI
  have go:∀(i:Nat) x,(pre++[l])[i]?=some x->D7 (BW sh ws Bk a) (d,c) i=some (x,c):=by
   intro i;induction i with
   |zero=>intro x AI;rw[r.st]at AI;cases AI;rfl
   |succ i CA=>
    intro x AI;have AD:i<(pre++[l]).length:=by have:=(List.getElem?_eq_some_iff.mp AI).1;lia
    have e:=r.ch i _ x (Df AD) AI;simp only[D7,CA _ (Df AD),Oj,Jj,gj e (AA x (KD AI))]
  cases q:BW none ws Bk a (l,c)with
  |to f=>
   have hf:=aB f q;obtain⟨j,Bz,JS⟩:=QC hf;have A9:D7 (BW sh ws Bk a) (d,c) (pre.length+1)=some (f,c):=by simp only[D7,go _ l K4,Oj,Jj,gj q (AA f hf)]
   have aga:j<=pre.length:=by simp at Bz;lia
   refine⟨j,(f,c),go j f (by rw[Df Bz,JS]),pre.length+1-j,by lia,?_⟩;have AM:=Up (BW sh ws Bk a) (d,c) j (pre.length+1-j);rw[show j+(pre.length+1-j)=pre.length+1 by lia,A9,go j f (by rw[Df Bz,JS])]at AM;exact AM.symm
  |no f=>have:=P1 none ws Bk a (l,c);rw[q]at this;cases this
  |drop=>rw[q]at A6;cases A6
  |out o=>rw[q]at A6;cases A6
 .intro z;have st:∀(i:Nat) x,D7 (BW sh ws Bk a) (d,c) i=some (x,c)->∃e,BW none ws Bk a (x,c)=.to e/\sh≠some e.1/\D7 (BW sh ws Bk a) (d,c) (i+1)=some (e,c):=λi x AI=>by
   have ne:=yj z (i+1);simp only[D7,AI,Oj,Jj]at ne |-;cases q:BW sh ws Bk a (x,c)with
   |to e=>obtain⟨A6,AA⟩:=qW q;exact⟨e,A6,AA,rfl⟩
   |_=>rw[q]at ne;exact absurd rfl ne
  have go:∀(i:Nat) x,(pre++[l])[i]?=some x->D7 (BW sh ws Bk a) (d,c) i=some (x,c)/\sh≠some x.1:=by
   intro i;induction i with
   |zero=>intro x AI;rw[r.st]at AI;cases AI;exact⟨rfl,hd⟩
   |succ i CA=>
    intro x AI;have AD:i<(pre++[l]).length:=by have:=(List.getElem?_eq_some_iff.mp AI).1;lia
    obtain⟨e,A6,AA,B4⟩:=st i _ (CA _ (Df AD)).1;have Bp:=r.ch i _ x (Df AD) AI;rw[A6]at Bp;cases Bp;exact⟨B4,AA⟩
  refine⟨?_,λx AI=>?_⟩
  .obtain⟨e,A6,_⟩:=st _ l (go _ l K4).1;rw[A6];rfl
  .obtain⟨i,AD,F0⟩:=QC AI;have:=(go i x (by rw[Df AD,F0])).2;simpa using this
end
def HC(FK:List C7)(k:C7):List C7:=if k∈FK then FK else FK++[k]
def e1(FK:List C7)(k:C7):k∈HC FK k:=by
 unfold HC
 split
 .assumption
 .simp
def Xa{FK:List C7}{k x:C7}(h:x∈FK):x∈HC FK k:=by
 unfold HC
 split
 .exact h
 .exact Fu _ h
def X_{FK:List C7}{k x:C7}(h:x∈HC FK k):x∈FK\/x=k:=by
 unfold HC at h
 split at h
 .exact .inl h
 .rcases List.mem_append.mp h with h|h
  .exact .inl h
  .exact .inr (List.mem_singleton.mp h)
def e2{FK:List C7}{k:C7}(h:FK.Nodup):(HC FK k).Nodup:=by
 unfold HC
 split
 .exact h
 .rename_i AV;exact List.nodup_append.mpr ⟨h,by simp,λx AI y BO z=>by rw[List.mem_singleton.mp BO]at z;exact AV (z▸AI)⟩
theorem lG(v:D)(Bf:Bj):∀ks:List Bj,RC ks (ks.map λ_=>v) Bf v=ks.map λ_=>v
 |[]=>rfl
 |k::ks=>by
  rw[EF,RC,lG v Bf ks]
  split<;>rfl
def MN(FK:List C7):KP:=.Ai (FK.map Fi) (FK.map λ_=>.AO true)
def aab{FK:List C7}{k:C7}(Gm:∀x∈FK,x∈F7)(AF:k∈F7)(AN:FK.length<1000):putD (FK.map Fi) (FK.map λ_=>.AO true) (Fi k) (.AO true)=.ok (MN (HC FK k)):=by
 have an:=e7 Gm AF;unfold putD HC;by_cases h:k∈FK
 .rw[decide_eq_true h]at an;rw[if_neg (by rw[an];simp),if_pos ⟨an,by simp;lia⟩,if_pos h];have:=lG (.AO true) (Fi k) (FK.map Fi);rw[H7]at this;have e:(FK.map λ_=>D.AO true)=FK.map ((λ_=>D.AO true)∘Fi):=rfl;rw[e,this];rfl
 .rw[decide_eq_false h]at an;rw[if_pos ⟨an,by simp;lia⟩,if_neg h];simp[MN]
def Wu{FK:List C7}{k:C7}{mk mv:Ab}{ρ:AG}{Sd:D}(Gm:∀x∈FK,x∈F7)(AF:k∈F7)(AN:FK.length<1000)(BJ:ρ[5]?=some (.ob (MN FK)))(Dc:mk ρ=.ok Sd)(bR:I4 Sd=some (Fi k))(ev:mv ρ=.ok (.AO true)):Hc 5 mk mv ρ=.ok (.Ay (ρ.set 5 (.ob (MN (HC FK k))))):=by simp only[Hc,ev,BA,BJ,MN,Dc,bR];have:=aab Gm AF AN;rw[this];rfl
def Ib(S:List AY)(s:AY):List AY:=if s∈S then S else S++[s]
def e0{S:List AY}{s x:AY}(h:x∈Ib S s):x∈S\/x=s:=by
 unfold Ib at h
 split at h
 .exact .inl h
 .rcases List.mem_append.mp h with h|h
  .exact .inl h
  .exact .inr (List.mem_singleton.mp h)
def qg(S:List AY)(s:AY):s∈Ib S s:=by
 unfold Ib
 split
 .assumption
 .simp
def qh(S:List AY)(s:AY):∃X,Ib S s=S++X:=by
 unfold Ib
 split
 .exact⟨[],by simp⟩
 .exact⟨[s],rfl⟩
def gD{S:List AY}{s:AY}(h:S.Nodup):(Ib S s).Nodup:=by
 unfold Ib
 split
 .exact h
 .rename_i AV;exact List.nodup_append.mpr ⟨h,by simp,λx AI y BO z=>by rw[List.mem_singleton.mp BO]at z;exact AV (z▸AI)⟩
def Xd(l:List AY)(s:AY):(l.map Dm).any (λx=>decide (x=Dm s))=decide (s∈l):=Xe l s
def bm(h:Nat)(sh:Option Nat):Ar false (.int (h:Int)) (Cd sh)=.ok (.AO (!decide (sh=some h))):=by
 cases sh with
 |none=>rfl
 |some x=>
  have:Ar false (.int (h:Int)) (.int (x:Int))=.ok (.AO (!((h:Int)==(x:Int)))):=rfl;rw[Cd,this]
  congr 3
  rw[GV,beq_iff_eq,decide_eq_true_iff,WQ]
  lia
def Sv{α:Type}(r:R α):r.bind .ok=r:=by cases r<;>rfl
section
variable{cs:List Nat}{ws:List (AU×AU)}{Bk:Nat->List (List D1)}{n a c:Nat}{d0:AU}{W:Ej}{U:To}{sh:Option Nat}
noncomputable def DK(ws:List (AU×AU))(Bk:Nat->List (List D1))(n a:Nat)(d0:AU)(sh:Option Nat)(FK:List C7)(S R:List AY)(at_:Nat)(E4 CM D9 Bq Cu D4:Bi):AG:=[.J (.lst (ws.map CI)),.J (.lst (C0 n Bk)),.J (AS d0),.J (.int (a:Int)),.J (Cd sh),.ob (MN FK),.Bw (S.map B1),.ob (.Ai (S.map Dm) (S.map λ_=>.AO true)),.ob (.Ai (R.map Dm) (R.map λ_=>.AO true)),.J (B6 at_),E4,CM,D9,Bq,Cu,D4]
def qa(N:AY->On)(s:AY)(k:C7):Prop:=k=(0,(s.1.1:Int),0)\/(HK (N s)=false/\k=K9 s.1.1 (N s))\/(k=(3,0,0)/\Pd N s)
structure LK(N:AY->On)(W:Ej)(FK:List C7)(S R:List AY):Prop where
 fn:FK.Nodup
 Gm:∀k∈FK,k∈F7
 Ap:∀k∈FK,∃s∈W.map (·.1),qa N s k
 sn:S.Nodup
 VX:∀s∈S,s∈W.map (·.1)
 L8:R.Nodup
 Iu:∀s∈R,s∈W.map (·.1)
 Mv:∀s∈R,Pd N s->(3,0,0)∈FK
def LK.few{N:AY->On}{FK:List C7}{S R:List AY}(h:LK N W FK S R)(Gd:W.length<=168):FK.length<=37/\S.length<=168/\R.length<=168:=by have A6:=Ld h.fn h.Gm;have AA:=Ld h.sn h.VX;have B4:=Ld h.L8 h.Iu;rw[fA]at A6;simp at AA B4;exact⟨A6,by lia,by lia⟩
def Done(N:AY->On)(FK:List C7)(S:List AY)(s:AY):Prop:=(Pd N s->(3,0,0)∈FK)/\(HK (N s)=false->K9 s.1.1 (N s)∈FK)/\∀e,N s=.to e->((e,s.2):AY)∈S
def Done.mono{N:AY->On}{FK Eb:List C7}{S Ep:List AY}{s:AY}(h:Done N FK S s)(A6:∀k∈FK,k∈Eb)(AA:∀t∈S,t∈Ep):Done N Eb Ep s:=⟨λz=>A6 _ (h.1 z),λz=>A6 _ (h.2.1 z),λe z=>AA _ (h.2.2 e z)⟩
def TM:Ab:=CP (A2 (A0 10) (A2 (A0 12) (AE)))
noncomputable def mA:Ao:=C8 (Eu (Ah (A3 (Ar true) (A3 AH (A0 14) (A4 (.int 0))) (A4 (.str (Aw "at"))))) (Ah (Bm CT.CO (A2 (BH (DE 1 [4] (ER (A0 13)) (BC 0) (Ee) (A3 (Ar false) (A3 AH (A0 0) (A4 (.int 0))) (A0 1)))) (AE))))) (Hc 5 (CP (A2 (A4 (.str (Aw "ring"))) (AE))) (A4 (.AO true))) (CK)
def cV:Ao:=C8 (GC (Ah (A3 (EW false) TM (A0 8)))) (AP (Hc 8 TM (A4 (.AO true))) (AP (K5 (FB [BC 13,BC 14]) (Bo 4 Rl (A2 (A0 0) (A2 (A3 AH (A0 1) (A0 12)) (A2 (A0 10) (A2 (A0 3) (AE))))))) mA)) (CK)
def m9:Ao:=B5 15 (Bo 4 Lc (A2 (A0 0) (A2 (A3 AH (A3 AH (A0 1) (A0 12)) (A3 AH (A0 10) (A4 (.int 0)))) (A2 (A0 10) (A2 (A0 3) (AE))))))
def Px:Ab:=CP (A2 (Fh L9 (A0 15) (FN (A4 (.int 1))) (Jd)) (A2 (A0 12) (AE)))
noncomputable def cW:Ao:=C8 (Ah (A3 (Ar false) (A3 AH (A0 15) (A4 (.int 0))) (A4 (.str (Aw "at"))))) (Hc 5 (A0 15) (A4 (.AO true))) (C8 (GC (Eu (Ah (A3 (Ar false) (A3 AH (A0 15) (A4 (.int 1))) (A0 4))) (Ah (A3 (EW false) Px (A0 7))))) (AP (Hc 7 Px (A4 (.AO true))) (II 6 Px)) (CK))
def cX:Ao:=AP cV (AP m9 cW)
def mB{h:AU}(ρ:AG)(A6:ρ[10]?=some (.J (AS h)))(AA:ρ[12]?=some (.J (B6 c))):TM ρ=.ok (B1 (h,c)):=by simp only[TM,TU,Eg,GF,v_var,A6,AA,IJ,BA];rfl
def aa3(ok:JO cs ws Bk n a){h:AU}(Hr:h∈CO cs cs.length)(AK:c<n)(Gh:sh≠some h.1){FK:List C7}(Gm:∀x∈FK,x∈F7)(AN:FK.length<1000)(S R:List AY)(PF:R.length<1000)(at_:Nat)(CM Bq Cu D4:Bi) :
  ∃PB PC,cV (DK ws Bk n a d0 sh FK S R at_ (.J (AS h)) CM (.J (B6 c)) Bq Cu D4)=.ok (.Ay (DK ws Bk n a d0 sh (if((h,c):AY)∈R then FK else if TL (BW sh ws Bk a) (h,c)=true then HC FK (3,0,0)else FK) S (Ib R (h,c)) at_ (.J (AS h)) CM (.J (B6 c)) PB PC D4)):=by
 have fK:EW false (B1 (h,c)) (.Ai (R.map Dm) (R.map λ_=>.AO true))=.ok (.AO (!decide (((h,c):AY)∈R))):=by simp only[EW,NG,Xd];rfl
 have cd:GC (Ah (A3 (EW false) TM (A0 8))) (DK ws Bk n a d0 sh FK S R at_ (.J (AS h)) CM (.J (B6 c)) Bq Cu D4)=.ok (!decide (((h,c):AY)∈R)):=Fc (D5 (mB _ rfl rfl) rfl fK);unfold cV;rw[GS cd];unfold Ib;by_cases B3:((h,c):AY)∈R
 .rw[if_neg (by simpa using B3),if_pos B3,if_pos B3];exact⟨_,_,rfl⟩
 .rw[if_pos (by simpa using B3),if_neg B3,if_neg B3];have an:=Xd R (h,c);rw[decide_eq_false B3]at an;have EB:=Wv (i:=8) (mk:=TM) (mv:=A4 (.AO true)) (ρ:=DK ws Bk n a d0 sh FK S R at_ (.J (AS h)) CM (.J (B6 c)) Bq Cu D4) rfl (mB _ rfl rfl) rfl (NG (h,c)) an (by simp;lia);have D3:(DK ws Bk n a d0 sh FK S R at_ (.J (AS h)) CM (.J (B6 c)) Bq Cu D4).set 8 (.ob (.Ai (R.map Dm++[Dm (h,c)]) ((R.map λ_=>D.AO true)++[.AO true])))=DK ws Bk n a d0 sh FK S (R++[(h,c)]) at_ (.J (AS h)) CM (.J (B6 c)) Bq Cu D4:=by simp[DK]
  rw[D3]at EB;obtain⟨JP,Np,aT,h0,_⟩:=oH (sh:=none) ok (by simp) Hr;have TD:((h,c):AY)∈JP.map (·.1):=by obtain⟨p,AZ,BY⟩:=List.mem_map.mp h0;have:=aT.up p AZ c (by rw[BY];exact J1 _) AK;rw[BY]at this;exact this
  obtain⟨pre,l,He,aB,CU⟩:=aaJ ok aT TD;have Mw:=aaG (d0:=d0) (sh:=sh) He aB Gh;have Cn:AH (.lst (C0 n Bk)) (B6 c)=.ok (By (Bk c)):=Io (by simp[C0,AK]);have KZ:=b9 l.1 (BW none ws Bk a (l,c));have DZ:=jC (BW none ws Bk a (l,c));have pl:(pre++[l]).length<=24:=by
   have NH:=Mi ok.EA.c cs.length;have D6:=ok.EA.D6;have:=Ld (l₂:=CO cs cs.length) He.Ct λx AI=>by obtain⟨p,AZ,BY⟩:=List.mem_map.mp (He.YE x AI);have:=(aT.inr p AZ).1;rw[BY]at this;exact this
   lia
  generalize pre++[l]=L at CU Mw pl;generalize C5 l.1 (BW none ws Bk a (l,c))=o at CU KZ;generalize HK (BW none ws Bk a (l,c))=it at DZ Mw;have u:K5 (FB [BC 13,BC 14]) (Bo 4 Rl (A2 (A0 0) (A2 (A3 AH (A0 1) (A0 12)) (A2 (A0 10) (A2 (A0 3) (AE)))))) (DK ws Bk n a d0 sh FK S (R++[(h,c)]) at_ (.J (AS h)) CM (.J (B6 c)) Bq Cu D4)=.ok (.Ay (DK ws Bk n a d0 sh FK S (R++[(h,c)]) at_ (.J (AS h)) CM (.J (B6 c)) (.J (.lst (L.map AS))) (.J o) D4)):=by have b:A3 AH (A0 1) (A0 12) (DK ws Bk n a d0 sh FK S (R++[(h,c)]) at_ (.J (AS h)) CM (.J (B6 c)) Bq Cu D4)=.ok (By (Bk c)):=D5 rfl rfl Cn;have v0:A0 0 (DK ws Bk n a d0 sh FK S (R++[(h,c)]) at_ (.J (AS h)) CM (.J (B6 c)) Bq Cu D4)=.ok (.lst (ws.map CI)):=rfl;have Vi:A0 10 (DK ws Bk n a d0 sh FK S (R++[(h,c)]) at_ (.J (AS h)) CM (.J (B6 c)) Bq Cu D4)=.ok (AS h):=rfl;have cI:A0 3 (DK ws Bk n a d0 sh FK S (R++[(h,c)]) at_ (.J (AS h)) CM (.J (B6 c)) Bq Cu D4)=.ok (.int (a:Int)):=rfl;rw[cQ];simp only[OL,Eg,GF,v0,Vi,cI,b,BA,FU,Hk,if_true,CU];rfl
  refine⟨.J (.lst (L.map AS)),.J o,?_⟩;rw[Cy,EB,BA,EE,Cy,u,BA,EE];generalize R++[(h,c)]=I2;have cm:DE 1 [4] (ER (A0 13)) (BC 0) (Ee) (A3 (Ar false) (A3 AH (A0 0) (A4 (.int 0))) (A0 1)) (DK ws Bk n a d0 sh FK S I2 at_ (.J (AS h)) CM (.J (B6 c)) (.J (.lst (L.map AS))) (.J o) D4)=.ok (L.map λx=>.AO (!decide (sh=some x.1))):=by apply Ends.done;rw[<-Sv (DE _ _ _ _ _ _ _)];exact R0 AS L (λx=>.AO (!decide (sh=some x.1))) rfl (by lia) (λx AI=>D5 (x:=.int (x.1:Int)) rfl rfl (bm x.1 sh)) ⟨_,rfl,rfl⟩
  have al:=UJ (λx:AU=>!decide (sh=some x.1)) L;have E3:Eu (Ah (A3 (Ar true) (A3 AH (A0 14) (A4 (.int 0))) (A4 (.str (Aw "at"))))) (Ah (Bm CT.CO (A2 (BH (DE 1 [4] (ER (A0 13)) (BC 0) (Ee) (A3 (Ar false) (A3 AH (A0 0) (A4 (.int 0))) (A0 1)))) (AE)))) (DK ws Bk n a d0 sh FK S I2 at_ (.J (AS h)) CM (.J (B6 c)) (.J (.lst (L.map AS))) (.J o) D4)=.ok (TL (BW sh ws Bk a) (h,c)):=by rw[<-Mw];refine SC (Fc (D5 (D5 rfl rfl KZ) rfl DZ)) λ_=>Fc ?_;rw[TS,Eg,JL,cm,BA,BA,GF,BA,BA];exact al
  unfold mA;rw[GS E3]
  split
  .exact Wu Gm XD AN rfl rfl rfl rfl
  .rfl
def aa4(ok:JO cs ws Bk n a){h:AU}(Hr:h∈CO cs cs.length)(AK:c<n)(FK:List C7)(S R:List AY)(at_:Nat)(CM Bq Cu D4:Bi):m9 (DK ws Bk n a d0 sh FK S R at_ (.J (AS h)) CM (.J (B6 c)) Bq Cu D4)=.ok (.Ay (DK ws Bk n a d0 sh FK S R at_ (.J (AS h)) CM (.J (B6 c)) Bq Cu (.J (C5 h.1 (BW sh ws Bk a (h,c)))))):=by
 have A6:h.1<cs.length:=(L5.mp Hr).1;have x:=j0 (s:=(h,c)) ok A6 AK;have b:AH (By (Bk c)) (.int (h.1:Int))=.ok (DM ((Bk c).getD h.1 [])):=RU (by have:=ok.AO c AK;lia);have Cn:AH (.lst (C0 n Bk)) (B6 c)=.ok (By (Bk c)):=Io (by simp[C0,AK]);have DR:AH (AS h) (.int 0)=.ok (.int (h.1:Int)):=rfl;have T7:C5 h.1 (BW none ws Bk a (h,c))=C5 h.1 (BW sh ws Bk a (h,c)):=by rw[eS (sh:=sh)];exact(bA _ _ _).symm
 dsimp only at x;rw[T7]at x;generalize(Bk c).getD h.1 []=Sx at b x;have AO:A3 AH (A3 AH (A0 1) (A0 12)) (A3 AH (A0 10) (A4 (.int 0))) (DK ws Bk n a d0 sh FK S R at_ (.J (AS h)) CM (.J (B6 c)) Bq Cu D4)=.ok (DM Sx):=D5 (D5 rfl rfl Cn) (D5 rfl rfl DR) b;refine IC (d:=C5 h.1 (BW sh ws Bk a (h,c))) ?_ rfl;have v0:A0 0 (DK ws Bk n a d0 sh FK S R at_ (.J (AS h)) CM (.J (B6 c)) Bq Cu D4)=.ok (.lst (ws.map CI)):=rfl;have Vi:A0 10 (DK ws Bk n a d0 sh FK S R at_ (.J (AS h)) CM (.J (B6 c)) Bq Cu D4)=.ok (AS h):=rfl;have cI:A0 3 (DK ws Bk n a d0 sh FK S R at_ (.J (AS h)) CM (.J (B6 c)) Bq Cu D4)=.ok (.int (a:Int)):=rfl;simp only[OL,Eg,GF,v0,Vi,cI,AO,BA,FU,Hk,if_true,x];rfl
def aa5{h:AU}{o:On}(ho:No sh o){FK:List C7}{S R:List AY}(Gm:∀x∈FK,x∈F7)(AN:FK.length<1000)(Gg:S.length<1000)(D6:h.1<6)(BJ:∀x,o=.out x->x<4)(at_:Nat)(CM Bq Cu:Bi):∃Eb Ep,cW (DK ws Bk n a d0 sh FK S R at_ (.J (AS h)) CM (.J (B6 c)) Bq Cu (.J (C5 h.1 o)))=.ok (.Ay (DK ws Bk n a d0 sh Eb Ep R at_ (.J (AS h)) CM (.J (B6 c)) Bq Cu (.J (C5 h.1 o))))/\
  Eb=(if HK o=true then FK else HC FK (K9 h.1 o))/\((∃e,o=.to e/\Ep=Ib S (e,c))\/((∀e,o≠.to e)/\Ep=S)):=by
 have KZ:=b9 h.1 o;have DZ:=wx o;have cd:Ah (A3 (Ar false) (A3 AH (A0 15) (A4 (.int 0))) (A4 (.str (Aw "at")))) (DK ws Bk n a d0 sh FK S R at_ (.J (AS h)) CM (.J (B6 c)) Bq Cu (.J (C5 h.1 o)))=.ok (!HK o):=Fc (D5 (D5 rfl rfl KZ) rfl DZ);unfold cW;rw[GS cd];cases o with
 |drop=>exact⟨HC FK (K9 h.1 .drop),S,Wu (k:=K9 h.1 .drop) Gm (XB D6) AN rfl rfl rfl rfl,rfl,.inr ⟨(λ_ z=>nomatch z),rfl⟩⟩
 |out x=>exact⟨HC FK (K9 h.1 (.out x)),S,Wu (k:=K9 h.1 (.out x)) Gm (XC D6 (BJ x rfl)) AN rfl rfl rfl rfl,rfl,.inr ⟨(λ_ z=>nomatch z),rfl⟩⟩
 |no f=>have JZ:AH (C5 h.1 (.no f)) (.int 1)=.ok (.int (f.1:Int)):=rfl;have q:=bm f.1 sh;rw[decide_eq_true (show sh=some f.1 from ho)]at q;have XG:GC (Eu (Ah (A3 (Ar false) (A3 AH (A0 15) (A4 (.int 1))) (A0 4))) (Ah (A3 (EW false) Px (A0 7)))) (DK ws Bk n a d0 sh FK S R at_ (.J (AS h)) CM (.J (B6 c)) Bq Cu (.J (C5 h.1 (.no f))))=.ok (false&&false):=SC (Fc (D5 (D5 rfl rfl JZ) rfl q)) λz=>nomatch z;refine⟨FK,S,?_,rfl,.inr ⟨(λ_ z=>nomatch z),rfl⟩⟩;rw[if_neg (show¬(!HK (On.no f))=true from λz=>nomatch z),GS XG];rfl
 |to f=>
  have JZ:AH (C5 h.1 (.to f)) (.int 1)=.ok (.int (f.1:Int)):=rfl;have q:=bm f.1 sh;rw[decide_eq_false (show¬sh=some f.1 from ho)]at q;have cg:∀ρ:AG,ρ[15]?=some (.J (C5 h.1 (.to f)))->ρ[12]?=some (.J (B6 c))->Px ρ=.ok (B1 (f,c)):=λρ A6 AA=>by have CE:=k7 h.1 f;simp only[Px,TU,Eg,GF,cO,cN,Zc,cM,v_var,A6,AA,IJ,BA,intD,CE];rfl
  have fK:EW false (B1 (f,c)) (.Ai (S.map Dm) (S.map λ_=>.AO true))=.ok (.AO (!decide (((f,c):AY)∈S))):=by simp only[EW,NG,Xd];rfl
  have XG:GC (Eu (Ah (A3 (Ar false) (A3 AH (A0 15) (A4 (.int 1))) (A0 4))) (Ah (A3 (EW false) Px (A0 7)))) (DK ws Bk n a d0 sh FK S R at_ (.J (AS h)) CM (.J (B6 c)) Bq Cu (.J (C5 h.1 (.to f))))=.ok (true&&!decide (((f,c):AY)∈S)):=SC (Fc (D5 (D5 rfl rfl JZ) rfl q)) λ_=>Fc (D5 (cg _ rfl rfl) rfl fK);rw[S1]at XG;refine⟨FK,Ib S (f,c),?_,rfl,.inl ⟨f,rfl,rfl⟩⟩;rw[if_neg (show¬(!HK (On.to f))=true from λz=>nomatch z),GS XG];unfold Ib;by_cases hf:((f,c):AY)∈S
  .rw[if_neg (by simpa using hf),if_pos hf];rfl
  .rw[if_pos (by simpa using hf),if_neg hf];have an:=Xd S (f,c);rw[decide_eq_false hf]at an;have EB:=Wv (i:=7) (mk:=Px) (mv:=A4 (.AO true)) (ρ:=DK ws Bk n a d0 sh FK S R at_ (.J (AS h)) CM (.J (B6 c)) Bq Cu (.J (C5 h.1 (.to f)))) rfl (cg _ rfl rfl) rfl (NG (f,c)) an (by simp;lia);rw[Cy,EB,BA,EE,acP];have k1:ownAt 6 ((DK ws Bk n a d0 sh FK S R at_ (.J (AS h)) CM (.J (B6 c)) Bq Cu (.J (C5 h.1 (.to f)))).set 7 (.ob (.Ai (S.map Dm++[Dm (f,c)]) ((S.map λ_=>D.AO true)++[.AO true]))))=.ok (S.map B1):=rfl;rw[k1,BA,cg _ rfl rfl,BA,Xf];rw[if_pos (by simp;lia)];simp[DK]
end
section
variable{cs:List Nat}{ws:List (AU×AU)}{Bk:Nat->List (List D1)}{n a c:Nat}{d0:AU}{W:Ej}{U:To}{sh:Option Nat}
def aaB{N:AY->On}(hN:∀s,No sh (N s))(hd:sh≠some d0.1){s:AY}(h:MG N n d0 s):sh≠some s.1.1:=by
 cases h with
 |st k AF=>exact hd
 |go s e k _ AV _ _=>have:=hN s;rw[AV]at this;exact this
def aaU(ok:JO cs ws Bk n a)(g:Good (CO cs cs.length) (BW sh ws Bk a) n d0 W U [])(hd:sh≠some d0.1)(Gd:W.length<=168)(Gf:∀s:AY,s.1∈CO cs cs.length->∀o,BW sh ws Bk a s=.out o->o<4){h:AU}(AJ:((h,c):AY)∈W.map (·.1)){FK:List C7}{S R:List AY}(ED:LK (BW sh ws Bk a) W FK S R)(at_:Nat)(CM Bq Cu D4:Bi) :
  ∃Eb Ep I2 PB PC lK,LK (BW sh ws Bk a) W Eb Ep I2/\(∀k∈FK,k∈Eb)/\(∃X,Ep=S++X)/\Done (BW sh ws Bk a) Eb Ep (h,c)/\cX (DK ws Bk n a d0 sh FK S R at_ (.J (AS h)) CM (.J (B6 c)) Bq Cu D4)=.ok (.Ay (DK ws Bk n a d0 sh Eb Ep I2 at_ (.J (AS h)) CM (.J (B6 c)) PB PC lK)):=by
 obtain⟨p,AZ,BY⟩:=List.mem_map.mp AJ;have IG:=g.inr p AZ;rw[BY]at IG;have D6:h.1<6:=by have:=(L5.mp IG.1).1;have:=ok.EA.D6;dsimp only at*;lia
 have ho:=Gf (h,c) IG.1;have BE:sh≠some h.1:=aaB (P1 sh ws Bk a) hd (YD g AJ);obtain⟨f1,f2,Em⟩:=ED.few Gd;obtain⟨PB,PC,A9⟩:=aa3 (d0:=d0) ok IG.1 IG.2 BE ED.Gm (by lia) S R (by lia) at_ CM Bq Cu D4;generalize Wx:(if((h,c):AY)∈R then FK else if TL (BW sh ws Bk a) (h,c)=true then HC FK (3,0,0)else FK)=IZ at A9;have ef:IZ.Nodup:=by
  rw[<-Wx]
  split
  .exact ED.fn
  .split
   .exact e2 ED.fn
   .exact ED.fn
 have gb:∀k∈IZ,k∈FK\/(k=(3,0,0)/\Pd (BW sh ws Bk a) (h,c)):=λk AF=>by
  rw[<-Wx]at AF
  split at AF
  .exact .inl AF
  .split at AF
   .rename_i A1;exact(X_ AF).imp id λz=>⟨z,(aw _ _).mp A1⟩
   .exact .inl AF
 have eh:∀k∈FK,k∈IZ:=λk AF=>by
  rw[<-Wx]
  split
  .exact AF
  .split
   .exact Xa AF
   .exact AF
 have gc:Pd (BW sh ws Bk a) (h,c)->(3,0,0)∈IZ:=λz=>by
  by_cases q:((h,c):AY)∈R
  .exact eh _ (ED.Mv _ q z)
  .rw[<-Wx,if_neg q,if_pos ((aw _ _).mpr z)];exact e1 _ _
 have ee:∀k∈IZ,k∈F7:=λk AF=>by
  rcases gb k AF with AF|⟨rfl,_⟩
  .exact ED.Gm k AF
  .exact XD
 have afb:IZ.length<=37:=by have:=Ld ef ee;rw[fA]at this;exact this
 have AM:=aa4 (d0:=d0) (sh:=sh) ok IG.1 IG.2 IZ S (Ib R (h,c)) at_ CM PB PC D4;obtain⟨Eb,Ep,Cp,Qx,Nb⟩:=aa5 (ws:=ws) (Bk:=Bk) (n:=n) (a:=a) (c:=c) (d0:=d0) (R:=Ib R (h,c)) (S:=S) (P1 sh ws Bk a (h,c)) ee (by lia) (by lia) D6 ho at_ CM PB PC;have acq:∀e,BW sh ws Bk a (h,c)=.to e->((e,c):AY)∈W.map (·.1):=λe he=>ZR g AJ (by unfold Jj;rw[he]);have gg:∀k∈Eb,k∈IZ\/(HK (BW sh ws Bk a (h,c))=false/\k=K9 h.1 (BW sh ws Bk a (h,c))):=λk AF=>by
  rw[Qx]at AF
  split at AF
  .exact .inl AF
  .rename_i AV;exact(X_ AF).imp id λz=>⟨Bool.eq_false_iff.mpr AV,z⟩
 have Ws:∀k∈IZ,k∈Eb:=λk AF=>by
  rw[Qx]
  split
  .exact AF
  .exact Xa AF
 refine⟨Eb,Ep,Ib R (h,c),PB,PC,.J (C5 h.1 (BW sh ws Bk a (h,c))),⟨?_,λk AF=>?_,λk AF=>?_,?_,λs Fo=>?_,gD ED.L8,λs Fo=>?_,λs Fo z=>?_⟩,λk AF=>Ws k (eh k AF),?_,⟨λz=>Ws _ (gc z),λz=>?_,λe he=>?_⟩,?_⟩
 .rw[Qx]
  split
  .exact ef
  .exact e2 ef
 .rcases gg k AF with AF|⟨q,rfl⟩
  .exact ee k AF
  .cases w:BW sh ws Bk a (h,c)with
   |drop=>exact XB D6
   |out o=>exact XC D6 (ho o w)
   |to e=>rw[w]at q;cases q
   |no e=>rw[w]at q;cases q
 .rcases gg k AF with AF|⟨q,rfl⟩
  .rcases gb k AF with AF|⟨rfl,z⟩
   .exact ED.Ap k AF
   .exact⟨_,AJ,.inr (.inr ⟨rfl,z⟩)⟩
  .exact⟨_,AJ,.inr (.inl ⟨q,rfl⟩)⟩
 .rcases Nb with⟨e,_,rfl⟩|⟨_,rfl⟩
  .exact gD ED.sn
  .exact ED.sn
 .rcases Nb with⟨e,he,rfl⟩|⟨_,rfl⟩
  .rcases e0 Fo with Fo|rfl
   .exact ED.VX s Fo
   .exact acq e he
  .exact ED.VX s Fo
 .rcases e0 Fo with Fo|rfl
  .exact ED.Iu s Fo
  .exact AJ
 .rcases e0 Fo with Fo|rfl
  .exact Ws _ (eh _ (ED.Mv s Fo z))
  .exact Ws _ (gc z)
 .rcases Nb with⟨e,he,rfl⟩|⟨_,rfl⟩
  .exact qh S (e,c)
  .exact⟨[],by simp⟩
 .rw[Qx,if_neg (by rw[z];decide)];exact e1 _ _
 .rcases Nb with⟨Bp,Y1,rfl⟩|⟨q,_⟩
  .rw[he]at Y1;cases Y1;exact qg _ _
  .exact absurd he (q e)
 .rw[cX,Cy,A9,BA,EE,Cy,AM,BA,EE,Cp]
noncomputable def ct:Ao:=AP (K5 (FB [BC 10,BC 11]) (Jc (A3 AH (A0 6) (A0 9))))
    (AP (B5 9 (A3 DL (A0 9) (A4 (.int 1))))
    (AP (Hc 5 (CP (A2 (A4 (.str (Aw "at"))) (A2 (A3 AH (A0 10) (A4 (.int 0))) (AE)))) (A4 (.AO true)))
    (EC (Oa (A2 (A0 11) (A2 (Bm CS (A2 (A0 1) (AE))) (AE)))) (BC 12) cX)))
def Nn(N:AY->On)(n:Nat)(FK:List C7)(S:List AY)(s:AY):Prop:=(0,(s.1.1:Int),0)∈FK/\∀c,s.2<=c->c<n->Done N FK S (s.1,c)
theorem Nn.mono{N:AY->On}{FK Eb:List C7}{S Ep:List AY}{s:AY}(h:Nn N n FK S s)(A6:∀k∈FK,k∈Eb)(AA:∀t∈S,t∈Ep):Nn N n Eb Ep s:=⟨A6 _ h.1,λc a b=>(h.2 c a b).mono A6 AA⟩
def se{α:Type}{mi:Au}{set:D->AG->R AG}{body:Ao}{ρ:AG}{T:Fk->Prop}(g:α->D)(xs:List α)(I:Nat->AG->Prop)(AD:mi ρ=.ok (xs.map g))(h0:I 0 ρ)(st:∀(j:Nat) a ρ,xs[j]?=some a->I j ρ->Ends ((set (g a) ρ).bind body) (I_ (I (j+1))))(fin:∀BL,I xs.length BL->T (.Ay BL)):Ends (EC mi set body ρ) T:=by rw[<-Sv (EC mi set body ρ)];exact R2 g xs I AD h0 st λBL h=>by simpa using fin BL h
def acX(ok:JO cs ws Bk n a)(g:Good (CO cs cs.length) (BW sh ws Bk a) n d0 W U [])(hd:sh≠some d0.1)(Gd:W.length<=168)(Gf:∀s:AY,s.1∈CO cs cs.length->∀o,BW sh ws Bk a s=.out o->o<4){FK:List C7}{S R:List AY}(ED:LK (BW sh ws Bk a) W FK S R){at_:Nat}(i9:at_<S.length)(E4 CM D9 Bq Cu D4:Bi) :
  Ends (ct (DK ws Bk n a d0 sh FK S R at_ E4 CM D9 Bq Cu D4)) (I_ λρ=>∃Eb Ep I2 E4 CM D9 Bq Cu D4,LK (BW sh ws Bk a) W Eb Ep I2/\(∀k∈FK,k∈Eb)/\(∃X,Ep=S++X)/\Nn (BW sh ws Bk a) n Eb Ep S[at_]/\ρ=DK ws Bk n a d0 sh Eb Ep I2 (at_+1) E4 CM D9 Bq Cu D4):=by
 have Pw:=ED.VX S[at_] (MV _);obtain⟨f1,f2,Em⟩:=ED.few Gd;have OV:AH (.lst (S.map B1)) (B6 at_)=.ok (B1 S[at_]):=Io (by simp[i9]);generalize S[at_]=s at Pw OV;obtain⟨h,low⟩:=s;obtain⟨p,AZ,BY⟩:=List.mem_map.mp Pw;have IG:=g.inr p AZ;have up:=g.up p AZ;rw[BY]at IG up;have D6:h.1<6:=by have:=(L5.mp IG.1).1;have:=ok.EA.D6;dsimp only at*;lia
 have A9:K5 (FB [BC 10,BC 11]) (Jc (A3 AH (A0 6) (A0 9))) (DK ws Bk n a d0 sh FK S R at_ E4 CM D9 Bq Cu D4)=.ok (.Ay (DK ws Bk n a d0 sh FK S R at_ (.J (AS h)) (.J (B6 low)) D9 Bq Cu D4)):=by
  have b:Jc (A3 AH (A0 6) (A0 9)) (DK ws Bk n a d0 sh FK S R at_ E4 CM D9 Bq Cu D4)=.ok (B1 (h,low)):=by have:A3 AH (A0 6) (A0 9) (EI (DK ws Bk n a d0 sh FK S R at_ E4 CM D9 Bq Cu D4))=.ok (B1 (h,low)):=D5 (x:=.lst (S.map B1)) rfl rfl OV;rw[acQ,this,BA,if_pos (show Q1 (B1 (h,low))=true from rfl)]
  rw[cQ,b];rfl
 have AM:B5 9 (A3 DL (A0 9) (A4 (.int 1))) (DK ws Bk n a d0 sh FK S R at_ (.J (AS h)) (.J (B6 low)) D9 Bq Cu D4)=.ok (.Ay (DK ws Bk n a d0 sh FK S R (at_+1) (.J (AS h)) (.J (B6 low)) D9 Bq Cu D4)):=rfl;have BD:Hc 5 (CP (A2 (A4 (.str (Aw "at"))) (A2 (A3 AH (A0 10) (A4 (.int 0))) (AE)))) (A4 (.AO true)) (DK ws Bk n a d0 sh FK S R (at_+1) (.J (AS h)) (.J (B6 low)) D9 Bq Cu D4)=.ok (.Ay (DK ws Bk n a d0 sh (HC FK (0,(h.1:Int),0)) S R (at_+1) (.J (AS h)) (.J (B6 low)) D9 Bq Cu D4)):=Wu (k:=(0,(h.1:Int),0)) ED.Gm (XA D6) (by lia) rfl rfl rfl rfl;have nh:LK (BW sh ws Bk a) W (HC FK (0,(h.1:Int),0)) S R:=by
  refine⟨e2 ED.fn,λk AF=>?_,λk AF=>?_,ED.sn,ED.VX,ED.L8,ED.Iu,λs AJ z=>Xa (ED.Mv s AJ z)⟩
  .rcases X_ AF with AF|rfl
   .exact ED.Gm k AF
   .exact XA D6
  .rcases X_ AF with AF|rfl
   .exact ED.Ap k AF
   .exact⟨_,Pw,.inl rfl⟩
 have DF:=e1 FK (0,(h.1:Int),0);have gQ:∀k∈FK,k∈HC FK (0,(h.1:Int),0):=λk AF=>Xa AF;generalize HC FK (0,(h.1:Int),0)=IZ at BD nh DF gQ;rw[ct,Cy,A9,BA,EE,Cy,AM,BA,EE,Cy,BD,BA,EE];have I8:=ok.I8;have Mv:=lJ (l:=low) (n:=n) (by have:low<n:=IG.2;lia) (by lia);have AD:Oa (A2 (A0 11) (A2 (Bm CS (A2 (A0 1) (AE))) (AE))) (DK ws Bk n a d0 sh IZ S R (at_+1) (.J (AS h)) (.J (B6 low)) D9 Bq Cu D4)=.ok ((QP low (n-low)).map B6):=by
  have ln:Bm CS (A2 (A0 1) (AE)) (DK ws Bk n a d0 sh IZ S R (at_+1) (.J (AS h)) (.J (B6 low)) D9 Bq Cu D4)=.ok (.int (n:Int)):=by have:=RY (a:=A0 1) (ρ:=DK ws Bk n a d0 sh IZ S R (at_+1) (.J (AS h)) (.J (B6 low)) D9 Bq Cu D4) (xs:=C0 n Bk) rfl;rw[show(C0 n Bk).length=n by simp[C0]]at this;exact this
  have v11:A0 11 (DK ws Bk n a d0 sh IZ S R (at_+1) (.J (AS h)) (.J (B6 low)) D9 Bq Cu D4)=.ok (.int (low:Int)):=rfl;rw[abw,Eg,v11,BA,Eg,ln,BA,GF,BA,BA,BA];exact Mv
 refine se B6 (QP low (n-low)) (λj ρ=>∃Eb Ep I2 D9 Bq Cu D4,LK (BW sh ws Bk a) W Eb Ep I2/\(∀k∈IZ,k∈Eb)/\(∃X,Ep=S++X)/\(∀c∈(QP low (n-low)).take j,Done (BW sh ws Bk a) Eb Ep (h,c))/\ρ=DK ws Bk n a d0 sh Eb Ep I2 (at_+1) (.J (AS h)) (.J (B6 low)) D9 Bq Cu D4) AD ⟨IZ,S,R,D9,Bq,Cu,D4,nh,λ_ h=>h,⟨[],by simp⟩,(λc AK=>by simp at AK),rfl⟩ ?_ ?_
 .rintro j c _ Bz ⟨Eb,Ep,I2,D9,Bq,Cu,D4,VR,sub,⟨X,Ik⟩,fL,rfl⟩;have AK:=List.mem_range'_1.mp (KD Bz);have px:((h,c):AY)∈W.map (·.1):=up c AK.1 (by lia);obtain⟨pb,qX,Ed,PB,PC,lK,abj,nQ,⟨qb,i7⟩,rJ,e⟩:=aaU ok g hd Gd Gf px VR (at_+1) (.J (B6 low)) Bq Cu D4;have OF:BC 12 (B6 c) (DK ws Bk n a d0 sh Eb Ep I2 (at_+1) (.J (AS h)) (.J (B6 low)) D9 Bq Cu D4)=.ok (DK ws Bk n a d0 sh Eb Ep I2 (at_+1) (.J (AS h)) (.J (B6 low)) (.J (B6 c)) Bq Cu D4):=rfl;rw[OF,BA,e];refine⟨_,rfl,_,rfl,pb,qX,Ed,_,_,_,_,abj,λk AF=>nQ k (sub k AF),⟨X++qb,by rw[i7,Ik,Ru]⟩,λDp LU=>?_,rfl⟩;rw[Tj,Bz]at LU;rcases List.mem_append.mp LU with LU|LU
  .exact(fL Dp LU).mono nQ λt Aj=>by rw[i7];exact Fu _ Aj
  .have:Dp=c:=by simpa using LU
   rw[this];exact rJ
 .rintro _ ⟨Eb,Ep,I2,D9,Bq,Cu,D4,VR,sub,Ik,fL,rfl⟩;refine⟨_,rfl,Eb,Ep,I2,_,_,_,_,_,_,VR,λk AF=>sub k (gQ k AF),Ik,⟨sub _ DF,λc A6 AA=>fL c ?_⟩,rfl⟩;rw[d9 (Ci _)];exact List.mem_range'_1.mpr ⟨A6,by dsimp only at*;lia⟩
def acY:CN:=GC (Ah (A3 R_ (A0 9) (Bm CS (A2 (A0 6) (AE)))))
def EZ(FK:List C7):D:=.Ai (FK.map Fi) (FK.map λ_=>.AO true)
def nR:Ao:=AP (B5 9 (A4 (.int 0))) (AP (Jf acY ct) (OZ 5 (CC (A0 5))))
def nG:X5=AP (Kj 5)
  (AP (E_ 6 (C4 (A2 (CP (A2 (A0 2) (A2 (A4 (.int 0)) (AE)))) (AE))))
  (AP (UW 7 (L_ (CP (A2 (A0 2) (A2 (A4 (.int 0)) (AE))))) (A4 (.AO true)))
  (AP (Kj 8)
  (AP (C8 (Ah (A3 (Ar true) (A3 AH (A0 2) (A4 (.int 0))) (A0 4))) (La (A0 5)) (CK)) nR)))):=rfl
def nI(b:Ao):AP (Kj 5)
  (AP (E_ 6 (C4 (A2 (CP (A2 (A0 2) (A2 (A4 (.int 0)) (AE)))) (AE))))
  (AP (UW 7 (L_ (CP (A2 (A0 2) (A2 (A4 (.int 0)) (AE))))) (A4 (.AO true)))
  (AP (Kj 8) b))) [.J (.lst (ws.map CI)),.J (.lst (C0 n Bk)),.J (AS d0),.J (.int (a:Int)),.J (Cd sh),.un,.un,.un,.un,.un,.un,.un,.un,.un,.un,.un]=b [.J (.lst (ws.map CI)),.J (.lst (C0 n Bk)),.J (AS d0),.J (.int (a:Int)),.J (Cd sh),.ob (MN []),.Bw [B1 (d0,0)],.ob (.Ai [Dm (d0,0)] [.AO true]),.ob (.Ai [] []),.un,.un,.un,.un,.un,.un,.un]:=rfl
def nH(x0 Ex FC Hg LC:D):O0 [x0,Ex,FC,Hg,LC]=(X5 [.J x0,.J Ex,.J FC,.J Hg,.J LC,.un,.un,.un,.un,.un,.un,.un,.un,.un,.un,.un]).bind outD:=rfl
def abP(AJ:sh=some d0.1):O0 [.lst (ws.map CI),.lst (C0 n Bk),AS d0,.int (a:Int),Cd sh]=.ok (.v (EZ [])):=by have q:=T8 d0.1 sh;rw[decide_eq_true AJ]at q;have c:Ah (A3 (Ar true) (A3 AH (A0 2) (A4 (.int 0))) (A0 4)) [.J (.lst (ws.map CI)),.J (.lst (C0 n Bk)),.J (AS d0),.J (.int (a:Int)),.J (Cd sh),.ob (MN []),.Bw [B1 (d0,0)],.ob (.Ai [Dm (d0,0)] [.AO true]),.ob (.Ai [] []),.un,.un,.un,.un,.un,.un,.un]=.ok true:=Fc (D5 (x:=.int (d0.1:Int)) rfl rfl q);rw[nH,nG,nI,Cy,GS c,if_pos rfl];rfl
def abk(ok:JO cs ws Bk n a)(g:Good (CO cs cs.length) (BW sh ws Bk a) n d0 W U [])(hd:sh≠some d0.1)(Gd:W.length<=168)(h0:((d0,0):AY)∈W.map (·.1))(Gf:∀s:AY,s.1∈CO cs cs.length->∀o,BW sh ws Bk a s=.out o->o<4) :
  ∃FK S R,LK (BW sh ws Bk a) W FK S R/\((d0,0):AY)∈S/\(∀s∈S,Nn (BW sh ws Bk a) n FK S s)/\O0 [.lst (ws.map CI),.lst (C0 n Bk),AS d0,.int (a:Int),Cd sh]=.ok (.v (EZ FK)):=by
 suffices h:Ends (O0 [.lst (ws.map CI),.lst (C0 n Bk),AS d0,.int (a:Int),Cd sh]) (λy=>∃FK S R,LK (BW sh ws Bk a) W FK S R/\((d0,0):AY)∈S/\(∀s∈S,Nn (BW sh ws Bk a) n FK S s)/\y=.v (EZ FK))by
  obtain⟨y,e,FK,S,R,A6,AA,B4,rfl⟩:=h;exact⟨FK,S,R,A6,AA,B4,e⟩
 have q:=T8 d0.1 sh;rw[decide_eq_false hd]at q;have c:Ah (A3 (Ar true) (A3 AH (A0 2) (A4 (.int 0))) (A0 4)) [.J (.lst (ws.map CI)),.J (.lst (C0 n Bk)),.J (AS d0),.J (.int (a:Int)),.J (Cd sh),.ob (MN []),.Bw [B1 (d0,0)],.ob (.Ai [Dm (d0,0)] [.AO true]),.ob (.Ai [] []),.un,.un,.un,.un,.un,.un,.un]=.ok false:=Fc (D5 (x:=.int (d0.1:Int)) rfl rfl q);have qv:∀b:Ao,AP (B5 9 (A4 (.int 0))) b [.J (.lst (ws.map CI)),.J (.lst (C0 n Bk)),.J (AS d0),.J (.int (a:Int)),.J (Cd sh),.ob (MN []),.Bw [B1 (d0,0)],.ob (.Ai [Dm (d0,0)] [.AO true]),.ob (.Ai [] []),.un,.un,.un,.un,.un,.un,.un]=b (DK ws Bk n a d0 sh [] [(d0,0)] [] 0 .un .un .un .un .un .un):=λb=>rfl;rw[nH,nG,nI,JI c,nR,qv,Cy,LB]
 refine V2 (λm ρ=>∃FK S R at_ E4 CM D9 Bq Cu D4,LK (BW sh ws Bk a) W FK S R/\((d0,0):AY)∈S/\at_<=S.length/\(∀(i:Nat) s,i<at_->S[i]?=some s->Nn (BW sh ws Bk a) n FK S s)/\m=169-at_/\ρ=DK ws Bk n a d0 sh FK S R at_ E4 CM D9 Bq Cu D4) (n:=169)
  ⟨[],[(d0,0)],[],0,.un,.un,.un,.un,.un,.un,⟨.nil,(λk AF=>nomatch AF),(λk AF=>nomatch AF),by simp,λs AJ=>by rw[List.mem_singleton.mp AJ];exact h0,.nil,(λk AF=>nomatch AF),(λk AF=>nomatch AF)⟩,by simp,by simp,(λi s AD=>by lia),rfl,rfl⟩ (by decide) ?_
 rintro m _ ⟨FK,S,R,at_,E4,CM,D9,Bq,Cu,D4,ED,Yb,i9,past,rfl,rfl⟩;obtain⟨f1,f2,Em⟩:=ED.few Gd;refine⟨decide (at_<S.length),?_,λAj=>?_,λAj=>?_⟩
 .have ln:Bm CS (A2 (A0 6) (AE)) (EI (DK ws Bk n a d0 sh FK S R at_ E4 CM D9 Bq Cu D4))=.ok (.int (S.length:Int)):=by
    have:=RY (a:=A0 6) (ρ:=EI (DK ws Bk n a d0 sh FK S R at_ E4 CM D9 Bq Cu D4)) (xs:=S.map B1) rfl;rw[GU]at this;exact this
  have:Ah (A3 R_ (A0 9) (Bm CS (A2 (A0 6) (AE)))) (EI (DK ws Bk n a d0 sh FK S R at_ E4 CM D9 Bq Cu D4))=.ok (decide ((at_:Int)<(S.length:Int))):=Fc (D5 (x:=.int (at_:Int)) rfl ln (xG _ _));show Ah (A3 R_ (A0 9) (Bm CS (A2 (A0 6) (AE)))) (EI (DK ws Bk n a d0 sh FK S R at_ E4 CM D9 Bq Cu D4))=_;rw[this]
  congr 1
  by_cases q:at_<S.length
  .have:(at_:Int)<(S.length:Int):=by lia
   simp[q,this]
  .have:¬(at_:Int)<(S.length:Int):=by lia
   simp[q,this]
 .have Aj:at_<S.length:=by simpa using Aj
  refine(acX ok g hd Gd Gf ED Aj E4 CM D9 Bq Cu D4).mono ?_;rintro f ⟨ρ,rfl,Eb,Ep,I2,E4,CM,D9,Bq,Cu,D4,VR,sub,⟨X,rfl⟩,zW,rfl⟩;refine⟨_,rfl,169-(at_+1),by lia,Eb,S++X,I2,at_+1,E4,CM,D9,Bq,Cu,D4,VR,Fu _ Yb,by simp;lia,λi s AD AJ=>?_,rfl,rfl⟩;have SV:i<S.length:=by lia
  rw[Jm SV]at AJ;by_cases q:i=at_
  .subst q;rw[Df SV]at AJ;cases AJ;exact zW
  .exact(past i s (by lia) AJ).mono sub λt Aj=>Fu _ Aj
 .have Aj:¬at_<S.length:=by simpa using Aj
  have all:∀s∈S,Nn (BW sh ws Bk a) n FK S s:=λs AJ=>by obtain⟨i,AD,rfl⟩:=QC AJ;exact past i _ (by lia) (Df AD)
  exact⟨.v (EZ FK),rfl,FK,S,R,ED,Yb,all,rfl⟩
def found_iff(g:Good (CO cs cs.length) (BW sh ws Bk a) n d0 W U [])(hd:sh≠some d0.1){FK:List C7}{S R:List AY}(ED:LK (BW sh ws Bk a) W FK S R)(Gg:((d0,0):AY)∈S)(Aq:∀s∈S,Nn (BW sh ws Bk a) n FK S s)(k:C7):k∈FK↔gi sh (BW sh ws Bk a) n d0 k:=by
 have low:∀s,MG (BW sh ws Bk a) n d0 s->∃t∈S,t.1=s.1/\t.2<=s.2/\s.2<n:=λs h=>by
  induction h with
  |st k AF=>exact⟨_,Gg,rfl,J1 _,AF⟩
  |go s e k _ AV A6 AA CA=>obtain⟨t,Aj,A9,AM,BD⟩:=CA;have:=((Aq t Aj).2 s.2 AM BD).2.2 e (by rw[A9];exact AV);exact⟨_,this,rfl,A6,AA⟩
 constructor
 .intro AF;obtain⟨s,AJ,w⟩:=ED.Ap k AF;refine⟨hd,?_⟩;rcases w with rfl|⟨A6,rfl⟩|⟨rfl,j,t,Bz,m,hm,B3⟩
  .exact⟨s,YD g AJ,.inl rfl⟩
  .exact⟨s,YD g AJ,.inr (.inl ⟨A6,rfl⟩)⟩
  .exact⟨t,YD g (YH g AJ j t Bz),.inr (.inr ⟨rfl,m,hm,B3⟩)⟩
 .rintro⟨_,s,r,w⟩;obtain⟨t,Aj,A9,AM,BD⟩:=low s r;have p:=Aq t Aj;have C_:=p.2 s.2 AM BD;rw[A9]at C_;rcases w with rfl|⟨A6,rfl⟩|⟨rfl,m,hm,B3⟩
  .rw[<-A9];exact p.1
  .exact C_.2.1 A6
  .exact C_.1 ⟨0,s,rfl,m,hm,B3⟩
end
def gO{α:Type}(f:α->Bool)(l:List α):CT.MJ [.lst (l.map λa=>D.AO (f a))]=.ok (.AO (l.any f)):=by simp[CT.MJ,f8,QJ]
def gP{l:List C7}{k:C7}(AN:∀x∈l,x∈F7)(AF:U2 k):(l.map Fi).any (λy=>decide (y=Fi k))=decide (k∈l):=by
 rw[GV,NK,decide_eq_true_iff];constructor
 .rintro⟨y,BO,e⟩;obtain⟨x,AI,rfl⟩:=List.mem_map.mp BO;rw[<-kj (XE (AN x AI)) AF (of_decide_eq_true e)];exact AI
 .intro h;exact⟨Fi k,List.mem_map.mpr ⟨k,h,rfl⟩,by simp⟩
def nA(y:KR){l m:List C7}(h:∀k,k∈l↔k∈m):TN y l=TN y m:=by
 have al:∀p q:C7->Bool,(l.filter p).all q=(m.filter p).all q:=λp q=>by rw[GV,MU,MU];exact⟨λz k AF=>z k (List.mem_filter.mpr ⟨(h k).mpr (List.mem_filter.mp AF).1,(List.mem_filter.mp AF).2⟩),λz k AF=>z k (List.mem_filter.mpr ⟨(h k).mp (List.mem_filter.mp AF).1,(List.mem_filter.mp AF).2⟩)⟩
 cases y with
 |never x=>show(!decide _)=!decide _;rw[GV];simp[h]
 |_=>exact al _ _
def gE:Ao:=C8 (Ah (A3 (Ar true) (A3 AH (A0 2) (A4 (.int 0))) (A4 (.str (Aw "by"))))) (B5 4 (A3 AH (A0 2) (A4 (.int 3)))) (CK)
def Hm(s:String):CN:=Ah (A3 (Ar true) (A3 AH (A0 2) (A4 (.int 0))) (A4 (.str (Aw s))))
def UI:Au:=DE 1 [] (Sk (A0 5)) (BC 0) (Ah (A3 (Ar false) (A3 AH (A0 0) (A4 (.int 0))) (A4 (.str (Aw "at"))))) (A0 0)
def gF:Ab:=A3 (EW true) (CP (A2 (A4 (.str (Aw "at"))) (A2 (A3 AH (A0 2) (A4 (.int 3))) (AE)))) (A0 5)
def gG:Ab:=A3 (EW true) (CP (A2 (A4 (.str (Aw "ring"))) (AE))) (A0 5)
def UG:Au:=DE 1 [] (ER (A0 6)) (BC 0) (Ee) (A3 (Ar false) (A3 AH (A0 0) (A4 (.int 0))) (A4 (.str (Aw "out"))))
def UH:Au:=DE 1 [2] (ER (A0 6)) (BC 0) (Ee) (A3 (Ar false) (A0 0) (A3 K0 (CP (A2 (A4 (.str (Aw "out"))) (AE))) (A3 AH (A0 1) (A4 (.int 3)))))
def qm:Wz=AP (B5 4 (A4 .non)) (AP gE
  (AP (B5 5 (Bo 5 O0 (A2 (A0 0) (A2 (A0 1) (A2 (A3 AH (A0 2) (A4 (.int 2))) (A2 (A0 3) (A2 (A0 4) (AE))))))))
  (AP (Oc 6 UI)
  (AP (C8 (Hm "by") (CC (A3 (Ar false) (A0 6) (BH (C4 (AE))))) (CK))
  (AP (C8 (Hm "never") (CC gF) (CK))
  (AP (C8 (Hm "noring") (CC gG) (CK))
  (AP (C8 (Hm "leaves") (CC (Bm CT.MJ (A2 (BH UG) (AE)))) (CK))
  (CC (Bm CT.MJ (A2 (BH UH) (AE))))))))))):=rfl
def yr{k:C7}(h:k∈F7)(h0:k.1≠0)(e:AU):Ar false (Bg k) (.tup [st "out",.int (e.1:Int),.int (e.2:Int)])=.ok (.AO (!Gk (.comes e) k)):=by
 rcases N4 h with⟨x,rfl⟩|⟨x,rfl⟩|⟨x,z,rfl⟩|rfl
 .exact absurd rfl h0
 .have:¬((1,x,0):C7)=(2,(e.1:Int),(e.2:Int)):=λz=>by cases z
  simp only[Gk,decide_eq_false this];rfl
 .have:Ar false (.tup [st "out",.int x,.int z]) (.tup [st "out",.int (e.1:Int),.int (e.2:Int)])=.ok (.AO (!((x==(e.1:Int))&&((z==(e.2:Int))&&true)))):=rfl;rw[hs,this]
  congr 3
  rw[GV,FV,FV,beq_iff_eq,beq_iff_eq];simp[Gk]
 .have:¬((3,0,0):C7)=(2,(e.1:Int),(e.2:Int)):=λz=>by cases z
  simp only[Gk,decide_eq_false this];rfl
set_option maxHeartbeats 4000000 in
def gH{X Y:D}{a:Nat}{p:Str}{d0:AU}{y:KR}{FK:List C7}(Gm:∀k∈FK,k∈F7)(IS:FK.length<=37)(e:O0 [X,Y,AS d0,.int (a:Int),Cd (Dn y)]=.ok (.v (EZ FK))):PV [X,Y,Bn p d0 y,.int (a:Int)]=.ok (.v (.AO (!TN y FK))):=by
 apply Ends.done;have EY:∀x0 Ex FC Hg:D,PV [x0,Ex,FC,Hg]=(Wz [.J x0,.J Ex,.J FC,.J Hg,.un,.un,.un]).bind outD:=λ_ _ _ _=>rfl;have f1:∀b:Ao,AP (B5 4 (A4 .non)) (AP gE b) [.J X,.J Y,.J (Bn p d0 y),.J (.int (a:Int)),.un,.un,.un]=b [.J X,.J Y,.J (Bn p d0 y),.J (.int (a:Int)),.J (Cd (Dn y)),.un,.un]:=λb=>by cases y<;>rfl
 have Bl:AH (Bn p d0 y) (.int 2)=.ok (AS d0):=by cases y<;>rfl
 have f2:B5 5 (Bo 5 O0 (A2 (A0 0) (A2 (A0 1) (A2 (A3 AH (A0 2) (A4 (.int 2))) (A2 (A0 3) (A2 (A0 4) (AE))))))) [.J X,.J Y,.J (Bn p d0 y),.J (.int (a:Int)),.J (Cd (Dn y)),.un,.un]=.ok (.Ay [.J X,.J Y,.J (Bn p d0 y),.J (.int (a:Int)),.J (Cd (Dn y)),.J (EZ FK),.un]):=by refine IC (d:=EZ FK) ?_ rfl;simp only[OL,Eg,GF,v_var,RL,Zc,HQ,ID,IJ,BA,Bl,FU,Hk,if_true,e];rfl
 have ks:Sk (A0 5) [.J X,.J Y,.J (Bn p d0 y),.J (.int (a:Int)),.J (Cd (Dn y)),.J (EZ FK),.un]=.ok (FK.map Bg):=by show R.ok ((FK.map Fi).map N_)=_;rw[H7];rfl
 have ce:UI [.J X,.J Y,.J (Bn p d0 y),.J (.int (a:Int)),.J (Cd (Dn y)),.J (EZ FK),.un]=.ok ((FK.filter λk=>!decide (k.1=0)).map Bg):=by apply Ends.done;rw[<-Sv (UI _),UI];exact T5 Bg FK (λk=>!decide (k.1=0)) Bg ks (by lia) (λk AF=>oo (Gm k AF) _) (λk AF _=>rfl) ⟨_,rfl,rfl⟩
 have Em:Oc 6 UI [.J X,.J Y,.J (Bn p d0 y),.J (.int (a:Int)),.J (Cd (Dn y)),.J (EZ FK),.un]=.ok (.Ay [.J X,.J Y,.J (Bn p d0 y),.J (.int (a:Int)),.J (Cd (Dn y)),.J (EZ FK),.J (.lst ((FK.filter λk=>!decide (k.1=0)).map Bg))]):=by rw[o9,oA,ce];rfl
 have Ow:∀k∈FK.filter λk=>!decide (k.1=0),k∈F7/\k.1≠0:=λk AF=>by obtain⟨A6,AA⟩:=List.mem_filter.mp AF;exact⟨Gm k A6,by simpa using AA⟩
 have ed:(FK.filter λk=>!decide (k.1=0)).length<=37:=FT (d3 _ _) IS;have Nb:∀z:KR,YG z=false->TN z FK=(FK.filter λk=>!decide (k.1=0)).all (Gk z):=λz BB=>by cases z<;>first|rfl|cases BB
 have ZL:∀q:C7->Prop,(∃k∈FK.filter (λk=>!decide (k.1=0)),q k)↔∃k∈FK,k.1≠0/\q k:=λq=>by
  constructor
  .rintro⟨k,AF,z⟩;exact⟨k,(List.mem_filter.mp AF).1,(Ow k AF).2,z⟩
  .rintro⟨k,AF,h0,z⟩;exact⟨k,List.mem_filter.mpr ⟨AF,by simpa using h0⟩,z⟩
 rw[EY,qm,f1,Cy,f2,BA,EE,Cy,Em,BA,EE];cases y with
 |LM h=>have BV:=Nb (.LM h) rfl;generalize FK.filter (λk=>!decide (k.1=0))=E at Ow ed BV;have q:=ne_nil (k3 (n:=6) λk AF=>(Ow k AF).1);have c:Hm "by" [.J X,.J Y,.J (Bn p d0 (.LM h)),.J (.int (a:Int)),.J (Cd (Dn (.LM h))),.J (EZ FK),.J (.lst (E.map Bg))]=.ok true:=rfl;have v:A3 (Ar false) (A0 6) (BH (C4 (AE))) [.J X,.J Y,.J (Bn p d0 (.LM h)),.J (.int (a:Int)),.J (Cd (Dn (.LM h))),.J (EZ FK),.J (.lst (E.map Bg))]=.ok (.AO (!(E.map Bg).isEmpty)):=D5 rfl rfl q;rw[Cy,GS c,if_pos rfl,Mu v];refine⟨_,rfl,?_⟩;rw[BV];cases E<;>rfl
 |never h=>
  have BU:Hm "by" [.J X,.J Y,.J (Bn p d0 (.never h)),.J (.int (a:Int)),.J (Cd (Dn (.never h))),.J (EZ FK),.J (.lst ((FK.filter λk=>!decide (k.1=0)).map Bg))]=.ok false:=rfl;have E3:Hm "never" [.J X,.J Y,.J (Bn p d0 (.never h)),.J (.int (a:Int)),.J (Cd (Dn (.never h))),.J (EZ FK),.J (.lst ((FK.filter λk=>!decide (k.1=0)).map Bg))]=.ok true:=rfl;have q:EW true (.tup [st "at",B6 h]) (EZ FK)=.ok (.AO (decide (((0,(h:Int),0):C7)∈FK))):=by have kt:I4 (.tup [st "at",B6 h])=some (Fi (0,(h:Int),0)):=rfl;simp only[EW,EZ,kt,gP (k:=(0,(h:Int),0)) Gm (.inl rfl)];rfl
  have v:gF [.J X,.J Y,.J (Bn p d0 (.never h)),.J (.int (a:Int)),.J (Cd (Dn (.never h))),.J (EZ FK),.J (.lst ((FK.filter λk=>!decide (k.1=0)).map Bg))]=.ok (.AO (decide (((0,(h:Int),0):C7)∈FK))):=D5 rfl rfl q;rw[JI BU,Cy,GS E3,if_pos rfl,Mu v];refine⟨_,rfl,?_⟩;show _=CG.v (.AO (!(!decide _)));rw[Bool.not_not]
 |Ir=>
  have BU:Hm "by" [.J X,.J Y,.J (Bn p d0 .Ir),.J (.int (a:Int)),.J (Cd (Dn .Ir)),.J (EZ FK),.J (.lst ((FK.filter λk=>!decide (k.1=0)).map Bg))]=.ok false:=rfl;have E3:Hm "never" [.J X,.J Y,.J (Bn p d0 .Ir),.J (.int (a:Int)),.J (Cd (Dn .Ir)),.J (EZ FK),.J (.lst ((FK.filter λk=>!decide (k.1=0)).map Bg))]=.ok false:=rfl;have FF:Hm "noring" [.J X,.J Y,.J (Bn p d0 .Ir),.J (.int (a:Int)),.J (Cd (Dn .Ir)),.J (EZ FK),.J (.lst ((FK.filter λk=>!decide (k.1=0)).map Bg))]=.ok true:=rfl;have q:EW true (.tup [st "ring"]) (EZ FK)=.ok (.AO (decide (((3,0,0):C7)∈FK))):=by have kt:I4 (.tup [st "ring"])=some (Fi (3,0,0)):=rfl;simp only[EW,EZ,kt,gP (k:=(3,0,0)) Gm (.inr (.inr (.inr rfl)))];rfl
  have v:gG [.J X,.J Y,.J (Bn p d0 .Ir),.J (.int (a:Int)),.J (Cd (Dn .Ir)),.J (EZ FK),.J (.lst ((FK.filter λk=>!decide (k.1=0)).map Bg))]=.ok (.AO (decide (((3,0,0):C7)∈FK))):=D5 rfl rfl q;rw[JI BU,JI E3,Cy,GS FF,if_pos rfl,Mu v];refine⟨_,rfl,?_⟩;have BF:decide (((3,0,0):C7)∈FK)=!(FK.filter λk=>!decide (k.1=0)).all (Gk .Ir):=by
   rw[GV,decide_eq_true_iff,d7,NK,ZL];constructor
   .intro z;exact⟨_,z,by decide,rfl⟩
   .rintro⟨k,AF,h0,z⟩;rcases N4 (Gm k AF)with⟨x,rfl⟩|⟨x,rfl⟩|⟨x,y,rfl⟩|rfl
    .cases z
    .cases z
    .cases z
    .exact AF
  rw[Nb .Ir rfl,BF]
 |leaves=>
  have BU:Hm "by" [.J X,.J Y,.J (Bn p d0 .leaves),.J (.int (a:Int)),.J (Cd (Dn .leaves)),.J (EZ FK),.J (.lst ((FK.filter λk=>!decide (k.1=0)).map Bg))]=.ok false:=rfl;have E3:Hm "never" [.J X,.J Y,.J (Bn p d0 .leaves),.J (.int (a:Int)),.J (Cd (Dn .leaves)),.J (EZ FK),.J (.lst ((FK.filter λk=>!decide (k.1=0)).map Bg))]=.ok false:=rfl;have FF:Hm "noring" [.J X,.J Y,.J (Bn p d0 .leaves),.J (.int (a:Int)),.J (Cd (Dn .leaves)),.J (EZ FK),.J (.lst ((FK.filter λk=>!decide (k.1=0)).map Bg))]=.ok false:=rfl;have HW:Hm "leaves" [.J X,.J Y,.J (Bn p d0 .leaves),.J (.int (a:Int)),.J (Cd (Dn .leaves)),.J (EZ FK),.J (.lst ((FK.filter λk=>!decide (k.1=0)).map Bg))]=.ok true:=rfl;rw[JI BU,JI E3,JI FF,Cy,GS HW,if_pos rfl,Nb .leaves rfl];generalize FK.filter (λk=>!decide (k.1=0))=E at Ow ed;have fI:UG [.J X,.J Y,.J (Bn p d0 .leaves),.J (.int (a:Int)),.J (Cd (Dn .leaves)),.J (EZ FK),.J (.lst (E.map Bg))]=.ok (E.map λk=>.AO (!Gk .leaves k)):=by
   apply Ends.done;rw[<-Sv (UG _),UG];refine R0 Bg E (λk=>.AO (!Gk .leaves k)) rfl (by lia) (λk AF=>?_) ⟨_,rfl,rfl⟩;obtain⟨A6,AA⟩:=Ow k AF;rcases N4 A6 with⟨x,rfl⟩|⟨x,rfl⟩|⟨x,z,rfl⟩|rfl
   .exact absurd rfl AA
   .rfl
   .rfl
   .rfl
  have v:Bm CT.MJ (A2 (BH UG) (AE)) [.J X,.J Y,.J (Bn p d0 .leaves),.J (.int (a:Int)),.J (Cd (Dn .leaves)),.J (EZ FK),.J (.lst (E.map Bg))]=.ok (.AO (E.any λk=>!Gk .leaves k)):=by rw[TS,Eg,JL,fI,BA,BA,GF,BA,BA];exact gO (λk=>!Gk .leaves k) E
  rw[Mu v];refine⟨_,rfl,?_⟩;rw[d7]
 |comes Bp=>
  have BU:Hm "by" [.J X,.J Y,.J (Bn p d0 (.comes Bp)),.J (.int (a:Int)),.J (Cd (Dn (.comes Bp))),.J (EZ FK),.J (.lst ((FK.filter λk=>!decide (k.1=0)).map Bg))]=.ok false:=rfl;have E3:Hm "never" [.J X,.J Y,.J (Bn p d0 (.comes Bp)),.J (.int (a:Int)),.J (Cd (Dn (.comes Bp))),.J (EZ FK),.J (.lst ((FK.filter λk=>!decide (k.1=0)).map Bg))]=.ok false:=rfl;have FF:Hm "noring" [.J X,.J Y,.J (Bn p d0 (.comes Bp)),.J (.int (a:Int)),.J (Cd (Dn (.comes Bp))),.J (EZ FK),.J (.lst ((FK.filter λk=>!decide (k.1=0)).map Bg))]=.ok false:=rfl;have HW:Hm "leaves" [.J X,.J Y,.J (Bn p d0 (.comes Bp)),.J (.int (a:Int)),.J (Cd (Dn (.comes Bp))),.J (EZ FK),.J (.lst ((FK.filter λk=>!decide (k.1=0)).map Bg))]=.ok false:=rfl;rw[JI BU,JI E3,JI FF,JI HW,Nb (.comes Bp) rfl];generalize FK.filter (λk=>!decide (k.1=0))=E at Ow ed;have fI:UH [.J X,.J Y,.J (Bn p d0 (.comes Bp)),.J (.int (a:Int)),.J (Cd (Dn (.comes Bp))),.J (EZ FK),.J (.lst (E.map Bg))]=.ok (E.map λk=>.AO (!Gk (.comes Bp) k)):=by apply Ends.done;rw[<-Sv (UH _),UH];exact R0 Bg E (λk=>.AO (!Gk (.comes Bp) k)) rfl (by lia) (λk AF=>D5 rfl rfl (yr (Ow k AF).1 (Ow k AF).2 Bp)) ⟨_,rfl,rfl⟩
  have v:Bm CT.MJ (A2 (BH UH) (AE)) [.J X,.J Y,.J (Bn p d0 (.comes Bp)),.J (.int (a:Int)),.J (Cd (Dn (.comes Bp))),.J (EZ FK),.J (.lst (E.map Bg))]=.ok (.AO (E.any λk=>!Gk (.comes Bp) k)):=by rw[TS,Eg,JL,fI,BA,BA,GF,BA,BA];exact gO (λk=>!Gk (.comes Bp) k) E
  rw[Mu v];refine⟨_,rfl,?_⟩;rw[d7]
theorem hO:∀{xs:List D},(∀x∈xs,Cq x x=true)->Ea xs xs=true
 |[],_=>by simp[Ea]
 |x::xs,h=>by simp[Ea,h x (by simp),hO (xs:=xs) λy BO=>h y (by simp[BO])]
def sq:∀(n:Nat)(d:D),okN n d=true->Cq d d=true:=by
 intro n;induction n with
 |zero=>intro d h;cases d<;>simp[okN]at h<;>simp[Cq]
 |succ n CA=>
  intro d h;cases d<;>simp only[okN,Hh]at h<;>simp only[Cq,beq_self_eq_true]
  all_goals exact hO λx AI=>CA x (List.all_eq_true.mp h x AI)
def hR{d:D}(h:okN 8 d=true):Ar false d d=.ok (.AO false):=by simp[Ar,h,sq 8 d h]
def b7{α:Type}(f:α->D)(n:Nat)(l:List α)(h:∀x∈l,okN n (f x)=true):okN (n+1) (.lst (l.map f))=true:=by simp only[okN,Tt,MU];exact h
def yK(n:Nat)(r:D1):okN (n+1) (FI r)=true:=by
 have o:∀x:Option Nat,okN n (GE x)=true:=λx=>by cases x<;>cases n<;>rfl
 simp only[FI,okN,NR,Wj,o,QR]
def k4(n:Nat)(bs:List (List D1)):okN (n+3) (By bs)=true:=b7 DM (n+2) bs λb _=>b7 FI (n+1) b λr _=>yK n r
def JW(os nw:List (List D1))(row:List Nat):D:=.lst [By os,By nw,.lst (row.map B6)]
def yF(os nw:List (List D1))(row:List Nat):okN 8 (JW os nw row)=true:=by have A6:=k4 4 os;have AA:=k4 4 nw;have B4:=b7 B6 6 row λ_ _=>rfl;show([By os,By nw,.lst (row.map B6)]:List D).all (okN 7)=true;simp only[NR,Wj,A6,AA,B4,Bool.and_self]
def qL{ws:List (AU×AU)}{d:AU}(h:d∉ends ws):IR ws d=none:=by
 unfold IR;rw[Option.map_eq_none_iff,List.find?_eq_none];intro p AZ hd;have hd:p.1=d:=by simpa using hd
 unfold pairsOf at AZ;obtain⟨w,hw,BB⟩:=List.mem_flatMap.mp AZ;have Uc:∀x,x=w.1\/x=w.2->x∈ends ws:=λx AI=>List.mem_flatten.mpr ⟨[w.1,w.2],List.mem_map.mpr ⟨w,hw,rfl⟩,by simpa using AI⟩;simp only[Oi,NJ,or_false]at BB;rcases BB with rfl|rfl
 .exact h (hd▸Uc _ (.inl rfl))
 .exact h (hd▸Uc _ (.inr rfl))
def hj(bs:List (List D1))(i:Nat)(A1:bs.length<=1000)(ρ:AG)(h:A0 i ρ=.ok (By bs)):BH (DE 1 [] (ER (A0 i)) (BC 0) (Ee) (BH (I6 (A2 (A0 0) (AE))))) ρ=.ok (By bs):=by
 have c:DE 1 [] (ER (A0 i)) (BC 0) (Ee) (BH (I6 (A2 (A0 0) (AE)))) ρ=.ok (bs.map DM):=by apply Ends.done;rw[<-Sv (DE _ _ _ _ _ _ _)];refine R0 DM bs DM ?_ A1 (λb _=>rfl) ⟨_,rfl,rfl⟩;unfold ER;rw[h];rfl
 rw[JL,c];rfl
def zQ(y:Int):∃c,LL c/\AH (.lst [.str (Aw "0"),.str (Aw "1"),.str (Aw "x")]) (.int (y%3))=.ok (.str ⟨#[c]⟩):=by
 have h:y%3=0\/y%3=1\/y%3=2:=by lia
 rcases h with h|h|h<;>rw[h]
 .exact⟨48,.inl rfl,rfl⟩
 .exact⟨49,.inr (.inl rfl),rfl⟩
 .exact⟨120,.inr (.inr rfl),rfl⟩
def TW:Nat->D
 |0=>st "comes"
 |1=>st "leaves"
 |2=>st "noring"
 |3=>st "by"
 |_=>st "never"
def zU(y:Int):∃k,k<5/\AH (.lst [st "comes",st "leaves",st "noring",st "by",st "never"]) (.int (y%5))=.ok (TW k):=by
 obtain⟨k,AF,e⟩:=Ip y (n:=5) (by decide);have e:y%5=(k:Int):=e;refine⟨k,AF,?_⟩;rw[e];have h:k=0\/k=1\/k=2\/k=3\/k=4:=by lia
 rcases h with rfl|rfl|rfl|rfl|rfl<;>rfl
def mz:Ao:=B5 7 (A3 AH (A0 1) (A3 Ck (A0 3) (Bm CS (A2 (A0 1) (AE)))))
noncomputable def ZA:Ao:=AP (C8 (Ah (A3 (Ar true) (A0 4) (A4 (.str (Aw "comes"))))) (CC (A3 K0 (A0 8) (CP (A2 (A3 AH (A0 1) (A3 Ck (A3 Di (A0 3) (A4 (.int 20))) (Bm CS (A2 (A0 1) (AE))))) (AE))))) (CK))
    (AP (C8 (GD (Ah (A3 (Ar true) (A0 4) (A4 (.str (Aw "by"))))) (Ah (A3 (Ar true) (A0 4) (A4 (.str (Aw "never")))))) (CC (A3 K0 (A0 8) (CP (A2 (A3 Ck (A3 Di (A0 3) (A4 (.int 20))) (A0 2)) (AE))))) (CK))
    (CC (A0 8)))
def GH(x:Int)(O:List AU)(m:Nat)(z:Int)(w:Nat)(s5 DU DO s8:Bi):AG:=[.J (.int x),.J (.lst (O.map AS)),.J (.int (m:Int)),.J (.int z),.J (TW w),s5,DU,DO,s8]
def aa2(x:Int){O:List AU}(Qa:0<O.length){m:Nat}(hm:1<=m):∃p d y,I1 p/\d∈O/\Rm [.int x,.lst (O.map AS),.int (m:Int)]=.ok (.v (Bn p d y)):=by
 suffices h:Ends (Rm [.int x,.lst (O.map AS),.int (m:Int)]) (λt=>∃p d y,I1 p/\d∈O/\t=.v (Bn p d y))by
  obtain⟨t,e,p,d,y,A6,AA,rfl⟩:=h;exact⟨p,d,y,A6,AA,e⟩
 obtain⟨v,ev⟩:=M1 x 5 (by decide);have ev:FG [.int x,.int 5]=.ok (.v (.int v)):=ev;obtain⟨w,hw,HH⟩:=zU v;have EY:∀x0 Ex FC:D,Rm [x0,Ex,FC]=(X4 [.J x0,.J Ex,.J FC,.un,.un,.un,.un,.un,.un]).bind outD:=λ_ _ _=>rfl
 have BV:X4=AP (B5 3 (Bo 2 FG (A2 (A0 0) (A2 (A4 (.int 5)) (AE)))))
  (AP (B5 4 (A3 AH (BH (C4 (A2 (A4 (.str (Aw "comes"))) (A2 (A4 (.str (Aw "leaves"))) (A2 (A4 (.str (Aw "noring"))) (A2 (A4 (.str (Aw "by"))) (A2 (A4 (.str (Aw "never"))) (AE)))))))) (A3 Ck (A0 3) (A4 (.int 5)))))
  (AP (B5 3 (A3 Di (A0 3) (A4 (.int 5))))
  (AP (B5 5 (A4 (.str (Aw ""))))
  (AP (EC (Fs (A2 (A4 (.int 4)) (AE))) (BC 6) (AP (B5 5 (A3 DL (A0 5) (A3 AH (BH (C4 (A2 (A4 (.str (Aw "0"))) (A2 (A4 (.str (Aw "1"))) (A2 (A4 (.str (Aw "x"))) (AE)))))) (A3 Ck (A0 3) (A4 (.int 3))))))
  (B5 3 (A3 Di (A0 3) (A4 (.int 3))))))
  (AP mz (AP (B5 8 (CP (A2 (A0 4) (A2 (A0 5) (A2 (A0 7) (AE)))))) ZA)))))):=rfl
 have A9:B5 3 (Bo 2 FG (A2 (A0 0) (A2 (A4 (.int 5)) (AE)))) [.J (.int x),.J (.lst (O.map AS)),.J (.int (m:Int)),.un,.un,.un,.un,.un,.un]=.ok (.Ay [.J (.int x),.J (.lst (O.map AS)),.J (.int (m:Int)),.J (.int v),.un,.un,.un,.un,.un]):=IC (call2 rfl rfl ev) rfl;have AM:B5 4 (A3 AH (BH (C4 (A2 (A4 (.str (Aw "comes"))) (A2 (A4 (.str (Aw "leaves"))) (A2 (A4 (.str (Aw "noring"))) (A2 (A4 (.str (Aw "by"))) (A2 (A4 (.str (Aw "never"))) (AE)))))))) (A3 Ck (A0 3) (A4 (.int 5)))) [.J (.int x),.J (.lst (O.map AS)),.J (.int (m:Int)),.J (.int v),.un,.un,.un,.un,.un]=.ok (.Ay (GH x O m v w .un .un .un .un)):=IC (D5 (x:=.lst [st "comes",st "leaves",st "noring",st "by",st "never"]) rfl (D5 rfl rfl (Vt (by decide))) HH) rfl;have BD:B5 3 (A3 Di (A0 3) (A4 (.int 5))) (GH x O m v w .un .un .un .un)=.ok (.Ay (GH x O m (v/5) w .un .un .un .un)):=IC (D5 rfl rfl (YN (by decide) (by decide))) rfl;have Cp:B5 5 (A4 (.str (Aw ""))) (GH x O m (v/5) w .un .un .un .un)=.ok (.Ay (GH x O m (v/5) w (.J (.str (Aw ""))) .un .un .un)):=rfl;rw[EY,BV,Cy,A9,BA,EE,Cy,AM,BA,EE,Cy,BD,BA,EE,Cy,Cp,BA,EE,Cy,LB];refine R2 (λj:Nat=>D.int (j:Int)) (Ds 4) (λj ρ=>∃(z:Int)(p:Str)(DU:Bi),p.cps.toList.length=j/\(∀c∈p.cps.toList,LL c)/\ρ=GH x O m z w (.J (.str p)) DU .un .un) rfl ⟨v/5,Aw "",.un,SQ.1,SQ.2,rfl⟩ ?_ ?_
 .rintro j k _ Bz ⟨z,p,DU,AN,AJ,rfl⟩;have um:j<4:=by have:=(List.getElem?_eq_some_iff.mp Bz).1;simpa using this
  obtain⟨c,AK,e⟩:=zQ z;obtain⟨g1,g2,g3⟩:=cc (I:=λ_=>True) AN AJ AK um;have OF:BC 6 (.int (k:Int)) (GH x O m z w (.J (.str p)) DU .un .un)=.ok (GH x O m z w (.J (.str p)) (.J (.int (k:Int))) .un .un):=rfl;have A6:B5 5 (A3 DL (A0 5) (A3 AH (BH (C4 (A2 (A4 (.str (Aw "0"))) (A2 (A4 (.str (Aw "1"))) (A2 (A4 (.str (Aw "x"))) (AE)))))) (A3 Ck (A0 3) (A4 (.int 3))))) (GH x O m z w (.J (.str p)) (.J (.int (k:Int))) .un .un)=.ok (.Ay (GH x O m z w (.J (.str (p++(⟨#[c]⟩:Str)))) (.J (.int (k:Int))) .un .un)):=IC (D5 rfl (D5 rfl (D5 rfl rfl (Vt (by decide))) e) g1) rfl;have AA:B5 3 (A3 Di (A0 3) (A4 (.int 3))) (GH x O m z w (.J (.str (p++(⟨#[c]⟩:Str)))) (.J (.int (k:Int))) .un .un)=.ok (.Ay (GH x O m (z/3) w (.J (.str (p++(⟨#[c]⟩:Str)))) (.J (.int (k:Int))) .un .un)):=IC (D5 rfl rfl (YN (by decide) (by decide))) rfl;rw[OF,BA,Cy,A6,BA,EE,AA];exact⟨_,rfl,_,rfl,z/3,_,_,g2,g3,rfl⟩
 .rintro _ ⟨z,p,DU,AN,AJ,rfl⟩;have AZ:I1 p:=⟨AN,AJ⟩;have ln:∀s5 DU DO s8,Bm CS (A2 (A0 1) (AE)) (GH x O m z w s5 DU DO s8)=.ok (.int (O.length:Int)):=λs5 DU DO s8=>by
   have:=RY (a:=A0 1) (ρ:=GH x O m z w s5 DU DO s8) (xs:=O.map AS) rfl;rw[GU]at this;exact this
  obtain⟨i,AD,F0⟩:=Ip z Qa;obtain⟨Bl,am,s_⟩:=Ip (z/20) Qa;obtain⟨q,AW,eq⟩:=Ip (z/20) (n:=m) (by lia);have El:mz (GH x O m z w (.J (.str p)) DU .un .un)=.ok (.Ay (GH x O m z w (.J (.str p)) DU (.J (AS O[i])) .un)):=by refine IC (D5 rfl (D5 rfl (ln _ _ _ _) (Vt (by lia))) ?_) rfl;rw[F0];exact Io (by simp[AD])
  have N7:B5 8 (CP (A2 (A0 4) (A2 (A0 5) (A2 (A0 7) (AE))))) (GH x O m z w (.J (.str p)) DU (.J (AS O[i])) .un)=.ok (.Ay (GH x O m z w (.J (.str p)) DU (.J (AS O[i])) (.J (.tup [TW w,.str p,AS O[i]])))):=rfl;have v1:∀d s,A3 AH (A0 1) (A3 Ck (A3 Di (A0 3) (A4 (.int 20))) (Bm CS (A2 (A0 1) (AE)))) (GH x O m z w (.J (.str p)) DU d s)=.ok (AS O[Bl]):=λd s=>by refine D5 rfl (D5 (D5 rfl rfl (YN (by decide) (by decide))) (ln _ _ _ _) (Vt (by lia))) ?_;rw[s_];exact Io (by simp[am])
  have v2:∀d s,A3 Ck (A3 Di (A0 3) (A4 (.int 20))) (A0 2) (GH x O m z w (.J (.str p)) DU d s)=.ok (B6 q):=λd s=>by refine D5 (D5 rfl rfl (YN (by decide) (by decide))) rfl ?_;rw[B6,<-eq];exact Vt (by lia)
  rw[EE,Cy,El,BA,EE,Cy,N7,BA,EE];have T2:O[i]∈O:=MV _;generalize O[i]=d at T2;generalize O[Bl]=C_ at v1;have h:w=0\/w=1\/w=2\/w=3\/w=4:=by lia
  rcases h with rfl|rfl|rfl|rfl|rfl
  .have r:A3 K0 (A0 8) (CP (A2 (A3 AH (A0 1) (A3 Ck (A3 Di (A0 3) (A4 (.int 20))) (Bm CS (A2 (A0 1) (AE))))) (AE))) (GH x O m z 0 (.J (.str p)) DU (.J (AS d)) (.J (.tup [TW 0,.str p,AS d])))=.ok (Bn p d (.comes C_)):=by
     refine D5 (y:=.tup [AS C_]) rfl ?_ rfl;rw[TU,Eg,v1];rfl
   refine⟨.v (Bn p d (.comes C_)),?_,p,d,.comes C_,AZ,T2,rfl⟩;rw[ZA,Cy,GS (k:=true) rfl,if_pos rfl,Mu r];rfl
  .exact⟨.v (Bn p d .leaves),rfl,p,d,.leaves,AZ,T2,rfl⟩
  .exact⟨.v (Bn p d .Ir),rfl,p,d,.Ir,AZ,T2,rfl⟩
  .have r:A3 K0 (A0 8) (CP (A2 (A3 Ck (A3 Di (A0 3) (A4 (.int 20))) (A0 2)) (AE))) (GH x O m z 3 (.J (.str p)) DU (.J (AS d)) (.J (.tup [TW 3,.str p,AS d])))=.ok (Bn p d (.LM q)):=by
     refine D5 (y:=.tup [B6 q]) rfl ?_ rfl;rw[TU,Eg,v2];rfl
   refine⟨.v (Bn p d (.LM q)),?_,p,d,.LM q,AZ,T2,rfl⟩;rw[ZA,JI (c:=Ah (A3 (Ar true) (A0 4) (A4 (.str (Aw "comes"))))) rfl,Cy,GS (k:=true) rfl,if_pos rfl,Mu r];rfl
  .have r:A3 K0 (A0 8) (CP (A2 (A3 Ck (A3 Di (A0 3) (A4 (.int 20))) (A0 2)) (AE))) (GH x O m z 4 (.J (.str p)) DU (.J (AS d)) (.J (.tup [TW 4,.str p,AS d])))=.ok (Bn p d (.never q)):=by
     refine D5 (y:=.tup [B6 q]) rfl ?_ rfl;rw[TU,Eg,v2];rfl
   refine⟨.v (Bn p d (.never q)),?_,p,d,.never q,AZ,T2,rfl⟩;rw[ZA,JI (c:=Ah (A3 (Ar true) (A0 4) (A4 (.str (Aw "comes"))))) rfl,Cy,GS (k:=true) rfl,if_pos rfl,Mu r];rfl
def pr{cs:List Nat}{ws:List (AU×AU)}{os nw:List (List D1)}{row:List Nat}{d0:AU}(EA:KO cs ws)(F6:G7 cs os)(bn:G7 cs nw)(B3:row.length<=6)(hd:d0∈CO cs cs.length){p:Str}(AZ:I1 p)(y:KR) :
  ∃o:Option Nat,Sp [CW cs ws,By os,By nw,.lst (row.map B6),Bn p d0 y]=.ok (.v (Ga o))/\SK [.lst (ws.map CI),.lst (C0 (row.length+1) (Dw os nw row)),Bn p d0 y]=.ok (.v (Ga o)):=by
 have D6:=EA.D6;have one:∀a:Nat,a<16->∃b:Bool,Mq [CW cs ws,.lst (C0 (row.length+1) (Dw os nw row)),Bn p d0 y,.int (a:Int)]=.ok (.v (.AO b))/\PV [.lst (ws.map CI),.lst (C0 (row.length+1) (Dw os nw row)),Bn p d0 y,.int (a:Int)]=.ok (.v (.AO (!b))):=λa AB=>by
  obtain⟨P,W,U,O5,Bf,A9,AM⟩:=xQ EA F6 bn B3 AB hd (Dn y);refine⟨_,acp O5 A9 AM,?_⟩;by_cases AJ:Dn y=some d0.1
  .have e:=gH (p:=p) (y:=y) (FK:=[]) (X:=.lst (ws.map CI)) (Y:=.lst (C0 (row.length+1) (Dw os nw row))) (a:=a) (d0:=d0) (λ_ h=>nomatch h) (J1 _) (abP AJ);rw[e,nA y (l:=P.map (·.1)) (m:=[]) λk=>(Bf k).trans ⟨λh=>absurd AJ h.1,λh=>nomatch h⟩]
  .have ok:=RE (row:=row) EA F6 bn B3 AB;obtain⟨gA,g8,g,h0,_⟩:=oF (sh:=Dn y) ok AJ hd;have NH:=Mi EA.c cs.length;have Gd:=g.few (by lia) ok.I8;obtain⟨FK,S,R,ED,Gg,Aq,el⟩:=abk ok g AJ Gd h0 λs AJ o h=>kE EA F6 bn s AJ o h;have tv:=found_iff g AJ ED Gg Aq;rw[gH ED.Gm (ED.few Gd).1 el,nA y λk=>(Bf k).trans (tv k).symm]
 let F:Nat->Bool:=λa=>match Mq [CW cs ws,.lst (C0 (row.length+1) (Dw os nw row)),Bn p d0 y,.int (a:Int)]with
  |.ok (.v (.AO b))=>b
  |_=>false
 have Hs:∀a:Nat,a<16->Mq [CW cs ws,.lst (C0 (row.length+1) (Dw os nw row)),Bn p d0 y,.int (a:Int)]=.ok (.v (.AO (F a)))/\PV [.lst (ws.map CI),.lst (C0 (row.length+1) (Dw os nw row)),Bn p d0 y,.int (a:Int)]=.ok (.v (.AO (!F a))):=λa AB=>by
  obtain⟨b,A6,AA⟩:=one a AB;have:F a=b:=by show(match Mq _ with|.ok (.v (.AO b))=>b|_=>false)=b;rw[A6]
  rw[this];exact⟨A6,AA⟩
 generalize F=F at Hs;exact⟨_,ps (by rw[F6.l];exact D6) (by rw[bn.l,F6.l]) B3 AZ λa AB=>(Hs a AB).1,xp AZ λa AB=>(Hs a AB).2⟩
noncomputable def Fq(ns:List Int)(cs:List Nat)(ws:List (AU×AU))(os nw:List (List D1))(row:List Nat)(O:List AU)(s9 E4 CM D9 Bq:Bi):AG:=[.J (.Co (ns.map D.int)),.J (.lst (CH cs)),.J (.lst (ws.map CI)),.J (By os),.J (By nw),.J (.lst (O.map AS)),.J (.lst (row.map B6)),.J (.lst (C0 (row.length+1) (Dw os nw row))),.J (CW cs ws),s9,E4,CM,D9,Bq]
noncomputable def kO:Ao:=B5 11 (BH (C4 (A2 (BH (DE 1 [] (ER (A0 3)) (BC 0) (Ee) (BH (I6 (A2 (A0 0) (AE)))))) (A2 (BH (DE 1 [] (ER (A0 4)) (BC 0) (Ee) (BH (I6 (A2 (A0 0) (AE)))))) (A2 (BH (I6 (A2 (A0 6) (AE)))) (AE))))))
def kN:Ao:=B5 12 (Bo 5 Sp (A2 (A0 8) (A2 (A3 AH (A0 11) (A4 (.int 0))) (A2 (A3 AH (A0 11) (A4 (.int 1))) (A2 (A3 AH (A0 11) (A4 (.int 2))) (A2 (A0 10) (AE)))))))
def kP:Ao:=B5 13 (Bo 3 SK (A2 (A0 2) (A2 (A0 7) (A2 (A0 10) (AE)))))
def jQ:CN:=GD (Eu (Ah (A3 (Fa true) (A0 13) (A4 .non))) (Ah (A3 (Fa false) (A0 12) (A4 .non)))) (Ah (A3 (Ar false) (A0 11) (BH (C4 (A2 (A0 3) (A2 (A0 4) (A2 (A0 6) (AE))))))))
def kM:CN:=Eu (Ah (A3 (Fa false) (A0 13) (A4 .non))) (GD (Ah (A3 (Ar false) (A0 12) (A0 13))) (Ah (Cj (K3 "bool") (A0 12))))
def bY:Ao:=AP (B5 10 (Bo 3 Rm (A2 (A0 9) (A2 (A0 5) (A2 (Bm CS (A2 (A0 1) (AE))) (AE))))))
    (AP kO (AP kN (AP kP (AP (C8 jQ (CC (A4 (.AO false))) (CK)) (C8 kM (CC (A4 (.AO false))) (CK))))))
section
variable{ns:List Int}{cs:List Nat}{ws:List (AU×AU)}{os nw:List (List D1)}{row:List Nat}{O:List AU}
def xI(F6:os.length<=1000)(bn:nw.length<=1000)(s9 E4 CM D9 Bq:Bi):kO (Fq ns cs ws os nw row O s9 E4 CM D9 Bq)=.ok (.Ay (Fq ns cs ws os nw row O s9 E4 (.J (JW os nw row)) D9 Bq)):=by have BU:=hj os 3 F6 (Fq ns cs ws os nw row O s9 E4 CM D9 Bq) rfl;have E3:=hj nw 4 bn (Fq ns cs ws os nw row O s9 E4 CM D9 Bq) rfl;have FF:BH (I6 (A2 (A0 6) (AE))) (Fq ns cs ws os nw row O s9 E4 CM D9 Bq)=.ok (.lst (row.map B6)):=rfl;refine IC (d:=JW os nw row) ?_ rfl;rw[JL,Zd,Eg,BU,BA,Eg,E3,BA,Eg,FF];rfl
def xH(EA:KO cs ws)(F6:G7 cs os)(bn:G7 cs nw)(B3:row.length<=6)(AK:1<=cs.length)(Gf:∀d∈O,d∈CO cs cs.length)(Qa:0<O.length)(x:Int)(E4 CM D9 Bq:Bi) :
  Ends (bY (Fq ns cs ws os nw row O (.J (.int x)) E4 CM D9 Bq)) (I_ λρ=>∃s9 E4 CM D9 Bq,ρ=Fq ns cs ws os nw row O s9 E4 CM D9 Bq):=by
 have D6:=EA.D6;obtain⟨p,d,y,AZ,hd,A5⟩:=aa2 x Qa AK;obtain⟨o,BV,el⟩:=pr EA F6 bn B3 (Gf d hd) AZ y;have ln:Bm CS (A2 (A0 1) (AE)) (Fq ns cs ws os nw row O (.J (.int x)) E4 CM D9 Bq)=.ok (.int (cs.length:Int)):=by have:=RY (a:=A0 1) (ρ:=Fq ns cs ws os nw row O (.J (.int x)) E4 CM D9 Bq) (xs:=CH cs) rfl;rw[show(CH cs).length=cs.length by simp[CH]]at this;exact this
 have A9:B5 10 (Bo 3 Rm (A2 (A0 9) (A2 (A0 5) (A2 (Bm CS (A2 (A0 1) (AE))) (AE))))) (Fq ns cs ws os nw row O (.J (.int x)) E4 CM D9 Bq)=.ok (.Ay (Fq ns cs ws os nw row O (.J (.int x)) (.J (Bn p d y)) CM D9 Bq)):=by refine IC (d:=Bn p d y) ?_ rfl;have Vi:A0 9 (Fq ns cs ws os nw row O (.J (.int x)) E4 CM D9 Bq)=.ok (.int x):=rfl;have acN:A0 5 (Fq ns cs ws os nw row O (.J (.int x)) E4 CM D9 Bq)=.ok (.lst (O.map AS)):=rfl;simp only[OL,Eg,GF,Vi,acN,ln,BA,FU,Hk,if_true,A5];rfl
 have AM:=xI (ns:=ns) (cs:=cs) (ws:=ws) (os:=os) (nw:=nw) (row:=row) (O:=O) (by rw[F6.l];lia) (by rw[bn.l];lia) (.J (.int x)) (.J (Bn p d y)) CM D9 Bq;have BD:kN (Fq ns cs ws os nw row O (.J (.int x)) (.J (Bn p d y)) (.J (JW os nw row)) D9 Bq)=.ok (.Ay (Fq ns cs ws os nw row O (.J (.int x)) (.J (Bn p d y)) (.J (JW os nw row)) (.J (Ga o)) Bq)):=by refine IC (d:=Ga o) ?_ rfl;have B8:A2 (A0 8) (A2 (A3 AH (A0 11) (A4 (.int 0))) (A2 (A3 AH (A0 11) (A4 (.int 1))) (A2 (A3 AH (A0 11) (A4 (.int 2))) (A2 (A0 10) (AE))))) (Fq ns cs ws os nw row O (.J (.int x)) (.J (Bn p d y)) (.J (JW os nw row)) D9 Bq)=.ok [CW cs ws,By os,By nw,.lst (row.map B6),Bn p d y]:=rfl;rw[OL,B8,BA,if_pos (show([CW cs ws,By os,By nw,.lst (row.map B6),Bn p d y]:List D).length=5 from rfl),BV];rfl
 have Cp:kP (Fq ns cs ws os nw row O (.J (.int x)) (.J (Bn p d y)) (.J (JW os nw row)) (.J (Ga o)) Bq)=.ok (.Ay (Fq ns cs ws os nw row O (.J (.int x)) (.J (Bn p d y)) (.J (JW os nw row)) (.J (Ga o)) (.J (Ga o)))):=by refine IC (d:=Ga o) ?_ rfl;have B8:A2 (A0 2) (A2 (A0 7) (A2 (A0 10) (AE))) (Fq ns cs ws os nw row O (.J (.int x)) (.J (Bn p d y)) (.J (JW os nw row)) (.J (Ga o)) Bq)=.ok [.lst (ws.map CI),.lst (C0 (row.length+1) (Dw os nw row)),Bn p d y]:=rfl;rw[OL,B8,BA,if_pos (show([.lst (ws.map CI),.lst (C0 (row.length+1) (Dw os nw row)),Bn p d y]:List D).length=3 from rfl),el];rfl
 have nn:∀b,Fa b (Ga o) .non=.ok (.AO (if b then o.isNone else !o.isNone)):=λb=>by cases b<;>cases o<;>rfl
 have ob:okN 8 (Ga o)=true:=by cases o<;>rfl
 have Ul:K3 "bool" (Ga o)=.ok (.AO false):=by cases o<;>rfl
 have X8:jQ (Fq ns cs ws os nw row O (.J (.int x)) (.J (Bn p d y)) (.J (JW os nw row)) (.J (Ga o)) (.J (Ga o)))=.ok ((o.isNone&&!o.isNone)||false):=kD (SC (Fc (D5 rfl rfl (nn true))) λ_=>Fc (D5 rfl rfl (nn false))) λ_=>Fc (D5 (x:=JW os nw row) (y:=JW os nw row) rfl rfl (hR (yF os nw row)));have hU:kM (Fq ns cs ws os nw row O (.J (.int x)) (.J (Bn p d y)) (.J (JW os nw row)) (.J (Ga o)) (.J (Ga o)))=.ok (!o.isNone&&(false||false)):=SC (Fc (D5 rfl rfl (nn false))) λ_=>kD (Fc (D5 rfl rfl (hR ob))) λ_=>Fc (acM rfl Ul);rw[show((o.isNone&&!o.isNone)||false)=false by cases o<;>rfl]at X8;rw[show(!o.isNone&&(false||false))=false by cases o<;>rfl]at hU;rw[bY,Cy,A9,BA,EE,Cy,AM,BA,EE,Cy,BD,BA,EE,Cy,Cp,BA,EE,JI X8,GS hU];exact⟨_,rfl,_,rfl,_,_,_,_,_,rfl⟩
def xo(ns:List Int)(AN:ns.length<=63):Vp [.Co (ns.map D.int)]=.ok (.v (.AO true)):=by
 obtain⟨cs,ws,os,nw,EA,⟨d,hd,AV⟩,F6,bn,B0⟩:=q0 ns;have D6:=EA.D6;have AK:1<=cs.length:=by have:=(L5.mp hd).1;lia
 obtain⟨x,ex⟩:=XH ns 1;have ex:Kk [.Co (ns.map D.int),.int 1]=.ok (.v (.int x)):=ex;obtain⟨row,B3,CU⟩:=abL x cs.length D6;have T7:=xD EA;have sr:=ab5 (os:=os) (nw:=nw) (row:=row) (by rw[F6.l];lia) (by rw[bn.l,F6.l]) B3;have F0:=vY cs ws EA;have Gf:∀d∈outs cs ws,d∈CO cs cs.length:=λd hd=>(List.mem_filter.mp hd).1;have Qa:0<(outs cs ws).length:=WF (List.mem_filter.mpr ⟨hd,by rw[qL AV];rfl⟩);generalize outs cs ws=O at T7 Gf Qa
 have BV:Xo=AP (K5 (FB [BC 1,BC 2,BC 3,BC 4]) (Bo 1 Sq (A2 (A0 0) (AE))))
  (AP (B5 5 (BH (FM 2 SL (A2 (A0 1) (A2 (A0 2) (AE))))))
  (AP (B5 6 (BH (FM 2 Rn (A2 (Bo 2 Kk (A2 (A0 0) (A2 (A4 (.int 1)) (AE)))) (A2 (Bm CS (A2 (A0 1) (AE))) (AE))))))
  (AP (B5 7 (BH (FM 3 SM (A2 (A0 3) (A2 (A0 4) (A2 (A0 6) (AE)))))))
  (AP (B5 8 (Rd "Net" 2 Ux (A2 (A0 1) (A2 (A0 2) (AE)))))
  (AP (EC (ER (BH (Kg (BH (C4 (A2 (A4 (.int 3)) (AE)))) (Fh JJ (A0 0) (FN (A4 (.int 16))) (FN (A4 (.int 18))))))) (BC 9) bY)
  (CC (A4 (.AO true)))))))):=rfl
 have EY:∀x0:D,Vp [x0]=(Xo [.J x0,.un,.un,.un,.un,.un,.un,.un,.un,.un,.un,.un,.un,.un]).bind outD:=λ_=>rfl;have AL:∀(b:Ao),AP (K5 (FB [BC 1,BC 2,BC 3,BC 4]) (Bo 1 Sq (A2 (A0 0) (AE)))) b [.J (.Co (ns.map D.int)),.un,.un,.un,.un,.un,.un,.un,.un,.un,.un,.un,.un,.un]=b [.J (.Co (ns.map D.int)),.J (.lst (CH cs)),.J (.lst (ws.map CI)),.J (By os),.J (By nw),.un,.un,.un,.un,.un,.un,.un,.un,.un]:=λb=>by rw[Cy,cQ,hY rfl B0];rfl
 have f9:∀(n:Nat)(f:List D->R CG)(m:Au)(ρ:AG)(ds A5:List D),m ρ=.ok ds->ds.length=n->f ds=.ok (.o A5)->BH (FM n f m) ρ=.ok (.lst A5):=λn f m ρ ds A5 A6 AA B4=>by rw[JL,cJ,A6,BA,if_pos AA,B4];rfl
 have B7:∀(b:Ao),AP (B5 5 (BH (FM 2 SL (A2 (A0 1) (A2 (A0 2) (AE)))))) b [.J (.Co (ns.map D.int)),.J (.lst (CH cs)),.J (.lst (ws.map CI)),.J (By os),.J (By nw),.un,.un,.un,.un,.un,.un,.un,.un,.un]=b [.J (.Co (ns.map D.int)),.J (.lst (CH cs)),.J (.lst (ws.map CI)),.J (By os),.J (By nw),.J (.lst (O.map AS)),.un,.un,.un,.un,.un,.un,.un,.un]:=λb=>Z4 (IC (f9 _ _ _ _ _ _ rfl rfl T7) rfl);have Dy:∀(b:Ao),AP (B5 6 (BH (FM 2 Rn (A2 (Bo 2 Kk (A2 (A0 0) (A2 (A4 (.int 1)) (AE)))) (A2 (Bm CS (A2 (A0 1) (AE))) (AE)))))) b [.J (.Co (ns.map D.int)),.J (.lst (CH cs)),.J (.lst (ws.map CI)),.J (By os),.J (By nw),.J (.lst (O.map AS)),.un,.un,.un,.un,.un,.un,.un,.un]=b [.J (.Co (ns.map D.int)),.J (.lst (CH cs)),.J (.lst (ws.map CI)),.J (By os),.J (By nw),.J (.lst (O.map AS)),.J (.lst (row.map B6)),.un,.un,.un,.un,.un,.un,.un]:=λb=>by
  refine Z4 (IC (f9 _ _ _ _ [.int x,.int (cs.length:Int)] _ ?_ rfl CU) rfl);have ln:Bm CS (A2 (A0 1) (AE)) [.J (.Co (ns.map D.int)),.J (.lst (CH cs)),.J (.lst (ws.map CI)),.J (By os),.J (By nw),.J (.lst (O.map AS)),.un,.un,.un,.un,.un,.un,.un,.un]=.ok (.int (cs.length:Int)):=by have:=RY (a:=A0 1) (ρ:=[.J (.Co (ns.map D.int)),.J (.lst (CH cs)),.J (.lst (ws.map CI)),.J (By os),.J (By nw),.J (.lst (O.map AS)),.un,.un,.un,.un,.un,.un,.un,.un]) (xs:=CH cs) rfl;rw[show(CH cs).length=cs.length by simp[CH]]at this;exact this
  rw[Eg,call2 rfl rfl ex,BA,Eg,ln];rfl
 have L7:∀(b:Ao),AP (B5 7 (BH (FM 3 SM (A2 (A0 3) (A2 (A0 4) (A2 (A0 6) (AE))))))) b [.J (.Co (ns.map D.int)),.J (.lst (CH cs)),.J (.lst (ws.map CI)),.J (By os),.J (By nw),.J (.lst (O.map AS)),.J (.lst (row.map B6)),.un,.un,.un,.un,.un,.un,.un]=b [.J (.Co (ns.map D.int)),.J (.lst (CH cs)),.J (.lst (ws.map CI)),.J (By os),.J (By nw),.J (.lst (O.map AS)),.J (.lst (row.map B6)),.J (.lst (C0 (row.length+1) (Dw os nw row))),.un,.un,.un,.un,.un,.un]:=λb=>Z4 (IC (f9 _ _ _ _ _ _ rfl rfl sr) rfl);have O8:∀(b:Ao),AP (B5 8 (Rd "Net" 2 Ux (A2 (A0 1) (A2 (A0 2) (AE))))) b [.J (.Co (ns.map D.int)),.J (.lst (CH cs)),.J (.lst (ws.map CI)),.J (By os),.J (By nw),.J (.lst (O.map AS)),.J (.lst (row.map B6)),.J (.lst (C0 (row.length+1) (Dw os nw row))),.un,.un,.un,.un,.un,.un]=b (Fq ns cs ws os nw row O .un .un .un .un .un):=λb=>by refine Z4 (IC (d:=CW cs ws) ?_ rfl);simp[F0,CW]
 obtain⟨ys,BO⟩:∃ys:List Int,ER (BH (Kg (BH (C4 (A2 (A4 (.int 3)) (AE)))) (Fh JJ (A0 0) (FN (A4 (.int 16))) (FN (A4 (.int 18)))))) (Fq ns cs ws os nw row O .un .un .un .un .un)=.ok (ys.map D.int):=by refine⟨3::Fz ns (some 16) (some 18),?_⟩;have s1:Fh JJ (A0 0) (FN (A4 (.int 16))) (FN (A4 (.int 18))) (Fq ns cs ws os nw row O .un .un .un .un .un)=.ok (.lst (Fz (ns.map D.int) (some 16) (some 18))):=rfl;have s2:BH (C4 (A2 (A4 (.int 3)) (AE))) (Fq ns cs ws os nw row O .un .un .un .un .un)=.ok (.lst [.int 3]):=rfl;have cl:=hp (ns.map D.int) (some 16) (some 18);rw[GU]at cl;unfold ER;rw[JL,o5,s2,BA,s1,BA,hW (by simp;lia),fG];rfl
 apply Ends.done;rw[EY,BV,AL,B7,Dy,L7,O8,Cy,LB];refine R2 D.int ys (λ_ ρ=>∃s9 E4 CM D9 Bq,ρ=Fq ns cs ws os nw row O s9 E4 CM D9 Bq) BO ⟨_,_,_,_,_,rfl⟩ ?_ ?_
 .rintro j x _ Bz ⟨s9,E4,CM,D9,Bq,rfl⟩;exact xH EA F6 bn B3 AK Gf Qa x E4 CM D9 Bq
 .rintro _ ⟨s9,E4,CM,D9,Bq,rfl⟩;exact⟨_,rfl,rfl⟩
end
section
variable(P:C2)(w:Bh){K:A_}{mg:Str->Option A8}(base:BP)(T:EH K mg)
include T
set_option maxHeartbeats 4000000
local macro_rules| `(tactic|trivial)=> `(tactic|repeat' first
 |refine aeJ _ ?_
 |refine ae2 ?_
 |exact aeR _
 |refine aeS ?_
 |refine adv ?_
 |refine ae0 ?_ ?_
 |refine ad5 ?_
 |refine aek ?_
 |exact aeA
 |refine ady ?_
 |refine aen _ ?_
 |refine adw ?_
 |refine aeC _ _ _ (Cg.Ct ‹_›) (by rfl) ?_ ?_ ?_ (λ_ _ _ _ _ _ _=>?_)
 |refine aeB _ _ _ (Cg.Ct ‹_›) (by rfl) ?_ ?_ ?_ (λ_ _ _ _ _ _ _=>?_)
 |exact ae_ _
 |refine adl ?_ ?_
 |exact adH
 |exact adm
 |refine aeD ?_ ?_
 |refine adI ?_ ?_ Cm
 |refine aeM ?_
 |refine adE ?_
 |exact ad2
 |refine aeK ?_ ?_ ?_
 |refine ad6 ‹_› (Ch.mono ‹_› (by decide)) ?_
 |exact aeL
 |refine adO ?_ ?_
 |refine aeY ?_
 |refine aes ?_
 |exact xY _ (Cg.Ct ‹_›)
 |refine adp ?_ ?_
 |refine ae6 (Ch.units ‹_›) ?_ ?_
 |refine adJ (EH.qH ‹_›) ?_
 |refine adD ?_ ?_
 |exact adS
 |refine aeI pR ?_ ?_ ?_
 |exact qI _ (hN:=of_decide_eq_true ( by kernel_rfl ))
 |refine afL (EH.ey ‹_›) ?_
 |refine aeo _ _ (by rfl) ?_ ?_ ?_ (λ_ _ _ _ _ _ _=>?_)
 |refine xA ?_ ?_
 |exact pn
 |refine af7 (Ch.units ‹_›) ?_ ?_
 |exact adu
 |refine afI ?_
 |refine aeu ?_
 |refine ael ‹_› (Ch.mono ‹_› (by decide)) ?_
 |refine af8 ?_
 |refine afD ?_ ?_
 |refine afJ ?_ ?_
 |refine oK (EH.Us ‹_›) ?_
 |refine af5 ?_ ?_
 |refine ae8 _ ?_
 |exact yU
 |refine yX rfl ?_
 |exact aet
 |refine aeE _ (Ch.units ‹_›) ?_ ?_
 |refine ad0 ?_ ?_ ?_
 |refine adQ (Ch.units ‹_›) ?_ ?_
 |refine adP ?_ ?_
 |refine ae1 pR ?_ ?_
 |refine aep (EH.X6 ‹_›) ?_
 |refine adn (λ_ _ _ _ _ _ _=>?_)
 |refine ads ?_ ?_
 |refine adq ‹_› (EH.qD ‹_›) ?_
 |refine adC (Ch.units ‹_›) ?_ ?_
 |refine aeg ?_ ?_
 |refine adF ?_ ?_ ?_
 |refine ad1 ?_ ?_ ?_
 |refine acy ?_ ?_
 |refine ad4 ?_ ?_
 |refine aem ?_ ?_
 |refine adG (Ch.units ‹_›) ?_ ?_
 |exact aeV _ (Cg.Ct ‹_›)
 |refine aeh (EH.jB ‹_›) ?_
 |refine ad7 ?_ ?_
 |refine adM ‹_› (Ch.mono ‹_› (by decide)) ?_ ?_
 |refine adR ?_
 |refine aeG (EH.Us ‹_›) ?_
 |refine acx _ ?_
 |refine oK (EH.jB ‹_›) ?_
 |refine adB (Ch.units ‹_›) ?_ ?_ (by intro _ _;rfl)
 |refine afA ?_ ?_
 |refine aef ?_
 |refine aeT _ (Ch.units ‹_›) ?_ ?_
 |refine ae5 (Ch.units ‹_›) ?_ ?_
 |refine aea _ ‹_› (Ch.mono ‹_› (by decide)) ?_
 |refine af6 ?_ ?_
 |refine aer (EH.X6 ‹_›) (EH.ey ‹_›) ?_
 |refine VK (acs _) (EH.UM ‹_›) (EH.qF ‹_›) (by kernel_rfl) ?_
 |refine VK (ac3 _) (EH.UM ‹_›) (EH.X6 ‹_›) (by kernel_rfl) ?_
 |refine ae4 (Ch.units ‹_›) ?_ ?_
 |refine aei ?_
 |refine aeZ (EH.fu ‹_›) ?_
 |exact VJ (EH.Qs ‹_›)
 |exact VJ (EH.Sy ‹_›)
 |refine af9 (Ch.units ‹_›) ?_ ?_
 |refine aeQ ?_
 |refine afM (EH.ey ‹_›) ?_
 |refine ae7 _ (EH.Us ‹_›) (Ch.units ‹_›) ?_ ?_
 |refine aeF ?_
 |exact aeH (EH.Us ‹_›)
 |refine adA (Ch.units ‹_›) ?_ ?_
 |refine adt ‹_› (EH.qE ‹_›) ?_
 |refine aeX ?_ ?_
 |refine aeN _ ?_ ?_
 |refine ae9 _ ?_
 |refine adU (EH.gT ‹_›) ?_
 |refine VK (acu _) (EH.UM ‹_›) (EH.gT ‹_›) (by kernel_rfl) ?_
 |refine adT ?_
 |refine ad8 ZY ZY ZV ZV ?_ ?_ ?_
 |exact VJ (EH.Tx ‹_›)
 |refine ae3 ZY ZY ZV ZV ?_ ?_ ?_
 |exact VJ (EH.UN ‹_›)
 |refine VK (ac5 _) (EH.UM ‹_›) (EH.fu ‹_›) (by kernel_rfl) ?_
 |refine afO ?_
 |refine aej ?_
 |refine af4 (Ch.units ‹_›) ?_ ?_
 |refine VK (ac4 _) (EH.UM ‹_›) (EH.ft ‹_›) (by kernel_rfl) ?_
 |refine afN ?_
 |exact VJ (EH.Sz ‹_›)
 |refine afP (EH.qK ‹_›) ?_
 |exact qJ _ _ (hN:=of_decide_eq_true ( by kernel_rfl ))
 |refine ad3 (EH.ft ‹_›) ?_
 |refine afG ?_
 |exact aee (EH.X9 ‹_›)
 |refine acz ?_ ?_
 |refine afF (EH.qG ‹_›) ?_
 |refine ad9 (Ch.units ‹_›) ?_ ?_
 |refine ado _ (EH.Us ‹_›) (Ch.units ‹_›) ?_ (by intro _ _;rfl)
 |refine aeb _ ?_
 |refine adL ‹_› (Ch.mono ‹_› (by decide)) ?_
 |refine adN ‹_› (Ch.mono ‹_› (by decide)) ?_
 |refine aeq (Ch.hd ‹_›) (EH.X6 ‹_›) ?_
 |refine acv (Ch.units ‹_›) ?_ ?_
 |refine aeW _ (Cg.Ct ‹_›) (Ch.units ‹_›) ?_ ?_
 |refine afH ?_
 |refine adK ‹_› (Ch.mono ‹_› (by decide)) ?_
 |refine aeO ?_
 |refine aeP ?_
 |refine afB ?_
 |refine afC ?_
 |refine acw ?_
 |refine afK ?_
 |refine afE ?_
 |refine aeU _ (Cg.Ct ‹_›) ?_
 |refine adz _ (Cg.Ct ‹_›) ?_
 |refine adx _ (Cg.Ct ‹_›) ?_)
def aL:E2 P w K mg base "_law_cell_at" 2 1 Kk:=by have h:=EK (P:=P) (w:=w) (mg:=mg) (base:=base) (k:=0) (m:=X0) T.rt abe;exact h (by intros;trivial)
def RX:E2 P w K mg base "_law_mixed" 2 1 FG:=by have h:=EK (P:=P) (w:=w) (mg:=mg) (base:=base) (k:=0) (m:=fj) T.s6 lx;exact h (by have:=lx;intros;trivial)
def wE:E2 P w K mg base "_law_counts" 1 2 Ss:=by have h:=EK (P:=P) (w:=w) (mg:=mg) (base:=base) (k:=1) (m:=X1) T.ru lm;exact h (by have:=lm;have:=RX P w base T;intros;trivial)
def jL:E2 P w K mg base "_law_doors" 1 1 Su:=by have h:=EK (P:=P) (w:=w) (mg:=mg) (base:=base) (k:=0) (m:=fg) T.rv lp;exact h (by have:=lp;intros;trivial)
def xd:E2 P w K mg base "_law_wires" 2 2 Ro:=by have h:=EK (P:=P) (w:=w) (mg:=mg) (base:=base) (k:=1) (m:=fq) T.ti nY;exact h (by have:=nY;have:=jL P w base T;have:=RX P w base T;intros;trivial)
def wF:E2 P w K mg base "_law_free_book" 2 1 Rk:=by have h:=EK (P:=P) (w:=w) (mg:=mg) (base:=base) (k:=0) (m:=fi) T.ry lr;exact h (by have:=lr;intros;trivial)
def xZ:E2 P w K mg base "_law_row" 3 2 Nz:=by have h:=EK (P:=P) (w:=w) (mg:=mg) (base:=base) (k:=1) (m:=fm) T.td mQ;exact h (by have:=mQ;have:=RX P w base T;intros;trivial)
def wC:E2 P w K mg base "_law_books" 3 3 PW:=by have h:=EK (P:=P) (w:=w) (mg:=mg) (base:=base) (k:=2) (m:=fe) T.rq lj;exact h (by have:=lj;have:=wF P w base T;have:=RX P w base T;have:=xZ P w base T;intros;trivial)
def wD:E2 P w K mg base "_law_both" 2 4 Sr:=by have h:=EK (P:=P) (w:=w) (mg:=mg) (base:=base) (k:=3) (m:=ff) T.rr ll;exact h (by have:=ll;have:=wC P w base T;have:=aL P w base T;have:=RX P w base T;intros;trivial)
def wB:E2 P w K mg base "_law_all" 1 5 Sq:=by have h:=EK (P:=P) (w:=w) (mg:=mg) (base:=base) (k:=4) (m:=fb) T.sX mO;exact h (by have:=mO;have:=wD P w base T;have:=aL P w base T;have:=wE P w base T;have:=xd P w base T;intros;trivial)
def jK:E2 P w K mg base "_law_beyond" 2 1 Vq:=by have h:=EK (P:=P) (w:=w) (mg:=mg) (base:=base) (k:=0) (m:=fc) T.rp mP;exact h (by have:=mP;intros;trivial)
def wH:E2 P w K mg base "_law_outer" 2 2 SL:=by have h:=EK (P:=P) (w:=w) (mg:=mg) (base:=base) (k:=1) (m:=fl) T.ta abf;exact h (by have:=jK P w base T;have:=jL P w base T;intros;trivial)
def xc:E2 P w K mg base "_law_some" 2 2 Rn:=by have h:=EK (P:=P) (w:=w) (mg:=mg) (base:=base) (k:=1) (m:=fp) T.th nX;exact h (by have:=nX;have:=RX P w base T;intros;trivial)
def xb:E2 P w K mg base "_law_shelves" 3 1 SM:=by have h:=EK (P:=P) (w:=w) (mg:=mg) (base:=base) (k:=0) (m:=fo) T.tg nW;exact h (by have:=nW;intros;trivial)
def w8:E2 P w K mg base "is_whole" 1 1 ba:=by have h:=EK (P:=P) (w:=w) (mg:=mg) (base:=base) (k:=0) (m:=fs) T.sT abb;exact h (by intros;trivial)
def Zv:E2 P w K mg base "is_whole_within" 3 2 Ri:=by have h:=EK (P:=P) (w:=w) (mg:=mg) (base:=base) (k:=1) (m:=f_) T.sU abd;exact h (by have:=w8 P w base T;intros;trivial)
def wV:E2 P w K mg base "are_counts" 1 3 So:=by have h:=EK (P:=P) (w:=w) (mg:=mg) (base:=base) (k:=2) (m:=fU) T.sJ abW;exact h (by have:=Zv P w base T;intros;trivial)
def jJ:E2 P w K mg base "is_pair" 1 1 Vn:=by have h:=EK (P:=P) (w:=w) (mg:=mg) (base:=base) (k:=0) (m:=gU) T.sP ab_;exact h (by intros;trivial)
def wZ:E2 P w K mg base "is_door_among" 2 3 Vm:=by have h:=EK (P:=P) (w:=w) (mg:=mg) (base:=base) (k:=2) (m:=fY) T.sO abZ;exact h (by have:=jJ P w base T;have:=Zv P w base T;intros;trivial)
def w9:E2 P w K mg base "is_wire_among" 2 4 ZF:=by have h:=EK (P:=P) (w:=w) (mg:=mg) (base:=base) (k:=3) (m:=fa) T.sV mL;exact h (by have:=mL;have:=wZ P w base T;have:=jJ P w base T;intros;trivial)
def wX:E2 P w K mg base "far_doors" 2 5 Rg:=by have h:=EK (P:=P) (w:=w) (mg:=mg) (base:=base) (k:=4) (m:=fV) T.sL mI;exact h (by have:=mI;have:=w9 P w base T;intros;trivial)
def wN:eO P w K mg base "Net" 2 6 Ux:=by have h:=aed (P:=P) (w:=w) (mg:=mg) (base:=base) (k:=5) (m:=Xh) T.sA abT;exact h (by have:=wV P w base T;have:=wX P w base T;intros;trivial)
def x_:E2 P w K mg base "_law_saying" 3 2 Rm:=by have h:=EK (P:=P) (w:=w) (mg:=mg) (base:=base) (k:=1) (m:=X4) T.te nU;exact h (by have:=nU;have:=RX P w base T;intros;trivial)
def xf:E2 P w K mg base "mixed" 3 1 ZG:=by have h:=EK (P:=P) (w:=w) (mg:=mg) (base:=base) (k:=0) (m:=ew) T.tj abg;exact h (by intros;trivial)
def xh:E2 P w K mg base "stages_of" 3 2 Vr:=by have h:=EK (P:=P) (w:=w) (mg:=mg) (base:=base) (k:=1) (m:=ez) T.tm abh;exact h (by have:=xf P w base T;intros;trivial)
def w_:E2 P w K mg base "is_pattern" 1 1 ZE:=by have h:=EK (P:=P) (w:=w) (mg:=mg) (base:=base) (k:=0) (m:=fZ) T.sQ aba;exact h (by intros;trivial)
def wY:E2 P w K mg base "is_address" 1 3 ZD:=by have h:=EK (P:=P) (w:=w) (mg:=mg) (base:=base) (k:=2) (m:=fX) T.sN abY;exact h (by have:=Zv P w base T;intros;trivial)
def jI:E2 P w K mg base "fits" 2 4 Rh:=by have h:=EK (P:=P) (w:=w) (mg:=mg) (base:=base) (k:=3) (m:=fW) T.sM abX;exact h (by have:=wY P w base T;have:=w_ P w base T;intros;trivial)
def wU:E2 P w K mg base "addresses" 1 5 Vl:=by have h:=EK (P:=P) (w:=w) (mg:=mg) (base:=base) (k:=4) (m:=Xk) T.sI abV;exact h (by have:=jI P w base T;intros;trivial)
def wO:P0 P w K mg base "Weaver" "behind" 1 1 M0:=by have h:=Zg (P:=P) (w:=w) (mg:=mg) (base:=base) (k:=0) (m:=SD) T.sB mC;exact h (by have:=mC;intros;trivial)
def wS:P0 P w K mg base "Weaver" "round_from" 1 2 Sm:=by have h:=Zg (P:=P) (w:=w) (mg:=mg) (base:=base) (k:=1) (m:=Xj) T.sF mF;exact h (by have:=mF;have:=wO P w base T;intros;trivial)
def wR:P0 P w K mg base "Weaver" "met" 0 3 Rf:=by have h:=Zg (P:=P) (w:=w) (mg:=mg) (base:=base) (k:=2) (m:=Xi) T.sE mE;exact h (by have:=mE;have:=wS P w base T;intros;trivial)
def wP:Wr P w K mg base "Weaver" "entered" 2 1 Lb:=by have h:=oL (P:=P) (w:=w) (mg:=mg) (base:=base) (k:=0) (m:=SE) T.sC mD;exact h (by have:=mD;intros;trivial)
def xi:E2 P w K mg base "taken" 3 5 ZH:=by have h:=EK (P:=P) (w:=w) (mg:=mg) (base:=base) (k:=4) (m:=f3) T.tn n_;exact h (by have:=n_;have:=jI P w base T;intros;trivial)
def wM:P0 P w K mg base "Net" "beyond" 1 1 UX:=by have h:=Zg (P:=P) (w:=w) (mg:=mg) (base:=base) (k:=0) (m:=fT) T.s7 abS;exact h (by intros;trivial)
def xg:E2 P w K mg base "onward" 4 6 O1:=by have h:=EK (P:=P) (w:=w) (mg:=mg) (base:=base) (k:=5) (m:=Sw) T.tl nZ;exact h (by have:=nZ;have:=wM P w base T;have:=xi P w base T;intros;trivial)
def wT:Wr P w K mg base "Weaver" "weave" 1 7 Sn:=by have h:=oL (P:=P) (w:=w) (mg:=mg) (base:=base) (k:=6) (m:=SJ) T.sG mG;exact h (by have:=mG;have:=wP P w base T;have:=xg P w base T;intros;trivial)
def wQ:eP P w K mg base "Weaver" 5 8 Ny:=by have h:=aec (P:=P) (w:=w) (mg:=mg) (base:=base) (k:=7) (m:=UL) T.sD abU;exact h (by have:=wT P w base T;intros;trivial)
def wa:E2 P w K mg base "is_so_of" 3 1 Vo:=by have h:=EK (P:=P) (w:=w) (mg:=mg) (base:=base) (k:=0) (m:=Xm) T.sR mJ;exact h (by have:=mJ;intros;trivial)
def wb:E2 P w K mg base "is_so_throughout" 4 10 Mq:=by have h:=EK (P:=P) (w:=w) (mg:=mg) (base:=base) (k:=9) (m:=Xn) T.sS mK;exact h (by have:=mK;have:=wQ P w base T;have:=wR P w base T;have:=wa P w base T;intros;trivial)
def wW:E2 P w K mg base "broken_throughout" 5 11 Sp:=by have h:=EK (P:=P) (w:=w) (mg:=mg) (base:=base) (k:=10) (m:=Xl) T.sK mH;exact h (by have:=mH;have:=wU P w base T;have:=wb P w base T;have:=xh P w base T;intros;trivial)
def jM:E2 P w K mg base "_law_fits" 2 1 Rj:=by have h:=EK (P:=P) (w:=w) (mg:=mg) (base:=base) (k:=0) (m:=fh) T.rx lq;exact h (by have:=lq;intros;trivial)
def jN:E2 P w K mg base "_law_next" 4 2 Lc:=by have h:=EK (P:=P) (w:=w) (mg:=mg) (base:=base) (k:=1) (m:=fk) T.sY ly;exact h (by have:=ly;have:=jK P w base T;have:=jM P w base T;intros;trivial)
def wc:E2 P w K mg base "_law_road" 4 3 Rl:=by have h:=EK (P:=P) (w:=w) (mg:=mg) (base:=base) (k:=2) (m:=X3) T.tc lz;exact h (by have:=lz;have:=jN P w base T;intros;trivial)
def xa:E2 P w K mg base "_law_searched" 5 4 O0:=by have h:=EK (P:=P) (w:=w) (mg:=mg) (base:=base) (k:=3) (m:=X5) T.tf nV;exact h (by have:=nV;have:=jN P w base T;have:=wc P w base T;intros;trivial)
def wA:E2 P w K mg base "_law_against" 4 5 PV:=by have h:=EK (P:=P) (w:=w) (mg:=mg) (base:=base) (k:=4) (m:=Wz) T.sW mN;exact h (by have:=mN;have:=xa P w base T;intros;trivial)
def wG:E2 P w K mg base "_law_least" 3 6 SK:=by have h:=EK (P:=P) (w:=w) (mg:=mg) (base:=base) (k:=5) (m:=X2) T.rz lu;exact h (by have:=lu;have:=wA P w base T;have:=jM P w base T;intros;trivial)
def pp(f:A7)(CJ:A8)(A:CR)(outer:List Env)(s:AQ)(H:AC)(E:DP)(B3:Ch 11 (A.deeper (NL "law" (Bv OB) s.heap.objs.size f CJ)))(G0 H0:AC):Jy (JR Gs P w K mg base ["_law_script","_law_counts_here","_law_wires_here","_law_old","_law_new","_law_outer_here","_law_some_here","_law_shelves_here","_law_net","_law_cell","_law_saying_here","_law_handed","_law_found","_law_due"] "law" (Bv OB) f CJ A outer s H E).Kp (Ge K G0 H0) (GR OB) Xo:=by have:=mM;have:=wN P w base T;have:=wW P w base T;have:=wB P w base T;have:=aL P w base T;have:=wG P w base T;have:=wH P w base T;have:=x_ P w base T;have:=xb P w base T;have:=xc P w base T;trivial
end
end IW
namespace IW
open PySem PySem.Spec C1 CT
def cG{P:List A8->Prop}(h:P []):∀us:List A8,us.length=0->P us
 |[],_=>h
def cH{P:List A8->Prop}{n:Nat}(h:∀a us,us.length=n->P (a::us)):∀us:List A8,us.length=n+1->P us
 |a::us,e=>h a us (Nat.succ.inj e)
section
variable{K:A_}{h:BP}{mg:Str->Option A8}{x qual Ae:Str}{C f:A7}{st:Bb}{Aq Ap:List Str}{EN an:Option A7}{CE:Array (Option A8)}{I9 Dl XN pm cd Dr:A8}
def ts(X:K.In h)(G:h.Ns FE mg)(a:Lj K FE x=some (some (.ref f)))(l:K.lookup f=some ⟨I9,EN,.func (J0 x x (KX st) (GR st) (Bv st) .none Dl XN pm an cd Dr),CE⟩)(c:Oh K cd x=true)(k:Kv K (.ref f)=true)(b:∀(Dl doc pm:A8)(an:Option A7)(CJ Dr:A8)(us:List A8),us.length=Aq.length->S2 (J0 x x (KX st) (GR st) (Bv st) .none Dl doc pm an CJ Dr) ⟨us,[]⟩=pure (Aq.zip us):=by intro _ _ _ _ _ _;(repeat refine cH λ_=>?_);exact cG rfl):Dt K mg x st Aq:=tr (st:=st) X G a l c k b
def xX(n:Lj K FE Ae=some (some (.ref C)))(g1:Rv K C Str.empty=true)(g2:Ti K C=true)(g3:WO K C=true)(g4:Jn K (.ref C) "__setattr__"=some (some (.builtin "object.__setattr__")))(a:Jn K (.ref C) x=some (some (.ref f)))(l:K.lookup f=some ⟨I9,EN,.func (J0 x qual (KX st) (GR st) (Bv st) .none Dl XN pm an cd Dr),CE⟩)(c:Oh K cd qual=true)(k:Kv K (.ref f)=true)(i:Ts K (.ref f)=true)(b:∀(Dl doc pm:A8)(an:Option A7)(CJ Dr:A8)(us:List A8),us.length=Aq.length->S2 (J0 x qual (KX st) (GR st) (Bv st) .none Dl doc pm an CJ Dr) ⟨us,[]⟩=pure (Aq.zip us):=by intro _ _ _ _ _ _;(repeat refine cH λ_=>?_);exact cG rfl):Nl K Ae x qual st Aq:=⟨⟨C,f,_,n,⟨g1,g2,g3,g4⟩,⟨a,i,k⟩,Q_ (st:=st) l c k,(Q_ (st:=st) l c k).binds b⟩⟩
def xR(X:K.In h)(G:h.Ns FE mg)(n:Lj K FE Ae=some (some (.ref C)))(mk:dm K C=true)(kc:Kv K (.ref C)=true)(a:Jn K (.ref C) "__init__"=some (some (.ref f)))(l:K.lookup f=some ⟨I9,EN,.func (J0 "__init__" qual (KX st) (GR st) (Bv st) .none Dl XN pm an cd Dr),CE⟩)(c:Oh K cd qual=true)(k:Kv K (.ref f)=true)(i:Ts K (.ref f)=true)(b:∀(Dl doc pm:A8)(an:Option A7)(CJ Dr:A8)(us:List A8),us.length=Aq.length->S2 (J0 "__init__" qual (KX st) (GR st) (Bv st) .none Dl doc pm an CJ Dr) ⟨us,[]⟩=pure (Aq.zip us):=by intro _ _ _ _ _ _;(repeat refine cH λ_=>?_);exact cG rfl):InK K mg Ae qual st Aq:=⟨⟨C,f,_,n,⟨mk,a,i,kc⟩,Q_ (st:=st) l c k,QS X G n,(Q_ (st:=st) l c k).binds b⟩⟩
def rg(n:Lj K FE Ae=some (some (.ref C)))(g1:Rv K C Str.empty=true)(g2:Ti K C=true)(g3:WO K C=true)(g4:Jn K (.ref C) "__setattr__"=some (some (.builtin "object.__setattr__")))(u:∀f∈Ap,Jn K (.ref C) f=some none):Mm K Ae Ap:=⟨⟨C,n,⟨g1,g2,g3,g4⟩,u⟩⟩
def rh{i:Int}{t:Tok}(X:K.In h)(G:h.Ns FE mg)(z:Lj K FE x=some (some (.int i t))):LG K mg x (.int i):=⟨⟨_,_,QS X G z,VM _ _,λ_=>UF _⟩⟩
def rn{t0:Tok}{m:Nat}(X:K.In h)(G:h.Ns FE mg)(z:Lj K FE "RING"=some (some (.ref C)))(y:K.lookup C=some ⟨.type "tuple",EN,.seq #[.str (Aw "ring") t0] m,CE⟩):LG K mg "RING" X9:=⟨⟨.ref C,_,QS X G z,rfl,cC y (W8 rfl) (.cons (Z0 _ _) (.nil)) λ_=>.cons (XY _) (.nil)⟩⟩
def ro{t0 t1 Do:Tok}{m:Nat}(X:K.In h)(G:h.Ns FE mg)(z:Lj K FE "SIGNS"=some (some (.ref C)))(y:K.lookup C=some ⟨.type "tuple",EN,.seq #[.str (Aw "0") t0,.str (Aw "1") t1,.str (Aw "x") Do] m,CE⟩):LG K mg "SIGNS" Sz:=⟨⟨.ref C,_,QS X G z,rfl,cC y (W8 rfl) (.cons (Z0 _ _) (.cons (Z0 _ _) (.cons (Z0 _ _) (.nil)))) λ_=>.cons (XY _) (.cons (XY _) (.cons (XY _) (.nil)))⟩⟩
def r0{t0 t1 Do t3:Tok}{m:Nat}(X:K.In h)(G:h.Ns FE mg)(z:Lj K FE "WORTHS"=some (some (.ref C)))(y:K.lookup C=some ⟨.type "tuple",EN,.seq #[.int 8 t0,.int 4 t1,.int 2 Do,.int 1 t3] m,CE⟩):LG K mg "WORTHS" Qs:=⟨⟨.ref C,_,QS X G z,rfl,cC y (W8 rfl) (.cons (VM _ _) (.cons (VM _ _) (.cons (VM _ _) (.cons (VM _ _) (.nil))))) λ_=>.cons (UF _) (.cons (UF _) (.cons (UF _) (.cons (UF _) (.nil))))⟩⟩
set_option maxHeartbeats 4000000 in
def all_mk{l:dn}{w:Bh}{GA:A7}(X:K.In h)(G:h.Ns FE mg)(uc:mg "law"=some (.ref GA))(T:EH K mg)(a:Lj K FE "law"=some (some (.ref f)))(lk:K.lookup f=some ⟨I9,EN,.func (J0 "law" "law" (KX OB) (GR OB) (Bv OB) .none Dl XN pm an cd Dr),CE⟩)(c:Oh K cd "law"=true)(k:Kv K (.ref f)=true) :
  ∃fd:G5,(∀(s:AQ)(v:A8),BindsTo s fd ⟨[v],[]⟩ [("_law_script",v)])/\∀base:BP,K.In base->base.Ns FE mg->GX l.prog w K mg base Gs 12 GA fd ["_law_script"] (OE K 1 Vp):=by
 have e:=uc.symm.trans (QS X G a);cases e;exact⟨_,λs v=>.of_eq rfl,λbase _ _=>(Q_ (st:=OB) lk c k).ok mM cn λCJ A outer s H vs Q E B3 AJ=>let⟨G,Aj⟩:=f6 AJ;⟨_,(pp _ _ _ T f CJ A outer s H E B3 G H).1,Aj⟩⟩
end
def adW {l:dn} {q:C2} {loose:List Str} {S7:(Str->Option A8)->BP->Prop} {Pg:Bh->BP->Prop} {d:DefRec} {K:Params->A_} (AV:l.most=some 63) (Ub:d.params.defaults=[])(a_:∀(w:Bh)(h:BP),Pg w h->(K w.params).In h)(F:∀(w:Bh)(mg:Str->Option A8)(GA:A7)(h:BP),(K w.params).In h->h.Ns FE mg->mg d.name=some (.ref GA)->
    ∃fd:G5,(∀(s:AQ)(u:A8),BindsTo s fd ⟨[u],[]⟩ [("_law_script",u)])/\∀base:BP,(K w.params).In base->base.Ns FE mg->GX l.prog w (K w.params) mg base Gs 12 GA fd ["_law_script"] (OE (K w.params) 1 Vp)) :
  PySem.W.WalkO q loose S7 Pg l.row.toRowW d [] (λf vs=>PySem.call f vs):=
 C1.adX (n:=63) (k:=12) (x:="_law_script") (CX:=λ_=>Gs) (sp:=λw=>OE (K w.params) 1 Vp) AV (by decide) Ub ⟨rfl,by decide,by decide⟩ a_ F (λw H a ns AN _ Gg=>xn Gg (xo ns AN) λ_ _ _=>False) λ_ _ _ _ _ z=>z
end IW
end
namespace PySem.W.Fast
def tw4452770025520100257:=0
def tw16415882853137689942:=0
def tw13586844422458015082:=0
def tw17531342243853597527:=0
def tw11036103840267764219:=0
def tw10665144679992484867:=0
def tw10572026543946200532:=0
def tw10574500282495431464:=0
def tw8719844192398144550:=0
def tw13515193620890484338:=0
def tw823731046457371189:=0
def tw12774917487256351832:=0
def tw13648888312017833588:=0
def tw3356145668098285341:=0
def tw8214858847194107621:=0
def tw12351574774794753426:=0
def tw16863012650348445667:=0
def tw17877143895261372209:=0
def tw12835386719065381022:=0
def tw3793975310963956036:=0
def tw13074908980135430776:=0
def tw12574206804803970014:=0
def tw5393685648366913943:=0
def tw16857068602024330475:=0
def tw591103390644831088:=0
def tw16229739238892550328:=0
def tw2881174053690826800:=0
def tw14018486794499860911:=0
def tw10572549904973276301:=0
def tw2863865505634368552:=0
def tw11192547343881151975:=0
def tw16357422112527558486:=0
def tw10220643899485083883:=0
def tw5335276391454502363:=0
def tw657571895744398206:=0
def tw569720295812405059:=0
def tw2292385450056798475:=0
def tw12902663836992993873:=0
def tw11004659767657942725:=0
def tw4317859496173093300:=0
def tw11726037816868518804:=0
def tw4420194555120323445:=0
def tw14409430476572482022:=0
def tw2445690595445494989:=0
def tw13978797122955463930:=0
def tw11487722107350306091:=0
def tw12437440941252467133:=0
def tw1900936349022298753:=0
def tw17460751827329107854:=0
def tw14489836578880148753:=0
def tw5059782725529386294:=0
def tw13141859916998585738:=0
def tw8860567077227016566:=0
def tw10568355481026268546:=0
def tw168633992071259866:=0
def tw12994345568041135744:=0
def tw7261624877766988399:=0
def tw17789972002889799658:=0
def tw12572338966284153201:=0
def tw8541986078283467947:=0
def tw7550499714326084476:=0
def tw18280311918876806051:=0
def tw9424525814548818226:=0
def tw17169059406804708414:=0
def tw3831608194818537544:=0
def tw7571490384060432235:=0
def tw3179121483496431380:=0
def tw14866562779490272618:=0
def tw3341985055435551243:=0
def tw6632103853991057314:=0
def tw10742269392956539179:=0
def tw12012729314571741382:=0
def tw18056748682826848243:=0
def tw5381455202443451682:=0
def tw11679226964727551674:=0
def tw9904123372775364668:=0
def tw3679838460932483043:=0
def tw9534581857051816263:=0
def tw6776571540720771761:=0
def tw1605965870981863711:=0
def tw12534980156747633444:=0
def tw5820680911242974986:=0
def tw6600182381828522696:=0
def tw14241093407589595383:=0
def tw14366605181571158542:=0
def tw8586576515359844392:=0
def tw11258471786451950155:=0
def tw9791446689425720969:=0
def tw3640218655681615459:=0
def tw8337256266536938610:=0
def tw14699946011167881112:=0
def tw16004156800362738233:=0
def tw5024926037186085876:=0
def tw5490637946882182678:=0
def tw18436944784349958806:=0
end PySem.W.Fast
open PySem PySem.W PyProof.Rows C1 CT IW
set_option maxRecDepth 100000 in
set_option maxHeartbeats 0 in
theorem PySem.Challenge.cw_nohalfway_k39_throughout_holds : PySem.Challenge.rw_nohalfway_k39_throughout.Holds := by
 w_on;o_law;k_head;(case hw=>w_witness2)
 k_fill
 refine IW.adW (l:=PySem.Challenge.rw_nohalfway_k39_throughout) rfl rfl (λw h Y=>PySem.W.kIn_of Y) ?F
 case F=>
  intro w mg GA h IM G Ue
  refine' IW.all_mk IM G Ue ?T ?ya ?yl ?yc ?yk
  (case T=>constructor<;>first
    |(refine' IW.ts IM G ?a ?l ?c ?k;(case a=>k_is);(case l=>k_is);(case c=>k_is);(case k=>k_is))
    |(refine' IW.xX ?n ?g1 ?g2 ?g3 ?g4 ?a ?l ?c ?k ?i;(case n=>k_is);(case g1=>k_is);(case g2=>k_is);(case g3=>k_is);(case g4=>k_is);(case a=>k_is);(case l=>k_is);(case c=>k_is);(case k=>k_is);(case i=>k_is))
    |(refine' IW.xR IM G ?n ?mk ?kc ?a ?l ?c ?k ?i;(case n=>k_is);(case mk=>k_is);(case kc=>k_is);(case a=>k_is);(case l=>k_is);(case c=>k_is);(case k=>k_is);(case i=>k_is))
    |(refine' IW.rg ?n ?g1 ?g2 ?g3 ?g4 ?u;(case n=>k_is);(case g1=>k_is);(case g2=>k_is);(case g3=>k_is);(case g4=>k_is);(case u=>(repeat' first|exact λ_ h=>absurd h NJ|refine List.forall_mem_cons.2 ⟨?_,?_⟩|k_is)))
    |(refine' IW.rh IM G ?z;(case z=>k_is))
    |(refine' PySem.W.mg_none_of IM G ?a;(case a=>k_is))
    |(refine' IW.rn IM G ?z ?y;(case z=>k_is);(case y=>k_is))
    |(refine' IW.ro IM G ?z ?y;(case z=>k_is);(case y=>k_is))
    |(refine' IW.r0 IM G ?z ?y;(case z=>k_is);(case y=>k_is)))
  case ya|yl|yc|yk=>k_is
